/- Walks of the document's fields: Read, All. -/
import Derived.Test.YtcbgknlklpandaaProO
import Derived.Test.YtcbgknlklpandaaProY
import Derived.Test.YtcbgknlklpandaaProZa
import Derived.Test.YtcbgknlklpandaaProZb
import Derived.Test.YtcbgknlklpandaaProZc
import Derived.Test.YtcbgknlklpandaaProQa
namespace Go.Proofs.Ytcbgknlklpandaa
open Go.RowKit Go.Sort

theorem rread8_any {w : World} {v : Value} {b : List Nat} (hK : KL .u8 w v b) (hb : ∀ x ∈ b, x < 256) (hl : b.length ≤ 1000000) : Calls Try.prog 40 #[v] w (R8Post b w) := by
  by_cases he : (rd b).2.2 = 0
  · by_cases hE : (rd b).1 / 8 < 1 ∨ 536870911 < (rd b).1 / 8
    · exact rr_b hK hb hl he hE
    · cases hk : kdB (((rd b).1 % 8 : Nat) : Int)
      · exact rr_c hK hb hl he hE hk
      · have hky := rdF_k hE hk
        rw [kdB_iff] at hk
        by_cases h0 : (rd b).1 % 8 = 0
        · exact rr_d hK hb hl he hE hky h0
        · by_cases h2 : (rd b).1 % 8 = 2
          · by_cases hz : (rd (b.drop (rd b).2.1)).2.2 = 0
            · by_cases hn : b.length - ((rd b).2.1 + (rd (b.drop (rd b).2.1)).2.1) < (rd (b.drop (rd b).2.1)).1
              · exact rr_e2 hK hb hl he hE hky h2 hz hn
              · exact rr_e3 hK hb hl he hE hky h2 hz hn
            · exact rr_e1 hK hb hl he hE hky h2 hz
          · by_cases h1 : (rd b).1 % 8 = 1
            · exact rr_f hK hb hl he hE hky h1
            · exact rr_g hK hb hl he hE hky (by omega)
  · exact rr_a hK hb hl he
def RaPost8 (b : List Nat) (w : World) (e : Ending) (w' : World) : Prop := ∃ u, e = .returned (.tuple #[u, .int .i64 ((alD b).2.1 : Int), .int .i64 ((alD b).2.2 : Int)]) ∧ RL8 w' u (alD b).1 ∧ Below w.heap.size w w'
set_option maxRecDepth 100000 in
set_option maxHeartbeats 4000000 in
theorem rall8_any {w : World} {v : Value} {b : List Nat} (hK : KL .u8 w v b) (hb : ∀ x ∈ b, x < 256) (hl : b.length ≤ 10000) : Calls Try.prog 43 #[v] w (RaPost8 b w) := by
  have hmx : Try.prog.follows .mixedOrders = true := by kernel_rfl
  obtain ⟨i0, hi, hz0, hz1, hz2⟩ := info_parts infoD
  have HK := Lib.hid hK
  have HBd := Lib.hid hb
  obtain ⟨q, c, rfl, hlc, _⟩ := hK
  clear hb
  go_enter Try.func43, Try.ntmps43
  go_wp2_with fail
  go_loopg [5, 6] (b.length + 1) (fun gk u x wx => ∃ (i : Nat) (acc : List Fd), x = .int .i64 (i : Int) ∧ i ≤ b.length ∧ b.length < i + gk ∧ acc.length ≤ i ∧ Hid (alR gk b i acc = alD b) ∧ Hid (wx.ownsRow w.heap.size 81 4 u acc.length (dcells acc) ∧ Below w.heap.size w wx))
  case atStart => exact ⟨0, [], rfl, Nat.zero_le _, by omega, Nat.zero_le _, Lib.hid rfl, Lib.hid ⟨World.ownsRow_nil _ _ _ _, Below.refl _ _⟩⟩
  case round =>
    obtain ⟨i, acc, rfl, hib, hg, ha, HE, HS⟩ := hrel
    cases gk with
    | zero => omega
    | succ gr =>
      by_cases hlt : i < b.length
      · have hiz : (i : Int) < (b.length : Int) := by omega
        have hiz2 : (i : Int) ≤ (b.length : Int) := by omega
        obtain ⟨g, o, rfl, hic, hKd⟩ := (HK.out.keep HS.out.2).drop hlt
        have y3 : ¬ i = c := by omega
        have y4 : ¬ c = i := by omega
        have y5 : ¬ c - i = 0 := by omega
        have y6 : (i : Int) ≤ (c : Int) := by omega
        have y7 : (b.length : Int) ≤ (c : Int) := by omega
        have HRd := Lib.hid (rread8_any hKd (fun x hx => HBd.out x (List.mem_of_mem_drop hx)) (by rw [List.length_drop]; omega))
        have HSt : Hid ((rdF (b.drop i)).2.2 = 0 → 0 < (rdF (b.drop i)).2.1 ∧ i + (rdF (b.drop i)).2.1 ≤ b.length) := Lib.hid (fun h => by
          have hr : rdF (b.drop i) = ((rdF (b.drop i)).1, (rdF (b.drop i)).2.1, 0) := by rw [← h]
          obtain ⟨_, k1, k2, _⟩ := rdF_ok (fun x hx => HBd.out x (List.mem_of_mem_drop hx)) hr
          rw [List.length_drop] at k2
          exact ⟨k1, by omega⟩)
        have HE2 : Hid ((if (rdF (b.drop i)).2.2 = 0 then alR gr b (i + (rdF (b.drop i)).2.1) (acc ++ [(rdF (b.drop i)).1]) else ([], i, (rdF (b.drop i)).2.2)) = alD b) := Lib.hid (by have h := HE.out; rw [alR, if_pos hlt] at h; exact h)
        unfold R8Post at HRd
        generalize (rdF (b.drop i)).1 = f at *
        generalize (rdF (b.drop i)).2.1 = k at *
        generalize (rdF (b.drop i)).2.2 = e at *
        generalize hbb : bst f.b = bb at *
        have HBb := Lib.hid hbb
        have HC : Hid (celD f = [.int .i64 f.num, .int .i64 f.kind, .int .u64 (f.n : Int), .string bb]) := Lib.hid (by unfold celD; rw [hbb])
        clear hKd HE hbb
        by_cases he : e = 0
        · subst he
          have HE3 := HE2.out
          rw [if_pos rfl] at HE3
          have HE4 := Lib.hid HE3
          obtain ⟨k1, k2⟩ := HSt.out rfl
          have xk : IntKind.i64.wrap ((i : Int) + (k : Int)) = ((i + k : Nat) : Int) := by rw [IntWalk.i64_in _ (by omega)]; omega
          clear HE2 HSt HE3
          go_upto_region 7 with (go_at_call 40; refine HRd.out.mono ?_; rintro e w1 ⟨rfl, hb1⟩; have HO1 := Lib.hid (World.ownsRow.alloc (w := w1) (own_keepB hb1 HS.out.1) (.cells #[.int .i64 f.num, .int .i64 f.kind, .int .u64 (f.n : Int), .string bb] 81)); have HB1 := Lib.hid (below_after (below_after HS.out.2 hb1) (below_alloc w1 (.cells #[.int .i64 f.num, .int .i64 f.kind, .int .u64 (f.n : Int), .string bb] 81))); have HF1 := Lib.hid (F4.new w1 81 (.int .i64 f.num) (.int .i64 f.kind) (.int .u64 (f.n : Int)) (.string bb)); clear hb1 HS)
          generalize w1.alloc (.cells #[.int .i64 f.num, .int .i64 f.kind, .int .u64 (f.n : Int), .string bb] 81) = w2 at *
          obtain ⟨c0, c1, c2, c3⟩ := HF1.out.cells
          have HO2 := Lib.hid (World.ownsRow.alloc (w := w2) HO1.out (.cells #[.int .i64 f.num, .int .i64 f.kind, .int .u64 (f.n : Int), .string bb] 81))
          have HB2 := Lib.hid (below_after HB1.out (below_alloc w2 (.cells #[.int .i64 f.num, .int .i64 f.kind, .int .u64 (f.n : Int), .string bb] 81)))
          have hsz := HB2.out.size
          have hal : acc.length ≤ 10000 := by omega
          have HOne : Hid (∀ u ∈ ([.int .i64 f.num, .int .i64 f.kind, .int .u64 (f.n : Int), .string bb] : List Value), u.oneCell' = true) := Lib.hid (by intro u hu; simp at hu; rcases hu with rfl | rfl | rfl | rfl <;> rfl)
          go_wp2_with (at_builtin; refine wpList_append_srcO rfl (.tmp 26) (.tmp 28) 68 rfl w.heap.size 81 i0 (.agg #[.int .i64 0, .int .i64 0, .int .u64 0, .string ⟨#[]⟩]) 4 40 Try.underlying68 hi hz0 hz1 hz2 rfl (by decide) _ acc.length (dcells acc) rfl HO2.out _ 1 ([.int .i64 f.num, .int .i64 f.kind, .int .u64 (f.n : Int), .string bb]) rfl (new_src4 _ _ _ _ _ _) (by rfl) HOne.out (by unfold maxLen; omega) (by omega) hsz ?_; intro v3 w3 ho2 hg2; (have HF3 : Hid (w3.ownsRow w.heap.size 81 4 v3 (acc ++ [f]).length (dcells (acc ++ [f])) ∧ Below w.heap.size w w3) := Lib.hid ⟨by rw [dcells_snoc, HC.out, List.length_append]; exact ho2, HB2.out.grown hg2 HB2.out.size (fun k e => (own_block HO2.out e).1)⟩); clear ho2 hg2)
          go_roundg gr
          case measure => omega
          case rel => exact ⟨i + k, acc ++ [f], rfl, k2, by omega, by rw [List.length_append]; simp; omega, HE4, HF3⟩
        · have hez : ¬ (e : Int) = 0 := by omega
          have HE3 := HE2.out
          rw [if_neg he] at HE3
          have HE4 := Lib.hid HE3
          clear HE2 HSt HE3
          go_wp2_with (go_at_call 40; refine HRd.out.mono ?_; rintro e w1 ⟨rfl, hb1⟩; have HB1 := Lib.hid (below_after (below_after HS.out.2 hb1) (below_alloc w1 (.cells #[.int .i64 f.num, .int .i64 f.kind, .int .u64 (f.n : Int), .string bb] 81))); clear hb1)
          exact bodyPost_ret (v := .tuple #[.slice none 0 0, .int .i64 (i : Int), .int .i64 (e : Int)]) (by simp [results, Try.results43, go_sem]) rfl ⟨_, by rw [← HE4.out], by rw [← HE4.out]; exact ⟨none, 0, rfl, Nat.le_refl _, fun i hi => absurd hi (by simp)⟩, HB1.out⟩
      · have hiz : ¬ (i : Int) < (b.length : Int) := by omega
        have HE2 : Hid ((acc, 0, 0) = alD b) := Lib.hid (by have h := HE.out; rw [alR, if_neg hlt] at h; exact h)
        have HF : Hid (RaPost8 b w (.returned (.tuple #[u5, .int .i64 0, .int .i64 0])) wr) := Lib.hid ⟨u5, by rw [← HE2.out]; rfl, by rw [← HE2.out]; exact own_rl HS.out.1, HS.out.2⟩
        clear HE HS
        go_wp2_with fail
        exact bodyPost_ret (v := .tuple #[u5, .int .i64 0, .int .i64 0]) (by simp [results, Try.results43, go_sem]) rfl HF.out
end Go.Proofs.Ytcbgknlklpandaa
