/- Walks of the document's own heap: Drop. -/
import Derived.Test.YtbdmmgplpndobaaRef5P
namespace Go.Proofs.Ytbdmmgplpndobaa
open Go.RowKit Go.Sort Go.Deep

theorem erase_at : ∀ {L : List E3} {k : Nat} {e : E3} (h : k < L.length), (∀ j (hj : j < L.length), j < k → L[j] ≠ e) → L[k] = e → L.take k ++ L.drop (k + 1) = L.erase e
  | [], _, _, h, _, _ => absurd h (by simp)
  | a :: L, 0, e, _, _, hk => by
    have : a = e := hk
    subst this
    simp
  | a :: L, k + 1, e, h, hn, hk => by
    have ha : a ≠ e := hn 0 (by simp) (by omega)
    have := erase_at (L := L) (k := k) (e := e) (by simpa using h) (fun j hj hjk => by
      have := hn (j + 1) (by simpa using hj) (by omega)
      simpa using this) (by simpa using hk)
    rw [List.erase_cons_tail (by simpa using ha), ← this]
    simp
theorem below_dalloc {w W : World} {o : Obj} (h : Below w.heap.size w W) : Below w.heap.size w (W.alloc o) := h.alloc h.size o
def D5Post (e : E3) (L : List E3) (v : Value) (w : World) (en : Ending) (w' : World) : Prop :=
  Below w.heap.size w w' ∧ ((e ∉ L ∧ en = .returned (.tuple #[v, .bool false])) ∨ (e ∈ L ∧ ∃ u, en = .returned (.tuple #[u, .bool true]) ∧ w'.ownsRow w.heap.size 36 3 u (L.erase e).length (enCells (L.erase e))))
set_option maxRecDepth 100000 in
set_option maxHeartbeats 4000000 in
theorem r5drop_any {w : World} {hb g mb : Nat} {v : Value} {L : List E3} (hI : EI w hb g mb v L) (hL : L.length ≤ 1000) (e : E3) : Calls Try.prog 9 #[v, encE3 e] w (D5Post e L v w) := by
  have hmx : Try.prog.follows .mixedOrders = true := by kernel_rfl
  obtain ⟨i0, hi, hz0, hz1, hz2⟩ := info_parts infoR5
  obtain ⟨e1, e2, e3⟩ := e
  have HSr := Lib.hid hI.srcO
  have HI := Lib.hid hI
  obtain ⟨q, c, rfl, hc, hx⟩ := hI
  clear hx
  have HB0 := Lib.hid (below_alloc w (.cells #[.int .i64 e1, .int .i64 e2, .int .i64 e3] 36))
  have hE0 : (w.alloc (.cells #[.int .i64 e1, .int .i64 e2, .int .i64 e3] 36)).cell? ⟨w.heap.size, 0, none⟩ = some (.int .i64 e1) ∧ (w.alloc (.cells #[.int .i64 e1, .int .i64 e2, .int .i64 e3] 36)).cell? ⟨w.heap.size, 1, none⟩ = some (.int .i64 e2) ∧ (w.alloc (.cells #[.int .i64 e1, .int .i64 e2, .int .i64 e3] 36)).cell? ⟨w.heap.size, 2, none⟩ = some (.int .i64 e3) := by
    refine ⟨?_, ?_, ?_⟩ <;> go_simp
  have HE0 := Lib.hid hE0
  clear hE0
  have HI := Lib.hid (HI.out.frm (Frm.below HB0.out))
  have HSr := Lib.hid (HSr.out.keep HB0.out)
  unfold encE3
  go_enter Try.func9, Try.ntmps9
  go_wp2_with fail
  generalize w.alloc (.cells #[.int .i64 e1, .int .i64 e2, .int .i64 e3] 36) = V at *
  generalize hkb : w.heap.size = kb at *
  go_loopg [6] L.length (fun gk s wx => ∃ k : Nat, gk = L.length - k ∧ s = .int .i64 (k : Int) ∧ k ≤ L.length ∧ Hid (∀ j (h : j < L.length), j < k → L[j] ≠ (e1, e2, e3)) ∧ Hid (Below V.heap.size V wx))
  case atStart => exact ⟨0, rfl, rfl, Nat.zero_le _, Lib.hid (fun j h k => absurd k (by omega)), Lib.hid (Below.refl _ _)⟩
  case round =>
    obtain ⟨k, hgk, rfl, hk, HG, HW⟩ := hrel
    by_cases hlt : k < L.length
    · obtain ⟨b0, b1, b2⟩ := HE0.out
      have b0 := cell_later HW.out b0
      have b1 := cell_later HW.out b1
      have b2 := cell_later HW.out b2
      obtain ⟨gr, o, rfl, d0, d1, d2⟩ := HI.out.at hlt
      have d0 := cell_later HW.out d0
      have d1 := cell_later HW.out d1
      have d2 := cell_later HW.out d2
      have x5 : (k : Int) < (L.length : Int) := by omega
      have heq := fun W => eq_E5 L[k] (e1, e2, e3) W
      unfold encE3 at heq
      have HLk : Hid (∀ b, eqE L[k] (e1, e2, e3) = b → (b = true → L[k] = (e1, e2, e3)) ∧ (b = false → L[k] ≠ (e1, e2, e3))) := Lib.hid (fun b h => by subst h; simp [eqE])
      obtain ⟨b, hbb⟩ : ∃ b, eqE L[k] (e1, e2, e3) = b := ⟨_, rfl⟩
      rw [hbb] at heq
      have HY := Lib.hid (HLk.out b hbb)
      clear hbb HLk
      have HIs : Hid (L[k] = (e1, e2, e3) → (e1, e2, e3) ∈ L ∧ L.take k ++ L.drop (k + 1) = L.erase (e1, e2, e3)) := Lib.hid (fun h => ⟨h ▸ List.getElem_mem hlt, erase_at hlt HG.out h⟩)
      have HNo : Hid (L[k] ≠ (e1, e2, e3) → ∀ j (h : j < L.length), j < k + 1 → L[j] ≠ (e1, e2, e3)) := Lib.hid (fun hf j h hj => by
        by_cases c : j = k
        · subst c; exact hf
        · exact HG.out j h (by omega))
      have HW1 := Lib.hid HW.out.drew
      generalize L[k] = m at *
      obtain ⟨m1, m2, m3⟩ := m
      simp only at d0 d1 d2 heq
      clear HG HW
      cases b
      · have HN2 := Lib.hid (HNo.out (HY.out.2 rfl))
        clear HNo HIs HY
        go_wp2_with fail
        go_region
        go_wp2_with fail
        go_roundg (L.length - (k + 1))
        case measure => omega
        case rel => exact ⟨k + 1, rfl, by push_cast; rfl, by omega, HN2, HW1⟩
      · have HI2 := Lib.hid (HIs.out (HY.out.1 rfl))
        clear HNo HIs HY
        go_wp2_with fail
        go_region
        clear b0 b1 b2 d0 d1 d2 heq
        generalize wr.drew = W1 at *
        go_upto_region 5 with fail
        have HSX := Lib.hid (HSr.out.keep HW1.out)
        have HSk : Hid (SrcO W1 (.slice (some ⟨gr, o, none⟩) k c) k (enCells (L.take k))) := Lib.hid (src_takeE HSX.out hk)
        have HLk : Hid ((enCells (L.take k)).length = k * 3) := Lib.hid (by rw [enCells_len, List.length_take]; omega)
        have x1 : IntKind.i64.wrap ((k : Int) + 1) = (k : Int) + 1 := IntWalk.i64_in _ (by omega)
        have x2 : ((k : Int) + 1).toNat = k + 1 := by omega
        have x3 : (k : Int) + 1 ≤ (L.length : Int) := by omega
        have x4 : (L.length : Int) ≤ (c : Int) := by omega
        have x6 : (0 : Int) ≤ (k : Int) + 1 := by omega
        have x7 : (k : Int) ≤ (c : Int) := by omega
        have hkw : kb ≤ W1.heap.size := by
          have h1 := HB0.out.size
          have h2 := HW1.out.size
          omega
        have fin : ∀ (v3 : Value) (w3 : World) (n : Nat), w3.ownsRow W1.heap.size 36 3 v3 n (enCells (L.take k) ++ enCells (L.drop (k + 1))) → n + 1 = L.length → Below W1.heap.size W1 w3 → D5Post (e1, e2, e3) L (.slice (some ⟨gr, o, none⟩) L.length c) w (.returned (.tuple #[v3, .bool true])) w3 := by
          intro v3 w3 n ho hn hb
          obtain ⟨hm, he⟩ := HI2.out
          have hl : (L.erase (e1, e2, e3)).length = n := by rw [← he, List.length_append, List.length_take, List.length_drop]; omega
          subst hkb
          refine ⟨below_after (below_after HB0.out HW1.out) hb, .inr ⟨hm, v3, rfl, ?_⟩⟩
          rw [hl, ← he, enCells_app]
          exact own_base ho hkw
        have HFin := Lib.hid fin
        clear fin HI2 HI HSr HE0 HB0 HW1
        by_cases hck : c = k + 1
        · subst hck
          have x8 : (k : Int) ≤ (k : Int) + 1 := by omega
          have x9 : ((k + 1 : Nat) : Int) = (k : Int) + 1 := by omega
          have x10 : (L.length : Int) = (k : Int) + 1 := by omega
          have hd : L.drop (k + 1) = [] := List.drop_eq_nil_of_le (by omega)
          rw [hd] at HFin
          have hln : L.length - (k + 1) = 0 := by omega
          clear HSX hd
          go_region_law (first | ((refine step_append_srcO (by rfl) (.tmp 19) (.tmp 22) 29 (by rfl) W1.heap.size 36 i0 (.agg #[.int .i64 0, .int .i64 0, .int .i64 0]) 3 24 Try.underlying29 hi hz0 hz1 hz2 (by rfl) (by decide) _ 0 [] (by rfl) (own_zeroI (by first | omega | (simp; done) | (simp; omega)) (by repeat (first | (with_reducible exact hp_new (by first | (with_reducible rfl) | (simp; done) | omega | (simp; omega))) | (with_reducible refine hp_drew ?_) | (with_reducible refine hp_alloc ?_)))) _ k (enCells (L.take k)) (by rfl) (HSk.out.keep (by first | (with_reducible assumption) | exact below_alloc _ _ | exact (below_alloc _ _).drew)) HLk.out (enCells_one _) (by unfold maxLen; omega) (by omega) (by first | omega | (simp; done) | (simp; omega)) ?_); intro v1 wB ho1' hgB; have HO1 := Lib.hid ho1'; clear ho1'; have hzB : W1.heap.size ≤ wB.heap.size := Nat.le_trans (by first | omega | (simp; done) | (simp; omega)) hgB.size; have hS6 : Below W1.heap.size W1 wB := Below.grown ((below_alloc _ _).drew) hgB (Below.size ((below_alloc _ _).drew)) (by intro q hq; simp only [Value.ownBlock, Option.some.injEq] at hq; subst hq; first | omega | (simp; done) | (simp; omega))) | ((refine step_append_srcO (by rfl) (.tmp 23) (.tmp 27) 29 (by rfl) W1.heap.size 36 i0 (.agg #[.int .i64 0, .int .i64 0, .int .i64 0]) 3 24 Try.underlying29 hi hz0 hz1 hz2 (by rfl) (by decide) v1 (0 + k) ([] ++ enCells (L.take k)) (by rfl) HO1.out _ 0 (enCells []) (by rfl) ⟨_, _, rfl, fun h => absurd rfl h⟩ (by rfl) (enCells_one _) (by unfold maxLen; omega) (by omega) (by first | omega | (simp; done) | (simp; omega)) ?_); intro v2 wC ho2' hgC; have HO2 := Lib.hid ho2'; clear ho2'; have hS7 : Below W1.heap.size W1 wC := Below.grown hS6 hgC hS6.size (fun q hq => (own_block HO1.out hq).1)))
          all_goals
            have HN := Lib.hid (HFin.out v2 wC (k) (by simpa [List.append_assoc, enCells] using HO2.out) (by omega) hS7)
            clear HO1 HO2 hS7
            go_wp2_with fail
            go_ret2
            exact HN.out
        · have HSd : Hid (SrcO W1 (.slice (some ⟨gr, o + (k + 1) * 3, none⟩) (L.length - (k + 1)) (c - (k + 1))) (L.length - (k + 1)) (enCells (L.drop (k + 1)))) := Lib.hid (src_dropE HSX.out rfl (by omega))
          have HLd : Hid ((enCells (L.drop (k + 1))).length = (L.length - (k + 1)) * 3) := Lib.hid (by rw [enCells_len, List.length_drop])
          clear HSX
          go_region_law (first | ((refine step_append_srcO (by rfl) (.tmp 19) (.tmp 22) 29 (by rfl) W1.heap.size 36 i0 (.agg #[.int .i64 0, .int .i64 0, .int .i64 0]) 3 24 Try.underlying29 hi hz0 hz1 hz2 (by rfl) (by decide) _ 0 [] (by rfl) (own_zeroI (by first | omega | (simp; done) | (simp; omega)) (by repeat (first | (with_reducible exact hp_new (by first | (with_reducible rfl) | (simp; done) | omega | (simp; omega))) | (with_reducible refine hp_drew ?_) | (with_reducible refine hp_alloc ?_)))) _ k (enCells (L.take k)) (by rfl) (HSk.out.keep (by first | (with_reducible assumption) | exact below_alloc _ _ | exact (below_alloc _ _).drew)) HLk.out (enCells_one _) (by unfold maxLen; omega) (by omega) (by first | omega | (simp; done) | (simp; omega)) ?_); intro v1 wB ho1' hgB; have HO1 := Lib.hid ho1'; clear ho1'; have hzB : W1.heap.size ≤ wB.heap.size := Nat.le_trans (by first | omega | (simp; done) | (simp; omega)) hgB.size; have hS6 : Below W1.heap.size W1 wB := Below.grown ((below_alloc _ _).drew) hgB (Below.size ((below_alloc _ _).drew)) (by intro q hq; simp only [Value.ownBlock, Option.some.injEq] at hq; subst hq; first | omega | (simp; done) | (simp; omega))) | ((refine step_append_srcO (by rfl) (.tmp 23) (.tmp 27) 29 (by rfl) W1.heap.size 36 i0 (.agg #[.int .i64 0, .int .i64 0, .int .i64 0]) 3 24 Try.underlying29 hi hz0 hz1 hz2 (by rfl) (by decide) v1 (0 + k) ([] ++ enCells (L.take k)) (by rfl) HO1.out _ (L.length - (k + 1)) (enCells (L.drop (k + 1))) (by rfl) (HSd.out.keep hS6) HLd.out (enCells_one _) (by unfold maxLen; omega) (by omega) (by first | omega | (simp; done) | (simp; omega)) ?_); intro v2 wC ho2' hgC; have HO2 := Lib.hid ho2'; clear ho2'; have hS7 : Below W1.heap.size W1 wC := Below.grown hS6 hgC hS6.size (fun q hq => (own_block HO1.out hq).1)))
          all_goals
            have HN := Lib.hid (HFin.out v2 wC (k + (L.length - (k + 1))) (by simpa [List.append_assoc, enCells] using HO2.out) (by omega) hS7)
            clear HO1 HO2 hS7
            go_wp2_with fail
            go_ret2
            exact HN.out
    · obtain rfl : k = L.length := by omega
      have HNm : Hid ((e1, e2, e3) ∉ L) := Lib.hid (fun hm => by
        obtain ⟨j, hj, he⟩ := List.getElem_of_mem hm
        exact HG.out j hj hj he)
      go_wp2_with fail
      go_ret2
      exact ⟨by subst hkb; exact below_after HB0.out HW.out, .inl ⟨HNm.out, rfl⟩⟩
end Go.Proofs.Ytbdmmgplpndobaa
