/- Walks of varint: Row. -/
import Derived.Test.YtenfaejdnphngaaVarT
namespace Go.Proofs.Ytenfaejdnphngaa
open Go.RowKit Go.Sort

set_option maxRecDepth 100000 in
set_option maxHeartbeats 4000000 in
theorem row_any {w : World} {v : Value} {b : List Nat} (hK : KL .u8 w v b) (hb : ∀ x ∈ b, x < 256) (hl : b.length ≤ 100000) : Calls Try.prog 31 #[v] w (RoPost7 b w) := by
  have hmx : Try.prog.follows .mixedOrders = true := by kernel_rfl
  have hE : ∀ (args : Array Value) (w : World), (callFunc 57 args).run Try.prog w = .ok (.enter 57 args) w := fun args W => by first | rfl | simp [callFunc]
  have HK := Lib.hid hK
  have HBd := Lib.hid hb
  obtain ⟨q, c, rfl, _, _⟩ := hK
  clear hb
  go_enter Try.func31, Try.ntmps31
  go_upto_region 3 with fail
  have H0 : Hid (RwS w (.slice q b.length c) w.heap.size (w.heap.size + 1 + 1) (w.heap.size + 1) [] 0 (((w.alloc (.cells #[.slice q b.length c] 61)).alloc (.cells #[.slice none 0 0] 60)).alloc (.cells #[.int .i64 0] 3))) := Lib.hid (by
    refine ⟨below_after (below_after (below_alloc _ _) (below_alloc _ _)) (below_alloc _ _), by go_simp, by go_simp, by go_simp, by go_simp, ⟨by omega, by omega⟩, ⟨by omega, by omega, by omega⟩, .slice none 0 0, by go_simp, World.ownsRow_nil _ _ _ _, by simp [Value.ownBlock], by simp [Value.ownBlock], by simp [Value.ownBlock]⟩)
  generalize ((w.alloc (.cells #[.slice q b.length c] 61)).alloc (.cells #[.slice none 0 0] 60)).alloc (.cells #[.int .i64 0] 3) = V0 at *
  generalize w.heap.size + 1 + 1 = k6 at *
  generalize w.heap.size + 1 = k5 at *
  generalize hk1 : w.heap.size = k1 at H0 ⊢
  go_wp2_with fail
  go_loopg [8] (b.length + 1) (fun gk x wx => ∃ (i : Nat) (acc : List Nat), i ≤ b.length ∧ b.length < i + gk ∧ acc.length ≤ i ∧ Hid (rowR gk b i acc = rowD b) ∧ Hid (RwS w (.slice q b.length c) k1 k6 k5 acc i wx))
  case atStart => exact ⟨0, [], Nat.zero_le _, by omega, Nat.zero_le _, Lib.hid rfl, H0⟩
  case round =>
    obtain ⟨i, acc, hib, hg, ha, HE, HS⟩ := hrel
    clear H0
    have c1 := HS.out.c1
    have c6 := HS.out.c6
    cases gk with
    | zero => omega
    | succ gr =>
      by_cases hlt : i < b.length
      · have hiz : (i : Int) < (b.length : Int) := by omega
        have HR1 := Lib.hid (row1_any HS.out HK.out HBd.out hl hlt ha)
        have HSt := Lib.hid (rd_step (b := b) (i := i) HBd.out)
        have HE2 : Hid ((if (rd (b.drop i)).2.2 = 0 then rowR gr b (i + (rd (b.drop i)).2.1) (acc ++ [(rd (b.drop i)).1]) else ([], i, (rd (b.drop i)).2.2)) = rowD b) := Lib.hid (by have h := HE.out; rw [rowR, if_pos hlt] at h; exact h)
        unfold R1Post at HR1
        generalize (rd (b.drop i)).1 = n at *
        generalize (rd (b.drop i)).2.1 = k at *
        generalize (rd (b.drop i)).2.2 = e at *
        clear HE HS
        by_cases he : e = 0
        · subst he
          have HE3 := HE2.out
          rw [if_pos rfl] at HE3
          have HE4 := Lib.hid HE3
          obtain ⟨p1, p2, p3, p4⟩ := HSt.out rfl
          clear HE2 HSt HE3
          go_wp2_with (go_at_call 57; refine HR1.out.mono ?_; rintro e w1 ⟨rfl, h1, _⟩; have H1 := Lib.hid (h1 rfl); clear h1)
          go_roundg gr
          case measure => omega
          case rel => exact ⟨i + k, acc ++ [n], p2, by omega, by rw [List.length_append]; simp; omega, HE4, H1⟩
        · have hez : ¬ (e : Int) = 0 := by omega
          have HE3 := HE2.out
          rw [if_neg he] at HE3
          have HE4 := Lib.hid HE3
          clear HE2 HSt HE3
          go_upto_region 7 with (go_at_call 57; refine HR1.out.mono ?_; rintro e w1 ⟨rfl, _, h1⟩; have H1 := Lib.hid (h1 he); have d6 := H1.out.c6; clear h1)
          go_region
          have HF : Hid (Below w.heap.size w w1.drew) := Lib.hid (below_after H1.out.bl ((Below.refl _ _).drew))
          clear H1
          go_wp2_with fail
          exact bodyPost_ret (v := .tuple #[.slice none 0 0, .int .i64 (i : Int), .int .i64 (e : Int)]) (by simp [results, Try.results31, go_sem]) rfl ⟨_, by rw [← HE4.out], by rw [← HE4.out]; exact World.ownsRow_nil _ _ _ _, HF.out⟩
      · have hiz : ¬ (i : Int) < (b.length : Int) := by omega
        have HE2 : Hid ((acc, 0, 0) = rowD b) := Lib.hid (by have h := HE.out; rw [rowR, if_neg hlt] at h; exact h)
        obtain ⟨u, c5, hoU, _⟩ := HS.out.st
        have HF : Hid (RoPost7 b w (.returned (.tuple #[u, .int .i64 0, .int .i64 0])) wr) := Lib.hid ⟨u, by rw [← HE2.out]; rfl, by rw [← HE2.out]; exact hoU, HS.out.bl⟩
        obtain ⟨pu, cu, rfl⟩ : ∃ p c, u = .slice p acc.length c := by
          rcases hoU.2 with ⟨e, hz⟩ | ⟨g, c, cur, e, _⟩
          · exact ⟨none, 0, by rw [e, hz]⟩
          · exact ⟨_, c, e⟩
        clear HE HS hoU
        go_wp2_with fail
        exact bodyPost_ret (v := .tuple #[.slice pu acc.length cu, .int .i64 0, .int .i64 0]) (by simp [results, Try.results31, go_sem]) rfl HF.out
end Go.Proofs.Ytenfaejdnphngaa
