/- order.Strips at numbers. -/
import Derived.Test.YtmmahejdpanmjaaSearch
namespace Go.Proofs.Ytmmahejdpanmjaa
open Go.RowKit Go.Sort

set_option maxRecDepth 100000 in
set_option maxHeartbeats 2000000 in
theorem s1_any {W : World} {L : List Int} {g o c k1 k2 k : Nat} (x : Int) (hk : k < L.length) (h1 : W.cell? ⟨k1, 0, none⟩ = some (.slice (some ⟨g, o, none⟩) L.length c)) (h2 : W.cell? ⟨k2, 0, none⟩ = some (.int .i64 x)) (h3 : W.cell? ⟨g, o + k, none⟩ = some (.int .i64 L[k])) :
    Calls Try.prog 55 #[.int .i64 (k : Int), .pointer (some ⟨k1, 0, none⟩), .pointer (some ⟨k2, 0, none⟩)] W fun e w' => e = .returned (.bool (decide (x < L[k]))) ∧ Below W.heap.size W w' := by
  have hk' : ((k : Nat) : Int) < ((L.length : Nat) : Int) := by omega
  generalize hy : L[k] = y at *
  clear hy
  go_enter Try.func55, Try.ntmps55
  go_wp2_with fail
  go_region_held3 (fun W' => W'.cell? ⟨k1, 0, none⟩ = some (.slice (some ⟨g, o, none⟩) L.length c) ∧ W'.cell? ⟨k2, 0, none⟩ = some (.int .i64 x) ∧ W'.cell? ⟨g, o + k, none⟩ = some (.int .i64 y) ∧ Below W.heap.size W W') (first | assumption | exact ⟨h1, h2, h3, Below.refl _ _⟩ | exact ⟨h1, h2, h3, (Below.refl _ _).drew⟩) (fail)
  go_wp2_with fail
  go_ret
  exact ⟨by first | rfl | simp, by first | exact Below.refl _ _ | exact (Below.refl _ _).drew | assumption⟩
set_option maxRecDepth 100000 in
set_option maxHeartbeats 2000000 in
theorem strips_any {w : World} {L : List Int} {gt : Nat} {v : Value} (x : Int) (hL : L.length ≤ 1000) (hI : IL w gt v L) (hS : L.Pairwise (· ≤ ·)) :
    Calls Try.prog 25 #[v, .int .i64 x] w fun e w' => ∃ i j : Nat, e = .returned (.tuple #[.int .i64 (i : Int), .int .i64 (j : Int)]) ∧ i ≤ L.length ∧ j ≤ L.length ∧ BsP L x i i ∧ SeP (fun k => decide (x < L.getD k 0)) L.length j j ∧ Below w.heap.size w w' := by
  have HI := Lib.hid hI
  have HS := Lib.hid hS
  obtain ⟨q, c, rfl, hc, _⟩ := hI
  clear hS
  go_enter Try.func25, Try.ntmps25
  go_wp2_with fail
  have hW1 : Below w.heap.size w ((w.alloc (.cells #[.slice q L.length c] 24)).alloc (.cells #[.int .i64 x] 3)) := ((Below.refl _ _).alloc (Nat.le_refl _) _).alloc (by rw [World.size_alloc]; omega) _
  go_at_call 23
  refine (find_any (HI.out.grown (grown_below hW1)) x hL HS.out).mono ?_
  rintro e w2 ⟨i, hi, hb, rfl, hw⟩
  have HB := Lib.hid hb
  have c1 : w2.cell? ⟨w.heap.size, 0, none⟩ = some (.slice q L.length c) := cell_later hw (by go_simp)
  have c2 : w2.cell? ⟨w.heap.size + 1, 0, none⟩ = some (.int .i64 x) := cell_later hw (by go_simp)
  have hW2 := below_after hW1 hw
  have HC2 := Lib.hid (HI.out.grown (grown_below hW2))
  have HW2 := Lib.hid hW2
  clear hb hW1 hW2 hw
  have KS := Lib.hid (search_any 55 #[.pointer (some ⟨w.heap.size, 0, none⟩), .pointer (some ⟨w.heap.size + 1, 0, none⟩)] (fun k => decide (x < L.getD k 0)) L.length hL (w := w2)
    (fun i j hij hj h => by
      have h1 : i < L.length := by omega
      simp only [decide_eq_true_eq, List.getD_eq_getElem?_getD, List.getElem?_eq_getElem h1, List.getElem?_eq_getElem hj, Option.getD_some] at *
      have := le_at HS.out h1 hj hij
      omega)
    (fun args W => by first | rfl | simp [callFunc] | simp [go_sem] | simp [callFunc, go_sem])
    (fun W k hb hk => by
      obtain ⟨q1, c', e, _, h3⟩ := HC2.out
      cases e
      obtain ⟨g, o, rfl, _, h4⟩ := h3 k hk
      have h := s1_any x hk (cell_later hb c1) (cell_later hb c2) (cell_later hb h4)
      simpa [List.getD_eq_getElem?_getD, List.getElem?_eq_getElem hk] using h))
  go_wp2_with (go_at_call 54; refine Calls.mono KS.out ?_; rintro e w3 ⟨j, hj, hbj, rfl, hw3⟩)
  go_ret2
  exact ⟨i, j, rfl, hi, hj, HB.out, hbj, below_after HW2.out hw3⟩
theorem common_any {w : World} {L : List Int} {gt : Nat} {v : Value} (x y : Int) (hL : L.length ≤ 1000) (hI : IL w gt v L) (hS : L.Pairwise (· ≤ ·)) :
    Calls Try.prog 27 #[v, .int .i64 x, .int .i64 y] w fun e w' => ∃ i j i2 j2 : Nat, e = .returned (.bool (decide (i ≤ j2) && decide (i2 ≤ j))) ∧ BsP L x i i ∧ SeP (fun k => decide (x < L.getD k 0)) L.length j j ∧ BsP L y i2 i2 ∧ SeP (fun k => decide (y < L.getD k 0)) L.length j2 j2 ∧ i ≤ L.length ∧ j ≤ L.length ∧ i2 ≤ L.length ∧ j2 ≤ L.length ∧ Below w.heap.size w w' := by
  have HI := Lib.hid hI
  have HS := Lib.hid hS
  obtain ⟨q, c, rfl, hc, _⟩ := hI
  clear hS
  go_enter Try.func27, Try.ntmps27
  go_wp2_with fail
  go_at_call 25
  refine (strips_any x hL HI.out HS.out).mono ?_
  rintro e w2 ⟨i, j, rfl, hi, hj, hb, hs, hw⟩
  have HB := Lib.hid hb
  have HSe := Lib.hid hs
  have HC2 := Lib.hid (HI.out.grown (grown_below hw))
  have HW := Lib.hid hw
  clear hb hs hw
  go_wp2_with fail
  go_at_call 25
  refine (strips_any y hL HC2.out HS.out).mono ?_
  rintro e w3 ⟨i2, j2, rfl, hi2, hj2, hb, hs, hw⟩
  have HB2 := Lib.hid hb
  have HSe2 := Lib.hid hs
  have HW2 := Lib.hid hw
  clear hb hs hw
  by_cases h1 : ((i : Nat) : Int) ≤ ((j2 : Nat) : Int)
  · by_cases h2 : ((i2 : Nat) : Int) ≤ ((j : Nat) : Int)
    · go_wp2_with fail
      go_ret
      exact ⟨i, j, i2, j2, by simp; omega, HB.out, HSe.out, HB2.out, HSe2.out, hi, hj, hi2, hj2, below_after HW.out HW2.out⟩
    · go_wp2_with fail
      go_ret
      exact ⟨i, j, i2, j2, by simp; omega, HB.out, HSe.out, HB2.out, HSe2.out, hi, hj, hi2, hj2, below_after HW.out HW2.out⟩
  · go_wp2_with fail
    go_ret
    exact ⟨i, j, i2, j2, by simp; omega, HB.out, HSe.out, HB2.out, HSe2.out, hi, hj, hi2, hj2, below_after HW.out HW2.out⟩
end Go.Proofs.Ytmmahejdpanmjaa
