/- The walk of ring.Winding. -/
import Derived.Test.YtkibjbbhiclkmaaAroundW
namespace Go.Proofs.Ytkibjbbhiclkmaa
open Go.RowKit

set_option maxRecDepth 100000 in
set_option maxHeartbeats 1000000 in
theorem win1_any (P : Nat) (p q : Int × Int) (V : World) (_h0 : V.cell? ⟨P, 0, none⟩ = some (.int .i64 p.1)) (h1 : V.cell? ⟨P, 1, none⟩ = some (.int .i64 p.2)) :
    Calls Try.prog 57 #[.agg #[.int .i64 q.1, .int .i64 q.2], .pointer (some ⟨P, 0, none⟩)] V fun e w' => e = .returned (.bool (decide (p.2 < q.2))) ∧ Below V.heap.size V w' := by
  have c1 := cell_later (b1 V (.cells #[.int .i64 q.1, .int .i64 q.2] 24)) h1
  go_enter Try.func57, Try.ntmps57
  go_wp2_with fail
  go_ret
  exact ⟨rfl, b1 _ _⟩
set_option maxRecDepth 100000 in
set_option maxHeartbeats 1000000 in
theorem win2_any (P : Nat) (p a b : Int × Int) (V : World) (h0 : V.cell? ⟨P, 0, none⟩ = some (.int .i64 p.1)) (h1 : V.cell? ⟨P, 1, none⟩ = some (.int .i64 p.2)) :
    Calls Try.prog 58 #[.agg #[.int .i64 a.1, .int .i64 a.2], .agg #[.int .i64 b.1, .int .i64 b.2], .pointer (some ⟨P, 0, none⟩)] V fun e w' => e = .returned (.bool (onV a.1 a.2 b.1 b.2 p.1 p.2)) ∧ Below V.heap.size V w' := by
  have c0 := cell_later (b2 V (.cells #[.int .i64 a.1, .int .i64 a.2] 24) (.cells #[.int .i64 b.1, .int .i64 b.2] 24)) h0
  have c1 := cell_later (b2 V (.cells #[.int .i64 a.1, .int .i64 a.2] 24) (.cells #[.int .i64 b.1, .int .i64 b.2] 24)) h1
  go_enter Try.func58, Try.ntmps58
  go_wp2_with fail
  refine (on_any _ _ _ _ _ _ _).mono ?_
  rintro e w1 ⟨rfl, hb⟩
  have HB : Hid (Below V.heap.size V w1) := Lib.hid ((b2 V _ _).trans (hb.mono (by simp <;> omega)))
  clear hb c0 c1
  go_wp2_with fail
  go_ret
  exact ⟨rfl, HB.out⟩
set_option maxRecDepth 100000 in
set_option maxHeartbeats 1000000 in
theorem win3_any (P : Nat) (p a b : Int × Int) (V : World) (h0 : V.cell? ⟨P, 0, none⟩ = some (.int .i64 p.1)) (h1 : V.cell? ⟨P, 1, none⟩ = some (.int .i64 p.2)) :
    Calls Try.prog 60 #[.agg #[.int .i64 a.1, .int .i64 a.2], .agg #[.int .i64 b.1, .int .i64 b.2], .pointer (some ⟨P, 0, none⟩)] V fun e w' => e = .returned (.bool (decide (0 < crV a.1 a.2 b.1 b.2 p.1 p.2))) ∧ Below V.heap.size V w' := by
  have c0 := cell_later (b2 V (.cells #[.int .i64 a.1, .int .i64 a.2] 24) (.cells #[.int .i64 b.1, .int .i64 b.2] 24)) h0
  have c1 := cell_later (b2 V (.cells #[.int .i64 a.1, .int .i64 a.2] 24) (.cells #[.int .i64 b.1, .int .i64 b.2] 24)) h1
  go_enter Try.func60, Try.ntmps60
  go_wp2_with fail
  refine (turn_any _ _ _ _ _ _ _).mono ?_
  rintro e w1 ⟨rfl, hb⟩
  have HB : Hid (Below V.heap.size V w1) := Lib.hid ((b2 V _ _).trans (hb.mono (by simp <;> omega)))
  have HS : Hid (decide (0 < sgn (crV a.1 a.2 b.1 b.2 p.1 p.2)) = decide (0 < crV a.1 a.2 b.1 b.2 p.1 p.2)) := Lib.hid (decide_eq_decide.2 (by unfold sgn; split <;> (try split) <;> omega))
  generalize sgn (crV a.1 a.2 b.1 b.2 p.1 p.2) = s at *
  clear hb c0 c1
  go_wp2_with fail
  go_ret
  exact ⟨ret_bool HS.out, HB.out⟩

theorem kept2 {W0 W w1 : World} {a0 a1 : Addr} {v0 v1 : Value} (hb : Below W.heap.size W w1) (h : W.cell? a0 = some v0 ∧ W.cell? a1 = some v1 ∧ Below W0.heap.size W0 W) : w1.cell? a0 = some v0 ∧ w1.cell? a1 = some v1 ∧ Below W0.heap.size W0 w1 :=
  ⟨cell_later hb h.1, cell_later hb h.2.1, h.2.2.trans (hb.mono h.2.2.size)⟩
theorem ret_ib {a c : Int} {b d : Bool} (h1 : a = c) (h2 : b = d) : Ending.returned (.tuple #[.int .i64 a, .bool b]) = .returned (.tuple #[.int .i64 c, .bool d]) := by rw [h1, h2]
/-- What Winding answers. -/
def winOk (L : List (Int × Int)) (p : Int × Int) : Bool := okp p.1 p.2 && okL L && arB (fun a b => onV a.1 a.2 b.1 b.2 p.1 p.2) L
def winN (L : List (Int × Int)) (p : Int × Int) : Int := if okp p.1 p.2 && okL L then arN (fun q => decide (p.2 < q.2)) (fun a b => onV a.1 a.2 b.1 b.2 p.1 p.2) (fun a b => decide (0 < crV a.1 a.2 b.1 b.2 p.1 p.2)) L else 0
theorem pall1 (x y : Int) : pall 1 (fun i => [x].getD i 0) (fun i => [y].getD i 0) = okp x y := by simp [pall_succ, pall_zero, okp]
theorem right1 (W : World) (b : Nat) (x y : Int) (hb : b < W.heap.size) (h0 : W.cell? ⟨b, 0, none⟩ = some (.int .i64 x)) (h1 : W.cell? ⟨b, 1, none⟩ = some (.int .i64 y)) :
    Calls Try.prog 55 #[.slice (some ⟨b, 0, none⟩) 1 1] W fun e w' => e = .returned (.bool (okp x y)) ∧ Below W.heap.size W w' := by
  rw [← pall1]
  refine right_any b 0 1 1 _ _ W (by omega) hb ?_ ?_
  · intro i hi
    obtain rfl : i = 0 := by omega
    exact h0
  · intro i hi
    obtain rfl : i = 0 := by omega
    exact h1

set_option maxRecDepth 100000 in
set_option maxHeartbeats 4000000 in
theorem winding_any (v : Value) (L : List (Int × Int)) (p : Int × Int) (w : World) (hL : L.length ≤ 1000) (hI : PL w v L) :
    Calls Try.prog 14 #[v, .agg #[.int .i64 p.1, .int .i64 p.2]] w fun e w' => e = .returned (.tuple #[.int .i64 (winN L p), .bool (winOk L p)]) ∧ Below w.heap.size w w' := by
  obtain ⟨q, cap, rfl, hcap, hi⟩ := id hI
  have HI := Lib.hid hI
  have hS0 : (fun W : World => W.cell? ⟨w.heap.size, 0, none⟩ = some (.int .i64 p.1) ∧ W.cell? ⟨w.heap.size, 1, none⟩ = some (.int .i64 p.2) ∧ Below w.heap.size w W) ((w.alloc (.cells #[.int .i64 p.1, .int .i64 p.2] 24)).alloc (.cells #[.int .i64 p.1, .int .i64 p.2] 24)) :=
    ⟨by go_simp, by go_simp, b2 _ _ _⟩
  have HS0 := Lib.hid hS0
  clear hI hi hS0
  cases h1 : okp p.1 p.2
  · have HV : Hid (winN L p = 0 ∧ winOk L p = false) := Lib.hid (by unfold winN winOk; rw [h1]; exact ⟨rfl, rfl⟩)
    have H1 := Lib.hid h1
    clear h1
    go_enter Try.func14, Try.ntmps14
    go_wp2_with fail
    refine (right1 _ _ p.1 p.2 (by simp) (by go_simp) (by go_simp)).mono ?_
    rintro e w1 ⟨rfl, hb1⟩
    rw [H1.out]
    have HS1 := Lib.hid (kept2 (W0 := w) hb1 HS0.out)
    clear hb1
    go_wp2_with fail
    go_ret2
    exact ⟨ret_ib HV.out.1.symm HV.out.2.symm, HS1.out.2.2⟩
  · cases h2 : okL L
    · have HV : Hid (winN L p = 0 ∧ winOk L p = false) := Lib.hid (by unfold winN winOk; rw [h1, h2]; exact ⟨rfl, rfl⟩)
      have H1 := Lib.hid h1
      have H2 := Lib.hid h2
      clear h1 h2
      go_enter Try.func14, Try.ntmps14
      go_wp2_with fail
      refine (right1 _ _ p.1 p.2 (by simp) (by go_simp) (by go_simp)).mono ?_
      rintro e w1 ⟨rfl, hb1⟩
      rw [H1.out]
      have HS1 := Lib.hid (kept2 (W0 := w) hb1 HS0.out)
      clear hb1
      have KR := Lib.hid (right_pl (HI.out.keep HS1.out.2.2) (by omega))
      go_wp2_with fail
      refine KR.out.mono ?_
      rintro e w2 ⟨rfl, hb2⟩
      rw [H2.out]
      have HS2 := Lib.hid (kept2 (W0 := w) hb2 HS1.out)
      clear hb2
      go_wp2_with fail
      go_ret2
      exact ⟨ret_ib HV.out.1.symm HV.out.2.symm, HS2.out.2.2⟩
    · have HV : Hid (winN L p = arN (fun q => decide (p.2 < q.2)) (fun a b => onV a.1 a.2 b.1 b.2 p.1 p.2) (fun a b => decide (0 < crV a.1 a.2 b.1 b.2 p.1 p.2)) L ∧ winOk L p = arB (fun a b => onV a.1 a.2 b.1 b.2 p.1 p.2) L) := Lib.hid (by unfold winN winOk; rw [h1, h2]; exact ⟨rfl, rfl⟩)
      have H1 := Lib.hid h1
      have H2 := Lib.hid h2
      clear h1 h2
      go_enter Try.func14, Try.ntmps14
      go_wp2_with fail
      refine (right1 _ _ p.1 p.2 (by simp) (by go_simp) (by go_simp)).mono ?_
      rintro e w1 ⟨rfl, hb1⟩
      rw [H1.out]
      have HS1 := Lib.hid (kept2 (W0 := w) hb1 HS0.out)
      clear hb1
      have KR := Lib.hid (right_pl (HI.out.keep HS1.out.2.2) (by omega))
      go_wp2_with fail
      refine KR.out.mono ?_
      rintro e w2 ⟨rfl, hb2⟩
      rw [H2.out]
      have HS2 := Lib.hid (kept2 (W0 := w) hb2 HS1.out)
      clear hb2 KR
      have KW := Lib.hid (aroundW_any w2 w.heap.size (fun q => decide (p.2 < q.2)) (fun a b => onV a.1 a.2 b.1 b.2 p.1 p.2) (fun a b => decide (0 < crV a.1 a.2 b.1 b.2 p.1 p.2))
        (Lib.hid fun V q hV => win1_any w.heap.size p q V (cell_later hV HS2.out.1) (cell_later hV HS2.out.2.1))
        (Lib.hid fun V a b hV => win2_any w.heap.size p a b V (cell_later hV HS2.out.1) (cell_later hV HS2.out.2.1))
        (Lib.hid fun V a b hV => win3_any w.heap.size p a b V (cell_later hV HS2.out.1) (cell_later hV HS2.out.2.1)) _ L hL (HI.out.keep HS2.out.2.2))
      go_wp2_with fail
      refine KW.out.mono ?_
      rintro e w3 ⟨rfl, hb3⟩
      have HS3 := Lib.hid (kept2 (W0 := w) hb3 HS2.out)
      clear hb3 KW
      go_wp2_with fail
      go_ret2
      exact ⟨ret_ib HV.out.1.symm HV.out.2.symm, HS3.out.2.2⟩
end Go.Proofs.Ytkibjbbhiclkmaa
