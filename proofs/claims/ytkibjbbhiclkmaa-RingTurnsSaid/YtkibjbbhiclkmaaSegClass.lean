/- Walks of Class's parts. -/
import Derived.Test.YtkibjbbhiclkmaaSide
import Derived.Test.YtkibjbbhiclkmaaKeep
import Derived.Test.YtkibjbbhiclkmaaBox
import Derived.Test.YtkibjbbhiclkmaaSegLine
import Derived.Laws.StructEq
namespace Go.Proofs.Ytkibjbbhiclkmaa
open Go.RowKit

theorem eq_pt (ax ay bx b_y : Int) (w : World) : Sem.run Try.prog (binOp .eql 24 (.agg #[.int .i64 ax, .int .i64 ay]) (.agg #[.int .i64 bx, .int .i64 b_y])) w = .ok (.bool (eqB ax ay bx b_y)) w := by
  have u3 := Try.underlying3
  have hS : Try.prog.underlying 24 = some (.struct (Try.prog.fieldsOf 24)) := by kernel_rfl
  have hp : Try.prog.stoodInHeld 24 = false := by kernel_rfl
  rw [run_eql_struct, show (10000 : Nat) = 9999 + 1 from rfl, run_equalIn_agg w 9999 24 _ _ hS hp]
  simp only [Program.fieldsOf, Try.underlying24]
  unfold eqB
  go_simp
  by_cases h1 : ax = bx <;> by_cases h2 : ay = b_y <;> simp [h1, h2]

theorem sg_sgn (n : Int) : sgn n = sg n := rfl
theorem les_less (ax ay bx b_y : Int) : lessB ax ay bx b_y = lesB ax ay bx b_y := rfl
theorem onV_B {ax ay bx b_y px py : Int} (h : ok3 ax ay bx b_y px py = true) : onV ax ay bx b_y px py = onB ax ay bx b_y px py := by
  rw [onV_ok h, Bool.eq_iff_iff, onI_iff, onB_iff]
theorem ok4_3 {ax ay bx b_y cx cy dx dy : Int} (h : ok4 ax ay bx b_y cx cy dx dy = true) :
    ok3 ax ay bx b_y cx cy = true ∧ ok3 ax ay bx b_y dx dy = true ∧ ok3 cx cy dx dy ax ay = true ∧ ok3 cx cy dx dy bx b_y = true := by
  unfold ok4 at h; unfold ok3
  simp only [Bool.and_eq_true] at h ⊢
  obtain ⟨⟨⟨h1, h2⟩, h3⟩, h4⟩ := h
  exact ⟨⟨⟨h1, h2⟩, h3⟩, ⟨⟨h1, h2⟩, h4⟩, ⟨⟨h3, h4⟩, h1⟩, ⟨⟨h3, h4⟩, h2⟩⟩

set_option maxHeartbeats 400000 in
theorem inorder_any (p q : Int × Int) (w : World) :
    Calls Try.prog 124 #[.agg #[.int .i64 p.1, .int .i64 p.2], .agg #[.int .i64 q.1, .int .i64 q.2]] w
      fun e w' => e = .returned (.tuple #[.agg #[.int .i64 (inO p q).1.1, .int .i64 (inO p q).1.2], .agg #[.int .i64 (inO p q).2.1, .int .i64 (inO p q).2.2]]) ∧ Below w.heap.size w w' := by
  obtain ⟨px, py⟩ := p
  obtain ⟨qx, qy⟩ := q
  unfold inO
  cases h : lesB qx qy px py
  all_goals
    have H := Lib.hid h
    clear h
    go_enter Try.func124, Try.ntmps124
    go_wp2_with fail
    refine (less_any _ _ _ _ _).mono ?_
    rintro e w1 ⟨rfl, hb1⟩
    rw [les_less, H.out]
    have hR0 : Ow w1 w.heap.size (w.heap.size + 1 + 1) 0 0 := Ow.keep hb1 ⟨by omega, by go_simp, by go_simp, by go_simp, by go_simp⟩
    have hR1 : Ow w1 w.heap.size (w.heap.size + 1 + 1 + 1) 0 0 := Ow.keep hb1 ⟨by omega, by go_simp, by go_simp, by go_simp, by go_simp⟩
    have hP0 : Ow w1 w.heap.size w.heap.size px py := Ow.keep hb1 ⟨by omega, by go_simp, by go_simp, by go_simp, by go_simp⟩
    have hP1 : Ow w1 w.heap.size (w.heap.size + 1) qx qy := Ow.keep hb1 ⟨by omega, by go_simp, by go_simp, by go_simp, by go_simp⟩
    have hB : Below w.heap.size w w1 := (b4 _ _ _ _ _).trans (hb1.mono (by simp <;> omega))
    obtain ⟨_, c0, c1, f0, f1⟩ := hR0
    obtain ⟨_, d0, d1, g0, g1⟩ := hR1
    obtain ⟨_, p0, p1, _, _⟩ := hP0
    obtain ⟨_, q0, q1, _, _⟩ := hP1
    clear hb1
    go_wp2
    go_region
    all_goals
      go_wp2
      first
        | exact bodyPost_ret (v := .tuple #[.agg #[.int .i64 px, .int .i64 py], .agg #[.int .i64 qx, .int .i64 qy]]) (by simp [results, Try.results124, go_sem, *]) rfl ⟨rfl, by first | exact (Put.below (k := w.heap.size + 1 + 1 + 1) _ _ (Put.below (k := w.heap.size + 1 + 1) _ _ hB (by omega)) (by omega)).drew | exact (Put.below (k := w.heap.size + 1 + 1) _ _ (Put.below (k := w.heap.size + 1 + 1 + 1) _ _ hB (by omega)) (by omega)).drew⟩
        | exact bodyPost_ret (v := .tuple #[.agg #[.int .i64 qx, .int .i64 qy], .agg #[.int .i64 px, .int .i64 py]]) (by simp [results, Try.results124, go_sem, *]) rfl ⟨rfl, by first | exact (Put.below (k := w.heap.size + 1 + 1 + 1) _ _ (Put.below (k := w.heap.size + 1 + 1) _ _ hB (by omega)) (by omega)).drew | exact (Put.below (k := w.heap.size + 1 + 1) _ _ (Put.below (k := w.heap.size + 1 + 1 + 1) _ _ hB (by omega)) (by omega)).drew⟩

/-- Two points on unlike sides of a line. -/
def parB (ax ay bx b_y cx cy dx dy : Int) : Bool := decide (sg (crV ax ay bx b_y cx cy) * sg (crV ax ay bx b_y dx dy) < 0)
theorem sg_in (n : Int) : -1 ≤ sg n ∧ sg n ≤ 1 := by unfold sg; split <;> (try split) <;> omega
theorem sg_mul_in (m n : Int) : -1 ≤ sg m * sg n ∧ sg m * sg n ≤ 1 := by
  have h1 : ∀ k : Int, sg k = 1 ∨ sg k = -1 ∨ sg k = 0 := fun k => by unfold sg; split <;> (try split) <;> omega
  rcases h1 m with e | e | e <;> rcases h1 n with f | f | f <;> (rw [e, f]; decide)

set_option maxHeartbeats 800000 in
theorem parts_any (ax ay bx b_y cx cy dx dy : Int) (w : World) :
    Calls Try.prog 125 #[.agg #[.int .i64 ax, .int .i64 ay], .agg #[.int .i64 bx, .int .i64 b_y], .agg #[.int .i64 cx, .int .i64 cy], .agg #[.int .i64 dx, .int .i64 dy]] w
      fun e w' => e = .returned (.bool (parB ax ay bx b_y cx cy dx dy)) ∧ Below w.heap.size w w' := by
  unfold parB
  obtain ⟨hi1, hi2⟩ := sg_mul_in (crV ax ay bx b_y cx cy) (crV ax ay bx b_y dx dy)
  have h1 := Lib.hid (sg_sgn (crV ax ay bx b_y cx cy))
  have h2 := Lib.hid (sg_sgn (crV ax ay bx b_y dx dy))
  generalize sg (crV ax ay bx b_y cx cy) = s at *
  generalize sg (crV ax ay bx b_y dx dy) = t at *
  go_enter Try.func125, Try.ntmps125
  go_wp2_with fail
  go_region_held3 (fun w' => w'.cell? ⟨w.heap.size, 0, none⟩ = some (.int .i64 ax) ∧ w'.cell? ⟨w.heap.size, 1, none⟩ = some (.int .i64 ay) ∧ w'.cell? ⟨w.heap.size + 1, 0, none⟩ = some (.int .i64 bx) ∧ w'.cell? ⟨w.heap.size + 1, 1, none⟩ = some (.int .i64 b_y) ∧ w'.cell? ⟨w.heap.size + 1 + 1, 0, none⟩ = some (.int .i64 cx) ∧ w'.cell? ⟨w.heap.size + 1 + 1, 1, none⟩ = some (.int .i64 cy) ∧ w'.cell? ⟨w.heap.size + 1 + 1 + 1, 0, none⟩ = some (.int .i64 dx) ∧ w'.cell? ⟨w.heap.size + 1 + 1 + 1, 1, none⟩ = some (.int .i64 dy) ∧ Below w.heap.size w w') (first | exact hS2 | exact ⟨by go_simp, by go_simp, by go_simp, by go_simp, by go_simp, by go_simp, by go_simp, by go_simp, (b4 _ _ _ _ _).drew⟩) (first | (go_at_call 61; refine (turn_any _ _ _ _ _ _ _).mono ?_; rintro e w2 ⟨rfl, hb2⟩; (first | rw [h1.out] | rw [h2.out]); have hS2 := keep8 hb2 (by assumption)))
  all_goals
    go_wp2
    go_ret
    refine ⟨?_, hS2.2.2.2.2.2.2.2.2⟩
    show Ending.returned (.bool (decide (IntKind.i64.wrap (s * t) < 0))) = _
    rw [IntWalk.i64_in _ (by omega)]

/-- Two new points. -/
def New2 (W : World) (T : TypeId) (x y u v : Int) : World := (W.alloc (.cells #[.int .i64 x, .int .i64 y] T)).alloc (.cells #[.int .i64 u, .int .i64 v] T)
theorem New2.b {W : World} {B : Nat} (T : TypeId) (x y u v : Int) (hB : B ≤ W.heap.size) : Ow (New2 W T x y u v) B (W.heap.size + 1) u v := by
  have h := Ow.new (W.alloc (.cells #[.int .i64 x, .int .i64 y] T)) B T u v (by simp <;> omega)
  rw [World.size_alloc] at h
  exact h
theorem New2.below {w W : World} {n : Nat} (T : TypeId) (x y u v : Int) (h : Below n w W) (hn : n ≤ W.heap.size) : Below n w (New2 W T x y u v) := h.trans ((b2 W _ _).mono hn)
theorem New2.size (W : World) (T : TypeId) (x y u v : Int) : (New2 W T x y u v).heap.size = W.heap.size + 1 + 1 := by
  unfold New2; simp

set_option maxHeartbeats 2000000 in
theorem online_any (ax ay bx b_y cx cy dx dy : Int) (w : World) :
    Calls Try.prog 111 #[.agg #[.int .i64 ax, .int .i64 ay], .agg #[.int .i64 bx, .int .i64 b_y], .agg #[.int .i64 cx, .int .i64 cy], .agg #[.int .i64 dx, .int .i64 dy]] w
      fun e w' => e = .returned (.int .i64 (linI (ax, ay) (bx, b_y) (cx, cy) (dx, dy))) ∧ Below w.heap.size w w' := by
  go_enter Try.func111, Try.ntmps111
  go_wp2_with fail
  refine (inorder_any (ax, ay) (bx, b_y) _).mono ?_
  rintro e w1 ⟨rfl, hb1⟩
  generalize h1 : inO (ax, ay) (bx, b_y) = r1
  have H1 := Lib.hid h1
  have pA : Ow w1 w.heap.size w.heap.size ax ay := Ow.keep hb1 ⟨by omega, by go_simp, by go_simp, by go_simp, by go_simp⟩
  have pB : Ow w1 w.heap.size (w.heap.size + 1) bx b_y := Ow.keep hb1 ⟨by omega, by go_simp, by go_simp, by go_simp, by go_simp⟩
  have pC : Ow w1 w.heap.size (w.heap.size + 1 + 1) cx cy := Ow.keep hb1 ⟨by omega, by go_simp, by go_simp, by go_simp, by go_simp⟩
  have pD : Ow w1 w.heap.size (w.heap.size + 1 + 1 + 1) dx dy := Ow.keep hb1 ⟨by omega, by go_simp, by go_simp, by go_simp, by go_simp⟩
  have hB1 : Below w.heap.size w w1 := (b4 _ _ _ _ _).trans (hb1.mono (by simp <;> omega))
  have PA := Lib.hid pA; have PB := Lib.hid pB; have PC := Lib.hid pC; have PD := Lib.hid pD; have HB1 := Lib.hid hB1
  obtain ⟨_, a0, a1, a2, a3⟩ := pA
  obtain ⟨_, b0, b1', b2', b3'⟩ := pB
  obtain ⟨_, c0, c1, c2, c3⟩ := pC
  obtain ⟨_, d0, d1, d2, d3⟩ := pD
  clear hb1 hB1 h1
  go_wp2_with fail
  refine (inorder_any (cx, cy) (dx, dy) _).mono ?_
  rintro e w2 ⟨rfl, hb2⟩
  generalize h2 : inO (cx, cy) (dx, dy) = r2
  have H2 := Lib.hid h2
  have pA : Ow w2 w.heap.size w.heap.size r1.1.1 r1.1.2 := Ow.keep hb2 ((PA.out.put _ _).other _ _ (by omega))
  have pB : Ow w2 w.heap.size (w.heap.size + 1) r1.2.1 r1.2.2 := Ow.keep hb2 ((PB.out.other _ _ (by omega)).put _ _)
  have pC : Ow w2 w.heap.size (w.heap.size + 1 + 1) cx cy := Ow.keep hb2 ((PC.out.other _ _ (by omega)).other _ _ (by omega))
  have pD : Ow w2 w.heap.size (w.heap.size + 1 + 1 + 1) dx dy := Ow.keep hb2 ((PD.out.other _ _ (by omega)).other _ _ (by omega))
  have hB2 : Below w.heap.size w w2 := (Put.below (k := w.heap.size + 1) _ _ (Put.below (k := w.heap.size) _ _ HB1.out (by omega)) (by omega)).trans (hb2.mono (by have := HB1.out.size; simp [World.setCell]; omega))
  have PA := Lib.hid pA; have PB := Lib.hid pB; have PC := Lib.hid pC; have PD := Lib.hid pD; have HB2 := Lib.hid hB2
  clear a0 a1 a2 a3 b0 b1' b2' b3' c0 c1 c2 c3 d0 d1 d2 d3
  obtain ⟨_, a0, a1, a2, a3⟩ := pA
  obtain ⟨_, b0, b1', b2', b3'⟩ := pB
  obtain ⟨_, c0, c1, c2, c3⟩ := pC
  obtain ⟨_, d0, d1, d2, d3⟩ := pD
  clear hb2 hB2 h2 HB1
  go_wp2_with fail
  refine (inorder_any r1.1 r2.1 _).mono ?_
  rintro e w3 ⟨rfl, hb3⟩
  generalize h3 : inO r1.1 r2.1 = r3
  have H3 := Lib.hid h3
  have pB : Ow w3 w.heap.size (w.heap.size + 1) r1.2.1 r1.2.2 := Ow.keep hb3 ((PB.out.other _ _ (by omega)).other _ _ (by omega))
  have pD : Ow w3 w.heap.size (w.heap.size + 1 + 1 + 1) r2.2.1 r2.2.2 := Ow.keep hb3 ((PD.out.other _ _ (by omega)).put _ _)
  have hB3 : Below w.heap.size w w3 := (Put.below (k := w.heap.size + 1 + 1 + 1) _ _ (Put.below (k := w.heap.size + 1 + 1) _ _ HB2.out (by omega)) (by omega)).trans (hb3.mono (by have := HB2.out.size; simp [World.setCell]; omega))
  have PB := Lib.hid pB; have PD := Lib.hid pD; have HB3 := Lib.hid hB3
  have hD := pD.lt
  have n1 : w.heap.size + 1 < w3.heap.size := by omega
  have n2 : w.heap.size < w3.heap.size := by omega
  have n3 : w.heap.size + 1 + 1 + 1 < w3.heap.size := by omega
  have n4 : w.heap.size + 1 + 1 < w3.heap.size := by omega
  clear a0 a1 a2 a3 b0 b1' b2' b3' c0 c1 c2 c3 d0 d1 d2 d3
  obtain ⟨_, b0, b1', b2', b3'⟩ := pB
  obtain ⟨_, d0, d1, d2, d3⟩ := pD
  clear hb3 hB3 h3 HB2 hD
  go_wp2_with fail
  refine (inorder_any r1.2 r2.2 _).mono ?_
  rintro e w4 ⟨rfl, hb4⟩
  generalize h4 : inO r1.2 r2.2 = r4
  have H4 := Lib.hid h4
  have pL : Ow w4 w.heap.size (w3.heap.size + 1) r3.2.1 r3.2.2 := Ow.keep hb4 (New2.b 24 r3.1.1 r3.1.2 r3.2.1 r3.2.2 (HB3.out.size))
  have hB4 : Below w.heap.size w w4 := (New2.below 24 r3.1.1 r3.1.2 r3.2.1 r3.2.2 HB3.out HB3.out.size).trans (hb4.mono (by have := HB3.out.size; have := New2.size w3 24 r3.1.1 r3.1.2 r3.2.1 r3.2.2; change _ ≤ (New2 w3 24 r3.1.1 r3.1.2 r3.2.1 r3.2.2).heap.size; omega))
  have HL := Lib.hid pL; have HB4 := Lib.hid hB4
  have hl := pL.lt
  have n5 : w3.heap.size + 1 < w4.heap.size := by omega
  have n6 : w3.heap.size < w4.heap.size := by omega
  clear b0 b1' b2' b3' d0 d1 d2 d3 n1 n2 n3 n4
  obtain ⟨_, b0, b1', b2', b3'⟩ := pL
  clear hb4 hB4 h4 hl
  have q := eq_pt r3.2.1 r3.2.2 r4.1.1 r4.1.2
  have HV : Hid (linI (ax, ay) (bx, b_y) (cx, cy) (dx, dy) = if eqB r3.2.1 r3.2.2 r4.1.1 r4.1.2 then 1 else if lesB r3.2.1 r3.2.2 r4.1.1 r4.1.2 then 4 else 0) := by
    refine Lib.hid ?_
    unfold linI lowP highP
    rw [H1.out, H2.out, H3.out, H4.out]
  generalize eqB r3.2.1 r3.2.2 r4.1.1 r4.1.2 = eq at q HV
  have HB5 := Lib.hid (New2.below 24 r4.1.1 r4.1.2 r4.2.1 r4.2.2 HB4.out HB4.out.size)
  clear H1 H2 H3 H4
  cases eq
  · have hl := Lib.hid (les_less r3.2.1 r3.2.2 r4.1.1 r4.1.2)
    generalize lesB r3.2.1 r3.2.2 r4.1.1 r4.1.2 = l at *
    go_wp2_with fail
    refine (less_any _ _ _ _ _).mono ?_
    rintro e w5 ⟨rfl, hb5⟩
    rw [hl.out]
    have HB6 := Lib.hid (HB5.out.trans (hb5.mono HB5.out.size))
    cases l
    · go_wp2
      go_ret
      exact ⟨ret_int (by have h := HV.out; simp at h; exact h.symm), HB6.out⟩
    · go_wp2
      go_ret
      exact ⟨ret_int (by have h := HV.out; simp at h; exact h.symm), HB6.out⟩
  · go_wp2
    go_ret
    exact ⟨ret_int (by have h := HV.out; simp at h; exact h.symm), HB5.out⟩
theorem onI_B (ax ay bx b_y px py : Int) : onI ax ay bx b_y px py = onB ax ay bx b_y px py := by
  rw [Bool.eq_iff_iff, onI_iff, onB_iff]
end Go.Proofs.Ytkibjbbhiclkmaa
