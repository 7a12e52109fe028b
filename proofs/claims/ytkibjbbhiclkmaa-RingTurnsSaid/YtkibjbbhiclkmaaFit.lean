/- Whether two edges lie as those of a simple ring do. -/
import Derived.Test.YtkibjbbhiclkmaaEdSort
import Derived.Test.YtkibjbbhiclkmaaClsSwap
import Derived.BigQuiet
import Derived.Deep.QuietTactic
namespace Go.Proofs.Ytkibjbbhiclkmaa
open Go.RowKit Go.Shelf

def nbB (n i j : Nat) : Bool := decide ((i + 1) % n = j) || decide ((j + 1) % n = i)
theorem nb_int (n i j : Nat) : nbB n i j = ((((i : Int) + 1).tmod (n : Int) == (j : Int)) || (((j : Int) + 1).tmod (n : Int) == (i : Int))) := by
  have h : ∀ a b : Nat, (((a : Int) + 1).tmod (n : Int) == (b : Int)) = decide ((a + 1) % n = b) := by
    intro a b
    rw [Int.tmod_eq_emod_of_nonneg (by omega), Bool.eq_iff_iff, beq_iff_eq, decide_eq_true_iff, show ((a : Int) + 1) % (n : Int) = (((a + 1) % n : Nat) : Int) from by push_cast; rfl]
    omega
  rw [h, h]; rfl
def fitB (er cl : Int) (nb : Bool) : Bool := decide (er = 0) && (if nb then decide (cl = 1) else decide (cl = 0))
theorem fitB_err {er cl : Int} {nb : Bool} (h : ¬ er = 0) : fitB er cl nb = false := by unfold fitB; simp [h]
theorem fitB_yes (cl : Int) : fitB 0 cl true = (cl == 1) := by unfold fitB; rw [Bool.eq_iff_iff]; simp
theorem fitB_no (cl : Int) : fitB 0 cl false = (cl == 0) := by unfold fitB; rw [Bool.eq_iff_iff]; simp
def fitV (n : Nat) (x y : Ed) : Bool :=
  fitB (errV x.2.1.1 x.2.1.2 x.2.2.1 x.2.2.2 y.2.1.1 y.2.1.2 y.2.2.1 y.2.2.2) (clsV x.2.1.1 x.2.1.2 x.2.2.1 x.2.2.2 y.2.1.1 y.2.1.2 y.2.2.1 y.2.2.2) (nbB n x.1 y.1)

set_option maxRecDepth 100000 in
set_option maxHeartbeats 4000000 in
theorem fit_raw (n i j : Nat) (hn : n ≤ 1000) (hi : i < n) (hj : j < n) (a1 a2 a3 a4 a5 a6 a7 a8 c1 c2 c3 c4 c5 c6 c7 c8 : Int) (W : World) :
    Calls Try.prog 81 #[.agg #[.int .i64 (i : Int), .int .i64 a1, .int .i64 a2, .int .i64 a3, .int .i64 a4, .int .i64 a5, .int .i64 a6, .int .i64 a7, .int .i64 a8], .agg #[.int .i64 (j : Int), .int .i64 c1, .int .i64 c2, .int .i64 c3, .int .i64 c4, .int .i64 c5, .int .i64 c6, .int .i64 c7, .int .i64 c8], .int .i64 (n : Int)] W fun e w' =>
      e = .returned (.bool (fitB (errV a1 a2 a3 a4 c1 c2 c3 c4) (clsV a1 a2 a3 a4 c1 c2 c3 c4) (nbB n i j))) ∧ Below W.heap.size W w' := by
  have hmx : Try.prog.follows .mixedOrders = true := by kernel_rfl
  have hb := b2 W (.cells #[.int .i64 (i : Int), .int .i64 a1, .int .i64 a2, .int .i64 a3, .int .i64 a4, .int .i64 a5, .int .i64 a6, .int .i64 a7, .int .i64 a8] 94) (.cells #[.int .i64 (j : Int), .int .i64 c1, .int .i64 c2, .int .i64 c3, .int .i64 c4, .int .i64 c5, .int .i64 c6, .int .i64 c7, .int .i64 c8] 94)
  have hC := fun V => class_any a1 a2 a3 a4 c1 c2 c3 c4 V
  unfold ClsPost at hC
  generalize clsV a1 a2 a3 a4 c1 c2 c3 c4 = cl at *
  generalize errV a1 a2 a3 a4 c1 c2 c3 c4 = er at *
  have HN := Lib.hid (nb_int n i j)
  generalize nbB n i j = nb at *
  have HC := Lib.hid hC
  have HB := Lib.hid hb
  clear hC hb
  go_enter Try.func81, Try.ntmps81
  go_wp2_with fail
  refine (HC.out _).mono ?_
  rintro e w1 ⟨rfl, hb1⟩
  have hb2 := HB.out.trans (hb1.mono HB.out.size)
  have hs1 : W.heap.size + 2 ≤ w1.heap.size := by have := hb1.size; simpa using this
  have e0 : w1.cell? ⟨W.heap.size, 0, none⟩ = some (.int .i64 (i : Int)) := cell_later hb1 (by go_simp)
  have e1 : w1.cell? ⟨W.heap.size + 1, 0, none⟩ = some (.int .i64 (j : Int)) := cell_later hb1 (by go_simp)
  clear hb1
  by_cases her : er = 0
  · subst her
    have x1 : IntKind.i64.wrap ((i : Int) + 1) = (i : Int) + 1 := IntWalk.i64_in _ (by omega)
    have x2 : IntKind.i64.wrap ((j : Int) + 1) = (j : Int) + 1 := IntWalk.i64_in _ (by omega)
    have hn0 : ¬ (n : Int) = 0 := by omega
    have hn1 : ¬ n = 0 := by omega
    cases g1 : ((i : Int) + 1).tmod (n : Int) == (j : Int)
    · rw [g1, Bool.false_or] at HN
      cases g2 : ((j : Int) + 1).tmod (n : Int) == (i : Int)
      · have e3 : nb = false := HN.out.trans g2
        subst e3
        go_wp2_with fail
        go_quiet (fail)
        have hb3 := below_drewN hb2 nq
        clear e0 e1 hb2 x1 x2 HC HB hs1
        generalize w1.drewN nq = w3 at *
        go_wp2
        go_ret
        exact ⟨ret_bool (fitB_no cl).symm, hb3⟩
      · have e3 : nb = true := HN.out.trans g2
        subst e3
        go_wp2_with fail
        go_quiet (fail)
        have hb3 := below_drewN hb2 nq
        clear e0 e1 hb2 x1 x2 HC HB hs1
        generalize w1.drewN nq = w3 at *
        go_wp2
        go_ret
        exact ⟨ret_bool (fitB_yes cl).symm, hb3⟩
    · rw [g1, Bool.true_or] at HN
      have e3 : nb = true := HN.out
      subst e3
      go_wp2_with fail
      go_quiet (fail)
      have hb3 := below_drewN hb2 nq
      clear e0 e1 hb2 x1 x2 HC HB hs1
      generalize w1.drewN nq = w3 at *
      go_wp2
      go_ret
      exact ⟨ret_bool (fitB_yes cl).symm, hb3⟩
  · have her' : decide (er = 0) = false := by simpa using her
    go_wp2
    go_ret
    exact ⟨ret_bool (fitB_err her).symm, hb2⟩
theorem fit_any (n : Nat) (x y : Ed) (hn : n ≤ 1000) (hx : x.1 < n) (hy : y.1 < n) (W : World) : Calls Try.prog 81 #[.agg (encEd x).toArray, .agg (encEd y).toArray, .int .i64 (n : Int)] W fun e w' => e = .returned (.bool (fitV n x y)) ∧ Below W.heap.size W w' :=
  fit_raw n _ _ hn hx hy _ _ _ _ _ _ _ _ _ _ _ _ _ _ _ _ W
end Go.Proofs.Ytkibjbbhiclkmaa
