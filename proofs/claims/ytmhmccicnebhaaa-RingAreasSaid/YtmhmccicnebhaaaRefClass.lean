/- The walk of the document's six classes. -/
import Derived.Test.YtmhmccicnebhaaaSegWalk
import Derived.Test.YtmhmccicnebhaaaClsSwap
import Derived.Deep.DeepCutAuto
import Derived.BigRegion
import Derived.RegionTactic
namespace Go.Proofs.Ytmhmccicnebhaaa
open Go.RowKit

theorem req_pt (ax ay bx b_y : Int) (w : World) : Sem.run Try.prog (binOp .eql 28 (.agg #[.int .i64 ax, .int .i64 ay]) (.agg #[.int .i64 bx, .int .i64 b_y])) w = .ok (.bool (eqB ax ay bx b_y)) w := by
  have u3 := Try.underlying3
  have hS : Try.prog.underlying 28 = some (.struct (Try.prog.fieldsOf 28)) := by kernel_rfl
  have hp : Try.prog.stoodInHeld 28 = false := by kernel_rfl
  rw [run_eql_struct, show (10000 : Nat) = 9999 + 1 from rfl, run_equalIn_agg w 9999 28 _ _ hS hp]
  simp only [Program.fieldsOf, Try.underlying28]
  unfold eqB
  go_simp
  by_cases h1 : ax = bx <;> by_cases h2 : ay = b_y <;> simp [h1, h2]
theorem onI_B (ax ay bx b_y px py : Int) : onI ax ay bx b_y px py = onB ax ay bx b_y px py := by
  rw [Bool.eq_iff_iff, onI_iff, onB_iff]

/-- The four points, and two of them once more in a slice. -/
def RS (w : World) (ax ay bx b_y cx cy dx dy : Int) (B : Nat) (px py qx qy : Int) (W : World) : Prop := W.cell? ⟨w.heap.size, 0, none⟩ = some (.int .i64 ax) ∧ W.cell? ⟨w.heap.size, 1, none⟩ = some (.int .i64 ay) ∧ W.cell? ⟨w.heap.size + 1, 0, none⟩ = some (.int .i64 bx) ∧ W.cell? ⟨w.heap.size + 1, 1, none⟩ = some (.int .i64 b_y) ∧ W.cell? ⟨w.heap.size + 1 + 1, 0, none⟩ = some (.int .i64 cx) ∧ W.cell? ⟨w.heap.size + 1 + 1, 1, none⟩ = some (.int .i64 cy) ∧ W.cell? ⟨w.heap.size + 1 + 1 + 1, 0, none⟩ = some (.int .i64 dx) ∧ W.cell? ⟨w.heap.size + 1 + 1 + 1, 1, none⟩ = some (.int .i64 dy) ∧ (W.cell? ⟨B, 0, none⟩ = some (.int .i64 px) ∧ W.cell? ⟨B, 1, none⟩ = some (.int .i64 py) ∧ W.cell? ⟨B, 2, none⟩ = some (.int .i64 qx) ∧ W.cell? ⟨B, 3, none⟩ = some (.int .i64 qy)) ∧ Below w.heap.size w W
theorem RS.keep {w W w1 : World} {ax ay bx b_y cx cy dx dy : Int} {B : Nat} {px py qx qy : Int} (hb : Below W.heap.size W w1) (h : RS w ax ay bx b_y cx cy dx dy B px py qx qy W) : RS w ax ay bx b_y cx cy dx dy B px py qx qy w1 := by
  obtain ⟨h0, h1, h2, h3, h4, h5, h6, h7, ⟨k0, k1, k2, k3⟩, hB⟩ := h
  exact ⟨cell_later hb h0, cell_later hb h1, cell_later hb h2, cell_later hb h3, cell_later hb h4, cell_later hb h5, cell_later hb h6, cell_later hb h7, ⟨cell_later hb k0, cell_later hb k1, cell_later hb k2, cell_later hb k3⟩, hB.trans (hb.mono hB.size)⟩
theorem RS.drewN {w W : World} {ax ay bx b_y cx cy dx dy : Int} {B : Nat} {px py qx qy : Int} (j : Nat) (h : RS w ax ay bx b_y cx cy dx dy B px py qx qy W) : RS w ax ay bx b_y cx cy dx dy B px py qx qy (W.drewN j) := by
  obtain ⟨h0, h1, h2, h3, h4, h5, h6, h7, ⟨k0, k1, k2, k3⟩, hB⟩ := h
  exact ⟨h0, h1, h2, h3, h4, h5, h6, h7, ⟨k0, k1, k2, k3⟩, ⟨hB.os, hB.tape, hB.output, hB.size, hB.block⟩⟩
theorem RS.is {w W : World} {ax ay bx b_y cx cy dx dy : Int} {B : Nat} {px py qx qy : Int} (h : RS w ax ay bx b_y cx cy dx dy B px py qx qy W) : W.cell? ⟨w.heap.size, 0, none⟩ = some (.int .i64 ax) ∧ W.cell? ⟨w.heap.size, 1, none⟩ = some (.int .i64 ay) ∧ W.cell? ⟨w.heap.size + 1, 0, none⟩ = some (.int .i64 bx) ∧ W.cell? ⟨w.heap.size + 1, 1, none⟩ = some (.int .i64 b_y) ∧ W.cell? ⟨w.heap.size + 1 + 1, 0, none⟩ = some (.int .i64 cx) ∧ W.cell? ⟨w.heap.size + 1 + 1, 1, none⟩ = some (.int .i64 cy) ∧ W.cell? ⟨w.heap.size + 1 + 1 + 1, 0, none⟩ = some (.int .i64 dx) ∧ W.cell? ⟨w.heap.size + 1 + 1 + 1, 1, none⟩ = some (.int .i64 dy) ∧ (W.cell? ⟨B, 0, none⟩ = some (.int .i64 px) ∧ W.cell? ⟨B, 1, none⟩ = some (.int .i64 py) ∧ W.cell? ⟨B, 2, none⟩ = some (.int .i64 qx) ∧ W.cell? ⟨B, 3, none⟩ = some (.int .i64 qy)) ∧ Below w.heap.size w W := h
theorem keep12b {w W w1 : World} {a0 a1 a2 a3 a4 a5 a6 a7 a8 a9 a10 a11 : Addr} {v0 v1 v2 v3 v4 v5 v6 v7 v8 v9 v10 v11 : Value} (hb : Below W.heap.size W w1) (h : W.cell? a0 = some v0 ∧ W.cell? a1 = some v1 ∧ W.cell? a2 = some v2 ∧ W.cell? a3 = some v3 ∧ W.cell? a4 = some v4 ∧ W.cell? a5 = some v5 ∧ W.cell? a6 = some v6 ∧ W.cell? a7 = some v7 ∧ (W.cell? a8 = some v8 ∧ W.cell? a9 = some v9 ∧ W.cell? a10 = some v10 ∧ W.cell? a11 = some v11) ∧ Below w.heap.size w W) :
    w1.cell? a0 = some v0 ∧ w1.cell? a1 = some v1 ∧ w1.cell? a2 = some v2 ∧ w1.cell? a3 = some v3 ∧ w1.cell? a4 = some v4 ∧ w1.cell? a5 = some v5 ∧ w1.cell? a6 = some v6 ∧ w1.cell? a7 = some v7 ∧ (w1.cell? a8 = some v8 ∧ w1.cell? a9 = some v9 ∧ w1.cell? a10 = some v10 ∧ w1.cell? a11 = some v11) ∧ Below w.heap.size w w1 := by
  obtain ⟨h0, h1, h2, h3, h4, h5, h6, h7, ⟨k0, k1, k2, k3⟩, hB⟩ := h
  exact ⟨cell_later hb h0, cell_later hb h1, cell_later hb h2, cell_later hb h3, cell_later hb h4, cell_later hb h5, cell_later hb h6, cell_later hb h7, ⟨cell_later hb k0, cell_later hb k1, cell_later hb k2, cell_later hb k3⟩, hB.trans (hb.mono hB.size)⟩
/-- What has been counted behind k rounds. -/
def cnt2 (x y : Int) (k : Nat) : Int := if k = 0 then 0 else if k = 1 then x else x + y
theorem cnt2_0 (x y : Int) : cnt2 x y 0 = 0 := rfl
theorem cnt2_1 (x y : Int) : cnt2 x y 1 = x := rfl
theorem cnt2_2 (x y : Int) : cnt2 x y 2 = x + y := rfl
theorem bi_in (b : Bool) : 0 ≤ bi b ∧ bi b ≤ 1 := by cases b <;> decide

set_option maxRecDepth 100000 in
set_option maxHeartbeats 4000000 in
theorem rclass_any (ax ay bx b_y cx cy dx dy : Int) (w : World) (h : ok4 ax ay bx b_y cx cy dx dy = true) :
    Calls Try.prog 17 #[.agg #[.int .i64 ax, .int .i64 ay], .agg #[.int .i64 bx, .int .i64 b_y], .agg #[.int .i64 cx, .int .i64 cy], .agg #[.int .i64 dx, .int .i64 dy]] w
      fun e w' => e = .returned (.int .i64 (clsI ax ay bx b_y cx cy dx dy)) ∧ Below w.heap.size w w' := by
  obtain ⟨k1, k2, k3, k4⟩ := ok4_3 h
  have O1 := Lib.hid k1; have O2 := Lib.hid k2; have O3 := Lib.hid k3; have O4 := Lib.hid k4
  have q1 := req_pt ax ay cx cy
  have q2 := req_pt bx b_y dx dy
  have q3 := req_pt ax ay dx dy
  have q4 := req_pt bx b_y cx cy
  have HI := Lib.hid (init8 w 28 ax ay bx b_y cx cy dx dy)
  have HV : Hid (clsI ax ay bx b_y cx cy dx dy = if eqB ax ay cx cy && eqB bx b_y dx dy || eqB ax ay dx dy && eqB bx b_y cx cy then 5
    else if 1 < bi (onI cx cy dx dy ax ay) + bi (onI cx cy dx dy bx b_y) + (bi (onI ax ay bx b_y cx cy) + bi (onI ax ay bx b_y dx dy)) - (bi (onI cx cy dx dy ax ay && (eqB ax ay cx cy || eqB ax ay dx dy)) + bi (onI cx cy dx dy bx b_y && (eqB bx b_y cx cy || eqB bx b_y dx dy))) then 4
    else if bi (onI cx cy dx dy ax ay) + bi (onI cx cy dx dy bx b_y) + (bi (onI ax ay bx b_y cx cy) + bi (onI ax ay bx b_y dx dy)) - (bi (onI cx cy dx dy ax ay && (eqB ax ay cx cy || eqB ax ay dx dy)) + bi (onI cx cy dx dy bx b_y && (eqB bx b_y cx cy || eqB bx b_y dx dy))) = 1 then (if bi (onI cx cy dx dy ax ay && (eqB ax ay cx cy || eqB ax ay dx dy)) + bi (onI cx cy dx dy bx b_y && (eqB bx b_y cx cy || eqB bx b_y dx dy)) = 1 then 1 else 2)
    else if sgn (crI ax ay bx b_y cx cy) ≠ sgn (crI ax ay bx b_y dx dy) ∧ sgn (crI cx cy dx dy ax ay) ≠ sgn (crI cx cy dx dy bx b_y) then 3 else 0) := by
    refine Lib.hid ?_
    simp only [onI_B]
    rfl
  clear h k1 k2 k3 k4
  generalize hk1 : onI cx cy dx dy ax ay = oa at HV
  generalize hk2 : onI cx cy dx dy bx b_y = ob at HV
  generalize hk3 : onI ax ay bx b_y cx cy = oc at HV
  generalize hk4 : onI ax ay bx b_y dx dy = od at HV
  have KA := Lib.hid hk1; have KB := Lib.hid hk2; have KC := Lib.hid hk3; have KD := Lib.hid hk4
  clear hk1 hk2 hk3 hk4
  generalize eqB ax ay cx cy = e1 at q1 HV
  generalize eqB bx b_y dx dy = e2 at q2 HV
  generalize eqB ax ay dx dy = e3 at q3 HV
  generalize eqB bx b_y cx cy = e4 at q4 HV
  go_enter Try.func17, Try.ntmps17
  go_upto_region 1 with fail
  go_cut [37] (fun s37 wx => s37 = .bool (e1 && e2 || e3 && e4) ∧ wx = ((((w.alloc (.cells #[.int .i64 ax, .int .i64 ay] 28)).alloc (.cells #[.int .i64 bx, .int .i64 b_y] 28)).alloc (.cells #[.int .i64 cx, .int .i64 cy] 28)).alloc (.cells #[.int .i64 dx, .int .i64 dy] 28)))
  case first =>
    go_wp2_with fail
    all_goals
      go_meet
      exact ⟨by simp_all, rfl⟩
  case rest =>
    obtain ⟨rfl, rfl⟩ := hcut
    cases hs : (e1 && e2 || e3 && e4)
    · rw [hs] at HV
      simp only [Bool.false_eq_true, if_false] at HV
      have Q1 := Lib.hid q1; have Q2 := Lib.hid q2; have Q3 := Lib.hid q3; have Q4 := Lib.hid q4
      have HI2 : Hid (RS w ax ay bx b_y cx cy dx dy (w.heap.size + 1 + 1 + 1 + 1) ax ay bx b_y ((((((w.alloc (.cells #[.int .i64 ax, .int .i64 ay] 28)).alloc (.cells #[.int .i64 bx, .int .i64 b_y] 28)).alloc (.cells #[.int .i64 cx, .int .i64 cy] 28)).alloc (.cells #[.int .i64 dx, .int .i64 dy] 28)).alloc (.cells #[.int .i64 ax, .int .i64 ay, .int .i64 bx, .int .i64 b_y] 28)))) :=
        Lib.hid ⟨by go_simp, by go_simp, by go_simp, by go_simp, by go_simp, by go_simp, by go_simp, by go_simp, ⟨by go_simp, by go_simp, by go_simp, by go_simp⟩, b5 _ _ _ _ _ _⟩
      clear q1 q2 q3 q4 HI hs
      go_wp2
      go_loopw [9, 10, 12] (fun n bo i wr => ∃ k : Nat, k ≤ 2 ∧ i = .int .i64 k ∧ n = .int .i64 (cnt2 (bi oa) (bi ob) k) ∧ bo = .int .i64 (cnt2 (bi (oa && (e1 || e3))) (bi (ob && (e4 || e2))) k) ∧ RS w ax ay bx b_y cx cy dx dy (w.heap.size + 1 + 1 + 1 + 1) ax ay bx b_y wr) (fun _ _ i _ => 2 - (intOf i).toNat)
      case atStart => exact ⟨0, by omega, rfl, rfl, rfl, HI2.out⟩
      case round =>
        obtain ⟨k, hk, rfl, rfl, rfl, hR⟩ := hrel
        have HR := Lib.hid hR
        have hS := hR.is
        clear hR
        by_cases h0 : k = 0
        ·
          subst h0
          rw [cnt2_0, cnt2_0]
          have q1 := Q1.out
          have q2 := Q3.out
          go_wp2_with fail
          go_region_held3 (fun W => W.cell? ⟨w.heap.size, 0, none⟩ = some (.int .i64 ax) ∧ W.cell? ⟨w.heap.size, 1, none⟩ = some (.int .i64 ay) ∧ W.cell? ⟨w.heap.size + 1, 0, none⟩ = some (.int .i64 bx) ∧ W.cell? ⟨w.heap.size + 1, 1, none⟩ = some (.int .i64 b_y) ∧ W.cell? ⟨w.heap.size + 1 + 1, 0, none⟩ = some (.int .i64 cx) ∧ W.cell? ⟨w.heap.size + 1 + 1, 1, none⟩ = some (.int .i64 cy) ∧ W.cell? ⟨w.heap.size + 1 + 1 + 1, 0, none⟩ = some (.int .i64 dx) ∧ W.cell? ⟨w.heap.size + 1 + 1 + 1, 1, none⟩ = some (.int .i64 dy) ∧ (W.cell? ⟨w.heap.size + 1 + 1 + 1 + 1, 0, none⟩ = some (.int .i64 ax) ∧ W.cell? ⟨w.heap.size + 1 + 1 + 1 + 1, 1, none⟩ = some (.int .i64 ay) ∧ W.cell? ⟨w.heap.size + 1 + 1 + 1 + 1, 2, none⟩ = some (.int .i64 bx) ∧ W.cell? ⟨w.heap.size + 1 + 1 + 1 + 1, 3, none⟩ = some (.int .i64 b_y)) ∧ Below w.heap.size w W) (first | exact hS5 | exact ⟨hS.1, hS.2.1, hS.2.2.1, hS.2.2.2.1, hS.2.2.2.2.1, hS.2.2.2.2.2.1, hS.2.2.2.2.2.2.1, hS.2.2.2.2.2.2.2.1, hS.2.2.2.2.2.2.2.2.1, hS.2.2.2.2.2.2.2.2.2.drew⟩ | assumption) (first | (go_at_call 56; (with_reducible refine (ron_any _ _ _ _ _ _ _ O3.out).mono ?_); rintro e w5 ⟨rfl, hb5⟩; rw [KA.out]; have hS5 := keep12b hb5 (by assumption)))
          cases oa
          · have HR5 := Lib.hid (show RS w ax ay bx b_y cx cy dx dy (w.heap.size + 1 + 1 + 1 + 1) ax ay bx b_y _ from hS5)
            go_wp2
            go_roundw
            case rel => exact ⟨1, by omega, rfl, rfl, rfl, HR5.out⟩
            case measure => simp [intOf]
          · have HR5 := Lib.hid (show RS w ax ay bx b_y cx cy dx dy (w.heap.size + 1 + 1 + 1 + 1) ax ay bx b_y _ from hS5)
            cases e1 <;> cases e3
            all_goals
              go_wp2_with fail
              go_quiet (fail)
              go_wp2
              go_roundw
              case rel => exact ⟨1, by omega, rfl, rfl, rfl, HR5.out.drewN _⟩
              case measure => simp [intOf]
        · by_cases h1 : k = 1
          ·
            subst h1
            rw [cnt2_1, cnt2_1]
            have hN := bi_in oa
            have hM := bi_in (oa && (e1 || e3))
            generalize bi oa = N at *
            generalize bi (oa && (e1 || e3)) = M at *
            have q1 := Q4.out
            have q2 := Q2.out
            go_wp2_with fail
            go_region_held3 (fun W => W.cell? ⟨w.heap.size, 0, none⟩ = some (.int .i64 ax) ∧ W.cell? ⟨w.heap.size, 1, none⟩ = some (.int .i64 ay) ∧ W.cell? ⟨w.heap.size + 1, 0, none⟩ = some (.int .i64 bx) ∧ W.cell? ⟨w.heap.size + 1, 1, none⟩ = some (.int .i64 b_y) ∧ W.cell? ⟨w.heap.size + 1 + 1, 0, none⟩ = some (.int .i64 cx) ∧ W.cell? ⟨w.heap.size + 1 + 1, 1, none⟩ = some (.int .i64 cy) ∧ W.cell? ⟨w.heap.size + 1 + 1 + 1, 0, none⟩ = some (.int .i64 dx) ∧ W.cell? ⟨w.heap.size + 1 + 1 + 1, 1, none⟩ = some (.int .i64 dy) ∧ (W.cell? ⟨w.heap.size + 1 + 1 + 1 + 1, 0, none⟩ = some (.int .i64 ax) ∧ W.cell? ⟨w.heap.size + 1 + 1 + 1 + 1, 1, none⟩ = some (.int .i64 ay) ∧ W.cell? ⟨w.heap.size + 1 + 1 + 1 + 1, 2, none⟩ = some (.int .i64 bx) ∧ W.cell? ⟨w.heap.size + 1 + 1 + 1 + 1, 3, none⟩ = some (.int .i64 b_y)) ∧ Below w.heap.size w W) (first | exact hS5 | exact ⟨hS.1, hS.2.1, hS.2.2.1, hS.2.2.2.1, hS.2.2.2.2.1, hS.2.2.2.2.2.1, hS.2.2.2.2.2.2.1, hS.2.2.2.2.2.2.2.1, hS.2.2.2.2.2.2.2.2.1, hS.2.2.2.2.2.2.2.2.2.drew⟩ | assumption) (first | (go_at_call 56; (with_reducible refine (ron_any _ _ _ _ _ _ _ O4.out).mono ?_); rintro e w5 ⟨rfl, hb5⟩; rw [KB.out]; have hS5 := keep12b hb5 (by assumption)))
            cases ob
            · have HR5 := Lib.hid (show RS w ax ay bx b_y cx cy dx dy (w.heap.size + 1 + 1 + 1 + 1) ax ay bx b_y _ from hS5)
              go_wp2
              go_roundw
              case rel => exact ⟨2, by omega, rfl, by rw [cnt2_2]; simp [bi], by rw [cnt2_2]; simp [bi], HR5.out⟩
              case measure => simp [intOf]
            · have HR5 := Lib.hid (show RS w ax ay bx b_y cx cy dx dy (w.heap.size + 1 + 1 + 1 + 1) ax ay bx b_y _ from hS5)
              cases e4 <;> cases e2
              all_goals
                go_wp2_with fail
                go_quiet (fail)
                go_wp2
                go_roundw
                case rel => exact ⟨2, by omega, rfl, by rw [cnt2_2]; simp [bi], by rw [cnt2_2]; simp [bi], HR5.out.drewN _⟩
                case measure => simp [intOf]
          · obtain rfl : k = 2 := by omega
            rw [cnt2_2, cnt2_2, show ((2 : Nat) : Int) = 2 from rfl]
            have hN1 := bi_in oa
            have hN2 := bi_in ob
            have hM1 := bi_in (oa && (e1 || e3))
            have hM2 := bi_in (ob && (e4 || e2))
            generalize bi oa = N1 at *
            generalize bi ob = N2 at *
            generalize bi (oa && (e1 || e3)) = M1 at *
            generalize bi (ob && (e4 || e2)) = M2 at *
            clear Q1 Q2 Q3 Q4
            generalize hB2 : wr.heap.size = B2
            have HI3 : Hid (RS w ax ay bx b_y cx cy dx dy B2 cx cy dx dy (wr.alloc (.cells #[.int .i64 cx, .int .i64 cy, .int .i64 dx, .int .i64 dy] 28))) := by
              have hb := b1 wr (.cells #[.int .i64 cx, .int .i64 cy, .int .i64 dx, .int .i64 dy] 28)
              refine Lib.hid ⟨cell_later hb hS.1, cell_later hb hS.2.1, cell_later hb hS.2.2.1, cell_later hb hS.2.2.2.1, cell_later hb hS.2.2.2.2.1, cell_later hb hS.2.2.2.2.2.1, cell_later hb hS.2.2.2.2.2.2.1, cell_later hb hS.2.2.2.2.2.2.2.1, ?_, hS.2.2.2.2.2.2.2.2.2.trans (hb.mono hS.2.2.2.2.2.2.2.2.2.size)⟩
              rw [← hB2]
              exact ⟨by go_simp, by go_simp, by go_simp, by go_simp⟩
            have HB2 := Lib.hid hB2
            clear HR hB2
            go_wp2
            clear hS
            rw [HB2.out]
            go_loopw [13, 14] (fun m i wr => ∃ k : Nat, k ≤ 2 ∧ i = .int .i64 k ∧ m = .int .i64 (cnt2 (bi oc) (bi od) k) ∧ RS w ax ay bx b_y cx cy dx dy B2 cx cy dx dy wr) (fun _ i _ => 2 - (intOf i).toNat)
            case atStart => exact ⟨0, by omega, rfl, rfl, HI3.out⟩
            case round =>
              clear HI3 HB2
              obtain ⟨k, hk, rfl, rfl, hR⟩ := hrel
              have HR := Lib.hid hR
              have hS := hR.is
              clear hR
              by_cases h0 : k = 0
              ·
                subst h0
                rw [cnt2_0]
                go_wp2_with fail
                go_region_held3 (fun W => W.cell? ⟨w.heap.size, 0, none⟩ = some (.int .i64 ax) ∧ W.cell? ⟨w.heap.size, 1, none⟩ = some (.int .i64 ay) ∧ W.cell? ⟨w.heap.size + 1, 0, none⟩ = some (.int .i64 bx) ∧ W.cell? ⟨w.heap.size + 1, 1, none⟩ = some (.int .i64 b_y) ∧ W.cell? ⟨w.heap.size + 1 + 1, 0, none⟩ = some (.int .i64 cx) ∧ W.cell? ⟨w.heap.size + 1 + 1, 1, none⟩ = some (.int .i64 cy) ∧ W.cell? ⟨w.heap.size + 1 + 1 + 1, 0, none⟩ = some (.int .i64 dx) ∧ W.cell? ⟨w.heap.size + 1 + 1 + 1, 1, none⟩ = some (.int .i64 dy) ∧ (W.cell? ⟨B2, 0, none⟩ = some (.int .i64 cx) ∧ W.cell? ⟨B2, 1, none⟩ = some (.int .i64 cy) ∧ W.cell? ⟨B2, 2, none⟩ = some (.int .i64 dx) ∧ W.cell? ⟨B2, 3, none⟩ = some (.int .i64 dy)) ∧ Below w.heap.size w W) (first | exact hS5 | exact ⟨hS.1, hS.2.1, hS.2.2.1, hS.2.2.2.1, hS.2.2.2.2.1, hS.2.2.2.2.2.1, hS.2.2.2.2.2.2.1, hS.2.2.2.2.2.2.2.1, hS.2.2.2.2.2.2.2.2.1, hS.2.2.2.2.2.2.2.2.2.drew⟩ | assumption) (first | (go_at_call 56; (with_reducible refine (ron_any _ _ _ _ _ _ _ O1.out).mono ?_); rintro e w5 ⟨rfl, hb5⟩; rw [KC.out]; have hS5 := keep12b hb5 (by assumption)))
                have HR5 := Lib.hid (show RS w ax ay bx b_y cx cy dx dy B2 cx cy dx dy _ from hS5)
                cases oc
                · go_wp2
                  go_roundw
                  case rel => exact ⟨1, by omega, rfl, by first | rfl | (rw [cnt2_1]; simp [bi]), HR5.out⟩
                  case measure => simp [intOf]
                · go_wp2
                  go_roundw
                  case rel => exact ⟨1, by omega, rfl, by first | rfl | (rw [cnt2_1]; simp [bi]), HR5.out⟩
                  case measure => simp [intOf]
              · by_cases h1 : k = 1
                ·
                  subst h1
                  rw [cnt2_1]
                  have hP := bi_in oc
                  generalize bi oc = P at *
                  go_wp2_with fail
                  go_region_held3 (fun W => W.cell? ⟨w.heap.size, 0, none⟩ = some (.int .i64 ax) ∧ W.cell? ⟨w.heap.size, 1, none⟩ = some (.int .i64 ay) ∧ W.cell? ⟨w.heap.size + 1, 0, none⟩ = some (.int .i64 bx) ∧ W.cell? ⟨w.heap.size + 1, 1, none⟩ = some (.int .i64 b_y) ∧ W.cell? ⟨w.heap.size + 1 + 1, 0, none⟩ = some (.int .i64 cx) ∧ W.cell? ⟨w.heap.size + 1 + 1, 1, none⟩ = some (.int .i64 cy) ∧ W.cell? ⟨w.heap.size + 1 + 1 + 1, 0, none⟩ = some (.int .i64 dx) ∧ W.cell? ⟨w.heap.size + 1 + 1 + 1, 1, none⟩ = some (.int .i64 dy) ∧ (W.cell? ⟨B2, 0, none⟩ = some (.int .i64 cx) ∧ W.cell? ⟨B2, 1, none⟩ = some (.int .i64 cy) ∧ W.cell? ⟨B2, 2, none⟩ = some (.int .i64 dx) ∧ W.cell? ⟨B2, 3, none⟩ = some (.int .i64 dy)) ∧ Below w.heap.size w W) (first | exact hS5 | exact ⟨hS.1, hS.2.1, hS.2.2.1, hS.2.2.2.1, hS.2.2.2.2.1, hS.2.2.2.2.2.1, hS.2.2.2.2.2.2.1, hS.2.2.2.2.2.2.2.1, hS.2.2.2.2.2.2.2.2.1, hS.2.2.2.2.2.2.2.2.2.drew⟩ | assumption) (first | (go_at_call 56; (with_reducible refine (ron_any _ _ _ _ _ _ _ O2.out).mono ?_); rintro e w5 ⟨rfl, hb5⟩; rw [KD.out]; have hS5 := keep12b hb5 (by assumption)))
                  have HR5 := Lib.hid (show RS w ax ay bx b_y cx cy dx dy B2 cx cy dx dy _ from hS5)
                  cases od
                  · go_wp2
                    go_roundw
                    case rel => exact ⟨2, by omega, rfl, by rw [cnt2_2]; simp [bi], HR5.out⟩
                    case measure => simp [intOf]
                  · go_wp2
                    go_roundw
                    case rel => exact ⟨2, by omega, rfl, by rw [cnt2_2]; simp [bi], HR5.out⟩
                    case measure => simp [intOf]
                · obtain rfl : k = 2 := by omega
                  rw [cnt2_2]
                  have hP1 := bi_in oc
                  have hP2 := bi_in od
                  generalize bi oc = P1 at *
                  generalize bi od = P2 at *
                  have HBel := Lib.hid hS.2.2.2.2.2.2.2.2.2
                  by_cases v1 : 1 < N1 + N2 + (P1 + P2) - (M1 + M2)
                  · have HV2 : Hid (clsI ax ay bx b_y cx cy dx dy = 4) := Lib.hid (by rw [HV.out, if_pos v1])
                    clear hS
                    go_wp2
                    go_ret
                    exact ⟨ret_int HV2.out.symm, HBel.out⟩
                  · by_cases v2 : N1 + N2 + (P1 + P2) - (M1 + M2) = 1
                    · by_cases v3 : M1 + M2 = 1
                      · have HV2 : Hid (clsI ax ay bx b_y cx cy dx dy = 1) := Lib.hid (by rw [HV.out, if_neg v1, if_pos v2, if_pos v3])
                        clear hS
                        go_wp2
                        go_ret
                        exact ⟨ret_int HV2.out.symm, HBel.out⟩
                      · have HV2 : Hid (clsI ax ay bx b_y cx cy dx dy = 2) := Lib.hid (by rw [HV.out, if_neg v1, if_pos v2, if_neg v3])
                        clear hS
                        go_wp2
                        go_ret
                        exact ⟨ret_int HV2.out.symm, HBel.out⟩
                    · have HV2 : Hid (clsI ax ay bx b_y cx cy dx dy = _) := Lib.hid (by rw [HV.out, if_neg v1, if_neg v2])
                      clear HV
                      generalize hs1 : sgn (crI ax ay bx b_y cx cy) = s1 at HV2
                      generalize hs2 : sgn (crI ax ay bx b_y dx dy) = s2 at HV2
                      generalize hs3 : sgn (crI cx cy dx dy ax ay) = s3 at HV2
                      generalize hs4 : sgn (crI cx cy dx dy bx b_y) = s4 at HV2
                      have G1 := Lib.hid hs1; have G2 := Lib.hid hs2; have G3 := Lib.hid hs3; have G4 := Lib.hid hs4
                      clear hs1 hs2 hs3 hs4
                      go_wp2_with fail
                      go_region_held3 (fun W => W.cell? ⟨w.heap.size, 0, none⟩ = some (.int .i64 ax) ∧ W.cell? ⟨w.heap.size, 1, none⟩ = some (.int .i64 ay) ∧ W.cell? ⟨w.heap.size + 1, 0, none⟩ = some (.int .i64 bx) ∧ W.cell? ⟨w.heap.size + 1, 1, none⟩ = some (.int .i64 b_y) ∧ W.cell? ⟨w.heap.size + 1 + 1, 0, none⟩ = some (.int .i64 cx) ∧ W.cell? ⟨w.heap.size + 1 + 1, 1, none⟩ = some (.int .i64 cy) ∧ W.cell? ⟨w.heap.size + 1 + 1 + 1, 0, none⟩ = some (.int .i64 dx) ∧ W.cell? ⟨w.heap.size + 1 + 1 + 1, 1, none⟩ = some (.int .i64 dy) ∧ (W.cell? ⟨B2, 0, none⟩ = some (.int .i64 cx) ∧ W.cell? ⟨B2, 1, none⟩ = some (.int .i64 cy) ∧ W.cell? ⟨B2, 2, none⟩ = some (.int .i64 dx) ∧ W.cell? ⟨B2, 3, none⟩ = some (.int .i64 dy)) ∧ Below w.heap.size w W) (first | exact hS5 | exact ⟨hS.1, hS.2.1, hS.2.2.1, hS.2.2.2.1, hS.2.2.2.2.1, hS.2.2.2.2.2.1, hS.2.2.2.2.2.2.1, hS.2.2.2.2.2.2.2.1, hS.2.2.2.2.2.2.2.2.1, hS.2.2.2.2.2.2.2.2.2.drew⟩ | assumption) (first | (go_at_call 26; (with_reducible refine (rcross_yes _ _ _ _ _ _ _ O1.out).mono ?_); rintro e w5 ⟨rfl, hb5⟩; have hS5 := keep12b hb5 (by assumption)) | (go_at_call 26; (with_reducible refine (rcross_yes _ _ _ _ _ _ _ O2.out).mono ?_); rintro e w5 ⟨rfl, hb5⟩; have hS5 := keep12b hb5 (by assumption)) | (go_at_call 57; refine (sign_any _ _).mono ?_; rintro e w5 ⟨rfl, rfl⟩))
                      have hS := hS5
                      clear hS5
                      go_wp2_with fail
                      go_region_held3 (fun W => W.cell? ⟨w.heap.size, 0, none⟩ = some (.int .i64 ax) ∧ W.cell? ⟨w.heap.size, 1, none⟩ = some (.int .i64 ay) ∧ W.cell? ⟨w.heap.size + 1, 0, none⟩ = some (.int .i64 bx) ∧ W.cell? ⟨w.heap.size + 1, 1, none⟩ = some (.int .i64 b_y) ∧ W.cell? ⟨w.heap.size + 1 + 1, 0, none⟩ = some (.int .i64 cx) ∧ W.cell? ⟨w.heap.size + 1 + 1, 1, none⟩ = some (.int .i64 cy) ∧ W.cell? ⟨w.heap.size + 1 + 1 + 1, 0, none⟩ = some (.int .i64 dx) ∧ W.cell? ⟨w.heap.size + 1 + 1 + 1, 1, none⟩ = some (.int .i64 dy) ∧ (W.cell? ⟨B2, 0, none⟩ = some (.int .i64 cx) ∧ W.cell? ⟨B2, 1, none⟩ = some (.int .i64 cy) ∧ W.cell? ⟨B2, 2, none⟩ = some (.int .i64 dx) ∧ W.cell? ⟨B2, 3, none⟩ = some (.int .i64 dy)) ∧ Below w.heap.size w W) (first | exact hS5 | exact ⟨hS.1, hS.2.1, hS.2.2.1, hS.2.2.2.1, hS.2.2.2.2.1, hS.2.2.2.2.2.1, hS.2.2.2.2.2.2.1, hS.2.2.2.2.2.2.2.1, hS.2.2.2.2.2.2.2.2.1, hS.2.2.2.2.2.2.2.2.2.drew⟩ | assumption) (first | (go_at_call 26; (with_reducible refine (rcross_yes _ _ _ _ _ _ _ O3.out).mono ?_); rintro e w5 ⟨rfl, hb5⟩; have hS5 := keep12b hb5 (by assumption)) | (go_at_call 26; (with_reducible refine (rcross_yes _ _ _ _ _ _ _ O4.out).mono ?_); rintro e w5 ⟨rfl, hb5⟩; have hS5 := keep12b hb5 (by assumption)) | (go_at_call 57; refine (sign_any _ _).mono ?_; rintro e w5 ⟨rfl, rfl⟩))
                      have HBel2 := Lib.hid hS5.2.2.2.2.2.2.2.2.2
                      clear hS5 hS
                      rw [G1.out, G2.out, G3.out, G4.out]
                      go_wp2
                      all_goals
                        go_ret
                        exact ⟨ret_int (by rw [HV2.out]; simp_all), HBel2.out⟩
    · go_wp2
      go_ret
      exact ⟨ret_int (by have h := HV.out; rw [hs] at h; simpa using h.symm), HI.out.2.2.2.2.2.2.2.2⟩
end Go.Proofs.Ytmhmccicnebhaaa
