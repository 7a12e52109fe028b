/- The walk of SegTurned. -/
import Derived.Test.YtmhmccicnebhaaaKnown2
import Derived.Test.YtmhmccicnebhaaaSegSym
import Derived.Deep.DeepCutAuto
import Derived.BigRegion
import Derived.RegionTactic
namespace Go.Proofs.Ytmhmccicnebhaaa
open Go.RowKit

theorem ok4_swap2 (ax ay bx b_y cx cy dx dy : Int) : ok4 cx cy dx dy ax ay bx b_y = ok4 ax ay bx b_y cx cy dx dy := by
  unfold ok4; cases okp ax ay <;> cases okp bx b_y <;> cases okp cx cy <;> cases okp dx dy <;> rfl
theorem ok4_flip2 (ax ay bx b_y cx cy dx dy : Int) : ok4 bx b_y ax ay cx cy dx dy = ok4 ax ay bx b_y cx cy dx dy := by
  unfold ok4; cases okp ax ay <;> cases okp bx b_y <;> rfl
theorem ends_no {ax ay bx b_y cx cy dx dy : Int} (h : (eqB ax ay bx b_y || eqB cx cy dx dy) = false) : ¬ (ax = bx ∧ ay = b_y) ∧ ¬ (cx = dx ∧ cy = dy) := by
  rw [Bool.or_eq_false_iff] at h
  constructor
  · intro k; have := (eqB_iff _ _ _ _).2 k; rw [h.1] at this; cases this
  · intro k; have := (eqB_iff _ _ _ _).2 k; rw [h.2] at this; cases this
theorem clsV_swap (ax ay bx b_y cx cy dx dy : Int) : clsV cx cy dx dy ax ay bx b_y = clsV ax ay bx b_y cx cy dx dy ∧ errV cx cy dx dy ax ay bx b_y = errV ax ay bx b_y cx cy dx dy := by
  unfold clsV errV
  rw [ok4_swap2, Bool.or_comm (eqB cx cy dx dy)]
  refine ⟨?_, rfl⟩
  cases h : (eqB ax ay bx b_y || eqB cx cy dx dy)
  · obtain ⟨h1, h2⟩ := ends_no h
    rw [cls_swap h1 h2]
  · rfl
theorem clsV_flip (ax ay bx b_y cx cy dx dy : Int) : clsV bx b_y ax ay cx cy dx dy = clsV ax ay bx b_y cx cy dx dy ∧ errV bx b_y ax ay cx cy dx dy = errV ax ay bx b_y cx cy dx dy := by
  unfold clsV errV
  rw [ok4_flip2, eqB_comm bx b_y ax ay, cls_flip]
  exact ⟨rfl, rfl⟩
theorem CutsV.turn {a b : Int × Int} {xs ys : List Int} {L M : List (Int × Int)} (h : CutsV a b xs ys L) (h' : CutsV b a xs ys M) : M = L.reverse := by
  cases hok : ok2 a.1 a.2 b.1 b.2
  · rw [h.no hok, h'.no (by rw [ok2_swap]; exact hok)]; rfl
  · exact cuts_same (h'.yes (by rw [ok2_swap]; exact hok)) (cuts_turn (h.yes hok))
theorem Ints.take {W : World} {p : Option Addr} {xs : List Int} (h : Ints W p xs) (k : Nat) : Ints W p (xs.take k) := fun i hi => by
  rw [List.length_take] at hi
  rw [List.getElem_take]
  exact h i (by omega)

theorem neq_pt (ax ay bx b_y : Int) (w : World) : Sem.run Try.prog (binOp .neq 23 (.agg #[.int .i64 ax, .int .i64 ay]) (.agg #[.int .i64 bx, .int .i64 b_y])) w = .ok (.bool (!eqB ax ay bx b_y)) w := by
  have u3 := Try.underlying3
  have hS : Try.prog.underlying 23 = some (.struct (Try.prog.fieldsOf 23)) := by kernel_rfl
  have hp : Try.prog.stoodInHeld 23 = false := by kernel_rfl
  rw [run_neq_struct, show (10000 : Nat) = 9999 + 1 from rfl, run_equalIn_agg w 9999 23 _ _ hS hp]
  simp only [Program.fieldsOf, Try.underlying23]
  unfold eqB
  go_simp
  by_cases h1 : ax = bx <;> by_cases h2 : ay = b_y <;> simp [h1, h2]
theorem neq_pt_no (ax ay : Int) (w : World) : Sem.run Try.prog (binOp .neq 23 (.agg #[.int .i64 ax, .int .i64 ay]) (.agg #[.int .i64 ax, .int .i64 ay])) w = .ok (.bool false) w := by
  rw [neq_pt, show eqB ax ay ax ay = true from (eqB_iff _ _ _ _).2 ⟨rfl, rfl⟩]; rfl
theorem rev_at {α : Type} (L : List α) (k : Nat) (hk : k < L.length) (h : L.length - 1 - k < L.reverse.length) : L.reverse[L.length - 1 - k] = L[k] := by
  have e : L.reverse[L.length - 1 - k]? = L[k]? := by
    rw [List.getElem?_reverse (by omega)]
    congr 1
    omega
  rw [List.getElem?_eq_getElem h, List.getElem?_eq_getElem hk] at e
  exact Option.some.inj e
theorem below_drewN {B : Nat} {w0 w : World} (h : Below B w0 w) (j : Nat) : Below B w0 (w.drewN j) := ⟨h.os, h.tape, h.output, h.size, h.block⟩
theorem ints4 {w W : World} {p : Option Addr} {xs : List Int} {a0 a1 a2 a3 : Addr} {v0 v1 v2 v3 : Value} (h : W.cell? a0 = some v0 ∧ W.cell? a1 = some v1 ∧ W.cell? a2 = some v2 ∧ W.cell? a3 = some v3 ∧ Below w.heap.size w W) (hx : Ints w p xs) : Ints W p xs := hx.keep h.2.2.2.2
theorem min20 (xs : List Int) : (min (xs.length : Int) 20).toNat = (xs.take 20).length := by rw [List.length_take]; omega

set_option maxRecDepth 100000 in
set_option maxHeartbeats 4000000 in
theorem turned2_walk (ax ay bx b_y cx cy dx dy : Int) (p q : Option Addr) (xs ys : List Int) (cp cq : Nat) (w : World) (hx : xs.length ≤ cp) (hy : ys.length ≤ cq) (_hcp : cp ≤ 9223372036854775807) (_hcq : cq ≤ 9223372036854775807) (HX : Hid (Ints w p xs)) (HY : Hid (Ints w q ys)) :
    Calls Try.prog 5 #[.agg #[.int .i64 ax, .int .i64 ay], .agg #[.int .i64 bx, .int .i64 b_y], .agg #[.int .i64 cx, .int .i64 cy], .agg #[.int .i64 dx, .int .i64 dy], .slice p xs.length cp, .slice q ys.length cq] w
      fun e w' => e = .returned (.bool true) ∧ Below w.heap.size w w' := by
  have hI := init8 w 23 ax ay bx b_y cx cy dx dy
  have HI := Lib.hid hI
  have J1 := Lib.hid (clsV_swap ax ay bx b_y cx cy dx dy)
  have J2 := Lib.hid (clsV_flip ax ay bx b_y cx cy dx dy)
  clear hI
  go_enter Try.func5, Try.ntmps5
  go_wp2_with fail
  refine (class_any _ _ _ _ _ _ _ _ _).mono ?_
  rintro e w1 ⟨rfl, hb1⟩
  have hS1 := keep8 hb1 HI.out
  clear hb1
  go_wp2_with fail
  refine (class_any _ _ _ _ _ _ _ _ _).mono ?_
  rintro e w2 ⟨rfl, hb2⟩
  rw [J1.out.1, J1.out.2]
  have hS2 := keep8 hb2 hS1
  clear hb2 hS1
  go_wp2_with fail
  refine (class_any _ _ _ _ _ _ _ _ _).mono ?_
  rintro e w3 ⟨rfl, hb3⟩
  rw [J2.out.1, J2.out.2]
  have hS3 := keep8 hb3 hS2
  clear hb3 hS2
  generalize clsV ax ay bx b_y cx cy dx dy = n
  generalize errV ax ay bx b_y cx cy dx dy = er
  have hnn : (n != n) = false := by simp
  have hee : (er != er) = false := by simp
  go_upto_region 6 with fail
  have HS3 := Lib.hid hS3
  clear hS3
  go_cut [4, 5] (fun s4 s5 wx => s4 = .slice p (xs.take 20).length cp ∧ s5 = .slice q (ys.take 20).length cq ∧ wx = w3.drew)
  case first =>
    go_region
    go_wp2_with fail
    go_meet
    exact ⟨by rw [min20], by rw [min20], rfl⟩
  case rest =>
    obtain ⟨rfl, rfl, rfl⟩ := hcut
    have HX' := Lib.hid (HX.out.take 20)
    have HY' := Lib.hid (HY.out.take 20)
    have lx : (xs.take 20).length ≤ 1000000 := Nat.le_trans (List.length_take_le _ _) (by omega)
    have ly : (ys.take 20).length ≤ 1000000 := Nat.le_trans (List.length_take_le _ _) (by omega)
    generalize xs.take 20 = us at *
    generalize ys.take 20 = vs at *
    have hS4 : w3.cell? ⟨w.heap.size, 0, none⟩ = some (.int .i64 ax) ∧ w3.cell? ⟨w.heap.size, 1, none⟩ = some (.int .i64 ay) ∧ w3.cell? ⟨w.heap.size + 1, 0, none⟩ = some (.int .i64 bx) ∧ w3.cell? ⟨w.heap.size + 1, 1, none⟩ = some (.int .i64 b_y) ∧ Below w.heap.size w w3 :=
      ⟨HS3.out.1, HS3.out.2.1, HS3.out.2.2.1, HS3.out.2.2.2.1, HS3.out.2.2.2.2.2.2.2.2⟩
    have CA : Hid (∀ W, (W.cell? ⟨w.heap.size, 0, none⟩ = some (.int .i64 ax) ∧ W.cell? ⟨w.heap.size, 1, none⟩ = some (.int .i64 ay) ∧ W.cell? ⟨w.heap.size + 1, 0, none⟩ = some (.int .i64 bx) ∧ W.cell? ⟨w.heap.size + 1, 1, none⟩ = some (.int .i64 b_y) ∧ Below w.heap.size w W) → Calls Try.prog 23 #[.agg #[.int .i64 ax, .int .i64 ay], .agg #[.int .i64 bx, .int .i64 b_y], .slice p us.length cp, .slice q vs.length cq] W (CutsPost (ax, ay) (bx, b_y) us vs W)) :=
      Lib.hid fun W h => cuts_any ax ay bx b_y p q us vs cp cq W lx ly (Lib.hid (ints4 h HX'.out)) (Lib.hid (ints4 h HY'.out))
    have CB : Hid (∀ W, (W.cell? ⟨w.heap.size, 0, none⟩ = some (.int .i64 ax) ∧ W.cell? ⟨w.heap.size, 1, none⟩ = some (.int .i64 ay) ∧ W.cell? ⟨w.heap.size + 1, 0, none⟩ = some (.int .i64 bx) ∧ W.cell? ⟨w.heap.size + 1, 1, none⟩ = some (.int .i64 b_y) ∧ Below w.heap.size w W) → Calls Try.prog 23 #[.agg #[.int .i64 bx, .int .i64 b_y], .agg #[.int .i64 ax, .int .i64 ay], .slice p us.length cp, .slice q vs.length cq] W (CutsPost (bx, b_y) (ax, ay) us vs W)) :=
      Lib.hid fun W h => cuts_any bx b_y ax ay p q us vs cp cq W lx ly (Lib.hid (ints4 h HX'.out)) (Lib.hid (ints4 h HY'.out))
    clear HX HY hx hy HI J1 J2 HS3 HX' HY'
    go_wp2_with fail
    go_region_held3 (fun w' => w'.cell? ⟨w.heap.size, 0, none⟩ = some (.int .i64 ax) ∧ w'.cell? ⟨w.heap.size, 1, none⟩ = some (.int .i64 ay) ∧ w'.cell? ⟨w.heap.size + 1, 0, none⟩ = some (.int .i64 bx) ∧ w'.cell? ⟨w.heap.size + 1, 1, none⟩ = some (.int .i64 b_y) ∧ Below w.heap.size w w') (first | exact hS5 | exact ⟨hS4.1, hS4.2.1, hS4.2.2.1, hS4.2.2.2.1, hS4.2.2.2.2.drew.drew⟩ | assumption) (first | (go_at_call 23; (with_reducible refine (CA.out _ (by assumption)).mono ?_); rintro e wA ⟨vA, LA, rfl, hCA, hoA, hbA⟩; have hS5 := keep4 hbA (by assumption)) | (go_at_call 23; (with_reducible refine (CB.out _ (by assumption)).mono ?_); rintro e wB ⟨vB, LB, rfl, hCB, hoB, hbB⟩; have hS5 := keep4 hbB (by assumption)))
    obtain rfl := hCA.turn hCB
    have hBB := hS5.2.2.2.2
    obtain ⟨pA, kA, rfl, _, hrA⟩ := own_row hoA
    obtain ⟨pB, kB, rfl, _, hrB⟩ := own_row hoB
    have HA := Lib.hid hrA
    have HB := Lib.hid hrB
    have HbB := Lib.hid hbB
    have HBB := Lib.hid hBB
    have hlA : LA.length ≤ 2000000 := Nat.le_trans hCA.len (by omega)
    clear hrA hrB hbB hBB hCA hCB hoA hoB hbA CA CB hS4 hS5
    rw [List.length_reverse] at *
    go_wp2
    go_loopw [21] (fun i wr => ∃ (k j : Nat), k ≤ LA.length ∧ i = .int .i64 k ∧ wr = wB.drewN j) (fun i _ => LA.length - (intOf i).toNat)
    case atStart => exact ⟨0, 0, by omega, rfl, rfl⟩
    case round =>
      obtain ⟨k, j, hk, rfl, rfl⟩ := hrel
      by_cases hlt : k < LA.length
      · obtain ⟨gA, rfl, _, _, a0, a1⟩ := HA.out k hlt
        have hkr : LA.length - 1 - k < LA.reverse.length := by rw [List.length_reverse]; omega
        obtain ⟨gB, rfl, _, _, b0, b1⟩ := HB.out (LA.length - 1 - k) hkr
        rw [rev_at LA k hlt hkr] at b0 b1
        have c0 := cell_later HbB.out a0
        have c1 := cell_later HbB.out a1
        have q1 := neq_pt_no LA[k].1 LA[k].2
        have x1 : IntKind.i64.wrap ((LA.length : Int) - 1) = (LA.length : Int) - 1 := IntWalk.i64_in _ (by omega)
        have x2 : IntKind.i64.wrap ((LA.length : Int) - 1 - (k : Int)) = (LA.length : Int) - 1 - (k : Int) := IntWalk.i64_in _ (by omega)
        have x3 : ((LA.length : Int) - 1 - (k : Int)).toNat = LA.length - 1 - k := by omega
        have x4 : 0 ≤ (LA.length : Int) - 1 - (k : Int) := by omega
        have x5 : (LA.length : Int) - 1 - (k : Int) < (LA.length : Int) := by omega
        clear a0 a1 hkr
        generalize LA[k] = m at *
        go_wp2_with fail
        go_quiet (fail)
        clear x1 x2 x3 x4 x5
        go_wp2
        go_roundw
        case rel => exact ⟨k + 1, j + nq, by omega, by go_num, rfl⟩
        case measure => simp [intOf]; omega
      · obtain rfl : k = LA.length := by omega
        go_wp2_with fail
        refine (known2_yes _).mono ?_
        rintro e w' ⟨rfl, hk⟩
        have HF : Hid (Below w.heap.size w w') := Lib.hid ((below_drewN HBB.out j).trans (hk.mono (below_drewN HBB.out j).size))
        go_wp2
        go_ret
        exact ⟨rfl, HF.out⟩
end Go.Proofs.Ytmhmccicnebhaaa
