/- The walk of SegCuts. -/
import Derived.Test.YtmhmccicnebhaaaRCuts
import Derived.Test.YtmhmccicnebhaaaTurned2
import Derived.Deep.DeepCutAuto
namespace Go.Proofs.Ytmhmccicnebhaaa
open Go.RowKit

theorem at_is (ax ay bx b_y c : Int) (h : ok2 ax ay bx b_y = true) : atN ax ay bx b_y c = (if cutB ax bx c then cutI ax ay bx b_y c else 0) ∧ atB ax ay bx b_y c = cutB ax bx c := by
  unfold atN atB; rw [h]; exact ⟨rfl, rfl⟩
theorem at_isn (ax ay bx b_y c : Int) (h : ok2 ax ay bx b_y = false) : atN ax ay bx b_y c = 0 ∧ atB ax ay bx b_y c = false := by
  unfold atN atB; rw [h]; exact ⟨rfl, rfl⟩
theorem rneq_no (ax ay : Int) (w : World) : Sem.run Try.prog (binOp .neq 28 (.agg #[.int .i64 ax, .int .i64 ay]) (.agg #[.int .i64 ax, .int .i64 ay])) w = .ok (.bool false) w := by
  rw [rneq_pt, show eqB ax ay ax ay = true from (eqB_iff _ _ _ _).2 ⟨rfl, rfl⟩]; rfl
theorem srcV_row {W : World} {v : Value} {L : List (Int × Int)} (h : SrcV W v L.length (cells L)) : ∃ (p : Option Addr) (c : Nat), v = .slice p L.length c ∧ ∀ i (hi : i < L.length), ∃ g o, p = some ⟨g, o, none⟩ ∧ W.cell? ⟨g, o + i * 2, none⟩ = some (.int .i64 L[i].1) ∧ W.cell? ⟨g, o + i * 2 + 1, none⟩ = some (.int .i64 L[i].2) := by
  obtain ⟨q, c, rfl, h⟩ := h
  refine ⟨q, c, rfl, fun i hi => ?_⟩
  obtain ⟨g, o, rfl, hc⟩ := h (by omega)
  obtain ⟨c0, c1⟩ := cells_at L i hi
  have k0 := hc _ _ c0
  have k1 := hc _ _ c1
  rw [add_at] at k0 k1
  exact ⟨g, o, rfl, k0, k1⟩

set_option maxRecDepth 100000 in
set_option maxHeartbeats 4000000 in
theorem segcuts_walk (ax ay bx b_y c : Int) (p q : Option Addr) (xs ys : List Int) (cp cq : Nat) (w : World) (hx : xs.length ≤ cp) (hy : ys.length ≤ cq) (_hcp : cp ≤ 9223372036854775807) (_hcq : cq ≤ 9223372036854775807) (HX : Hid (Ints w p xs)) (HY : Hid (Ints w q ys)) :
    Calls Try.prog 4 #[.agg #[.int .i64 ax, .int .i64 ay], .agg #[.int .i64 bx, .int .i64 b_y], .int .i64 c, .slice p xs.length cp, .slice q ys.length cq] w
      fun e w' => e = .returned (.bool true) ∧ Below w.heap.size w w' := by
  have hI : (fun W : World => W.cell? ⟨w.heap.size, 0, none⟩ = some (.int .i64 ax) ∧ W.cell? ⟨w.heap.size, 1, none⟩ = some (.int .i64 ay) ∧ W.cell? ⟨w.heap.size + 1, 0, none⟩ = some (.int .i64 bx) ∧ W.cell? ⟨w.heap.size + 1, 1, none⟩ = some (.int .i64 b_y) ∧ Below w.heap.size w W)
      ((w.alloc (.cells #[.int .i64 ax, .int .i64 ay] 23)).alloc (.cells #[.int .i64 bx, .int .i64 b_y] 23)).drew :=
    ⟨by go_simp, by go_simp, by go_simp, by go_simp, (b2 _ _ _).drew⟩
  have HI := Lib.hid hI
  clear hI
  go_enter Try.func4, Try.ntmps4
  go_upto_region 1 with fail
  go_cut [3, 4] (fun s3 s4 wx => s3 = .slice p (xs.take 20).length cp ∧ s4 = .slice q (ys.take 20).length cq ∧ wx = ((w.alloc (.cells #[.int .i64 ax, .int .i64 ay] 23)).alloc (.cells #[.int .i64 bx, .int .i64 b_y] 23)).drew)
  case first =>
    go_region
    go_wp2_with fail
    go_meet
    exact ⟨by rw [min20], by rw [min20], rfl⟩
  case rest =>
    obtain ⟨rfl, rfl, rfl⟩ := hcut
    have HX' := Lib.hid (HX.out.take 20)
    have HY' := Lib.hid (HY.out.take 20)
    have lx : (xs.take 20).length ≤ 40 := Nat.le_trans (List.length_take_le _ _) (by omega)
    have ly : (ys.take 20).length ≤ 40 := Nat.le_trans (List.length_take_le _ _) (by omega)
    generalize xs.take 20 = us at *
    generalize ys.take 20 = vs at *
    clear HX HY hx hy
    have hS0 := HI.out
    clear HI
    generalize ((w.alloc (.cells #[.int .i64 ax, .int .i64 ay] 23)).alloc (.cells #[.int .i64 bx, .int .i64 b_y] 23)).drew = W0 at *
    have CA : Hid (∀ W, (W.cell? ⟨w.heap.size, 0, none⟩ = some (.int .i64 ax) ∧ W.cell? ⟨w.heap.size, 1, none⟩ = some (.int .i64 ay) ∧ W.cell? ⟨w.heap.size + 1, 0, none⟩ = some (.int .i64 bx) ∧ W.cell? ⟨w.heap.size + 1, 1, none⟩ = some (.int .i64 b_y) ∧ Below w.heap.size w W) → Calls Try.prog 23 #[.agg #[.int .i64 ax, .int .i64 ay], .agg #[.int .i64 bx, .int .i64 b_y], .slice p us.length cp, .slice q vs.length cq] W (CutsPost (ax, ay) (bx, b_y) us vs W)) :=
      Lib.hid fun W h => cuts_any ax ay bx b_y p q us vs cp cq W (by omega) (by omega) (Lib.hid (ints4 h HX'.out)) (Lib.hid (ints4 h HY'.out))
    cases hok : ok2 ax ay bx b_y
    · have Hok := Lib.hid hok
      have Hok2 : Hid (ok2 ay ax b_y bx = false) := Lib.hid (by rw [show ok2 ay ax b_y bx = ok2 ax ay bx b_y from ok2_yx (ax, ay) (bx, b_y)]; exact hok)
      have KX := Lib.hid (fun W => atx_any ax ay bx b_y c W)
      have KY := Lib.hid (fun W => aty_any ax ay bx b_y c W)
      rw [(at_isn ax ay bx b_y c hok).1, (at_isn ax ay bx b_y c hok).2] at KX
      rw [(at_isn ay ax b_y bx c Hok2.out).1, (at_isn ay ax b_y bx c Hok2.out).2] at KY
      go_wp2_with fail
      refine (of_any _ _ _).mono ?_
      rintro e w1 ⟨rfl, hb1⟩
      have hS1 := keep4 hb1 hS0
      clear hb1 hS0
      cases ha : okp ax ay
      · have Ha := Lib.hid ha
        clear ha hok
        go_wp2_with fail
        refine (may_any _ _ _).mono ?_
        rintro e w2 ⟨rfl, hb2⟩
        rw [show (bnd ax && bnd ay) = false from Ha.out]
        have hSX := keep4 hb2 hS1
        clear hb2 hS1
        go_wp2_with fail
        refine (KX.out _).mono ?_
        rintro e w5 ⟨rfl, hb5⟩
        have hS5 := keep4 hb5 hSX
        clear hb5 hSX
        go_wp2_with fail
        refine (KY.out _).mono ?_
        rintro e w6 ⟨rfl, hb6⟩
        have hS6 := keep4 hb6 hS5
        clear hb6 hS5
        go_wp2_with fail
        refine (known2_yes _).mono ?_
        rintro e w7 ⟨rfl, hb7⟩
        have hS7 := keep4 hb7 hS6
        clear hb7 hS6
        go_wp2_with fail
        refine (CA.out _ hS7).mono ?_
        rintro e wA ⟨vA, LA, rfl, hCA, hoA, hbA⟩
        obtain rfl : LA = [] := hCA.no Hok.out
        have hSA := keep4 hbA hS7
        have HSA := Lib.hid hSA
        obtain ⟨pA, kA, rfl⟩ := own_nil hoA
        clear hSA hbA hCA hoA hS7
        go_wp2_with fail
        go_ret
        exact ⟨rfl, HSA.out.2.2.2.2⟩
      · have hb : okp bx b_y = false := by unfold ok2 at hok; rw [ha, Bool.true_and] at hok; exact hok
        have Ha := Lib.hid ha
        have Hb := Lib.hid hb
        clear ha hb hok
        go_wp2_with fail
        refine (may_any _ _ _).mono ?_
        rintro e w2 ⟨rfl, hb2⟩
        rw [show (bnd ax && bnd ay) = true from Ha.out]
        have hS2 := keep4 hb2 hS1
        clear hb2 hS1
        go_wp2_with fail
        refine (of_any _ _ _).mono ?_
        rintro e w3 ⟨rfl, hb3⟩
        have hS3 := keep4 hb3 hS2
        clear hb3 hS2
        go_wp2_with fail
        refine (may_any _ _ _).mono ?_
        rintro e w4 ⟨rfl, hb4⟩
        rw [show (bnd bx && bnd b_y) = false from Hb.out]
        have hSX := keep4 hb4 hS3
        clear hb4 hS3
        go_wp2_with fail
        refine (KX.out _).mono ?_
        rintro e w5 ⟨rfl, hb5⟩
        have hS5 := keep4 hb5 hSX
        clear hb5 hSX
        go_wp2_with fail
        refine (KY.out _).mono ?_
        rintro e w6 ⟨rfl, hb6⟩
        have hS6 := keep4 hb6 hS5
        clear hb6 hS5
        go_wp2_with fail
        refine (known2_yes _).mono ?_
        rintro e w7 ⟨rfl, hb7⟩
        have hS7 := keep4 hb7 hS6
        clear hb7 hS6
        go_wp2_with fail
        refine (CA.out _ hS7).mono ?_
        rintro e wA ⟨vA, LA, rfl, hCA, hoA, hbA⟩
        obtain rfl : LA = [] := hCA.no Hok.out
        have hSA := keep4 hbA hS7
        have HSA := Lib.hid hSA
        obtain ⟨pA, kA, rfl⟩ := own_nil hoA
        clear hSA hbA hCA hoA hS7
        go_wp2_with fail
        go_ret
        exact ⟨rfl, HSA.out.2.2.2.2⟩
    · have CB : Hid (∀ W, (W.cell? ⟨w.heap.size, 0, none⟩ = some (.int .i64 ax) ∧ W.cell? ⟨w.heap.size, 1, none⟩ = some (.int .i64 ay) ∧ W.cell? ⟨w.heap.size + 1, 0, none⟩ = some (.int .i64 bx) ∧ W.cell? ⟨w.heap.size + 1, 1, none⟩ = some (.int .i64 b_y) ∧ Below w.heap.size w W) → Calls Try.prog 25 #[.agg #[.int .i64 ax, .int .i64 ay], .agg #[.int .i64 bx, .int .i64 b_y], .slice p us.length cp, .slice q vs.length cq] W (RPost (ax, ay) (bx, b_y) us vs W)) :=
        Lib.hid fun W h => rcuts_any ax ay bx b_y p q us vs cp cq W hok lx ly (Lib.hid (ints4 h HX'.out)) (Lib.hid (ints4 h HY'.out))
      have Hok := Lib.hid hok
      have Hok2 : Hid (ok2 ay ax b_y bx = true) := Lib.hid (by rw [show ok2 ay ax b_y bx = ok2 ax ay bx b_y from ok2_yx (ax, ay) (bx, b_y)]; exact hok)
      have KX := Lib.hid (fun W => atx_any ax ay bx b_y c W)
      have KY := Lib.hid (fun W => aty_any ax ay bx b_y c W)
      rw [(at_is ax ay bx b_y c hok).1, (at_is ax ay bx b_y c hok).2] at KX
      rw [(at_is ay ax b_y bx c Hok2.out).1, (at_is ay ax b_y bx c Hok2.out).2] at KY
      have RX := Lib.hid (fun W => rat_any ax ay bx b_y c W hok)
      have RY := Lib.hid (fun W => rat_any ay ax b_y bx c W Hok2.out)
      have hAB : (bnd ax && bnd ay) = true ∧ (bnd bx && bnd b_y) = true := by unfold ok2 okp at hok; rw [Bool.and_eq_true] at hok; exact hok
      have Ha := Lib.hid hAB.1
      have Hb := Lib.hid hAB.2
      clear hAB hok HX' HY'
      generalize (if cutB ax bx c = true then cutI ax ay bx b_y c else 0) = y1 at KX RX
      generalize (if cutB ay b_y c = true then cutI ay ax b_y bx c else 0) = y2 at KY RY
      generalize cutB ax bx c = e1 at KX RX
      generalize cutB ay b_y c = e2 at KY RY
      have n1 : (y1 != y1) = false := by simp
      have n2 : (y2 != y2) = false := by simp
      have n3 : (e1 == e1) = true := by simp
      have n4 : (e2 == e2) = true := by simp
      go_wp2_with fail
      refine (of_any _ _ _).mono ?_
      rintro e w1 ⟨rfl, hb1⟩
      have hS1 := keep4 hb1 hS0
      clear hb1 hS0
      go_wp2_with fail
      refine (may_any _ _ _).mono ?_
      rintro e w2 ⟨rfl, hb2⟩
      rw [Ha.out]
      have hS2 := keep4 hb2 hS1
      clear hb2 hS1
      go_wp2_with fail
      refine (of_any _ _ _).mono ?_
      rintro e w3 ⟨rfl, hb3⟩
      have hS3 := keep4 hb3 hS2
      clear hb3 hS2
      go_wp2_with fail
      refine (may_any _ _ _).mono ?_
      rintro e w4 ⟨rfl, hb4⟩
      rw [Hb.out]
      have hS4 := keep4 hb4 hS3
      clear hb4 hS3
      go_wp2_with fail
      refine (KX.out _).mono ?_
      rintro e w5 ⟨rfl, hb5⟩
      have hS5 := keep4 hb5 hS4
      clear hb5 hS4
      go_wp2_with fail
      refine (KY.out _).mono ?_
      rintro e w6 ⟨rfl, hb6⟩
      have hS6 := keep4 hb6 hS5
      clear hb6 hS5
      go_wp2_with fail
      refine (RX.out _).mono ?_
      rintro e w7 ⟨rfl, rfl⟩
      go_wp2_with fail
      refine (RY.out _).mono ?_
      rintro e w7 ⟨rfl, rfl⟩
      clear KX KY RX RY
      go_upto_region 11 with fail
      go_cut [20, 21] (fun s20 s21 wx => ∃ L : List (Int × Int), SrcV wx s20 L.length (cells L) ∧ SrcV wx s21 L.length (cells L) ∧ L.length ≤ 100 ∧ Below w.heap.size w wx)
      case first =>
        go_region_held3 (fun W => W.cell? ⟨w.heap.size, 0, none⟩ = some (.int .i64 ax) ∧ W.cell? ⟨w.heap.size, 1, none⟩ = some (.int .i64 ay) ∧ W.cell? ⟨w.heap.size + 1, 0, none⟩ = some (.int .i64 bx) ∧ W.cell? ⟨w.heap.size + 1, 1, none⟩ = some (.int .i64 b_y) ∧ Below w.heap.size w W) (repeat (first | (with_reducible assumption) | (with_reducible refine keep4d ?_))) (first | (go_at_call 16; (with_reducible refine (of_any _ _ _).mono ?_); rintro e w' ⟨rfl, hb⟩; have hS8 := keep4 hb (by with_reducible assumption); try (have hoA := SrcV.keep hb hoA)) | (go_at_call 23; (with_reducible refine (CA.out _ (by with_reducible assumption)).mono ?_); rintro e wA ⟨vA, LA, rfl, hCA, hoA', hbA⟩; have HCA := Lib.hid hCA; have hoA := own_srcV hoA'; clear hCA hoA'; have hS8 := keep4 hbA (by with_reducible assumption); try (have hsB := SrcV.keep hbA hsB)) | (go_at_call 25; (with_reducible refine (CB.out _ (by with_reducible assumption)).mono ?_); rintro e wB ⟨vB, LB, rfl, hCB, hsB, hbB⟩; have HCB := Lib.hid hCB; clear hCB; have hS8 := keep4 hbB (by with_reducible assumption); try (have hoA := SrcV.keep hbB hoA)))
        all_goals
          have he := cuts_same (HCA.out.yes Hok.out) HCB.out
          subst he
          have HoA := Lib.hid hoA
          have HsB := Lib.hid hsB
          have HS8 := Lib.hid hS8
          have HL : Hid (LA.length ≤ 100) := Lib.hid (by have := HCA.out.len; omega)
          clear hoA hsB hS8 HCA HCB
          go_wp2_with fail
          go_meet
          exact ⟨LA, HoA.out, HsB.out, HL.out, HS8.out.2.2.2.2⟩
      case rest =>
        obtain ⟨L, hA, hB, hL, hBe⟩ := hcut
        obtain ⟨pA, cA, rfl, hrA⟩ := srcV_row hA
        obtain ⟨pB, cB, rfl, hrB⟩ := srcV_row hB
        have HA := Lib.hid hrA
        have HB := Lib.hid hrB
        have HBe := Lib.hid hBe
        obtain ⟨W3, hW3⟩ : ∃ W, W = wc := ⟨_, rfl⟩
        subst hW3
        clear hA hB hrA hrB hBe
        go_wp2_with fail
        go_loopw [22] (fun i wr => ∃ k : Nat, k ≤ L.length ∧ i = .int .i64 k ∧ Below W3.heap.size W3 wr) (fun i _ => L.length - (intOf i).toNat)
        case atStart => exact ⟨0, by omega, rfl, Below.refl _ _⟩
        case round =>
          obtain ⟨k, hk, rfl, hB⟩ := hrel
          have HBel := Lib.hid hB
          by_cases hlt : k < L.length
          · obtain ⟨gA, oA, rfl, a0, a1⟩ := HA.out k hlt
            obtain ⟨gB, oB, rfl, b0, b1'⟩ := HB.out k hlt
            have hS9 : wr.cell? ⟨gA, oA + k * 2, none⟩ = some (.int .i64 L[k].1) ∧ wr.cell? ⟨gA, oA + k * 2 + 1, none⟩ = some (.int .i64 L[k].2) ∧ wr.cell? ⟨gB, oB + k * 2, none⟩ = some (.int .i64 L[k].1) ∧ wr.cell? ⟨gB, oB + k * 2 + 1, none⟩ = some (.int .i64 L[k].2) ∧ Below wr.heap.size wr wr :=
              ⟨cell_later hB a0, cell_later hB a1, cell_later hB b0, cell_later hB b1', Below.refl _ _⟩
            have q1 := rneq_no L[k].1 L[k].2
            clear a0 a1 b0 b1' hB
            generalize L[k] = m at *
            go_wp2_with fail
            go_region_held3 (fun W => W.cell? ⟨gA, oA + k * 2, none⟩ = some (.int .i64 m.1) ∧ W.cell? ⟨gA, oA + k * 2 + 1, none⟩ = some (.int .i64 m.2) ∧ W.cell? ⟨gB, oB + k * 2, none⟩ = some (.int .i64 m.1) ∧ W.cell? ⟨gB, oB + k * 2 + 1, none⟩ = some (.int .i64 m.2) ∧ Below wr.heap.size wr W) (repeat (first | (with_reducible assumption) | (with_reducible refine keep4d ?_))) (first | (go_at_call 16; (with_reducible refine (of_any _ _ _).mono ?_); rintro e w' ⟨rfl, hb⟩; have hS8 := keep4 hb (by with_reducible assumption)))
            have HS8 := Lib.hid hS8
            clear hS8 hS9
            go_wp2
            go_roundw
            case rel => exact ⟨k + 1, by omega, by go_num, HBel.out.trans (HS8.out.2.2.2.2.mono HBel.out.size)⟩
            case measure => simp [intOf]; omega
          · obtain rfl : k = L.length := by omega
            clear hB
            go_wp2_with fail
            refine (known2_yes _).mono ?_
            rintro e w' ⟨rfl, hk⟩
            have HF : Hid (Below w.heap.size w w') := Lib.hid ((HBe.out.trans (HBel.out.mono HBe.out.size)).trans (hk.mono (HBe.out.trans (HBel.out.mono HBe.out.size)).size))
            go_wp2
            go_ret
            exact ⟨rfl, HF.out⟩
end Go.Proofs.Ytmhmccicnebhaaa
