/- The walk of SegPieces. -/
import Derived.Test.YtabeajgfgbfdeaaRows2
namespace Go.Proofs.Ytabeajgfgbfdeaa
open Go.RowKit

/-- The first end, the cuts and the second end, in a row of the call's own. -/
def AllS (w : World) (ax ay bx b_y : Int) (us vs : List Int) (v : Value) (W : World) : Prop :=
  ∃ L : List (Int × Int), CutsV (ax, ay) (bx, b_y) us vs L ∧ W.ownsRow (w.heap.size + 1 + 1) 23 2 v (allP (ax, ay) (bx, b_y) L).length (cells (allP (ax, ay) (bx, b_y) L)) ∧
    W.cell? ⟨w.heap.size, 0, none⟩ = some (.int .i64 ax) ∧ W.cell? ⟨w.heap.size, 1, none⟩ = some (.int .i64 ay) ∧ W.cell? ⟨w.heap.size + 1, 0, none⟩ = some (.int .i64 bx) ∧ W.cell? ⟨w.heap.size + 1, 1, none⟩ = some (.int .i64 b_y) ∧ Below w.heap.size w W

theorem keep6b {w W W1 w1 : World} {a0 a1 a2 a3 a4 a5 : Addr} {v0 v1 v2 v3 v4 v5 : Value} (hb : Below W.heap.size W w1) (h : W.cell? a0 = some v0 ∧ W.cell? a1 = some v1 ∧ W.cell? a2 = some v2 ∧ W.cell? a3 = some v3 ∧ W.cell? a4 = some v4 ∧ W.cell? a5 = some v5 ∧ Below w.heap.size w W ∧ Below W1.heap.size W1 W) :
    w1.cell? a0 = some v0 ∧ w1.cell? a1 = some v1 ∧ w1.cell? a2 = some v2 ∧ w1.cell? a3 = some v3 ∧ w1.cell? a4 = some v4 ∧ w1.cell? a5 = some v5 ∧ Below w.heap.size w w1 ∧ Below W1.heap.size W1 w1 := by
  obtain ⟨h0, h1, h2, h3, h4, h5, hB, hC⟩ := h
  exact ⟨cell_later hb h0, cell_later hb h1, cell_later hb h2, cell_later hb h3, cell_later hb h4, cell_later hb h5, hB.trans (hb.mono hB.size), hC.trans (hb.mono hC.size)⟩
theorem all_own {W : World} {base : Nat} {T : TypeId} {v : Value} {L : List (Int × Int)} {a b : Int × Int} (h : W.ownsRow base T 2 v (1 + L.length + [b].length) (cells [a] ++ cells L ++ cells [b])) : W.ownsRow base T 2 v (allP a b L).length (cells (allP a b L)) := by
  have e1 : (allP a b L).length = 1 + L.length + [b].length := by unfold allP; simp; omega
  have e2 : cells (allP a b L) = cells [a] ++ cells L ++ cells [b] := by unfold allP; rw [← cells_append, ← cells_append]; rfl
  rw [e1, e2]; exact h

set_option maxRecDepth 100000 in
set_option maxHeartbeats 8000000 in
theorem pieces_walk (ax ay bx b_y : Int) (p q : Option Addr) (xs ys : List Int) (cp cq : Nat) (w : World) (hx : xs.length ≤ cp) (hy : ys.length ≤ cq) (_hcp : cp ≤ 9223372036854775807) (_hcq : cq ≤ 9223372036854775807) (HX : Hid (Ints w p xs)) (HY : Hid (Ints w q ys)) :
    Calls Try.prog 6 #[.agg #[.int .i64 ax, .int .i64 ay], .agg #[.int .i64 bx, .int .i64 b_y], .slice p xs.length cp, .slice q ys.length cq] w
      fun e w' => e = .returned (.bool true) ∧ Below w.heap.size w w' := by
  obtain ⟨i0, hi, hz0, hz1, hz2⟩ := info_parts info_pt
  have hI : (fun W : World => W.cell? ⟨w.heap.size, 0, none⟩ = some (.int .i64 ax) ∧ W.cell? ⟨w.heap.size, 1, none⟩ = some (.int .i64 ay) ∧ W.cell? ⟨w.heap.size + 1, 0, none⟩ = some (.int .i64 bx) ∧ W.cell? ⟨w.heap.size + 1, 1, none⟩ = some (.int .i64 b_y) ∧ Below w.heap.size w W)
      ((w.alloc (.cells #[.int .i64 ax, .int .i64 ay] 23)).alloc (.cells #[.int .i64 bx, .int .i64 b_y] 23)) :=
    ⟨by go_simp, by go_simp, by go_simp, by go_simp, b2 _ _ _⟩
  have hI2 : w.heap.size + 1 + 1 ≤ ((w.alloc (.cells #[.int .i64 ax, .int .i64 ay] 23)).alloc (.cells #[.int .i64 bx, .int .i64 b_y] 23)).heap.size := by simp
  go_enter Try.func6, Try.ntmps6
  go_wp2_with fail
  generalize (w.alloc (.cells #[.int .i64 ax, .int .i64 ay] 23)).alloc (.cells #[.int .i64 bx, .int .i64 b_y] 23) = W0 at hI hI2 ⊢
  have HI := Lib.hid hI
  clear hI
  go_cut [2, 3] (fun s4 s5 wx => s4 = .slice p (xs.take 20).length cp ∧ s5 = .slice q (ys.take 20).length cq ∧ wx = W0.drew)
  case first =>
    go_region
    go_wp2_with fail
    go_meet
    exact ⟨by rw [min20], by rw [min20], rfl⟩
  case rest =>
    obtain ⟨rfl, rfl, rfl⟩ := hcut
    have HX' := Lib.hid (HX.out.take 20)
    have HY' := Lib.hid (HY.out.take 20)
    have lx : (xs.take 20).length ≤ 20 := List.length_take_le _ _
    have ly : (ys.take 20).length ≤ 20 := List.length_take_le _ _
    generalize xs.take 20 = us at *
    generalize ys.take 20 = vs at *
    have hS0 : W0.drew.cell? ⟨w.heap.size, 0, none⟩ = some (.int .i64 ax) ∧ W0.drew.cell? ⟨w.heap.size, 1, none⟩ = some (.int .i64 ay) ∧ W0.drew.cell? ⟨w.heap.size + 1, 0, none⟩ = some (.int .i64 bx) ∧ W0.drew.cell? ⟨w.heap.size + 1, 1, none⟩ = some (.int .i64 b_y) ∧ Below w.heap.size w W0.drew :=
      ⟨HI.out.1, HI.out.2.1, HI.out.2.2.1, HI.out.2.2.2.1, HI.out.2.2.2.2.drew⟩
    have hz0' : w.heap.size + 1 + 1 ≤ W0.drew.heap.size := hI2
    have CA : Hid (∀ W, (W.cell? ⟨w.heap.size, 0, none⟩ = some (.int .i64 ax) ∧ W.cell? ⟨w.heap.size, 1, none⟩ = some (.int .i64 ay) ∧ W.cell? ⟨w.heap.size + 1, 0, none⟩ = some (.int .i64 bx) ∧ W.cell? ⟨w.heap.size + 1, 1, none⟩ = some (.int .i64 b_y) ∧ Below w.heap.size w W) → Calls Try.prog 17 #[.agg #[.int .i64 ax, .int .i64 ay], .agg #[.int .i64 bx, .int .i64 b_y], .slice p us.length cp, .slice q vs.length cq] W (CutsPost (ax, ay) (bx, b_y) us vs W)) :=
      Lib.hid fun W h => cuts_any ax ay bx b_y p q us vs cp cq W (by omega) (by omega) (Lib.hid (ints4 h HX'.out)) (Lib.hid (ints4 h HY'.out))
    clear HX HY hx hy HI
    cases ha : okp ax ay
    · as_aux_lemma =>
      have HA := Lib.hid ha
      clear ha
      go_wp2_with fail
      refine (of_any _ _ _).mono ?_
      rintro e w1 ⟨rfl, hb1⟩
      have hS1 := keep4 hb1 hS0
      clear hb1 hS0 hz0'
      go_wp2_with fail
      refine (may_any _ _ _).mono ?_
      rintro e w2 ⟨rfl, hb2⟩
      rw [show (bnd ax && bnd ay) = false from HA.out]
      have hS2 := keep4 hb2 hS1
      clear hb2 hS1
      go_wp2_with fail
      refine (known2_yes _).mono ?_
      rintro e w9 ⟨rfl, hk⟩
      have HF2 : Hid (Below w.heap.size w w9) := Lib.hid (hS2.2.2.2.2.trans (hk.mono hS2.2.2.2.2.size))
      clear hk
      go_wp2
      go_ret
      exact ⟨rfl, HF2.out⟩
    · cases hb : okp bx b_y
      · as_aux_lemma =>
        have Ha := Lib.hid ha
        have HB := Lib.hid hb
        clear ha hb
        go_wp2_with fail
        refine (of_any _ _ _).mono ?_
        rintro e w1 ⟨rfl, hb1⟩
        have hS1 := keep4 hb1 hS0
        clear hb1 hS0 hz0'
        go_wp2_with fail
        refine (may_any _ _ _).mono ?_
        rintro e w2 ⟨rfl, hb2⟩
        rw [show (bnd ax && bnd ay) = true from Ha.out]
        have hS2 := keep4 hb2 hS1
        clear hb2 hS1
        go_wp2_with fail
        refine (of_any _ _ _).mono ?_
        rintro e w3 ⟨rfl, hb3⟩
        have hS3 := keep4 hb3 hS2
        clear hb3 hS2
        go_wp2_with fail
        refine (may_any _ _ _).mono ?_
        rintro e w4 ⟨rfl, hb4⟩
        rw [show (bnd bx && bnd b_y) = false from HB.out]
        have hS4 := keep4 hb4 hS3
        clear hb4 hS3
        go_wp2_with fail
        refine (known2_yes _).mono ?_
        rintro e w9 ⟨rfl, hk⟩
        have HF2 : Hid (Below w.heap.size w w9) := Lib.hid (hS4.2.2.2.2.trans (hk.mono hS4.2.2.2.2.size))
        clear hk
        go_wp2
        go_ret
        exact ⟨rfl, HF2.out⟩
      · have hok : Hid (ok2 ax ay bx b_y = true) := Lib.hid (by unfold ok2; rw [ha, hb]; rfl)
        have Ha := Lib.hid ha
        have Hb := Lib.hid hb
        clear ha hb
        go_wp2_with fail
        refine (of_any _ _ _).mono ?_
        rintro e w1 ⟨rfl, hb1⟩
        have hS1 := keep4 hb1 hS0
        have hz1' : w.heap.size + 1 + 1 ≤ w1.heap.size := Nat.le_trans hz0' hb1.size
        clear hb1 hS0 hz0'
        go_wp2_with fail
        refine (may_any _ _ _).mono ?_
        rintro e w2 ⟨rfl, hb2⟩
        rw [show (bnd ax && bnd ay) = true from Ha.out]
        have hS2 := keep4 hb2 hS1
        have hz2' : w.heap.size + 1 + 1 ≤ w2.heap.size := Nat.le_trans hz1' hb2.size
        clear hb2 hS1 hz1'
        go_wp2_with fail
        refine (of_any _ _ _).mono ?_
        rintro e w3 ⟨rfl, hb3⟩
        have hS3 := keep4 hb3 hS2
        have hz3' : w.heap.size + 1 + 1 ≤ w3.heap.size := Nat.le_trans hz2' hb3.size
        clear hb3 hS2 hz2'
        go_wp2_with fail
        refine (may_any _ _ _).mono ?_
        rintro e w4 ⟨rfl, hb4⟩
        rw [show (bnd bx && bnd b_y) = true from Hb.out]
        have hS4 := keep4 hb4 hS3
        have hz4' : w.heap.size + 1 + 1 ≤ w4.heap.size := Nat.le_trans hz3' hb4.size
        clear hb4 hS3 hz3'
        go_upto_region 4 with fail
        go_cut [9] (fun s9 wx => AllS w ax ay bx b_y us vs s9 wx)
        case first =>
          go_region_held3 (fun w' => w'.cell? ⟨w.heap.size, 0, none⟩ = some (.int .i64 ax) ∧ w'.cell? ⟨w.heap.size, 1, none⟩ = some (.int .i64 ay) ∧ w'.cell? ⟨w.heap.size + 1, 0, none⟩ = some (.int .i64 bx) ∧ w'.cell? ⟨w.heap.size + 1, 1, none⟩ = some (.int .i64 b_y) ∧ Below w.heap.size w w') (first | assumption | exact ⟨hS4.1, hS4.2.1, hS4.2.2.1, hS4.2.2.2.1, hS4.2.2.2.2.drew⟩ | exact keep4 (b1 _ _) (by assumption)) (first | (go_at_call 17; (with_reducible refine (CA.out _ (by assumption)).mono ?_); rintro e wA ⟨vA, LA, rfl, hCA, hoA, hbA⟩; have hS5 := keep4 hbA (by assumption); have hzA : w.heap.size + 1 + 1 ≤ wA.heap.size := (by have := hbA.size; simp at this; omega); have hlA : LA.length ≤ 40 := (by have := hCA.len; omega)) | ((refine step_append_src (by rfl) (.tmp 38) (.tmp 43) 40 (by rfl) (w.heap.size + 1 + 1) 23 i0 (.agg #[.int .i64 0, .int .i64 0]) 16 Try.underlying40 hi hz0 hz1 hz2 (by rfl) _ 1 (cells [(ax, ay)]) (by rfl) (own_one (by first | omega | (have := hbA.size; simp at this; omega)) (by repeat (first | (exact hp_new (by first | rfl | (simp; done))) | (refine hp_below hbA ?_) | (refine hp_alloc ?_)))) vA LA (by rfl) (by first | exact own_src hoA | exact own_src (hoA.alloc _) | exact own_src ((hoA.alloc _).alloc _)) (by unfold maxLen; omega) (by omega) (by first | exact hzA | (simp; omega)) ?_); intro v1 wB ho1 hgB; have hzB : w.heap.size + 1 + 1 ≤ wB.heap.size := (Nat.le_trans (by first | exact hzA | (simp; omega)) hgB.size); have hS6 := keep4g (w := w) (k0 := w.heap.size) (k1 := w.heap.size + 1) hgB (by assumption) (w.heap.size + 1 + 1) (by intro q hq; simp only [Value.ownBlock, Option.some.injEq] at hq; subst hq; first | omega | (have := hbA.size; simp at this; omega)) (by first | exact hzA | (simp; omega)) (by omega) (by omega) (by omega)) | ((refine step_append_src (by rfl) (.tmp 44) (.tmp 46) 40 (by rfl) (w.heap.size + 1 + 1) 23 i0 (.agg #[.int .i64 0, .int .i64 0]) 16 Try.underlying40 hi hz0 hz1 hz2 (by rfl) v1 (1 + LA.length) (cells [(ax, ay)] ++ cells LA) (by rfl) (by first | exact ho1 | exact ho1.alloc _) _ [(bx, b_y)] (by rfl) (own_src (base := 0) (own_one (Nat.zero_le _) (by repeat (first | (exact hp_new (by first | rfl | (simp; done))) | (refine hp_below hbA ?_) | (refine hp_grown hgB ?_ (by simp only [Value.ownBlock, ne_eq, Option.some.injEq]; have := hbA.size; simp at this; omega)) | (refine hp_alloc ?_))))) (by unfold maxLen; simp; omega) (by simp; omega) (by first | exact hzB | (simp; omega)) ?_); intro v2 wC ho2 hgC; have hS7 := keep4g (w := w) (k0 := w.heap.size) (k1 := w.heap.size + 1) hgC (by assumption) (w.heap.size + 1 + 1) (fun q hq => (own_block ho1 hq).1) (by first | exact hzB | (simp; omega)) (by omega) (by omega) (by omega)))
          all_goals
            have HO := Lib.hid (all_own ho2)
            have HS7 := Lib.hid hS7
            have HCA := Lib.hid hCA
            clear hS7 hCA ho2 ho1 hoA
            go_wp2_with fail
            go_meet
            exact ⟨LA, HCA.out, HO.out, HS7.out⟩
        case rest =>
          as_aux_lemma =>
          obtain ⟨L, hC, hown, hcells⟩ := hcut
          obtain ⟨W1, hW1⟩ : ∃ W, W = wc := ⟨_, rfl⟩
          subst hW1
          obtain ⟨pR, cR, rfl, _, hrow⟩ := own_row hown
          have HC : Hid (IsCuts (ax, ay) (bx, b_y) us vs L) := Lib.hid (hC.yes hok.out)
          have hN : (allP (ax, ay) (bx, b_y) L).length ≤ 50 := by have := hC.len; unfold allP; simp; omega
          have hN2 : 2 ≤ (allP (ax, ay) (bx, b_y) L).length := by unfold allP; simp
          have HR := Lib.hid hrow
          have HL := Lib.hid hcells
          clear hC hown hcells hrow CA hS4 hz4' hI2
          generalize hAL : allP (ax, ay) (bx, b_y) L = AL at *
          have HAL := Lib.hid hAL
          clear hAL
          go_wp2
          go_loopw [10] (fun i wr => ∃ k : Nat, 1 ≤ k ∧ k ≤ AL.length ∧ i = .int .i64 k ∧ Below W1.heap.size W1 wr) (fun i _ => AL.length - (intOf i).toNat)
          case atStart => exact ⟨1, by omega, by omega, rfl, Below.refl _ _⟩
          case round =>
            as_aux_lemma =>
            obtain ⟨k, hk1, hk2, rfl, hBe⟩ := hrel
            have HB := Lib.hid hBe
            clear hBe
            by_cases hlt : k < AL.length
            · obtain ⟨g, rfl, _, hg, d0, d1⟩ := HR.out (k - 1) (by omega)
              obtain ⟨g', hgg, _, _, d2, d3⟩ := HR.out k hlt
              obtain rfl : g = g' := by injection hgg with hgg; injection hgg
              clear hgg
              have c0 := cell_later HB.out d0
              have c1 := cell_later HB.out d1
              have c2 := cell_later HB.out d2
              have c3 := cell_later HB.out d3
              have hgw : g < wr.heap.size := Nat.lt_of_lt_of_le hg HB.out.size
              have n1 : g ≠ wr.heap.size := by omega
              have n2 : g ≠ wr.heap.size + 1 := by omega
              have x1 : IntKind.i64.wrap ((k : Int) - 1) = (k : Int) - 1 := IntWalk.i64_in _ (by omega)
              have x2 : ((k : Int) - 1).toNat = k - 1 := by omega
              have x3 : 0 ≤ (k : Int) - 1 := by omega
              have x4 : (k : Int) - 1 < (AL.length : Int) := by omega
              have HP : Hid (∀ c ∈ us, ¬ ((AL[k - 1].1 < c ∧ AL[k].1 > c) ∨ (AL[k].1 < c ∧ AL[k - 1].1 > c))) := by
                refine Lib.hid fun c hc => ?_
                have h := HC.out
                have := pieces_x h (i := k - 1) (by rw [HAL.out]; omega) hc
                simp only [HAL.out, show k - 1 + 1 = k from by omega] at this
                exact this
              have HQ : Hid (∀ c ∈ vs, ¬ ((AL[k - 1].2 < c ∧ AL[k].2 > c) ∨ (AL[k].2 < c ∧ AL[k - 1].2 > c))) := by
                refine Lib.hid fun c hc => ?_
                have h := HC.out
                have := pieces_y h (i := k - 1) (by rw [HAL.out]; omega) hc
                simp only [HAL.out, show k - 1 + 1 = k from by omega] at this
                exact this
              have hmem : AL[k - 1] ∈ allP (ax, ay) (bx, b_y) L := by rw [HAL.out]; exact List.getElem_mem _
              have hnear := all_near HC.out hmem
              have hin := all_in HC.out hmem
              clear d0 d1 d2 d3 hmem
              generalize AL[k - 1] = pp at *
              generalize AL[k] = qq at *
              have hmi : okp pp.1 pp.2 = true := by
                have h1 := okp_yes Ha.out
                have h2 := okp_yes Hb.out
                unfold mid at hin
                simp only [] at hin
                unfold okp bnd; simp; omega
              have HM := Lib.hid hmi
              have HN := Lib.hid hnear
              clear hin hnear hmi
              have P1 := Lib.hid (((Ow.new wr 0 23 pp.1 pp.2 (Nat.zero_le _)).keep (b1 _ (.cells #[.int .i64 qq.1, .int .i64 qq.2] 23))).drew)
              have P2 := Lib.hid ((Ow.new (wr.alloc (.cells #[.int .i64 pp.1, .int .i64 pp.2] 23)) 0 23 qq.1 qq.2 (Nat.zero_le _)).drew)
              have P3 := Lib.hid (((Ow.new wr 0 23 qq.1 qq.2 (Nat.zero_le _)).keep (b1 _ (.cells #[.int .i64 pp.1, .int .i64 pp.2] 23))).drew)
              have P4 := Lib.hid ((Ow.new (wr.alloc (.cells #[.int .i64 qq.1, .int .i64 qq.2] 23)) 0 23 pp.1 pp.2 (Nat.zero_le _)).drew)
              rw [World.size_alloc] at P2 P4
              go_upto_region 8 with fail
              go_cut [11, 12] (fun s11 s12 wx => ∃ A B : Nat, s11 = .pointer (some ⟨A, 0, none⟩) ∧ s12 = .pointer (some ⟨B, 0, none⟩) ∧ Ow wx 0 A pp.1 pp.2 ∧ Ow wx 0 B qq.1 qq.2 ∧ Below W1.heap.size W1 wx)
              case first =>
                go_region
                · go_wp2_with fail
                  go_meet
                  exact ⟨wr.heap.size, wr.heap.size + 1, rfl, rfl, P1.out, P2.out, (HB.out.trans ((b2 _ _ _).mono HB.out.size)).drew⟩
                · go_wp2_with fail
                  go_meet
                  exact ⟨wr.heap.size + 1, wr.heap.size, rfl, rfl, P4.out, P3.out, (HB.out.trans ((b2 _ _ _).mono HB.out.size)).drew⟩
              case rest =>
                as_aux_lemma =>
                obtain ⟨A, B, rfl, rfl, hoA, hoB, hBx⟩ := hcut
                obtain ⟨W2, hW2⟩ : ∃ W, W = wc := ⟨_, rfl⟩
                subst hW2
                clear P1 P2 P3 P4 c0 c1 c2 c3 n1 n2 x1 x2 x3 x4 HB hgw
                have hBw : Below w.heap.size w W2 := HL.out.2.2.2.2.trans (hBx.mono HL.out.2.2.2.2.size)
                have HBx := Lib.hid hBx
                have HBw := Lib.hid hBw
                have HIx := Lib.hid (HX'.out.keep hBw)
                have HIy := Lib.hid (HY'.out.keep hBw)
                obtain ⟨_, a0, a1, _, _⟩ := hoA
                obtain ⟨_, e0, e1, _, _⟩ := hoB
                clear hBx hBw
                go_wp2
                go_loopw [13] (fun i wr2 => ∃ (j n : Nat), j ≤ us.length ∧ i = .int .i64 j ∧ wr2 = W2.drewN n) (fun i _ => us.length - (intOf i).toNat)
                case atStart => exact ⟨0, 0, by omega, rfl, rfl⟩
                case round =>
                  as_aux_lemma =>
                  obtain ⟨j, n, hj, rfl, rfl⟩ := hrel
                  by_cases hjl : j < us.length
                  · obtain ⟨bq, off, rfl, hc⟩ := HIx.out j hjl
                    have hno := HP.out us[j] (List.getElem_mem _)
                    generalize us[j] = c at *
                    go_wp2_with fail
                    by_cases g1 : pp.1 < c
                    · have f1 : decide (pp.1 < c) = true := by simpa using g1
                      have f2 : decide (c < qq.1) = false := by simp; omega
                      have f4 : decide (c < pp.1) = false := by simp; omega
                      by_cases g3 : qq.1 < c
                      · have f3 : decide (qq.1 < c) = true := by simpa using g3
                        clear hno g1 g3
                        go_quiet (fail)
                        clear f1 f2 f3 f4
                        go_wp2
                        go_roundw
                        case rel => exact ⟨j + 1, n + nq, by omega, by go_num, rfl⟩
                        case measure => simp [intOf]; omega
                      · have f3 : decide (qq.1 < c) = false := by simpa using g3
                        clear hno g1 g3
                        go_quiet (fail)
                        clear f1 f2 f3 f4
                        go_wp2
                        go_roundw
                        case rel => exact ⟨j + 1, n + nq, by omega, by go_num, rfl⟩
                        case measure => simp [intOf]; omega
                    · have f1 : decide (pp.1 < c) = false := by simpa using g1
                      by_cases g3 : qq.1 < c
                      · have f3 : decide (qq.1 < c) = true := by simpa using g3
                        have f4 : decide (c < pp.1) = false := by simp; omega
                        clear hno g1 g3
                        go_quiet (fail)
                        clear f1 f3 f4
                        go_wp2
                        go_roundw
                        case rel => exact ⟨j + 1, n + nq, by omega, by go_num, rfl⟩
                        case measure => simp [intOf]; omega
                      · have f3 : decide (qq.1 < c) = false := by simpa using g3
                        clear hno g1 g3
                        go_quiet (fail)
                        clear f1 f3
                        go_wp2
                        go_roundw
                        case rel => exact ⟨j + 1, n + nq, by omega, by go_num, rfl⟩
                        case measure => simp [intOf]; omega
                  · obtain rfl : j = us.length := by omega
                    clear HP
                    go_wp2
                    go_loopw [14] (fun i wr2 => ∃ (j n : Nat), j ≤ vs.length ∧ i = .int .i64 j ∧ wr2 = W2.drewN n) (fun i _ => vs.length - (intOf i).toNat)
                    case atStart => exact ⟨0, n, by omega, rfl, rfl⟩
                    case round =>
                      as_aux_lemma =>
                      clear hjl hj
                      obtain ⟨j, n, hj, rfl, rfl⟩ := hrel
                      by_cases hjl : j < vs.length
                      · obtain ⟨bq, off, rfl, hc⟩ := HIy.out j hjl
                        have hno := HQ.out vs[j] (List.getElem_mem _)
                        generalize vs[j] = c at *
                        go_wp2_with fail
                        by_cases g1 : pp.2 < c
                        · have f1 : decide (pp.2 < c) = true := by simpa using g1
                          have f2 : decide (c < qq.2) = false := by simp; omega
                          have f4 : decide (c < pp.2) = false := by simp; omega
                          by_cases g3 : qq.2 < c
                          · have f3 : decide (qq.2 < c) = true := by simpa using g3
                            clear hno g1 g3
                            go_quiet (fail)
                            clear f1 f2 f3 f4
                            go_wp2
                            go_roundw
                            case rel => exact ⟨j + 1, n + nq, by omega, by go_num, rfl⟩
                            case measure => simp [intOf]; omega
                          · have f3 : decide (qq.2 < c) = false := by simpa using g3
                            clear hno g1 g3
                            go_quiet (fail)
                            clear f1 f2 f3 f4
                            go_wp2
                            go_roundw
                            case rel => exact ⟨j + 1, n + nq, by omega, by go_num, rfl⟩
                            case measure => simp [intOf]; omega
                        · have f1 : decide (pp.2 < c) = false := by simpa using g1
                          by_cases g3 : qq.2 < c
                          · have f3 : decide (qq.2 < c) = true := by simpa using g3
                            have f4 : decide (c < pp.2) = false := by simp; omega
                            clear hno g1 g3
                            go_quiet (fail)
                            clear f1 f3 f4
                            go_wp2
                            go_roundw
                            case rel => exact ⟨j + 1, n + nq, by omega, by go_num, rfl⟩
                            case measure => simp [intOf]; omega
                          · have f3 : decide (qq.2 < c) = false := by simpa using g3
                            clear hno g1 g3
                            go_quiet (fail)
                            clear f1 f3
                            go_wp2
                            go_roundw
                            case rel => exact ⟨j + 1, n + nq, by omega, by go_num, rfl⟩
                            case measure => simp [intOf]; omega
                      · obtain rfl : j = vs.length := by omega
                        clear HQ
                        have HB6 := Lib.hid (below_drewN HBx.out n)
                        have hS6 : (W2.drewN n).cell? ⟨A, 0, none⟩ = some (.int .i64 pp.1) ∧ (W2.drewN n).cell? ⟨A, 1, none⟩ = some (.int .i64 pp.2) ∧ (W2.drewN n).cell? ⟨w.heap.size, 0, none⟩ = some (.int .i64 ax) ∧ (W2.drewN n).cell? ⟨w.heap.size, 1, none⟩ = some (.int .i64 ay) ∧ (W2.drewN n).cell? ⟨w.heap.size + 1, 0, none⟩ = some (.int .i64 bx) ∧ (W2.drewN n).cell? ⟨w.heap.size + 1, 1, none⟩ = some (.int .i64 b_y) ∧ Below w.heap.size w (W2.drewN n) :=
                          ⟨a0, a1, cell_later HB6.out HL.out.1, cell_later HB6.out HL.out.2.1, cell_later HB6.out HL.out.2.2.1, cell_later HB6.out HL.out.2.2.2.1, below_drewN HBw.out n⟩
                        clear a0 a1 e0 e1
                        go_wp2_with fail
                        refine (of_any _ _ _).mono ?_
                        rintro e w5 ⟨rfl, hb5⟩
                        have hS7 := keep6 hb5 hS6
                        have HB7 := Lib.hid (HB6.out.trans (hb5.mono HB6.out.size))
                        clear hb5 hS6
                        go_wp2_with fail
                        refine (may_any _ _ _).mono ?_
                        rintro e w6 ⟨rfl, hb6⟩
                        rw [show (bnd pp.1 && bnd pp.2) = true from HM.out]
                        have hS8 := keep6 hb6 hS7
                        have HB8 := Lib.hid (HB7.out.trans (hb6.mono HB7.out.size))
                        have O3 : Hid (ok3 ax ay bx b_y pp.1 pp.2 = true) := Lib.hid (by unfold ok3; rw [Ha.out, Hb.out, HM.out]; rfl)
                        clear hb6 hS7
                        go_wp2_with fail
                        go_region_held3 (fun w' => w'.cell? ⟨A, 0, none⟩ = some (.int .i64 pp.1) ∧ w'.cell? ⟨A, 1, none⟩ = some (.int .i64 pp.2) ∧ w'.cell? ⟨w.heap.size, 0, none⟩ = some (.int .i64 ax) ∧ w'.cell? ⟨w.heap.size, 1, none⟩ = some (.int .i64 ay) ∧ w'.cell? ⟨w.heap.size + 1, 0, none⟩ = some (.int .i64 bx) ∧ w'.cell? ⟨w.heap.size + 1, 1, none⟩ = some (.int .i64 b_y) ∧ Below w.heap.size w w' ∧ Below W1.heap.size W1 w') (first | exact hS9 | exact ⟨hS8.1, hS8.2.1, hS8.2.2.1, hS8.2.2.2.1, hS8.2.2.2.2.1, hS8.2.2.2.2.2.1, hS8.2.2.2.2.2.2.drew, HB8.out.drew⟩ | assumption) (first | (go_at_call 10; refine (of_any _ _ _).mono ?_; rintro e w9 ⟨rfl, hb9⟩; have hS9 := keep6b hb9 (by assumption)) | (go_at_call 20; (with_reducible refine (rcross_yes _ _ _ _ _ _ _ O3.out).mono ?_); rintro e w9 ⟨rfl, hb9⟩; have hS9 := keep6b hb9 (by assumption)))
                        have HS9 := Lib.hid hS9
                        have hn : 2 * ((crI ax ay bx b_y pp.1 pp.2).natAbs : Int) ≤ max ((ax - bx).natAbs : Int) ((ay - b_y).natAbs : Int) := HN.out
                        have r1 := okp_yes Ha.out
                        have r2 := okp_yes Hb.out
                        clear HN hS8
                        generalize crI ax ay bx b_y pp.1 pp.2 = N at *
                        have hN1 : -33554432 ≤ N ∧ N ≤ 33554432 := by omega
                        have hfin : ¬ max (max (ax - bx) (bx - ax)) (max (ay - b_y) (b_y - ay)) < 2 * max N (-N) := by omega
                        go_wp2
                        go_roundw
                        case rel => exact ⟨k + 1, by omega, by omega, by go_num, HS9.out.2.2.2.2.2.2.2⟩
                        case measure => simp [intOf]; omega
            · obtain rfl : k = AL.length := by omega
              have HF := Lib.hid (HL.out.2.2.2.2.trans (HB.out.mono HL.out.2.2.2.2.size))
              go_wp2_with fail
              refine (known2_yes _).mono ?_
              rintro e w9 ⟨rfl, hk⟩
              have HF2 : Hid (Below w.heap.size w w9) := Lib.hid (HF.out.trans (hk.mono HF.out.size))
              clear hk
              go_wp2
              go_ret
              exact ⟨rfl, HF2.out⟩
end Go.Proofs.Ytabeajgfgbfdeaa
