/- The walk of SegMoves. -/
import Derived.Test.YtabeajgfgbfdeaaMvA
import Derived.Deep.CutBlock
import Derived.Deep.CutRange
namespace Go.Proofs.Ytabeajgfgbfdeaa
open Go.RowKit Go.BigFrame

set_option maxRecDepth 100000 in
set_option maxHeartbeats 8000000 in
theorem mvs_walk (ax ay bx b_y cx cy px py qx qy : Int) (pp pq : Option Addr) (xs ys : List Int) (cp cq : Nat) (w : World) (_hx : xs.length ≤ cp) (_hy : ys.length ≤ cq) (_hcp : cp ≤ 9223372036854775807) (_hcq : cq ≤ 9223372036854775807) (HX : Hid (Ints w pp xs)) (HY : Hid (Ints w pq ys)) :
    Calls Try.prog 7 #[.agg #[.int .i64 ax, .int .i64 ay], .agg #[.int .i64 bx, .int .i64 b_y], .agg #[.int .i64 cx, .int .i64 cy], .agg #[.int .i64 px, .int .i64 py], .agg #[.int .i64 qx, .int .i64 qy], .slice pp xs.length cp, .slice pq ys.length cq] w
      fun e w' => e = .returned (.bool true) ∧ Below w.heap.size w w' := by
  go_enter Try.func7, Try.ntmps7
  go_wp2
  refine gen_world (fun W => Box5 w W w.heap.size ax ay bx b_y cx cy px py qx qy ∧ Row5 W (w.heap.size + 1 + 1 + 1 + 1 + 1) (xs5 ax bx cx px qx) (xs5 ay b_y cy py qy)) ?_ ?_
  · refine ⟨⟨by go_simp, by go_simp, by go_simp, by go_simp, by go_simp, by go_simp, by go_simp, by go_simp, by go_simp, by go_simp, (b5 _ _ _ _ _ _).trans ((b1 _ _).mono (by simp <;> omega))⟩, by simp, ?_⟩
    intro i hi
    match i, hi with
    | 0, _ => exact ⟨by go_simp; rfl, by go_simp; rfl, by go_simp, by go_simp⟩
    | 1, _ => exact ⟨by go_simp; rfl, by go_simp; rfl, by go_simp, by go_simp⟩
    | 2, _ => exact ⟨by go_simp; rfl, by go_simp; rfl, by go_simp, by go_simp⟩
    | 3, _ => exact ⟨by go_simp; rfl, by go_simp; rfl, by go_simp, by go_simp⟩
    | 4, _ => exact ⟨by go_simp; rfl, by go_simp; rfl, by go_simp, by go_simp⟩
  rintro W0 ⟨hB, hR⟩
  have HR := Lib.hid hR
  have HB := Lib.hid hB
  clear hB hR
  go_loopw [16] (fun i wr => ∃ k m : Nat, k ≤ 5 ∧ i = .int .i64 k ∧ wr = W0.drewN m ∧ (∀ j, j < k → sm2 (xs5 ax bx cx px qx j) ∧ sm2 (xs5 ay b_y cy py qy j))) (fun i _ => 5 - (intOf i).toNat)
  case atStart => exact ⟨0, 0, by omega, rfl, rfl, fun j hj => absurd hj (by omega)⟩
  case round =>
    obtain ⟨k, m, hk, rfl, rfl, hs⟩ := hrel
    have Hs := Lib.hid hs
    clear hs
    by_cases hlt : k < 5
    · as_aux_lemma =>
      clear _hx _hy _hcp _hcq HX HY
      obtain ⟨c1, c2, _, _⟩ := HR.out.2 k hlt
      generalize hX' : xs5 ax bx cx px qx k = X at *
      generalize hY' : xs5 ay b_y cy py qy k = Y at *
      have hX := Lib.hid hX'
      have hY := Lib.hid hY'
      clear hX' hY'
      have kfive : decide ((k : Int) < 5) = true := by simp; omega
      rcases Int.lt_trichotomy X Y with ho | ho | ho
      · have Ho := Lib.hid ho
        have f1 : max X Y = Y := by omega
        have f2 : max Y X = Y := by omega
        have f3 : min X Y = X := by omega
        have f4 : min Y X = X := by omega
        clear ho
        by_cases hb : 1048576 < Y
        · have hb' : decide (1048576 < Y) = true := by simpa using hb
          have Hb := Lib.hid hb
          clear hb
          go_wp2_with fail
          go_quiet (fail)
          go_wp2_with fail
          refine (known2_yes _).mono ?_
          rintro e w1 ⟨rfl, hb1⟩
          go_wp2
          go_ret
          exact ⟨rfl, (below_drewN HB.out.2.2.2.2.2.2.2.2.2.2 _).trans (hb1.mono (below_drewN HB.out.2.2.2.2.2.2.2.2.2.2 _).size)⟩
        · have hb' : decide (1048576 < Y) = false := by simpa using hb
          by_cases hc : X < -1048576
          · have hc' : decide (X < -1048576) = true := by simpa using hc
            have Hb := Lib.hid hb
            clear hb
            have Hc := Lib.hid hc
            clear hc
            go_wp2_with fail
            go_quiet (fail)
            go_wp2_with fail
            refine (known2_yes _).mono ?_
            rintro e w1 ⟨rfl, hb1⟩
            go_wp2
            go_ret
            exact ⟨rfl, (below_drewN HB.out.2.2.2.2.2.2.2.2.2.2 _).trans (hb1.mono (below_drewN HB.out.2.2.2.2.2.2.2.2.2.2 _).size)⟩
          · have hc' : decide (X < -1048576) = false := by simpa using hc
            have Hb := Lib.hid hb
            clear hb
            have Hc := Lib.hid hc
            clear hc
            go_wp2_with fail
            go_quiet (fail)
            go_wp2
            go_roundw
            case rel =>
              refine ⟨k + 1, _, by omega, by go_num, rfl, fun j hj => ?_⟩
              by_cases hjk : j < k
              · exact Hs.out j hjk
              · obtain rfl : j = k := by omega
                rw [hX.out, hY.out]
                have hb := Hb.out
                have ho := Ho.out
                have hc := Hc.out
                unfold sm2
                omega
            case measure => simp [intOf]; omega
      · subst ho
        by_cases hb : 1048576 < X
        · have hb' : decide (1048576 < X) = true := by simpa using hb
          have Hb := Lib.hid hb
          clear hb
          go_wp2_with fail
          go_quiet (fail)
          go_wp2_with fail
          refine (known2_yes _).mono ?_
          rintro e w1 ⟨rfl, hb1⟩
          go_wp2
          go_ret
          exact ⟨rfl, (below_drewN HB.out.2.2.2.2.2.2.2.2.2.2 _).trans (hb1.mono (below_drewN HB.out.2.2.2.2.2.2.2.2.2.2 _).size)⟩
        · have hb' : decide (1048576 < X) = false := by simpa using hb
          by_cases hc : X < -1048576
          · have hc' : decide (X < -1048576) = true := by simpa using hc
            have Hb := Lib.hid hb
            clear hb
            have Hc := Lib.hid hc
            clear hc
            go_wp2_with fail
            go_quiet (fail)
            go_wp2_with fail
            refine (known2_yes _).mono ?_
            rintro e w1 ⟨rfl, hb1⟩
            go_wp2
            go_ret
            exact ⟨rfl, (below_drewN HB.out.2.2.2.2.2.2.2.2.2.2 _).trans (hb1.mono (below_drewN HB.out.2.2.2.2.2.2.2.2.2.2 _).size)⟩
          · have hc' : decide (X < -1048576) = false := by simpa using hc
            have Hb := Lib.hid hb
            clear hb
            have Hc := Lib.hid hc
            clear hc
            go_wp2_with fail
            go_quiet (fail)
            go_wp2
            go_roundw
            case rel =>
              refine ⟨k + 1, _, by omega, by go_num, rfl, fun j hj => ?_⟩
              by_cases hjk : j < k
              · exact Hs.out j hjk
              · obtain rfl : j = k := by omega
                rw [hX.out, hY.out]
                have hb := Hb.out
                have hc := Hc.out
                unfold sm2
                omega
            case measure => simp [intOf]; omega
      · have Ho := Lib.hid ho
        have f1 : max X Y = X := by omega
        have f2 : max Y X = X := by omega
        have f3 : min X Y = Y := by omega
        have f4 : min Y X = Y := by omega
        clear ho
        by_cases hb : 1048576 < X
        · have hb' : decide (1048576 < X) = true := by simpa using hb
          have Hb := Lib.hid hb
          clear hb
          go_wp2_with fail
          go_quiet (fail)
          go_wp2_with fail
          refine (known2_yes _).mono ?_
          rintro e w1 ⟨rfl, hb1⟩
          go_wp2
          go_ret
          exact ⟨rfl, (below_drewN HB.out.2.2.2.2.2.2.2.2.2.2 _).trans (hb1.mono (below_drewN HB.out.2.2.2.2.2.2.2.2.2.2 _).size)⟩
        · have hb' : decide (1048576 < X) = false := by simpa using hb
          by_cases hc : Y < -1048576
          · have hc' : decide (Y < -1048576) = true := by simpa using hc
            have Hb := Lib.hid hb
            clear hb
            have Hc := Lib.hid hc
            clear hc
            go_wp2_with fail
            go_quiet (fail)
            go_wp2_with fail
            refine (known2_yes _).mono ?_
            rintro e w1 ⟨rfl, hb1⟩
            go_wp2
            go_ret
            exact ⟨rfl, (below_drewN HB.out.2.2.2.2.2.2.2.2.2.2 _).trans (hb1.mono (below_drewN HB.out.2.2.2.2.2.2.2.2.2.2 _).size)⟩
          · have hc' : decide (Y < -1048576) = false := by simpa using hc
            have Hb := Lib.hid hb
            clear hb
            have Hc := Lib.hid hc
            clear hc
            go_wp2_with fail
            go_quiet (fail)
            go_wp2
            go_roundw
            case rel =>
              refine ⟨k + 1, _, by omega, by go_num, rfl, fun j hj => ?_⟩
              by_cases hjk : j < k
              · exact Hs.out j hjk
              · obtain rfl : j = k := by omega
                rw [hX.out, hY.out]
                have hb := Hb.out
                have ho := Ho.out
                have hc := Hc.out
                unfold sm2
                omega
            case measure => simp [intOf]; omega
    · obtain rfl : k = 5 := by omega
      have s0 := Hs.out 0 (by omega)
      have s1 := Hs.out 1 (by omega)
      have s2 := Hs.out 2 (by omega)
      have s3 := Hs.out 3 (by omega)
      have s4 := Hs.out 4 (by omega)
      simp [xs5] at s0 s1 s2 s3 s4
      clear Hs
      have hB0 : Box5 w (W0.drewN m) w.heap.size ax ay bx b_y cx cy px py qx qy := HB.out.drewN m
      have hR0 : Row5 (W0.drewN m) (w.heap.size + 1 + 1 + 1 + 1 + 1) (mvk 0 (xs5 ax bx cx px qx) qx) (mvk 0 (xs5 ay b_y cy py qy) qy) := HR.out.drewN m
      clear HB HR
      have S0 := Lib.hid s0
      have S1 := Lib.hid s1
      have S2 := Lib.hid s2
      have S3 := Lib.hid s3
      have S4 := Lib.hid s4
      clear s0 s1 s2 s3 s4
      go_wp2
      generalize W0.drewN m = W1 at *
      go_loopw [17] (fun i wr => ∃ k : Nat, k ≤ 4 ∧ i = .int .i64 k ∧ Box5 w wr w.heap.size ax ay bx b_y cx cy px py qx qy ∧ Row5 wr (w.heap.size + 1 + 1 + 1 + 1 + 1) (mvk k (xs5 ax bx cx px qx) qx) (mvk k (xs5 ay b_y cy py qy) qy)) (fun i _ => 4 - (intOf i).toNat)
      case atStart => exact ⟨0, by omega, rfl, hB0, hR0⟩
      case round =>
        obtain ⟨k, hk, rfl, hB, hR⟩ := hrel
        by_cases hlt : k < 4
        · as_aux_lemma =>
          obtain ⟨c1, c2, f1, f2⟩ := hR.2 k (by omega)
          have HR := Lib.hid hR
          have HBo := Lib.hid hB
          clear hR hB hB0 hR0
          obtain ⟨_, _, _, _, _, _, _, _, q1, q2, _⟩ := HBo.out
          have e1 : sm2 (mvk k (xs5 ax bx cx px qx) qx k) := by
            rw [mvk_self]
            match k, hlt with
            | 0, _ => exact S0.out.1
            | 1, _ => exact S1.out.1
            | 2, _ => exact S2.out.1
            | 3, _ => exact S3.out.1
          have e2 : sm2 (mvk k (xs5 ay b_y cy py qy) qy k) := by
            rw [mvk_self]
            match k, hlt with
            | 0, _ => exact S0.out.2
            | 1, _ => exact S1.out.2
            | 2, _ => exact S2.out.2
            | 3, _ => exact S3.out.2
          generalize hX' : mvk k (xs5 ax bx cx px qx) qx k = X at *
          generalize hY' : mvk k (xs5 ay b_y cy py qy) qy k = Y at *
          have hX := Lib.hid hX'
          have hY := Lib.hid hY'
          clear hX' hY'
          have b5' := S4.out
          unfold sm2 at e1 e2 b5'
          obtain ⟨e3, e4⟩ := e1
          obtain ⟨e5, e6⟩ := e2
          obtain ⟨⟨e7, e8⟩, e9, e10⟩ := b5'
          go_wp2
          go_region
          go_wp2
          go_roundw
          case rel => exact ⟨k + 1, by omega, by go_num, HBo.out.store (by omega) (Nat.le_refl _) _ _, HR.out.store (by omega) hX.out hY.out⟩
          case measure => simp [intOf]; omega
        · obtain rfl : k = 4 := by omega
          have hS0 : SM w w.heap.size (w.heap.size + 1 + 1 + 1 + 1 + 1) ax ay bx b_y cx cy px py qx qy wr := by
            obtain ⟨h0, h1, h2, h3, h4, h5, h6, h7, h8, h9, hb⟩ := hB
            exact ⟨h0, h1, h2, h3, h4, h5, h6, h7, h8, h9, (hR.2 0 (by omega)).1, (hR.2 0 (by omega)).2.1, (hR.2 1 (by omega)).1, (hR.2 1 (by omega)).2.1, (hR.2 2 (by omega)).1, (hR.2 2 (by omega)).2.1, (hR.2 3 (by omega)).1, (hR.2 3 (by omega)).2.1, hb⟩
          have hz : w.heap.size + 1 + 1 + 1 + 1 + 1 < wr.heap.size := hR.1
          obtain ⟨W2, hW2⟩ : ∃ W, W = wr := ⟨_, rfl⟩
          subst hW2
          have HS0 := Lib.hid hS0
          clear hS0 hB hR hB0 hR0 hlt hk
          have HX2 := Lib.hid (HX.out.keep HS0.out.2.2.2.2.2.2.2.2.2.2.2.2.2.2.2.2.2.2)
          have HY2 := Lib.hid (HY.out.keep HS0.out.2.2.2.2.2.2.2.2.2.2.2.2.2.2.2.2.2.2)
          go_upto_block 4 with fail
          rw [show ((5 : Nat) : Int) = 5 from rfl, show ((4 : Nat) : Int) = 4 from rfl]
          go_cut [18, 20, 22] from 94 to 132 (fun u v _ wx => TwoR W2 wx v u ((xs.take 20).filter okc) qx)
          case first =>
            obtain ⟨i0, hi, hz0, hz1, hz2⟩ := info_parts info_int
            go_wp2_with fail
            go_loopw [18, 20, 22] (fun u v i wr => ∃ k : Nat, k ≤ xs.length ∧ k ≤ 20 ∧ i = .int .i64 k ∧ TwoR W2 wr v u ((xs.take k).filter okc) qx) (fun _ _ i _ => xs.length - (intOf i).toNat)
            case atStart => exact ⟨0, by omega, by omega, rfl, ⟨⟨rfl, .inl ⟨rfl, rfl⟩⟩, ⟨rfl, .inl ⟨rfl, rfl⟩⟩, fun g h => (by cases h), Below.refl _ _⟩⟩
            case round =>
              obtain ⟨k, hk, hk20, rfl, hT⟩ := hrel
              have HT := Lib.hid hT
              clear hT
              by_cases hlt : k < xs.length
              · by_cases h20 : k < 20
                · obtain ⟨b, off, rfl, hc⟩ := HX2.out k hlt
                  have c0 := cell_later HT.out.below hc
                  have c1 := cell_later HT.out.below HS0.out.2.2.2.2.2.2.2.2.1
                  have hnW : w.heap.size + 1 + 1 + 1 + 1 < W2.heap.size := World.block_lt_of_cell? _ ⟨w.heap.size + 1 + 1 + 1 + 1, 0, none⟩ HS0.out.2.2.2.2.2.2.2.2.1
                  have hl := okc_len xs k
                  have HYes := Lib.hid (okc_yes xs k hlt)
                  have HNo := Lib.hid (okc_no xs k hlt)
                  generalize xs[k] = x at *
                  have hbW : b < W2.heap.size := World.block_lt_of_cell? _ ⟨b, off + k, none⟩ hc
                  clear hc
                  by_cases g1 : x ≤ 1048576
                  · by_cases g2 : -1048576 ≤ x
                    · obtain ⟨e9, e10⟩ := S4.out.1
                      have HOK : Hid (okc x = true) := Lib.hid (by unfold okc; simp [g1, g2])
                      have hwr := HT.out.below.size
                      have hsum : IntKind.i64.wrap (x + qx) = x + qx := IntWalk.i64_in _ (by omega)
                      have hv := HT.out.one
                      have hu := HT.out.two
                      have hap := HT.out.apart
                      have hS4 : wr.cell? ⟨b, off + k, none⟩ = some (.int .i64 x) ∧ wr.cell? ⟨w.heap.size + 1 + 1 + 1 + 1, 0, none⟩ = some (.int .i64 qx) ∧ Below W2.heap.size W2 wr := ⟨c0, c1, HT.out.below⟩
                      clear HT
                      generalize ((xs.take k).filter okc) = L at *
                      go_wp2_with fail
                      go_region_held3 (fun w' => w'.cell? ⟨b, off + k, none⟩ = some (.int .i64 x) ∧ w'.cell? ⟨w.heap.size + 1 + 1 + 1 + 1, 0, none⟩ = some (.int .i64 qx) ∧ Below W2.heap.size W2 w') (first | assumption | exact ⟨hS4.1, hS4.2.1, hS4.2.2.drew⟩ | exact keep2 (b1 _ _) (by assumption)) (first | ((refine step_append_int (by rfl) (.tmp 116) (.tmp 121) 36 (by rfl) W2.heap.size 3 i0 (.int .i64 0) 8 Try.underlying36 hi hz0 hz1 hz2 (by rfl) u20 L.length (nums L) (by rfl) (by repeat (first | exact hv | (refine own_other hgU ?_ (fun q hq e => hap q hq e)) | (refine World.ownsRow.alloc ?_ _))) _ x _ (by rfl) (by repeat (first | (exact hp_new (by first | rfl | (simp; done))) | (refine hp_grown hgV ?_ (fun e => absurd (own_block hv e.symm).2 (by have h9 := hgU.size; simp at h9 ⊢; omega))) | (refine hp_grown hgV ?_ (fun e => absurd (own_block hv e.symm).2 (by simp))) | (refine hp_grown hgU ?_ (fun e => absurd (own_block hu e.symm).2 (by have h9 := hgV.size; simp at h9 ⊢; omega))) | (refine hp_grown hgU ?_ (fun e => absurd (own_block hu e.symm).2 (by simp))) | (refine hp_alloc ?_))) (by unfold maxLen; omega) (by omega) (by first | exact hwr | (have h9 := hgV.size; have h8 := hgU.size; simp at h9 h8 ⊢; omega) | (have h9 := hgV.size; simp at h9 ⊢; omega) | (have h8 := hgU.size; simp at h8 ⊢; omega) | (simp; omega)) ?_); intro v1 wV hoV hgV hbV; have hS5 := keep2g hgV (by assumption) (fun q hq => (own_block hv hq).1) hbW hnW) | ((refine step_append_int (by rfl) (.tmp 123) (.tmp 131) 36 (by rfl) W2.heap.size 3 i0 (.int .i64 0) 8 Try.underlying36 hi hz0 hz1 hz2 (by rfl) u18 L.length (nums (L.map (· + qx))) (by rfl) (by repeat (first | exact hu | (refine own_other hgV ?_ (fun q hq e => hap q e hq)) | (refine World.ownsRow.alloc ?_ _))) _ (x + qx) _ (by rfl) (by repeat (first | (exact hp_new (by first | rfl | (simp; done))) | (refine hp_grown hgV ?_ (fun e => absurd (own_block hv e.symm).2 (by have h9 := hgU.size; simp at h9 ⊢; omega))) | (refine hp_grown hgV ?_ (fun e => absurd (own_block hv e.symm).2 (by simp))) | (refine hp_grown hgU ?_ (fun e => absurd (own_block hu e.symm).2 (by have h9 := hgV.size; simp at h9 ⊢; omega))) | (refine hp_grown hgU ?_ (fun e => absurd (own_block hu e.symm).2 (by simp))) | (refine hp_alloc ?_))) (by unfold maxLen; omega) (by omega) (by first | exact hwr | (have h9 := hgV.size; have h8 := hgU.size; simp at h9 h8 ⊢; omega) | (have h9 := hgV.size; simp at h9 ⊢; omega) | (have h8 := hgU.size; simp at h8 ⊢; omega) | (simp; omega)) ?_); intro v2 wU hoU hgU hbU; have hS6 := keep2g hgU (by assumption) (fun q hq => (own_block hu hq).1) hbW hnW))
                      all_goals
                        have A1 := apart_new hap hu hbV (by first | exact Nat.le_refl _ | (simp; done) | (simp; omega))
                        have A2 := apart_new (fun g a b => A1 g b a) hoV hbU (by first | exact Nat.le_refl _ | (simp; done) | (simp; omega))
                        have HN := Lib.hid (TwoR.more (own_other hgU (by repeat (first | exact hoV | refine World.ownsRow.alloc ?_ _)) (fun g a e => A1 g a e)) hoU (fun g a b => A2 g b a) hS6.2.2)
                        clear A1 A2 hoV hoU hgV hgU hbV hbU hS5 hS6 hv hu hap hS4
                        go_wp2
                        go_roundw
                        case rel => exact ⟨k + 1, by omega, by omega, by go_num, by rw [HYes.out HOK.out]; exact HN.out⟩
                        case measure => simp [intOf]; omega
                    · go_wp2
                      go_roundw
                      case rel => exact ⟨k + 1, by omega, by omega, by go_num, by rw [HNo.out (by unfold okc; simp; omega)]; exact HT.out⟩
                      case measure => simp [intOf]; omega
                  · go_wp2
                    go_roundw
                    case rel => exact ⟨k + 1, by omega, by omega, by go_num, by rw [HNo.out (by unfold okc; simp; omega)]; exact HT.out⟩
                    case measure => simp [intOf]; omega
                · obtain rfl : k = 20 := by omega
                  go_wp2
                  go_meet
                  exact HT.out
              · obtain rfl : k = xs.length := by omega
                go_wp2
                go_meet
                have := HT.out
                rw [List.take_length] at this
                rw [List.take_of_length_le (by omega)]
                exact this
          case rest =>
            obtain ⟨W3, hW3⟩ : ∃ W, W = wc := ⟨_, rfl⟩
            subst hW3
            have HT3 := Lib.hid hcut
            have HS3 := Lib.hid (HS0.out.keep hcut.below)
            have HY3 := Lib.hid (HY2.out.keep hcut.below)
            clear hcut
            go_upto_block 6 with fail
            go_cut [19, 21, 23] from 133 to 171 (fun u v _ wx => TwoR W3 wx v u ((ys.take 20).filter okc) qy)
            case first =>
              obtain ⟨i0, hi, hz0, hz1, hz2⟩ := info_parts info_int
              go_wp2_with fail
              go_loopw [19, 21, 23] (fun u v i wr => ∃ k : Nat, k ≤ ys.length ∧ k ≤ 20 ∧ i = .int .i64 k ∧ TwoR W3 wr v u ((ys.take k).filter okc) qy) (fun _ _ i _ => ys.length - (intOf i).toNat)
              case atStart => exact ⟨0, by omega, by omega, rfl, ⟨⟨rfl, .inl ⟨rfl, rfl⟩⟩, ⟨rfl, .inl ⟨rfl, rfl⟩⟩, fun g h => (by cases h), Below.refl _ _⟩⟩
              case round =>
                obtain ⟨k, hk, hk20, rfl, hT⟩ := hrel
                have HT := Lib.hid hT
                clear hT
                by_cases hlt : k < ys.length
                · by_cases h20 : k < 20
                  · obtain ⟨b, off, rfl, hc⟩ := HY3.out k hlt
                    have c0 := cell_later HT.out.below hc
                    have c1 := cell_later HT.out.below HS3.out.2.2.2.2.2.2.2.2.2.1
                    have hnW : w.heap.size + 1 + 1 + 1 + 1 < W3.heap.size := World.block_lt_of_cell? _ ⟨w.heap.size + 1 + 1 + 1 + 1, 1, none⟩ HS3.out.2.2.2.2.2.2.2.2.2.1
                    have hl := okc_len ys k
                    have HYes := Lib.hid (okc_yes ys k hlt)
                    have HNo := Lib.hid (okc_no ys k hlt)
                    generalize ys[k] = x at *
                    have hbW : b < W3.heap.size := World.block_lt_of_cell? _ ⟨b, off + k, none⟩ hc
                    clear hc
                    by_cases g1 : x ≤ 1048576
                    · by_cases g2 : -1048576 ≤ x
                      · obtain ⟨e9, e10⟩ := S4.out.2
                        have HOK : Hid (okc x = true) := Lib.hid (by unfold okc; simp [g1, g2])
                        have hwr := HT.out.below.size
                        have hsum : IntKind.i64.wrap (x + qy) = x + qy := IntWalk.i64_in _ (by omega)
                        have hv := HT.out.one
                        have hu := HT.out.two
                        have hap := HT.out.apart
                        have hS4 : wr.cell? ⟨b, off + k, none⟩ = some (.int .i64 x) ∧ wr.cell? ⟨w.heap.size + 1 + 1 + 1 + 1, 1, none⟩ = some (.int .i64 qy) ∧ Below W3.heap.size W3 wr := ⟨c0, c1, HT.out.below⟩
                        clear HT
                        generalize ((ys.take k).filter okc) = L at *
                        go_wp2_with fail
                        go_region_held3 (fun w' => w'.cell? ⟨b, off + k, none⟩ = some (.int .i64 x) ∧ w'.cell? ⟨w.heap.size + 1 + 1 + 1 + 1, 1, none⟩ = some (.int .i64 qy) ∧ Below W3.heap.size W3 w') (first | assumption | exact ⟨hS4.1, hS4.2.1, hS4.2.2.drew⟩ | exact keep2 (b1 _ _) (by assumption)) (first | ((refine step_append_int (by rfl) (.tmp 155) (.tmp 160) 36 (by rfl) W3.heap.size 3 i0 (.int .i64 0) 8 Try.underlying36 hi hz0 hz1 hz2 (by rfl) u21 L.length (nums L) (by rfl) (by repeat (first | exact hv | (refine own_other hgU ?_ (fun q hq e => hap q hq e)) | (refine World.ownsRow.alloc ?_ _))) _ x _ (by rfl) (by repeat (first | (exact hp_new (by first | rfl | (simp; done))) | (refine hp_grown hgV ?_ (fun e => absurd (own_block hv e.symm).2 (by have h9 := hgU.size; simp at h9 ⊢; omega))) | (refine hp_grown hgV ?_ (fun e => absurd (own_block hv e.symm).2 (by simp))) | (refine hp_grown hgU ?_ (fun e => absurd (own_block hu e.symm).2 (by have h9 := hgV.size; simp at h9 ⊢; omega))) | (refine hp_grown hgU ?_ (fun e => absurd (own_block hu e.symm).2 (by simp))) | (refine hp_alloc ?_))) (by unfold maxLen; omega) (by omega) (by first | exact hwr | (have h9 := hgV.size; have h8 := hgU.size; simp at h9 h8 ⊢; omega) | (have h9 := hgV.size; simp at h9 ⊢; omega) | (have h8 := hgU.size; simp at h8 ⊢; omega) | (simp; omega)) ?_); intro v1 wV hoV hgV hbV; have hS5 := keep2g hgV (by assumption) (fun q hq => (own_block hv hq).1) hbW hnW) | ((refine step_append_int (by rfl) (.tmp 162) (.tmp 170) 36 (by rfl) W3.heap.size 3 i0 (.int .i64 0) 8 Try.underlying36 hi hz0 hz1 hz2 (by rfl) u19 L.length (nums (L.map (· + qy))) (by rfl) (by repeat (first | exact hu | (refine own_other hgV ?_ (fun q hq e => hap q e hq)) | (refine World.ownsRow.alloc ?_ _))) _ (x + qy) _ (by rfl) (by repeat (first | (exact hp_new (by first | rfl | (simp; done))) | (refine hp_grown hgV ?_ (fun e => absurd (own_block hv e.symm).2 (by have h9 := hgU.size; simp at h9 ⊢; omega))) | (refine hp_grown hgV ?_ (fun e => absurd (own_block hv e.symm).2 (by simp))) | (refine hp_grown hgU ?_ (fun e => absurd (own_block hu e.symm).2 (by have h9 := hgV.size; simp at h9 ⊢; omega))) | (refine hp_grown hgU ?_ (fun e => absurd (own_block hu e.symm).2 (by simp))) | (refine hp_alloc ?_))) (by unfold maxLen; omega) (by omega) (by first | exact hwr | (have h9 := hgV.size; have h8 := hgU.size; simp at h9 h8 ⊢; omega) | (have h9 := hgV.size; simp at h9 ⊢; omega) | (have h8 := hgU.size; simp at h8 ⊢; omega) | (simp; omega)) ?_); intro v2 wU hoU hgU hbU; have hS6 := keep2g hgU (by assumption) (fun q hq => (own_block hu hq).1) hbW hnW))
                        all_goals
                          have A1 := apart_new hap hu hbV (by first | exact Nat.le_refl _ | (simp; done) | (simp; omega))
                          have A2 := apart_new (fun g a b => A1 g b a) hoV hbU (by first | exact Nat.le_refl _ | (simp; done) | (simp; omega))
                          have HN := Lib.hid (TwoR.more (own_other hgU (by repeat (first | exact hoV | refine World.ownsRow.alloc ?_ _)) (fun g a e => A1 g a e)) hoU (fun g a b => A2 g b a) hS6.2.2)
                          clear A1 A2 hoV hoU hgV hgU hbV hbU hS5 hS6 hv hu hap hS4
                          go_wp2
                          go_roundw
                          case rel => exact ⟨k + 1, by omega, by omega, by go_num, by rw [HYes.out HOK.out]; exact HN.out⟩
                          case measure => simp [intOf]; omega
                      · go_wp2
                        go_roundw
                        case rel => exact ⟨k + 1, by omega, by omega, by go_num, by rw [HNo.out (by unfold okc; simp; omega)]; exact HT.out⟩
                        case measure => simp [intOf]; omega
                    · go_wp2
                      go_roundw
                      case rel => exact ⟨k + 1, by omega, by omega, by go_num, by rw [HNo.out (by unfold okc; simp; omega)]; exact HT.out⟩
                      case measure => simp [intOf]; omega
                  · obtain rfl : k = 20 := by omega
                    go_wp2
                    go_meet
                    exact HT.out
                · obtain rfl : k = ys.length := by omega
                  go_wp2
                  go_meet
                  have := HT.out
                  rw [List.take_length] at this
                  rw [List.take_of_length_le (by omega)]
                  exact this
            case rest =>
              obtain ⟨W4, hW4⟩ : ∃ W, W = wc := ⟨_, rfl⟩
              subst hW4
              have HS4 := Lib.hid (HS3.out.keep hcut.below)
              obtain ⟨p1, k1, rfl, I1⟩ := own_ints (ownk hcut.below HT3.out.one)
              obtain ⟨p2, k2, rfl, I2⟩ := own_ints (L := ((xs.take 20).filter okc).map (· + qx)) (by rw [List.length_map]; exact ownk hcut.below HT3.out.two)
              obtain ⟨p3, k3, rfl, I3⟩ := own_ints hcut.one
              obtain ⟨p4, k4, rfl, I4⟩ := own_ints (L := ((ys.take 20).filter okc).map (· + qy)) (by rw [List.length_map]; exact hcut.two)
              have I1 := Lib.hid I1
              have I2 := Lib.hid I2
              have I3 := Lib.hid I3
              have I4 := Lib.hid I4
              have lx := okc_len xs 20
              have ly := okc_len ys 20
              clear hcut HT3 HS3 HS0 HX2 HY2 HX HY HY3
              generalize (xs.take 20).filter okc = XL at *
              generalize (ys.take 20).filter okc = YL at *
              have J := Lib.hid (clsV_mv S0.out S1.out S2.out S3.out S4.out)
              obtain ⟨c0, c1, c2, c3, c4, c5, c6, c7, _⟩ := HS4.out
              go_wp2_with fail
              refine (class_any _ _ _ _ _ _ _ _ _).mono ?_
              rintro e w5 ⟨rfl, hb5⟩
              have HS5 := Lib.hid (HS4.out.keep hb5)
              have HB5 := Lib.hid hb5
              clear c0 c1 c2 c3 c4 c5 c6 c7 hb5
              go_wp2_with fail
              have hL : w5.cell? ⟨w.heap.size + 1 + 1 + 1 + 1 + 1, 0, none⟩ = some (.int .i64 (ax + qx)) ∧ w5.cell? ⟨w.heap.size + 1 + 1 + 1 + 1 + 1, 1, none⟩ = some (.int .i64 (ay + qy)) ∧ w5.cell? ⟨w.heap.size + 1 + 1 + 1 + 1 + 1, 2, none⟩ = some (.int .i64 (bx + qx)) ∧ w5.cell? ⟨w.heap.size + 1 + 1 + 1 + 1 + 1, 3, none⟩ = some (.int .i64 (b_y + qy)) ∧ w5.cell? ⟨w.heap.size + 1 + 1 + 1 + 1 + 1, 4, none⟩ = some (.int .i64 (cx + qx)) ∧ w5.cell? ⟨w.heap.size + 1 + 1 + 1 + 1 + 1, 5, none⟩ = some (.int .i64 (cy + qy)) ∧ w5.cell? ⟨w.heap.size + 1 + 1 + 1 + 1 + 1, 6, none⟩ = some (.int .i64 (px + qx)) ∧ w5.cell? ⟨w.heap.size + 1 + 1 + 1 + 1 + 1, 7, none⟩ = some (.int .i64 (py + qy)) ∧ Below w5.heap.size w5 w5 := ⟨HS5.out.2.2.2.2.2.2.2.2.2.2.1, HS5.out.2.2.2.2.2.2.2.2.2.2.2.1, HS5.out.2.2.2.2.2.2.2.2.2.2.2.2.1, HS5.out.2.2.2.2.2.2.2.2.2.2.2.2.2.1, HS5.out.2.2.2.2.2.2.2.2.2.2.2.2.2.2.1, HS5.out.2.2.2.2.2.2.2.2.2.2.2.2.2.2.2.1, HS5.out.2.2.2.2.2.2.2.2.2.2.2.2.2.2.2.2.1, HS5.out.2.2.2.2.2.2.2.2.2.2.2.2.2.2.2.2.2.1, Below.refl _ _⟩
              go_region_held3 (fun w' => w'.cell? ⟨w.heap.size + 1 + 1 + 1 + 1 + 1, 0, none⟩ = some (.int .i64 (ax + qx)) ∧ w'.cell? ⟨w.heap.size + 1 + 1 + 1 + 1 + 1, 1, none⟩ = some (.int .i64 (ay + qy)) ∧ w'.cell? ⟨w.heap.size + 1 + 1 + 1 + 1 + 1, 2, none⟩ = some (.int .i64 (bx + qx)) ∧ w'.cell? ⟨w.heap.size + 1 + 1 + 1 + 1 + 1, 3, none⟩ = some (.int .i64 (b_y + qy)) ∧ w'.cell? ⟨w.heap.size + 1 + 1 + 1 + 1 + 1, 4, none⟩ = some (.int .i64 (cx + qx)) ∧ w'.cell? ⟨w.heap.size + 1 + 1 + 1 + 1 + 1, 5, none⟩ = some (.int .i64 (cy + qy)) ∧ w'.cell? ⟨w.heap.size + 1 + 1 + 1 + 1 + 1, 6, none⟩ = some (.int .i64 (px + qx)) ∧ w'.cell? ⟨w.heap.size + 1 + 1 + 1 + 1 + 1, 7, none⟩ = some (.int .i64 (py + qy)) ∧ Below w5.heap.size w5 w') (first | assumption | exact ⟨hL.1, hL.2.1, hL.2.2.1, hL.2.2.2.1, hL.2.2.2.2.1, hL.2.2.2.2.2.1, hL.2.2.2.2.2.2.1, hL.2.2.2.2.2.2.2.1, hL.2.2.2.2.2.2.2.2.drew⟩) (first | (go_at_call 8; refine (class_any _ _ _ _ _ _ _ _ _).mono ?_; rintro e W6 ⟨rfl, hb6⟩; have hS6 := keep8 hb6 (by assumption)))
              rw [J.out.1, J.out.2]
              clear hL
              have HS6 := Lib.hid (HS5.out.keep (W := w5) (w1 := W6) hS6.2.2.2.2.2.2.2.2)
              have HB6 := Lib.hid (HB5.out.trans (hS6.2.2.2.2.2.2.2.2.mono HB5.out.size))
              clear hS6 HB5 HS5 J
              have HI1 := Lib.hid (I1.out.keep HB6.out)
              have HI2 := Lib.hid (I2.out.keep HB6.out)
              have HI3 := Lib.hid (I3.out.keep HB6.out)
              have HI4 := Lib.hid (I4.out.keep HB6.out)
              clear I1 I2 I3 I4
              generalize clsV ax ay bx b_y cx cy px py = n
              generalize errV ax ay bx b_y cx cy px py = er
              have hnn : (n != n) = false := by simp
              have hee : (er != er) = false := by simp
              have CA : Hid (∀ w', (w'.cell? ⟨w.heap.size, 0, none⟩ = some (.int .i64 ax) ∧ w'.cell? ⟨w.heap.size, 1, none⟩ = some (.int .i64 ay) ∧ w'.cell? ⟨w.heap.size + 1, 0, none⟩ = some (.int .i64 bx) ∧ w'.cell? ⟨w.heap.size + 1, 1, none⟩ = some (.int .i64 b_y) ∧ w'.cell? ⟨w.heap.size + 1 + 1 + 1 + 1 + 1, 0, none⟩ = some (.int .i64 (ax + qx)) ∧ w'.cell? ⟨w.heap.size + 1 + 1 + 1 + 1 + 1, 1, none⟩ = some (.int .i64 (ay + qy)) ∧ w'.cell? ⟨w.heap.size + 1 + 1 + 1 + 1 + 1, 2, none⟩ = some (.int .i64 (bx + qx)) ∧ w'.cell? ⟨w.heap.size + 1 + 1 + 1 + 1 + 1, 3, none⟩ = some (.int .i64 (b_y + qy)) ∧ Below W6.heap.size W6 w') → Calls Try.prog 17 #[.agg #[.int .i64 ax, .int .i64 ay], .agg #[.int .i64 bx, .int .i64 b_y], .slice p1 XL.length k1, .slice p3 YL.length k3] w' (CutsPost (ax, ay) (bx, b_y) XL YL w')) :=
                Lib.hid fun W h => cuts_any ax ay bx b_y p1 p3 XL YL k1 k3 W (by omega) (by omega) (Lib.hid (HI1.out.keep h.2.2.2.2.2.2.2.2)) (Lib.hid (HI3.out.keep h.2.2.2.2.2.2.2.2))
              have CB : Hid (∀ w', (w'.cell? ⟨w.heap.size, 0, none⟩ = some (.int .i64 ax) ∧ w'.cell? ⟨w.heap.size, 1, none⟩ = some (.int .i64 ay) ∧ w'.cell? ⟨w.heap.size + 1, 0, none⟩ = some (.int .i64 bx) ∧ w'.cell? ⟨w.heap.size + 1, 1, none⟩ = some (.int .i64 b_y) ∧ w'.cell? ⟨w.heap.size + 1 + 1 + 1 + 1 + 1, 0, none⟩ = some (.int .i64 (ax + qx)) ∧ w'.cell? ⟨w.heap.size + 1 + 1 + 1 + 1 + 1, 1, none⟩ = some (.int .i64 (ay + qy)) ∧ w'.cell? ⟨w.heap.size + 1 + 1 + 1 + 1 + 1, 2, none⟩ = some (.int .i64 (bx + qx)) ∧ w'.cell? ⟨w.heap.size + 1 + 1 + 1 + 1 + 1, 3, none⟩ = some (.int .i64 (b_y + qy)) ∧ Below W6.heap.size W6 w') → Calls Try.prog 17 #[.agg #[.int .i64 (ax + qx), .int .i64 (ay + qy)], .agg #[.int .i64 (bx + qx), .int .i64 (b_y + qy)], .slice p2 XL.length k2, .slice p4 YL.length k4] w' (CutsPost (ax + qx, ay + qy) (bx + qx, b_y + qy) (XL.map (· + qx)) (YL.map (· + qy)) w')) :=
                Lib.hid fun W h => by
                  have h2 := cuts_any (ax + qx) (ay + qy) (bx + qx) (b_y + qy) p2 p4 (XL.map (· + qx)) (YL.map (· + qy)) k2 k4 W (by rw [List.length_map]; omega) (by rw [List.length_map]; omega) (Lib.hid (HI2.out.keep h.2.2.2.2.2.2.2.2)) (Lib.hid (HI4.out.keep h.2.2.2.2.2.2.2.2))
                  rw [List.length_map, List.length_map] at h2
                  exact h2
              have hA : W6.cell? ⟨w.heap.size, 0, none⟩ = some (.int .i64 ax) ∧ W6.cell? ⟨w.heap.size, 1, none⟩ = some (.int .i64 ay) ∧ W6.cell? ⟨w.heap.size + 1, 0, none⟩ = some (.int .i64 bx) ∧ W6.cell? ⟨w.heap.size + 1, 1, none⟩ = some (.int .i64 b_y) ∧ W6.cell? ⟨w.heap.size + 1 + 1 + 1 + 1 + 1, 0, none⟩ = some (.int .i64 (ax + qx)) ∧ W6.cell? ⟨w.heap.size + 1 + 1 + 1 + 1 + 1, 1, none⟩ = some (.int .i64 (ay + qy)) ∧ W6.cell? ⟨w.heap.size + 1 + 1 + 1 + 1 + 1, 2, none⟩ = some (.int .i64 (bx + qx)) ∧ W6.cell? ⟨w.heap.size + 1 + 1 + 1 + 1 + 1, 3, none⟩ = some (.int .i64 (b_y + qy)) ∧ Below W6.heap.size W6 W6 := ⟨HS6.out.1, HS6.out.2.1, HS6.out.2.2.1, HS6.out.2.2.2.1, HS6.out.2.2.2.2.2.2.2.2.2.2.1, HS6.out.2.2.2.2.2.2.2.2.2.2.2.1, HS6.out.2.2.2.2.2.2.2.2.2.2.2.2.1, HS6.out.2.2.2.2.2.2.2.2.2.2.2.2.2.1, Below.refl _ _⟩
              clear HI1 HI2 HI3 HI4
              go_wp2_with fail
              go_region_held3 (fun w' => w'.cell? ⟨w.heap.size, 0, none⟩ = some (.int .i64 ax) ∧ w'.cell? ⟨w.heap.size, 1, none⟩ = some (.int .i64 ay) ∧ w'.cell? ⟨w.heap.size + 1, 0, none⟩ = some (.int .i64 bx) ∧ w'.cell? ⟨w.heap.size + 1, 1, none⟩ = some (.int .i64 b_y) ∧ w'.cell? ⟨w.heap.size + 1 + 1 + 1 + 1 + 1, 0, none⟩ = some (.int .i64 (ax + qx)) ∧ w'.cell? ⟨w.heap.size + 1 + 1 + 1 + 1 + 1, 1, none⟩ = some (.int .i64 (ay + qy)) ∧ w'.cell? ⟨w.heap.size + 1 + 1 + 1 + 1 + 1, 2, none⟩ = some (.int .i64 (bx + qx)) ∧ w'.cell? ⟨w.heap.size + 1 + 1 + 1 + 1 + 1, 3, none⟩ = some (.int .i64 (b_y + qy)) ∧ Below W6.heap.size W6 w') (first | assumption | exact ⟨hA.1, hA.2.1, hA.2.2.1, hA.2.2.2.1, hA.2.2.2.2.1, hA.2.2.2.2.2.1, hA.2.2.2.2.2.2.1, hA.2.2.2.2.2.2.2.1, hA.2.2.2.2.2.2.2.2.drew⟩ | exact ⟨hA.1, hA.2.1, hA.2.2.1, hA.2.2.2.1, hA.2.2.2.2.1, hA.2.2.2.2.2.1, hA.2.2.2.2.2.2.1, hA.2.2.2.2.2.2.2.1, hA.2.2.2.2.2.2.2.2.drew.drew⟩) (first | (go_at_call 17; (with_reducible refine (CA.out _ (by assumption)).mono ?_); rintro e wA ⟨vA, LA, rfl, hCA, hoA, hbA⟩; have hS7 := keep8 hbA (by assumption)) | (go_at_call 17; (with_reducible refine (CB.out _ (by assumption)).mono ?_); rintro e wB ⟨vB, LB, rfl, hCB, hoB, hbB⟩; have hS8 := keep8 hbB (by assumption)))
              have hLB : LB = LA.map (mv (qx, qy)) := cuts_mv (a := (ax, ay)) (b := (bx, b_y)) (d := (qx, qy)) S0.out S1.out S4.out hCA hCB
              subst hLB
              have HSm : Hid (∀ p ∈ LA, sm2 p.1 ∧ sm2 p.2) := Lib.hid fun p hp => cuts_small (a := (ax, ay)) (b := (bx, b_y)) S0.out S1.out hCA hp
              obtain ⟨pA, kA, rfl, _, hrA⟩ := own_row hoA
              obtain ⟨pB, kB, rfl, _, hrB⟩ := own_row hoB
              have hlA : LA.length ≤ 2000000 := Nat.le_trans hCA.len (by omega)
              have HA := Lib.hid hrA
              have HB := Lib.hid hrB
              have HbB := Lib.hid hbB
              have HSB := Lib.hid (HS6.out.keep hS8.2.2.2.2.2.2.2.2)
              clear hrA hrB hbB hbA hCA hCB hoA hoB CA CB hA hS7 hS8 HS6 HB6 HS4
              go_wp2
              go_loopw [30] (fun i wr => ∃ (k j : Nat), k ≤ LA.length ∧ i = .int .i64 k ∧ wr = wB.drewN j) (fun i _ => LA.length - (intOf i).toNat)
              case atStart => exact ⟨0, 0, by omega, rfl, rfl⟩
              case round =>
                obtain ⟨k, j, hk, rfl, rfl⟩ := hrel
                by_cases hlt : k < LA.length
                · obtain ⟨gA, rfl, _, _, a0, a1⟩ := HA.out k hlt
                  have hkm : k < (LA.map (mv (qx, qy))).length := by rw [List.length_map]; exact hlt
                  obtain ⟨gB, rfl, _, _, b0, b1⟩ := HB.out k hkm
                  have b0' : wB.cell? ⟨gB, k * 2, none⟩ = some (.int .i64 (LA[k].1 + qx)) := by rw [List.getElem_map] at b0; exact b0
                  have b1' : wB.cell? ⟨gB, k * 2 + 1, none⟩ = some (.int .i64 (LA[k].2 + qy)) := by rw [List.getElem_map] at b1; exact b1
                  clear b0 b1
                  have c0 := cell_later HbB.out a0
                  have c1 := cell_later HbB.out a1
                  have hm := HSm.out LA[k] (List.getElem_mem _)
                  have hq := S4.out
                  unfold sm2 at hm hq
                  have q0 := HSB.out.2.2.2.2.2.2.2.2.1
                  have q1 := HSB.out.2.2.2.2.2.2.2.2.2.1
                  clear a0 a1 hkm
                  generalize LA[k] = m at *
                  have x1 : IntKind.i64.wrap (m.1 + qx) = m.1 + qx := IntWalk.i64_in _ (by omega)
                  have x2 : IntKind.i64.wrap (m.2 + qy) = m.2 + qy := IntWalk.i64_in _ (by omega)
                  have y1 : (m.1 + qx != m.1 + qx) = false := by simp
                  have y2 : (m.2 + qy != m.2 + qy) = false := by simp
                  clear hm hq
                  go_wp2_with fail
                  go_quiet (fail)
                  clear x1 x2 y1 y2
                  go_wp2
                  go_roundw
                  case rel => exact ⟨k + 1, j + nq, by omega, by go_num, rfl⟩
                  case measure => simp [intOf]; omega
                · obtain rfl : k = LA.length := by omega
                  go_wp2_with fail
                  refine (known2_yes _).mono ?_
                  rintro e w' ⟨rfl, hk⟩
                  have HF : Hid (Below w.heap.size w w') := Lib.hid ((below_drewN HSB.out.2.2.2.2.2.2.2.2.2.2.2.2.2.2.2.2.2.2 j).trans (hk.mono (below_drewN HSB.out.2.2.2.2.2.2.2.2.2.2.2.2.2.2.2.2.2.2 j).size))
                  go_wp2
                  go_ret
                  exact ⟨rfl, HF.out⟩
end Go.Proofs.Ytabeajgfgbfdeaa
