/- The walk of ExactMoves. -/
import Derived.Test.YtoojifpgdmhmcaaShift
import Derived.Test.YtoojifpgdmhmcaaClass
import Derived.BigRegion
import Derived.RegionTactic
namespace Go.Proofs.Ytoojifpgdmhmcaa
open Go.RowKit Go.BigFrame

theorem gen_world {P : Program} {c : Code} {Q : Exit → Act → World → Prop} {a : Act} {w0 : World} (F : World → Prop) (h0 : F w0) (h : ∀ W, F W → c.wp P Q a W) : c.wp P Q a w0 := h w0 h0

/-- The five boxes. -/
def Box5 (w W : World) (n : Nat) (ax ay bx b_y cx cy px py qx qy : Int) : Prop := W.cell? ⟨n, 0, none⟩ = some (.int .i64 ax) ∧ W.cell? ⟨n, 1, none⟩ = some (.int .i64 ay) ∧ W.cell? ⟨n + 1, 0, none⟩ = some (.int .i64 bx) ∧ W.cell? ⟨n + 1, 1, none⟩ = some (.int .i64 b_y) ∧ W.cell? ⟨n + 1 + 1, 0, none⟩ = some (.int .i64 cx) ∧ W.cell? ⟨n + 1 + 1, 1, none⟩ = some (.int .i64 cy) ∧ W.cell? ⟨n + 1 + 1 + 1, 0, none⟩ = some (.int .i64 px) ∧ W.cell? ⟨n + 1 + 1 + 1, 1, none⟩ = some (.int .i64 py) ∧ W.cell? ⟨n + 1 + 1 + 1 + 1, 0, none⟩ = some (.int .i64 qx) ∧ W.cell? ⟨n + 1 + 1 + 1 + 1, 1, none⟩ = some (.int .i64 qy) ∧ Below w.heap.size w W
/-- The slice of five points: its numbers. -/
def Row5 (W : World) (s : Nat) (X Y : Nat → Int) : Prop :=
  s < W.heap.size ∧ ∀ i, i < 5 → W.cell? ⟨s, i * 2, none⟩ = some (.int .i64 (X i)) ∧ W.cell? ⟨s, i * 2 + 1, none⟩ = some (.int .i64 (Y i)) ∧ W.frozen? ⟨s, i * 2, none⟩ = false ∧ W.frozen? ⟨s, i * 2 + 1, none⟩ = false
def xs (ax bx cx px qx : Int) (i : Nat) : Int := [ax, bx, cx, px, qx].getD i 0

def mv (k : Nat) (f : Nat → Int) (q : Int) (j : Nat) : Int := if j < k then f j + q else f j
theorem mv_self (k : Nat) (f : Nat → Int) (q : Int) : mv k f q k = f k := by unfold mv; rw [if_neg (by omega)]
theorem mv_zero (f : Nat → Int) (q : Int) : mv 0 f q = f := by funext j; unfold mv; rw [if_neg (by omega)]
theorem Box5.drewN {w W : World} {n : Nat} {ax ay bx b_y cx cy px py qx qy : Int} (h : Box5 w W n ax ay bx b_y cx cy px py qx qy) (m : Nat) : Box5 w (W.drewN m) n ax ay bx b_y cx cy px py qx qy := by
  obtain ⟨h0, h1, h2, h3, h4, h5, h6, h7, h8, h9, hb⟩ := h
  exact ⟨by simpa using h0, by simpa using h1, by simpa using h2, by simpa using h3, by simpa using h4, by simpa using h5, by simpa using h6, by simpa using h7, by simpa using h8, by simpa using h9, below_drewN hb m⟩
theorem Row5.drewN {W : World} {s : Nat} {X Y : Nat → Int} {u v : Int} (h : Row5 W s X Y) (m : Nat) : Row5 (W.drewN m) s (mv 0 X u) (mv 0 Y v) := by
  rw [mv_zero, mv_zero]
  obtain ⟨h0, h1⟩ := h
  refine ⟨by simpa using h0, fun i hi => ?_⟩
  obtain ⟨a, b, c, d⟩ := h1 i hi
  exact ⟨by simpa using a, by simpa using b, by simpa using c, by simpa using d⟩

theorem Box5.store {w W : World} {n : Nat} {ax ay bx b_y cx cy px py qx qy : Int} (h : Box5 w W n ax ay bx b_y cx cy px py qx qy) {s o o' : Nat} (hs : n + 5 ≤ s) (hn : w.heap.size ≤ n) (u v : Value) :
    Box5 w ((W.setCell ⟨s, o, none⟩ u).setCell ⟨s, o', none⟩ v).drew n ax ay bx b_y cx cy px py qx qy := by
  obtain ⟨h0, h1, h2, h3, h4, h5, h6, h7, h8, h9, hb⟩ := h
  have far : ∀ (b j : Nat), b < s → ((W.setCell ⟨s, o, none⟩ u).setCell ⟨s, o', none⟩ v).drew.cell? ⟨b, j, none⟩ = W.cell? ⟨b, j, none⟩ := by
    intro b j hbs
    rw [World.cell?_drew, World.cell?_setCell_far _ _ _ _ (by show s ≠ b; omega), World.cell?_setCell_far _ _ _ _ (by show s ≠ b; omega)]
  exact ⟨(far _ _ (by omega)).trans h0, (far _ _ (by omega)).trans h1, (far _ _ (by omega)).trans h2, (far _ _ (by omega)).trans h3, (far _ _ (by omega)).trans h4, (far _ _ (by omega)).trans h5, (far _ _ (by omega)).trans h6, (far _ _ (by omega)).trans h7,
    (far _ _ (by omega)).trans h8, (far _ _ (by omega)).trans h9, ((hb.setCell (p := ⟨s, o, none⟩) (by show w.heap.size ≤ s; omega) _).setCell (p := ⟨s, o', none⟩) (by show w.heap.size ≤ s; omega) _).drew⟩
theorem Row5.store {W : World} {s k : Nat} {X Y : Nat → Int} {q r x y : Int} (h : Row5 W s (mv k X q) (mv k Y r)) (hk : k < 5) (hx : mv k X q k = x) (hy : mv k Y r k = y) :
    Row5 ((W.setCell ⟨s, k * 2, none⟩ (.int .i64 (x + q))).setCell ⟨s, k * 2 + 1, none⟩ (.int .i64 (y + r))).drew s (mv (k + 1) X q) (mv (k + 1) Y r) := by
  rw [mv_self] at hx hy
  obtain ⟨h0, h1⟩ := h
  refine ⟨by simpa [World.setCell] using h0, fun i hi => ?_⟩
  obtain ⟨a, b, c, d⟩ := h1 i hi
  obtain ⟨a', b', c', d'⟩ := h1 k hk
  refine ⟨?_, ?_, by simpa using c, by simpa using d⟩
  · rw [World.cell?_drew, World.cell?_setCell_other _ _ _ _ (by intro e; injection e with _ e2; omega)]
    by_cases e : i = k
    · subst e
      rw [World.cell?_setCell_same _ _ _ a']
      unfold mv
      rw [if_pos (by omega), hx]
    · rw [World.cell?_setCell_other _ _ _ _ (by intro e'; injection e' with _ e2; omega), a]
      unfold mv
      by_cases hik : i < k
      · rw [if_pos hik, if_pos (by omega)]
      · rw [if_neg hik, if_neg (by omega)]
  · rw [World.cell?_drew]
    by_cases e : i = k
    · subst e
      have hb' : (W.setCell ⟨s, i * 2, none⟩ (.int .i64 (x + q))).cell? ⟨s, i * 2 + 1, none⟩ = some (.int .i64 (mv i Y r i)) := by
        rw [World.cell?_setCell_other _ _ _ _ (by intro e'; injection e' with _ e2; omega)]; exact b'
      rw [World.cell?_setCell_same _ _ _ hb']
      unfold mv
      rw [if_pos (by omega), hy]
    · rw [World.cell?_setCell_other _ _ _ _ (by intro e'; injection e' with _ e2; omega), World.cell?_setCell_other _ _ _ _ (by intro e'; injection e' with _ e2; omega), b]
      unfold mv
      by_cases hik : i < k
      · rw [if_pos hik, if_pos (by omega)]
      · rw [if_neg hik, if_neg (by omega)]

/-- What the last return reads. -/
def SM (w : World) (n s : Nat) (ax ay bx b_y cx cy px py qx qy : Int) (W : World) : Prop := W.cell? ⟨n, 0, none⟩ = some (.int .i64 ax) ∧ W.cell? ⟨n, 1, none⟩ = some (.int .i64 ay) ∧ W.cell? ⟨n + 1, 0, none⟩ = some (.int .i64 bx) ∧ W.cell? ⟨n + 1, 1, none⟩ = some (.int .i64 b_y) ∧ W.cell? ⟨n + 1 + 1, 0, none⟩ = some (.int .i64 cx) ∧ W.cell? ⟨n + 1 + 1, 1, none⟩ = some (.int .i64 cy) ∧ W.cell? ⟨n + 1 + 1 + 1, 0, none⟩ = some (.int .i64 px) ∧ W.cell? ⟨n + 1 + 1 + 1, 1, none⟩ = some (.int .i64 py) ∧ W.cell? ⟨s, 0, none⟩ = some (.int .i64 (ax + qx)) ∧ W.cell? ⟨s, 1, none⟩ = some (.int .i64 (ay + qy)) ∧ W.cell? ⟨s, 2, none⟩ = some (.int .i64 (bx + qx)) ∧ W.cell? ⟨s, 3, none⟩ = some (.int .i64 (b_y + qy)) ∧ W.cell? ⟨s, 4, none⟩ = some (.int .i64 (cx + qx)) ∧ W.cell? ⟨s, 5, none⟩ = some (.int .i64 (cy + qy)) ∧ W.cell? ⟨s, 6, none⟩ = some (.int .i64 (px + qx)) ∧ W.cell? ⟨s, 7, none⟩ = some (.int .i64 (py + qy)) ∧ Below w.heap.size w W
theorem SM.keep {w : World} {n s : Nat} {ax ay bx b_y cx cy px py qx qy : Int} {W w1 : World} (hb : Below W.heap.size W w1) (h : SM w n s ax ay bx b_y cx cy px py qx qy W) : SM w n s ax ay bx b_y cx cy px py qx qy w1 := keep16 hb h
theorem SM.drew {w : World} {n s : Nat} {ax ay bx b_y cx cy px py qx qy : Int} {W : World} (h : SM w n s ax ay bx b_y cx cy px py qx qy W) : SM w n s ax ay bx b_y cx cy px py qx qy W.drew :=
  ⟨h.1, h.2.1, h.2.2.1, h.2.2.2.1, h.2.2.2.2.1, h.2.2.2.2.2.1, h.2.2.2.2.2.2.1, h.2.2.2.2.2.2.2.1, h.2.2.2.2.2.2.2.2.1, h.2.2.2.2.2.2.2.2.2.1, h.2.2.2.2.2.2.2.2.2.2.1, h.2.2.2.2.2.2.2.2.2.2.2.1, h.2.2.2.2.2.2.2.2.2.2.2.2.1, h.2.2.2.2.2.2.2.2.2.2.2.2.2.1, h.2.2.2.2.2.2.2.2.2.2.2.2.2.2.1, h.2.2.2.2.2.2.2.2.2.2.2.2.2.2.2.1, h.2.2.2.2.2.2.2.2.2.2.2.2.2.2.2.2.drew⟩

set_option maxRecDepth 100000 in
set_option maxHeartbeats 2000000 in
theorem moves_1 (ax ay bx b_y cx cy px py qx qy : Int) (w : World) :
    Calls Try.prog 8 #[.agg #[.int .i64 ax, .int .i64 ay], .agg #[.int .i64 bx, .int .i64 b_y], .agg #[.int .i64 cx, .int .i64 cy], .agg #[.int .i64 px, .int .i64 py], .agg #[.int .i64 qx, .int .i64 qy]] w
      fun e w' => e = .returned (.bool true) ∧ Below w.heap.size w w' := by
  go_enter Try.func8, Try.ntmps8
  go_wp2
  refine gen_world (fun W => Box5 w W w.heap.size ax ay bx b_y cx cy px py qx qy ∧ Row5 W (w.heap.size + 1 + 1 + 1 + 1 + 1) (xs ax bx cx px qx) (xs ay b_y cy py qy)) ?_ ?_
  · refine ⟨⟨by go_simp, by go_simp, by go_simp, by go_simp, by go_simp, by go_simp, by go_simp, by go_simp, by go_simp, by go_simp, (b5 _ _ _ _ _ _).trans ((b1 _ _).mono (by simp <;> omega))⟩, by simp, ?_⟩
    intro i hi
    match i, hi with
    | 0, _ => exact ⟨by go_simp; rfl, by go_simp; rfl, by go_simp, by go_simp⟩
    | 1, _ => exact ⟨by go_simp; rfl, by go_simp; rfl, by go_simp, by go_simp⟩
    | 2, _ => exact ⟨by go_simp; rfl, by go_simp; rfl, by go_simp, by go_simp⟩
    | 3, _ => exact ⟨by go_simp; rfl, by go_simp; rfl, by go_simp, by go_simp⟩
    | 4, _ => exact ⟨by go_simp; rfl, by go_simp; rfl, by go_simp, by go_simp⟩
  rintro W0 ⟨hB, hR⟩
  have HR := Lib.hid hR
  have HB := Lib.hid hB
  clear hB hR
  go_loopw [12] (fun i wr => ∃ k m : Nat, k ≤ 5 ∧ i = .int .i64 k ∧ wr = W0.drewN m ∧ (∀ j, j < k → sml (xs ax bx cx px qx j) ∧ sml (xs ay b_y cy py qy j))) (fun i _ => 5 - (intOf i).toNat)
  case atStart => exact ⟨0, 0, by omega, rfl, rfl, fun j hj => absurd hj (by omega)⟩
  case round =>
    obtain ⟨k, m, hk, rfl, rfl, hs⟩ := hrel
    have Hs := Lib.hid hs
    clear hs
    by_cases hlt : k < 5
    · obtain ⟨c1, c2, _, _⟩ := HR.out.2 k hlt
      generalize hX' : xs ax bx cx px qx k = X at *
      generalize hY' : xs ay b_y cy py qy k = Y at *
      have hX := Lib.hid hX'
      have hY := Lib.hid hY'
      clear hX' hY'
      have kfive : decide ((k : Int) < 5) = true := by simp; omega
      rcases Int.lt_trichotomy X Y with ho | ho | ho
      · by_cases hb : 4194304 < Y
        · have hb' : decide (4194304 < Y) = true := by simpa using hb
          go_wp2_with fail
          go_quiet (fail)
          go_wp2_with fail
          refine (known_yes _).mono ?_
          rintro e w1 ⟨rfl, hb1⟩
          go_wp2
          go_ret
          exact ⟨rfl, (below_drewN HB.out.2.2.2.2.2.2.2.2.2.2 _).trans (hb1.mono (below_drewN HB.out.2.2.2.2.2.2.2.2.2.2 _).size)⟩
        · have hb' : decide (4194304 < Y) = false := by simpa using hb
          by_cases hc : X < -4194304
          · have hc' : decide (X < -4194304) = true := by simpa using hc
            go_wp2_with fail
            go_quiet (fail)
            go_wp2_with fail
            refine (known_yes _).mono ?_
            rintro e w1 ⟨rfl, hb1⟩
            go_wp2
            go_ret
            exact ⟨rfl, (below_drewN HB.out.2.2.2.2.2.2.2.2.2.2 _).trans (hb1.mono (below_drewN HB.out.2.2.2.2.2.2.2.2.2.2 _).size)⟩
          · have hc' : decide (X < -4194304) = false := by simpa using hc
            go_wp2_with fail
            go_quiet (fail)
            go_wp2
            go_roundw
            case rel =>
              refine ⟨k + 1, _, by omega, by go_num, rfl, fun j hj => ?_⟩
              by_cases hjk : j < k
              · exact Hs.out j hjk
              · obtain rfl : j = k := by omega
                rw [hX.out, hY.out]
                unfold sml
                omega
            case measure => simp [intOf]; omega
      · subst ho
        by_cases hb : 4194304 < X
        · have hb' : decide (4194304 < X) = true := by simpa using hb
          go_wp2_with fail
          go_quiet (fail)
          go_wp2_with fail
          refine (known_yes _).mono ?_
          rintro e w1 ⟨rfl, hb1⟩
          go_wp2
          go_ret
          exact ⟨rfl, (below_drewN HB.out.2.2.2.2.2.2.2.2.2.2 _).trans (hb1.mono (below_drewN HB.out.2.2.2.2.2.2.2.2.2.2 _).size)⟩
        · have hb' : decide (4194304 < X) = false := by simpa using hb
          by_cases hc : X < -4194304
          · have hc' : decide (X < -4194304) = true := by simpa using hc
            go_wp2_with fail
            go_quiet (fail)
            go_wp2_with fail
            refine (known_yes _).mono ?_
            rintro e w1 ⟨rfl, hb1⟩
            go_wp2
            go_ret
            exact ⟨rfl, (below_drewN HB.out.2.2.2.2.2.2.2.2.2.2 _).trans (hb1.mono (below_drewN HB.out.2.2.2.2.2.2.2.2.2.2 _).size)⟩
          · have hc' : decide (X < -4194304) = false := by simpa using hc
            go_wp2_with fail
            go_quiet (fail)
            go_wp2
            go_roundw
            case rel =>
              refine ⟨k + 1, _, by omega, by go_num, rfl, fun j hj => ?_⟩
              by_cases hjk : j < k
              · exact Hs.out j hjk
              · obtain rfl : j = k := by omega
                rw [hX.out, hY.out]
                unfold sml
                omega
            case measure => simp [intOf]; omega
      · by_cases hb : 4194304 < X
        · have hb' : decide (4194304 < X) = true := by simpa using hb
          go_wp2_with fail
          go_quiet (fail)
          go_wp2_with fail
          refine (known_yes _).mono ?_
          rintro e w1 ⟨rfl, hb1⟩
          go_wp2
          go_ret
          exact ⟨rfl, (below_drewN HB.out.2.2.2.2.2.2.2.2.2.2 _).trans (hb1.mono (below_drewN HB.out.2.2.2.2.2.2.2.2.2.2 _).size)⟩
        · have hb' : decide (4194304 < X) = false := by simpa using hb
          by_cases hc : Y < -4194304
          · have hc' : decide (Y < -4194304) = true := by simpa using hc
            go_wp2_with fail
            go_quiet (fail)
            go_wp2_with fail
            refine (known_yes _).mono ?_
            rintro e w1 ⟨rfl, hb1⟩
            go_wp2
            go_ret
            exact ⟨rfl, (below_drewN HB.out.2.2.2.2.2.2.2.2.2.2 _).trans (hb1.mono (below_drewN HB.out.2.2.2.2.2.2.2.2.2.2 _).size)⟩
          · have hc' : decide (Y < -4194304) = false := by simpa using hc
            go_wp2_with fail
            go_quiet (fail)
            go_wp2
            go_roundw
            case rel =>
              refine ⟨k + 1, _, by omega, by go_num, rfl, fun j hj => ?_⟩
              by_cases hjk : j < k
              · exact Hs.out j hjk
              · obtain rfl : j = k := by omega
                rw [hX.out, hY.out]
                unfold sml
                omega
            case measure => simp [intOf]; omega
    · obtain rfl : k = 5 := by omega
      have s0 := Hs.out 0 (by omega)
      have s1 := Hs.out 1 (by omega)
      have s2 := Hs.out 2 (by omega)
      have s3 := Hs.out 3 (by omega)
      have s4 := Hs.out 4 (by omega)
      simp [xs] at s0 s1 s2 s3 s4
      clear Hs
      have hB0 : Box5 w (W0.drewN m) w.heap.size ax ay bx b_y cx cy px py qx qy := HB.out.drewN m
      have hR0 : Row5 (W0.drewN m) (w.heap.size + 1 + 1 + 1 + 1 + 1) (mv 0 (xs ax bx cx px qx) qx) (mv 0 (xs ay b_y cy py qy) qy) := HR.out.drewN m
      clear HB HR
      have S0 := Lib.hid s0
      have S1 := Lib.hid s1
      have S2 := Lib.hid s2
      have S3 := Lib.hid s3
      have S4 := Lib.hid s4
      clear s0 s1 s2 s3 s4
      go_wp2
      generalize W0.drewN m = W1 at *
      go_loopw [13] (fun i wr => ∃ k : Nat, k ≤ 4 ∧ i = .int .i64 k ∧ Box5 w wr w.heap.size ax ay bx b_y cx cy px py qx qy ∧ Row5 wr (w.heap.size + 1 + 1 + 1 + 1 + 1) (mv k (xs ax bx cx px qx) qx) (mv k (xs ay b_y cy py qy) qy)) (fun i _ => 4 - (intOf i).toNat)
      case atStart => exact ⟨0, by omega, rfl, hB0, hR0⟩
      case round =>
        obtain ⟨k, hk, rfl, hB, hR⟩ := hrel
        by_cases hlt : k < 4
        · obtain ⟨c1, c2, f1, f2⟩ := hR.2 k (by omega)
          have HR := Lib.hid hR
          have HBo := Lib.hid hB
          clear hR hB hB0 hR0
          obtain ⟨_, _, _, _, _, _, _, _, q1, q2, _⟩ := HBo.out
          have e1 : sml (mv k (xs ax bx cx px qx) qx k) := by
            rw [mv_self]
            match k, hlt with
            | 0, _ => exact S0.out.1
            | 1, _ => exact S1.out.1
            | 2, _ => exact S2.out.1
            | 3, _ => exact S3.out.1
          have e2 : sml (mv k (xs ay b_y cy py qy) qy k) := by
            rw [mv_self]
            match k, hlt with
            | 0, _ => exact S0.out.2
            | 1, _ => exact S1.out.2
            | 2, _ => exact S2.out.2
            | 3, _ => exact S3.out.2
          generalize hX' : mv k (xs ax bx cx px qx) qx k = X at *
          generalize hY' : mv k (xs ay b_y cy py qy) qy k = Y at *
          have hX := Lib.hid hX'
          have hY := Lib.hid hY'
          clear hX' hY'
          have b5' := S4.out
          unfold sml at e1 e2 b5'
          obtain ⟨e3, e4⟩ := e1
          obtain ⟨e5, e6⟩ := e2
          obtain ⟨⟨e7, e8⟩, e9, e10⟩ := b5'
          go_wp2
          go_region
          go_wp2
          go_roundw
          case rel => exact ⟨k + 1, by omega, by go_num, HBo.out.store (by omega) (Nat.le_refl _) _ _, HR.out.store (by omega) hX.out hY.out⟩
          case measure => simp [intOf]; omega
        · obtain rfl : k = 4 := by omega
          have hS0 : SM w w.heap.size (w.heap.size + 1 + 1 + 1 + 1 + 1) ax ay bx b_y cx cy px py qx qy wr := by
            obtain ⟨h0, h1, h2, h3, h4, h5, h6, h7, _, _, hb⟩ := hB
            exact ⟨h0, h1, h2, h3, h4, h5, h6, h7, (hR.2 0 (by omega)).1, (hR.2 0 (by omega)).2.1, (hR.2 1 (by omega)).1, (hR.2 1 (by omega)).2.1, (hR.2 2 (by omega)).1, (hR.2 2 (by omega)).2.1, (hR.2 3 (by omega)).1, (hR.2 3 (by omega)).2.1, hb⟩
          have HS0 := Lib.hid hS0
          clear hS0 hB hR hB0 hR0
          have E1 : Hid (crV (ax + qx) (ay + qy) (bx + qx) (b_y + qy) (cx + qx) (cy + qy) = crV ax ay bx b_y cx cy) := Lib.hid (crV_move S0.out S1.out S2.out S4.out)
          have E2 : Hid (crV (ax + qx) (ay + qy) (bx + qx) (b_y + qy) (px + qx) (py + qy) = crV ax ay bx b_y px py) := Lib.hid (crV_move S0.out S1.out S3.out S4.out)
          have E3 : Hid (onV (ax + qx) (ay + qy) (bx + qx) (b_y + qy) (px + qx) (py + qy) = onV ax ay bx b_y px py) := Lib.hid (onV_move S0.out S1.out S3.out S4.out)
          have E4 : Hid (inV (ax + qx) (ay + qy) (bx + qx) (b_y + qy) (cx + qx) (cy + qy) (px + qx) (py + qy) = inV ax ay bx b_y cx cy px py) := Lib.hid (inV_move S0.out S1.out S2.out S3.out S4.out)
          have E5 : Hid (lessB (ax + qx) (ay + qy) (bx + qx) (b_y + qy) = lessB ax ay bx b_y) := Lib.hid (lessB_move _ _ _ _ _ _)
          go_wp2_with fail
          simp only [List.append]
          refine wp_region_class (C := SM w w.heap.size (w.heap.size + 1 + 1 + 1 + 1 + 1) ax ay bx b_y cx cy px py qx qy) (by kernel_rfl) (by kernel_rfl) HS0.out.drew ?_
          clear HS0
          repeat (first | go_big_quiet_skip | (go_big_quiet_want; first | ((first | refine quiet_load_pt _ rfl rfl (fun w' hC => ⟨hC.1, hC.2.1⟩) ?_ | refine quiet_load_pt _ rfl rfl (fun w' hC => ⟨hC.2.2.1, hC.2.2.2.1⟩) ?_ | refine quiet_load_pt _ rfl rfl (fun w' hC => ⟨hC.2.2.2.2.1, hC.2.2.2.2.2.1⟩) ?_ | refine quiet_load_pt _ rfl rfl (fun w' hC => ⟨hC.2.2.2.2.2.2.1, hC.2.2.2.2.2.2.2.1⟩) ?_ | refine quiet_load_pt _ rfl rfl (fun w' hC => ⟨hC.2.2.2.2.2.2.2.2.1, hC.2.2.2.2.2.2.2.2.2.1⟩) ?_ | refine quiet_load_pt _ rfl rfl (fun w' hC => ⟨hC.2.2.2.2.2.2.2.2.2.2.1, hC.2.2.2.2.2.2.2.2.2.2.2.1⟩) ?_ | refine quiet_load_pt _ rfl rfl (fun w' hC => ⟨hC.2.2.2.2.2.2.2.2.2.2.2.2.1, hC.2.2.2.2.2.2.2.2.2.2.2.2.2.1⟩) ?_ | refine quiet_load_pt _ rfl rfl (fun w' hC => ⟨hC.2.2.2.2.2.2.2.2.2.2.2.2.2.2.1, hC.2.2.2.2.2.2.2.2.2.2.2.2.2.2.2.1⟩) ?_); (simp only [Act.put, List.setIfInBounds_toArray, List.set_cons_zero, List.set_cons_succ]); go_big_quiet_on) | (go_big_quiet_op; first | go_big_quiet_on | (apply Exists.intro; refine ⟨fun _ _ => rfl, ?_⟩; go_big_quiet_on) | (apply Exists.intro; refine ⟨fun w1 hC => ?_, ?_⟩; (focus (first | (go_at_call 17; refine (cross_any _ _ _ _ _ _ _).mono ?_; rintro e w8 ⟨rfl, hb8⟩; (try rw [E1.out]); exact ⟨rfl, hC.keep hb8⟩) | (go_at_call 18; refine (turn_any _ _ _ _ _ _ _).mono ?_; rintro e w8 ⟨rfl, hb8⟩; (try rw [E2.out]); exact ⟨rfl, hC.keep hb8⟩) | (go_at_call 22; refine (on_any _ _ _ _ _ _ _).mono ?_; rintro e w8 ⟨rfl, hb8⟩; (try rw [E3.out]); exact ⟨rfl, hC.keep hb8⟩) | (go_at_call 23; refine (intri_any _ _ _ _ _ _ _ _ _).mono ?_; rintro e w8 ⟨rfl, hb8⟩; (try rw [E4.out]); exact ⟨rfl, hC.keep hb8⟩) | (go_at_call 15; refine (less_any _ _ _ _ _).mono ?_; rintro e w8 ⟨rfl, hb8⟩; (try rw [E5.out]); exact ⟨rfl, hC.keep hb8⟩) | (go_at_call 12; refine (known_yes _).mono ?_; rintro e w8 ⟨rfl, hb8⟩; exact ⟨rfl, hC.keep hb8⟩))); go_big_quiet_on))))
          refine wpQuiet_nil ?_
          intro w9 hC
          go_wp2
          go_ret
          exact ⟨rfl, hC.2.2.2.2.2.2.2.2.2.2.2.2.2.2.2.2⟩
end Go.Proofs.Ytoojifpgdmhmcaa
