/- Layer 4's examples: the law's known answers true. -/
import Derived.Test.YtmmahejdpanmjaaRowsI
import Derived.Test.YtmmahejdpanmjaaStrips
namespace Go.Proofs.Ytmmahejdpanmjaa
open Go.RowKit Go.Sort Go.Deep

def knR : List (List Int) := [[2], [1, 9], [1], []]
theorem knR_srt : srt (rlt knR) (nums 4) = [3, 2, 1, 0] := by
  refine rows_eq knR 4 (by decide) ?_
  unfold srtd
  decide
theorem il_two (W : World) (T : TypeId) (x y : Int) : IL (W.alloc (.cells #[.int .i64 x, .int .i64 y] T)) (W.alloc (.cells #[.int .i64 x, .int .i64 y] T)).heap.size (.slice (some ⟨W.heap.size, 0, none⟩) 2 2) [x, y] := by
  refine ⟨_, 2, rfl, by simp, fun i hi => ⟨_, 0, rfl, by rw [World.size_alloc]; omega, ?_⟩⟩
  match i, hi with
  | 0, _ => go_simp
  | 1, _ => go_simp
theorem il_one (W : World) (T : TypeId) (x : Int) : IL (W.alloc (.cells #[.int .i64 x] T)) (W.alloc (.cells #[.int .i64 x] T)).heap.size (.slice (some ⟨W.heap.size, 0, none⟩) 1 1) [x] := by
  refine ⟨_, 1, rfl, by simp, fun i hi => ⟨_, 0, rfl, by rw [World.size_alloc]; omega, ?_⟩⟩
  match i, hi with
  | 0, _ => go_simp
def knW1 (W : World) : World := W.alloc (.cells #[.int .i64 2] 3)
def knW2 (W : World) : World := (knW1 W).alloc (.cells #[.int .i64 1, .int .i64 9] 3)
def knW3 (W : World) : World := (knW2 W).alloc (.cells #[.int .i64 1] 3)
theorem kn_rl (w W0 W : World) (hW0 : W0 = knW3 w) (g : Nat) (hb : Below W0.heap.size W0 W)
    (c0 : W.cell? ⟨g, 0, none⟩ = some (.slice (some ⟨w.heap.size, 0, none⟩) 1 1)) (c1 : W.cell? ⟨g, 1, none⟩ = some (.slice (some ⟨w.heap.size + 1, 0, none⟩) 2 2))
    (c2 : W.cell? ⟨g, 2, none⟩ = some (.slice (some ⟨w.heap.size + 2, 0, none⟩) 1 1)) (c3 : W.cell? ⟨g, 3, none⟩ = some (.slice none 0 0)) : RL W (.slice (some ⟨g, 0, none⟩) 4 4) knR := by
  have i1 := il_one w 3 2
  have i2 := il_two (knW1 w) 3 1 9
  have i3 := il_one (knW2 w) 3 1
  have b2 : Below (knW1 w).heap.size (knW1 w) (knW2 w) := below_alloc _ _
  have b3 : Below (knW2 w).heap.size (knW2 w) (knW3 w) := below_alloc _ _
  subst hW0
  have j1 := ((IL.keep b2 i1).keep b3).keep hb
  have j2 := (IL.keep b3 i2).keep hb
  have j3 := IL.keep hb i3
  rw [show (knW1 w).heap.size = w.heap.size + 1 from by unfold knW1; rw [World.size_alloc]] at j2
  rw [show (knW2 w).heap.size = w.heap.size + 2 from by unfold knW2 knW1; rw [World.size_alloc, World.size_alloc]] at j3
  refine ⟨_, 4, rfl, by decide, fun i hi => ?_⟩
  match i, hi with
  | 0, _ => exact ⟨g, 0, _, rfl, by simpa using c0, j1⟩
  | 1, _ => exact ⟨g, 0, _, rfl, by simpa using c1, j2⟩
  | 2, _ => exact ⟨g, 0, _, rfl, by simpa using c2, j3⟩
  | 3, _ => exact ⟨g, 0, _, rfl, by simpa using c3, IL.nil _ _ _ _⟩
def KnPost (w : World) (e : Ending) (w' : World) : Prop := e = .returned (.bool true) ∧ Below w.heap.size w w'
theorem bs_first {L : List Int} {x : Int} {i : Nat} (h : BsP L x i i) {k : Nat} (hk : k ≤ L.length) (hi : i ≤ L.length) (h1 : ∀ j (h : j < L.length), j < k → L[j] < x) (h2 : ∀ j (h : j < L.length), j = k → ¬ L[j] < x) : i = k := by
  rcases Nat.lt_trichotomy i k with h3 | h3 | h3
  · exact absurd (h1 i (by omega) h3) (h.2 i (by omega) (Nat.le_refl _))
  · exact h3
  · exact absurd (h.1 k (by omega) h3) (h2 k (by omega) rfl)
theorem se_first {p : Nat → Bool} {n j k : Nat} (h : SeP p n j j) (hk : k ≤ n) (hj : j ≤ n) (h1 : ∀ i, i < k → p i = false) (h2 : k < n → p k = true) : j = k := by
  rcases Nat.lt_trichotomy j k with h3 | h3 | h3
  · have a := h1 j h3
    rw [h.2 j (by omega) (Nat.le_refl _)] at a; cases a
  · exact h3
  · have a := h.1 k h3
    rw [h2 (by omega)] at a; cases a
theorem se_zero {p : Nat → Bool} (h : p 0 = false) : ∀ i, i < 1 → p i = false := fun i hi => by
  obtain rfl : i = 0 := Nat.lt_one_iff.1 hi
  exact h
set_option maxRecDepth 100000 in
set_option maxHeartbeats 2000000 in
theorem known4_yes (w : World) : Calls Try.prog 12 #[] w (KnPost w) := by
  go_enter Try.func12, Try.ntmps12
  go_wp2_with fail
  refine (rows_any (kn_rl w (knW3 w) _ rfl _ (below_alloc (knW3 w) _) (by simp only [knW3, knW2, knW1]; go_simp) (by simp only [knW3, knW2, knW1]; go_simp) (by simp only [knW3, knW2, knW1]; go_simp) (by simp only [knW3, knW2, knW1]; go_simp)) (by decide) (by decide)).mono ?_
  rintro e w1 ⟨u, rfl, ho, hb1⟩
  have hB0 : Below w.heap.size w (knW3 w) := below_after (below_after (below_alloc w _) (below_alloc (knW1 w) _)) (below_alloc (knW2 w) _)
  have HB1 : Hid (Below w.heap.size w w1) := Lib.hid (below_after (below_after hB0 (below_alloc (knW3 w) _)) hb1)
  have ho4 : w1.ownsRow ((knW3 w).alloc (.cells #[.slice (some ⟨w.heap.size, 0, none⟩) 1 1, .slice (some ⟨w.heap.size + 1, 0, none⟩) 2 2, .slice (some ⟨w.heap.size + 1 + 1, 0, none⟩) 1 1, .slice none 0 0] 24)).heap.size 3 1 u ([3, 2, 1, 0] : List Int).length (icells [3, 2, 1, 0]) := by
    have h := ho
    rw [show knR.length = 4 from rfl, knR_srt] at h
    exact h
  have HI := Lib.hid (own_IL ho4)
  clear ho ho4 hb1 hB0
  obtain ⟨q, c, rfl, hc, hx⟩ := id HI.out
  obtain ⟨g, o, rfl, _, _⟩ := hx 0 (by decide)
  clear hx
  have HS := Lib.hid (strips_any (w := w1.alloc (.cells #[.int .i64 4, .int .i64 8] 3)) (4 : Int) (by decide) (il_two w1 3 4 8) (by decide))
  go_wp2_with fail
  go_at_call 25
  refine Calls.mono HS.out ?_
  rintro e w2 ⟨i, j, rfl, hi, hj, hbs, hse, hb2⟩
  obtain rfl : i = 0 := bs_first hbs (by decide) hi (fun j h k => absurd k (by omega)) (fun j h k => by subst k; simp)
  obtain rfl : j = 1 := se_first hse (by decide) hj (fun i h => se_zero (p := fun k => decide ((4 : Int) < ([4, 8] : List Int).getD k 0)) (by decide) i h) (fun _ => by decide)
  have HI2 := Lib.hid (HI.out.keep (below_after (below_alloc w1 _) hb2))
  have c0 : w2.cell? ⟨g, o, none⟩ = some (.int .i64 3) := by
    obtain ⟨g1, o1, e, h⟩ := HI2.out.at (i := 0) (by decide)
    cases e; exact h
  have c3 : w2.cell? ⟨g, o + 3, none⟩ = some (.int .i64 0) := by
    obtain ⟨g1, o1, e, h⟩ := HI2.out.at (i := 3) (by decide)
    cases e; exact h
  have HB2 : Hid (Below w.heap.size w w2) := Lib.hid (below_after HB1.out (below_after (below_alloc w1 _) hb2))
  have hc4 : 4 ≤ c := hc
  clear hc hbs hse hb2 HS hi hj
  have HC1 := Lib.hid (common_any (w := w2.alloc (.cells #[.int .i64 4, .int .i64 8] 3)) (4 : Int) (8 : Int) (by decide) (il_two w2 3 4 8) (by decide))
  go_wp2_with fail
  go_at_call 27
  refine Calls.mono HC1.out ?_
  rintro e w3 ⟨i, j, i2, j2, rfl, b1, s1, b2, s2, l1, l2, l3, l4, hb3⟩
  obtain rfl : i = 0 := bs_first b1 (by decide) l1 (fun j h k => absurd k (by omega)) (fun j h k => by subst k; simp)
  obtain rfl : j = 1 := se_first s1 (by decide) l2 (fun i h => se_zero (p := fun k => decide ((4 : Int) < ([4, 8] : List Int).getD k 0)) (by decide) i h) (fun _ => by decide)
  obtain rfl : i2 = 1 := bs_first b2 (by decide) l3 (fun j h k => by obtain rfl : j = 0 := Nat.lt_one_iff.1 k
                                                                     simp) (fun j h k => by subst k; simp)
  have HB3 : Hid (Below w.heap.size w w3) := Lib.hid (below_after HB2.out (below_after (below_alloc w2 _) hb3))
  clear b1 s1 b2 s2 l1 l2 l3 l4 hb3 HC1 c0 c3 HI HI2 HB1 HB2
  have HC2 := Lib.hid (common_any (w := w3.alloc (.cells #[.int .i64 4, .int .i64 8] 3)) (3 : Int) (5 : Int) (by decide) (il_two w3 3 4 8) (by decide))
  go_wp2_with fail
  go_at_call 27
  refine Calls.mono HC2.out ?_
  rintro e w4 ⟨i, j, i2, j2, rfl, b1, s1, b2, s2, l1, l2, l3, l4, hb4⟩
  obtain rfl : j = 0 := se_first s1 (by decide) l2 (fun i h => absurd h (by omega)) (fun _ => by decide)
  obtain rfl : i2 = 1 := bs_first b2 (by decide) l3 (fun j h k => by obtain rfl : j = 0 := Nat.lt_one_iff.1 k
                                                                     simp) (fun j h k => by subst k; simp)
  have HB4 : Hid (Below w.heap.size w w4) := Lib.hid (below_after HB3.out (below_after (below_alloc w3 _) hb4))
  have hd : (decide (i ≤ j2) && decide (1 ≤ 0)) = false := by simp
  rw [hd]
  clear b1 s1 b2 s2 l1 l2 l3 l4 hb4 HC2 hd
  go_wp2_with fail
  go_ret
  exact ⟨rfl, HB4.out⟩
end Go.Proofs.Ytmmahejdpanmjaa
