/- Plain facts on doubled areas, segments and triangles. Nothing of the program. -/
namespace Go.Proofs.Ytenfaejdnphngaa
/-- The doubled area. -/
def crI (ax ay bx b_y cx cy : Int) : Int := (bx - ax) * (cy - ay) - (b_y - ay) * (cx - ax)
def dotI (ax ay bx b_y px py : Int) : Int := (px - ax) * (bx - ax) + (py - ay) * (b_y - ay)
def lngI (ax ay bx b_y : Int) : Int := (bx - ax) * (bx - ax) + (b_y - ay) * (b_y - ay)
def betP (a b v : Int) : Prop := (a ≤ v ∧ v ≤ b) ∨ (b ≤ v ∧ v ≤ a)
def onP (ax ay bx b_y px py : Int) : Prop := crI ax ay bx b_y px py = 0 ∧ betP ax bx px ∧ betP ay b_y py

theorem sq_pos {u : Int} (h : u ≠ 0) : 0 < u * u := by
  rcases Int.lt_or_gt_of_ne h with h | h
  · exact Int.mul_pos_of_neg_of_neg h h
  · exact Int.mul_pos h h
theorem sq_nn (u : Int) : 0 ≤ u * u := by
  by_cases h : u = 0
  · subst h; decide
  · exact Int.le_of_lt (sq_pos h)
theorem lng_pos {ax ay bx b_y : Int} (h : ¬ (ax = bx ∧ ay = b_y)) : 0 < lngI ax ay bx b_y := by
  unfold lngI
  have h1 := sq_nn (bx - ax)
  have h2 := sq_nn (b_y - ay)
  by_cases hx : ax = bx
  · have hy : b_y - ay ≠ 0 := fun k => h ⟨hx, by omega⟩
    have := sq_pos hy
    omega
  · have := sq_pos (show bx - ax ≠ 0 by omega)
    omega
theorem dot_x {ax ay bx b_y px py : Int} (h : crI ax ay bx b_y px py = 0) : dotI ax ay bx b_y px py * (bx - ax) = (px - ax) * lngI ax ay bx b_y := by
  unfold crI at h; unfold dotI lngI; grind
theorem dot_y {ax ay bx b_y px py : Int} (h : crI ax ay bx b_y px py = 0) : dotI ax ay bx b_y px py * (b_y - ay) = (py - ay) * lngI ax ay bx b_y := by
  unfold crI at h; unfold dotI lngI; grind
theorem bet_of {L T u v : Int} (hL : 0 < L) (h : T * u = v * L) (h0 : 0 ≤ T) (h1 : T ≤ L) : (0 ≤ v ∧ v ≤ u) ∨ (u ≤ v ∧ v ≤ 0) := by
  by_cases hu : 0 ≤ u
  · left
    have a1 : 0 ≤ T * u := Int.mul_nonneg h0 hu
    have a2 : T * u ≤ L * u := Int.mul_le_mul_of_nonneg_right h1 hu
    rw [h] at a1 a2
    constructor
    · exact Int.le_of_mul_le_mul_right (by omega) hL
    · exact Int.le_of_mul_le_mul_right (by rw [Int.mul_comm u L]; exact a2) hL
  · right
    have a1 : T * u ≤ 0 := Int.mul_nonpos_of_nonneg_of_nonpos h0 (by omega)
    have a2 : L * u ≤ T * u := Int.mul_le_mul_of_nonpos_right h1 (by omega)
    rw [h] at a1 a2
    constructor
    · exact Int.le_of_mul_le_mul_right (by rw [Int.mul_comm u L]; exact a2) hL
    · exact Int.le_of_mul_le_mul_right (by omega) hL
theorem of_bet {u v : Int} (h : (0 ≤ v ∧ v ≤ u) ∨ (u ≤ v ∧ v ≤ 0)) : 0 ≤ v * u ∧ v * u ≤ u * u := by
  rcases h with ⟨h1, h2⟩ | ⟨h1, h2⟩
  · exact ⟨Int.mul_nonneg h1 (by omega), Int.mul_le_mul_of_nonneg_right h2 (by omega)⟩
  · exact ⟨Int.mul_nonneg_of_nonpos_of_nonpos h2 (by omega), Int.mul_le_mul_of_nonpos_right h1 (by omega)⟩
/-- Between both ends by their numbers, and by the product: the same, on one line. -/
theorem on_dot {ax ay bx b_y px py : Int} (hne : ¬ (ax = bx ∧ ay = b_y)) (h : crI ax ay bx b_y px py = 0) :
    (0 ≤ dotI ax ay bx b_y px py ∧ dotI ax ay bx b_y px py ≤ lngI ax ay bx b_y) ↔ (betP ax bx px ∧ betP ay b_y py) := by
  have hL := lng_pos hne
  constructor
  · rintro ⟨h0, h1⟩
    have k1 := bet_of hL (dot_x h) h0 h1
    have k2 := bet_of hL (dot_y h) h0 h1
    unfold betP
    omega
  · rintro ⟨k1, k2⟩
    have m1 := of_bet (u := bx - ax) (v := px - ax) (by unfold betP at k1; omega)
    have m2 := of_bet (u := b_y - ay) (v := py - ay) (by unfold betP at k2; omega)
    unfold dotI lngI
    omega
theorem sum3 (ax ay bx b_y cx cy px py : Int) : crI ax ay bx b_y px py + crI bx b_y cx cy px py + crI cx cy ax ay px py = crI ax ay bx b_y cx cy := by
  unfold crI; grind
theorem side3 {ax ay bx b_y cx cy px py : Int} (h : crI ax ay bx b_y px py = 0) : crI cx cy ax ay px py * lngI ax ay bx b_y = dotI ax ay bx b_y px py * crI ax ay bx b_y cx cy := by
  unfold crI at *; unfold lngI dotI; grind
theorem cyc (ax ay bx b_y cx cy : Int) : crI bx b_y cx cy ax ay = crI ax ay bx b_y cx cy := by unfold crI; grind
theorem crI_flip (ax ay bx b_y cx cy : Int) : crI bx b_y ax ay cx cy = - crI ax ay bx b_y cx cy := by unfold crI; grind

/-- On a side of a triangle that is no line: then by the other two sides it lies as the triangle turns. -/
theorem on_sides {ax ay bx b_y cx cy px py : Int} (hD : crI ax ay bx b_y cx cy ≠ 0) (h : crI ax ay bx b_y px py = 0) :
    (betP ax bx px ∧ betP ay b_y py) ↔ (0 ≤ crI bx b_y cx cy px py * crI ax ay bx b_y cx cy ∧ 0 ≤ crI cx cy ax ay px py * crI ax ay bx b_y cx cy) := by
  have hne : ¬ (ax = bx ∧ ay = b_y) := by
    rintro ⟨rfl, rfl⟩
    exact hD (by unfold crI; grind)
  have hL := lng_pos hne
  rw [← on_dot hne h]
  have e3 := side3 (cx := cx) (cy := cy) h
  have es := sum3 ax ay bx b_y cx cy px py
  generalize hDd : crI ax ay bx b_y cx cy = D at *
  generalize crI cx cy ax ay px py = s3 at *
  generalize crI bx b_y cx cy px py = s2 at *
  generalize dotI ax ay bx b_y px py = T at *
  generalize lngI ax ay bx b_y = L at *
  have hs2 : s2 = D - s3 := by omega
  have hDD := sq_pos hD
  -- s3 * D * L = T * (D * D); s2 * D * L = (L - T) * (D * D)
  have f3 : s3 * D * L = T * (D * D) := by grind
  have f2 : s2 * D * L = (L - T) * (D * D) := by grind
  constructor
  · rintro ⟨h0, h1⟩
    constructor
    · have : 0 ≤ s2 * D * L := by rw [f2]; exact Int.mul_nonneg (by omega) (by omega)
      exact Int.le_of_mul_le_mul_right (by omega) hL
    · have : 0 ≤ s3 * D * L := by rw [f3]; exact Int.mul_nonneg (by omega) (by omega)
      exact Int.le_of_mul_le_mul_right (by omega) hL
  · rintro ⟨h0, h1⟩
    constructor
    · have : 0 ≤ T * (D * D) := by rw [← f3]; exact Int.mul_nonneg h1 (by omega)
      exact Int.le_of_mul_le_mul_right (by omega) hDD
    · have : 0 ≤ (L - T) * (D * D) := by rw [← f2]; exact Int.mul_nonneg h0 (by omega)
      have : (0 : Int) ≤ L - T := Int.le_of_mul_le_mul_right (by omega) hDD
      omega

theorem bet_line {L T S u v x : Int} (hL : 0 < L) (h : T * u = v * L) (k : S * u = x * L) (h0 : 0 ≤ T) (h1 : T ≤ S) : (0 ≤ v ∧ v ≤ x) ∨ (x ≤ v ∧ v ≤ 0) := by
  by_cases hu : 0 ≤ u
  · left
    have a1 : 0 ≤ T * u := Int.mul_nonneg h0 hu
    have a2 : T * u ≤ S * u := Int.mul_le_mul_of_nonneg_right h1 hu
    rw [h] at a1 a2
    rw [k] at a2
    exact ⟨Int.le_of_mul_le_mul_right (by omega) hL, Int.le_of_mul_le_mul_right a2 hL⟩
  · right
    have a1 : T * u ≤ 0 := Int.mul_nonpos_of_nonneg_of_nonpos h0 (by omega)
    have a2 : S * u ≤ T * u := Int.mul_le_mul_of_nonpos_right h1 (by omega)
    rw [h] at a1 a2
    rw [k] at a2
    exact ⟨Int.le_of_mul_le_mul_right a2 hL, Int.le_of_mul_le_mul_right (by omega) hL⟩
theorem on_flip {ax ay bx b_y px py : Int} (h : onP ax ay bx b_y px py) : onP bx b_y ax ay px py := by
  obtain ⟨h0, h1, h2⟩ := h
  refine ⟨by rw [crI_flip]; omega, ?_, ?_⟩
  · unfold betP at *; omega
  · unfold betP at *; omega
/-- On a line, the third side is held by the other two. -/
theorem on_line {ax ay bx b_y cx cy px py : Int} (hD : crI ax ay bx b_y cx cy = 0) (h : onP ax ay cx cy px py) : onP ax ay bx b_y px py ∨ onP bx b_y cx cy px py := by
  obtain ⟨h0, h1, h2⟩ := h
  by_cases hac : ax = cx ∧ ay = cy
  · obtain ⟨rfl, rfl⟩ := hac
    left
    obtain rfl : px = ax := by unfold betP at h1; omega
    obtain rfl : py = ay := by unfold betP at h2; omega
    exact ⟨by unfold crI; grind, by unfold betP; omega, by unfold betP; omega⟩
  · have hL := lng_pos hac
    have hb : crI ax ay cx cy bx b_y = 0 := by unfold crI at *; grind
    have ex := dot_x h0
    have ey := dot_y h0
    have fx := dot_x hb
    have fy := dot_y hb
    obtain ⟨t0, t1⟩ := (on_dot hac h0).2 ⟨h1, h2⟩
    have hz : crI ax ay bx b_y px py = 0 := by
      have : lngI ax ay cx cy * crI ax ay bx b_y px py = 0 := by unfold crI at *; unfold lngI; grind
      rcases Int.mul_eq_zero.1 this with k | k
      · omega
      · exact k
    have hs := sum3 ax ay bx b_y cx cy px py
    have hca : crI cx cy ax ay px py = 0 := by rw [crI_flip]; omega
    by_cases hT : dotI ax ay cx cy px py ≤ dotI ax ay cx cy bx b_y
    · left
      have k1 := bet_line hL ex fx t0 hT
      have k2 := bet_line hL ey fy t0 hT
      exact ⟨hz, by unfold betP; omega, by unfold betP; omega⟩
    · right
      generalize dotI ax ay cx cy px py = T at *
      generalize dotI ax ay cx cy bx b_y = S at *
      generalize lngI ax ay cx cy = L at *
      have k1 := bet_line (L := L) (T := L - T) (S := L - S) (u := cx - ax) (v := cx - px) (x := cx - bx) hL (by grind) (by grind) (by omega) (by omega)
      have k2 := bet_line (L := L) (T := L - T) (S := L - S) (u := cy - ay) (v := cy - py) (x := cy - b_y) hL (by grind) (by grind) (by omega) (by omega)
      exact ⟨by omega, by unfold betP; omega, by unfold betP; omega⟩

def inP (ax ay bx b_y cx cy px py : Int) : Prop :=
  if crI ax ay bx b_y cx cy = 0 then onP ax ay bx b_y px py ∨ onP bx b_y cx cy px py
  else 0 ≤ crI ax ay bx b_y px py * crI ax ay bx b_y cx cy ∧ 0 ≤ crI bx b_y cx cy px py * crI ax ay bx b_y cx cy ∧ 0 ≤ crI cx cy ax ay px py * crI ax ay bx b_y cx cy
def allS (x y z : Int) : Prop := (0 < x ∧ 0 < y ∧ 0 < z) ∨ (x < 0 ∧ y < 0 ∧ z < 0)
def rinP (ax ay bx b_y cx cy px py : Int) : Prop :=
  onP ax ay bx b_y px py ∨ onP bx b_y cx cy px py ∨ onP cx cy ax ay px py ∨ allS (crI ax ay bx b_y px py) (crI bx b_y cx cy px py) (crI cx cy ax ay px py)

theorem sgn_mul {s D : Int} (hs : s ≠ 0) (h : 0 ≤ s * D) : (0 < D → 0 < s) ∧ (D < 0 → s < 0) := by
  constructor
  · intro k
    rcases Int.lt_or_gt_of_ne hs with m | m
    · have := Int.mul_neg_of_neg_of_pos m k; omega
    · exact m
  · intro k
    rcases Int.lt_or_gt_of_ne hs with m | m
    · exact m
    · have := Int.mul_neg_of_pos_of_neg m k; omega
theorem in_rin (ax ay bx b_y cx cy px py : Int) : inP ax ay bx b_y cx cy px py ↔ rinP ax ay bx b_y cx cy px py := by
  unfold inP rinP
  have hs := sum3 ax ay bx b_y cx cy px py
  split
  · rename_i hD
    constructor
    · rintro (h | h)
      · exact .inl h
      · exact .inr (.inl h)
    · rintro (h | h | h | h)
      · exact .inl h
      · exact .inr h
      · exact on_line hD (on_flip h)
      · unfold allS at h; omega
  · rename_i hD
    have e2 : crI bx b_y cx cy ax ay = crI ax ay bx b_y cx cy := cyc _ _ _ _ _ _
    have e3 : crI cx cy ax ay bx b_y = crI ax ay bx b_y cx cy := (cyc _ _ _ _ _ _).trans e2
    have hD2 : crI bx b_y cx cy ax ay ≠ 0 := by rw [e2]; exact hD
    have hD3 : crI cx cy ax ay bx b_y ≠ 0 := by rw [e3]; exact hD
    constructor
    · rintro ⟨h1, h2, h3⟩
      by_cases z1 : crI ax ay bx b_y px py = 0
      · exact .inl ⟨z1, (on_sides hD z1).2 ⟨h2, h3⟩⟩
      · by_cases z2 : crI bx b_y cx cy px py = 0
        · exact .inr (.inl ⟨z2, (on_sides hD2 z2).2 (by rw [e2]; exact ⟨h3, h1⟩)⟩)
        · by_cases z3 : crI cx cy ax ay px py = 0
          · exact .inr (.inr (.inl ⟨z3, (on_sides hD3 z3).2 (by rw [e3]; exact ⟨h1, h2⟩)⟩))
          · refine .inr (.inr (.inr ?_))
            have k1 := sgn_mul z1 h1
            have k2 := sgn_mul z2 h2
            have k3 := sgn_mul z3 h3
            unfold allS
            omega
    · have zz : ∀ D : Int, 0 ≤ 0 * D := fun D => by omega
      rintro (⟨z, h⟩ | ⟨z, h⟩ | ⟨z, h⟩ | h)
      · have := (on_sides hD z).1 h
        exact ⟨by rw [z]; exact zz _, this⟩
      · have := (on_sides hD2 z).1 h
        rw [e2] at this
        exact ⟨this.2, by rw [z]; exact zz _, this.1⟩
      · have := (on_sides hD3 z).1 h
        rw [e3] at this
        exact ⟨this.1, this.2, by rw [z]; exact zz _⟩
      · unfold allS at h
        rcases h with ⟨a, b, c⟩ | ⟨a, b, c⟩
        · have hp : 0 < crI ax ay bx b_y cx cy := by omega
          exact ⟨Int.le_of_lt (Int.mul_pos a hp), Int.le_of_lt (Int.mul_pos b hp), Int.le_of_lt (Int.mul_pos c hp)⟩
        · have hp : crI ax ay bx b_y cx cy < 0 := by omega
          exact ⟨Int.le_of_lt (Int.mul_pos_of_neg_of_neg a hp), Int.le_of_lt (Int.mul_pos_of_neg_of_neg b hp), Int.le_of_lt (Int.mul_pos_of_neg_of_neg c hp)⟩
end Go.Proofs.Ytenfaejdnphngaa
