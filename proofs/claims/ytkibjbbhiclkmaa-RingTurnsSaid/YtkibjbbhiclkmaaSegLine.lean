/- Plain facts on two segments of one line. Nothing of the program. -/
import Derived.Test.YtkibjbbhiclkmaaSegGeo
namespace Go.Proofs.Ytkibjbbhiclkmaa

/-- By the first number, or by the second where the first are the same. -/
def lesB (ax ay bx b_y : Int) : Bool := if ax = bx then decide (ay < b_y) else decide (ax < bx)
def inO (p q : Int × Int) : (Int × Int) × (Int × Int) := if lesB q.1 q.2 p.1 p.2 then (q, p) else (p, q)
/-- On one line: as the code goes. -/
def lowP (a b c d : Int × Int) : Int × Int := (inO (inO a b).1 (inO c d).1).2
def highP (a b c d : Int × Int) : Int × Int := (inO (inO a b).2 (inO c d).2).1
def linI (a b c d : Int × Int) : Int :=
  if eqB (lowP a b c d).1 (lowP a b c d).2 (highP a b c d).1 (highP a b c d).2 then 1
  else if lesB (lowP a b c d).1 (lowP a b c d).2 (highP a b c d).1 (highP a b c d).2 then 4 else 0

section
variable {ax ay bx b_y : Int} (hab : ¬ (ax = bx ∧ ay = b_y))
/-- The number by which points of the line through a and b are told apart. -/
def sc (ax bx : Int) (p : Int × Int) : Int := if ax = bx then p.2 else p.1
def inL (ax ay bx b_y : Int) (p : Int × Int) : Prop := crI ax ay bx b_y p.1 p.2 = 0
include hab
theorem line_x (h : ax = bx) {p : Int × Int} (hp : inL ax ay bx b_y p) : p.1 = ax := by
  unfold inL crI at hp
  subst h
  have hy : ay - b_y ≠ 0 := fun k => hab ⟨rfl, by omega⟩
  have : (ay - b_y) * (p.1 - ax) = 0 := by grind
  rcases Int.mul_eq_zero.1 this with k | k
  · exact absurd k hy
  · omega
theorem line_eq {p q : Int × Int} (hp : inL ax ay bx b_y p) (hq : inL ax ay bx b_y q) : sc ax bx p = sc ax bx q ↔ p.1 = q.1 ∧ p.2 = q.2 := by
  by_cases h : ax = bx
  · have e1 := line_x hab h hp
    have e2 := line_x hab h hq
    unfold sc
    rw [if_pos h, if_pos h]
    omega
  · unfold sc
    rw [if_neg h, if_neg h]
    constructor
    · intro e
      refine ⟨e, ?_⟩
      unfold inL crI at hp hq
      have : (bx - ax) * (p.2 - q.2) = 0 := by grind
      rcases Int.mul_eq_zero.1 this with k | k
      · omega
      · omega
    · exact fun k => k.1
theorem line_les {p q : Int × Int} (hp : inL ax ay bx b_y p) (hq : inL ax ay bx b_y q) : lesB p.1 p.2 q.1 q.2 = true ↔ sc ax bx p < sc ax bx q := by
  have he := line_eq hab hp hq
  by_cases h : ax = bx
  · have e1 := line_x hab h hp
    have e2 := line_x hab h hq
    unfold lesB sc
    rw [if_pos (by omega), if_pos h, if_pos h]
    simp
  · unfold sc at he
    rw [if_neg h, if_neg h] at he
    unfold lesB sc
    rw [if_neg h, if_neg h]
    split
    · rename_i k
      have := he.1 k
      simp; omega
    · simp
theorem line_cr {p q r : Int × Int} (hp : inL ax ay bx b_y p) (hq : inL ax ay bx b_y q) (hr : inL ax ay bx b_y r) : crI p.1 p.2 q.1 q.2 r.1 r.2 = 0 := by
  unfold inL crI at *
  have := par (u1 := bx - ax) (u2 := b_y - ay) (v1 := q.1 - p.1) (v2 := q.2 - p.2) (w1 := r.1 - p.1) (w2 := r.2 - p.2) (by omega) (by grind) (by grind)
  omega
omit hab in
theorem mono_pos {k m u v : Int} (hk : 0 < k) (h : k * v = m * u) : (0 ≤ m → 0 ≤ u → 0 ≤ v) ∧ (m ≤ 0 → 0 ≤ u → v ≤ 0) := by
  constructor
  · intro hm hu
    have : 0 ≤ k * v := by rw [h]; exact Int.mul_nonneg hm hu
    exact Int.le_of_mul_le_mul_left (by omega) hk
  · intro hm hu
    have : k * v ≤ 0 := by rw [h]; exact Int.mul_nonpos_of_nonpos_of_nonneg hm hu
    exact Int.le_of_mul_le_mul_left (by omega) hk
omit hab in
theorem bet_other {k m u1 v1 u2 v2 : Int} (hk : k ≠ 0) (h1 : k * v1 = m * u1) (h2 : k * v2 = m * u2) (hu : (0 ≤ u1 ∧ 0 ≤ u2) ∨ (u1 ≤ 0 ∧ u2 ≤ 0)) : (0 ≤ v1 ∧ 0 ≤ v2) ∨ (v1 ≤ 0 ∧ v2 ≤ 0) := by
  have key : ∀ {k m u1 v1 u2 v2 : Int}, 0 < k → k * v1 = m * u1 → k * v2 = m * u2 → (0 ≤ u1 ∧ 0 ≤ u2) → (0 ≤ v1 ∧ 0 ≤ v2) ∨ (v1 ≤ 0 ∧ v2 ≤ 0) := by
    intro k m u1 v1 u2 v2 hk h1 h2 hu
    have a := mono_pos hk h1
    have b := mono_pos hk h2
    omega
  have key2 : ∀ {k m u1 v1 u2 v2 : Int}, 0 < k → k * v1 = m * u1 → k * v2 = m * u2 → ((0 ≤ u1 ∧ 0 ≤ u2) ∨ (u1 ≤ 0 ∧ u2 ≤ 0)) → (0 ≤ v1 ∧ 0 ≤ v2) ∨ (v1 ≤ 0 ∧ v2 ≤ 0) := by
    intro k m u1 v1 u2 v2 hk h1 h2 hu
    rcases hu with hu | hu
    · exact key hk h1 h2 hu
    · have := key (u1 := -u1) (v1 := -v1) (u2 := -u2) (v2 := -v2) hk (by rw [Int.mul_neg, Int.mul_neg, h1]) (by rw [Int.mul_neg, Int.mul_neg, h2]) (by omega)
      omega
  rcases Int.lt_or_gt_of_ne hk with k0 | k0
  · exact key2 (k := -k) (m := -m) (by omega) (by rw [Int.neg_mul, Int.neg_mul, h1]) (by rw [Int.neg_mul, Int.neg_mul, h2]) hu
  · exact key2 k0 h1 h2 hu
theorem line_on {p q r : Int × Int} (hp : inL ax ay bx b_y p) (hq : inL ax ay bx b_y q) (hr : inL ax ay bx b_y r) : onB p.1 p.2 q.1 q.2 r.1 r.2 = true ↔ betP (sc ax bx p) (sc ax bx q) (sc ax bx r) := by
  rw [onB_iff]
  have hc := line_cr hab hp hq hr
  by_cases h : ax = bx
  · have e1 := line_x hab h hp
    have e2 := line_x hab h hq
    have e3 := line_x hab h hr
    unfold sc onP
    rw [if_pos h, if_pos h, if_pos h]
    constructor
    · exact fun k => k.2.2
    · exact fun k => ⟨hc, by unfold betP; omega, k⟩
  · unfold sc onP
    rw [if_neg h, if_neg h, if_neg h]
    constructor
    · exact fun k => k.2.1
    · intro k
      refine ⟨hc, k, ?_⟩
      unfold inL crI at hp hq hr
      have := bet_other (k := bx - ax) (m := b_y - ay) (u1 := r.1 - p.1) (v1 := r.2 - p.2) (u2 := q.1 - r.1) (v2 := q.2 - r.2) (by omega) (by grind) (by grind) (by unfold betP at k; omega)
      unfold betP
      omega
theorem line_in {p q : Int × Int} (hp : inL ax ay bx b_y p) (hq : inL ax ay bx b_y q) :
    inL ax ay bx b_y (inO p q).1 ∧ inL ax ay bx b_y (inO p q).2 ∧ sc ax bx (inO p q).1 = min (sc ax bx p) (sc ax bx q) ∧ sc ax bx (inO p q).2 = max (sc ax bx p) (sc ax bx q) := by
  have hl := line_les hab hq hp
  unfold inO
  split
  · rename_i k
    have := hl.1 k
    exact ⟨hq, hp, (by show sc ax bx q = _; omega), (by show sc ax bx p = _; omega)⟩
  · rename_i k
    have : ¬ sc ax bx q < sc ax bx p := fun m => k (hl.2 m)
    exact ⟨hp, hq, (by show sc ax bx p = _; omega), (by show sc ax bx q = _; omega)⟩
end

theorem bi_is (b : Bool) (p : Prop) (h : b = true ↔ p) : (p ∧ bi b = 1) ∨ (¬ p ∧ bi b = 0) := by
  cases b
  · right; exact ⟨fun k => by simp at h; exact h k, rfl⟩
  · left; exact ⟨h.1 rfl, rfl⟩

/-- Counting, on a line: by four numbers that rise in twos. -/
theorem line_cnt0 (a b c d : Int) (hab : a < b) (hcd : c < d) (hs : ¬ (a = c ∧ b = d)) (n1 n2 n3 n4 m1 m2 : Int)
    (k1 : ((c ≤ a ∧ a ≤ d) ∧ n1 = 1) ∨ (¬ (c ≤ a ∧ a ≤ d) ∧ n1 = 0)) (k2 : ((c ≤ b ∧ b ≤ d) ∧ n2 = 1) ∨ (¬ (c ≤ b ∧ b ≤ d) ∧ n2 = 0)) (k3 : ((a ≤ c ∧ c ≤ b) ∧ n3 = 1) ∨ (¬ (a ≤ c ∧ c ≤ b) ∧ n3 = 0)) (k4 : ((a ≤ d ∧ d ≤ b) ∧ n4 = 1) ∨ (¬ (a ≤ d ∧ d ≤ b) ∧ n4 = 0))
    (j1 : ((a = c ∨ a = d) ∧ m1 = 1) ∨ (¬ (a = c ∨ a = d) ∧ m1 = 0)) (j2 : ((b = c ∨ b = d) ∧ m2 = 1) ∨ (¬ (b = c ∨ b = d) ∧ m2 = 0)) :
    (max a c = min b d ∧ n1 + n2 + (n3 + n4) - (m1 + m2) = 1 ∧ m1 + m2 = 1) ∨ (max a c < min b d ∧ 1 < n1 + n2 + (n3 + n4) - (m1 + m2)) ∨ (min b d < max a c ∧ n1 + n2 + (n3 + n4) - (m1 + m2) = 0) := by
  rcases Int.lt_trichotomy a c with p | p | p
  all_goals rcases Int.lt_trichotomy b d with q | q | q
  all_goals rcases Int.lt_trichotomy a d with r | r | r
  all_goals try (exfalso; clear k1 k2 k3 k4 j1 j2; omega)
  all_goals rcases Int.lt_trichotomy b c with s | s | s
  all_goals try (exfalso; clear k1 k2 k3 k4 j1 j2; omega)
  all_goals rcases k1 with ⟨p1, q1⟩ | ⟨p1, q1⟩
  all_goals try (exfalso; clear k2 k3 k4 j1 j2; omega)
  all_goals rcases k2 with ⟨p2, q2⟩ | ⟨p2, q2⟩
  all_goals try (exfalso; clear p1 k3 k4 j1 j2; omega)
  all_goals rcases k3 with ⟨p3, q3⟩ | ⟨p3, q3⟩
  all_goals try (exfalso; clear p1 p2 k4 j1 j2; omega)
  all_goals rcases k4 with ⟨p4, q4⟩ | ⟨p4, q4⟩
  all_goals try (exfalso; clear p1 p2 p3 j1 j2; omega)
  all_goals rcases j1 with ⟨p5, q5⟩ | ⟨p5, q5⟩
  all_goals try (exfalso; clear p1 p2 p3 p4 j2; omega)
  all_goals rcases j2 with ⟨p6, q6⟩ | ⟨p6, q6⟩
  all_goals try (exfalso; clear p1 p2 p3 p4 p5; omega)
  all_goals (clear p1 p2 p3 p4 p5 p6 hs; omega)

/-- Counting, on a line: by four numbers. -/
theorem line_count (a b c d : Int) (hab : a ≠ b) (hcd : c ≠ d) (hs : ¬ (a = c ∧ b = d ∨ a = d ∧ b = c)) (l h n1 n2 n3 n4 m1 m2 : Int) (hl : l = max (min a b) (min c d)) (hh : h = min (max a b) (max c d))
    (k1 : (betP c d a ∧ n1 = 1) ∨ (¬ betP c d a ∧ n1 = 0)) (k2 : (betP c d b ∧ n2 = 1) ∨ (¬ betP c d b ∧ n2 = 0)) (k3 : (betP a b c ∧ n3 = 1) ∨ (¬ betP a b c ∧ n3 = 0)) (k4 : (betP a b d ∧ n4 = 1) ∨ (¬ betP a b d ∧ n4 = 0))
    (j1 : ((betP c d a ∧ (a = c ∨ a = d)) ∧ m1 = 1) ∨ (¬ (betP c d a ∧ (a = c ∨ a = d)) ∧ m1 = 0)) (j2 : ((betP c d b ∧ (b = c ∨ b = d)) ∧ m2 = 1) ∨ (¬ (betP c d b ∧ (b = c ∨ b = d)) ∧ m2 = 0)) :
    (if l = h then (1 : Int) else if l < h then 4 else 0) = if 1 < n1 + n2 + (n3 + n4) - (m1 + m2) then 4 else if n1 + n2 + (n3 + n4) - (m1 + m2) = 1 then (if m1 + m2 = 1 then 1 else 2) else 0 := by
  have g : (l = h ∧ n1 + n2 + (n3 + n4) - (m1 + m2) = 1 ∧ m1 + m2 = 1) ∨ (l < h ∧ 1 < n1 + n2 + (n3 + n4) - (m1 + m2)) ∨ (h < l ∧ n1 + n2 + (n3 + n4) - (m1 + m2) = 0) := by
    have t1 : ∀ u v x : Int, u < v → (betP u v x ↔ (u ≤ x ∧ x ≤ v)) := fun u v x k => by unfold betP; omega
    have t2 : ∀ u v x : Int, v < u → (betP u v x ↔ (v ≤ x ∧ x ≤ u)) := fun u v x k => by unfold betP; omega
    have e1 : (betP c d a ∧ (a = c ∨ a = d)) ↔ (a = c ∨ a = d) := ⟨fun k => k.2, fun k => ⟨by unfold betP; omega, k⟩⟩
    have e2 : (betP c d b ∧ (b = c ∨ b = d)) ↔ (b = c ∨ b = d) := ⟨fun k => k.2, fun k => ⟨by unfold betP; omega, k⟩⟩
    rw [e1] at j1
    rw [e2] at j2
    clear e1 e2
    rcases Int.lt_or_gt_of_ne hab with p | p <;> rcases Int.lt_or_gt_of_ne hcd with q | q
    · rw [t1 _ _ _ q] at k1 k2
      rw [t1 _ _ _ p] at k3 k4
      have := line_cnt0 a b c d p q (by omega) n1 n2 n3 n4 m1 m2 k1 k2 k3 k4 j1 j2
      clear k1 k2 k3 k4 j1 j2 t1 t2
      omega
    · rw [t2 _ _ _ q] at k1 k2
      rw [t1 _ _ _ p] at k3 k4
      rw [or_comm (a := a = c)] at j1
      rw [or_comm (a := b = c)] at j2
      have := line_cnt0 a b d c p q (by omega) n1 n2 n4 n3 m1 m2 k1 k2 k4 k3 j1 j2
      clear k1 k2 k3 k4 j1 j2 t1 t2
      omega
    · rw [t1 _ _ _ q] at k1 k2
      rw [t2 _ _ _ p] at k3 k4
      have := line_cnt0 b a c d p q (by omega) n2 n1 n3 n4 m2 m1 k2 k1 k3 k4 j2 j1
      clear k1 k2 k3 k4 j1 j2 t1 t2
      omega
    · rw [t2 _ _ _ q] at k1 k2
      rw [t2 _ _ _ p] at k3 k4
      rw [or_comm (a := a = c)] at j1
      rw [or_comm (a := b = c)] at j2
      have := line_cnt0 b a d c p q (by omega) n2 n1 n4 n3 m2 m1 k2 k1 k4 k3 j2 j1
      clear k1 k2 k3 k4 j1 j2 t1 t2
      omega
  rcases g with ⟨g1, g2, g3⟩ | ⟨g1, g2⟩ | ⟨g1, g2⟩
  · rw [if_pos g1, if_neg (by omega), if_pos g2, if_pos g3]
  · rw [if_neg (by omega), if_pos g1, if_pos g2]
  · rw [if_neg (by omega), if_neg (by omega), if_neg (by omega), if_neg (by omega)]

theorem ite_bool (b : Bool) (p : Prop) [Decidable p] (x y : Int) (h : b = true ↔ p) : (if b = true then x else y) = if p then x else y := by
  by_cases k : p
  · rw [if_pos k, if_pos (h.2 k)]
  · rw [if_neg k, if_neg (fun m => k (h.1 m))]

theorem lin_cls {ax ay bx b_y cx cy dx dy : Int} (hab : ¬ (ax = bx ∧ ay = b_y)) (hcd : ¬ (cx = dx ∧ cy = dy))
    (hs : (eqB ax ay cx cy && eqB bx b_y dx dy || eqB ax ay dx dy && eqB bx b_y cx cy) = false) (hA : crI ax ay bx b_y cx cy = 0) (hB : crI ax ay bx b_y dx dy = 0) :
    linI (ax, ay) (bx, b_y) (cx, cy) (dx, dy) = clsI ax ay bx b_y cx cy dx dy := by
  have La : inL ax ay bx b_y (ax, ay) := by unfold inL crI; grind
  have Lb : inL ax ay bx b_y (bx, b_y) := by unfold inL crI; grind
  have Lc : inL ax ay bx b_y (cx, cy) := hA
  have Ld : inL ax ay bx b_y (dx, dy) := hB
  obtain ⟨i1, i2, i3, i4⟩ := line_in hab La Lb
  obtain ⟨j1, j2, j3, j4⟩ := line_in hab Lc Ld
  obtain ⟨_, l1, _, l2⟩ := line_in hab i1 j1
  obtain ⟨h1, _, h2, _⟩ := line_in hab i2 j2
  have e1 : eqB (lowP (ax, ay) (bx, b_y) (cx, cy) (dx, dy)).1 (lowP (ax, ay) (bx, b_y) (cx, cy) (dx, dy)).2 (highP (ax, ay) (bx, b_y) (cx, cy) (dx, dy)).1 (highP (ax, ay) (bx, b_y) (cx, cy) (dx, dy)).2 = true ↔ _ := (eqB_iff _ _ _ _).trans (line_eq hab l1 h1).symm
  have e2 : lesB (lowP (ax, ay) (bx, b_y) (cx, cy) (dx, dy)).1 (lowP (ax, ay) (bx, b_y) (cx, cy) (dx, dy)).2 (highP (ax, ay) (bx, b_y) (cx, cy) (dx, dy)).1 (highP (ax, ay) (bx, b_y) (cx, cy) (dx, dy)).2 = true ↔ _ := line_les hab l1 h1
  have qac : eqB ax ay cx cy = true ↔ sc ax bx (ax, ay) = sc ax bx (cx, cy) := (eqB_iff _ _ _ _).trans (line_eq hab La Lc).symm
  have qad : eqB ax ay dx dy = true ↔ sc ax bx (ax, ay) = sc ax bx (dx, dy) := (eqB_iff _ _ _ _).trans (line_eq hab La Ld).symm
  have qbc : eqB bx b_y cx cy = true ↔ sc ax bx (bx, b_y) = sc ax bx (cx, cy) := (eqB_iff _ _ _ _).trans (line_eq hab Lb Lc).symm
  have qbd : eqB bx b_y dx dy = true ↔ sc ax bx (bx, b_y) = sc ax bx (dx, dy) := (eqB_iff _ _ _ _).trans (line_eq hab Lb Ld).symm
  have oa : onB cx cy dx dy ax ay = true ↔ _ := line_on hab Lc Ld La
  have ob : onB cx cy dx dy bx b_y = true ↔ _ := line_on hab Lc Ld Lb
  have oc : onB ax ay bx b_y cx cy = true ↔ _ := line_on hab La Lb Lc
  have od : onB ax ay bx b_y dx dy = true ↔ _ := line_on hab La Lb Ld
  have ne1 : sc ax bx (ax, ay) ≠ sc ax bx (bx, b_y) := fun k => hab ((line_eq hab La Lb).1 k)
  have ne2 : sc ax bx (cx, cy) ≠ sc ax bx (dx, dy) := fun k => hcd ((line_eq hab Lc Ld).1 k)
  unfold linI clsI
  rw [hs, hA, hB]
  simp only [Bool.false_eq_true, if_false, ne_eq, not_true, false_and]
  rw [ite_bool _ _ _ _ e1, ite_bool _ _ _ _ e2]
  refine line_count _ _ _ _ ne1 ne2 ?_ _ _ _ _ _ _ _ _ (l2.trans (by rw [i3, j3])) (h2.trans (by rw [i4, j4])) (bi_is _ _ oa) (bi_is _ _ ob) (bi_is _ _ oc) (bi_is _ _ od)
    (bi_is _ _ (by rw [Bool.and_eq_true, Bool.or_eq_true, oa, qac, qad])) (bi_is _ _ (by rw [Bool.and_eq_true, Bool.or_eq_true, ob, qbc, qbd]))
  intro k
  rw [← qac, ← qbd, ← qad, ← qbc] at k
  rw [← Bool.and_eq_true, ← Bool.and_eq_true, ← Bool.or_eq_true, hs] at k
  cases k

/-- As the code goes: of two segments, whose ends aren't the same. -/
def clsC (ax ay bx b_y cx cy dx dy : Int) : Int :=
  if eqB ax ay cx cy && eqB bx b_y dx dy || eqB ax ay dx dy && eqB bx b_y cx cy then 5
  else if crI ax ay bx b_y cx cy = 0 ∧ crI ax ay bx b_y dx dy = 0 then linI (ax, ay) (bx, b_y) (cx, cy) (dx, dy) else offI ax ay bx b_y cx cy dx dy
theorem cls_same {ax ay bx b_y cx cy dx dy : Int} (hab : ¬ (ax = bx ∧ ay = b_y)) (hcd : ¬ (cx = dx ∧ cy = dy)) : clsC ax ay bx b_y cx cy dx dy = clsI ax ay bx b_y cx cy dx dy := by
  unfold clsC
  cases hs : (eqB ax ay cx cy && eqB bx b_y dx dy || eqB ax ay dx dy && eqB bx b_y cx cy)
  · simp only [Bool.false_eq_true, if_false]
    split
    · rename_i h
      exact lin_cls hab hcd hs h.1 h.2
    · rename_i h
      exact off_cls hcd hs h
  · unfold clsI
    rw [hs]
    simp only [if_true]
end Go.Proofs.Ytkibjbbhiclkmaa
