/- Plain facts on rings: how often one goes round a point, by a ray to the right and by a ray that goes up. Nothing of the program. -/
import Derived.Test.YtkibjbbhiclkmaaGeo
namespace Go.Proofs.Ytkibjbbhiclkmaa

/-- What an edge counts by a ray to the right: its ends above or not, the point to its left or not. -/
def hW (ua ub lf : Bool) : Int := if ub == ua || ub != lf then 0 else if ub then 1 else -1
/-- .. and by a ray that goes up: its ends behind or not, the side's sign. -/
def vW (ba bb : Bool) (side : Int) : Int := if !ba && bb && decide (side < 0) then -1 else if ba && !bb && decide (0 < side) then 1 else 0
def qF (sx sy : Bool) : Int := if sx && sy then 1 else 0

theorem mul_sg (x v : Int) : (0 < x → 0 < v → 0 < x * v) ∧ (0 < x → v < 0 → x * v < 0) ∧ (x < 0 → 0 < v → x * v < 0) ∧ (x < 0 → v < 0 → 0 < x * v) ∧ (x = 0 → x * v = 0) ∧ (v = 0 → x * v = 0) := by
  refine ⟨fun h k => Int.mul_pos h k, fun h k => Int.mul_neg_of_pos_of_neg h k, fun h k => Int.mul_neg_of_neg_of_pos h k, fun h k => Int.mul_pos_of_neg_of_neg h k, fun h => by rw [h, Int.zero_mul], fun h => by rw [h, Int.mul_zero]⟩

set_option maxHeartbeats 4000000 in
/-- About (0,0): both rays count the same, but for what the first quadrant's ends tell. -/
theorem hv0 (x y u v : Int) (h : ¬ (x * v - u * y = 0 ∧ ((x ≤ 0 ∧ 0 ≤ u) ∨ (u ≤ 0 ∧ 0 ≤ x)) ∧ ((y ≤ 0 ∧ 0 ≤ v) ∨ (v ≤ 0 ∧ 0 ≤ y)))) :
    hW (decide (0 < y)) (decide (0 < v)) (decide (0 < x * v - u * y)) - vW (decide (0 < x)) (decide (0 < u)) (x * v - u * y) = qF (decide (0 < u)) (decide (0 < v)) - qF (decide (0 < x)) (decide (0 < y)) := by
  obtain ⟨a1, a2, a3, a4, a5, a6⟩ := mul_sg x v
  obtain ⟨b1, b2, b3, b4, b5, b6⟩ := mul_sg u y
  generalize x * v = m at *
  generalize u * y = n at *
  unfold hW vW qF
  by_cases h1 : 0 < x <;> by_cases h2 : 0 < y <;> by_cases h3 : 0 < u <;> by_cases h4 : 0 < v <;> by_cases h5 : 0 < m - n <;> by_cases h6 : m - n < 0 <;> simp [h1, h2, h3, h4, h6] <;> omega

/-- A number that is much greater tells the sign; else the little one does. -/
theorem big_sg (K X e : Int) (h1 : -K < e) (h2 : e < K) : (0 < K * X - e ↔ 0 < X ∨ (X = 0 ∧ e < 0)) ∧ (K * X - e < 0 ↔ X < 0 ∨ (X = 0 ∧ 0 < e)) := by
  rcases Int.lt_trichotomy X 0 with k | k | k
  · have := Int.mul_le_mul_of_nonneg_left (show X ≤ -1 by omega) (show (0 : Int) ≤ K by omega)
    omega
  · subst k; rw [Int.mul_zero]; omega
  · have := Int.mul_le_mul_of_nonneg_left (show 1 ≤ X by omega) (show (0 : Int) ≤ K by omega)
    omega

/-- Is a number greater than another one, that has moved a little? -/
def gtB (x at' e : Int) : Bool := decide (at' < x) || (decide (x = at') && decide (e < 0))
/-- A side, by the little way where it is none. -/
def sdI (s d : Int) : Int := if s = 0 then d else s
def ofQ (K e m x : Int) : Int := K * (x - m) - e
theorem gt_big (K e m x : Int) (h1 : -K < e) (h2 : e < K) : gtB x m e = decide (0 < ofQ K e m x) := by
  have := (big_sg K (x - m) e h1 h2).1
  unfold gtB ofQ
  rw [Bool.eq_iff_iff]
  simp
  omega
theorem vW_sg (a b : Bool) (s t : Int) (h1 : 0 < s ↔ 0 < t) (h2 : s < 0 ↔ t < 0) : vW a b s = vW a b t := by
  unfold vW; rw [decide_eq_decide.2 h1, decide_eq_decide.2 h2]
theorem vW_same (a : Bool) (s : Int) : vW a a s = 0 := by cases a <;> rfl
theorem hW_same (a l : Bool) : hW a a l = 0 := by cases a <;> cases l <;> rfl

/-- The doubled area of an edge with a point that has moved a little: by the edge's ends, twice as far. -/
theorem cross_big (K px py qx qy mx my ex ey : Int) : ofQ K ex mx px * ofQ K ey my qy - ofQ K ex mx qx * ofQ K ey my py = K * (K * crI px py qx qy mx my - (-((qx - px) * ey - (qy - py) * ex))) := by
  unfold ofQ crI; grind

/-- A way is nothing if it is along and across another one by nothing. -/
theorem no_way (dx dy vx vy : Int) (h1 : dx * vx + dy * vy = 0) (h2 : dx * vy - dy * vx = 0) (h : vx ≠ 0 ∨ vy ≠ 0) : dx = 0 ∧ dy = 0 := by
  have e1 : dx * (vx * vx + vy * vy) = 0 := by
    have : dx * (vx * vx + vy * vy) = vx * (dx * vx + dy * vy) + vy * (dx * vy - dy * vx) := by grind
    rw [this, h1, h2]; simp
  have e2 : dy * (vx * vx + vy * vy) = 0 := by
    have : dy * (vx * vx + vy * vy) = vy * (dx * vx + dy * vy) - vx * (dx * vy - dy * vx) := by grind
    rw [this, h1, h2]; simp
  have pos : vx * vx + vy * vy ≠ 0 := by
    have sq : ∀ z : Int, 0 ≤ z * z := fun z => by
      rcases Int.le_total 0 z with k | k
      · exact Int.mul_nonneg k k
      · exact Int.mul_nonneg_of_nonpos_of_nonpos k k
    have s1 := sq vx
    have s2 := sq vy
    rcases h with h | h
    · have := (mul_sg vx vx).1
      have := (mul_sg vx vx).2.2.2.1
      omega
    · have := (mul_sg vy vy).1
      have := (mul_sg vy vy).2.2.2.1
      omega
  exact ⟨(Int.mul_eq_zero.1 e1).resolve_right pos, (Int.mul_eq_zero.1 e2).resolve_right pos⟩

/-- About a point that has moved a little by a way: both rays count the same, but for what the first quadrant's ends tell. (p, q: the edge's ends, m: the point, e: the way; d: the way's side.) -/
theorem hvE (px py qx qy mx my ex ey : Int)
    (h : ¬ (crI px py qx qy mx my = 0 ∧ (qx - px) * ey - (qy - py) * ex = 0 ∧ betP px qx mx ∧ betP py qy my)) :
    hW (gtB py my ey) (gtB qy my ey) (decide (0 < sdI (crI px py qx qy mx my) ((qx - px) * ey - (qy - py) * ex)))
      - vW (gtB px mx ex) (gtB qx mx ex) (sdI (crI px py qx qy mx my) ((qx - px) * ey - (qy - py) * ex))
      = qF (gtB qx mx ex) (gtB qy my ey) - qF (gtB px mx ex) (gtB py my ey) := by
  have hK : ∃ K : Int, -K < ex ∧ ex < K ∧ -K < ey ∧ ey < K ∧ -K < -((qx - px) * ey - (qy - py) * ex) ∧ -((qx - px) * ey - (qy - py) * ex) < K ∧ 0 < K :=
    ⟨1 + ex.natAbs + ey.natAbs + ((qx - px) * ey - (qy - py) * ex).natAbs, by omega, by omega, by omega, by omega, by omega, by omega, by omega⟩
  obtain ⟨K, k1, k2, k3, k4, k5, k6, k7⟩ := hK
  rw [gt_big K ey my py k3 k4, gt_big K ey my qy k3 k4, gt_big K ex mx px k1 k2, gt_big K ex mx qx k1 k2]
  have hc := cross_big K px py qx qy mx my ex ey
  obtain ⟨g1, g2⟩ := big_sg K (crI px py qx qy mx my) (-((qx - px) * ey - (qy - py) * ex)) k5 k6
  have key : (0 < sdI (crI px py qx qy mx my) ((qx - px) * ey - (qy - py) * ex) ↔ 0 < ofQ K ex mx px * ofQ K ey my qy - ofQ K ex mx qx * ofQ K ey my py)
      ∧ (sdI (crI px py qx qy mx my) ((qx - px) * ey - (qy - py) * ex) < 0 ↔ ofQ K ex mx px * ofQ K ey my qy - ofQ K ex mx qx * ofQ K ey my py < 0)
      ∧ (ofQ K ex mx px * ofQ K ey my qy - ofQ K ex mx qx * ofQ K ey my py = 0 → crI px py qx qy mx my = 0 ∧ (qx - px) * ey - (qy - py) * ex = 0) := by
    rw [hc]
    generalize crI px py qx qy mx my = s at *
    generalize (qx - px) * ey - (qy - py) * ex = d at *
    obtain ⟨m1, _, _, _, m5, m6⟩ := mul_sg K (K * s - -d)
    have m2 := (mul_sg K (K * s - -d)).2.1
    generalize K * (K * s - -d) = z at *
    unfold sdI
    split <;> omega
  rw [vW_sg _ _ _ _ key.1 key.2.1, decide_eq_decide.2 key.1]
  apply hv0
  rintro ⟨z0, zx, zy⟩
  obtain ⟨c0, d0⟩ := key.2.2 z0
  refine h ⟨c0, d0, ?_, ?_⟩
  · have b1 := big_sg K (px - mx) ex k1 k2
    have b2 := big_sg K (qx - mx) ex k1 k2
    unfold ofQ at zx
    unfold betP
    omega
  · have b1 := big_sg K (py - my) ey k3 k4
    have b2 := big_sg K (qy - my) ey k3 k4
    unfold ofQ at zy
    unfold betP
    omega

/-- A sum over the first places. -/
def sm (f : Nat → Int) : Nat → Int
  | 0 => 0
  | k + 1 => sm f k + f k
theorem sm_congr {f g : Nat → Int} : ∀ {k : Nat}, (∀ i, i < k → f i = g i) → sm f k = sm g k
  | 0, _ => rfl
  | k + 1, h => by unfold sm; rw [sm_congr (fun i hi => h i (by omega)), h k (by omega)]
theorem sm_add (f g : Nat → Int) : ∀ k, sm (fun i => f i + g i) k = sm f k + sm g k
  | 0 => rfl
  | k + 1 => by unfold sm; rw [sm_add]; omega
theorem sm_sub (f g : Nat → Int) : ∀ k, sm (fun i => f i - g i) k = sm f k - sm g k
  | 0 => rfl
  | k + 1 => by unfold sm; rw [sm_sub]; omega
theorem sm_neg (f : Nat → Int) : ∀ k, sm (fun i => - f i) k = - sm f k
  | 0 => rfl
  | k + 1 => by unfold sm; rw [sm_neg]; omega
theorem sm_mul (c : Int) (f : Nat → Int) : ∀ k, sm (fun i => c * f i) k = c * sm f k
  | 0 => by simp [sm]
  | k + 1 => by unfold sm; rw [sm_mul, Int.mul_add]
theorem sm_in (f : Nat → Int) (M : Int) (h : ∀ i, -M ≤ f i ∧ f i ≤ M) : ∀ k : Nat, -(k * M) ≤ sm f k ∧ sm f k ≤ k * M
  | 0 => by simp [sm]
  | k + 1 => by
    have := sm_in f M h k
    have := h k
    have e : ((k + 1 : Nat) : Int) * M = k * M + M := by rw [Int.natCast_add, Int.add_mul]; simp
    unfold sm; omega
theorem sm_step (g : Nat → Int) : ∀ k, sm (fun i => g (i + 1) - g i) k = g k - g 0
  | 0 => by simp [sm]
  | k + 1 => by unfold sm; rw [sm_step g k]; omega
/-- Round a ring what each place has more than the next one comes to nothing. -/
theorem sm_round (g : Nat → Int) (n : Nat) : sm (fun i => g ((i + 1) % n) - g i) n = 0 := by
  cases n with
  | zero => rfl
  | succ n =>
    unfold sm
    rw [sm_congr (g := fun i => g (i + 1) - g i) (fun i hi => by rw [Nat.mod_eq_of_lt (by omega)]), sm_step, Nat.mod_self]
    omega
theorem sm_round_eq (f h g : Nat → Int) (n : Nat) (e : ∀ i, i < n → f i - h i = g ((i + 1) % n) - g i) : sm f n = sm h n := by
  have h1 := sm_round g n
  rw [← sm_congr e, sm_sub] at h1
  omega

/-- A doubled area by products. -/
theorem area_products (o a b : Int × Int) : crI o.1 o.2 a.1 a.2 b.1 b.2 - (a.1 * b.2 - b.1 * a.2) = (o.1 * a.2 - a.1 * o.2) - (o.1 * b.2 - b.1 * o.2) := by unfold crI; grind
theorem area_sum (P : Nat → Int × Int) (o : Int × Int) (n : Nat) :
    sm (fun i => crI o.1 o.2 (P i).1 (P i).2 (P ((i + 1) % n)).1 (P ((i + 1) % n)).2) n = sm (fun i => (P i).1 * (P ((i + 1) % n)).2 - (P ((i + 1) % n)).1 * (P i).2) n := by
  refine sm_round_eq _ _ (fun i => -(o.1 * (P i).2 - (P i).1 * o.2)) n (fun i _ => ?_)
  have := area_products o (P i) (P ((i + 1) % n))
  show _ = -(o.1 * (P ((i + 1) % n)).2 - (P ((i + 1) % n)).1 * o.2) - -(o.1 * (P i).2 - (P i).1 * o.2)
  omega

/-- The edge from p to q has the middle of the segment from a to b, and lies otherwise. -/
def hasP (px py qx qy ax ay bx b_y : Int) : Prop := betP (2 * px) (2 * qx) (ax + bx) ∧ betP (2 * py) (2 * qy) (ay + b_y) ∧ crI px py qx qy ax ay + crI px py qx qy bx b_y = 0 ∧ crI px py qx qy ax ay ≠ 0
def lfI (px py qx qy ax ay bx b_y : Int) : Bool := decide (0 < crI px py qx qy ax ay + crI px py qx qy bx b_y) || (decide (crI px py qx qy ax ay + crI px py qx qy bx b_y = 0) && decide (0 < (qx - px) * (bx - ax) + (qy - py) * (b_y - ay)))
theorem twice_cr (px py qx qy ax ay bx b_y : Int) : crI (2 * px) (2 * py) (2 * qx) (2 * qy) (ax + bx) (ay + b_y) = 2 * (crI px py qx qy ax ay + crI px py qx qy bx b_y) := by unfold crI; grind
theorem cr_less (px py qx qy ax ay bx b_y : Int) : crI px py qx qy bx b_y - crI px py qx qy ax ay = (qx - px) * (b_y - ay) - (qy - py) * (bx - ax) := by unfold crI; grind
theorem twice_al (px py qx qy ax ay bx b_y : Int) : (2 * qx - 2 * px) * (bx - ax) - (2 * qy - 2 * py) * (ay - b_y) = 2 * ((qx - px) * (bx - ax) + (qy - py) * (b_y - ay)) := by grind
theorem lf_side (px py qx qy ax ay bx b_y : Int) : lfI px py qx qy ax ay bx b_y = decide (0 < sdI (crI (2 * px) (2 * py) (2 * qx) (2 * qy) (ax + bx) (ay + b_y)) ((2 * qx - 2 * px) * (bx - ax) - (2 * qy - 2 * py) * (ay - b_y))) := by
  rw [twice_cr, twice_al]
  unfold lfI sdI
  generalize crI px py qx qy ax ay + crI px py qx qy bx b_y = n
  generalize (qx - px) * (bx - ax) + (qy - py) * (b_y - ay) = d
  rw [Bool.eq_iff_iff]
  simp
  split <;> omega
/-- The document's word for it. -/
theorem has_ref (px py qx qy ax ay bx b_y : Int) : hasP px py qx qy ax ay bx b_y ↔ ((2 * qx - 2 * px) * (b_y - ay) ≠ (2 * qy - 2 * py) * (bx - ax) ∧ onP (2 * px) (2 * py) (2 * qx) (2 * qy) (ax + bx) (ay + b_y)) := by
  have h1 := twice_cr px py qx qy ax ay bx b_y
  have h2 := cr_less px py qx qy ax ay bx b_y
  have h3 : (2 * qx - 2 * px) * (b_y - ay) = 2 * ((qx - px) * (b_y - ay)) := by grind
  have h4 : (2 * qy - 2 * py) * (bx - ax) = 2 * ((qy - py) * (bx - ax)) := by grind
  unfold hasP onP
  rw [h1, h3, h4]
  generalize crI px py qx qy ax ay = s at *
  generalize crI px py qx qy bx b_y = t at *
  generalize (qx - px) * (b_y - ay) = u at *
  generalize (qy - py) * (bx - ax) = v at *
  constructor
  · rintro ⟨k1, k2, k3, k4⟩; exact ⟨by omega, by omega, k1, k2⟩
  · rintro ⟨k1, k2, k3, k4⟩; exact ⟨k3, k4, by omega, by omega⟩
/-- Beside a segment both rays count the same, but for what the first quadrant's ends tell. -/
theorem bes_hv (px py qx qy ax ay bx b_y : Int) (hab : ax ≠ bx ∨ ay ≠ b_y) (h : ¬ hasP px py qx qy ax ay bx b_y) :
    hW (gtB (2 * py) (ay + b_y) (bx - ax)) (gtB (2 * qy) (ay + b_y) (bx - ax)) (lfI px py qx qy ax ay bx b_y)
      - vW (gtB (2 * px) (ax + bx) (ay - b_y)) (gtB (2 * qx) (ax + bx) (ay - b_y)) (sdI (crI (2 * px) (2 * py) (2 * qx) (2 * qy) (ax + bx) (ay + b_y)) ((2 * qx - 2 * px) * (bx - ax) - (2 * qy - 2 * py) * (ay - b_y)))
      = qF (gtB (2 * qx) (ax + bx) (ay - b_y)) (gtB (2 * qy) (ay + b_y) (bx - ax)) - qF (gtB (2 * px) (ax + bx) (ay - b_y)) (gtB (2 * py) (ay + b_y) (bx - ax)) := by
  by_cases hpq : px = qx ∧ py = qy
  · obtain ⟨rfl, rfl⟩ := hpq
    rw [hW_same, vW_same]; omega
  · rw [lf_side]
    refine hvE (2 * px) (2 * py) (2 * qx) (2 * qy) (ax + bx) (ay + b_y) (ay - b_y) (bx - ax) ?_
    rintro ⟨c0, d0, b1, b2⟩
    rw [twice_cr] at c0
    rw [twice_al] at d0
    refine h ⟨b1, b2, by omega, fun k => ?_⟩
    have := cr_less px py qx qy ax ay bx b_y
    have := no_way (qx - px) (qy - py) (bx - ax) (b_y - ay) (by omega) (by omega) (by omega)
    omega
/-- .. and about a point on no edge. -/
theorem win_hv (px py qx qy mx my : Int) (h : ¬ onP px py qx qy mx my) :
    hW (decide (my < py)) (decide (my < qy)) (decide (0 < crI px py qx qy mx my)) - vW (decide (mx < px)) (decide (mx < qx)) (crI px py qx qy mx my)
      = qF (decide (mx < qx)) (decide (my < qy)) - qF (decide (mx < px)) (decide (my < py)) := by
  have e : crI px py qx qy mx my = (px - mx) * (qy - my) - (qx - mx) * (py - my) := by unfold crI; grind
  have d : ∀ a b : Int, decide (a < b) = decide (0 < b - a) := fun a b => decide_eq_decide.2 (by omega)
  rw [d my py, d my qy, d mx px, d mx qx, e]
  refine hv0 _ _ _ _ ?_
  rintro ⟨c0, b1, b2⟩
  refine h ⟨by rw [e]; exact c0, ?_, ?_⟩ <;> (unfold betP; omega)
end Go.Proofs.Ytkibjbbhiclkmaa
