/- Plain facts on how two segments lie. Nothing of the program. -/
import Derived.Test.YtkibjbbhiclkmaaGeo
namespace Go.Proofs.Ytkibjbbhiclkmaa

instance (a b v : Int) : Decidable (betP a b v) := by unfold betP; infer_instance
instance (ax ay bx b_y px py : Int) : Decidable (onP ax ay bx b_y px py) := by unfold onP; infer_instance
def onB (ax ay bx b_y px py : Int) : Bool := decide (onP ax ay bx b_y px py)
def eqB (ax ay bx b_y : Int) : Bool := decide (ax = bx ∧ ay = b_y)
theorem eqB_iff (ax ay bx b_y : Int) : eqB ax ay bx b_y = true ↔ ax = bx ∧ ay = b_y := by simp [eqB]
theorem onB_iff (ax ay bx b_y px py : Int) : onB ax ay bx b_y px py = true ↔ onP ax ay bx b_y px py := by simp [onB]
def bi (b : Bool) : Int := if b then 1 else 0

theorem par {u1 u2 v1 v2 w1 w2 : Int} (hu : ¬ (u1 = 0 ∧ u2 = 0)) (h1 : u1 * v2 = u2 * v1) (h2 : u1 * w2 = u2 * w1) : v1 * w2 = v2 * w1 := by
  have e1 : u1 * (v1 * w2 - v2 * w1) = 0 := by grind
  have e2 : u2 * (v1 * w2 - v2 * w1) = 0 := by grind
  rcases Int.mul_eq_zero.1 e1 with k | k
  · rcases Int.mul_eq_zero.1 e2 with m | m
    · exact absurd ⟨k, m⟩ hu
    · omega
  · omega
/-- Two lines that both go through a and c are one. -/
theorem meet {ax ay bx b_y cx cy dx dy : Int} (h : ¬ (ax = cx ∧ ay = cy)) (hA : crI ax ay bx b_y cx cy = 0) (hC : crI cx cy dx dy ax ay = 0) : crI ax ay bx b_y dx dy = 0 := by
  unfold crI at *
  have := par (u1 := cx - ax) (u2 := cy - ay) (v1 := bx - ax) (v2 := b_y - ay) (w1 := dx - ax) (w2 := dy - ay) (by omega) (by grind) (by grind)
  omega
theorem diff4 (ax ay bx b_y cx cy dx dy : Int) : crI ax ay bx b_y dx dy - crI ax ay bx b_y cx cy = crI cx cy dx dy ax ay - crI cx cy dx dy bx b_y := by
  unfold crI; grind
theorem both_on {ax ay bx b_y cx cy dx dy : Int} (h : ¬ (cx = dx ∧ cy = dy)) (hC : crI cx cy dx dy ax ay = 0) (hD : crI cx cy dx dy bx b_y = 0) : crI ax ay bx b_y cx cy = 0 ∧ crI ax ay bx b_y dx dy = 0 := by
  have e := diff4 ax ay bx b_y cx cy dx dy
  have hA : crI ax ay bx b_y cx cy = 0 := by
    unfold crI at *
    have := par (u1 := dx - cx) (u2 := dy - cy) (v1 := ax - cx) (v2 := ay - cy) (w1 := bx - cx) (w2 := b_y - cy) (by omega) (by omega) (by omega)
    grind
  exact ⟨hA, by omega⟩

theorem sgn3 (v u C D : Int) (h : v * C = u * D) (huv : (0 < u ∧ 0 < v) ∨ (u < 0 ∧ v < 0)) : (0 < C ↔ 0 < D) ∧ (C < 0 ↔ D < 0) := by
  have key : ∀ (v u C D : Int), 0 < u → 0 < v → v * C = u * D → (0 < C → 0 < D) ∧ (C < 0 → D < 0) := by
    intro v u C D hu hv h
    constructor
    · intro hc
      have : 0 < u * D := by rw [← h]; exact Int.mul_pos hv hc
      rcases Int.lt_or_le 0 D with k | k
      · exact k
      · have := Int.mul_nonpos_of_nonneg_of_nonpos (Int.le_of_lt hu) k; omega
    · intro hc
      have : u * D < 0 := by rw [← h]; exact Int.mul_neg_of_pos_of_neg hv hc
      rcases Int.lt_or_le D 0 with k | k
      · exact k
      · have := Int.mul_nonneg (Int.le_of_lt hu) k; omega
  rcases huv with ⟨hu, hv⟩ | ⟨hu, hv⟩
  · have k1 := key v u C D hu hv h
    have k2 := key u v D C hv hu h.symm
    exact ⟨⟨k1.1, k2.1⟩, ⟨k1.2, k2.2⟩⟩
  · have h' : (-v) * C = (-u) * D := by rw [Int.neg_mul, Int.neg_mul, h]
    have k1 := key (-v) (-u) C D (by omega) (by omega) h'
    have k2 := key (-u) (-v) D C (by omega) (by omega) h'.symm
    exact ⟨⟨k1.1, k2.1⟩, ⟨k1.2, k2.2⟩⟩
/-- c on the line through a and b, but not between them: a and b lie on one side of whatever line goes through c. -/
theorem same_side {ax ay bx b_y cx cy dx dy : Int} (hA : crI ax ay bx b_y cx cy = 0) (hn : ¬ onP ax ay bx b_y cx cy) :
    (0 < crI cx cy dx dy ax ay ↔ 0 < crI cx cy dx dy bx b_y) ∧ (crI cx cy dx dy ax ay < 0 ↔ crI cx cy dx dy bx b_y < 0) := by
  have hb : ¬ (betP ax bx cx ∧ betP ay b_y cy) := fun k => hn ⟨hA, k⟩
  by_cases hx : betP ax bx cx
  · have hy : ¬ betP ay b_y cy := fun k => hb ⟨hx, k⟩
    exact sgn3 (b_y - cy) (ay - cy) _ _ (by unfold crI at *; grind) (by unfold betP at hy; omega)
  · exact sgn3 (bx - cx) (ax - cx) _ _ (by unfold crI at *; grind) (by unfold betP at hx; omega)

/-- Signs. -/
def sg (n : Int) : Int := if 0 < n then 1 else if n < 0 then -1 else 0
theorem sg_eq {m n : Int} : sg m = sg n ↔ ((0 < m ↔ 0 < n) ∧ (m < 0 ↔ n < 0)) := by unfold sg; split <;> split <;> (try split) <;> (try split) <;> omega
theorem sg_mul_neg (m n : Int) : decide (sg m * sg n < 0) = (decide ((0 < m ∧ n < 0) ∨ (m < 0 ∧ 0 < n))) := by
  unfold sg; split <;> split <;> (try split) <;> (try split) <;> simp <;> omega

/-- How two segments lie, by counting ends. -/
def clsI (ax ay bx b_y cx cy dx dy : Int) : Int :=
  if eqB ax ay cx cy && eqB bx b_y dx dy || eqB ax ay dx dy && eqB bx b_y cx cy then 5 else
  let both := bi (onB cx cy dx dy ax ay && (eqB ax ay cx cy || eqB ax ay dx dy)) + bi (onB cx cy dx dy bx b_y && (eqB bx b_y cx cy || eqB bx b_y dx dy))
  let pts := bi (onB cx cy dx dy ax ay) + bi (onB cx cy dx dy bx b_y) + (bi (onB ax ay bx b_y cx cy) + bi (onB ax ay bx b_y dx dy)) - both
  if 1 < pts then 4 else if pts = 1 then (if both = 1 then 1 else 2)
  else if sg (crI ax ay bx b_y cx cy) ≠ sg (crI ax ay bx b_y dx dy) ∧ sg (crI cx cy dx dy ax ay) ≠ sg (crI cx cy dx dy bx b_y) then 3 else 0
/-- Off one line: as the code goes. -/
def offI (ax ay bx b_y cx cy dx dy : Int) : Int :=
  if eqB ax ay cx cy || eqB ax ay dx dy || eqB bx b_y cx cy || eqB bx b_y dx dy then 1
  else if onB ax ay bx b_y cx cy || onB ax ay bx b_y dx dy || onB cx cy dx dy ax ay || onB cx cy dx dy bx b_y then 2
  else if decide (sg (crI ax ay bx b_y cx cy) * sg (crI ax ay bx b_y dx dy) < 0) && decide (sg (crI cx cy dx dy ax ay) * sg (crI cx cy dx dy bx b_y) < 0) then 3 else 0

theorem on_a (ax ay bx b_y : Int) : onP ax ay bx b_y ax ay := ⟨by unfold crI; grind, by unfold betP; omega, by unfold betP; omega⟩
theorem on_b (ax ay bx b_y : Int) : onP ax ay bx b_y bx b_y := ⟨by unfold crI; grind, by unfold betP; omega, by unfold betP; omega⟩

theorem off_count0 : ∀ (pa pb pc pd eac ead ebc ebd : Bool),
    ((!eac || (pa && pc)) && (!ead || (pa && pd)) && (!ebc || (pb && pc)) && (!ebd || (pb && pd)) && !(pa && pb) && !(pc && pd) && (!(pa && pc) || eac) && (!(pa && pd) || ead) && (!(pb && pc) || ebc) && (!(pb && pd) || ebd) && !(eac && ebd || ead && ebc) && (pc || pd || pa || pb)) = true →
    ((eac || ead || ebc || ebd) && decide (bi pa + bi pb + (bi pc + bi pd) - (bi (pa && (eac || ead)) + bi (pb && (ebc || ebd))) = 1) && decide (bi (pa && (eac || ead)) + bi (pb && (ebc || ebd)) = 1) ||
      !(eac || ead || ebc || ebd) && decide (bi pa + bi pb + (bi pc + bi pd) - (bi (pa && (eac || ead)) + bi (pb && (ebc || ebd))) = 1) && decide (bi (pa && (eac || ead)) + bi (pb && (ebc || ebd)) = 0)) = true := by decide
theorem imp1 {a b c : Bool} (h : a = true → b = true ∧ c = true) : (!a || (b && c)) = true := by cases a <;> simp_all
theorem imp2 {a b : Bool} (h : a = true → b = true → False) : (!(a && b)) = true := by cases a <;> cases b <;> simp_all
theorem imp3 {a b c : Bool} (h : a = true → b = true → c = true) : (!(a && b) || c) = true := by cases a <;> cases b <;> simp_all
theorem off_count (pa pb pc pd eac ead ebc ebd : Bool) (x y : Int) (f1 : eac = true → pa = true ∧ pc = true) (f2 : ead = true → pa = true ∧ pd = true) (f3 : ebc = true → pb = true ∧ pc = true) (f4 : ebd = true → pb = true ∧ pd = true)
    (g1 : pa = true → pb = true → False) (g2 : pc = true → pd = true → False) (g3 : pa = true → pc = true → eac = true) (g4 : pa = true → pd = true → ead = true) (g5 : pb = true → pc = true → ebc = true) (g6 : pb = true → pd = true → ebd = true)
    (hs : (eac && ebd || ead && ebc) = false) (hon : (pc || pd || pa || pb) = true) :
    (if (eac || ead || ebc || ebd) = true then 1 else if (pc || pd || pa || pb) = true then 2 else x) =
    (if 1 < bi pa + bi pb + (bi pc + bi pd) - (bi (pa && (eac || ead)) + bi (pb && (ebc || ebd))) then 4
      else if bi pa + bi pb + (bi pc + bi pd) - (bi (pa && (eac || ead)) + bi (pb && (ebc || ebd))) = 1 then (if bi (pa && (eac || ead)) + bi (pb && (ebc || ebd)) = 1 then 1 else 2) else y) := by
  have key := off_count0 pa pb pc pd eac ead ebc ebd (by
    rw [imp1 f1, imp1 f2, imp1 f3, imp1 f4, imp2 g1, imp2 g2, imp3 g3, imp3 g4, imp3 g5, imp3 g6, hs, hon]; rfl)
  simp only [Bool.or_eq_true, Bool.and_eq_true, decide_eq_true_eq, Bool.not_eq_true'] at key
  rcases key with ⟨⟨k1, k2⟩, k3⟩ | ⟨⟨k1, k2⟩, k3⟩
  · rw [k2, k3]
    have : (eac || ead || ebc || ebd) = true := by simpa only [Bool.or_eq_true] using k1
    rw [this]; rfl
  · rw [k1, k2, k3, hon]; rfl

set_option maxHeartbeats 1000000 in
theorem off_cls {ax ay bx b_y cx cy dx dy : Int} (hcd : ¬ (cx = dx ∧ cy = dy))
    (hs : (eqB ax ay cx cy && eqB bx b_y dx dy || eqB ax ay dx dy && eqB bx b_y cx cy) = false) (hl : ¬ (crI ax ay bx b_y cx cy = 0 ∧ crI ax ay bx b_y dx dy = 0)) :
    offI ax ay bx b_y cx cy dx dy = clsI ax ay bx b_y cx cy dx dy := by
  unfold offI clsI
  rw [hs]
  simp only [Bool.false_eq_true, if_false]
  -- what is known of the eight
  have f1 : eqB ax ay cx cy = true → onB cx cy dx dy ax ay = true ∧ onB ax ay bx b_y cx cy = true := by
    rw [eqB_iff, onB_iff, onB_iff]; rintro ⟨rfl, rfl⟩; exact ⟨on_a _ _ _ _, on_a _ _ _ _⟩
  have f2 : eqB ax ay dx dy = true → onB cx cy dx dy ax ay = true ∧ onB ax ay bx b_y dx dy = true := by
    rw [eqB_iff, onB_iff, onB_iff]; rintro ⟨rfl, rfl⟩; exact ⟨on_b _ _ _ _, on_a _ _ _ _⟩
  have f3 : eqB bx b_y cx cy = true → onB cx cy dx dy bx b_y = true ∧ onB ax ay bx b_y cx cy = true := by
    rw [eqB_iff, onB_iff, onB_iff]; rintro ⟨rfl, rfl⟩; exact ⟨on_a _ _ _ _, on_b _ _ _ _⟩
  have f4 : eqB bx b_y dx dy = true → onB cx cy dx dy bx b_y = true ∧ onB ax ay bx b_y dx dy = true := by
    rw [eqB_iff, onB_iff, onB_iff]; rintro ⟨rfl, rfl⟩; exact ⟨on_b _ _ _ _, on_b _ _ _ _⟩
  have g1 : onB cx cy dx dy ax ay = true → onB cx cy dx dy bx b_y = true → False := by
    rw [onB_iff, onB_iff]; intro p q; exact hl (both_on hcd p.1 q.1)
  have g2 : onB ax ay bx b_y cx cy = true → onB ax ay bx b_y dx dy = true → False := by
    rw [onB_iff, onB_iff]; intro p q; exact hl ⟨p.1, q.1⟩
  have g3 : onB cx cy dx dy ax ay = true → onB ax ay bx b_y cx cy = true → eqB ax ay cx cy = true := by
    rw [onB_iff, onB_iff, eqB_iff]; intro p q
    by_cases k : ax = cx ∧ ay = cy
    · exact k
    · exact absurd ⟨q.1, meet k q.1 p.1⟩ hl
  have g4 : onB cx cy dx dy ax ay = true → onB ax ay bx b_y dx dy = true → eqB ax ay dx dy = true := by
    rw [onB_iff, onB_iff, eqB_iff]; intro p q
    by_cases k : ax = dx ∧ ay = dy
    · exact k
    · exact absurd ⟨meet k q.1 (by rw [crI_flip]; have := p.1; omega), q.1⟩ hl
  have g5 : onB cx cy dx dy bx b_y = true → onB ax ay bx b_y cx cy = true → eqB bx b_y cx cy = true := by
    rw [onB_iff, onB_iff, eqB_iff]; intro p q
    by_cases k : bx = cx ∧ b_y = cy
    · exact k
    · have := meet k (show crI bx b_y ax ay cx cy = 0 by rw [crI_flip]; have := q.1; omega) p.1
      rw [crI_flip] at this
      exact absurd ⟨q.1, by omega⟩ hl
  have g6 : onB cx cy dx dy bx b_y = true → onB ax ay bx b_y dx dy = true → eqB bx b_y dx dy = true := by
    rw [onB_iff, onB_iff, eqB_iff]; intro p q
    by_cases k : bx = dx ∧ b_y = dy
    · exact k
    · have := meet k (show crI bx b_y ax ay dx dy = 0 by rw [crI_flip]; have := q.1; omega) (show crI dx dy cx cy bx b_y = 0 by rw [crI_flip]; have := p.1; omega)
      rw [crI_flip] at this
      exact absurd ⟨by omega, q.1⟩ hl
  by_cases hon : (onB ax ay bx b_y cx cy || onB ax ay bx b_y dx dy || onB cx cy dx dy ax ay || onB cx cy dx dy bx b_y) = true
  · generalize onB ax ay bx b_y cx cy = pc at *
    generalize onB ax ay bx b_y dx dy = pd at *
    generalize onB cx cy dx dy ax ay = pa at *
    generalize onB cx cy dx dy bx b_y = pb at *
    generalize eqB ax ay cx cy = eac at *
    generalize eqB ax ay dx dy = ead at *
    generalize eqB bx b_y cx cy = ebc at *
    generalize eqB bx b_y dx dy = ebd at *
    exact off_count pa pb pc pd eac ead ebc ebd _ _ f1 f2 f3 f4 g1 g2 g3 g4 g5 g6 hs hon
  · have z1 : onB ax ay bx b_y cx cy = false := by cases h : onB ax ay bx b_y cx cy <;> simp_all
    have z2 : onB ax ay bx b_y dx dy = false := by cases h : onB ax ay bx b_y dx dy <;> simp_all
    have z3 : onB cx cy dx dy ax ay = false := by cases h : onB cx cy dx dy ax ay <;> simp_all
    have z4 : onB cx cy dx dy bx b_y = false := by cases h : onB cx cy dx dy bx b_y <;> simp_all
    have e1 : eqB ax ay cx cy = false := by cases h : eqB ax ay cx cy <;> simp_all
    have e2 : eqB ax ay dx dy = false := by cases h : eqB ax ay dx dy <;> simp_all
    have e3 : eqB bx b_y cx cy = false := by cases h : eqB bx b_y cx cy <;> simp_all
    have e4 : eqB bx b_y dx dy = false := by cases h : eqB bx b_y dx dy <;> simp_all
    rw [sg_mul_neg, sg_mul_neg]
    have n1 : ¬ onP ax ay bx b_y cx cy := fun k => by rw [(onB_iff _ _ _ _ _ _).2 k] at z1; cases z1
    have n2 : ¬ onP ax ay bx b_y dx dy := fun k => by rw [(onB_iff _ _ _ _ _ _).2 k] at z2; cases z2
    have n3 : ¬ onP cx cy dx dy ax ay := fun k => by rw [(onB_iff _ _ _ _ _ _).2 k] at z3; cases z3
    have n4 : ¬ onP cx cy dx dy bx b_y := fun k => by rw [(onB_iff _ _ _ _ _ _).2 k] at z4; cases z4
    have s1 := fun h => same_side (dx := dx) (dy := dy) h n1
    have s2 := fun h => same_side (dx := cx) (dy := cy) h n2
    have s3 := fun h => same_side (dx := bx) (dy := b_y) h n3
    have s4 := fun h => same_side (dx := ax) (dy := ay) h n4
    rw [crI_flip cx cy dx dy, crI_flip cx cy dx dy] at s2
    rw [crI_flip ax ay bx b_y, crI_flip ax ay bx b_y] at s4
    rw [z1, z2, z3, z4, e1, e2, e3, e4]
    simp only [bi, Bool.or_false, Bool.false_and, Bool.false_eq_true, if_false, ne_eq, sg_eq, Bool.and_eq_true, decide_eq_true_eq]
    rw [if_neg (show ¬ ((1 : Int) < 0 + 0 + (0 + 0) - (0 + 0)) by decide), if_neg (show ¬ ((0 : Int) + 0 + (0 + 0) - (0 + 0) = 1) by decide)]
    have : ∀ p q : Prop, [Decidable p] → [Decidable q] → (p ↔ q) → (if p then (3 : Int) else 0) = if q then 3 else 0 := by
      intro p q _ _ h
      by_cases hp : p
      · rw [if_pos hp, if_pos (h.1 hp)]
      · rw [if_neg hp, if_neg (fun k => hp (h.2 k))]
    refine this _ _ ?_
    generalize crI ax ay bx b_y cx cy = A at *
    generalize crI ax ay bx b_y dx dy = B at *
    generalize crI cx cy dx dy ax ay = C at *
    generalize crI cx cy dx dy bx b_y = D at *
    clear f1 f2 f3 f4 g1 g2 g3 g4 g5 g6 hs hon this n1 n2 n3 n4
    by_cases hA : A = 0
    · have := s1 hA; omega
    · by_cases hB : B = 0
      · have := s2 hB; omega
      · by_cases hC : C = 0
        · have := s3 hC; omega
        · by_cases hD : D = 0
          · have := s4 hD; omega
          · omega
end Go.Proofs.Ytkibjbbhiclkmaa
