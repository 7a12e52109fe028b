/- Plain facts on rings that are moved, scaled, turned or begun elsewhere. Nothing of the program but what its calls answer. -/
import Derived.Test.YtkibjbbhiclkmaaBesEq
import Derived.Test.YtkibjbbhiclkmaaCut3
namespace Go.Proofs.Ytkibjbbhiclkmaa

/-- k times as great, and moved. -/
def tr (k u v : Int) (a : Int × Int) : Int × Int := (k * a.1 + u, k * a.2 + v)
def few (k : Int) : Prop := k = 1 ∨ k = 2 ∨ k = 3
theorem tr_cr (k u v : Int) (a b c : Int × Int) : crI (tr k u v a).1 (tr k u v a).2 (tr k u v b).1 (tr k u v b).2 (tr k u v c).1 (tr k u v c).2 = k * k * crI a.1 a.2 b.1 b.2 c.1 c.2 := by
  unfold tr crI; grind
theorem tr_onP {k u v : Int} (hk : few k) (a b c : Int × Int) : onP (tr k u v a).1 (tr k u v a).2 (tr k u v b).1 (tr k u v b).2 (tr k u v c).1 (tr k u v c).2 ↔ onP a.1 a.2 b.1 b.2 c.1 c.2 := by
  have h := tr_cr k u v a b c
  unfold onP
  rw [h]
  generalize crI a.1 a.2 b.1 b.2 c.1 c.2 = s
  unfold betP tr
  dsimp only
  rcases hk with rfl | rfl | rfl <;> omega
theorem tr_onI {k u v : Int} (hk : few k) (a b c : Int × Int) : onI (tr k u v a).1 (tr k u v a).2 (tr k u v b).1 (tr k u v b).2 (tr k u v c).1 (tr k u v c).2 = onI a.1 a.2 b.1 b.2 c.1 c.2 := by
  rw [onI_B, onI_B, Bool.eq_iff_iff, onB_iff, onB_iff]; exact tr_onP hk a b c
theorem tr_onB {k u v : Int} (hk : few k) (a b c : Int × Int) : onB (tr k u v a).1 (tr k u v a).2 (tr k u v b).1 (tr k u v b).2 (tr k u v c).1 (tr k u v c).2 = onB a.1 a.2 b.1 b.2 c.1 c.2 := by
  rw [Bool.eq_iff_iff, onB_iff, onB_iff]; exact tr_onP hk a b c
theorem tr_eqB {k u v : Int} (hk : few k) (a b : Int × Int) : eqB (tr k u v a).1 (tr k u v a).2 (tr k u v b).1 (tr k u v b).2 = eqB a.1 a.2 b.1 b.2 := by
  unfold eqB tr
  rw [decide_eq_decide]
  dsimp only
  rcases hk with rfl | rfl | rfl <;> omega
theorem tr_sg {k : Int} (hk : few k) (s : Int) : sg (k * k * s) = sg s := by
  unfold sg
  rcases hk with rfl | rfl | rfl <;> (split <;> split <;> (try split) <;> (try split) <;> omega)
theorem tr_cls {k u v : Int} (hk : few k) (a b c d : Int × Int) : clsI (tr k u v a).1 (tr k u v a).2 (tr k u v b).1 (tr k u v b).2 (tr k u v c).1 (tr k u v c).2 (tr k u v d).1 (tr k u v d).2 = clsI a.1 a.2 b.1 b.2 c.1 c.2 d.1 d.2 := by
  unfold clsI; simp only [tr_onB hk, tr_eqB hk, tr_cr, tr_sg hk]
theorem tr_rab {k u v : Int} (hk : few k) (a b p : Int × Int) : rabV (tr k u v a) (tr k u v b) (tr k u v p) = rabV a b p := by
  unfold rabV
  rw [tr_cr]
  generalize crI a.1 a.2 b.1 b.2 p.1 p.2 = s
  have h : ∀ x y : Int × Int, decide ((tr k u v x).1 < (tr k u v y).1) = decide (x.1 < y.1) := by
    intro x y
    rw [decide_eq_decide]
    unfold tr
    dsimp only
    rcases hk with rfl | rfl | rfl <;> omega
  rw [h, h]
  apply vW_sg
  · rcases hk with rfl | rfl | rfl <;> omega
  · rcases hk with rfl | rfl | rfl <;> omega
theorem tr_rabl (u v : Int) (a b p q : Int × Int) : rablV (d2 (tr 1 u v p)) (d2 (tr 1 u v q)) (midp (tr 1 u v a) (tr 1 u v b)) ((tr 1 u v a).2 - (tr 1 u v b).2, (tr 1 u v b).1 - (tr 1 u v a).1) = rablV (d2 p) (d2 q) (midp a b) (a.2 - b.2, b.1 - a.1) := by
  unfold rablV
  have e1 : crI (d2 (tr 1 u v p)).1 (d2 (tr 1 u v p)).2 (d2 (tr 1 u v q)).1 (d2 (tr 1 u v q)).2 (midp (tr 1 u v a) (tr 1 u v b)).1 (midp (tr 1 u v a) (tr 1 u v b)).2 = crI (d2 p).1 (d2 p).2 (d2 q).1 (d2 q).2 (midp a b).1 (midp a b).2 := by
    unfold crI d2 midp tr; grind
  rw [e1]
  have e2 : ∀ x e : Int × Int, gtB (d2 (tr 1 u v x)).1 (midp (tr 1 u v a) (tr 1 u v b)).1 e.1 = gtB (d2 x).1 (midp a b).1 e.1 := by
    intro x e
    unfold gtB d2 midp tr
    dsimp only
    rw [Bool.eq_iff_iff]
    simp
    omega
  have e3 : ((tr 1 u v a).2 - (tr 1 u v b).2, (tr 1 u v b).1 - (tr 1 u v a).1) = (a.2 - b.2, b.1 - a.1) := by
    unfold tr; dsimp only; congr 1 <;> omega
  rw [e3, e2, e2]
  have e4 : (d2 (tr 1 u v q)).1 - (d2 (tr 1 u v p)).1 = (d2 q).1 - (d2 p).1 := by unfold d2 tr; dsimp only; omega
  have e5 : (d2 (tr 1 u v q)).2 - (d2 (tr 1 u v p)).2 = (d2 q).2 - (d2 p).2 := by unfold d2 tr; dsimp only; omega
  rw [e4, e5]
theorem tr_rbH (u v : Int) (a b p q : Int × Int) : rbH (tr 1 u v a) (tr 1 u v b) (tr 1 u v p) (tr 1 u v q) = rbH a b p q := by
  have e1 : ∀ x y : Int × Int, (tr 1 u v x).1 - (tr 1 u v y).1 = x.1 - y.1 := by intro x y; unfold tr; dsimp only; omega
  have e2 : ∀ x y : Int × Int, (tr 1 u v x).2 - (tr 1 u v y).2 = x.2 - y.2 := by intro x y; unfold tr; dsimp only; omega
  have e3 : ∀ x y : Int × Int, 2 * (tr 1 u v x).1 - 2 * (tr 1 u v y).1 = 2 * x.1 - 2 * y.1 := by intro x y; unfold tr; dsimp only; omega
  have e4 : ∀ x y : Int × Int, 2 * (tr 1 u v x).2 - 2 * (tr 1 u v y).2 = 2 * x.2 - 2 * y.2 := by intro x y; unfold tr; dsimp only; omega
  have e5 := tr_onI (k := 1) (u := 2 * u) (v := 2 * v) (Or.inl rfl) (2 * p.1, 2 * p.2) (2 * q.1, 2 * q.2) (a.1 + b.1, a.2 + b.2)
  have e6 : onI (2 * (tr 1 u v p).1) (2 * (tr 1 u v p).2) (2 * (tr 1 u v q).1) (2 * (tr 1 u v q).2) ((tr 1 u v a).1 + (tr 1 u v b).1) ((tr 1 u v a).2 + (tr 1 u v b).2) = onI (2 * p.1) (2 * p.2) (2 * q.1) (2 * q.2) (a.1 + b.1) (a.2 + b.2) := by
    rw [← e5]
    congr 1 <;> (unfold tr; dsimp only; omega)
  unfold rbH
  rw [e1, e2, e3, e4, e6]

/-- Sums over edges, and edges that are somehow. -/
def esum (F : Int × Int → Int × Int → Int) (L : List (Int × Int)) : Int := sm (fun i => F (ptA L i) (nxA L i)) L.length
def eex (H : Int × Int → Int × Int → Bool) (L : List (Int × Int)) : Prop := ∃ i, i < L.length ∧ H (ptA L i) (nxA L i) = true
theorem rwE_es (L : List (Int × Int)) (p : Int × Int) : sm (rwE L p) L.length = esum (fun a b => rabV a b p) L := rfl
theorem onE_ex (L : List (Int × Int)) (p : Int × Int) : (∃ i, i < L.length ∧ onE L p i = true) ↔ eex (fun a b => onI a.1 a.2 b.1 b.2 p.1 p.2) L := Iff.rfl
theorem rbE_es (L : List (Int × Int)) (a b : Int × Int) : sm (rbE L a b) L.length = esum (fun p q => rablV (d2 p) (d2 q) (midp a b) (a.2 - b.2, b.1 - a.1)) L := rfl
theorem rhE_ex (L : List (Int × Int)) (a b : Int × Int) : (∃ i, i < L.length ∧ rhE L a b i = true) ↔ eex (rbH a b) L := Iff.rfl
theorem raE_es (L : List (Int × Int)) : sm (raE L) L.length = esum (fun a b => a.1 * b.2 - b.1 * a.2) L := rfl

theorem pt_map (T : Int × Int → Int × Int) (L : List (Int × Int)) {i : Nat} (h : i < L.length) : ptA (L.map T) i = T (ptA L i) := by
  rw [ptA_at h, ptA_at (by rw [List.length_map]; exact h), List.getElem_map]
theorem nx_map (T : Int × Int → Int × Int) (L : List (Int × Int)) {i : Nat} (h : i < L.length) : nxA (L.map T) i = T (nxA L i) := by
  unfold nxA
  rw [List.length_map]
  exact pt_map T L (Nat.mod_lt _ (by omega))
theorem esum_map (T : Int × Int → Int × Int) (F G : Int × Int → Int × Int → Int) (h : ∀ a b, F (T a) (T b) = G a b) (L : List (Int × Int)) : esum F (L.map T) = esum G L := by
  unfold esum
  rw [List.length_map]
  refine sm_congr fun i hi => ?_
  rw [pt_map T L hi, nx_map T L hi, h]
theorem eex_map (T : Int × Int → Int × Int) (F G : Int × Int → Int × Int → Bool) (h : ∀ a b, F (T a) (T b) = G a b) (L : List (Int × Int)) : eex F (L.map T) ↔ eex G L := by
  unfold eex
  rw [List.length_map]
  refine exists_congr fun i => and_congr_right fun hi => ?_
  rw [pt_map T L hi, nx_map T L hi, h]

/-- Begun elsewhere. -/
def isRot (s : Nat) (L M : List (Int × Int)) : Prop := M.length = L.length ∧ ∀ i, i < L.length → ptA M i = ptA L ((i + s) % L.length)
/-- The other way round. -/
def isTurn (L M : List (Int × Int)) : Prop := M.length = L.length ∧ ∀ i, i < L.length → ptA M i = ptA L ((L.length - i) % L.length)
theorem sm_rot (g : Nat → Int) (n : Nat) : ∀ s, sm (fun i => g ((i + s) % n)) n = sm g n
  | 0 => sm_congr fun i hi => by rw [Nat.add_zero, Nat.mod_eq_of_lt hi]
  | s + 1 => by
    have h := sm_round (fun i => g ((i + s) % n)) n
    rw [sm_sub (fun i => g (((i + 1) % n + s) % n)) (fun i => g ((i + s) % n)), sm_rot g n s] at h
    have e : sm (fun i => g ((i + (s + 1)) % n)) n = sm (fun i => g (((i + 1) % n + s) % n)) n := sm_congr fun i _ => by
      rw [Nat.mod_add_mod, show i + 1 + s = i + (s + 1) from by omega]
    rw [e]; omega
theorem sm_front (f : Nat → Int) : ∀ n, sm f (n + 1) = f 0 + sm (fun i => f (i + 1)) n
  | 0 => by simp [sm]
  | n + 1 => by
    show sm f (n + 1) + f (n + 1) = f 0 + (sm (fun i => f (i + 1)) n + f (n + 1))
    rw [sm_front f n]; omega
theorem sm_rev (h : Nat → Int) : ∀ n, sm (fun i => h (n - 1 - i)) n = sm h n
  | 0 => rfl
  | n + 1 => by
    rw [sm_front]
    show h (n + 1 - 1 - 0) + _ = sm h n + h n
    rw [← sm_rev h n, show n + 1 - 1 - 0 = n from by omega]
    have e : sm (fun i => h (n + 1 - 1 - (i + 1))) n = sm (fun i => h (n - 1 - i)) n := sm_congr fun i _ => by rw [show n + 1 - 1 - (i + 1) = n - 1 - i from by omega]
    rw [e]; omega
theorem rot_nx {s : Nat} {L M : List (Int × Int)} (h : isRot s L M) {i : Nat} (hi : i < L.length) : nxA M i = nxA L ((i + s) % L.length) := by
  unfold nxA
  rw [h.1, h.2 _ (Nat.mod_lt _ (by omega))]
  rw [Nat.mod_add_mod, Nat.mod_add_mod, show i + 1 + s = i + s + 1 from by omega]
theorem esum_rot {s : Nat} {L M : List (Int × Int)} (h : isRot s L M) (F : Int × Int → Int × Int → Int) : esum F M = esum F L := by
  unfold esum
  rw [h.1, ← sm_rot (fun i => F (ptA L i) (nxA L i)) L.length s]
  exact sm_congr fun i hi => by rw [h.2 i hi, rot_nx h hi]
theorem eex_rot {s : Nat} {L M : List (Int × Int)} (h : isRot s L M) (hs : s ≤ L.length) (F : Int × Int → Int × Int → Bool) : eex F M ↔ eex F L := by
  unfold eex
  rw [h.1]
  constructor
  · rintro ⟨i, hi, hx⟩
    rw [h.2 i hi, rot_nx h hi] at hx
    exact ⟨_, Nat.mod_lt _ (by omega), hx⟩
  · rintro ⟨i, hi, hx⟩
    have hj : (i + (L.length - s)) % L.length < L.length := Nat.mod_lt _ (by omega)
    refine ⟨_, hj, ?_⟩
    have e : ((i + (L.length - s)) % L.length + s) % L.length = i := by
      rw [Nat.mod_add_mod, show i + (L.length - s) + s = i + L.length from by omega, Nat.add_mod_right, Nat.mod_eq_of_lt hi]
    rw [h.2 _ hj, rot_nx h hj, e]
    exact hx
theorem turn_at {L M : List (Int × Int)} (h : isTurn L M) {i : Nat} (hi : i < L.length) : ptA M i = nxA L (L.length - 1 - i) ∧ nxA M i = ptA L (L.length - 1 - i) := by
  constructor
  · rw [h.2 i hi]
    unfold nxA
    rw [show L.length - 1 - i + 1 = L.length - i from by omega]
  · unfold nxA
    rw [h.1, h.2 _ (Nat.mod_lt _ (by omega))]
    by_cases e : i + 1 = L.length
    · rw [e, Nat.mod_self, Nat.sub_zero, Nat.mod_self, show L.length - 1 - i = 0 from by omega]
    · rw [Nat.mod_eq_of_lt (show i + 1 < L.length by omega), Nat.mod_eq_of_lt (show L.length - (i + 1) < L.length by omega), show L.length - (i + 1) = L.length - 1 - i from by omega]
theorem esum_turn {L M : List (Int × Int)} (h : isTurn L M) (F : Int × Int → Int × Int → Int) : esum F M = esum (fun a b => F b a) L := by
  unfold esum
  rw [h.1, ← sm_rev (fun i => F (nxA L i) (ptA L i)) L.length]
  exact sm_congr fun i hi => by rw [(turn_at h hi).1, (turn_at h hi).2]
theorem eex_turn {L M : List (Int × Int)} (h : isTurn L M) (F : Int × Int → Int × Int → Bool) : eex F M ↔ eex (fun a b => F b a) L := by
  unfold eex
  rw [h.1]
  constructor
  · rintro ⟨i, hi, hx⟩
    rw [(turn_at h hi).1, (turn_at h hi).2] at hx
    exact ⟨_, by omega, hx⟩
  · rintro ⟨i, hi, hx⟩
    refine ⟨L.length - 1 - i, by omega, ?_⟩
    rw [(turn_at h (show L.length - 1 - i < L.length by omega)).1, (turn_at h (show L.length - 1 - i < L.length by omega)).2, show L.length - 1 - (L.length - 1 - i) = i from by omega]
    exact hx
theorem esum_neg (F : Int × Int → Int × Int → Int) (L : List (Int × Int)) : esum (fun a b => - F a b) L = - esum F L := sm_neg _ _
theorem esum_mul (c : Int) (F : Int × Int → Int × Int → Int) (L : List (Int × Int)) : esum (fun a b => c * F a b) L = c * esum F L := sm_mul _ _ _
end Go.Proofs.Ytkibjbbhiclkmaa
