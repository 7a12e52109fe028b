/- The code's Simple is the document's. -/
import Derived.Test.YtkibjbbhiclkmaaSimple
import Derived.Test.YtkibjbbhiclkmaaRefSimple
namespace Go.Proofs.Ytkibjbbhiclkmaa

theorem ov_pos {c d a b A B C D : Int} (h : A * b - B * a + C * d - D * c = 0) (hd : D - C = A - B) (h0 : D < C) (h1 : 0 ≤ C) (h2 : D ≤ 0) (h3 : A ≤ 0) (h4 : 0 ≤ B) : min c d ≤ max a b := by
  by_cases hn : min c d ≤ max a b
  · exact hn
  · exfalso
    obtain ⟨m, hm⟩ : ∃ m, m = max a b := ⟨_, rfl⟩
    have ha : a ≤ m := by omega
    have hb : b ≤ m := by omega
    have hc : m + 1 ≤ c := by omega
    have hdd : m + 1 ≤ d := by omega
    have e1 := Int.mul_le_mul_of_nonneg_left hdd h1
    have e2 := Int.mul_le_mul_of_nonneg_left hc (show 0 ≤ -D by omega)
    have e3 := Int.mul_le_mul_of_nonneg_left ha h4
    have e4 := Int.mul_le_mul_of_nonneg_left hb (show 0 ≤ -A by omega)
    have e5 : (C - D) * (m + 1) = C * (m + 1) + -D * (m + 1) := by grind
    have e6 : (C - D) * m = B * m + -A * m := by
      have : C - D = B + -A := by omega
      rw [this, Int.add_mul]
    have e7 : (C - D) * (m + 1) = (C - D) * m + (C - D) := by grind
    have e8 : -D * c = -(D * c) := by grind
    have e9 : -A * b = -(A * b) := by grind
    omega
theorem sg_ne {m n : Int} (h : sg m ≠ sg n) (hl : n < m) : 0 ≤ m ∧ n ≤ 0 := by
  unfold sg at h
  by_cases h1 : 0 ≤ m
  · refine ⟨h1, ?_⟩
    by_cases h2 : n ≤ 0
    · exact h2
    · exfalso; apply h; rw [if_pos (by omega), if_pos (by omega)]
  · exfalso; apply h; rw [if_neg (by omega), if_pos (by omega), if_neg (by omega), if_pos (by omega)]
theorem ov {c d a b A B C D : Int} (h : A * b - B * a + C * d - D * c = 0) (hd : D - C = A - B) (h1 : sg C ≠ sg D) (h2 : sg A ≠ sg B) : min c d ≤ max a b := by
  rcases Int.lt_trichotomy C D with k | k | k
  · have p := sg_ne (Ne.symm h1) k
    have q := sg_ne h2 (show B < A by omega)
    exact ov_pos (A := -A) (B := -B) (C := -C) (D := -D) (by grind) (by omega) (by omega) (by omega) (by omega) (by omega) (by omega)
  · exact absurd (by rw [k]) h1
  · have p := sg_ne h1 k
    have q := sg_ne (Ne.symm h2) (show A < B by omega)
    exact ov_pos h hd k p.1 p.2 q.2 q.1
theorem cross_x (ax ay bx b_y cx cy dx dy : Int) : crI cx cy dx dy ax ay * bx - crI cx cy dx dy bx b_y * ax + crI ax ay bx b_y cx cy * dx - crI ax ay bx b_y dx dy * cx = 0 := by unfold crI; grind
theorem cross_y (ax ay bx b_y cx cy dx dy : Int) : crI cx cy dx dy ax ay * b_y - crI cx cy dx dy bx b_y * ay + crI ax ay bx b_y cx cy * dy - crI ax ay bx b_y dx dy * cy = 0 := by unfold crI; grind
def metP (ax ay bx b_y cx cy dx dy : Int) : Prop := min ax bx ≤ max cx dx ∧ min cx dx ≤ max ax bx ∧ min ay b_y ≤ max cy dy ∧ min cy dy ≤ max ay b_y
theorem cross_met {ax ay bx b_y cx cy dx dy : Int} (h1 : sg (crI ax ay bx b_y cx cy) ≠ sg (crI ax ay bx b_y dx dy)) (h2 : sg (crI cx cy dx dy ax ay) ≠ sg (crI cx cy dx dy bx b_y)) : metP ax ay bx b_y cx cy dx dy := by
  have d1 := diff4 ax ay bx b_y cx cy dx dy
  have d2 := diff4 cx cy dx dy ax ay bx b_y
  exact ⟨ov (cross_x cx cy dx dy ax ay bx b_y) d2 h2 h1, ov (cross_x ax ay bx b_y cx cy dx dy) d1 h1 h2, ov (cross_y cx cy dx dy ax ay bx b_y) d2 h2 h1, ov (cross_y ax ay bx b_y cx cy dx dy) d1 h1 h2⟩
theorem on_box {ax ay bx b_y px py : Int} (h : onB ax ay bx b_y px py = true) : min ax bx ≤ px ∧ px ≤ max ax bx ∧ min ay b_y ≤ py ∧ py ≤ max ay b_y := by
  rw [onB_iff] at h
  obtain ⟨_, h1, h2⟩ := h
  unfold betP at h1 h2
  omega
theorem cls_far {ax ay bx b_y cx cy dx dy : Int} (h : ¬ metP ax ay bx b_y cx cy dx dy) : clsI ax ay bx b_y cx cy dx dy = 0 := by
  have k1 : onB cx cy dx dy ax ay = false := by
    rw [Bool.eq_false_iff]; intro k; apply h; have := on_box k; unfold metP; omega
  have k2 : onB cx cy dx dy bx b_y = false := by
    rw [Bool.eq_false_iff]; intro k; apply h; have := on_box k; unfold metP; omega
  have k3 : onB ax ay bx b_y cx cy = false := by
    rw [Bool.eq_false_iff]; intro k; apply h; have := on_box k; unfold metP; omega
  have k4 : onB ax ay bx b_y dx dy = false := by
    rw [Bool.eq_false_iff]; intro k; apply h; have := on_box k; unfold metP; omega
  have k5 : eqB ax ay cx cy = false := by
    rw [Bool.eq_false_iff]; intro k; rw [eqB_iff] at k; apply h; unfold metP; omega
  have k6 : eqB ax ay dx dy = false := by
    rw [Bool.eq_false_iff]; intro k; rw [eqB_iff] at k; apply h; unfold metP; omega
  have k7 : ¬ (sg (crI ax ay bx b_y cx cy) ≠ sg (crI ax ay bx b_y dx dy) ∧ sg (crI cx cy dx dy ax ay) ≠ sg (crI cx cy dx dy bx b_y)) := fun k => h (cross_met k.1 k.2)
  unfold clsI
  rw [k1, k2, k3, k4, k5, k6]
  simp only [Bool.false_and, Bool.or_self, Bool.false_eq_true, if_false, bi]
  rw [if_neg (by omega), if_neg (by omega), if_neg k7]
theorem cls_share (ax ay bx b_y dx dy : Int) : clsI ax ay bx b_y ax ay dx dy ≠ 0 := by
  have k1 : onB ax ay dx dy ax ay = true := (onB_iff _ _ _ _ _ _).2 (on_a _ _ _ _)
  have k3 : onB ax ay bx b_y ax ay = true := (onB_iff _ _ _ _ _ _).2 (on_a _ _ _ _)
  have k5 : eqB ax ay ax ay = true := (eqB_iff _ _ _ _).2 ⟨rfl, rfl⟩
  unfold clsI
  rw [k1, k3, k5]
  generalize onB ax ay dx dy bx b_y = o1
  generalize onB ax ay bx b_y dx dy = o2
  generalize eqB ax ay dx dy = e1
  generalize eqB bx b_y ax ay = e2
  generalize eqB bx b_y dx dy = e3
  cases o1 <;> cases o2 <;> cases e1 <;> cases e2 <;> cases e3 <;> simp [bi]

theorem edx_all {L : List (Int × Int)} {i : Nat} (h : i < L.length) : edx (allE L) i = (i, edA L i) := by
  have hl : i < (allE L).length := by unfold allE; rw [List.length_map, List.length_range]; exact h
  rw [edx_at hl]
  simp [allE]
theorem meet_iff (L : List (Int × Int)) (i k : Nat) : meetV (i, edA L i) (k, edA L k) = true ↔ metP (ptA L i).1 (ptA L i).2 (ptA L ((i + 1) % L.length)).1 (ptA L ((i + 1) % L.length)).2 (ptA L k).1 (ptA L k).2 (ptA L ((k + 1) % L.length)).1 (ptA L ((k + 1) % L.length)).2 := by
  unfold meetV metP Ed.lx Ed.ly Ed.hx Ed.hy edA
  simp only [Bool.and_eq_true, decide_eq_true_eq, and_assoc]
theorem nb_want {n i k : Nat} (hk : k < i) (hi : i < n) : (nbB n i k = true ↔ wantE n i k = 1) ∧ (nbB n i k = false ↔ wantE n i k = 0) := by
  have e : nbB n i k = decide (i = k + 1 ∨ i + 1 = k + n) := by
    unfold nbB
    rw [Nat.mod_eq_of_lt (show k + 1 < n by omega), Bool.eq_iff_iff]
    simp only [Bool.or_eq_true, decide_eq_true_eq]
    by_cases h : i + 1 = n
    · rw [h, Nat.mod_self]; omega
    · rw [Nat.mod_eq_of_lt (by omega)]; omega
  rw [e]
  unfold wantE
  by_cases h : i = k + 1 ∨ i + 1 = k + n
  · rw [if_pos h]; simp [h]
  · rw [if_neg h]; simp [h]
theorem fit_iff {L : List (Int × Int)} {i k : Nat} (hok : okL L = true) (hk : k < i) (hi : i < L.length) (h1 : ptA L i ≠ ptA L ((i + 1) % L.length)) (h2 : ptA L k ≠ ptA L ((k + 1) % L.length)) :
    fitV L.length (i, edA L i) (k, edA L k) = true ↔ clsE L i k = wantE L.length i k := by
  have ho : ok4 (ptA L i).1 (ptA L i).2 (ptA L ((i + 1) % L.length)).1 (ptA L ((i + 1) % L.length)).2 (ptA L k).1 (ptA L k).2 (ptA L ((k + 1) % L.length)).1 (ptA L ((k + 1) % L.length)).2 = true := by unfold ok4; simp [okL_pt hok]
  have he1 : eqB (ptA L i).1 (ptA L i).2 (ptA L ((i + 1) % L.length)).1 (ptA L ((i + 1) % L.length)).2 = false := by
    rw [Bool.eq_false_iff]; intro k; exact h1 (Prod.ext ((eqB_iff _ _ _ _).1 k).1 ((eqB_iff _ _ _ _).1 k).2)
  have he2 : eqB (ptA L k).1 (ptA L k).2 (ptA L ((k + 1) % L.length)).1 (ptA L ((k + 1) % L.length)).2 = false := by
    rw [Bool.eq_false_iff]; intro k; exact h2 (Prod.ext ((eqB_iff _ _ _ _).1 k).1 ((eqB_iff _ _ _ _).1 k).2)
  have hn := nb_want hk hi
  unfold fitV edA
  dsimp only
  unfold clsV errV
  rw [ho, he1, he2]
  simp only [Bool.or_self, if_true, Bool.false_eq_true, if_false]
  unfold fitB clsE
  cases hb : nbB L.length i k
  · rw [hn.2.1 hb]; simp
  · rw [hn.1.1 hb]; simp
theorem fit_deg {L : List (Int × Int)} {i k : Nat} (hok : okL L = true) (h1 : ptA L i = ptA L ((i + 1) % L.length)) : fitV L.length (i, edA L i) (k, edA L k) = false := by
  have ho : ok4 (ptA L i).1 (ptA L i).2 (ptA L ((i + 1) % L.length)).1 (ptA L ((i + 1) % L.length)).2 (ptA L k).1 (ptA L k).2 (ptA L ((k + 1) % L.length)).1 (ptA L ((k + 1) % L.length)).2 = true := by unfold ok4; simp [okL_pt hok]
  have he1 : eqB (ptA L i).1 (ptA L i).2 (ptA L ((i + 1) % L.length)).1 (ptA L ((i + 1) % L.length)).2 = true := (eqB_iff _ _ _ _).2 ⟨by rw [← h1], by rw [← h1]⟩
  unfold fitV edA
  dsimp only
  unfold clsV errV
  rw [ho, he1]
  simp [fitB]
theorem sim_iff (L : List (Int × Int)) : simB L = true ↔ rsimP L := by
  unfold simB rsimP
  rw [Bool.and_eq_true, Bool.and_eq_true, decide_eq_true_iff, decide_eq_true_iff, and_assoc]
  refine and_congr_right fun h3 => and_congr_right fun hok => ?_
  rw [sim_all (List.Perm.refl (allE L))]
  have key : (∀ i j, i < j → j < L.length → SimR L.length (edx (allE L) i) (edx (allE L) j)) ↔ ∀ i, i < L.length → ∀ k, k < L.length → i ≠ k → SimR L.length (i, edA L i) (k, edA L k) := by
    constructor
    · intro h i hi k hk hne
      rcases Nat.lt_or_gt_of_ne hne with hlt | hlt
      · have := h i k hlt hk
        rw [edx_all hi, edx_all hk] at this; exact this
      · have := h k i hlt hi
        rw [edx_all hi, edx_all hk] at this; exact simR_symm this
    · intro h i j hij hj
      rw [edx_all (by omega), edx_all hj]
      exact h i (by omega) j hj (by omega)
  rw [key]
  have hmod : ∀ i, i < L.length → (i + 1) % L.length < L.length ∧ (i + 1) % L.length ≠ i := by
    intro i hi
    refine ⟨Nat.mod_lt _ (by omega), ?_⟩
    by_cases h : i + 1 = L.length
    · rw [h, Nat.mod_self]; omega
    · rw [Nat.mod_eq_of_lt (by omega)]; omega
  constructor
  · intro hS
    have hnd : ∀ i, i < L.length → ptA L i ≠ ptA L ((i + 1) % L.length) := by
      intro i hi he
      obtain ⟨m1, m2⟩ := hmod i hi
      have hf := hS i hi _ m1 (Ne.symm m2) ((meet_iff L i _).2 (by unfold metP; omega))
      rw [fit_deg hok he] at hf; cases hf
    have hcl : ∀ i, i < L.length → ∀ k, k < i → clsE L i k = wantE L.length i k := by
      intro i hi k hk
      by_cases hm : meetV (i, edA L i) (k, edA L k) = true
      · exact (fit_iff hok hk hi (hnd i hi) (hnd k (by omega))).1 (hS i hi k (by omega) (by omega) hm)
      · have hm' := fun h => hm ((meet_iff L i k).2 h)
        have hc : clsE L i k = 0 := cls_far hm'
        rw [hc]
        unfold wantE
        rw [if_neg]
        rintro (h | h)
        · subst h
          apply hm'
          rw [Nat.mod_eq_of_lt (show k + 1 < L.length by omega)]
          unfold metP; omega
        · have hi1 : i + 1 = L.length := by omega
          have hk0 : k = 0 := by omega
          apply hm'
          rw [hi1, Nat.mod_self, hk0]
          unfold metP; omega
    refine ⟨fun i hi k hk he => ?_, hcl⟩
    have hc := hcl i hi k hk
    have hs : clsE L i k ≠ 0 := by
      unfold clsE
      rw [he]
      exact cls_share _ _ _ _ _ _
    unfold wantE at hc
    by_cases hw : i = k + 1 ∨ i + 1 = k + L.length
    · rcases hw with h | h
      · have := hnd k (by omega)
        rw [Nat.mod_eq_of_lt (show k + 1 < L.length by omega), ← h, he] at this
        exact this rfl
      · have hi1 : i + 1 = L.length := by omega
        have hk0 : k = 0 := by omega
        have := hnd i hi
        rw [hi1, Nat.mod_self, he, hk0] at this
        exact this rfl
    · rw [if_neg hw] at hc; exact hs hc
  · rintro ⟨hd, hc⟩
    have hnd : ∀ i, i < L.length → ptA L i ≠ ptA L ((i + 1) % L.length) := by
      intro i hi he
      obtain ⟨m1, m2⟩ := hmod i hi
      rcases Nat.lt_or_gt_of_ne m2 with h | h
      · exact hd i hi _ h he
      · exact hd _ m1 i h he.symm
    intro i hi k hk hne
    rcases Nat.lt_or_gt_of_ne hne with h | h
    · exact simR_symm (fun _ => (fit_iff hok h hk (hnd k hk) (hnd i hi)).2 (hc k hk i h))
    · exact fun _ => (fit_iff hok h hi (hnd i hi) (hnd k hk)).2 (hc i hi k h)
end Go.Proofs.Ytkibjbbhiclkmaa
