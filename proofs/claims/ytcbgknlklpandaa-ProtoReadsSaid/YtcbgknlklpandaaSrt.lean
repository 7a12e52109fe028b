/- Plain facts on sorting by merging ever longer runs. Nothing of the program. -/
import Derived.Test.YtcbgknlklpandaaOrd
namespace Go.Proofs.Ytcbgknlklpandaa

section
variable {α : Type}
/-- No one comes ahead of one that stands before it. -/
def srtd (lt : α → α → Bool) (L : List α) : Prop := L.Pairwise (fun a b => lt b a = false)
/-- An order of different things. -/
structure STO (lt : α → α → Bool) : Prop where
  irr : ∀ a, lt a a = false
  tr : ∀ a b c, lt a b = true → lt b c = true → lt a c = true
  tri : ∀ a b, lt a b = false → lt b a = false → a = b
theorem STO.asym {lt : α → α → Bool} (h : STO lt) {a b : α} (k : lt a b = true) : lt b a = false := by
  cases e : lt b a
  · rfl
  · have := h.tr a b a k e
    rw [h.irr] at this; cases this
theorem STO.neg {lt : α → α → Bool} (h : STO lt) {a b c : α} (h1 : lt b a = false) (h2 : lt c b = false) : lt c a = false := by
  cases e : lt c a
  · rfl
  · cases e2 : lt b c
    · have := h.tri b c e2 h2
      subst this
      rw [h1] at e; cases e
    · have := h.tr b c a e2 e
      rw [h1] at this; cases this
theorem mrg_perm (lt : α → α → Bool) (a b : List α) : (mrg lt a b).Perm (a ++ b) := by
  fun_induction mrg lt a b with
  | case1 b => simp
  | case2 x a => simp
  | case3 x a y b h ih =>
    refine (List.Perm.cons y ih).trans ?_
    exact List.perm_middle.symm
  | case4 x a y b h ih => exact List.Perm.cons x ih
theorem mrg_srtd {lt : α → α → Bool} (h : STO lt) {a b : List α} (ha : srtd lt a) (hb : srtd lt b) : srtd lt (mrg lt a b) := by
  unfold srtd at *
  fun_induction mrg lt a b with
  | case1 b => exact hb
  | case2 x a => exact ha
  | case3 x a y b hlt ih =>
    rw [List.pairwise_cons] at hb
    refine List.pairwise_cons.2 ⟨fun z hz => ?_, ih ha hb.2⟩
    rw [(mrg_perm lt (x :: a) b).mem_iff, List.mem_append] at hz
    rcases hz with hz | hz
    · have hxy := h.asym hlt
      rcases List.mem_cons.1 hz with rfl | hz
      · exact hxy
      · exact h.neg hxy ((List.pairwise_cons.1 ha).1 z hz)
    · exact hb.1 z hz
  | case4 x a y b hlt ih =>
    rw [List.pairwise_cons] at ha
    refine List.pairwise_cons.2 ⟨fun z hz => ?_, ih ha.2 hb⟩
    rw [(mrg_perm lt a (y :: b)).mem_iff, List.mem_append] at hz
    have hyx : lt y x = false := by simpa using hlt
    rcases hz with hz | hz
    · exact ha.1 z hz
    · rcases List.mem_cons.1 hz with rfl | hz
      · exact hyx
      · exact h.neg hyx ((List.pairwise_cons.1 hb).1 z hz)
theorem srtd_uniq {lt : α → α → Bool} (h : STO lt) : ∀ {a b : List α}, a.Perm b → srtd lt a → srtd lt b → a = b
  | [], b, hp, _, _ => by rw [List.nil_perm.1 hp]
  | x :: a, [], hp, _, _ => absurd hp.length_eq (by simp)
  | x :: a, y :: b, hp, ha, hb => by
    unfold srtd at ha hb
    rw [List.pairwise_cons] at ha hb
    have e : x = y := by
      have h1 : x ∈ y :: b := hp.mem_iff.1 (by simp)
      have h2 : y ∈ x :: a := hp.mem_iff.2 (by simp)
      rcases List.mem_cons.1 h1 with h1 | h1
      · exact h1
      · rcases List.mem_cons.1 h2 with h2 | h2
        · exact h2.symm
        · exact h.tri x y (hb.1 x h1) (ha.1 y h2)
    subst e
    rw [srtd_uniq h ((List.perm_cons x).1 hp) ha.2 hb.2]

/-- One pass: runs of a length, merged two by two. -/
def pas (lt : α → α → Bool) (run : Nat) (F : List α) : List α :=
  if _h : 0 < run ∧ F ≠ [] then mrg lt (F.take run) ((F.drop run).take run) ++ pas lt run (F.drop (2 * run)) else []
termination_by F.length
decreasing_by
  have := List.length_pos_iff.2 _h.2
  rw [List.length_drop]; omega
/-- Runs of a length are in order. -/
def rns (lt : α → α → Bool) (run : Nat) (F : List α) : Prop := ∀ k, srtd lt ((F.drop (k * run)).take run)
theorem pas_nil (lt : α → α → Bool) (run : Nat) : pas lt run [] = [] := by rw [pas]; simp
theorem pas_on (lt : α → α → Bool) {run : Nat} {F : List α} (h : 0 < run) (hF : F ≠ []) : pas lt run F = mrg lt (F.take run) ((F.drop run).take run) ++ pas lt run (F.drop (2 * run)) := by
  rw [pas]; simp [h, hF]
theorem pas_perm (lt : α → α → Bool) {run : Nat} (h : 0 < run) (F : List α) : (pas lt run F).Perm F := by
  induction hn : F.length using Nat.strongRecOn generalizing F with
  | _ n ih =>
    by_cases hF : F = []
    · subst hF; rw [pas_nil]
    · rw [pas_on lt h hF]
      have hp := List.length_pos_iff.2 hF
      have h1 := ih (F.drop (2 * run)).length (by rw [List.length_drop]; omega) (F.drop (2 * run)) rfl
      refine ((mrg_perm lt _ _).append h1).trans ?_
      have e : F.take run ++ (F.drop run).take run ++ F.drop (2 * run) = F := by
        rw [List.append_assoc, show F.drop (2 * run) = (F.drop run).drop run from by rw [List.drop_drop]; congr 1; omega, List.take_append_drop, List.take_append_drop]
      rw [e]
theorem pas_len (lt : α → α → Bool) {run : Nat} (h : 0 < run) (F : List α) : (pas lt run F).length = F.length := (pas_perm lt h F).length_eq
theorem rns_drop {lt : α → α → Bool} {run : Nat} {F : List α} (h : rns lt run F) (j : Nat) : rns lt run (F.drop (j * run)) := by
  intro k
  rw [List.drop_drop, ← Nat.add_mul]
  exact h (j + k)
theorem pas_rns {lt : α → α → Bool} (hs : STO lt) {run : Nat} (h : 0 < run) (F : List α) (hF : rns lt run F) : rns lt (2 * run) (pas lt run F) := by
  induction hn : F.length using Nat.strongRecOn generalizing F with
  | _ n ih =>
    by_cases hE : F = []
    · subst hE; rw [pas_nil]; intro k; simp [srtd]
    · have hp := List.length_pos_iff.2 hE
      have hm : srtd lt (mrg lt (F.take run) ((F.drop run).take run)) := by
        refine mrg_srtd hs ?_ ?_
        · have := hF 0; simpa using this
        · have := hF 1; simpa using this
      have hr := ih (F.drop (2 * run)).length (by rw [List.length_drop]; omega) (F.drop (2 * run)) (rns_drop hF 2) rfl
      rw [pas_on lt h hE]
      have hl : (mrg lt (F.take run) ((F.drop run).take run)).length = min (2 * run) F.length := by
        rw [mrg_len, List.length_take, List.length_take, List.length_drop]; omega
      generalize mrg lt (F.take run) ((F.drop run).take run) = M at *
      intro k
      by_cases hk : k = 0
      · subst hk
        rw [Nat.zero_mul, List.drop_zero]
        by_cases h2 : 2 * run ≤ F.length
        · rw [List.take_append_of_le_length (by omega), List.take_of_length_le (by omega)]; exact hm
        · have : F.drop (2 * run) = [] := List.drop_of_length_le (by omega)
          rw [this, pas_nil, List.append_nil, List.take_of_length_le (by omega)]; exact hm
      · by_cases h2 : 2 * run ≤ F.length
        · have hx : M.length = 2 * run := by omega
          have e : (M ++ pas lt run (F.drop (2 * run))).drop (k * (2 * run)) = (pas lt run (F.drop (2 * run))).drop ((k - 1) * (2 * run)) := by
            have e1 : k * (2 * run) = M.length + (k - 1) * (2 * run) := by
              rw [hx, Nat.sub_mul, Nat.one_mul]
              have : 2 * run ≤ k * (2 * run) := Nat.le_mul_of_pos_left _ (by omega)
              omega
            rw [e1, ← List.drop_drop, List.drop_left]
          rw [e]; exact hr (k - 1)
        · have hz : F.drop (2 * run) = [] := List.drop_of_length_le (by omega)
          have hk2 : 2 * run ≤ k * (2 * run) := Nat.le_mul_of_pos_left _ (by omega)
          rw [hz, pas_nil, List.append_nil, List.drop_of_length_le (by omega)]; simp [srtd]
/-- Sorted: passes over ever longer runs. -/
def rnd (lt : α → α → Bool) (n run : Nat) (F : List α) : List α :=
  if 0 < run ∧ run < n then rnd lt n (2 * run) (pas lt run F) else F
termination_by n - run
def srt (lt : α → α → Bool) (L : List α) : List α := rnd lt L.length 1 L
theorem rnd_on (lt : α → α → Bool) {n run : Nat} (F : List α) (h : 0 < run) (h2 : run < n) : rnd lt n run F = rnd lt n (2 * run) (pas lt run F) := by
  rw [rnd]; simp [h, h2]
theorem rnd_off (lt : α → α → Bool) {n run : Nat} (F : List α) (h2 : ¬ run < n) : rnd lt n run F = F := by
  rw [rnd]; simp [h2]
theorem rnd_perm (lt : α → α → Bool) (n : Nat) : ∀ (m run : Nat) (F : List α), 0 < run → n - run ≤ m → (rnd lt n run F).Perm F
  | 0, run, F, _, hm => by rw [rnd_off lt F (by omega)]
  | m + 1, run, F, h, hm => by
    by_cases h2 : run < n
    · rw [rnd_on lt F h h2]
      exact (rnd_perm lt n m (2 * run) (pas lt run F) (by omega) (by omega)).trans (pas_perm lt h F)
    · rw [rnd_off lt F h2]
theorem rnd_srtd {lt : α → α → Bool} (hs : STO lt) (n : Nat) : ∀ (m run : Nat) (F : List α), 0 < run → n - run ≤ m → F.length = n → rns lt run F → srtd lt (rnd lt n run F)
  | 0, run, F, _, hm, hl, hr => by
    rw [rnd_off lt F (by omega)]
    have := hr 0
    rw [Nat.zero_mul, List.drop_zero, List.take_of_length_le (by omega)] at this
    exact this
  | m + 1, run, F, h, hm, hl, hr => by
    by_cases h2 : run < n
    · rw [rnd_on lt F h h2]
      exact rnd_srtd hs n m (2 * run) (pas lt run F) (by omega) (by omega) (by rw [pas_len lt h]; exact hl) (pas_rns hs h F hr)
    · rw [rnd_off lt F h2]
      have := hr 0
      rw [Nat.zero_mul, List.drop_zero, List.take_of_length_le (by omega)] at this
      exact this
theorem srt_perm (lt : α → α → Bool) (L : List α) : (srt lt L).Perm L := rnd_perm lt _ L.length 1 L (by omega) (by omega)
theorem srt_srtd {lt : α → α → Bool} (hs : STO lt) (L : List α) : srtd lt (srt lt L) := by
  refine rnd_srtd hs _ L.length 1 L (by omega) (by omega) rfl (fun k => ?_)
  unfold srtd
  match h : (L.drop (k * 1)).take 1 with
  | [] => exact List.Pairwise.nil
  | [x] => simp
  | x :: y :: t =>
    have := congrArg List.length h
    rw [List.length_take] at this
    simp at this
    omega
end
end Go.Proofs.Ytcbgknlklpandaa
