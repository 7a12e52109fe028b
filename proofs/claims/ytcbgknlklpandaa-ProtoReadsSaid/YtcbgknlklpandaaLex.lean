/- Plain facts: rows in order, the order of numbers of rows, what is put in one by one. Nothing of the program. -/
import Derived.Test.YtcbgknlklpandaaSrt
namespace Go.Proofs.Ytcbgknlklpandaa

/-- Which of two rows comes ahead. -/
def cmpL : List Int → List Int → Int
  | [], [] => 0
  | [], _ :: _ => -1
  | _ :: _, [] => 1
  | a :: xs, b :: ys => if a < b then -1 else if b < a then 1 else cmpL xs ys
theorem cmpL_self : ∀ a : List Int, cmpL a a = 0
  | [] => rfl
  | a :: xs => by unfold cmpL; simp [cmpL_self xs]
theorem cmpL_anti : ∀ a b : List Int, cmpL b a = - cmpL a b
  | [], [] => rfl
  | [], _ :: _ => rfl
  | _ :: _, [] => rfl
  | a :: xs, b :: ys => by
    unfold cmpL
    have := cmpL_anti xs ys
    split <;> split <;> (try split) <;> omega
theorem cmpL_zero : ∀ {a b : List Int}, cmpL a b = 0 → a = b
  | [], [], _ => rfl
  | [], _ :: _, h => by simp [cmpL] at h
  | _ :: _, [], h => by simp [cmpL] at h
  | a :: xs, b :: ys, h => by
    unfold cmpL at h
    split at h
    · simp at h
    · split at h
      · simp at h
      · have := cmpL_zero h
        have : a = b := by omega
        simp [*]
theorem cmpL_tr : ∀ {a b c : List Int}, cmpL a b < 0 → cmpL b c < 0 → cmpL a c < 0
  | [], [], _, h, _ => by simp [cmpL] at h
  | [], _ :: _, [], _, h => by simp [cmpL] at h
  | [], _ :: _, _ :: _, _, _ => by simp [cmpL]
  | _ :: _, [], _, h, _ => by simp [cmpL] at h
  | _ :: _, _ :: _, [], _, h => by simp [cmpL] at h
  | a :: xs, b :: ys, c :: zs, h, k => by
    unfold cmpL at h k ⊢
    split at h
    · split at k
      · rw [if_pos (by omega)]; omega
      · split at k
        · omega
        · rw [if_pos (by omega)]; omega
    · split at h
      · omega
      · split at k
        · rw [if_pos (by omega)]; omega
        · split at k
          · omega
          · rw [if_neg (by omega), if_neg (by omega)]
            exact cmpL_tr h k
def rowAt (R : List (List Int)) (i : Int) : List Int := R.getD i.toNat []
/-- The code's: by the rows alone. -/
def rlt (R : List (List Int)) (a b : Int) : Bool := decide (cmpL (rowAt R a) (rowAt R b) < 0)
/-- By the rows; of like rows the lesser number first. -/
def rltT (R : List (List Int)) (a b : Int) : Bool := decide (cmpL (rowAt R a) (rowAt R b) < 0) || (decide (cmpL (rowAt R a) (rowAt R b) = 0) && decide (a < b))
theorem rltT_sto (R : List (List Int)) : STO (rltT R) := by
  constructor
  · intro a; unfold rltT; simp [cmpL_self]
  · intro a b c h k
    unfold rltT at *
    simp only [Bool.or_eq_true, Bool.and_eq_true, decide_eq_true_eq] at *
    rcases h with h | ⟨h, h'⟩
    · rcases k with k | ⟨k, k'⟩
      · exact .inl (cmpL_tr h k)
      · rw [cmpL_zero k] at h; exact .inl h
    · rw [cmpL_zero h]
      rcases k with k | ⟨k, k'⟩
      · exact .inl k
      · exact .inr ⟨k, by omega⟩
  · intro a b h k
    unfold rltT at *
    have e := cmpL_anti (rowAt R a) (rowAt R b)
    simp only [Bool.or_eq_false_iff, Bool.and_eq_false_iff, decide_eq_false_iff_not] at *
    omega
theorem rlt_below {R : List (List Int)} {a b : Int} (h : b < a) : rltT R a b = rlt R a b := by
  unfold rltT rlt
  have : decide (a < b) = false := by simp; omega
  rw [this]; simp
/-- All of the first ahead of all of the second, xs numbers. -/
def apt (A B : List Int) : Prop := ∀ x ∈ A, ∀ y ∈ B, x < y
theorem mrg_tie (R : List (List Int)) {A B : List Int} (h : apt A B) : mrg (rlt R) A B = mrg (rltT R) A B := by
  unfold apt at h
  fun_induction mrg (rlt R) A B with
  | case1 b => simp [mrg]
  | case2 x a => simp [mrg]
  | case3 x a y b hlt ih =>
    rw [mrg, rlt_below (h x (by simp) y (by simp)), if_pos hlt, ih (fun x' hx y' hy => h x' hx y' (by simp [hy]))]
  | case4 x a y b hlt ih =>
    rw [mrg, rlt_below (h x (by simp) y (by simp)), if_neg hlt, ih (fun x' hx y' hy => h x' (by simp [hx]) y' hy)]
/-- Blocks of a length stand in the order of numbers. -/
def bks (run : Nat) (F : List Int) : Prop := ∀ k, apt (F.take (k * run)) (F.drop (k * run))
theorem bks_drop {run : Nat} {F : List Int} (h : bks run F) (j : Nat) : bks run (F.drop (j * run)) := by
  intro k x hx y hy
  rw [List.drop_drop, ← Nat.add_mul] at hy
  refine h (j + k) x ?_ y hy
  have : F.take ((j + k) * run) = F.take (j * run) ++ (F.drop (j * run)).take (k * run) := by rw [Nat.add_mul, List.take_add]
  rw [this]; simp [hx]
theorem apt_perm {A A' B B' : List Int} (h : apt A B) (ha : A'.Perm A) (hb : B'.Perm B) : apt A' B' := fun x hx y hy => h x (ha.mem_iff.1 hx) y (hb.mem_iff.1 hy)
theorem pas_tie (R : List (List Int)) {run : Nat} (hr : 0 < run) (F : List Int) (h : bks run F) : pas (rlt R) run F = pas (rltT R) run F := by
  induction hn : F.length using Nat.strongRecOn generalizing F with
  | _ n ih =>
    by_cases hF : F = []
    · subst hF; rw [pas_nil, pas_nil]
    · have hp := List.length_pos_iff.2 hF
      rw [pas_on _ hr hF, pas_on _ hr hF, ih _ (by rw [← hn, List.length_drop]; omega) (F.drop (2 * run)) (bks_drop h 2) rfl]
      rw [mrg_tie R (fun x hx y hy => ?_)]
      refine h 1 x (by simpa using hx) y ?_
      have := List.mem_of_mem_take hy
      simpa using this
theorem take_perm_pas (lt : Int → Int → Bool) {run : Nat} (hr : 0 < run) (F : List Int) : ∀ k, ((pas lt run F).take (k * (2 * run))).Perm (F.take (k * (2 * run))) ∧ ((pas lt run F).drop (k * (2 * run))) = pas lt run (F.drop (k * (2 * run)))
  | 0 => by simp
  | k + 1 => by
    by_cases hF : F = []
    · subst hF; rw [pas_nil]; simp [pas_nil]
    · have hm : (mrg lt (F.take run) ((F.drop run).take run)).Perm (F.take (2 * run)) := by
        refine (mrg_perm lt _ _).trans ?_
        rw [show 2 * run = run + run from by omega, List.take_add]
      have ih := take_perm_pas lt hr (F.drop (2 * run)) k
      rw [pas_on lt hr hF]
      have hl : (mrg lt (F.take run) ((F.drop run).take run)).length = min (2 * run) F.length := by
        rw [hm.length_eq, List.length_take]
      generalize mrg lt (F.take run) ((F.drop run).take run) = M at *
      by_cases h2 : 2 * run ≤ F.length
      · have hx : M.length = 2 * run := by omega
        have e : (k + 1) * (2 * run) = M.length + k * (2 * run) := by rw [hx, Nat.add_mul]; omega
        have e2 : (k + 1) * (2 * run) = 2 * run + k * (2 * run) := by rw [Nat.add_mul]; omega
        constructor
        · rw [e, List.take_append, List.take_of_length_le (by omega), Nat.add_sub_cancel_left]
          rw [show M.length + k * (2 * run) = 2 * run + k * (2 * run) from by omega, List.take_add]
          exact hm.append ih.1
        · rw [e, ← List.drop_drop, List.drop_left, ih.2, List.drop_drop]
          congr 2; omega
      · have hz : F.drop (2 * run) = [] := List.drop_of_length_le (by omega)
        have h3 : 2 * run ≤ (k + 1) * (2 * run) := Nat.le_mul_of_pos_left _ (by omega)
        rw [hz, pas_nil, List.append_nil]
        rw [List.take_of_length_le (by omega), List.take_of_length_le (by omega), List.drop_of_length_le (by omega), List.drop_of_length_le (by omega), pas_nil]
        refine ⟨?_, rfl⟩
        rw [List.take_of_length_le (by omega)] at hm
        exact hm
theorem bks_pas (lt : Int → Int → Bool) {run : Nat} (hr : 0 < run) {F : List Int} (h : bks run F) : bks (2 * run) (pas lt run F) := by
  intro k
  have h1 := take_perm_pas lt hr F k
  refine apt_perm (A := F.take (k * (2 * run))) (B := F.drop (k * (2 * run))) ?_ h1.1 ?_
  · rw [show k * (2 * run) = (k * 2) * run from by rw [Nat.mul_assoc]]
    exact h (k * 2)
  · rw [h1.2]; exact pas_perm lt hr _
theorem rnd_tie (R : List (List Int)) (n : Nat) : ∀ (m run : Nat) (F : List Int), 0 < run → n - run ≤ m → bks run F → rnd (rlt R) n run F = rnd (rltT R) n run F
  | 0, run, F, _, hm, _ => by rw [rnd_off _ F (by omega), rnd_off _ F (by omega)]
  | m + 1, run, F, h, hm, hb => by
    by_cases h2 : run < n
    · rw [rnd_on _ F h h2, rnd_on _ F h h2, pas_tie R h F hb]
      exact rnd_tie R n m (2 * run) _ (by omega) (by omega) (bks_pas _ h hb)
    · rw [rnd_off _ F h2, rnd_off _ F h2]
/-- The numbers from 0 on. -/
def nums (n : Nat) : List Int := List.map (fun i : Nat => (i : Int)) (List.range n)
theorem nums_len (n : Nat) : (nums n).length = n := by simp [nums]
theorem nums_at {n i : Nat} (h : i < (nums n).length) : (nums n)[i] = (i : Int) := by simp [nums]
theorem nums_bks (n : Nat) : bks 1 (nums n) := by
  intro k x hx y hy
  rw [Nat.mul_one] at hx hy
  obtain ⟨i, hi, rfl⟩ := List.mem_iff_getElem.1 hx
  obtain ⟨j, hj, rfl⟩ := List.mem_iff_getElem.1 hy
  rw [List.length_take] at hi
  rw [List.getElem_take, List.getElem_drop, nums_at, nums_at]
  omega
theorem mem_nums {n : Nat} {x : Int} : x ∈ nums n ↔ 0 ≤ x ∧ x < n := by
  unfold nums
  rw [List.mem_map]
  constructor
  · rintro ⟨i, hi, rfl⟩
    rw [List.mem_range] at hi
    omega
  · rintro ⟨h0, h1⟩
    exact ⟨x.toNat, by rw [List.mem_range]; omega, by omega⟩
theorem srt_nums (R : List (List Int)) (n : Nat) : srt (rlt R) (nums n) = srt (rltT R) (nums n) := rnd_tie R _ _ 1 _ (by omega) (Nat.le_refl _) (nums_bks n)
/-- A list that is all there and in order is the sorted one. -/
theorem rows_eq (R : List (List Int)) (n : Nat) {X : List Int} (hp : X.Perm (nums n)) (hs : srtd (rltT R) X) : srt (rlt R) (nums n) = X := by
  rw [srt_nums]
  exact srtd_uniq (rltT_sto R) ((srt_perm _ _).trans hp.symm) (srt_srtd (rltT_sto R) _) hs

/-- Put in: behind the last one that it isn't ahead of. -/
def InsP {α : Type} (lt : α → α → Bool) (x : α) (L R : List α) : Prop :=
  ∃ at_ : Nat, at_ ≤ L.length ∧ (∀ i (h : i < L.length), at_ ≤ i → lt x L[i] = true) ∧ (∀ i (h : i < L.length), i + 1 = at_ → lt x L[i] = false) ∧ R = L.take at_ ++ x :: L.drop at_
theorem InsP.perm {α : Type} {lt : α → α → Bool} {x : α} {L R : List α} (h : InsP lt x L R) : R.Perm (x :: L) := by
  obtain ⟨k, hk, _, _, rfl⟩ := h
  refine List.perm_middle.trans (List.Perm.cons x ?_)
  rw [List.take_append_drop]
theorem InsP.srtd {α : Type} {lt : α → α → Bool} (hs : STO lt) {x : α} {L R : List α} (h : InsP lt x L R) (hL : srtd lt L) : srtd lt R := by
  obtain ⟨k, hk, h1, h2, rfl⟩ := h
  have hg := List.pairwise_iff_getElem.1 hL
  have hb : ∀ i (hi : i < L.length), i < k → lt x L[i] = false := by
    intro i hi hik
    have hlast := h2 (k - 1) (by omega) (by omega)
    by_cases e : i = k - 1
    · subst e; exact hlast
    · have := hg i (k - 1) hi (by omega) (by omega)
      exact hs.neg this hlast
  unfold Go.Proofs.Ytcbgknlklpandaa.srtd
  rw [List.pairwise_append]
  refine ⟨hL.sublist (List.take_sublist _ _), List.pairwise_cons.2 ⟨fun y hy => ?_, hL.sublist (List.drop_sublist _ _)⟩, fun a ha b hb' => ?_⟩
  · obtain ⟨j, hj, rfl⟩ := List.mem_iff_getElem.1 hy
    rw [List.getElem_drop]
    exact hs.asym (h1 (k + j) (by rw [List.length_drop] at hj; omega) (by omega))
  · obtain ⟨i, hi, rfl⟩ := List.mem_iff_getElem.1 ha
    rw [List.length_take] at hi
    rw [List.getElem_take]
    rcases List.mem_cons.1 hb' with rfl | hb'
    · exact hb i (by omega) (by omega)
    · obtain ⟨j, hj, rfl⟩ := List.mem_iff_getElem.1 hb'
      rw [List.length_drop] at hj
      rw [List.getElem_drop]
      exact hg i (k + j) (by omega) (by omega) (by omega)
theorem InsP.len {α : Type} {lt : α → α → Bool} {x : α} {L R : List α} (h : InsP lt x L R) : R.length = L.length + 1 := by rw [h.perm.length_eq]; rfl
def ilt (a b : Int) : Bool := decide (a < b)
theorem ilt_sto : STO ilt := by
  constructor
  · intro a; simp [ilt]
  · intro a b c h k; simp [ilt] at *; omega
  · intro a b h k; simp [ilt] at *; omega
theorem ilt_le {L : List Int} : srtd ilt L ↔ L.Pairwise (· ≤ ·) := by
  unfold srtd
  have : (fun a b : Int => ilt b a = false) = (fun a b : Int => a ≤ b) := by
    funext a b; simp [ilt]
  rw [this]
end Go.Proofs.Ytcbgknlklpandaa
