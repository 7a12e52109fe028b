/- Plain: how often an entry is in the heap; what is popped of the heap of a sorted list is its first. -/
import Derived.Test.YtbdmmgplpndobaaHeapO
namespace Go.Proofs.Ytbdmmgplpndobaa
open Go.RowKit Go.Sort Go.Deep

def cntE : List Pile → E3 → Int
  | [], _ => 0
  | p :: P, x => (if p.1 = x then p.2 else 0) + cntE P x
theorem cntE_perm {P Q : List Pile} (h : P.Perm Q) (x : E3) : cntE P x = cntE Q x := by
  induction h with
  | nil => rfl
  | cons a _ ih => simp only [cntE]; omega
  | swap a b l => simp only [cntE]; omega
  | trans _ _ h1 h2 => exact h1.trans h2
theorem cntE_set : ∀ (P : List Pile) (i : Nat) (t : Int) (x : E3), i < P.length → cntE (P.set i ((pA P i).1, t)) x = cntE P x + (if (pA P i).1 = x then t - (pA P i).2 else 0)
  | [], _, _, _, h => by simp at h
  | q :: P, 0, t, x, _ => by
    simp only [List.set_cons_zero, cntE, pA, List.getD_cons_zero]
    split <;> omega
  | q :: P, i + 1, t, x, h => by
    have := cntE_set P i t x (by simpa using h)
    simp only [List.set_cons_succ, cntE, pA, List.getD_cons_succ] at *
    rw [this]
    exact (Int.add_assoc _ _ _).symm
theorem AdS.cnt {P P' : List Pile} {e : E3} (h : AdS P e P') (x : E3) : cntE P' x = cntE P x + (if e = x then 1 else 0) := by
  rcases h with ⟨_, rfl⟩ | ⟨i, hi, hk, rfl⟩
  · rw [cntE_perm (addF_perm P e)]
    simp only [cntE]
    omega
  · rw [cntE_set _ _ _ _ hi, hk]
    split <;> omega
theorem AdR.all : ∀ {L : List E3} {P P' : List Pile}, AdR P L P' → hO P → hO P' ∧ ∀ x, cntE P' x = cntE P x + (L.count x : Int)
  | [], P, P', h, ho => by
    cases h
    exact ⟨ho, fun x => by simp⟩
  | e :: L, P, P', ⟨P1, h1, h2⟩, ho => by
    obtain ⟨a, b⟩ := AdR.all h2 (h1.ord ho)
    refine ⟨a, fun x => ?_⟩
    rw [b, h1.cnt, List.count_cons]
    by_cases c : e = x
    · subst c; simp; omega
    · simp [c]
theorem takF_cnt {P : List Pile} {i : Nat} (hi : i < P.length) (x : E3) : cntE (takF P i) x = cntE P x - (if (pA P i).1 = x then 1 else 0) := by
  unfold takF
  split
  · rename_i h
    have hl : i < (P.set i ((pA P i).1, (pA P i).2 - 1)).length := by rw [List.length_set]; exact hi
    have hs := cntE_perm (remF_perm hl) x
    have hx : pA (P.set i ((pA P i).1, (pA P i).2 - 1)) i = ((pA P i).1, (pA P i).2 - 1) := by rw [pA_set _ hi]; simp
    rw [hx, cntE_set _ _ _ _ hi] at hs
    simp only [cntE, h] at hs
    split at hs <;> split <;> simp_all <;> omega
  · rw [cntE_set _ _ _ _ hi]
    split <;> omega
theorem cntE_pos : ∀ {P : List Pile} {x : E3}, PosT P → 0 < cntE P x → ∃ i, i < P.length ∧ (pA P i).1 = x
  | [], _, _, h => by simp [cntE] at h
  | p :: P, x, hp, h => by
    by_cases c : p.1 = x
    · exact ⟨0, by simp, c⟩
    · simp only [cntE, if_neg c, Int.zero_add] at h
      obtain ⟨i, hi, e⟩ := cntE_pos (P := P) (fun q hq => hp q (List.mem_cons_of_mem _ hq)) h
      exact ⟨i + 1, by simpa using hi, e⟩
theorem cntE_nn : ∀ {P : List Pile}, PosT P → ∀ x, 0 ≤ cntE P x
  | [], _, _ => Int.le_refl _
  | p :: P, hp, x => by
    have h1 := cntE_nn (P := P) (fun q hq => hp q (List.mem_cons_of_mem _ hq)) x
    have h2 := hp p List.mem_cons_self
    simp only [cntE]
    split <;> omega
theorem cntE_at : ∀ {P : List Pile} {i : Nat}, PosT P → i < P.length → 0 < cntE P (pA P i).1
  | [], _, _, h => by simp at h
  | p :: P, 0, hp, _ => by
    have h1 := cntE_nn (P := P) (fun q hq => hp q (List.mem_cons_of_mem _ hq)) p.1
    have h2 := hp p List.mem_cons_self
    show 0 < cntE (p :: P) p.1
    simp only [cntE, if_true]
    omega
  | p :: P, i + 1, hp, h => by
    have h1 := cntE_at (P := P) (i := i) (fun q hq => hp q (List.mem_cons_of_mem _ hq)) (by simpa using h)
    have h2 := hp p List.mem_cons_self
    show 0 < cntE (p :: P) (pA P i).1
    simp only [cntE]
    split <;> omega
/-- The heap of what is left of a sorted list: its first is the list's. -/
theorem first_is {P : List Pile} {S : List E3} {i : Nat} (hp : PosT P) (ho : hO P) (hs : S.Pairwise (fun p q => ltE q p = false)) (hi : i < S.length) (hc : ∀ x, cntE P x = ((S.drop i).count x : Int)) :
    0 < P.length ∧ (pA P 0).1 = S[i] := by
  have hd : S.drop i = S[i] :: S.drop (i + 1) := List.drop_eq_getElem_cons hi
  have h1 : 0 < cntE P S[i] := by
    rw [hc, hd, List.count_cons]
    simp
  obtain ⟨j, hj, hk⟩ := cntE_pos hp h1
  have h0 : 0 < P.length := by omega
  refine ⟨h0, ?_⟩
  have a : lE (kA P 0) (kA P j) := ho.least j j (Nat.le_refl _) hj
  have e : kA P j = S[i] := hk
  rw [e] at a
  have h2 := cntE_at hp h0
  rw [hc] at h2
  have hm : (pA P 0).1 ∈ S.drop i := List.count_pos_iff.1 (by omega)
  have b : lE S[i] (kA P 0) := by
    rw [hd] at hm
    rcases List.mem_cons.1 hm with c | c
    · unfold kA; rw [c]; exact lE_refl _
    · have hs2 := hs.sublist (List.drop_sublist i S)
      rw [hd, List.pairwise_cons] at hs2
      exact hs2.1 _ c
  exact ltE_sto.tri _ _ b a
theorem drop_cnt {S : List E3} {i : Nat} (hi : i < S.length) (x : E3) : ((S.drop (i + 1)).count x : Int) = ((S.drop i).count x : Int) - (if S[i] = x then 1 else 0) := by
  rw [List.drop_eq_getElem_cons hi, List.count_cons]
  by_cases c : S[i] = x
  · simp [c]
  · simp [c]
end Go.Proofs.Ytbdmmgplpndobaa
