/- Plain: a list of piles, risen and sunk. Nothing of the program but the entries' order. -/
import Derived.Test.YtbdmmgplpndobaaHeapS
namespace Go.Proofs.Ytbdmmgplpndobaa
open Go.RowKit Go.Sort Go.Deep

def pA (P : List Pile) (i : Nat) : Pile := P.getD i ((0, 0, 0), 0)
theorem pA_at {P : List Pile} {i : Nat} (h : i < P.length) : pA P i = P[i] := by
  unfold pA; rw [List.getD_eq_getElem?_getD, List.getElem?_eq_getElem h]; rfl
theorem pA_set {P : List Pile} {i : Nat} (p : Pile) (h : i < P.length) (j : Nat) : pA (P.set i p) j = if j = i then p else pA P j := by
  unfold pA
  rw [List.getD_eq_getElem?_getD, List.getD_eq_getElem?_getD, List.getElem?_set]
  by_cases e : i = j
  · subst e; simp [h]
  · have : ¬ j = i := fun c => e c.symm
    simp [e, this]
def swpL (P : List Pile) (a b : Nat) : List Pile := (P.set a (pA P b)).set b (pA P a)
theorem swpL_len (P : List Pile) (a b : Nat) : (swpL P a b).length = P.length := by unfold swpL; rw [List.length_set, List.length_set]
theorem pA_swp {P : List Pile} {a b : Nat} (ha : a < P.length) (hb : b < P.length) (j : Nat) : pA (swpL P a b) j = if j = b then pA P a else if j = a then pA P b else pA P j := by
  unfold swpL
  rw [pA_set _ (by rw [List.length_set]; exact hb), pA_set _ ha]
/-- The map says where each entry lies, and nothing else. -/
def Gd (P : List Pile) (ps : List (E3 × Int)) : Prop := ∀ e v, lkE ps e = some v ↔ ∃ i : Nat, i < P.length ∧ (pA P i).1 = e ∧ v = (i : Int)
theorem Gd.at {P : List Pile} {ps : List (E3 × Int)} (h : Gd P ps) {i : Nat} (hi : i < P.length) : lkE ps (pA P i).1 = some (i : Int) := (h _ _).2 ⟨i, hi, rfl, rfl⟩
theorem Gd.inj {P : List Pile} {ps : List (E3 × Int)} (h : Gd P ps) {i j : Nat} (hi : i < P.length) (hj : j < P.length) (e : (pA P i).1 = (pA P j).1) : i = j := by
  have h1 := h.at hi
  have h2 := h.at hj
  rw [e, h2] at h1
  injection h1 with h1
  omega
def updS (P : List Pile) (ps : List (E3 × Int)) (a b : Nat) : List (E3 × Int) := updM (updM ps (pA P b).1 (a : Int)) (pA P a).1 (b : Int)
theorem Gd.swp {P : List Pile} {ps : List (E3 × Int)} (h : Gd P ps) {a b : Nat} (ha : a < P.length) (hb : b < P.length) : Gd (swpL P a b) (updS P ps a b) := by
  intro e v
  unfold updS
  rw [lkE_upd, lkE_upd, swpL_len]
  by_cases h1 : e = (pA P a).1
  · subst h1
    rw [if_pos rfl]
    constructor
    · intro hv
      injection hv with hv
      exact ⟨b, hb, by rw [pA_swp ha hb, if_pos rfl], hv.symm⟩
    · rintro ⟨i, hi, he, rfl⟩
      rw [pA_swp ha hb] at he
      split at he
      · rename_i e2; rw [e2]
      · split at he
        · rename_i e3 e4
          have := h.inj hb ha he
          omega
        · rename_i e3 e4
          have := h.inj hi ha he
          omega
  · rw [if_neg h1]
    by_cases h2 : e = (pA P b).1
    · subst h2
      rw [if_pos rfl]
      constructor
      · intro hv
        injection hv with hv
        have hne : a ≠ b := fun c => h1 (by rw [c])
        exact ⟨a, ha, by rw [pA_swp ha hb, if_neg hne, if_pos rfl], hv.symm⟩
      · rintro ⟨i, hi, he, rfl⟩
        rw [pA_swp ha hb] at he
        split at he
        · exact absurd he.symm h1
        · split at he
          · rename_i e3 e4; rw [e4]
          · rename_i e3 e4
            have := h.inj hi hb he
            omega
    · rw [if_neg h2, h e v]
      constructor
      · rintro ⟨i, hi, he, rfl⟩
        refine ⟨i, hi, ?_, rfl⟩
        rw [pA_swp ha hb]
        split
        · rename_i c; subst c; exact absurd he.symm h2
        · split
          · rename_i c; subst c; exact absurd he.symm h1
          · exact he
      · rintro ⟨i, hi, he, rfl⟩
        refine ⟨i, hi, ?_, rfl⟩
        rw [pA_swp ha hb] at he
        split at he
        · exact absurd he.symm h1
        · split at he
          · exact absurd he.symm h2
          · exact he
def riseF : Nat → List Pile → Nat → List Pile
  | 0, P, _ => P
  | n + 1, P, i => if i = 0 then P else if ltE (pA P i).1 (pA P ((i - 1) / 2)).1 then riseF n (swpL P i ((i - 1) / 2)) ((i - 1) / 2) else P
theorem riseF_len : ∀ (n : Nat) (P : List Pile) (i : Nat), (riseF n P i).length = P.length
  | 0, P, _ => rfl
  | n + 1, P, i => by
    unfold riseF
    split
    · rfl
    · split
      · rw [riseF_len, swpL_len]
      · rfl
/-- The first of the two below that is less. -/
def least1 (P : List Pile) (i : Nat) : Nat := if 2 * i + 1 < P.length ∧ ltE (pA P (2 * i + 1)).1 (pA P i).1 = true then 2 * i + 1 else i
def least2 (P : List Pile) (i : Nat) : Nat := if 2 * i + 2 < P.length ∧ ltE (pA P (2 * i + 2)).1 (pA P (least1 P i)).1 = true then 2 * i + 2 else least1 P i
def sinkF : Nat → List Pile → Nat → List Pile
  | 0, P, _ => P
  | n + 1, P, i => if least2 P i = i then P else sinkF n (swpL P i (least2 P i)) (least2 P i)
theorem sinkF_len : ∀ (n : Nat) (P : List Pile) (i : Nat), (sinkF n P i).length = P.length
  | 0, P, _ => rfl
  | n + 1, P, i => by
    unfold sinkF
    split
    · rfl
    · rw [sinkF_len, swpL_len]
theorem least1_lt {P : List Pile} {i : Nat} (h : i < P.length) : least1 P i < P.length ∧ i ≤ least1 P i := by
  unfold least1; split <;> omega
theorem least2_lt {P : List Pile} {i : Nat} (h : i < P.length) : least2 P i < P.length ∧ i ≤ least2 P i := by
  have := least1_lt h
  unfold least2; split <;> omega
end Go.Proofs.Ytbdmmgplpndobaa
