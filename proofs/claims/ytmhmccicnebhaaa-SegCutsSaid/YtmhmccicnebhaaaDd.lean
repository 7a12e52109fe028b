/- Plain facts on lists that lose what is the same as the one ahead, and on cuts put in order. Nothing of the program. -/
import Derived.Test.YtmhmccicnebhaaaCutGeo
namespace Go.Proofs.Ytmhmccicnebhaaa

def lastP (O : List (Int × Int)) : Int × Int := O.getD (O.length - 1) (0, 0)
theorem lastP_snoc (O : List (Int × Int)) (p : Int × Int) : lastP (O ++ [p]) = p := by unfold lastP; simp
/-- One more, if it is not the same as the last. -/
def dstep (O : List (Int × Int)) (p : Int × Int) : List (Int × Int) := if p = lastP O then O else O ++ [p]
def dd (O P : List (Int × Int)) : List (Int × Int) := P.foldl dstep O
theorem dd_snoc (O P : List (Int × Int)) (p : Int × Int) : dd O (P ++ [p]) = dstep (dd O P) p := by simp [dd]
theorem dstep_len (O : List (Int × Int)) (p : Int × Int) : O.length ≤ (dstep O p).length ∧ (dstep O p).length ≤ O.length + 1 := by
  unfold dstep; split <;> simp
theorem dd_len (O : List (Int × Int)) : ∀ P : List (Int × Int), O.length ≤ (dd O P).length ∧ (dd O P).length ≤ O.length + P.length := by
  intro P
  induction P generalizing O with
  | nil => simp [dd]
  | cons p P ih =>
    have h1 := ih (dstep O p)
    have h2 := dstep_len O p
    have e : dd O (p :: P) = dd (dstep O p) P := rfl
    rw [e, List.length_cons]; omega
theorem dd_half {a b : Int × Int} {xs ys : List Int} : ∀ (P S M : List (Int × Int)) (h : Int × Int), Half a S M h → lastP (a :: M) = h → (∀ p ∈ P, p ∈ rawL a b xs ys) → (∀ p ∈ S, p ∈ rawL a b xs ys) →
    P.Pairwise (fun p q => dist a p ≤ dist a q) → (∀ s ∈ S, ∀ p ∈ P, dist a s ≤ dist a p) → ∃ M' h', dd (a :: M) P = a :: M' ∧ Half a (S ++ P) M' h' ∧ lastP (a :: M') = h'
  | [], S, M, h, hh, hl, _, _, _, _ => ⟨M, h, rfl, by rw [List.append_nil]; exact hh, hl⟩
  | p :: P, S, M, h, hh, hl, hP, hS, hpw, hSP => by
    rw [List.pairwise_cons] at hpw
    have hp := hP p (by simp)
    have hst := hh.step (b := b) (xs := xs) (ys := ys) (p := p) (fun q hq => ⟨hS q hq, hSP q hq p (by simp)⟩) hp
    have e : dd (a :: M) (p :: P) = dd (dstep (a :: M) p) P := rfl
    have hS' : ∀ q ∈ S ++ [p], q ∈ rawL a b xs ys := fun q hq => by
      rw [List.mem_append, List.mem_singleton] at hq
      rcases hq with hq | rfl
      · exact hS q hq
      · exact hp
    have hSP' : ∀ s ∈ S ++ [p], ∀ q ∈ P, dist a s ≤ dist a q := fun s hs q hq => by
      rw [List.mem_append, List.mem_singleton] at hs
      rcases hs with hs | rfl
      · exact hSP s hs q (by simp [hq])
      · exact hpw.1 q hq
    by_cases heq : p = h
    · have hd : dstep (a :: M) p = a :: M := by unfold dstep; rw [hl, if_pos heq]
      obtain ⟨M', h', k1, k2, k3⟩ := dd_half P (S ++ [p]) M h (hst.1 heq) hl (fun q hq => hP q (by simp [hq])) hS' hpw.2 hSP'
      exact ⟨M', h', by rw [e, hd]; exact k1, by simpa using k2, k3⟩
    · have hd : dstep (a :: M) p = a :: (M ++ [p]) := by unfold dstep; rw [hl, if_neg heq]; rfl
      obtain ⟨M', h', k1, k2, k3⟩ := dd_half P (S ++ [p]) (M ++ [p]) p (hst.2 heq) (by rw [← List.cons_append]; exact lastP_snoc _ _) (fun q hq => hP q (by simp [hq])) hS' hpw.2 hSP'
      exact ⟨M', h', by rw [e, hd]; exact k1, by simpa using k2, k3⟩
/-- The whole: from the first end by all cuts, in order, to the other end. -/
theorem dd_cuts {a b : Int × Int} {xs ys : List Int} {P : List (Int × Int)} (hpw : P.Pairwise (fun p q => dist a p ≤ dist a q)) (hP : ∀ p, p ∈ P ↔ p ∈ rawL a b xs ys) :
    ∃ M, IsCuts a b xs ys M ∧ ((M = [] ∧ (dd [a] (P ++ [b])).length < 3) ∨ (M ≠ [] ∧ dd [a] (P ++ [b]) = a :: (M ++ [b]))) := by
  obtain ⟨M, h, k1, k2, k3⟩ := dd_half P [] [] a (Half.start a) rfl (fun p hp => (hP p).1 hp) (fun p hp => by cases hp) hpw (fun s hs => by cases hs)
  refine ⟨M, k2.cuts (by simpa using hP), ?_⟩
  rw [dd_snoc, k1]
  by_cases hM : M = []
  · left
    subst hM
    refine ⟨rfl, ?_⟩
    have := (dstep_len [a] b).2
    simp at this ⊢
    omega
  · right
    refine ⟨hM, ?_⟩
    have hb : b ≠ lastP (a :: M) := by
      rw [k3]
      rcases k2.2.2 with ⟨_, e⟩ | ⟨_, hm, _⟩
      · exact absurd e hM
      · have := (k2.2.1 h).1 hm
        rw [List.nil_append] at this
        exact fun e => (raw_ne ((hP h).1 this)).2 e.symm
    unfold dstep
    rw [if_neg hb]; rfl

/-- A cut more in order: they rise. -/
theorem put_rise {α : Type} (f : α → Int) {L : List α} {c : α} {k : Nat} (hk : k ≤ L.length) (hL : L.Pairwise (fun p q => f p ≤ f q)) (h1 : ∀ j (h : j < L.length), k ≤ j → f c ≤ f L[j]) (h2 : ∀ h : k - 1 < L.length, 0 < k → f (L[k - 1]) ≤ f c) :
    (L.take k ++ c :: L.drop k).Pairwise (fun p q => f p ≤ f q) := by
  have hlow : ∀ p ∈ L.take k, f p ≤ f c := by
    intro p hp
    obtain ⟨j, hj, rfl⟩ := List.getElem_of_mem hp
    rw [List.length_take] at hj
    rw [List.getElem_take]
    have hj' : j < L.length := by omega
    rcases Nat.lt_or_ge j (k - 1) with q | q
    · have := List.pairwise_iff_getElem.1 hL j (k - 1) hj' (by omega) q
      exact Int.le_trans this (h2 (by omega) (by omega))
    · obtain rfl : j = k - 1 := by omega
      exact h2 (by omega) (by omega)
  have hhigh : ∀ p ∈ L.drop k, f c ≤ f p := by
    intro p hp
    obtain ⟨j, hj, rfl⟩ := List.getElem_of_mem hp
    rw [List.length_drop] at hj
    rw [List.getElem_drop]
    exact h1 _ (by omega) (by omega)
  rw [List.pairwise_append, List.pairwise_cons]
  refine ⟨hL.sublist (List.take_sublist _ _), ⟨hhigh, hL.sublist (List.drop_sublist _ _)⟩, fun p hp q hq => ?_⟩
  rw [List.mem_cons] at hq
  rcases hq with rfl | hq
  · exact hlow p hp
  · exact Int.le_trans (hlow p hp) (hhigh q hq)
theorem put_perm {α : Type} (L : List α) (c : α) (k : Nat) : (L.take k ++ c :: L.drop k).Perm (c :: L) := by
  have h := (List.perm_middle (a := c) (l₁ := L.take k) (l₂ := L.drop k))
  rw [List.take_append_drop] at h
  exact h
end Go.Proofs.Ytmhmccicnebhaaa
