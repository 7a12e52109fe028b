/- Plain: the heap's piles against the document's list. -/
import Derived.Test.YtbdmmgplpndobaaHeapD
import Derived.Test.YtbdmmgplpndobaaHeapL
namespace Go.Proofs.Ytbdmmgplpndobaa
open Go.RowKit Go.Sort Go.Deep

/-- In order. -/
def risE (S : List E3) : Prop := S.Pairwise (fun p q => ltE q p = false)
/-- The list is what the piles hold, in order. -/
structure MdI (P : List Pile) (S : List E3) : Prop where
  ris : risE S
  cnt : ∀ x, cntE P x = (S.count x : Int)
theorem risE_uniq : ∀ {A B : List E3}, A.Perm B → risE A → risE B → A = B
  | [], B, h, _, _ => (List.nil_perm.1 h).symm
  | a :: A, [], h, _, _ => by simpa using h.length_eq
  | a :: A, b :: B, h, hA, hB => by
    unfold risE at hA hB
    rw [List.pairwise_cons] at hA hB
    have hab : a = b := by
      rcases List.mem_cons.1 (h.mem_iff.1 List.mem_cons_self) with e | e
      · exact e
      · rcases List.mem_cons.1 (h.mem_iff.2 List.mem_cons_self) with e2 | e2
        · exact e2.symm
        · exact ltE_sto.tri _ _ (hB.1 a e) (hA.1 b e2)
    subst hab
    rw [risE_uniq (List.Perm.cons_inv h) hA.2 hB.2]
theorem MdI.nil : MdI [] [] := ⟨.nil, fun x => by simp [cntE]⟩
/-- All that the heap tells is the list. -/
theorem MdI.all {P : List Pile} {S M : List E3} (h : MdI P S) (hp : PosT P) (hm : M.Perm (bagL P)) (hs : M.Pairwise (fun p q => ltE q p = false)) : M = S := by
  refine risE_uniq (hm.trans (List.perm_iff_count.2 (fun x => ?_))) hs h.ris
  have h1 := bagL_cnt hp x
  rw [h.cnt] at h1
  omega
theorem MdI.len {P : List Pile} {S : List E3} (h : MdI P S) (hp : PosT P) : sumT P = (S.length : Int) := by
  rw [← bagL_len hp]
  have hpm : (bagL P).Perm S := List.perm_iff_count.2 (fun x => by
    have h1 := bagL_cnt hp x
    rw [h.cnt] at h1
    omega)
  rw [hpm.length_eq]
theorem MdI.push {P P' : List Pile} {S R : List E3} {e : E3} (h : MdI P S) (ha : AdS P e P') (hr : R.Perm (e :: S)) (hs : risE R) : MdI P' R :=
  ⟨hs, fun x => by
    rw [ha.cnt, h.cnt, hr.count_eq, List.count_cons]
    by_cases c : e = x
    · subst c; simp
    · simp [c]⟩
theorem MdI.first {P : List Pile} {s : E3} {S : List E3} (h : MdI P (s :: S)) (hp : PosT P) (ho : hO P) : 0 < P.length ∧ (pA P 0).1 = s :=
  first_is (S := s :: S) (i := 0) hp ho h.ris (by simp) (fun x => by rw [h.cnt]; rfl)
theorem MdI.none {P : List Pile} (h : MdI P []) (hp : PosT P) : P = [] := by
  have := h.len hp
  have hb := hp.bound.1
  exact List.eq_nil_of_length_eq_zero (by simp at this; omega)
theorem MdI.pop {P : List Pile} {s : E3} {S : List E3} (h : MdI P (s :: S)) (hp : PosT P) (ho : hO P) : MdI (takF P 0) S := by
  obtain ⟨h0, hk⟩ := h.first hp ho
  refine ⟨(List.pairwise_cons.1 h.ris).2, fun x => ?_⟩
  rw [takF_cnt h0, hk, h.cnt, List.count_cons]
  by_cases c : s = x
  · subst c; simp
  · simp [c]
/-- One entry less: it went if it was there. -/
theorem MdI.take {P P' : List Pile} {S : List E3} {e : E3} {b : Bool} (h : MdI P S) (hp : PosT P) (ht : TaS P e P' b) : (b = true ↔ e ∈ S) ∧ MdI P' (S.erase e) := by
  rcases ht with ⟨rfl, hn, rfl⟩ | ⟨rfl, i, hi, hk, rfl⟩
  · have hne : e ∉ S := fun hm => by
      have h1 : 0 < cntE P' e := by rw [h.cnt]; have := List.count_pos_iff.2 hm; omega
      obtain ⟨i, hi, he⟩ := cntE_pos hp h1
      exact hn i hi he
    exact ⟨by simp [hne], by rw [List.erase_of_not_mem hne]; exact h⟩
  · have h1 := cntE_at hp hi
    rw [hk, h.cnt] at h1
    have hm : e ∈ S := List.count_pos_iff.1 (by omega)
    refine ⟨by simp [hm], h.ris.sublist List.erase_sublist, fun x => ?_⟩
    rw [takF_cnt hi, hk, h.cnt, List.count_erase]
    by_cases c : e = x
    · subst c
      have := List.count_pos_iff.2 hm
      simp; omega
    · simp [c]
end Go.Proofs.Ytbdmmgplpndobaa
