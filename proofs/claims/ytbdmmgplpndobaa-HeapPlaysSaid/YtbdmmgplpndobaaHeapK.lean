/- Plain: a pile taken away. And the heap's take, from outside. -/
import Derived.Test.YtbdmmgplpndobaaHeapQ
namespace Go.Proofs.Ytbdmmgplpndobaa
open Go.RowKit Go.Sort Go.Deep

theorem set_last_perm {T : List Pile} {x : Pile} {i : Nat} (hi : i < T.length) : (T[i] :: T.set i x).Perm (T ++ [x]) := by
  have h1 : i < (T ++ [x]).length := by simp; omega
  have h2 : T.length < (T ++ [x]).length := by simp
  have h := List.set_set_perm h1 h2
  have e1 : (T ++ [x])[T.length] = x := by simp
  have e2 : (T ++ [x])[i] = T[i] := List.getElem_append_left hi
  rw [e1, e2, List.set_append_left _ _ hi, List.set_append_right _ _ (by simp)] at h
  simp only [List.length_set, Nat.sub_self, List.set_cons_zero] at h
  exact (List.perm_append_comm (l₁ := [T[i]]) (l₂ := T.set i x)).trans h
theorem remF_perm {Q : List Pile} {i : Nat} (hi : i < Q.length) : (pA Q i :: remF Q i).Perm Q := by
  obtain ⟨n, hn⟩ : ∃ n, Q.length = n + 1 := ⟨Q.length - 1, by omega⟩
  have hQ : Q = Q.take n ++ [pA Q n] := by
    rw [pA_at (by omega), ← List.take_succ_eq_append_getElem, List.take_of_length_le (by omega)]
  have hTl : (Q.take n).length = n := by rw [List.length_take]; omega
  have hr : remF Q i = if i = n then Q.take n else sinkF ((riseF (i + 1) ((Q.take n).set i (pA Q n)) i).length + 1 - i) (riseF (i + 1) ((Q.take n).set i (pA Q n)) i) i := by
    unfold remF; rw [hn]; rfl
  rw [hr]
  split
  · rename_i h
    subst h
    exact (List.perm_append_comm (l₁ := [pA Q i])).trans (.of_eq hQ.symm)
  · rename_i h
    have hit : i < (Q.take n).length := by omega
    have hpi : pA Q i = (Q.take n)[i] := by rw [pA_at hi, List.getElem_take]
    have hl : i < ((Q.take n).set i (pA Q n)).length := by rw [List.length_set]; omega
    refine (List.Perm.cons _ ((sinkF_perm _ _ _ (by rw [riseF_len]; exact hl)).trans (riseF_perm _ _ _ hl))).trans ?_
    rw [hpi]
    exact (set_last_perm hit).trans (.of_eq hQ.symm)
theorem set_cons_erase : ∀ (P : List Pile) (i : Nat) (x : Pile), i < P.length → (P.set i x).Perm (x :: P.eraseIdx i)
  | [], _, _, h => by simp at h
  | q :: P, 0, x, _ => by simp
  | q :: P, i + 1, x, h => by
    have := set_cons_erase P i x (by simpa using h)
    simp only [List.set_cons_succ, List.eraseIdx_cons_succ]
    exact (this.cons q).trans (List.Perm.swap x q _)
theorem takF_pos {P : List Pile} {i : Nat} (hp : PosT P) (hi : i < P.length) : PosT (takF P i) ∧ sumT (takF P i) = sumT P - 1 := by
  have h1 := hp _ (pA_mem hi)
  unfold takF
  split
  · rename_i h
    have hs := remF_perm (Q := P.set i ((pA P i).1, (pA P i).2 - 1)) (i := i) (by rw [List.length_set]; exact hi)
    have hx : pA (P.set i ((pA P i).1, (pA P i).2 - 1)) i = ((pA P i).1, (pA P i).2 - 1) := by rw [pA_set _ hi]; simp
    rw [hx] at hs
    have hsum := sumT_perm hs
    rw [sumT_set _ _ _ hi] at hsum
    simp only [sumT] at hsum
    refine ⟨?_, by omega⟩
    intro q hq
    have h3 := (hs.trans (set_cons_erase P _ _ hi)).cons_inv
    exact hp q (List.mem_of_mem_eraseIdx (h3.mem_iff.1 hq))
  · refine ⟨hp.set i (by simp only; omega), ?_⟩
    rw [sumT_set _ _ _ hi]; simp only; omega
theorem ltake_n {W : World} {B hb g mb : Nat} {P : List Pile} {cnt : Int} (h : HpI W B hb g mb P cnt) (h0 : 0 < P.length) (hc : cnt ≤ 1000000) :
    Calls Try.prog 38 #[.pointer (some ⟨hb, 0, none⟩), encE3 (pA P 0).1] W fun en w' => en = .returned (.bool true) ∧ Frm hb g mb W w' ∧ HpI w' B hb g mb (takF P 0) (cnt - 1) := by
  have hb1 := h.pos.bound.1
  have hbt := h.pos.at
  have hsu := h.sum
  have ht := takF_pos h.pos h0
  rcases h.st with ⟨rfl, _⟩ | ⟨cap, ps, H, G⟩
  · simp at h0
  · refine (ltake_any H G (by omega) (by omega) (fun i hi => by have := hbt i hi; omega) (pA P 0).1).mono ?_
    rintro en w' (⟨_, _, hn, _⟩ | ⟨i, ps', hi, hk, he, H1, G1, F1⟩)
    · exact absurd rfl (hn 0 h0)
    · obtain rfl : i = 0 := G.inj hi h0 hk
      exact ⟨he, F1, .inr ⟨cap, ps', H1, G1⟩, ht.1, by omega⟩
end Go.Proofs.Ytbdmmgplpndobaa
