/- Rows of structs that a call owns, sorted: what serves any of them (as XEdSort's first part). -/
import Derived.Shelf.SlSortCmp.WholeK
import Derived.Below
import Derived.Lib.Hide
namespace Go.Proofs.Ytbdmmgplpndobaa
open Go.RowKit Go.Sort Go.Shelf Go.Lib

section
variable {α : Type} [Inhabited α] {enc : α → List Value} {k : Nat}
omit [Inhabited α] in
theorem flatMap_len (hk : ∀ x, (enc x).length = k) : ∀ l : List α, (l.flatMap enc).length = l.length * k
  | [] => by simp
  | x :: l => by rw [List.flatMap_cons, List.length_append, hk, flatMap_len hk l, List.length_cons, Nat.add_mul]; omega
omit [Inhabited α] in
theorem flatMap_at (hk : ∀ x, (enc x).length = k) : ∀ (l : List α) (i j : Nat) (hi : i < l.length), j < k → (l.flatMap enc)[i * k + j]? = (enc l[i])[j]?
  | [], i, j, hi, _ => absurd hi (by simp)
  | x :: l, 0, j, _, hj => by
    rw [List.flatMap_cons, Nat.zero_mul, Nat.zero_add, List.getElem?_append_left (by rw [hk]; exact hj)]; rfl
  | x :: l, i + 1, j, hi, hj => by
    rw [List.flatMap_cons, List.getElem?_append_right (by rw [hk, Nat.add_mul]; omega), hk, show (i + 1) * k + j - k = i * k + j from by rw [Nat.add_mul]; omega]
    exact flatMap_at hk l i j (by simpa using hi) hj
theorem flatK_list (hk : ∀ x, (enc x).length = k) (h0 : 0 < k) (d : Array α) : (flatK enc k d).toList = d.toList.flatMap enc := by
  apply List.ext_getElem?
  intro t
  by_cases ht : t < d.size * k
  · have e : t / k < d.size := Nat.div_lt_of_lt_mul (by rw [Nat.mul_comm]; exact ht)
    have hm : t % k < k := Nat.mod_lt _ h0
    have c := flatMap_at hk d.toList (t / k) (t % k) (by simpa using e) hm
    rw [show t / k * k + t % k = t from by rw [Nat.mul_comm]; exact Nat.div_add_mod t k] at c
    have hg : (flatK enc k d)[t]! = (enc d[t / k]!)[t % k]! := get_flatK _ _ _ _ ht
    have hs : t < (flatK enc k d).size := by rw [size_flatK]; exact ht
    rw [getElem!_pos _ t hs] at hg
    rw [c, Array.getElem?_toList, Array.getElem?_eq_getElem hs, hg, getElem!_pos d (t / k) e, Array.getElem_toList]
    have hl : t % k < (enc d[t / k]).length := by rw [hk]; exact hm
    rw [List.getElem?_eq_getElem hl, getElem!_pos (enc d[t / k]) (t % k) hl]
  · rw [List.getElem?_eq_none (by simp [size_flatK]; omega), List.getElem?_eq_none (by rw [flatMap_len hk]; simp; omega)]
theorem own_holdsG (hk : ∀ x, (enc x).length = k) (h0 : 0 < k) {W : World} {base : Nat} {T : TypeId} {g cap : Nat} {d : Array α} (h : W.ownsRow base T k (.slice (some ⟨g, 0, none⟩) d.size cap) d.size (d.toList.flatMap enc)) : HoldsK enc k W g 0 d := by
  intro j hj
  rw [size_flatK] at hj
  rcases h.2 with ⟨e0, _⟩ | ⟨g', cap', cur, e0, hb, hg, hn, hm, hs, ht⟩
  · cases e0
  · injection e0 with e1 _ e3
    injection e1 with e1
    injection e1 with e1
    subst e1; subst e3
    have hj2 : j < (flatK enc k d).size := by rw [size_flatK]; exact hj
    refine ⟨?_, by simp [World.frozen?, hg]⟩
    have e1 : cur.toList[j]? = (flatK enc k d).toList[j]? := by
      rw [flatK_list hk h0, ← ht, List.getElem?_take_of_lt hj]
    rw [Array.getElem?_toList, Array.getElem?_toList, Array.getElem?_eq_getElem hj2] at e1
    simp only [World.cell?, hg, Nat.zero_add, Option.isSome_none, Bool.false_eq_true, if_false]
    rw [e1, getElem!_pos _ j hj2]
    rfl
theorem own_sortedG (hk : ∀ x, (enc x).length = k) (h0 : 0 < k) {W : World} {base : Nat} {T : TypeId} {g cap q : Nat} {n : Nat} {xs : List Value} {d : Array α} (os : Array Obj) (h : W.ownsRow base T k (.slice (some ⟨g, 0, none⟩) n cap) n xs) (hd : d.size = n) :
    (sortWorldK enc k W g 0 q d os).ownsRow base T k (.slice (some ⟨g, 0, none⟩) n cap) n (d.toList.flatMap enc) := by
  rcases h.2 with ⟨e0, _⟩ | ⟨g', cap', cur, e0, hb, hg, hn, hm, hs, ht⟩
  · cases e0
  · injection e0 with e1 _ e3
    injection e1 with e1
    injection e1 with e1
    subst e1; subst e3
    have hgl : g < W.heap.size := (Array.getElem?_eq_some_iff.1 hg).1
    refine ⟨by rw [flatMap_len hk]; simp [hd], .inr ⟨g, cap, putCells id 0 (flatK enc k d) cur, rfl, hb, ?_, hn, hm, by simpa [putCells] using hs, ?_⟩⟩
    · unfold sortWorldK
      rw [heap_grow_old _ _ (by rw [size_putRowK]; exact hgl)]
      simp [putRowK, putRow, mapBlock, Sort.ahead, Array.getElem?_modify, hg, onCells]
    · rw [← flatK_list hk h0]
      apply List.ext_getElem?
      intro j
      rw [List.getElem?_take, Array.getElem?_toList, Array.getElem?_toList]
      have hnk : n * k ≤ cap * k := Nat.mul_le_mul_right k hn
      by_cases hj : j < n * k
      · have hjc : j < cur.size := by omega
        have hj2 : j < (flatK enc k d).size := by rw [size_flatK, hd]; exact hj
        rw [if_pos hj, Array.getElem?_eq_getElem hj2]
        simp only [putCells, Array.getElem?_mapIdx, Array.getElem?_eq_getElem hjc, Option.map_some]
        rw [if_pos ⟨by omega, by omega⟩, Nat.sub_zero, getElem!_pos _ j hj2]
        rfl
      · rw [if_neg hj, Array.getElem?_eq_none (by rw [size_flatK, hd]; omega)]
theorem below_sortedG {B : Nat} {w0 w : World} {g q : Nat} {d : Array α} (os : Array Obj) (h : Below B w0 w) (hg : B ≤ g) (hB : B ≤ w.heap.size) : Below B w0 (sortWorldK enc k w g 0 q d os) := by
  refine ⟨h.os, h.tape, h.output, ?_, fun j hj => ?_⟩
  · have := h.size
    unfold sortWorldK
    rw [size_grow, size_putRowK]
    show _ ≤ w.heap.size + _
    omega
  · rw [← h.block j hj]
    unfold sortWorldK
    rw [heap_grow_old _ _ (by rw [size_putRowK]; show j < w.heap.size; omega)]
    simp [putRowK, putRow, mapBlock, Sort.ahead, Array.getElem?_modify, show g ≠ j by omega]
end

end Go.Proofs.Ytbdmmgplpndobaa
