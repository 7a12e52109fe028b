/- Rows of points: PI, a slice of points none of which lies in the block gt. -/
import Derived.Test.YtbdmmgplpndobaaMrg
import Derived.Test.YtbdmmgplpndobaaPutI
namespace Go.Proofs.Ytbdmmgplpndobaa
open Go.RowKit Go.Sort

def encP (p : Int × Int) : List Value := [.int .i64 p.1, .int .i64 p.2]
theorem encP_one (p : Int × Int) : ∀ u ∈ encP p, u.oneCell' = true := by
  intro u hu; simp [encP] at hu; rcases hu with rfl | rfl <;> rfl
def pcells (L : List (Int × Int)) : List Value := L.flatMap encP
theorem pcells_nil : pcells [] = [] := rfl
theorem pcells_cons (p : Int × Int) (L : List (Int × Int)) : pcells (p :: L) = encP p ++ pcells L := rfl
theorem pcells_app (L M : List (Int × Int)) : pcells (L ++ M) = pcells L ++ pcells M := by simp [pcells]
theorem pcells_len : ∀ L : List (Int × Int), (pcells L).length = L.length * 2
  | [] => rfl
  | p :: L => by rw [pcells_cons, List.length_append, pcells_len L]; simp [encP]; omega
theorem pcells_one (L : List (Int × Int)) : ∀ u ∈ pcells L, u.oneCell' = true := by
  intro u hu
  obtain ⟨p, _, h⟩ := List.mem_flatMap.1 hu
  exact encP_one p u h
theorem pcells_at : ∀ (L : List (Int × Int)) (i : Nat) (h : i < L.length), (pcells L)[i * 2]? = some (.int .i64 L[i].1) ∧ (pcells L)[i * 2 + 1]? = some (.int .i64 L[i].2)
  | p :: L, 0, _ => by rw [pcells_cons]; exact ⟨rfl, rfl⟩
  | p :: L, i + 1, h => by
    have ih := pcells_at L i (by simpa using h)
    rw [pcells_cons]
    have e : (i + 1) * 2 = i * 2 + 1 + 1 := by omega
    rw [e]
    exact ih
theorem pcells_take (L : List (Int × Int)) (k : Nat) : pcells (L.take k) = (pcells L).take (k * 2) := by
  by_cases h : k ≤ L.length
  · have e : pcells L = pcells (L.take k) ++ pcells (L.drop k) := by rw [← pcells_app, List.take_append_drop]
    rw [e, List.take_left' (by rw [pcells_len, List.length_take]; omega)]
  · rw [List.take_of_length_le (by omega), List.take_of_length_le (by rw [pcells_len]; omega)]
theorem pcells_drop (L : List (Int × Int)) (k : Nat) : pcells (L.drop k) = (pcells L).drop (k * 2) := by
  by_cases h : k ≤ L.length
  · have e : pcells L = pcells (L.take k) ++ pcells (L.drop k) := by rw [← pcells_app, List.take_append_drop]
    rw [e, List.drop_left' (by rw [pcells_len, List.length_take]; omega)]
  · rw [List.drop_of_length_le (by omega), List.drop_of_length_le (by rw [pcells_len]; omega)]; rfl
/-- A slice of points, none of them in the block gt. -/
def PI (W : World) (gt : Nat) (v : Value) (L : List (Int × Int)) : Prop :=
  ∃ q c, v = .slice q L.length c ∧ L.length ≤ c ∧ ∀ i (h : i < L.length), ∃ g o, q = some ⟨g, o, none⟩ ∧ g ≠ gt ∧ W.cell? ⟨g, o + i * 2, none⟩ = some (.int .i64 L[i].1) ∧ W.cell? ⟨g, o + i * 2 + 1, none⟩ = some (.int .i64 L[i].2)
theorem PI.grown {W w1 : World} {gt : Nat} {v : Value} {L : List (Int × Int)} (h : PI W gt v L) (hg : W.grownBy w1 (some gt)) : PI w1 gt v L := by
  obtain ⟨q, c, rfl, hc, hi⟩ := h
  refine ⟨q, c, rfl, hc, fun i hlt => ?_⟩
  obtain ⟨g, o, hq, hne, h1, h2⟩ := hi i hlt
  exact ⟨g, o, hq, hne, hg.cell h1 (by simp [hne]), hg.cell h2 (by simp [hne])⟩
theorem PI.srcO {W : World} {gt : Nat} {v : Value} {L : List (Int × Int)} (h : PI W gt v L) : SrcO W v L.length (pcells L) := by
  obtain ⟨q, c, rfl, hc, hi⟩ := h
  refine ⟨q, c, rfl, fun h0 => ?_⟩
  obtain ⟨g, o, rfl, _, _⟩ := hi 0 (by omega)
  refine ⟨g, o, rfl, fun j u hj => ?_⟩
  have hjl := (List.getElem?_eq_some_iff.1 hj).1
  rw [pcells_len] at hjl
  obtain ⟨g', o', e, _, h1, h2⟩ := hi (j / 2) (by omega)
  cases e
  have hp := pcells_at L (j / 2) (by omega)
  rw [add_at]
  by_cases hm : j % 2 = 0
  · have e : j / 2 * 2 = j := by omega
    rw [e] at h1 hp
    rw [h1]
    rw [hp.1] at hj
    exact hj
  · have e : j / 2 * 2 + 1 = j := by omega
    rw [Nat.add_assoc, e] at h2
    rw [e] at hp
    rw [h2]
    rw [hp.2] at hj
    exact hj
theorem PI.src {W : World} {gt : Nat} {v : Value} {L : List (Int × Int)} (h : PI W gt v L) : ∃ q c, v = .slice q L.length c ∧ (L.length ≠ 0 → ∃ g o, q = some ⟨g, o, none⟩ ∧ ∀ j u, (pcells L)[j]? = some u → W.cell? ((⟨g, o, none⟩ : Addr).add j) = some u) := h.srcO
theorem PI.nil (W : World) (gt : Nat) (q : Option Addr) (c : Nat) : PI W gt (.slice q 0 c) [] := ⟨q, c, rfl, Nat.zero_le _, fun i h => absurd h (by simp)⟩
theorem PI.tail {W : World} {gt g o c : Nat} {x : Int × Int} {L : List (Int × Int)} (h : PI W gt (.slice (some ⟨g, o, none⟩) (x :: L).length c) (x :: L)) : PI W gt (.slice (some ⟨g, o + 2, none⟩) L.length (c - 1)) L := by
  obtain ⟨q, c', e, hc, hi⟩ := h
  injection e with e1 _ e3
  subst e1; subst e3
  rw [List.length_cons] at hc
  refine ⟨_, _, rfl, by omega, fun i hlt => ?_⟩
  obtain ⟨g', o', e, hne, h1, h2⟩ := hi (i + 1) (by rw [List.length_cons]; omega)
  injection e with e
  injection e with e1 e2
  subst e1; subst e2
  refine ⟨g, o + 2, rfl, hne, ?_, ?_⟩
  · rw [show o + 2 + i * 2 = o + (i + 1) * 2 from by omega]
    simpa using h1
  · rw [show o + 2 + i * 2 + 1 = o + (i + 1) * 2 + 1 from by omega]
    simpa using h2
theorem PI.len {W : World} {gt : Nat} {q : Option Addr} {n c : Nat} {L : List (Int × Int)} (h : PI W gt (.slice q n c) L) : L.length = n := by
  obtain ⟨_, _, e, _⟩ := h
  injection e with _ e2
  exact e2.symm
theorem PI.new {W : World} {gt k : Nat} {v : Value} {L : List (Int × Int)} (h : PI W gt v L) (hk : W.heap.size ≤ k) : PI W k v L := by
  obtain ⟨q, c, rfl, hc, hi⟩ := h
  refine ⟨q, c, rfl, hc, fun i hlt => ?_⟩
  obtain ⟨g, o, hq, _, hcell, h2⟩ := hi i hlt
  have := World.block_lt_of_cell? W _ hcell
  exact ⟨g, o, hq, by simp at this; omega, hcell, h2⟩
theorem PI.keep {W w1 : World} {gt : Nat} {v : Value} {L : List (Int × Int)} (hb : Below W.heap.size W w1) (h : PI W gt v L) : PI w1 w1.heap.size v L :=
  PI.new (PI.grown (h.new (Nat.le_refl _)) (grown_below hb)) (Nat.le_refl _)
theorem PI.at {W : World} {gt : Nat} {q : Option Addr} {n c : Nat} {L : List (Int × Int)} (h : PI W gt (.slice q n c) L) {i : Nat} (hi : i < L.length) : ∃ g o, q = some ⟨g, o, none⟩ ∧ W.cell? ⟨g, o + i * 2, none⟩ = some (.int .i64 L[i].1) ∧ W.cell? ⟨g, o + i * 2 + 1, none⟩ = some (.int .i64 L[i].2) := by
  obtain ⟨q1, c1, e, _, h⟩ := h
  cases e
  obtain ⟨g, o, e, _, hc⟩ := h i hi
  exact ⟨g, o, e, hc⟩
theorem own_PI {W : World} {base : Nat} {T : TypeId} {v : Value} {L : List (Int × Int)} (h : W.ownsRow base T 2 v L.length (pcells L)) : PI W W.heap.size v L := by
  have h0 := h
  rcases h.2 with ⟨rfl, hz⟩ | ⟨g, cap, cur, rfl, _, _, hc, _⟩
  · have hz : L = [] := List.eq_nil_of_length_eq_zero hz
    subst hz
    exact PI.nil _ _ _ _
  · refine PI.new (gt := g + 1) ⟨_, cap, rfl, hc, fun i hi => ⟨g, 0, rfl, by omega, ?_⟩⟩ (Nat.le_refl _)
    have hp := pcells_at L i hi
    have h1 := h0.cells (g := g) rfl _ _ hp.1
    have h2 := h0.cells (g := g) rfl _ _ hp.2
    rw [add_at] at h1 h2
    exact ⟨h1, h2⟩
theorem new_srcP (W : World) (T : TypeId) (x : Int × Int) : ∃ q c, Value.slice (some ⟨W.heap.size, 0, none⟩) 1 1 = .slice q 1 c ∧ (1 ≠ 0 → ∃ g o, q = some ⟨g, o, none⟩ ∧ ∀ j u, (encP x)[j]? = some u → (W.alloc (.cells #[.int .i64 x.1, .int .i64 x.2] T)).cell? ((⟨g, o, none⟩ : Addr).add j) = some u) := by
  refine ⟨_, _, rfl, fun _ => ⟨_, _, rfl, fun j u hj => ?_⟩⟩
  match j, hj with
  | 0, hj => simp [encP] at hj; subst hj; rw [add_at]; go_simp
  | 1, hj => simp [encP] at hj; subst hj; rw [add_at]; go_simp
theorem src_takeP {W : World} {q : Option Addr} {n c k : Nat} {L : List (Int × Int)} (h : SrcO W (.slice q n c) n (pcells L)) (hk : k ≤ n) : SrcO W (.slice q k c) k (pcells (L.take k)) := by
  obtain ⟨q1, c1, e, h⟩ := h
  cases e
  refine ⟨q, c, rfl, fun hn => ?_⟩
  obtain ⟨g, o, e, hc⟩ := h (by omega)
  refine ⟨g, o, e, fun j u hj => hc j u ?_⟩
  rw [pcells_take, List.getElem?_take] at hj
  split at hj
  · exact hj
  · cases hj
theorem src_dropP {W : World} {g o n c k : Nat} {L : List (Int × Int)} (h : SrcO W (.slice (some ⟨g, o, none⟩) n c) n (pcells L)) (hk : k ≤ n) : SrcO W (.slice (some ⟨g, o + k * 2, none⟩) (n - k) (c - k)) (n - k) (pcells (L.drop k)) := by
  obtain ⟨q1, c1, e, h⟩ := h
  cases e
  refine ⟨_, _, rfl, fun hn => ⟨g, o + k * 2, rfl, fun j u hj => ?_⟩⟩
  obtain ⟨g1, o1, e, hc⟩ := h (by omega)
  cases e
  rw [pcells_drop, List.getElem?_drop] at hj
  have := hc (k * 2 + j) u hj
  rw [add_at] at this ⊢
  rw [Nat.add_assoc]; exact this
theorem keepG2 {W w1 w2 : World} {gt g o o' : Nat} {v v' : Value} (h : w1.cell? ⟨g, o, none⟩ = some v ∧ w1.cell? ⟨g, o', none⟩ = some v' ∧ W.grownBy w1 (some gt)) (hg : w1.grownBy w2 (some gt)) (hne : g ≠ gt) : w2.cell? ⟨g, o, none⟩ = some v ∧ w2.cell? ⟨g, o', none⟩ = some v' ∧ W.grownBy w2 (some gt) :=
  ⟨hg.cell h.1 (by simp [hne]), hg.cell h.2.1 (by simp [hne]), h.2.2.trans hg⟩
theorem infoAP : (Try.prog.info? 50).map (fun i => (i.zero, i.size, i.bytes)) = some (some (.agg #[.int .i64 0, .int .i64 0]), 2, 16) := by kernel_rfl
theorem infoRP : (Try.prog.info? 62).map (fun i => (i.zero, i.size, i.bytes)) = some (some (.agg #[.int .i64 0, .int .i64 0]), 2, 16) := by kernel_rfl
theorem take_minG {α : Type} {l : List α} {k m : Nat} (h : k = min m l.length) : l.take k = l.take m := by
  subst h; rcases Nat.le_total m l.length with h | h
  · rw [Nat.min_eq_left h]
  · rw [Nat.min_eq_right h, List.take_of_length_le (Nat.le_refl _), List.take_of_length_le h]
end Go.Proofs.Ytbdmmgplpndobaa
