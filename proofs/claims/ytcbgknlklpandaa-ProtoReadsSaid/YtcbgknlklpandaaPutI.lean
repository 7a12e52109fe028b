/- The document's Put at numbers, and rows of numbers as the next calls want them. -/
import Derived.Test.YtcbgknlklpandaaFind
import Derived.Test.YtcbgknlklpandaaLex
import Derived.Deep.CutBlock
import Derived.Deep.QuietTactic
import Derived.IntWalk
namespace Go.Proofs.Ytcbgknlklpandaa
open Go.RowKit Go.Sort

theorem below_alloc (W : World) (o : Obj) : Below W.heap.size W (W.alloc o) := (Below.refl _ _).alloc (Nat.le_refl _) _
theorem IL.new {W : World} {gt k : Nat} {v : Value} {L : List Int} (h : IL W gt v L) (hk : W.heap.size ≤ k) : IL W k v L := by
  obtain ⟨q, c, rfl, hc, hi⟩ := h
  refine ⟨q, c, rfl, hc, fun i hlt => ?_⟩
  obtain ⟨g, o, hq, _, hcell⟩ := hi i hlt
  have := World.block_lt_of_cell? W _ hcell
  exact ⟨g, o, hq, by simp at this; omega, hcell⟩
theorem IL.keep {W w1 : World} {gt : Nat} {v : Value} {L : List Int} (hb : Below W.heap.size W w1) (h : IL W gt v L) : IL w1 w1.heap.size v L :=
  IL.new (IL.grown (h.new (Nat.le_refl _)) (grown_below hb)) (Nat.le_refl _)
theorem own_IL {W : World} {base : Nat} {v : Value} {L : List Int} (h : W.ownsRow base 3 1 v L.length (icells L)) : IL W W.heap.size v L := by
  have h0 := h
  rcases h.2 with ⟨rfl, hz⟩ | ⟨g, cap, cur, rfl, _, _, hc, _⟩
  · have hz : L = [] := List.eq_nil_of_length_eq_zero hz
    subst hz
    exact ⟨none, 0, rfl, Nat.le_refl _, fun i hi => absurd hi (by simp)⟩
  · refine IL.new (gt := g + 1) ⟨_, cap, rfl, hc, fun i hi => ⟨g, 0, rfl, by omega, ?_⟩⟩ ?_
    · rw [Nat.zero_add]
      have hc := h0.cells (g := g) rfl i (.int .i64 L[i]) (by unfold icells; rw [List.getElem?_map, List.getElem?_eq_getElem hi]; rfl)
      rw [add_at, Nat.zero_add] at hc
      exact hc
    · exact Nat.le_refl _
theorem wp_append_srcO {P : Program} {w : World} {o : Oper} {a : Act} {K : Act → World → Prop} {Q : Exit → Act → World → Prop} (s x : Operand) (t : TypeId)
    (ho : o.op = .call { callee := .builtin .append, args := #[s, x], argTypes := #[t, t] })
    (base : Nat) (e : TypeId) (i : TypeInfo) (z : Value) (size bytes : Nat) (ht : P.underlying t = some (.slice e)) (hi : P.info? e = some i) (hz : i.zero = some z)
    (hsize : i.size = size) (hby : i.bytes = bytes) (hzs : z.cells.size = size) (hsz : 0 < size) (v : Value) (n : Nat) (xs : List Value) (hs : a.eval s = v) (hown : w.ownsRow base e size v n xs) (y : Value) (m : Nat) (ys : List Value) (hx : a.eval x = y) (hsrc : SrcO w y m ys) (hl : ys.length = m * size) (h1 : ∀ u ∈ ys, u.oneCell' = true)
    (h63 : n + m ≤ maxLen) (hbytes : (n + m) * bytes ≤ 140737488355328) (hbase : base ≤ w.heap.size)
    (h : ∀ v' w', w'.ownsRow base e size v' (n + m) (xs ++ ys) → w.grownBy w' v.ownBlock → K (a.put o.dst v') w') : o.wp P a w K Q := by
  obtain ⟨v', w', hr, h2, h3⟩ := run_append_srcO (P := P) w t o.type base e i z size bytes ht hi hz hsize hby hzs hsz v n xs hown y m ys hsrc hl h1 h63 hbytes hbase
  unfold Oper.wp execOp
  simp only [ho, resolve, invoke, builtin, Sem.run_bind, Sem.run_pure, Result.andThen_ok, List.map_toArray, List.map_cons, List.map_nil, hs, hx, hr]
  exact h v' w' h2 h3
theorem wpList_append_srcO {P : Program} {w : World} {ops : Array Oper} {rest : List Oper} {o : Oper} {a : Act} {Q : Exit → Act → World → Prop} (hgd : o.guard = none) (s x : Operand) (t : TypeId)
    (ho : o.op = .call { callee := .builtin .append, args := #[s, x], argTypes := #[t, t] })
    (base : Nat) (e : TypeId) (i : TypeInfo) (z : Value) (size bytes : Nat) (ht : P.underlying t = some (.slice e)) (hi : P.info? e = some i) (hz : i.zero = some z)
    (hsize : i.size = size) (hby : i.bytes = bytes) (hzs : z.cells.size = size) (hsz : 0 < size) (v : Value) (n : Nat) (xs : List Value) (hs : a.eval s = v) (hown : w.ownsRow base e size v n xs) (y : Value) (m : Nat) (ys : List Value) (hx : a.eval x = y) (hsrc : SrcO w y m ys) (hl : ys.length = m * size) (h1 : ∀ u ∈ ys, u.oneCell' = true)
    (h63 : n + m ≤ maxLen) (hbytes : (n + m) * bytes ≤ 140737488355328) (hbase : base ≤ w.heap.size)
    (h : ∀ v' w', w'.ownsRow base e size v' (n + m) (xs ++ ys) → w.grownBy w' v.ownBlock → wpList P ops Q rest (a.put o.dst v') w') : wpList P ops Q (o :: rest) a w :=
  wpList_plain hgd fun _ hK => wp_append_srcO s x t ho base e i z size bytes ht hi hz hsize hby hzs hsz v n xs hs hown y m ys hx hsrc hl h1 h63 hbytes hbase fun v' w' h2 h3 => hK _ _ (h v' w' h2 h3)

/-- How far the search has come. -/
def PutAtI (x : Int) (L : List Int) (k : Nat) : Prop := k ≤ L.length ∧ (∀ i (h : i < L.length), k ≤ i → ilt x L[i] = true) ∧ (∀ i (h : i < L.length), i + 1 = k → ilt x L[i] = false)
def PutPostI (x : Int) (L : List Int) (w : World) (e : Ending) (w' : World) : Prop :=
  ∃ R u, InsP ilt x L R ∧ e = .returned u ∧ w'.ownsRow w.heap.size 3 1 u R.length (icells R) ∧ Below w.heap.size w w'
theorem src_take {W : World} {q : Option Addr} {n c k : Nat} {L : List Int} (h : SrcO W (.slice q n c) n (icells L)) (_ : L.length = n) (hk : k ≤ n) : SrcO W (.slice q k c) k (icells (L.take k)) := by
  obtain ⟨q1, c1, e, h⟩ := h
  cases e
  refine ⟨q, c, rfl, fun hn => ?_⟩
  obtain ⟨g, o, e, hc⟩ := h (by omega)
  refine ⟨g, o, e, fun j u hj => hc j u ?_⟩
  unfold icells at *
  rw [List.map_take, List.getElem?_take] at hj
  split at hj
  · exact hj
  · cases hj
theorem src_drop {W : World} {g o n c k : Nat} {L : List Int} (h : SrcO W (.slice (some ⟨g, o, none⟩) n c) n (icells L)) (_ : L.length = n) (hk : k ≤ n) : SrcO W (.slice (some ⟨g, o + k, none⟩) (n - k) (c - k)) (n - k) (icells (L.drop k)) := by
  obtain ⟨q1, c1, e, h⟩ := h
  cases e
  refine ⟨_, _, rfl, fun hn => ⟨g, o + k, rfl, fun j u hj => ?_⟩⟩
  obtain ⟨g1, o1, e, hc⟩ := h (by omega)
  cases e
  unfold icells at *
  rw [List.map_drop, List.getElem?_drop] at hj
  have := hc (k + j) u hj
  rw [add_at] at this ⊢
  rw [Nat.add_assoc]; exact this
theorem src_none (W : World) (q : Option Addr) (c : Nat) : SrcO W (.slice q 0 c) 0 (icells []) := ⟨q, c, rfl, fun h => absurd rfl h⟩
theorem icells_nil : icells [] = [] := rfl
theorem new_srcO (W : World) (T : TypeId) (x : Int) : SrcO (W.alloc (.cells #[.int .i64 x] T)) (.slice (some ⟨W.heap.size, 0, none⟩) 1 1) 1 (icells [x]) := new_src1 W T x

theorem own_zeroI {W : World} {base k size : Nat} {T : TypeId} (hb : base ≤ k) (h : W.heap[k]? = some (.cells #[] T)) : W.ownsRow base T size (.slice (some ⟨k, 0, none⟩) 0 0) 0 [] := by
  refine ⟨by simp, .inr ⟨k, 0, #[], rfl, hb, h, Nat.le_refl _, by unfold maxLen; omega, by simp, by simp⟩⟩
end Go.Proofs.Ytcbgknlklpandaa
