/- Regions in which rows are appended to in any order: what lies where behind each step. -/
import Derived.Test.YtabeajgfgbfdeaaTurned2
import Derived.Deep.AppendLies
import Derived.Deep.RegionHeld3
import Derived.Deep.Upon
namespace Go.Proofs.Ytabeajgfgbfdeaa
open Go.RowKit

theorem hp_new {W : World} {o : Obj} {k : Nat} (h : k = W.heap.size) : (W.alloc o).heap[k]? = some o := by subst h; exact heap_alloc_new W o
theorem hp_alloc {W : World} {o o' : Obj} {k : Nat} (h : W.heap[k]? = some o) : (W.alloc o').heap[k]? = some o := by
  exact (World.grownBy_alloc W o' none).block k (Array.getElem?_eq_some_iff.1 h).1 (by simp) |>.trans h
theorem hp_drew {W : World} {o : Obj} {k : Nat} (h : W.heap[k]? = some o) : W.drew.heap[k]? = some o := h
theorem hp_below {W w1 : World} {o : Obj} {k : Nat} (hb : Below W.heap.size W w1) (h : W.heap[k]? = some o) : w1.heap[k]? = some o := by
  rw [hb.block k (Array.getElem?_eq_some_iff.1 h).1]; exact h
theorem hp_grown {W w1 : World} {row : Option Nat} {o : Obj} {k : Nat} (hg : W.grownBy w1 row) (h : W.heap[k]? = some o) (hne : some k ≠ row) : w1.heap[k]? = some o := by
  rw [hg.block k (Array.getElem?_eq_some_iff.1 h).1 hne]; exact h
theorem keep4g {w W w1 : World} {row : Option Nat} {k0 k1 : Nat} {v0 v1 v2 v3 : Value} (hg : W.grownBy w1 row)
    (h : W.cell? ⟨k0, 0, none⟩ = some v0 ∧ W.cell? ⟨k0, 1, none⟩ = some v1 ∧ W.cell? ⟨k1, 0, none⟩ = some v2 ∧ W.cell? ⟨k1, 1, none⟩ = some v3 ∧ Below w.heap.size w W) (B : Nat) (hr : ∀ q, row = some q → B ≤ q) (hz : B ≤ W.heap.size) (hw : w.heap.size ≤ B) (h0 : k0 < B) (h1 : k1 < B) :
    w1.cell? ⟨k0, 0, none⟩ = some v0 ∧ w1.cell? ⟨k0, 1, none⟩ = some v1 ∧ w1.cell? ⟨k1, 0, none⟩ = some v2 ∧ w1.cell? ⟨k1, 1, none⟩ = some v3 ∧ Below w.heap.size w w1 := by
  have hb : Below B W w1 := (Below.refl _ _).grown hg hz (fun q hq => hr q hq)
  exact ⟨(hb.cell (p := ⟨k0, 0, none⟩) h0).trans h.1, (hb.cell (p := ⟨k0, 1, none⟩) h0).trans h.2.1, (hb.cell (p := ⟨k1, 0, none⟩) h1).trans h.2.2.1, (hb.cell (p := ⟨k1, 1, none⟩) h1).trans h.2.2.2.1, h.2.2.2.2.trans (hb.mono hw)⟩
/-- A slice of one point, in a block of its own. -/
theorem own_one {W : World} {base k : Nat} {T : TypeId} {x y : Int} (hb : base ≤ k) (h : W.heap[k]? = some (.cells #[.int .i64 x, .int .i64 y] T)) : W.ownsRow base T 2 (.slice (some ⟨k, 0, none⟩) 1 1) 1 (cells [(x, y)]) :=
  ⟨rfl, .inr ⟨k, 1, _, rfl, hb, h, Nat.le_refl _, by unfold maxLen; omega, rfl, rfl⟩⟩
theorem cells_all (L : List (Int × Int)) : ∀ u ∈ cells L, u.oneCell' = true := by
  intro u hu
  unfold cells at hu
  rw [List.mem_flatMap] at hu
  obtain ⟨p, _, hp⟩ := hu
  simp at hp
  rcases hp with rfl | rfl <;> rfl
/-- A row of points to be appended: nil, or some. -/
def Src (W : World) (v : Value) (L : List (Int × Int)) : Prop :=
  ∃ (q : Option Addr) (c : Nat), v = .slice q L.length c ∧ (L ≠ [] → ∃ g o, q = some ⟨g, o, none⟩ ∧ ∀ j u, (cells L)[j]? = some u → W.cell? ((⟨g, o, none⟩ : Addr).add j) = some u)
theorem own_src {W : World} {base : Nat} {T : TypeId} {v : Value} {L : List (Int × Int)} (h : W.ownsRow base T 2 v L.length (cells L)) : Src W v L := by
  obtain ⟨p, cap, rfl, _, hr⟩ := own_row h
  refine ⟨p, cap, rfl, fun hn => ?_⟩
  obtain ⟨g, rfl, _, _, _, _⟩ := hr 0 (List.length_pos_iff.2 hn)
  exact ⟨g, 0, rfl, h.cells (g := g) rfl⟩
theorem run_append_src {P : Program} (w : World) (t ty : TypeId) (base : Nat) (e : TypeId) (i : TypeInfo) (z : Value) (bytes : Nat) (ht : P.underlying t = some (.slice e)) (hi : P.info? e = some i) (hz : i.zero = some z)
    (hsize : i.size = 2) (hby : i.bytes = bytes) (hzs : z.cells.size = 2) (v : Value) (n : Nat) (xs : List Value) (hown : w.ownsRow base e 2 v n xs) (x : Value) (L : List (Int × Int)) (hs : Src w x L)
    (h63 : n + L.length ≤ maxLen) (hbytes : (n + L.length) * bytes ≤ 140737488355328) (hbase : base ≤ w.heap.size) :
    ∃ v' w', (Builtin.append_ #[t, t] ty #[v, x]).run P w = .ok v' w' ∧ w'.ownsRow base e 2 v' (n + L.length) (xs ++ cells L) ∧ w.grownBy w' v.ownBlock := by
  obtain ⟨q, c, rfl, hq⟩ := hs
  by_cases hL : L = []
  · subst hL
    rcases hown.2 with ⟨rfl, rfl⟩ | ⟨g, cap, cur, rfl, hbg, hg, hnc, rest⟩
    · refine ⟨.slice none 0 0, w, ?_, by simpa [cells_nil] using hown, ⟨rfl, rfl, rfl, Nat.le_refl _, fun _ _ _ => rfl⟩⟩
      cases q <;> simp [Builtin.append_, run_underlying ht, sizeOf, typeInfo, hi, Builtin.lenOf, Builtin.firstCells, loadCells, loadCellsFrom]
    · refine ⟨.slice (some ⟨g, 0, none⟩) n cap, w, by cases q <;> simp [Builtin.append_, run_underlying ht, sizeOf, typeInfo, hi, Builtin.lenOf, Builtin.firstCells, loadCells, loadCellsFrom, storeCells, hnc], by simpa [cells_nil] using hown, ⟨rfl, rfl, rfl, Nat.le_refl _, fun _ _ _ => rfl⟩⟩
  · obtain ⟨g, o, rfl, hc⟩ := hq hL
    obtain ⟨v', w', h1, h2, h3, _⟩ := run_append_own (P := P) w base t ty e i z 2 bytes ht hi hz hsize hby hzs (by omega) v n xs hown ⟨g, o, none⟩ L.length c (cells L) (cells_len L) hc (cells_all L) h63 hbytes hbase
    exact ⟨v', w', h1, h2, h3⟩

/-- At a step of a region that draws its order. -/
theorem step_append_src {P : Program} {w : World} {ops : Array Oper} {o : Oper} {a : Act} {K : Act → World → Prop} {Q : Exit → Act → World → Prop} {E : Prop} (hgd : o.guard = none) (s x : Operand) (t : TypeId)
    (ho : o.op = .call { callee := .builtin .append, args := #[s, x], argTypes := #[t, t] })
    (base : Nat) (e : TypeId) (i : TypeInfo) (z : Value) (bytes : Nat) (ht : P.underlying t = some (.slice e)) (hi : P.info? e = some i) (hz : i.zero = some z)
    (hsize : i.size = 2) (hby : i.bytes = bytes) (hzs : z.cells.size = 2) (v : Value) (n : Nat) (xs : List Value) (hs : a.eval s = v) (hown : w.ownsRow base e 2 v n xs) (y : Value) (L : List (Int × Int)) (hx : a.eval x = y) (hsrc : Src w y L)
    (h63 : n + L.length ≤ maxLen) (hbytes : (n + L.length) * bytes ≤ 140737488355328) (hbase : base ≤ w.heap.size)
    (h : ∀ v' w', w'.ownsRow base e 2 v' (n + L.length) (xs ++ cells L) → w.grownBy w' v.ownBlock → K (a.put o.dst v') w') :
    if Region.wanted o (yielded ops a.tmps) = true then Oper.wp P o a w K Q else E := by
  have hw : Region.wanted o (yielded ops a.tmps) = true := by simp [Region.wanted, hgd]
  rw [if_pos hw]
  obtain ⟨v', w', hr, h2, h3⟩ := run_append_src (P := P) w t o.type base e i z bytes ht hi hz hsize hby hzs v n xs hown y L hsrc h63 hbytes hbase
  unfold Oper.wp execOp
  simp only [ho, resolve, invoke, builtin, Sem.run_bind, Sem.run_pure, Result.andThen_ok, List.map_toArray, List.map_cons, List.map_nil, hs, hx, hr]
  exact h v' w' h2 h3
end Go.Proofs.Ytabeajgfgbfdeaa
