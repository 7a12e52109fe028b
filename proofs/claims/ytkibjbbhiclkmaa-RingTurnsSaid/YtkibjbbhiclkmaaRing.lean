/- What the walks of rings share: whether all points may be, sums over edges. -/
import Derived.Test.YtkibjbbhiclkmaaEdges
import Derived.Test.YtkibjbbhiclkmaaRingGeo
import Derived.Test.YtkibjbbhiclkmaaSegWalk
import Derived.Lib.QuietBelow
namespace Go.Proofs.Ytkibjbbhiclkmaa
open Go.RowKit Go.Shelf Go.Sort

def okL (L : List (Int × Int)) : Bool := L.all fun p => okp p.1 p.2
theorem okL_pall (L : List (Int × Int)) : pall L.length (fun i => (ptA L i).1) (fun i => (ptA L i).2) = okL L := by
  unfold pall okL
  rw [Bool.eq_iff_iff, List.all_eq_true, List.all_eq_true]
  constructor
  · intro h p hp
    obtain ⟨i, hi, rfl⟩ := List.getElem_of_mem hp
    have := h i (List.mem_range.2 hi)
    simp only [ptA_at hi] at this
    exact this
  · intro h i hi
    rw [List.mem_range] at hi
    simp only [ptA_at hi]
    exact h _ (List.getElem_mem hi)
theorem okL_at {L : List (Int × Int)} (h : okL L = true) {i : Nat} (hi : i < L.length) : okp (ptA L i).1 (ptA L i).2 = true := by
  unfold okL at h
  rw [List.all_eq_true] at h
  rw [ptA_at hi]
  exact h _ (List.getElem_mem hi)

set_option maxRecDepth 100000 in
set_option maxHeartbeats 400000 in
theorem right_zero (p : Option Addr) (cap : Nat) (w : World) : Calls Try.prog 55 #[.slice p 0 cap] w fun e w' => e = .returned (.bool true) ∧ Below w.heap.size w w' := by
  go_enter Try.func55, Try.ntmps55
  go_wp2
  go_loop [7] (fun i => i = .int .i64 0) (fun _ => 0)
  case atStart => rfl
  case round =>
    subst hrel
    go_wp2
    go_ret
    exact ⟨rfl, Below.refl _ _⟩
theorem right_pl {w : World} {v : Value} {L : List (Int × Int)} (h : PL w v L) (hL : L.length ≤ 1000000) : Calls Try.prog 55 #[v] w fun e w' => e = .returned (.bool (okL L)) ∧ Below w.heap.size w w' := by
  obtain ⟨p, cap, rfl, _, hi⟩ := h
  by_cases hz : L = []
  · subst hz; exact right_zero p cap w
  · obtain ⟨b, off, rfl, hb, _, _⟩ := hi 0 (List.length_pos_iff.2 hz)
    rw [← okL_pall]
    have key : ∀ i, i < L.length → w.cell? ⟨b, off + i * 2, none⟩ = some (.int .i64 (ptA L i).1) ∧ w.cell? ⟨b, off + i * 2 + 1, none⟩ = some (.int .i64 (ptA L i).2) := by
      intro i hil
      obtain ⟨b', off', e, _, c0, c1⟩ := hi i hil
      obtain ⟨rfl, rfl⟩ : b' = b ∧ off' = off := by injection e with e; injection e with e1 e2; exact ⟨e1.symm, e2.symm⟩
      rw [ptA_at hil]; exact ⟨c0, c1⟩
    exact right_any b off L.length cap _ _ w (by omega) hb (fun i hil => (key i hil).1) (fun i hil => (key i hil).2)

/-- A sum over what has come. -/
def sumE (f : (Int × Int) × (Int × Int) → Int) (pre : List ((Int × Int) × (Int × Int))) : Int := (pre.map f).sum
theorem sumE_snoc (f : (Int × Int) × (Int × Int) → Int) (pre : List ((Int × Int) × (Int × Int))) (x : (Int × Int) × (Int × Int)) : sumE f (pre ++ [x]) = sumE f pre + f x := by simp [sumE]
theorem sumE_upto (f : (Int × Int) × (Int × Int) → Int) (E : Nat → (Int × Int) × (Int × Int)) : ∀ k, sumE f (upto E k) = sm (fun i => f (E i)) k
  | 0 => rfl
  | k + 1 => by rw [upto_succ, sumE_snoc, sumE_upto f E k]; rfl
theorem sumE_in (f : (Int × Int) × (Int × Int) → Int) (M : Int) (h : ∀ x, -M ≤ f x ∧ f x ≤ M) : ∀ pre, -(pre.length * M) ≤ sumE f pre ∧ sumE f pre ≤ pre.length * M := by
  intro pre
  induction pre with
  | nil => simp [sumE]
  | cons x pre ih =>
    have := h x
    have e : sumE f (x :: pre) = f x + sumE f pre := by simp [sumE]
    have e2 : ((x :: pre).length : Int) * M = pre.length * M + M := by rw [List.length_cons, Int.natCast_add, Int.add_mul]; simp
    omega
/-- A block of cells that stays. -/
theorem heap_own {β : Type} (B : Nat) (o : Obj) (ho : o.isCells = true) : Own (fun (_ : β) W => W.heap[B]? = some o) := fun s X Y row hs hg hrow =>
  (hg.block B (Array.getElem?_eq_some_iff.1 hs).1 (fun e => by
    obtain ⟨o', h1, h2⟩ := hrow B e.symm
    rw [hs] at h1
    obtain rfl := Option.some.inj h1
    rw [ho] at h2; cases h2)).trans hs
/-- A point in a block of its own. -/
def PtB (W : World) (B : Nat) (p : Int × Int) : Prop := W.heap[B]? = some (.cells #[.int .i64 p.1, .int .i64 p.2] 24)
theorem PtB.cells {W : World} {B : Nat} {p : Int × Int} (h : PtB W B p) : W.cell? ⟨B, 0, none⟩ = some (.int .i64 p.1) ∧ W.cell? ⟨B, 1, none⟩ = some (.int .i64 p.2) := by
  unfold PtB at h
  exact ⟨by simp [World.cell?, h], by simp [World.cell?, h]⟩
theorem PtB.lt {W : World} {B : Nat} {p : Int × Int} (h : PtB W B p) : B < W.heap.size := (Array.getElem?_eq_some_iff.1 h).1
theorem keepsOthers_below {W W' : World} (hb : Below W.heap.size W W') : KeepsOthers W W' := ⟨hb.size, fun k _ hk _ => (hb.block k (Array.getElem?_eq_some_iff.1 hk).1).trans hk⟩
end Go.Proofs.Ytkibjbbhiclkmaa
