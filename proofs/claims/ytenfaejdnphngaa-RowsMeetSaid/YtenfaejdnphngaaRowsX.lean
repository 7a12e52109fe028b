/- The index: its boxes, its grids. -/
import Derived.Test.YtenfaejdnphngaaRowsD
namespace Go.Proofs.Ytenfaejdnphngaa
open Go.RowKit

def bxA (L : List B4) (i : Nat) : B4 := L.getD i (0, 0, 0, 0)
theorem bxA_at {L : List B4} {i : Nat} (h : i < L.length) : bxA L i = L[i] := by unfold bxA; rw [List.getD_eq_getElem?_getD, List.getElem?_eq_getElem h]; rfl
theorem bxA_app {L : List B4} {b : B4} {i : Nat} (h : i < L.length) : bxA (L ++ [b]) i = bxA L i := by unfold bxA; rw [List.getD_eq_getElem?_getD, List.getD_eq_getElem?_getD, List.getElem?_append_left h]
theorem bxA_last (L : List B4) (b : B4) : bxA (L ++ [b]) L.length = b := by unfold bxA; rw [List.getD_eq_getElem?_getD, List.getElem?_append_right (Nat.le_refl _)]; simp
/-- Is box i of this size? -/
def ofS (s : I2) (b : B4) : Bool := rgtB b && decide (szB b = s)
/-- The numbers of the boxes of a size; of a field. -/
def numsL (L : List B4) (s : I2) : List Nat := (List.range L.length).filter (fun i => ofS s (bxA L i))
def fldL (b : B4) (f : I2) : Nat := (rectR (flo b) (fhi b)).count f
def stF (L : List B4) (s f : I2) : List Nat := (numsL L s).flatMap (fun i => List.replicate (fldL (bxA L i) f) i)
theorem numsL_snoc (L : List B4) (b : B4) (s : I2) : numsL (L ++ [b]) s = numsL L s ++ (if ofS s b = true then [L.length] else []) := by
  unfold numsL
  rw [List.length_append, List.length_singleton, List.range_succ, List.filter_append]
  congr 1
  · apply List.filter_congr
    intro i hi
    rw [bxA_app (List.mem_range.1 hi)]
  · rw [List.filter_cons, bxA_last, List.filter_nil]
theorem numsL_lt {L : List B4} {s : I2} {i : Nat} (h : i ∈ numsL L s) : i < L.length ∧ ofS s (bxA L i) = true := by
  unfold numsL at h
  rw [List.mem_filter, List.mem_range] at h
  exact h
theorem stF_snoc (L : List B4) (b : B4) (s f : I2) : stF (L ++ [b]) s f = stF L s f ++ (if ofS s b = true then List.replicate (fldL b f) L.length else []) := by
  unfold stF
  rw [numsL_snoc, List.flatMap_append]
  congr 1
  · unfold List.flatMap
    congr 1
    apply List.map_congr_left
    intro i hi
    rw [bxA_app (numsL_lt hi).1]
  · split
    · simp [bxA_last]
    · rfl
theorem numsL_len (L : List B4) (s : I2) : (numsL L s).length ≤ L.length := by
  unfold numsL
  have := List.length_filter_le (fun i => ofS s (bxA L i)) (List.range L.length)
  rw [List.length_range] at this
  exact this
theorem stF_len (L : List B4) (s f : I2) : (stF L s f).length ≤ 4 * L.length := by
  unfold stF
  have key : ∀ M : List Nat, (∀ i ∈ M, ofS s (bxA L i) = true) → (M.flatMap (fun i => List.replicate (fldL (bxA L i) f) i)).length ≤ 4 * M.length := by
    intro M
    induction M with
    | nil => intro _; simp
    | cons i M ih =>
      intro h
      have h1 := ih (fun j hj => h j (List.mem_cons_of_mem _ hj))
      have h2 := h i List.mem_cons_self
      unfold ofS at h2
      rw [Bool.and_eq_true] at h2
      have h3 := (flds_in h2.1).2.2
      have h4 : fldL (bxA L i) f ≤ (rectR (flo (bxA L i)) (fhi (bxA L i))).length := List.count_le_length
      unfold rectR at h4
      rw [preR_len] at h4
      rw [List.flatMap_cons, List.length_append, List.length_replicate, List.length_cons]
      omega
  have h1 := key (numsL L s) (fun i hi => (numsL_lt hi).2)
  have h2 := numsL_len L s
  omega
def bxCl (b : B4) : List Value := [.int .i64 b.1, .int .i64 b.2.1, .int .i64 b.2.2.1, .int .i64 b.2.2.2]
def bxCells (L : List B4) : List Value := L.flatMap bxCl
theorem bxCells_app (L : List B4) (b : B4) : bxCells (L ++ [b]) = bxCells L ++ bxCl b := by simp [bxCells]
/-- The index's state. -/
structure IxI (W : World) (B xb : Nat) (R : Nat → Rl) (L : List B4) (A : I2 → List Nat) (F : I2 → I2 → List Nat) : Prop where
  role : R xb = .ix
  ge : B ≤ xb
  frz : ∀ o, W.frozen? ⟨xb, o, none⟩ = false
  c0 : ∃ vb, W.cell? ⟨xb, 0, none⟩ = some vb ∧ RwI W B R .bs 25 4 vb L.length (bxCells L)
  c1 : (W.cell? ⟨xb, 1, none⟩ = some (.map none) ∧ ∀ s, A s = [] ∧ ∀ f, F s f = []) ∨ ∃ mb ps c, W.cell? ⟨xb, 1, none⟩ = some (.map (some mb)) ∧ R mb = .gm ∧ B ≤ mb ∧ MapG W mb ps c ∧
    (∀ p ∈ ps, ∃ gb, p.2.1 = .pointer (some ⟨gb, 0, none⟩) ∧ GrI W B R p.1 gb (A p.1) (F p.1)) ∧ ∀ s, lkG ps s = none → A s = [] ∧ ∀ f, F s f = []
  nob : ∀ k, k < B → R k = .no
theorem IxI.lt {W : World} {B xb : Nat} {R : Nat → Rl} {L : List B4} {A : I2 → List Nat} {F : I2 → I2 → List Nat} (h : IxI W B xb R L A F) : xb < W.heap.size := by
  obtain ⟨vb, c, _⟩ := h.c0
  exact World.block_lt_of_cell? W _ c
theorem IxI.keep {W W1 : World} {B xb : Nat} {R R1 : Nat → Rl} {L : List B4} {A : I2 → List Nat} {F : I2 → I2 → List Nat} (h : IxI W B xb R L A F) (hb : Below W.heap.size W W1) (e : ExtR W R R1) (hB : B ≤ W.heap.size) : IxI W1 B xb R1 L A F := by
  have f : FrQ (fun _ => True) R W W1 := FrQ.below hb
  obtain ⟨vb, c0, r0⟩ := h.c0
  refine ⟨(e _ h.lt).trans h.role, h.ge, fun o => (f.frozen (a := ⟨xb, o, none⟩) h.lt trivial).trans (h.frz o), ⟨vb, f.cell c0 trivial, r0.fr f e trivial⟩, ?_, fun k hk => (e k (by omega)).trans (h.nob k hk)⟩
  rcases h.c1 with ⟨c1, hA⟩ | ⟨mb, ps, c, c1, hr, hmB, hm, hg, hn⟩
  · exact .inl ⟨f.cell c1 trivial, hA⟩
  · exact .inr ⟨mb, ps, c, f.cell c1 trivial, (e _ hm.size).trans hr, hmB, hm.of (f.block _ hm.size trivial), fun p hp => by
      obtain ⟨gb, e1, g⟩ := hg p hp
      exact ⟨gb, e1, g.fr f e trivial trivial trivial (fun _ => trivial)⟩, hn⟩
/-- The grid of a size, among the others. -/
structure IxG (W : World) (B xb : Nat) (R : Nat → Rl) (L : List B4) (A : I2 → List Nat) (F : I2 → I2 → List Nat) (s : I2) (gb : Nat) : Prop where
  ix : IxI W B xb R L A F
  at' : ∃ mb ps c, W.cell? ⟨xb, 1, none⟩ = some (.map (some mb)) ∧ R mb = .gm ∧ MapG W mb ps c ∧ lkG ps s = some (.pointer (some ⟨gb, 0, none⟩))
theorem enc2_inj {a b : I2} (h : enc2 a = enc2 b) : a = b := by
  unfold enc2 at h
  injection h with h
  have h := congrArg Array.toList h
  simp only [List.cons.injEq, Value.int.injEq, true_and, and_true] at h
  exact Prod.ext h.1 h.2
theorem entG_inj {p q : EnG} (h : entG p = entG q) : p = q := by
  obtain ⟨a, v, n⟩ := p
  obtain ⟨b, u, m⟩ := q
  unfold entG at h
  injection h with h1 h2 h3
  have := enc2_inj h1
  simp only at this h2 h3
  rw [this, h2, h3]
theorem map_inj : ∀ {l m : List EnG}, l.map entG = m.map entG → l = m
  | [], [], _ => rfl
  | [], _ :: _, h => by cases h
  | _ :: _, [], h => by cases h
  | a :: l, b :: m, h => by
    rw [List.map_cons, List.map_cons] at h
    injection h with h1 h2
    rw [entG_inj h1, map_inj h2]
theorem MapG.uniq {W : World} {mb c c' : Nat} {ps ps' : List EnG} (h : MapG W mb ps c) (k : MapG W mb ps' c') : ps = ps' ∧ c = c' := by
  obtain ⟨xs, hb, he⟩ := h.blk
  obtain ⟨xs', hb', he'⟩ := k.blk
  rw [hb] at hb'
  injection hb' with hb'
  injection hb' with hx hc
  subst hx
  exact ⟨map_inj (he.symm.trans he'), hc⟩
theorem IxG.gr {W : World} {B xb gb : Nat} {R : Nat → Rl} {L : List B4} {A : I2 → List Nat} {F : I2 → I2 → List Nat} {s : I2} (h : IxG W B xb R L A F s gb) : GrI W B R s gb (A s) (F s) := by
  obtain ⟨mb, ps, c, c1, hr, hm, hl⟩ := h.at'
  rcases h.ix.c1 with ⟨c1', _⟩ | ⟨mb', ps', c', c1', _, _, hm', hg, _⟩
  · rw [c1] at c1'; cases c1'
  · obtain rfl : mb = mb' := by rw [c1] at c1'; injection c1' with e; injection e with e; injection e
    obtain ⟨rfl, _⟩ := hm.uniq hm'
    unfold lkG at hl
    cases hq : ixG ps s with
    | none => rw [hq] at hl; cases hl
    | some q =>
      obtain ⟨i, p⟩ := q
      rw [hq] at hl
      simp only [Option.map_some, Option.some.injEq] at hl
      obtain ⟨hpi, hps⟩ := ixG_some hq
      obtain ⟨gb', hv, g⟩ := hg p (List.mem_of_getElem? hpi)
      rw [hl] at hv
      injection hv with hv
      injection hv with hv
      injection hv with hv
      subst hv
      rw [← hps]
      exact g
def updA (A : I2 → List Nat) (s : I2) (n : Nat) : I2 → List Nat := fun t => if t = s then A t ++ [n] else A t
def updFF (F : I2 → I2 → List Nat) (s : I2) (n : Nat) (b : B4) : I2 → I2 → List Nat := fun t => if t = s then cntF (F t) n (rectR (flo b) (fhi b)) else F t
/-- Behind a grid's add. -/
theorem IxG.add {W W1 : World} {B xb gb n : Nat} {R R1 : Nat → Rl} {L : List B4} {A : I2 → List Nat} {F : I2 → I2 → List Nat} {s : I2} {b : B4} (h : IxG W B xb R L A F s gb) (hB : B ≤ W.heap.size) (e : ExtR W R R1) (f : FrQ (offS s) R W W1) (g : GrI W1 B R1 s gb (A s ++ [n]) (cntF (F s) n (rectR (flo b) (fhi b)))) :
    IxI W1 B xb R1 L (updA A s n) (updFF F s n b) := by
  have o : ∀ r : Rl, r = .ix ∨ r = .bs ∨ r = .gm → offS s r := fun r hr => by rcases hr with rfl | rfl | rfl <;> exact ⟨by simp, by simp, by simp, by simp⟩
  obtain ⟨vb, c0, r0⟩ := h.ix.c0
  have hx := h.ix.lt
  have qx : offS s (R xb) := by rw [h.ix.role]; exact o _ (.inl rfl)
  refine ⟨(e _ hx).trans h.ix.role, h.ix.ge, fun q => (f.frozen (a := ⟨xb, q, none⟩) hx qx).trans (h.ix.frz q), ⟨vb, f.cell c0 qx, r0.fr f e (o _ (.inr (.inl rfl)))⟩, ?_, fun k hk => (e k (by omega)).trans (h.ix.nob k hk)⟩
  obtain ⟨mb, ps, c, c1, hr, hm, hl⟩ := h.at'
  rcases h.ix.c1 with ⟨c1', _⟩ | ⟨mb', ps', c', c1', hr', hB', hm', hg, hn⟩
  · rw [c1] at c1'; cases c1'
  · obtain rfl : mb = mb' := by rw [c1] at c1'; injection c1' with e; injection e with e; injection e
    obtain ⟨rfl, rfl⟩ := hm.uniq hm'
    have qm : offS s (R mb) := by rw [hr']; exact o _ (.inr (.inr rfl))
    refine .inr ⟨mb, ps, c, f.cell c1' qx, (e _ hm'.size).trans hr', hB', hm'.of (f.block _ hm'.size qm), fun p hp => ?_, fun t ht => ?_⟩
    · obtain ⟨gb', hv, g'⟩ := hg p hp
      refine ⟨gb', hv, ?_⟩
      unfold updA updFF
      by_cases hp1 : p.1 = s
      · rw [if_pos hp1, if_pos hp1]
        have hsame : gb' = gb := by
          have h2 := lkG_mem hm.nd hp
          rw [hp1, hl, hv] at h2
          injection h2 with h2
          injection h2 with h2
          injection h2 with h2
          injection h2 with h2
          exact h2.symm
        subst hsame
        rw [hp1]
        exact g
      · rw [if_neg hp1, if_neg hp1]
        refine g'.fr f e ?_ ?_ ?_ (fun q => ?_)
        · exact ⟨by simp [hp1], by simp, by simp, by simp⟩
        · exact ⟨by simp, by simp [hp1], by simp, by simp⟩
        · exact ⟨by simp, by simp, by simp [hp1], by simp⟩
        · exact ⟨by simp, by simp, by simp, by simp [hp1]⟩
    · have hts : t ≠ s := by
        intro hts
        rw [hts, hl] at ht
        cases ht
      unfold updA updFF
      rw [if_neg hts, if_neg hts]
      exact hn t ht
end Go.Proofs.Ytenfaejdnphngaa
