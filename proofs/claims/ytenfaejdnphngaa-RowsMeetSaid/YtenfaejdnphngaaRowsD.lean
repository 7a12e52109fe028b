/- Walks of a grid: add. -/
import Derived.Test.YtenfaejdnphngaaRowsS
import Derived.Test.YtenfaejdnphngaaRegionH
namespace Go.Proofs.Ytenfaejdnphngaa
open Go.RowKit Go.Shelf
attribute [local go_sem] Oper.semAt_some

theorem infoIn : (Try.prog.info? 3).map (fun i => (i.zero, i.size, i.bytes)) = some (some (.int .i64 0), 1, 8) := by kernel_rfl
theorem grown_drew0 (W : World) (row : Option Nat) : W.grownBy W.drew row := ⟨rfl, rfl, rfl, Nat.le_refl _, fun _ _ _ => rfl⟩
theorem own_form1 {W : World} {base n size : Nat} {T : TypeId} {v : Value} {xs : List Value} (h : W.ownsRow base T size v (n + 1) xs) : ∃ g c, v = .slice (some ⟨g, 0, none⟩) (n + 1) c := by
  rcases h.2 with ⟨_, hz⟩ | ⟨g, c, _, e, _⟩
  · omega
  · exact ⟨g, c, e⟩
def flo (b : B4) : I2 := fld (szB b) (b.1, b.2.1)
def fhi (b : B4) : I2 := fld (szB b) (b.2.2.1, b.2.2.2)
def AgPost (W : World) (B : Nat) (R : Nat → Rl) (s : I2) (gb : Nat) (A : List Nat) (F : I2 → List Nat) (n : Nat) (b : B4) (en : Ending) (w' : World) : Prop :=
  en = .returned (.tuple #[]) ∧ ∃ R1, ExtR W R R1 ∧ FrQ (offS s) R W w' ∧ GrI w' B R1 s gb (A ++ [n]) (cntF F n (rectR (flo b) (fhi b)))
/-- While it runs: the three boxes, and what the grid holds; blocks NB belong to nothing. -/
structure AdI (NB : Nat → Prop) (W : World) (B : Nat) (R : Nat → Rl) (s : I2) (gb : Nat) (A : List Nat) (F : I2 → List Nat) (n : Nat) (b : B4) (V : World) : Prop where
  st : ∃ R1, ExtR W R R1 ∧ GrI V B R1 s gb A F ∧ ∀ k, NB k → R1 k = .no
  nb : ∀ k, NB k → k < V.heap.size
  nb0 : NB W.heap.size
  nb1 : NB (W.heap.size + 1)
  nb2 : NB (W.heap.size + 2)
  fr : FrQ (offS s) R W V
  p : V.cell? ⟨W.heap.size, 0, none⟩ = some (.pointer (some ⟨gb, 0, none⟩))
  n : V.cell? ⟨W.heap.size + 1, 0, none⟩ = some (.int .i64 (n : Int))
  b : BxAt V (W.heap.size + 2) 0 b
theorem AdI.keep {NB : Nat → Prop} {W V V1 : World} {B gb n : Nat} {R : Nat → Rl} {s : I2} {A : List Nat} {F : I2 → List Nat} {b : B4} (h : AdI NB W B R s gb A F n b V) (hb : Below V.heap.size V V1) : AdI NB W B R s gb A F n b V1 := by
  obtain ⟨R1, e, g, r⟩ := h.st
  exact ⟨⟨R1, e, g.keep hb, r⟩, fun k hk => Nat.lt_of_lt_of_le (h.nb k hk) hb.size, h.nb0, h.nb1, h.nb2, h.fr.trans (FrQ.below hb) e, cell_later hb h.p, cell_later hb h.n, h.b.keep hb⟩
/-- New blocks that belong to nothing. -/
theorem AdI.wide {NB NB' : Nat → Prop} {W V V1 : World} {B gb n : Nat} {R : Nat → Rl} {s : I2} {A : List Nat} {F : I2 → List Nat} {b : B4} (h : AdI NB W B R s gb A F n b V) (hb : Below V.heap.size V V1) (h1 : ∀ k, NB k → NB' k) (h2 : ∀ k, NB' k → NB k ∨ (V.heap.size ≤ k ∧ k < V1.heap.size)) : AdI NB' W B R s gb A F n b V1 := by
  obtain ⟨R1, e, g, r⟩ := h.st
  have e2 : ExtR V R1 (fun k => if k < V.heap.size then R1 k else .no) := fun k hk => by simp [hk]
  refine ⟨⟨_, e.trans e2 h.fr.size, g.fr (Q := fun _ => True) (FrQ.below hb) e2 trivial trivial trivial (fun _ => trivial), fun k hk => ?_⟩, fun k hk => ?_, h1 _ h.nb0, h1 _ h.nb1, h1 _ h.nb2, h.fr.trans (FrQ.below hb) e, cell_later hb h.p, cell_later hb h.n, h.b.keep hb⟩
  · rcases h2 k hk with c | c
    · have := h.nb k c
      simp [this, r k c]
    · exact if_neg (by omega)
  · rcases h2 k hk with c | c
    · exact Nat.lt_of_lt_of_le (h.nb k c) hb.size
    · exact c.2
/-- A change that leaves all other kinds alone. -/
theorem AdI.fr2 {NB : Nat → Prop} {W V V1 : World} {B gb n : Nat} {R R1 R2 : Nat → Rl} {s : I2} {A A' : List Nat} {F F' : I2 → List Nat} {b : B4} {Q : Rl → Prop} (h : AdI NB W B R s gb A F n b V) (e : ExtR W R R1) (hr : ∀ k, NB k → R1 k = .no)
    (f : FrQ Q R1 V V1) (hq : ∀ r, offS s r → Q r) (e2 : ExtR V R1 R2) (g : GrI V1 B R2 s gb A' F') : AdI NB W B R s gb A' F' n b V1 := by
  have hs := h.fr.size
  have ho : Q .no := hq _ ⟨by simp, by simp, by simp, by simp⟩
  have hn : ∀ k, NB k → Q (R1 k) := fun k hk => by rw [hr k hk]; exact ho
  exact ⟨⟨R2, e.trans e2 hs, g, fun k hk => (e2 k (h.nb k hk)).trans (hr k hk)⟩, fun k hk => Nat.lt_of_lt_of_le (h.nb k hk) f.size, h.nb0, h.nb1, h.nb2, h.fr.trans (f.weak hq) e, f.cell h.p (hn _ h.nb0), f.cell h.n (hn _ h.nb1), f.cell h.b.1 (hn _ h.nb2), f.cell h.b.2.1 (hn _ h.nb2), f.cell h.b.2.2.1 (hn _ h.nb2), f.cell h.b.2.2.2 (hn _ h.nb2)⟩
/-- What the append and the store leave. -/
theorem AdI.more {NB : Nat → Prop} {W V W1 : World} {B gb n m : Nat} {R : Nat → Rl} {s : I2} {A : List Nat} {F : I2 → List Nat} {b : B4} {va v2 : Value} (h : AdI NB W B R s gb A F n b V) (hc : V.cell? ⟨gb, 2, none⟩ = some va) (hg : V.grownBy W1 va.ownBlock) (ho : W1.ownsRow B 3 1 v2 (A.length + 1) (nCells A ++ [.int .i64 (m : Int)])) (hv : v2.ownBlock = va.ownBlock ∨ v2.ownBlock = some V.heap.size) :
    AdI NB W B R s gb (A ++ [m]) F n b (W1.setCell ⟨gb, 2, none⟩ v2) := by
  obtain ⟨R1, e, g, hr⟩ := h.st
  obtain ⟨g2, f2⟩ := g.more hc hg ho hv
  exact h.fr2 e hr f2 (fun r hr => ⟨hr.1, hr.2.1⟩) (newR_ext _ _ _ _) g2
theorem AdI.row {NB : Nat → Prop} {W V : World} {B gb n : Nat} {R : Nat → Rl} {s : I2} {A : List Nat} {F : I2 → List Nat} {b : B4} (h : AdI NB W B R s gb A F n b V) : ∃ va, V.cell? ⟨gb, 2, none⟩ = some va ∧ V.ownsRow B 3 1 va A.length (nCells A) ∧ (∀ W1, V.grownBy W1 va.ownBlock → W1.cell? ⟨W.heap.size, 0, none⟩ = some (.pointer (some ⟨gb, 0, none⟩)) ∧ W1.cell? ⟨W.heap.size + 1, 0, none⟩ = some (.int .i64 (n : Int)) ∧ W1.cell? ⟨gb, 2, none⟩ = some va ∧ W1.frozen? ⟨gb, 2, none⟩ = false) := by
  obtain ⟨R1, e, g, r⟩ := h.st
  obtain ⟨va, c2, ra⟩ := g.c2
  refine ⟨va, c2, ra.own, fun W1 hg => ?_⟩
  have f : FrQ (fun r => r ≠ .al s) R1 V W1 := FrQ.grown hg (fun k hk _ hq => hq (ra.role k hk))
  have ng : R1 gb ≠ .al s := by rw [g.role]; simp
  exact ⟨f.cell h.p (by rw [r _ h.nb0]; simp), f.cell h.n (by rw [r _ h.nb1]; simp), f.cell c2 ng, (f.frozen (a := ⟨gb, 2, none⟩) g.lt ng).trans (g.frz 2)⟩
def NB3 (W : World) (k : Nat) : Prop := k = W.heap.size ∨ k = W.heap.size + 1 ∨ k = W.heap.size + 2
/-- The three boxes, made. -/
theorem adI_new {W : World} {B gb : Nat} {R : Nat → Rl} {s : I2} {A : List Nat} {F : I2 → List Nat} (h : GrI W B R s gb A F) (n : Nat) (b : B4) :
    AdI (NB3 W) W B R s gb A F n b (((W.alloc (.cells #[.pointer (some ⟨gb, 0, none⟩)] 89)).alloc (.cells #[.int .i64 (n : Int)] 3)).alloc (.cells #[.int .i64 b.1, .int .i64 b.2.1, .int .i64 b.2.2.1, .int .i64 b.2.2.2] 25)) := by
  have hb := below_after (below_after (below_alloc W (.cells #[.pointer (some ⟨gb, 0, none⟩)] 89)) (below_alloc _ (.cells #[.int .i64 (n : Int)] 3))) (below_alloc _ (.cells #[.int .i64 b.1, .int .i64 b.2.1, .int .i64 b.2.2.1, .int .i64 b.2.2.2] 25))
  refine ⟨⟨fun k => if k < W.heap.size then R k else .no, fun k hk => by simp [hk], ?_, fun k hk => if_neg (by unfold NB3 at hk; omega)⟩, fun k hk => by unfold NB3 at hk; simp; omega, .inl rfl, .inr (.inl rfl), .inr (.inr rfl), FrQ.below hb, by go_simp, by go_simp, by refine ⟨?_, ?_, ?_, ?_⟩ <;> go_simp⟩
  exact h.fr (Q := fun _ => True) (FrQ.below hb) (fun k hk => by simp [hk]) trivial trivial trivial (fun _ => trivial)
theorem zeroIs (W : World) : (zeroValue 48).run Try.prog W = .ok (.slice none 0 0) W := by
  have h : (Try.prog.info? 48).map (fun i => i.zero) = some (some (.slice none 0 0)) := by kernel_rfl
  cases hi : Try.prog.info? 48 with
  | none => rw [hi] at h; cases h
  | some i =>
    rw [hi] at h
    simp only [Option.map_some, Option.some.injEq] at h
    simp [zeroValue, typeInfo, hi, h]
/-- An entry of a field, what is appended there, and its store. -/
theorem AdI.entry {NB : Nat → Prop} {W U : World} {B gb n : Nat} {R : Nat → Rl} {s : I2} {A : List Nat} {F : I2 → List Nat} {b : B4} (h : AdI NB W B R s gb A F n b U) (f : I2) :
    ∃ fb va W1 bst, U.cell? ⟨gb, 3, none⟩ = some (.map (some fb)) ∧ (Instr.mapEntry 103 (.map (some fb)) (enc2 f)).run Try.prog U = .ok (.tuple #[va, .int .i64 ((bst : Nat) : Int)]) W1 ∧ U.grownBy W1 (some fb) ∧ W1.ownsRow B 3 1 va (F f).length (nCells (F f)) ∧
      (∀ W2, U.grownBy W2 (some fb) → W2.cell? ⟨W.heap.size, 0, none⟩ = some (.pointer (some ⟨gb, 0, none⟩)) ∧ W2.cell? ⟨gb, 3, none⟩ = some (.map (some fb)) ∧ W2.cell? ⟨W.heap.size + 1, 0, none⟩ = some (.int .i64 (n : Int))) ∧
      ∀ W2 v2, W1.grownBy W2 va.ownBlock → W2.ownsRow B 3 1 v2 ((F f).length + 1) (nCells (F f) ++ [.int .i64 (n : Int)]) → (v2.ownBlock = va.ownBlock ∨ v2.ownBlock = some W1.heap.size) →
        (W2.cell? ⟨W.heap.size, 0, none⟩ = some (.pointer (some ⟨gb, 0, none⟩)) ∧ W2.cell? ⟨gb, 3, none⟩ = some (.map (some fb)) ∧ W2.cell? ⟨W.heap.size + 1, 0, none⟩ = some (.int .i64 (n : Int))) ∧
        ∃ W3, (Instr.entryStore 103 (.map (some fb)) (.int .i64 ((bst : Nat) : Int)) v2).run Try.prog W2 = .ok () W3 ∧ W2.grownBy W3 (some fb) ∧ AdI NB W B R s gb A (updF F f n) n b W3 ∧ W3.cell? ⟨gb, 3, none⟩ = some (.map (some fb)) ∧
          (∀ k o v, NB k → U.cell? ⟨k, o, none⟩ = some v → W3.cell? ⟨k, o, none⟩ = some v) := by
  obtain ⟨R1, e, g, r⟩ := h.st
  obtain ⟨fb, ps, c, c3, hr, hB, hm, hw⟩ := g.c3
  obtain ⟨W1, ps1, c1, bst, run1, m1, g1, hin, k1, k2⟩ := run_entryG (mt := 103) (et := 48) Try.underlying103 Try.underlying110 zeroIs hm f
  have f1 : FrQ (fun r => r ≠ .fm s) R1 U W1 := FrQ.grown g1 (fun k hk _ hq => by injection hk with hk; subst hk; exact hq hr)
  have rva : RwI W1 B R1 (.rw s f) 3 1 ((lkG ps f).getD (.slice none 0 0)) (F f).length (nCells (F f)) := (hw f).fr f1 (ExtR.refl _ _) (by simp)
  have hgd : ∀ r, R1 gb = r → r = .gd s := fun r hr => by rw [← hr]; exact g.role
  have ng : R1 gb ≠ .fm s ∧ R1 gb ≠ .rw s f := by rw [g.role]; exact ⟨by simp, by simp⟩
  have n0 : ∀ k, NB k → R1 k ≠ .fm s ∧ R1 k ≠ .rw s f := fun k hk => by rw [r k hk]; exact ⟨by simp, by simp⟩
  refine ⟨fb, _, W1, bst, c3, run1, g1, rva.own, fun W2 hg => ?_, fun W2 v2 g2 ho hv => ?_⟩
  · have f2 : FrQ (fun r => r ≠ .fm s) R1 U W2 := FrQ.grown hg (fun k hk _ hq => by injection hk with hk; subst hk; exact hq hr)
    exact ⟨f2.cell h.p (n0 _ h.nb0).1, f2.cell c3 ng.1, f2.cell h.n (n0 _ h.nb1).1⟩
  · have f2 : FrQ (fun r => r ≠ .rw s f) R1 W1 W2 := FrQ.grown g2 (fun k hk _ hq => hq (rva.role k hk))
    have f12 : FrQ (fun r => r ≠ .fm s ∧ r ≠ .rw s f) R1 U W2 := (f1.weak (fun _ h => h.1)).trans (f2.weak (fun _ h => h.2)) (ExtR.refl _ _)
    have m2 : MapG W2 fb ps1 c1 := m1.of (f2.block fb m1.size (by rw [hr]; simp))
    obtain ⟨W3, run3, m3, g3⟩ := run_storeG (mt := 103) m2 (u := v2) hin
    obtain ⟨gg, ff, ee⟩ := g.put c3 hm hr hB hw g1 m1 k1 k2 rfl g2 ho hv g3 m3
    refine ⟨⟨f12.cell h.p (n0 _ h.nb0), f12.cell c3 ng, f12.cell h.n (n0 _ h.nb1)⟩, W3, run3, g3, h.fr2 e r ff (fun r hr => ⟨hr.2.2.1, hr.2.2.2 f⟩) ee gg, ff.cell c3 ng, fun k o v hk hc => ff.cell hc (n0 k hk)⟩
/-- Fields of a right box: at most four. -/
theorem flds_in {b : B4} (h : rgtB b = true) : (-1073741824 ≤ (flo b).1 ∧ (flo b).1 ≤ (fhi b).1 ∧ (fhi b).1 ≤ 1073741824) ∧ (-1073741824 ≤ (flo b).2 ∧ (flo b).2 ≤ (fhi b).2 ∧ (fhi b).2 ≤ 1073741824) ∧ nR (flo b).1 (fhi b).1 * nR (flo b).2 (fhi b).2 ≤ 4 := by
  have hr := rgt_in h
  have h1 := nR_two (lo := b.1) (hi := b.2.2.1) (by omega) (by omega)
  have h2 := nR_two (lo := b.2.1) (hi := b.2.2.2) (by omega) (by omega)
  have p1 : (0 : Int) < 2 ^ (dblV (b.2.2.1 - b.1)).toNat := Int.pow_pos (by omega)
  have p2 : (0 : Int) < 2 ^ (dblV (b.2.2.2 - b.2.1)).toNat := Int.pow_pos (by omega)
  have d1 := div_in (x := b.1) (by omega) p1
  have d2 := div_in (x := b.2.2.1) (by omega) p1
  have d3 := div_in (x := b.2.1) (by omega) p2
  have d4 := div_in (x := b.2.2.2) (by omega) p2
  refine ⟨⟨d1.1, h1.2, d2.2⟩, ⟨d3.1, h2.2, d4.2⟩, ?_⟩
  exact Nat.mul_le_mul h1.1 h2.1
/-- What turns a block that holds no cells, and isn't the fields'. -/
def NB5 (W : World) (kl kh : Nat) (k : Nat) : Prop := NB3 W k ∨ k = kl ∨ k = kh
theorem keepsFrom_grown {B0 : Nat} {W W1 : World} {row : Option Nat} (hg : W.grownBy W1 row) (hr : ∀ r, row = some r → r < B0 ∨ ∃ o : Obj, W.heap[r]? = some o ∧ o.isCells = true) : KeepsFrom B0 W W1 :=
  ⟨hg.size, fun k o hk hk2 hc => (hg.block k (Array.getElem?_eq_some_iff.1 hk2).1 (fun e => by
    rcases hr k e.symm with h | ⟨o', ho', hc'⟩
    · omega
    · rw [hk2] at ho'; injection ho' with ho'; rw [← ho', hc] at hc'; cases hc')).trans hk2⟩
theorem own_cells {W : World} {B size n k : Nat} {T : TypeId} {v : Value} {xs : List Value} (h : W.ownsRow B T size v n xs) (hk : v.ownBlock = some k) : ∃ o : Obj, W.heap[k]? = some o ∧ o.isCells = true := by
  rcases h.2 with ⟨rfl, _⟩ | ⟨g', cp, cur, rfl, hgB, hh, _⟩
  · cases hk
  · simp only [Value.ownBlock, Option.some.injEq] at hk
    subst hk
    exact ⟨_, hh, rfl⟩
theorem AdI.away {NB : Nat → Prop} {W V V1 : World} {B gb n fb : Nat} {row : Option Nat} {R : Nat → Rl} {s : I2} {A : List Nat} {F : I2 → List Nat} {b : B4} (h : AdI NB W B R s gb A F n b V) (hf : V.cell? ⟨gb, 3, none⟩ = some (.map (some fb))) (hg : V.grownBy V1 row) (hr : ∀ r, row = some r → W.heap.size ≤ r ∧ fb ≠ r ∧ ∃ o : Obj, V.heap[r]? = some o ∧ o.isCells = false) : AdI NB W B R s gb A F n b V1 := by
  have hc : ∀ (a : Addr) v, V.cell? a = some v → V1.heap[a.block]? = V.heap[a.block]? := fun a v hv => by
    obtain ⟨o, ho, hoc⟩ := cells_of_cell hv
    refine hg.block _ (World.block_lt_of_cell? V _ hv) (fun e => ?_)
    obtain ⟨_, _, o', ho', hc'⟩ := hr _ e.symm
    rw [ho] at ho'
    injection ho' with ho'
    rw [← ho', hoc] at hc'
    cases hc'
  have hcell : ∀ (a : Addr) v, V.cell? a = some v → V1.cell? a = some v := fun a v hv => (World.cell?_of_block (hc a v hv)).trans hv
  obtain ⟨R1, e, g, r⟩ := h.st
  obtain ⟨va, c2, r2⟩ := g.c2
  obtain ⟨fb', ps, c, c3, fr, fB, fm, fw⟩ := g.c3
  obtain rfl : fb' = fb := by rw [c3] at hf; injection hf with hf; injection hf with hf; injection hf
  have hrow : ∀ {q : Rl} {v : Value} {m : Nat} {xs : List Value}, RwI V B R1 q 3 1 v m xs → RwI V1 B R1 q 3 1 v m xs := fun hq => ⟨own_blk hq.own (fun k hk => by
    rcases hq.own.2 with ⟨rfl, _⟩ | ⟨g', cp, cur, rfl, hgB, hh, _⟩
    · cases hk
    · simp only [Value.ownBlock, Option.some.injEq] at hk
      subst hk
      refine hg.block _ (Array.getElem?_eq_some_iff.1 hh).1 (fun e => ?_)
      obtain ⟨_, _, o', ho', hc'⟩ := hr _ e.symm
      rw [hh] at ho'
      injection ho' with ho'
      rw [← ho'] at hc'
      cases hc'), hq.role⟩
  have hfb : V1.heap[fb']? = V.heap[fb']? := hg.block _ fm.size (fun e => (hr _ e.symm).2.1 rfl)
  refine ⟨⟨R1, e, ⟨g.role, g.ge, hcell _ _ g.c0, hcell _ _ g.c1, ⟨va, hcell _ _ c2, hrow r2⟩, ⟨fb', ps, c, hcell _ _ c3, fr, fB, fm.of hfb, fun f => hrow (fw f)⟩, fun o => (World.frozen?_of_block (a := ⟨gb, o, none⟩) (hc ⟨gb, 0, none⟩ _ g.c0)).trans (g.frz o), g.sz⟩, r⟩,
    fun k hk => Nat.lt_of_lt_of_le (h.nb k hk) hg.size, h.nb0, h.nb1, h.nb2, ⟨hg.os.trans h.fr.os, hg.tape.trans h.fr.tape, hg.output.trans h.fr.output, Nat.le_trans h.fr.size hg.size, fun k hk hq => (hg.block k (Nat.lt_of_lt_of_le hk h.fr.size) (fun e => by have := (hr _ e.symm).1; omega)).trans (h.fr.block k hk hq)⟩,
    hcell _ _ h.p, hcell _ _ h.n, hcell _ _ h.b.1, hcell _ _ h.b.2.1, hcell _ _ h.b.2.2.1, hcell _ _ h.b.2.2.2⟩
set_option maxRecDepth 100000 in
set_option maxHeartbeats 4000000 in
theorem gadd_any {W : World} {B gb : Nat} {R : Nat → Rl} {A : List Nat} {F : I2 → List Nat} (b : B4) (hb : rgtB b = true) (h : GrI W B R (szB b) gb A F) (n : Nat) (hB : B ≤ W.heap.size) (hA : A.length ≤ 1000) (hF : ∀ f, (F f).length ≤ 1000) :
    Calls Try.prog 49 #[.pointer (some ⟨gb, 0, none⟩), .int .i64 (n : Int), encB b] W (AgPost W B R (szB b) gb A F n b) := by
  have hmx : Try.prog.follows .mixedOrders = true := by kernel_rfl
  obtain ⟨iI, hiI, hI0, hI1, hI2⟩ := info_parts infoIn
  have H0 := Lib.hid (adI_new h n b)
  have HF := Lib.hid hF
  have HRg := Lib.hid hb
  clear h hF hb
  refine (callsIn_wide (n := 4)).1 ?_
  refine callsIn_of_wp_marks Try.func49 rfl trivial ?_ rfl
  simp only [Try.ntmps49, List.size_toArray, List.length_cons, List.length_nil, Nat.reduceAdd, Nat.reduceSub, Array.replicate_succ, Array.replicate_zero, List.push_toArray, List.append_toArray, List.nil_append, List.cons_append]
  unfold encB
  generalize hs0 : szB b = s at *
  have HS0 := Lib.hid hs0
  clear hs0
  gi_wp2_with fail
  generalize (((W.alloc (.cells #[.pointer (some ⟨gb, 0, none⟩)] 89)).alloc (.cells #[.int .i64 (n : Int)] 3)).alloc (.cells #[.int .i64 b.1, .int .i64 b.2.1, .int .i64 b.2.2.1, .int .i64 b.2.2.2] 25)) = V at *
  have HU : Hid (AdI (NB3 W) W B R s gb A F n b (V.alloc (.cells #[.int .i64 (n : Int)] 3)).drew) := Lib.hid (H0.out.keep (below_alloc V _).drew)
  have q0 := H0.out.p
  have q1 := H0.out.n
  have hBV : B ≤ V.heap.size := Nat.le_trans hB H0.out.fr.size
  obtain ⟨va, c2, hown, hK⟩ := H0.out.row
  have HOw := Lib.hid hown
  have HK : Hid (∀ wB, (V.alloc (.cells #[.int .i64 (n : Int)] 3)).drew.grownBy wB va.ownBlock → wB.cell? ⟨W.heap.size, 0, none⟩ = some (.pointer (some ⟨gb, 0, none⟩)) ∧ wB.cell? ⟨W.heap.size + 1, 0, none⟩ = some (.int .i64 (n : Int)) ∧ wB.cell? ⟨gb, 2, none⟩ = some va ∧ wB.frozen? ⟨gb, 2, none⟩ = false) := Lib.hid (fun wB hg => hK wB (((World.grownBy_alloc V _ _).trans (grown_drew0 _ _)).trans hg))
  have c2a : V.drew.cell? ⟨gb, 2, none⟩ = some va := c2
  have c2b : (V.alloc (.cells #[.int .i64 (n : Int)] 3)).drew.cell? ⟨gb, 2, none⟩ = some va := cell_later (below_alloc V _).drew c2
  have HMo : Hid (∀ wB v2, (V.alloc (.cells #[.int .i64 (n : Int)] 3)).drew.grownBy wB va.ownBlock → wB.ownsRow B 3 1 v2 (A.length + 1) (nCells A ++ [.int .i64 (n : Int)]) → (v2.ownBlock = va.ownBlock ∨ v2.ownBlock = some (V.alloc (.cells #[.int .i64 (n : Int)] 3)).drew.heap.size) → AdI (NB3 W) W B R s gb (A ++ [n]) F n b (wB.setCell ⟨gb, 2, none⟩ v2) ∧ ((wB.setCell ⟨gb, 2, none⟩ v2).cell? ⟨W.heap.size, 0, none⟩ = some (.pointer (some ⟨gb, 0, none⟩)) ∧ (wB.setCell ⟨gb, 2, none⟩ v2).cell? ⟨W.heap.size + 1, 0, none⟩ = some (.int .i64 (n : Int)))) := Lib.hid (fun wB v2 hg ho hv => by
    have h := HU.out.more (m := n) c2b hg ho hv
    exact ⟨h, h.p, h.n⟩)
  have HOwU : Hid ((V.alloc (.cells #[.int .i64 (n : Int)] 3)).drew.ownsRow B 3 1 va A.length (nCells A)) := Lib.hid (World.ownsRow.alloc (w := V) HOw.out _)
  clear hown hK c2
  refine region_cut_in (J := (fun a V1 => ∃ x7 x8 x9 x10 x11 x12 x13 x14 x15 x16, a = { tmps := #[.pointer (some ⟨gb, 0, none⟩), .int .i64 (n : Int), .agg #[.int .i64 b.1, .int .i64 b.2.1, .int .i64 b.2.2.1, .int .i64 b.2.2.2], .pointer (some ⟨W.heap.size, 0, none⟩), .pointer (some ⟨W.heap.size + 1, 0, none⟩), .pointer (some ⟨W.heap.size + 1 + 1, 0, none⟩), undef, x7, x8, x9, x10, x11, x12, x13, x14, x15, x16, undef, undef, undef, undef, undef, undef, undef, undef, undef, undef, undef, undef, undef, undef, undef, undef, undef, undef], defers := [] } ∧ AdI (NB3 W) W B R s gb (A ++ [n]) F n b V1)) (OpenR.wide _) (S := (fun W' : World => W'.cell? ⟨W.heap.size, 0, none⟩ = some (.pointer (some ⟨gb, 0, none⟩)) ∧ W'.cell? ⟨W.heap.size + 1, 0, none⟩ = some (.int .i64 (n : Int)))) hmx (by kernel_rfl) ⟨q0, q1⟩ (fun hHeld => ?h1) ?h2
  case h1 =>
    refine wpAnyH_take (i := 0) (oi := { dst := some 7, op := Op.load 89 (Operand.tmp 3), type := 89, pos := "grid.go:66", after := #[], guard := none }) (v := ?_) rfl (by kernel_rfl) (by kernel_rfl) (by kernel_rfl) (fun _ _ _ h => by cases h.1) (Or.inl ⟨by rfl, ?_⟩) (by with_reducible assumption) ?_
    rotate_left
    focus (intro wS hSw; (try dsimp only at hSw); go_simp <;> with_reducible rfl)
    try go_frame
    refine wpAnyH_take (i := 1) (oi := { dst := some 8, op := Op.load 89 (Operand.tmp 3), type := 89, pos := "grid.go:66", after := #[], guard := none }) (v := ?_) rfl (by kernel_rfl) (by kernel_rfl) (by kernel_rfl) (fun _ _ _ h => by cases h.1) (Or.inl ⟨by rfl, ?_⟩) (by with_reducible assumption) ?_
    rotate_left
    focus (intro wS hSw; (try dsimp only at hSw); go_simp <;> with_reducible rfl)
    try go_frame
    refine wpAnyH_take (i := 2) (oi := { dst := some 9, op := Op.nilCheck (Operand.tmp 8), type := 0, pos := "grid.go:66", after := #[{ on := 1, ground := Ground.data }], guard := none }) (v := ?_) rfl (by kernel_rfl) (by kernel_rfl) (by kernel_rfl) (fun _ _ _ h => by cases h.1) (Or.inl ⟨by rfl, ?_⟩) (by with_reducible assumption) ?_
    rotate_left
    focus (intro wS hSw; (try dsimp only at hSw); go_simp <;> with_reducible rfl)
    try go_frame
    refine wpAnyH_take (i := 3) (oi := { dst := some 10, op := Op.fieldAddr 105 (Operand.tmp 9) 1, type := 0, pos := "grid.go:66", after := #[{ on := 2, ground := Ground.data }], guard := none }) (v := ?_) rfl (by kernel_rfl) (by kernel_rfl) (by kernel_rfl) (fun _ _ _ h => by cases h.1) (Or.inl ⟨by rfl, ?_⟩) (by with_reducible assumption) ?_
    rotate_left
    focus (intro wS hSw; (try dsimp only at hSw); go_simp <;> with_reducible rfl)
    try go_frame
    refine wpAnyH_take (i := 5) (oi := { dst := some 12, op := Op.load 3 (Operand.tmp 4), type := 3, pos := "grid.go:66", after := #[], guard := none }) (v := ?_) rfl (by kernel_rfl) (by kernel_rfl) (by kernel_rfl) (fun _ _ _ h => by cases h.1) (Or.inl ⟨by rfl, ?_⟩) (by with_reducible assumption) ?_
    rotate_left
    focus (intro wS hSw; (try dsimp only at hSw); go_simp <;> with_reducible rfl)
    try go_frame
    refine wpAnyH_ready (rs := [4, 6]) (by kernel_rfl) (by simp) ?_
    refine AllReadyH.cons (i := 4) (o := { dst := some 11, op := Op.load 48 (Operand.tmp 10), type := 48, pos := "grid.go:66", after := #[{ on := 3, ground := Ground.data }], guard := none }) rfl (fun K hK => ?_) (AllReadyH.cons (i := 6) (o := { dst := some 13, op := Op.buildSlice 48 1 #[(0, Operand.tmp 12)], type := 48, pos := "grid.go:66", after := #[{ on := 5, ground := Ground.data }], guard := none }) rfl (fun K hK => ?_) AllReadyH.nil)
    · go_simp
      refine hK.out _ _ (by with_reducible assumption) (fun hHeld => ?_)
      clear hK K
      try go_frame
      refine wpAnyH_ready (rs := [6]) (by kernel_rfl) (by simp) ?_
      refine AllReadyH.cons (i := 6) (o := { dst := some 13, op := Op.buildSlice 48 1 #[(0, Operand.tmp 12)], type := 48, pos := "grid.go:66", after := #[{ on := 5, ground := Ground.data }], guard := none }) rfl (fun K hK => ?_) AllReadyH.nil
      go_simp
      refine hK.out _ _ (by exact ⟨cell_later (below_alloc V (.cells #[.int .i64 (n : Int)] 3)).drew q0, cell_later (below_alloc V (.cells #[.int .i64 (n : Int)] 3)).drew q1⟩) (fun hHeld => ?_)
      clear hK K
      try go_frame
      refine wpAnyH_ready (rs := [7]) (by kernel_rfl) (by simp) ?_
      refine AllReadyH.cons (i := 7) (o := { dst := some 14, op := Op.call { callee := Callee.builtin Builtin.append, args := #[Operand.tmp 11, Operand.tmp 13], argTypes := #[48, 48] }, type := 48, pos := "grid.go:66", after := #[{ on := 4, ground := Ground.data }, { on := 6, ground := Ground.data }], guard := none }) rfl (fun K hK => ?_) AllReadyH.nil
      refine step_append_at (by rfl) (.tmp 11) (.tmp 13) 48 (by rfl) B 3 iI (.int .i64 0) 1 8 Try.underlying48 hiI hI0 hI1 hI2 (by rfl) (by decide) va A.length (nCells A) (by rfl) HOwU.out _ 1 1 [.int .i64 (n : Int)] (by rfl) (by rfl) (Go.cell_one_new _ _ _) (by intro u hu; rw [List.mem_singleton] at hu; subst hu; rfl) (by unfold maxLen; omega) (by omega) (by simp; omega) ?_
      intro v2 wB hoB hgB hvB
      obtain ⟨g2, cp2, rfl⟩ := own_form1 hoB
      skip
      obtain ⟨k0, k1, k2, kf⟩ := HK.out wB hgB
      obtain ⟨z0, z1⟩ : wB.cell? ⟨W.heap.size, 0, none⟩ = some (.pointer (some ⟨gb, 0, none⟩)) ∧ wB.cell? ⟨W.heap.size + 1, 0, none⟩ = some (.int .i64 (n : Int)) := ⟨k0, k1⟩
      have HM := Lib.hid (HMo.out wB _ hgB hoB hvB)
      clear hoB hgB hvB
      refine hK.out _ _ ⟨z0, z1⟩ (fun hHeld => ?_)
      clear hK K
      try go_frame
      refine wpAnyH_take (i := 8) (oi := { dst := some 15, op := Op.nilCheck (Operand.tmp 7), type := 0, pos := "grid.go:66", after := #[{ on := 0, ground := Ground.data }, { on := 0, ground := Ground.phase }, { on := 1, ground := Ground.phase }, { on := 2, ground := Ground.phase }, { on := 3, ground := Ground.phase }, { on := 4, ground := Ground.phase }, { on := 5, ground := Ground.phase }, { on := 6, ground := Ground.phase }, { on := 7, ground := Ground.phase }], guard := none }) (v := ?_) rfl (by kernel_rfl) (by kernel_rfl) (by kernel_rfl) (fun _ _ _ h => by cases h.1) (Or.inl ⟨by rfl, ?_⟩) (by with_reducible assumption) ?_
      rotate_left
      focus (intro wS hSw; (try dsimp only at hSw); go_simp <;> with_reducible rfl)
      try go_frame
      refine wpAnyH_take (i := 9) (oi := { dst := some 16, op := Op.fieldAddr 105 (Operand.tmp 15) 1, type := 0, pos := "grid.go:66", after := #[{ on := 8, ground := Ground.data }, { on := 0, ground := Ground.phase }, { on := 1, ground := Ground.phase }, { on := 2, ground := Ground.phase }, { on := 3, ground := Ground.phase }, { on := 4, ground := Ground.phase }, { on := 5, ground := Ground.phase }, { on := 6, ground := Ground.phase }, { on := 7, ground := Ground.phase }], guard := none }) (v := ?_) rfl (by kernel_rfl) (by kernel_rfl) (by kernel_rfl) (fun _ _ _ h => by cases h.1) (Or.inl ⟨by rfl, ?_⟩) (by with_reducible assumption) ?_
      rotate_left
      focus (intro wS hSw; (try dsimp only at hSw); go_simp <;> with_reducible rfl)
      try go_frame
      refine wpAnyH_ready (rs := [10]) (by kernel_rfl) (by simp) ?_
      refine AllReadyH.cons (i := 10) (o := { dst := none, op := Op.store 48 (Operand.tmp 16) (Operand.tmp 14), type := 0, pos := "grid.go:66", after := #[{ on := 9, ground := Ground.data }, { on := 7, ground := Ground.data }, { on := 7, ground := Ground.chain }, { on := 0, ground := Ground.phase }, { on := 1, ground := Ground.phase }, { on := 2, ground := Ground.phase }, { on := 3, ground := Ground.phase }, { on := 4, ground := Ground.phase }, { on := 5, ground := Ground.phase }, { on := 6, ground := Ground.phase }, { on := 7, ground := Ground.phase }], guard := none }) rfl (fun K hK => ?_) AllReadyH.nil
      go_simp
      refine hK.out _ _ (HM.out.2) (fun hHeld => ?_)
      clear hK K
      try go_frame
      refine wpAnyH_done (by kernel_rfl) ?_ _
      refine ⟨rfl, ?_⟩
      exact ⟨rfl, _, _, _, _, _, _, _, _, _, _, rfl, HM.out.1⟩
    · go_simp
      refine hK.out _ _ (by exact ⟨cell_later (below_alloc V (.cells #[.int .i64 (n : Int)] 3)).drew q0, cell_later (below_alloc V (.cells #[.int .i64 (n : Int)] 3)).drew q1⟩) (fun hHeld => ?_)
      clear hK K
      try go_frame
      refine wpAnyH_ready (rs := [4]) (by kernel_rfl) (by simp) ?_
      refine AllReadyH.cons (i := 4) (o := { dst := some 11, op := Op.load 48 (Operand.tmp 10), type := 48, pos := "grid.go:66", after := #[{ on := 3, ground := Ground.data }], guard := none }) rfl (fun K hK => ?_) AllReadyH.nil
      go_simp
      refine hK.out _ _ (by with_reducible assumption) (fun hHeld => ?_)
      clear hK K
      try go_frame
      refine wpAnyH_ready (rs := [7]) (by kernel_rfl) (by simp) ?_
      refine AllReadyH.cons (i := 7) (o := { dst := some 14, op := Op.call { callee := Callee.builtin Builtin.append, args := #[Operand.tmp 11, Operand.tmp 13], argTypes := #[48, 48] }, type := 48, pos := "grid.go:66", after := #[{ on := 4, ground := Ground.data }, { on := 6, ground := Ground.data }], guard := none }) rfl (fun K hK => ?_) AllReadyH.nil
      refine step_append_at (by rfl) (.tmp 11) (.tmp 13) 48 (by rfl) B 3 iI (.int .i64 0) 1 8 Try.underlying48 hiI hI0 hI1 hI2 (by rfl) (by decide) va A.length (nCells A) (by rfl) HOwU.out _ 1 1 [.int .i64 (n : Int)] (by rfl) (by rfl) (Go.cell_one_new _ _ _) (by intro u hu; rw [List.mem_singleton] at hu; subst hu; rfl) (by unfold maxLen; omega) (by omega) (by simp; omega) ?_
      intro v2 wB hoB hgB hvB
      obtain ⟨g2, cp2, rfl⟩ := own_form1 hoB
      skip
      obtain ⟨k0, k1, k2, kf⟩ := HK.out wB hgB
      obtain ⟨z0, z1⟩ : wB.cell? ⟨W.heap.size, 0, none⟩ = some (.pointer (some ⟨gb, 0, none⟩)) ∧ wB.cell? ⟨W.heap.size + 1, 0, none⟩ = some (.int .i64 (n : Int)) := ⟨k0, k1⟩
      have HM := Lib.hid (HMo.out wB _ hgB hoB hvB)
      clear hoB hgB hvB
      refine hK.out _ _ ⟨z0, z1⟩ (fun hHeld => ?_)
      clear hK K
      try go_frame
      refine wpAnyH_take (i := 8) (oi := { dst := some 15, op := Op.nilCheck (Operand.tmp 7), type := 0, pos := "grid.go:66", after := #[{ on := 0, ground := Ground.data }, { on := 0, ground := Ground.phase }, { on := 1, ground := Ground.phase }, { on := 2, ground := Ground.phase }, { on := 3, ground := Ground.phase }, { on := 4, ground := Ground.phase }, { on := 5, ground := Ground.phase }, { on := 6, ground := Ground.phase }, { on := 7, ground := Ground.phase }], guard := none }) (v := ?_) rfl (by kernel_rfl) (by kernel_rfl) (by kernel_rfl) (fun _ _ _ h => by cases h.1) (Or.inl ⟨by rfl, ?_⟩) (by with_reducible assumption) ?_
      rotate_left
      focus (intro wS hSw; (try dsimp only at hSw); go_simp <;> with_reducible rfl)
      try go_frame
      refine wpAnyH_take (i := 9) (oi := { dst := some 16, op := Op.fieldAddr 105 (Operand.tmp 15) 1, type := 0, pos := "grid.go:66", after := #[{ on := 8, ground := Ground.data }, { on := 0, ground := Ground.phase }, { on := 1, ground := Ground.phase }, { on := 2, ground := Ground.phase }, { on := 3, ground := Ground.phase }, { on := 4, ground := Ground.phase }, { on := 5, ground := Ground.phase }, { on := 6, ground := Ground.phase }, { on := 7, ground := Ground.phase }], guard := none }) (v := ?_) rfl (by kernel_rfl) (by kernel_rfl) (by kernel_rfl) (fun _ _ _ h => by cases h.1) (Or.inl ⟨by rfl, ?_⟩) (by with_reducible assumption) ?_
      rotate_left
      focus (intro wS hSw; (try dsimp only at hSw); go_simp <;> with_reducible rfl)
      try go_frame
      refine wpAnyH_ready (rs := [10]) (by kernel_rfl) (by simp) ?_
      refine AllReadyH.cons (i := 10) (o := { dst := none, op := Op.store 48 (Operand.tmp 16) (Operand.tmp 14), type := 0, pos := "grid.go:66", after := #[{ on := 9, ground := Ground.data }, { on := 7, ground := Ground.data }, { on := 7, ground := Ground.chain }, { on := 0, ground := Ground.phase }, { on := 1, ground := Ground.phase }, { on := 2, ground := Ground.phase }, { on := 3, ground := Ground.phase }, { on := 4, ground := Ground.phase }, { on := 5, ground := Ground.phase }, { on := 6, ground := Ground.phase }, { on := 7, ground := Ground.phase }], guard := none }) rfl (fun K hK => ?_) AllReadyH.nil
      go_simp
      refine hK.out _ _ (HM.out.2) (fun hHeld => ?_)
      clear hK K
      try go_frame
      refine wpAnyH_done (by kernel_rfl) ?_ _
      refine ⟨rfl, ?_⟩
      exact ⟨rfl, _, _, _, _, _, _, _, _, _, _, rfl, HM.out.1⟩
  case h2 =>
    rintro a1 V1 ⟨x7, x8, x9, x10, x11, x12, x13, x14, x15, x16, rfl, hA1⟩
    have HA1 := Lib.hid hA1
    dsimp only
    clear hA1 HMo HK HOw HU c2a c2b q0 q1
    gi_wp2_with fail
    obtain ⟨R1, _, g1, _⟩ := HA1.out.st
    have q0 := HA1.out.p
    have q1 := g1.c0
    have q2 := g1.c1
    have q3 : V1.cell? ⟨W.heap.size + 1 + 1, 0, none⟩ = some (.int .i64 b.1) := HA1.out.b.1
    have q4 : V1.cell? ⟨W.heap.size + 1 + 1, 1, none⟩ = some (.int .i64 b.2.1) := HA1.out.b.2.1
    have q5 : V1.cell? ⟨W.heap.size + 1 + 1, 2, none⟩ = some (.int .i64 b.2.2.1) := HA1.out.b.2.2.1
    have q6 : V1.cell? ⟨W.heap.size + 1 + 1, 3, none⟩ = some (.int .i64 b.2.2.2) := HA1.out.b.2.2.2
    clear g1
    have hin := szB_in HRg.out
    rw [HS0.out] at hin
    have HT : Hid (Calls Try.prog 60 #[.agg #[.int .i64 s.1, .int .i64 s.2], .agg #[.int .i64 b.1, .int .i64 b.2.1, .int .i64 b.2.2.1, .int .i64 b.2.2.2]] V1.drew (ToPost V1.drew s b)) := Lib.hid (touched_any s b hin.1 hin.2.2.1 (by omega) (by omega) _)
    have HQ : Hid (∀ V2, Below V1.drew.heap.size V1.drew V2 → V2.cell? ⟨W.heap.size, 0, none⟩ = some (.pointer (some ⟨gb, 0, none⟩)) ∧ V2.cell? ⟨gb, 0, none⟩ = some (.int .i64 s.1) ∧ V2.cell? ⟨gb, 1, none⟩ = some (.int .i64 s.2) ∧ V2.cell? ⟨W.heap.size + 1 + 1, 0, none⟩ = some (.int .i64 b.1) ∧ V2.cell? ⟨W.heap.size + 1 + 1, 1, none⟩ = some (.int .i64 b.2.1) ∧ V2.cell? ⟨W.heap.size + 1 + 1, 2, none⟩ = some (.int .i64 b.2.2.1) ∧ V2.cell? ⟨W.heap.size + 1 + 1, 3, none⟩ = some (.int .i64 b.2.2.2)) := Lib.hid (fun V2 h => ⟨cell_later h q0, cell_later h q1, cell_later h q2, cell_later h q3, cell_later h q4, cell_later h q5, cell_later h q6⟩)
    have HFl : Hid (fld s (b.1, b.2.1) = flo b ∧ fld s (b.2.2.1, b.2.2.2) = fhi b) := Lib.hid (by unfold flo fhi; rw [HS0.out]; exact ⟨rfl, rfl⟩)
    refine region_cut_in (J := (fun a V1 => ∃ x7 x8 x9 x10 x11 x12 x13 x14 x15 x16 x17 x18 x19 x20 x21 kl kh, a = { tmps := #[.pointer (some ⟨gb, 0, none⟩), .int .i64 (n : Int), .agg #[.int .i64 b.1, .int .i64 b.2.1, .int .i64 b.2.2.1, .int .i64 b.2.2.2], .pointer (some ⟨W.heap.size, 0, none⟩), .pointer (some ⟨W.heap.size + 1, 0, none⟩), .pointer (some ⟨W.heap.size + 1 + 1, 0, none⟩), undef, x7, x8, x9, x10, x11, x12, x13, x14, x15, x16, x17, x18, x19, x20, x21, .func (.func 70) #[] #[.pointer (some ⟨kl, 0, none⟩), .pointer (some ⟨kh, 0, none⟩)], undef, undef, undef, undef, undef, undef, undef, undef, undef, undef, undef, undef], defers := [] } ∧ AdI (NB5 W kl kh) W B R s gb (A ++ [n]) F n b V1 ∧ P2At V1 kl (flo b) ∧ P2At V1 kh (fhi b))) (OpenR.wide _) (S := (fun W' : World => W'.cell? ⟨W.heap.size, 0, none⟩ = some (.pointer (some ⟨gb, 0, none⟩)) ∧ W'.cell? ⟨gb, 0, none⟩ = some (.int .i64 s.1) ∧ W'.cell? ⟨gb, 1, none⟩ = some (.int .i64 s.2) ∧ W'.cell? ⟨W.heap.size + 1 + 1, 0, none⟩ = some (.int .i64 b.1) ∧ W'.cell? ⟨W.heap.size + 1 + 1, 1, none⟩ = some (.int .i64 b.2.1) ∧ W'.cell? ⟨W.heap.size + 1 + 1, 2, none⟩ = some (.int .i64 b.2.2.1) ∧ W'.cell? ⟨W.heap.size + 1 + 1, 3, none⟩ = some (.int .i64 b.2.2.2))) hmx (by kernel_rfl) ⟨q0, q1, q2, q3, q4, q5, q6⟩ (fun hHeld => ?h1) ?h2
    case h1 =>
      refine wpAnyH_take (i := 0) (oi := { dst := some 17, op := Op.load 89 (Operand.tmp 3), type := 89, pos := "grid.go:67", after := #[], guard := none }) (v := ?_) rfl (by kernel_rfl) (by kernel_rfl) (by kernel_rfl) (fun _ _ _ h => by cases h.1) (Or.inl ⟨by rfl, ?_⟩) (by with_reducible assumption) ?_
      rotate_left
      focus (intro wS hSw; (try dsimp only at hSw); go_simp <;> with_reducible rfl)
      try go_frame
      refine wpAnyH_take (i := 1) (oi := { dst := some 18, op := Op.nilCheck (Operand.tmp 17), type := 0, pos := "grid.go:67", after := #[{ on := 0, ground := Ground.data }], guard := none }) (v := ?_) rfl (by kernel_rfl) (by kernel_rfl) (by kernel_rfl) (fun _ _ _ h => by cases h.1) (Or.inl ⟨by rfl, ?_⟩) (by with_reducible assumption) ?_
      rotate_left
      focus (intro wS hSw; (try dsimp only at hSw); go_simp <;> with_reducible rfl)
      try go_frame
      refine wpAnyH_take (i := 2) (oi := { dst := some 19, op := Op.fieldAddr 105 (Operand.tmp 18) 0, type := 0, pos := "grid.go:67", after := #[{ on := 1, ground := Ground.data }], guard := none }) (v := ?_) rfl (by kernel_rfl) (by kernel_rfl) (by kernel_rfl) (fun _ _ _ h => by cases h.1) (Or.inl ⟨by rfl, ?_⟩) (by with_reducible assumption) ?_
      rotate_left
      focus (intro wS hSw; (try dsimp only at hSw); go_simp <;> with_reducible rfl)
      try go_frame
      refine wpAnyH_take (i := 3) (oi := { dst := some 20, op := Op.load 91 (Operand.tmp 19), type := 91, pos := "grid.go:67", after := #[{ on := 2, ground := Ground.data }], guard := none }) (v := ?_) rfl (by kernel_rfl) (by kernel_rfl) (by kernel_rfl) (fun _ _ _ h => by cases h.1) (Or.inl ⟨by rfl, ?_⟩) (by with_reducible assumption) ?_
      rotate_left
      focus (intro wS hSw; (try dsimp only at hSw); go_simp <;> with_reducible rfl)
      try go_frame
      refine wpAnyH_take (i := 4) (oi := { dst := some 21, op := Op.load 25 (Operand.tmp 5), type := 25, pos := "grid.go:67", after := #[], guard := none }) (v := ?_) rfl (by kernel_rfl) (by kernel_rfl) (by kernel_rfl) (fun _ _ _ h => by cases h.1) (Or.inl ⟨by rfl, ?_⟩) (by with_reducible assumption) ?_
      rotate_left
      focus (intro wS hSw; (try dsimp only at hSw); go_simp <;> with_reducible rfl)
      try go_frame
      refine wpAnyH_ready (rs := [5]) (by kernel_rfl) (by simp) ?_
      refine AllReadyH.cons (i := 5) (o := { dst := some 22, op := Op.call { callee := Callee.value (Operand.func 60), args := #[Operand.tmp 20, Operand.tmp 21], argTypes := #[91, 25] }, type := 108, pos := "grid.go:67", after := #[{ on := 3, ground := Ground.data }, { on := 4, ground := Ground.data }], guard := none }) rfl (fun K hK => ?_) AllReadyH.nil
      go_simp
      go_at_call 60
      refine HT.out.mono ?_
      rintro en V2 ⟨kl, kh, rfl, hkl, hkh, hgl, hgh, hbT⟩
      have HA2 : Hid (AdI (NB5 W kl kh) W B R s gb (A ++ [n]) F n b V2) := Lib.hid (HA1.out.wide (below_after (Below.refl _ _).drew hbT) (fun k hk => .inl hk) (fun k hk => by
          rcases hk with hk | rfl | rfl
          · exact .inl hk
          · exact .inr ⟨hgl, World.block_lt_of_cell? V2 _ hkl.1⟩
          · exact .inr ⟨hgh, World.block_lt_of_cell? V2 _ hkh.1⟩))
      obtain ⟨z0, z1, z2, z3, z4, z5, z6⟩ := HQ.out V2 hbT
      have HKL := Lib.hid hkl
      have HKH := Lib.hid hkh
      clear hkl hkh hbT hgl hgh
      refine hK.out _ _ ⟨z0, z1, z2, z3, z4, z5, z6⟩ (fun hHeld => ?_)
      clear hK K
      try go_frame
      refine wpAnyH_done (by kernel_rfl) ?_ _
      refine ⟨rfl, ?_⟩
      exact ⟨rfl, _, _, _, _, _, _, _, _, _, _, _, _, _, _, _, _, _, rfl, HA2.out, (by rw [← HFl.out.1]; exact HKL.out), (by rw [← HFl.out.2]; exact HKH.out)⟩
    case h2 =>
      rintro a2 V2 ⟨x7, x8, x9, x10, x11, x12, x13, x14, x15, x16, x17, x18, x19, x20, x21, kl, kh, rfl, hA2, hkl, hkh⟩
      have HA2 := Lib.hid hA2
      have HKL := Lib.hid hkl
      have HKH := Lib.hid hkh
      dsimp only
      clear hA2 hkl hkh q0 q1 q2 q3 q4 q5 q6 HA1 HT HQ HFl
      gi_wp2_with fail
      have hfl := flds_in HRg.out
      have hWV : W.heap.size ≤ V2.heap.size := HA2.out.fr.size
      refine wpIn_rangeFunc_ownH rfl (by omega) (gf := 70) (lb := #[.pointer (some ⟨kl, 0, none⟩), .pointer (some ⟨kh, 0, none⟩)]) rfl trivial (enters_of Try.func70 (by kernel_rfl) rfl)
        (touch_stops 3 (by omega) kl kh (flo b) (fhi b) hfl.1 hfl.2.1 V2 HKL.out HKH.out) KT.trans (fun W' l o o' _ h hc _ => KT.putObj W' l o o' h hc) (Below.refl _ _) (fun _ => rfl)
        (fun pre V' => AdI (NB5 W kl kh) W B R s gb (A ++ [n]) (cntF F n pre) n b V' ∧ ∃ fb, V'.cell? ⟨gb, 3, none⟩ = some (.map (some fb)) ∧ fb < V2.heap.size)
        (fun _ _ _ => False)
        (fun pre X Y row hI hg hr => by
          obtain ⟨ha, fb, hc, hlt⟩ := hI
          exact ⟨ha.away hc hg (fun r e => ⟨Nat.le_trans hWV (hr r e).1, by have := (hr r e).1; omega, (hr r e).2⟩), fb, cell_kept hc hg (fun r e => (hr r e).2), hlt⟩)
        (fun _ _ _ _ _ hs _ _ => hs)
        (by
          rw [cntF_nil]
          obtain ⟨R2, _, g2, _⟩ := HA2.out.st
          obtain ⟨fb, ps, c, c3, _, _, fm, _⟩ := g2.c3
          exact ⟨HA2.out, fb, c3, fm.size⟩)
        (fun x a' V' => ∃ kf, P2At V' kf x ∧ a' = { tmps := #[.pointer (some ⟨gb, 0, none⟩), .int .i64 (n : Int), .agg #[.int .i64 b.1, .int .i64 b.2.1, .int .i64 b.2.2.1, .int .i64 b.2.2.2], .pointer (some ⟨W.heap.size, 0, none⟩), .pointer (some ⟨W.heap.size + 1, 0, none⟩), .pointer (some ⟨W.heap.size + 1 + 1, 0, none⟩), .pointer (some ⟨kf, 0, none⟩), x7, x8, x9, x10, x11, x12, x13, x14, x15, x16, x17, x18, x19, x20, x21, .func (.func 70) #[] #[.pointer (some ⟨kl, 0, none⟩), .pointer (some ⟨kh, 0, none⟩)], .agg #[.int .i64 x.1, .int .i64 x.2], undef, undef, undef, undef, undef, undef, undef, undef, undef, undef, undef], defers := [] })
        ?hAx ?assign ?body ?done ?stop
      case hAx =>
        rintro x a' s' X Y row ⟨kf, h3, h5⟩ hg hrow
        exact ⟨kf, ⟨cell_kept h3.1 hg (fun r e => (hrow r e).2), cell_kept h3.2 hg (fun r e => (hrow r e).2)⟩, h5⟩
      case assign =>
        rintro l pre x W' K ⟨ha, fb, hc, hlt⟩ hK
        dsimp only [encF]
        gi_wp2
        refine hK _ _ ((KeepsOthers.alloc _ _).from _) (KT.below (below_alloc _ _)) ⟨ha.keep (below_alloc _ _), fb, cell_later (below_alloc _ _) hc, hlt⟩ ⟨W'.heap.size, ?_, rfl⟩
        constructor <;> go_simp
      case body =>
        rintro l pre x a' W' hl ⟨r, hr⟩ ⟨ha, fb0, hfb, hflt⟩ ⟨kf, hkf, rfl⟩ hlt
        have hlen := cntF_len F n pre x
        have hFx := HF.out x
        have hU := ha.keep ((below_alloc W' (.cells #[.int .i64 (n : Int)] 3)).drew)
        obtain ⟨fb, va, W1, bst, c3, run1, g1, own1, hS1, hMo⟩ := hU.entry x
        obtain rfl : fb0 = fb := by
          have := cell_later (below_alloc W' (.cells #[.int .i64 (n : Int)] 3)).drew hfb
          rw [c3] at this
          injection this with this; injection this with this; injection this with this; exact this.symm
        have e0 := ha.p
        have e1 := hfb
        have e2 := ha.n
        obtain ⟨f0, f1⟩ := hkf
        have f0b := cell_later (below_alloc W' (.cells #[.int .i64 (n : Int)] 3)).drew f0
        have f1b := cell_later (below_alloc W' (.cells #[.int .i64 (n : Int)] 3)).drew f1
        have hW'2 : V2.heap.size ≤ W'.heap.size := by
          have h1 : l < W'.heap.size := (Array.getElem?_eq_some_iff.1 hr).1
          omega
        have HNw : Hid (∀ j u, [Value.int .i64 (n : Int)][j]? = some u → W1.cell? ((⟨W'.heap.size, 0, none⟩ : Addr).add j) = some u) := Lib.hid (fun j u hj => by
          have h := Go.cell_one_new W' (.int .i64 (n : Int)) 3 j u hj
          rw [add_at] at h ⊢
          exact g1.cell (w := (W'.alloc (.cells #[.int .i64 (n : Int)] 3)).drew) h (by intro e; injection e with e; simp only at e; omega))
        have hBW1 : B ≤ W1.heap.size := by
          have h1 := g1.size
          simp at h1
          omega
        have HKf : Hid (∀ wB W3, W1.grownBy wB va.ownBlock → wB.grownBy W3 (some fb0) → KeepsFrom V2.heap.size W' W3) := Lib.hid (fun wB W3 h1 h2 => (((keepsFrom_grown (row := none) ((World.grownBy_alloc W' (.cells #[.int .i64 (n : Int)] 3) none).trans (grown_drew0 _ _)) (fun r e => by cases e)).trans (keepsFrom_grown g1 (fun r e => by injection e with e; exact .inl (by omega)))).trans (keepsFrom_grown h1 (fun r e => .inr (own_cells own1 e)))).trans (keepsFrom_grown h2 (fun r e => by injection e with e; exact .inl (by omega))))
        have HKT : Hid (∀ W3 : World, (∀ k o v, NB5 W kl kh k → (W'.alloc (.cells #[.int .i64 (n : Int)] 3)).drew.cell? ⟨k, o, none⟩ = some v → W3.cell? ⟨k, o, none⟩ = some v) → KT kl kh W' W3) := Lib.hid (fun W3 h => ⟨fun o v hv => h kl o v (.inr (.inl rfl)) (cell_later (below_alloc W' (.cells #[.int .i64 (n : Int)] 3)).drew hv), fun o v hv => h kh o v (.inr (.inr rfl)) (cell_later (below_alloc W' (.cells #[.int .i64 (n : Int)] 3)).drew hv)⟩)
        have HO1 := Lib.hid own1
        have HS1 := Lib.hid hS1
        have HMo := Lib.hid hMo
        have HG1 := Lib.hid g1
        unfold enc2 at run1
        clear hU own1 hS1 hMo g1 hfb ha c3 hr HKL HKH HA2
        dsimp only
        gi_wp2_with fail
        refine region_held_in (OpenR.round _ l) (S := (fun W'' : World => W''.cell? ⟨W.heap.size, 0, none⟩ = some (.pointer (some ⟨gb, 0, none⟩)) ∧ W''.cell? ⟨gb, 3, none⟩ = some (.map (some fb0)) ∧ W''.cell? ⟨W.heap.size + 1, 0, none⟩ = some (.int .i64 (n : Int)))) hmx (by kernel_rfl) ⟨e0, e1, e2⟩ (fun hHeld => ?_)
        refine wpAnyH_take (i := 0) (oi := { dst := some 24, op := Op.load 89 (Operand.tmp 3), type := 89, pos := "grid.go:68", after := #[], guard := none }) (v := ?_) rfl (by kernel_rfl) (by kernel_rfl) (by kernel_rfl) (fun _ _ _ h => by cases h.1) (Or.inl ⟨by rfl, ?_⟩) (by with_reducible assumption) ?_
        rotate_left
        focus (intro wS hSw; (try dsimp only at hSw); go_simp <;> with_reducible rfl)
        try go_frame
        refine wpAnyH_take (i := 1) (oi := { dst := some 25, op := Op.nilCheck (Operand.tmp 24), type := 0, pos := "grid.go:68", after := #[{ on := 0, ground := Ground.data }], guard := none }) (v := ?_) rfl (by kernel_rfl) (by kernel_rfl) (by kernel_rfl) (fun _ _ _ h => by cases h.1) (Or.inl ⟨by rfl, ?_⟩) (by with_reducible assumption) ?_
        rotate_left
        focus (intro wS hSw; (try dsimp only at hSw); go_simp <;> with_reducible rfl)
        try go_frame
        refine wpAnyH_take (i := 2) (oi := { dst := some 26, op := Op.fieldAddr 105 (Operand.tmp 25) 2, type := 0, pos := "grid.go:68", after := #[{ on := 1, ground := Ground.data }], guard := none }) (v := ?_) rfl (by kernel_rfl) (by kernel_rfl) (by kernel_rfl) (fun _ _ _ h => by cases h.1) (Or.inl ⟨by rfl, ?_⟩) (by with_reducible assumption) ?_
        rotate_left
        focus (intro wS hSw; (try dsimp only at hSw); go_simp <;> with_reducible rfl)
        try go_frame
        refine wpAnyH_take (i := 3) (oi := { dst := some 27, op := Op.load 103 (Operand.tmp 26), type := 103, pos := "grid.go:68", after := #[{ on := 2, ground := Ground.data }], guard := none }) (v := ?_) rfl (by kernel_rfl) (by kernel_rfl) (by kernel_rfl) (fun _ _ _ h => by cases h.1) (Or.inl ⟨by rfl, ?_⟩) (by with_reducible assumption) ?_
        rotate_left
        focus (intro wS hSw; (try dsimp only at hSw); go_simp <;> with_reducible rfl)
        try go_frame
        refine wpAnyH_take (i := 5) (oi := { dst := some 30, op := Op.load 3 (Operand.tmp 4), type := 3, pos := "grid.go:68", after := #[], guard := none }) (v := ?_) rfl (by kernel_rfl) (by kernel_rfl) (by kernel_rfl) (fun _ _ _ h => by cases h.1) (Or.inl ⟨by rfl, ?_⟩) (by with_reducible assumption) ?_
        rotate_left
        focus (intro wS hSw; (try dsimp only at hSw); go_simp <;> with_reducible rfl)
        try go_frame
        refine wpAnyH_ready (rs := [4, 6]) (by kernel_rfl) (by simp) ?_
        refine AllReadyH.cons (i := 4) (o := { dst := some 28, op := Op.load 110 (Operand.tmp 6), type := 110, pos := "grid.go:68", after := #[], guard := none }) rfl (fun K hK => ?_) (AllReadyH.cons (i := 6) (o := { dst := some 31, op := Op.buildSlice 48 1 #[(0, Operand.tmp 30)], type := 48, pos := "grid.go:68", after := #[{ on := 5, ground := Ground.data }], guard := none }) rfl (fun K hK => ?_) AllReadyH.nil)
        · go_simp
          refine hK.out _ _ (by with_reducible assumption) (fun hHeld => ?_)
          clear hK K
          try go_frame
          refine wpAnyH_ready (rs := [6]) (by kernel_rfl) (by simp) ?_
          refine AllReadyH.cons (i := 6) (o := { dst := some 31, op := Op.buildSlice 48 1 #[(0, Operand.tmp 30)], type := 48, pos := "grid.go:68", after := #[{ on := 5, ground := Ground.data }], guard := none }) rfl (fun K hK => ?_) AllReadyH.nil
          go_simp
          refine hK.out _ _ (by exact ⟨cell_later (below_alloc W' (.cells #[.int .i64 (n : Int)] 3)).drew e0, cell_later (below_alloc W' (.cells #[.int .i64 (n : Int)] 3)).drew e1, cell_later (below_alloc W' (.cells #[.int .i64 (n : Int)] 3)).drew e2⟩) (fun hHeld => ?_)
          clear hK K
          try go_frame
          refine wpAnyH_ready (rs := [7]) (by kernel_rfl) (by simp) ?_
          refine AllReadyH.cons (i := 7) (o := { dst := some 32, op := Op.mapEntry 103 (Operand.tmp 27) (Operand.tmp 28), type := 0, pos := "grid.go:68", after := #[{ on := 3, ground := Ground.data }, { on := 4, ground := Ground.data }, { on := 0, ground := Ground.phase }, { on := 1, ground := Ground.phase }, { on := 2, ground := Ground.phase }, { on := 3, ground := Ground.phase }, { on := 4, ground := Ground.phase }, { on := 5, ground := Ground.phase }, { on := 6, ground := Ground.phase }], guard := none }) rfl (fun K hK => ?_) AllReadyH.nil
          go_simp
          refine hK.out _ _ (HS1.out W1 HG1.out) (fun hHeld => ?_)
          clear hK K
          try go_frame
          refine wpAnyH_take (i := 8) (oi := { dst := some 29, op := Op.extract (Operand.tmp 32) 0, type := 48, pos := "grid.go:68", after := #[{ on := 7, ground := Ground.data }], guard := none }) (v := ?_) rfl (by kernel_rfl) (by kernel_rfl) (by kernel_rfl) (fun _ _ _ h => by cases h.1) (Or.inl ⟨by rfl, ?_⟩) (by with_reducible assumption) ?_
          rotate_left
          focus (intro wS hSw; (try dsimp only at hSw); go_simp <;> with_reducible rfl)
          try go_frame
          refine wpAnyH_take (i := 10) (oi := { dst := some 34, op := Op.extract (Operand.tmp 32) 1, type := 3, pos := "grid.go:68", after := #[{ on := 7, ground := Ground.data }], guard := none }) (v := ?_) rfl (by kernel_rfl) (by kernel_rfl) (by kernel_rfl) (fun _ _ _ h => by cases h.1) (Or.inl ⟨by rfl, ?_⟩) (by with_reducible assumption) ?_
          rotate_left
          focus (intro wS hSw; (try dsimp only at hSw); go_simp <;> with_reducible rfl)
          try go_frame
          refine wpAnyH_ready (rs := [9]) (by kernel_rfl) (by simp) ?_
          refine AllReadyH.cons (i := 9) (o := { dst := some 33, op := Op.call { callee := Callee.builtin Builtin.append, args := #[Operand.tmp 29, Operand.tmp 31], argTypes := #[48, 48] }, type := 48, pos := "grid.go:68", after := #[{ on := 8, ground := Ground.data }, { on := 6, ground := Ground.data }, { on := 7, ground := Ground.chain }], guard := none }) rfl (fun K hK => ?_) AllReadyH.nil
          refine step_append_at (by rfl) (.tmp 29) (.tmp 31) 48 (by rfl) B 3 iI (.int .i64 0) 1 8 Try.underlying48 hiI hI0 hI1 hI2 (by rfl) (by decide) va (cntF F n pre x).length (nCells (cntF F n pre x)) (by rfl) HO1.out _ 1 1 [.int .i64 (n : Int)] (by rfl) (by rfl) HNw.out (by intro u hu; rw [List.mem_singleton] at hu; subst hu; rfl) (by unfold maxLen; omega) (by omega) hBW1 ?_
          intro v2 wB hoB hgB hvB
          obtain ⟨g2, cp2, rfl⟩ := own_form1 hoB
          obtain ⟨hS2, W3, run3, hg3, hA3, hc33, hkeep⟩ := HMo.out wB _ hgB hoB hvB
          have HKF := Lib.hid (HKf.out wB W3 hgB hg3)
          have HA3 := Lib.hid hA3
          have HC3 := Lib.hid hc33
          have HKp := Lib.hid hkeep
          clear hoB hgB hvB hg3 hA3 hc33 hkeep
          refine hK.out _ _ hS2 (fun hHeld => ?_)
          clear hK K
          try go_frame
          refine wpAnyH_ready (rs := [11]) (by kernel_rfl) (by simp) ?_
          refine AllReadyH.cons (i := 11) (o := { dst := none, op := Op.entryStore 103 (Operand.tmp 27) (Operand.tmp 34) (Operand.tmp 33), type := 0, pos := "grid.go:68", after := #[{ on := 3, ground := Ground.data }, { on := 10, ground := Ground.data }, { on := 9, ground := Ground.data }, { on := 9, ground := Ground.chain }, { on := 0, ground := Ground.phase }, { on := 1, ground := Ground.phase }, { on := 2, ground := Ground.phase }, { on := 3, ground := Ground.phase }, { on := 4, ground := Ground.phase }, { on := 5, ground := Ground.phase }, { on := 6, ground := Ground.phase }, { on := 7, ground := Ground.phase }, { on := 8, ground := Ground.phase }, { on := 9, ground := Ground.phase }, { on := 10, ground := Ground.phase }], guard := none }) rfl (fun K hK => ?_) AllReadyH.nil
          go_simp
          refine hK.out _ _ ⟨HA3.out.p, HC3.out, HA3.out.n⟩ (fun hHeld => ?_)
          clear hK K
          try go_frame
          refine wpAnyH_done (by kernel_rfl) ?_ _
          refine ⟨rfl, HKF.out, HKT.out W3 HKp.out, ?_, fb0, HC3.out, hflt⟩
          rw [cntF_snoc]
          exact HA3.out
        · go_simp
          refine hK.out _ _ (by exact ⟨cell_later (below_alloc W' (.cells #[.int .i64 (n : Int)] 3)).drew e0, cell_later (below_alloc W' (.cells #[.int .i64 (n : Int)] 3)).drew e1, cell_later (below_alloc W' (.cells #[.int .i64 (n : Int)] 3)).drew e2⟩) (fun hHeld => ?_)
          clear hK K
          try go_frame
          refine wpAnyH_ready (rs := [4]) (by kernel_rfl) (by simp) ?_
          refine AllReadyH.cons (i := 4) (o := { dst := some 28, op := Op.load 110 (Operand.tmp 6), type := 110, pos := "grid.go:68", after := #[], guard := none }) rfl (fun K hK => ?_) AllReadyH.nil
          go_simp
          refine hK.out _ _ (by with_reducible assumption) (fun hHeld => ?_)
          clear hK K
          try go_frame
          refine wpAnyH_ready (rs := [7]) (by kernel_rfl) (by simp) ?_
          refine AllReadyH.cons (i := 7) (o := { dst := some 32, op := Op.mapEntry 103 (Operand.tmp 27) (Operand.tmp 28), type := 0, pos := "grid.go:68", after := #[{ on := 3, ground := Ground.data }, { on := 4, ground := Ground.data }, { on := 0, ground := Ground.phase }, { on := 1, ground := Ground.phase }, { on := 2, ground := Ground.phase }, { on := 3, ground := Ground.phase }, { on := 4, ground := Ground.phase }, { on := 5, ground := Ground.phase }, { on := 6, ground := Ground.phase }], guard := none }) rfl (fun K hK => ?_) AllReadyH.nil
          go_simp
          refine hK.out _ _ (HS1.out W1 HG1.out) (fun hHeld => ?_)
          clear hK K
          try go_frame
          refine wpAnyH_take (i := 8) (oi := { dst := some 29, op := Op.extract (Operand.tmp 32) 0, type := 48, pos := "grid.go:68", after := #[{ on := 7, ground := Ground.data }], guard := none }) (v := ?_) rfl (by kernel_rfl) (by kernel_rfl) (by kernel_rfl) (fun _ _ _ h => by cases h.1) (Or.inl ⟨by rfl, ?_⟩) (by with_reducible assumption) ?_
          rotate_left
          focus (intro wS hSw; (try dsimp only at hSw); go_simp <;> with_reducible rfl)
          try go_frame
          refine wpAnyH_take (i := 10) (oi := { dst := some 34, op := Op.extract (Operand.tmp 32) 1, type := 3, pos := "grid.go:68", after := #[{ on := 7, ground := Ground.data }], guard := none }) (v := ?_) rfl (by kernel_rfl) (by kernel_rfl) (by kernel_rfl) (fun _ _ _ h => by cases h.1) (Or.inl ⟨by rfl, ?_⟩) (by with_reducible assumption) ?_
          rotate_left
          focus (intro wS hSw; (try dsimp only at hSw); go_simp <;> with_reducible rfl)
          try go_frame
          refine wpAnyH_ready (rs := [9]) (by kernel_rfl) (by simp) ?_
          refine AllReadyH.cons (i := 9) (o := { dst := some 33, op := Op.call { callee := Callee.builtin Builtin.append, args := #[Operand.tmp 29, Operand.tmp 31], argTypes := #[48, 48] }, type := 48, pos := "grid.go:68", after := #[{ on := 8, ground := Ground.data }, { on := 6, ground := Ground.data }, { on := 7, ground := Ground.chain }], guard := none }) rfl (fun K hK => ?_) AllReadyH.nil
          refine step_append_at (by rfl) (.tmp 29) (.tmp 31) 48 (by rfl) B 3 iI (.int .i64 0) 1 8 Try.underlying48 hiI hI0 hI1 hI2 (by rfl) (by decide) va (cntF F n pre x).length (nCells (cntF F n pre x)) (by rfl) HO1.out _ 1 1 [.int .i64 (n : Int)] (by rfl) (by rfl) HNw.out (by intro u hu; rw [List.mem_singleton] at hu; subst hu; rfl) (by unfold maxLen; omega) (by omega) hBW1 ?_
          intro v2 wB hoB hgB hvB
          obtain ⟨g2, cp2, rfl⟩ := own_form1 hoB
          obtain ⟨hS2, W3, run3, hg3, hA3, hc33, hkeep⟩ := HMo.out wB _ hgB hoB hvB
          have HKF := Lib.hid (HKf.out wB W3 hgB hg3)
          have HA3 := Lib.hid hA3
          have HC3 := Lib.hid hc33
          have HKp := Lib.hid hkeep
          clear hoB hgB hvB hg3 hA3 hc33 hkeep
          refine hK.out _ _ hS2 (fun hHeld => ?_)
          clear hK K
          try go_frame
          refine wpAnyH_ready (rs := [11]) (by kernel_rfl) (by simp) ?_
          refine AllReadyH.cons (i := 11) (o := { dst := none, op := Op.entryStore 103 (Operand.tmp 27) (Operand.tmp 34) (Operand.tmp 33), type := 0, pos := "grid.go:68", after := #[{ on := 3, ground := Ground.data }, { on := 10, ground := Ground.data }, { on := 9, ground := Ground.data }, { on := 9, ground := Ground.chain }, { on := 0, ground := Ground.phase }, { on := 1, ground := Ground.phase }, { on := 2, ground := Ground.phase }, { on := 3, ground := Ground.phase }, { on := 4, ground := Ground.phase }, { on := 5, ground := Ground.phase }, { on := 6, ground := Ground.phase }, { on := 7, ground := Ground.phase }, { on := 8, ground := Ground.phase }, { on := 9, ground := Ground.phase }, { on := 10, ground := Ground.phase }], guard := none }) rfl (fun K hK => ?_) AllReadyH.nil
          go_simp
          refine hK.out _ _ ⟨HA3.out.p, HC3.out, HA3.out.n⟩ (fun hHeld => ?_)
          clear hK K
          try go_frame
          refine wpAnyH_done (by kernel_rfl) ?_ _
          refine ⟨rfl, HKF.out, HKT.out W3 HKp.out, ?_, fb0, HC3.out, hflt⟩
          rw [cntF_snoc]
          exact HA3.out
      case done =>
        rintro D ys W' hD rfl ⟨ha, fb, hc, hlt⟩ hK
        have HFn := Lib.hid (ha.away hc (grownBy_putObj' W' D (.deferred none)) (fun r e => by injection e with e; subst e; exact ⟨Nat.le_trans hWV hD, by omega, _, hK, rfl⟩))
        clear ha hc HKL HKH HA2
        dsimp only
        refine ⟨by simp, .inl ⟨_, _, rfl, run_takeDeferred hK, ?_⟩⟩
        obtain ⟨R9, e9, g9, _⟩ := HFn.out.st
        exact ⟨_, results_none rfl _ _ _, rfl, R9, e9, HFn.out.fr, g9⟩
      case stop =>
        rintro D c pre W' _ _ h _
        exact h.elim
end Go.Proofs.Ytenfaejdnphngaa
