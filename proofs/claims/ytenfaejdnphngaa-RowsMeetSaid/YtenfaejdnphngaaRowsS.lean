/- The index's state: which block is what, and what it holds. -/
import Derived.Test.YtenfaejdnphngaaMapG
import Derived.Test.YtenfaejdnphngaaTouch
import Derived.Test.YtenfaejdnphngaaAppAt
namespace Go.Proofs.Ytenfaejdnphngaa
open Go.RowKit

theorem lt_bl : ∀ (k x : Nat), x < 2 ^ k → k ≤ 64 → x < 2 ^ Lib.bitLen x
  | 0, x, h, _ => by
    have : x = 0 := by simpa using h
    subst this
    exact Nat.two_pow_pos _
  | k + 1, x, h, hk => by
    by_cases h0 : x = 0
    · subst h0; exact Nat.two_pow_pos _
    · have hx : x < 2 ^ 64 := Nat.lt_of_lt_of_le h (Nat.pow_le_pow_right (by omega) hk)
      have ih := lt_bl k (x / 2) (by rw [Nat.pow_succ] at h; omega) (by omega)
      rw [Lib.bitLen_half x h0 hx, Nat.add_comm, Nat.pow_succ]
      omega
theorem lt_dbl (n : Int) (h0 : 0 ≤ n) (h1 : n ≤ 67108864) : n < 2 ^ (dblV n).toNat := by
  have h := lt_bl 64 n.toNat (by omega) (Nat.le_refl _)
  have hd : Lib.bitLen n.toNat ≤ (dblV n).toNat := by unfold dblV; omega
  have h2 : n.toNat < 2 ^ (dblV n).toNat := Nat.lt_of_lt_of_le h (Nat.pow_le_pow_right (by omega) hd)
  have h3 : ((n.toNat : Nat) : Int) < ((2 ^ (dblV n).toNat : Nat) : Int) := by omega
  rw [Int.toNat_of_nonneg h0] at h3
  simpa using h3
theorem nR_two {lo hi : Int} (h0 : lo ≤ hi) (h1 : hi - lo ≤ 67108864) : nR (lo / 2 ^ (dblV (hi - lo)).toNat) (hi / 2 ^ (dblV (hi - lo)).toNat) ≤ 2 ∧ lo / 2 ^ (dblV (hi - lo)).toNat ≤ hi / 2 ^ (dblV (hi - lo)).toNat := by
  have hp := lt_dbl (hi - lo) (by omega) h1
  have hP : (0 : Int) < 2 ^ (dblV (hi - lo)).toNat := Int.pow_pos (by omega)
  generalize (2 : Int) ^ (dblV (hi - lo)).toNat = P at *
  have h2 := Int.lt_ediv_add_one_mul_self lo hP
  have h3 : hi / P < lo / P + 2 := by
    rw [Int.ediv_lt_iff_lt_mul hP]
    have : (lo / P + 2) * P = (lo / P + 1) * P + P := by rw [Int.add_mul, Int.add_mul]; omega
    omega
  have h4 := Int.ediv_le_ediv hP h0
  unfold nR
  omega
theorem div_in {x k : Int} (hx : -16777216 ≤ x ∧ x ≤ 16777216) (hk : 0 < k) : -1073741824 ≤ x / k ∧ x / k ≤ 1073741824 := by
  constructor
  · have : -16777216 ≤ x / k := by
      rw [Int.le_ediv_iff_mul_le hk]
      omega
    omega
  · have : x / k < 16777217 := by
      rw [Int.ediv_lt_iff_lt_mul hk]
      have : (16777217 : Int) ≤ 16777217 * k := by omega
      omega
    omega
/-- What a block is: the index, its boxes, its grids; of a size: the grid, its numbers, its fields, a field's numbers. -/
inductive Rl
  | no | ix | bs | gm | gd (s : I2) | al (s : I2) | fm (s : I2) | rw (s f : I2)
/-- Blocks of these kinds are as they were. -/
structure FrQ (Q : Rl → Prop) (R : Nat → Rl) (W W' : World) : Prop where
  os : W'.os = W.os
  tape : W'.tape = W.tape
  output : W'.output = W.output
  size : W.heap.size ≤ W'.heap.size
  block : ∀ k, k < W.heap.size → Q (R k) → W'.heap[k]? = W.heap[k]?
/-- What was there is what it was. -/
def ExtR (W : World) (R R' : Nat → Rl) : Prop := ∀ k, k < W.heap.size → R' k = R k
theorem ExtR.refl (W : World) (R : Nat → Rl) : ExtR W R R := fun _ _ => rfl
theorem ExtR.trans {W W1 : World} {R R1 R2 : Nat → Rl} (h : ExtR W R R1) (k : ExtR W1 R1 R2) (hs : W.heap.size ≤ W1.heap.size) : ExtR W R R2 := fun j hj => (k j (Nat.lt_of_lt_of_le hj hs)).trans (h j hj)
theorem FrQ.refl (Q : Rl → Prop) (R : Nat → Rl) (W : World) : FrQ Q R W W := ⟨rfl, rfl, rfl, Nat.le_refl _, fun _ _ _ => rfl⟩
theorem FrQ.trans {Q : Rl → Prop} {R R1 : Nat → Rl} {W W1 W2 : World} (h : FrQ Q R W W1) (k : FrQ Q R1 W1 W2) (e : ExtR W R R1) : FrQ Q R W W2 :=
  ⟨k.os.trans h.os, k.tape.trans h.tape, k.output.trans h.output, Nat.le_trans h.size k.size, fun j hj hq => (k.block j (Nat.lt_of_lt_of_le hj h.size) (by rw [e j hj]; exact hq)).trans (h.block j hj hq)⟩
theorem FrQ.below {Q : Rl → Prop} {R : Nat → Rl} {W W1 : World} (h : Below W.heap.size W W1) : FrQ Q R W W1 := ⟨h.os, h.tape, h.output, h.size, fun j hj _ => h.block j hj⟩
theorem FrQ.grown {Q : Rl → Prop} {R : Nat → Rl} {W W1 : World} {row : Option Nat} (h : W.grownBy W1 row) (hq : ∀ k, row = some k → k < W.heap.size → ¬ Q (R k)) : FrQ Q R W W1 :=
  ⟨h.os, h.tape, h.output, h.size, fun j hj hr => h.block j hj (fun e => hq j e.symm hj hr)⟩
theorem FrQ.weak {Q Q' : Rl → Prop} {R : Nat → Rl} {W W1 : World} (h : FrQ Q R W W1) (hw : ∀ r, Q' r → Q r) : FrQ Q' R W W1 := ⟨h.os, h.tape, h.output, h.size, fun j hj hr => h.block j hj (hw _ hr)⟩
theorem FrQ.cell {Q : Rl → Prop} {R : Nat → Rl} {W W1 : World} (h : FrQ Q R W W1) {a : Addr} {v : Value} (hc : W.cell? a = some v) (hq : Q (R a.block)) : W1.cell? a = some v :=
  (World.cell?_of_block (h.block _ (World.block_lt_of_cell? W _ hc) hq)).trans hc
theorem FrQ.frozen {Q : Rl → Prop} {R : Nat → Rl} {W W1 : World} (h : FrQ Q R W W1) {a : Addr} (ha : a.block < W.heap.size) (hq : Q (R a.block)) : W1.frozen? a = W.frozen? a := World.frozen?_of_block (h.block _ ha hq)
theorem FrQ.setCell {Q : Rl → Prop} {R : Nat → Rl} (W : World) (a : Addr) (v : Value) (hq : ¬ Q (R a.block)) : FrQ Q R W (W.setCell a v) :=
  ⟨rfl, rfl, rfl, by rw [World.size_setCell]; exact Nat.le_refl _, fun j _ hr => Below.heap_setCell W a v j (fun e => hq (by rw [← e]; exact hr))⟩
theorem own_blk {W W1 : World} {base size n : Nat} {T : TypeId} {v : Value} {xs : List Value} (h : W.ownsRow base T size v n xs) (e : ∀ k, v.ownBlock = some k → W1.heap[k]? = W.heap[k]?) : W1.ownsRow base T size v n xs := by
  obtain ⟨hl, h⟩ := h
  refine ⟨hl, ?_⟩
  rcases h with h | ⟨g, c, cur, rfl, hg, hh, r⟩
  · exact .inl h
  · exact .inr ⟨g, c, cur, rfl, hg, (e g rfl).trans hh, r⟩
/-- A row of a kind. -/
structure RwI (W : World) (B : Nat) (R : Nat → Rl) (r : Rl) (T : TypeId) (size : Nat) (v : Value) (n : Nat) (xs : List Value) : Prop where
  own : W.ownsRow B T size v n xs
  role : ∀ k, v.ownBlock = some k → R k = r
theorem RwI.fr {W W1 : World} {B size n : Nat} {R R1 : Nat → Rl} {r : Rl} {T : TypeId} {v : Value} {xs : List Value} {Q : Rl → Prop} (h : RwI W B R r T size v n xs) (hf : FrQ Q R W W1) (e : ExtR W R R1) (hq : Q r) : RwI W1 B R1 r T size v n xs :=
  ⟨own_blk h.own (fun k hk => hf.block k (own_block h.own hk).2 (by rw [h.role k hk]; exact hq)), fun k hk => (e k (own_block h.own hk).2).trans (h.role k hk)⟩
theorem RwI.nil (W : World) (B : Nat) (R : Nat → Rl) (r : Rl) (T : TypeId) (size : Nat) : RwI W B R r T size (.slice none 0 0) 0 [] := ⟨⟨by simp, .inl ⟨rfl, rfl⟩⟩, fun k hk => by cases hk⟩
/-- The kinds, once a row has come to lie in a new block. -/
def newR (W : World) (R : Nat → Rl) (v : Value) (r : Rl) : Nat → Rl := fun k => if W.heap.size ≤ k ∧ v.ownBlock = some k then r else R k
theorem newR_ext (W : World) (R : Nat → Rl) (v : Value) (r : Rl) : ExtR W R (newR W R v r) := fun k hk => by unfold newR; rw [if_neg (by omega)]
theorem RwI.more {W W1 : World} {B size n m : Nat} {R : Nat → Rl} {r : Rl} {T : TypeId} {v v2 : Value} {xs ys : List Value} (h : RwI W B R r T size v n xs) (ho : W1.ownsRow B T size v2 m ys) (hv : v2.ownBlock = v.ownBlock ∨ v2.ownBlock = some W.heap.size) : RwI W1 B (newR W R v2 r) r T size v2 m ys :=
  ⟨ho, fun k hk => by
    unfold newR
    by_cases hs : W.heap.size ≤ k
    · rw [if_pos ⟨hs, hk⟩]
    · rw [if_neg (by omega)]
      rcases hv with e | e
      · exact h.role k (by rw [← e]; exact hk)
      · rw [e] at hk; injection hk with hk; omega⟩
def nCells (A : List Nat) : List Value := A.map (fun n : Nat => .int .i64 (n : Int))
theorem nCells_len (A : List Nat) : (nCells A).length = A.length := by simp [nCells]
theorem nCells_app (A : List Nat) (n : Nat) : nCells (A ++ [n]) = nCells A ++ [.int .i64 (n : Int)] := by simp [nCells]
/-- A grid: its size, the numbers of its boxes, and those of each field. -/
structure GrI (W : World) (B : Nat) (R : Nat → Rl) (s : I2) (gb : Nat) (A : List Nat) (F : I2 → List Nat) : Prop where
  role : R gb = .gd s
  ge : B ≤ gb
  c0 : W.cell? ⟨gb, 0, none⟩ = some (.int .i64 s.1)
  c1 : W.cell? ⟨gb, 1, none⟩ = some (.int .i64 s.2)
  c2 : ∃ va, W.cell? ⟨gb, 2, none⟩ = some va ∧ RwI W B R (.al s) 3 1 va A.length (nCells A)
  c3 : ∃ fb ps c, W.cell? ⟨gb, 3, none⟩ = some (.map (some fb)) ∧ R fb = .fm s ∧ B ≤ fb ∧ MapG W fb ps c ∧ ∀ f, RwI W B R (.rw s f) 3 1 ((lkG ps f).getD (.slice none 0 0)) (F f).length (nCells (F f))
  frz : ∀ o, W.frozen? ⟨gb, o, none⟩ = false
  sz : 0 ≤ s.1 ∧ s.1 ≤ 60 ∧ 0 ≤ s.2 ∧ s.2 ≤ 60
theorem GrI.lt {W : World} {B gb : Nat} {R : Nat → Rl} {s : I2} {A : List Nat} {F : I2 → List Nat} (h : GrI W B R s gb A F) : gb < W.heap.size := World.block_lt_of_cell? W _ h.c0
/-- Kinds that are not of this size. -/
def offS (s : I2) (r : Rl) : Prop := r ≠ .gd s ∧ r ≠ .al s ∧ r ≠ .fm s ∧ ∀ f, r ≠ .rw s f
theorem GrI.fr {W W1 : World} {B gb : Nat} {R R1 : Nat → Rl} {s : I2} {A : List Nat} {F : I2 → List Nat} {Q : Rl → Prop} (h : GrI W B R s gb A F) (hf : FrQ Q R W W1) (e : ExtR W R R1) (h1 : Q (.gd s)) (h2 : Q (.al s)) (h3 : Q (.fm s)) (h4 : ∀ f, Q (.rw s f)) : GrI W1 B R1 s gb A F := by
  have hg : Q (R gb) := by rw [h.role]; exact h1
  have hl := h.lt
  obtain ⟨va, c2, r2⟩ := h.c2
  obtain ⟨fb, ps, c, c3, fr, fB, fm, fw⟩ := h.c3
  have hfb := fm.size
  exact ⟨(e gb hl).trans h.role, h.ge, hf.cell h.c0 hg, hf.cell h.c1 hg, ⟨va, hf.cell c2 hg, r2.fr hf e h2⟩,
    ⟨fb, ps, c, hf.cell c3 hg, (e fb hfb).trans fr, fB, fm.of (hf.block fb hfb (by rw [fr]; exact h3)), fun f => (fw f).fr hf e (h4 f)⟩, fun o => (hf.frozen (a := ⟨gb, o, none⟩) hl hg).trans (h.frz o), h.sz⟩
theorem GrI.keep {W W1 : World} {B gb : Nat} {R : Nat → Rl} {s : I2} {A : List Nat} {F : I2 → List Nat} (h : GrI W B R s gb A F) (hb : Below W.heap.size W W1) : GrI W1 B R s gb A F :=
  h.fr (Q := fun _ => True) (FrQ.below hb) (ExtR.refl _ _) trivial trivial trivial (fun _ => trivial)
/-- A number more, behind the append and the store. -/
theorem GrI.more {W W1 : World} {B gb : Nat} {R : Nat → Rl} {s : I2} {A : List Nat} {F : I2 → List Nat} {va v2 : Value} {n : Nat} (h : GrI W B R s gb A F) (hc : W.cell? ⟨gb, 2, none⟩ = some va) (hg : W.grownBy W1 va.ownBlock) (ho : W1.ownsRow B 3 1 v2 (A.length + 1) (nCells A ++ [.int .i64 (n : Int)])) (hv : v2.ownBlock = va.ownBlock ∨ v2.ownBlock = some W.heap.size) :
    GrI (W1.setCell ⟨gb, 2, none⟩ v2) B (newR W R v2 (.al s)) s gb (A ++ [n]) F ∧ FrQ (fun r => r ≠ .gd s ∧ r ≠ .al s) R W (W1.setCell ⟨gb, 2, none⟩ v2) := by
  obtain ⟨va', c2, r2⟩ := h.c2
  obtain rfl : va = va' := by rw [c2] at hc; injection hc with e; exact e.symm
  have hl := h.lt
  have e := newR_ext W R v2 (.al s)
  have f1 : FrQ (fun r => r ≠ .al s) R W W1 := FrQ.grown hg (fun k hk _ hq => hq (r2.role k hk))
  have hgb : newR W R v2 (.al s) gb = .gd s := (e gb hl).trans h.role
  have rw1 := r2.more ho hv
  have hl1 : gb < W1.heap.size := Nat.lt_of_lt_of_le hl hg.size
  have f2 : FrQ (fun r => r ≠ .gd s) (newR W R v2 (.al s)) W1 (W1.setCell ⟨gb, 2, none⟩ v2) := FrQ.setCell _ _ _ (fun hq => hq hgb)
  have ng : R gb ≠ .al s := by rw [h.role]; simp


  obtain ⟨fb, ps, c, c3, fr, fB, fm, fw⟩ := h.c3
  have hfb := fm.size
  have hfb1 : fb < W1.heap.size := Nat.lt_of_lt_of_le hfb hg.size
  have efb : newR W R v2 (.al s) fb = .fm s := (e fb hfb).trans fr
  have d0 := f1.cell h.c0 ng
  have d1 := f1.cell h.c1 ng
  have d2 := f1.cell c2 ng
  have d3 := f1.cell c3 ng
  have ne : ∀ a b : Nat, a ≠ b → (⟨gb, a, none⟩ : Addr) ≠ ⟨gb, b, none⟩ := fun a b h e => by injection e with _ e2; exact h e2
  have e1 : ExtR W1 (newR W R v2 (.al s)) (newR W R v2 (.al s)) := ExtR.refl _ _
  refine ⟨⟨hgb, h.ge, ?_, ?_, ⟨v2, World.cell?_setCell_same _ _ _ d2, ?_⟩, ⟨fb, ps, c, ?_, efb, fB, ?_, fun f => ?_⟩, fun o => ?_, h.sz⟩, ?_⟩
  · rw [World.cell?_setCell_other _ _ _ _ (ne _ _ (by decide))]; exact d0
  · rw [World.cell?_setCell_other _ _ _ _ (ne _ _ (by decide))]; exact d1
  · rw [nCells_app, List.length_append, List.length_singleton]
    exact rw1.fr f2 e1 (by simp)
  · rw [World.cell?_setCell_other _ _ _ _ (ne _ _ (by decide))]; exact d3
  · exact (fm.of (f1.block fb hfb (by rw [fr]; simp))).of (f2.block fb hfb1 (by rw [efb]; simp))
  · exact ((fw f).fr f1 e (by simp)).fr f2 e1 (by simp)
  · rw [show (W1.setCell ⟨gb, 2, none⟩ v2).frozen? ⟨gb, o, none⟩ = W1.frozen? ⟨gb, o, none⟩ from by simp]
    exact (f1.frozen (a := ⟨gb, o, none⟩) hl ng).trans (h.frz o)
  · exact (f1.weak (fun r hr => hr.2)).trans (f2.weak (fun r hr => hr.1)) e
def updF (F : I2 → List Nat) (f : I2) (n : Nat) : I2 → List Nat := fun g => if g = f then F g ++ [n] else F g
/-- A field's number more: behind the entry, the append, the store. -/
theorem GrI.put {W W1 W2 W3 : World} {B gb fb c c1 n : Nat} {R : Nat → Rl} {s f : I2} {A : List Nat} {F : I2 → List Nat} {ps ps1 : List EnG} {va v2 : Value} (h : GrI W B R s gb A F)
    (hc : W.cell? ⟨gb, 3, none⟩ = some (.map (some fb))) (hm : MapG W fb ps c) (hr : R fb = .fm s) (hB : B ≤ fb) (hw : ∀ f, RwI W B R (.rw s f) 3 1 ((lkG ps f).getD (.slice none 0 0)) (F f).length (nCells (F f)))
    (g1 : W.grownBy W1 (some fb)) (m1 : MapG W1 fb ps1 c1) (k1 : ∀ g, g ≠ f → lkG ps1 g = lkG ps g) (k2 : lkG ps1 f = some va) (hva : va = (lkG ps f).getD (.slice none 0 0))
    (g2 : W1.grownBy W2 va.ownBlock) (ho : W2.ownsRow B 3 1 v2 ((F f).length + 1) (nCells (F f) ++ [.int .i64 (n : Int)])) (hv : v2.ownBlock = va.ownBlock ∨ v2.ownBlock = some W1.heap.size)
    (g3 : W2.grownBy W3 (some fb)) (m3 : MapG W3 fb (setG ps1 f v2) c1) :
    GrI W3 B (newR W1 R v2 (.rw s f)) s gb A (updF F f n) ∧ FrQ (fun r => r ≠ .fm s ∧ r ≠ .rw s f) R W W3 ∧ ExtR W R (newR W1 R v2 (.rw s f)) := by
  have hl := h.lt
  have hfb := hm.size
  have hfb1 := m1.size
  have e : ExtR W1 R (newR W1 R v2 (.rw s f)) := newR_ext W1 R v2 _
  have e0 : ExtR W R (newR W1 R v2 (.rw s f)) := fun k hk => e k (Nat.lt_of_lt_of_le hk g1.size)
  have f1 : FrQ (fun r => r ≠ .fm s) R W W1 := FrQ.grown g1 (fun k hk _ hq => by injection hk with hk; subst hk; exact hq hr)
  have rva : RwI W1 B R (.rw s f) 3 1 va (F f).length (nCells (F f)) := by rw [hva]; exact (hw f).fr f1 (ExtR.refl _ _) (by simp)
  have f2 : FrQ (fun r => r ≠ .rw s f) R W1 W2 := FrQ.grown g2 (fun k hk _ hq => hq (rva.role k hk))
  have r2 := rva.more ho hv
  have efb : newR W1 R v2 (.rw s f) fb = .fm s := (e fb hfb1).trans hr
  have f3 : FrQ (fun r => r ≠ .fm s) (newR W1 R v2 (.rw s f)) W2 W3 := FrQ.grown g3 (fun k hk _ hq => by injection hk with hk; subst hk; exact hq efb)
  have e1 : ExtR W2 (newR W1 R v2 (.rw s f)) (newR W1 R v2 (.rw s f)) := ExtR.refl _ _
  have fAll : FrQ (fun r => r ≠ .fm s ∧ r ≠ .rw s f) R W W3 := ((f1.weak (fun _ hr => hr.1)).trans (f2.weak (fun _ hr => hr.2)) (ExtR.refl _ _)).trans (f3.weak (fun _ hr => hr.1)) e0
  refine ⟨?_, fAll, e0⟩
  have hg : R gb ≠ .fm s ∧ R gb ≠ .rw s f := by rw [h.role]; exact ⟨by simp, by simp⟩
  obtain ⟨va2, c2, ra⟩ := h.c2
  refine ⟨(e0 gb hl).trans h.role, h.ge, fAll.cell h.c0 hg, fAll.cell h.c1 hg, ⟨va2, fAll.cell c2 hg, ra.fr fAll e0 ⟨by simp, by simp⟩⟩, ⟨fb, setG ps1 f v2, c1, fAll.cell hc hg, efb, hB, m3, fun g => ?_⟩, fun o => (fAll.frozen (a := ⟨gb, o, none⟩) hl hg).trans (h.frz o), h.sz⟩
  rw [lkG_set]
  unfold updF
  by_cases hgf : g = f
  · subst hgf
    rw [if_pos rfl, if_pos rfl, k2]
    simp only [Option.map_some, Option.getD_some]
    rw [nCells_app, List.length_append, List.length_singleton]
    exact r2.fr f3 e1 (by simp)
  · rw [if_neg hgf, if_neg hgf, k1 g hgf]
    exact (((hw g).fr f1 (ExtR.refl _ _) (by simp)).fr f2 e (by simp [hgf])).fr f3 e1 (by simp)
/-- Fields' numbers, while fields are gone through. -/
def cntF (F : I2 → List Nat) (n : Nat) (pre : List I2) : I2 → List Nat := fun f => F f ++ List.replicate (pre.count f) n
theorem cntF_nil (F : I2 → List Nat) (n : Nat) : cntF F n [] = F := by funext f; simp [cntF]
theorem cntF_snoc (F : I2 → List Nat) (n : Nat) (pre : List I2) (x : I2) : cntF F n (pre ++ [x]) = updF (cntF F n pre) x n := by
  funext f
  unfold cntF updF
  rw [List.count_append, List.count_singleton]
  by_cases h : f = x
  · subst h
    simp [List.replicate_succ', List.append_assoc]
  · have : (x == f) = false := by simp; exact fun e => h e.symm
    simp [this, h]
theorem cntF_len (F : I2 → List Nat) (n : Nat) (pre : List I2) (f : I2) : (cntF F n pre f).length ≤ (F f).length + pre.length := by
  unfold cntF
  rw [List.length_append, List.length_replicate]
  have := List.count_le_length (a := f) (l := pre)
  omega
end Go.Proofs.Ytenfaejdnphngaa
