/- Walks of the index: what Pairs does with a number: the walk. -/
import Derived.Test.YtenfaejdnphngaaRowsNw
namespace Go.Proofs.Ytenfaejdnphngaa
open Go.RowKit

/-- Which row a block belongs to: l + 1, or 0. -/
structure PrS (W0 : World) (kg gg kc ki n i : Nat) (G : Nat → List Nat) (cnt : Nat) (N : Nat → Prop) (V : World) : Prop where
  bl : Below W0.heap.size W0 V
  g0 : V.cell? ⟨kg, 0, none⟩ = some (.slice (some ⟨gg, 0, none⟩) n n)
  cc : V.cell? ⟨kc, 0, none⟩ = some (.int .i64 (cnt : Int))
  ci : V.cell? ⟨ki, 0, none⟩ = some (.int .i64 (i : Int))
  fc : V.frozen? ⟨kc, 0, none⟩ = false
  fg : ∀ l, V.frozen? ⟨gg, l, none⟩ = false
  ge : W0.heap.size ≤ gg ∧ W0.heap.size ≤ kc
  ne : gg ≠ kg ∧ gg ≠ kc ∧ gg ≠ ki ∧ kc ≠ kg ∧ kc ≠ ki
  pr : ∀ k, N k → k < V.heap.size ∧ k ≠ gg ∧ k ≠ kc
  st : ∃ ρ : Nat → Nat, ρ kg = 0 ∧ ρ gg = 0 ∧ ρ kc = 0 ∧ ρ ki = 0 ∧ (∀ k, N k → ρ k = 0) ∧ ∀ l, l < n → ∃ v, V.cell? ⟨gg, l, none⟩ = some v ∧ V.ownsRow W0.heap.size 3 1 v (G l).length (nCells (G l)) ∧ ∀ k, v.ownBlock = some k → ρ k = l + 1
theorem PrS.new {W0 V V1 : World} {kg gg kc ki n i cnt : Nat} {G : Nat → List Nat} {N N' : Nat → Prop} (h : PrS W0 kg gg kc ki n i G cnt N V) (hb : Below V.heap.size V V1) (hN : ∀ k, N' k → N k ∨ (V.heap.size ≤ k ∧ k < V1.heap.size)) (hn : 0 < n) : PrS W0 kg gg kc ki n i G cnt N' V1 := by
  obtain ⟨ρ, r1, r2, r3, r4, r5, r6⟩ := h.st
  have hs := h.bl.size
  have lkg : kg < V.heap.size := World.block_lt_of_cell? V _ h.g0
  have lkc : kc < V.heap.size := World.block_lt_of_cell? V _ h.cc
  have lki : ki < V.heap.size := World.block_lt_of_cell? V _ h.ci
  obtain ⟨v0, c0, _⟩ := r6 0 hn
  have lgg : gg < V.heap.size := World.block_lt_of_cell? V _ c0
  refine ⟨h.bl.trans (hb.mono hs), cell_later hb h.g0, cell_later hb h.cc, cell_later hb h.ci, (hb.frozen (p := ⟨kc, 0, none⟩) lkc).trans h.fc, fun l => (hb.frozen (p := ⟨gg, l, none⟩) lgg).trans (h.fg l), h.ge, h.ne, fun k hk => ?_, fun k => if k < V.heap.size then ρ k else 0, by simp [lkg, r1], by simp [lgg, r2], by simp [lkc, r3], by simp [lki, r4], fun k hk => ?_, fun l hl => ?_⟩
  · rcases hN k hk with a | a
    · exact ⟨Nat.lt_of_lt_of_le (h.pr k a).1 hb.size, (h.pr k a).2⟩
    · exact ⟨a.2, by omega, by omega⟩
  · rcases hN k hk with a | a
    · have := (h.pr k a).1; simp [this, r5 k a]
    · exact if_neg (by omega)
  · obtain ⟨v, c, o, hr⟩ := r6 l hl
    exact ⟨v, cell_later hb c, own_blk o (fun k hk => hb.block k (own_block o hk).2), fun k hk => by
      have := (own_block o hk).2
      simp only [this, if_true]
      exact hr k hk⟩
/-- A number more in row l. -/
theorem PrS.more {W0 V W1 : World} {kg gg kc ki n i cnt l m : Nat} {G : Nat → List Nat} {N : Nat → Prop} {va v2 : Value} (h : PrS W0 kg gg kc ki n i G cnt N V) (hl : l < n) (hc : V.cell? ⟨gg, l, none⟩ = some va) (hg : V.grownBy W1 va.ownBlock) (ho : W1.ownsRow W0.heap.size 3 1 v2 ((G l).length + 1) (nCells (G l) ++ [.int .i64 (m : Int)])) (hv : v2.ownBlock = va.ownBlock ∨ v2.ownBlock = some V.heap.size) :
    (W1.cell? ⟨gg, l, none⟩ = some va ∧ W1.frozen? ⟨gg, l, none⟩ = false ∧ W1.cell? ⟨kc, 0, none⟩ = some (.int .i64 (cnt : Int))) ∧ PrS W0 kg gg kc ki n i (fun j => if j = l then G j ++ [m] else G j) cnt N (W1.setCell ⟨gg, l, none⟩ v2) ∧ ∀ k, N k → (W1.setCell ⟨gg, l, none⟩ v2).heap[k]? = V.heap[k]? := by
  obtain ⟨ρ, r1, r2, r3, r4, r5, r6⟩ := h.st
  have hs := h.bl.size
  obtain ⟨va', c, o, hr⟩ := r6 l hl
  obtain rfl : va = va' := by rw [c] at hc; injection hc with e; exact e.symm
  have lkg : kg < V.heap.size := World.block_lt_of_cell? V _ h.g0
  have lkc : kc < V.heap.size := World.block_lt_of_cell? V _ h.cc
  have lki : ki < V.heap.size := World.block_lt_of_cell? V _ h.ci
  have lgg : gg < V.heap.size := World.block_lt_of_cell? V _ c
  have keep : ∀ k, k < V.heap.size → ρ k ≠ l + 1 → W1.heap[k]? = V.heap[k]? := fun k hk hne => hg.block k hk (fun e => hne (hr k e.symm))
  have keep2 : ∀ k, k ≠ gg → (W1.setCell ⟨gg, l, none⟩ v2).heap[k]? = W1.heap[k]? := fun k hk => Below.heap_setCell W1 _ v2 k hk
  have eg : W1.heap[gg]? = V.heap[gg]? := keep gg lgg (by rw [r2]; simp)
  have both : ∀ k, k < V.heap.size → ρ k ≠ l + 1 → k ≠ gg → (W1.setCell ⟨gg, l, none⟩ v2).heap[k]? = V.heap[k]? := fun k a b d => (keep2 k d).trans (keep k a b)
  have c1 : W1.cell? ⟨gg, l, none⟩ = some va := (World.cell?_of_block eg).trans c
  have n2 : ∀ k, v2.ownBlock = some k → k ≠ gg ∧ (k < V.heap.size → ρ k = l + 1) := fun k hk => by
    rcases hv with a | a
    · rw [a] at hk
      have h1 := hr k hk
      exact ⟨fun e => by rw [e, r2] at h1; simp at h1, fun _ => h1⟩
    · rw [a] at hk; injection hk with hk
      exact ⟨by omega, fun hlt => by omega⟩
  refine ⟨⟨c1, (World.frozen?_of_block eg).trans (h.fg l), (World.cell?_of_block (keep kc lkc (by rw [r3]; simp))).trans h.cc⟩, ⟨(h.bl.grown hg hs (fun k e => (own_block o e).1)).setCell h.ge.1 _, ?_, ?_, ?_, ?_, fun j => ?_, h.ge, h.ne, fun k hk => ⟨?_, (h.pr k hk).2⟩, fun k => if k < V.heap.size then ρ k else if v2.ownBlock = some k then l + 1 else 0, by simp [lkg, r1], by simp [lgg, r2], by simp [lkc, r3], by simp [lki, r4], fun k hk => by simp [(h.pr k hk).1, r5 k hk], fun j hj => ?_⟩, fun k hk => both k (h.pr k hk).1 (by rw [r5 k hk]; simp) (h.pr k hk).2.1⟩
  · exact (World.cell?_of_block (both kg lkg (by rw [r1]; simp) h.ne.1.symm)).trans h.g0
  · exact (World.cell?_of_block (both kc lkc (by rw [r3]; simp) h.ne.2.1.symm)).trans h.cc
  · exact (World.cell?_of_block (both ki lki (by rw [r4]; simp) h.ne.2.2.1.symm)).trans h.ci
  · exact (World.frozen?_of_block (a := ⟨kc, 0, none⟩) (both kc lkc (by rw [r3]; simp) h.ne.2.1.symm)).trans h.fc
  · rw [show (W1.setCell ⟨gg, l, none⟩ v2).frozen? ⟨gg, j, none⟩ = W1.frozen? ⟨gg, j, none⟩ from by simp]
    exact (World.frozen?_of_block (a := ⟨gg, j, none⟩) eg).trans (h.fg j)
  · rw [World.size_setCell]; exact Nat.lt_of_lt_of_le (h.pr k hk).1 hg.size
  · by_cases hjl : j = l
    · subst hjl
      rw [if_pos rfl]
      refine ⟨v2, World.cell?_setCell_same _ _ _ c1, ?_, fun k hk => ?_⟩
      · rw [nCells_app, List.length_append, List.length_singleton]
        exact own_blk ho (fun k hk => keep2 k (n2 k hk).1)
      · by_cases hlt : k < V.heap.size
        · dsimp only; rw [if_pos hlt]; exact (n2 k hk).2 hlt
        · dsimp only; rw [if_neg hlt, if_pos hk]
    · rw [if_neg hjl]
      obtain ⟨v, cj, oj, hrj⟩ := r6 j hj
      have hbk : ∀ k, v.ownBlock = some k → (W1.setCell ⟨gg, l, none⟩ v2).heap[k]? = V.heap[k]? := fun k hk => by
        have h1 := hrj k hk
        exact both k (own_block oj hk).2 (by rw [h1]; omega) (fun e => by rw [e, r2] at h1; simp at h1)
      refine ⟨v, ?_, own_blk oj hbk, fun k hk => ?_⟩
      · rw [World.cell?_setCell_other _ _ _ _ (by intro e; injection e with _ e2; exact hjl e2.symm)]
        exact (World.cell?_of_block eg).trans cj
      · have := (own_block oj hk).2
        dsimp only
        rw [if_pos this]
        exact hrj k hk
end Go.Proofs.Ytenfaejdnphngaa

namespace Go.Proofs.Ytenfaejdnphngaa
open Go.RowKit

theorem PrS.inc {W0 V : World} {kg gg kc ki n i cnt : Nat} {G : Nat → List Nat} {N : Nat → Prop} (h : PrS W0 kg gg kc ki n i G cnt N V) :
    PrS W0 kg gg kc ki n i G (cnt + 1) N (V.setCell ⟨kc, 0, none⟩ (.int .i64 ((cnt : Int) + 1))) ∧ ∀ k, N k → (V.setCell ⟨kc, 0, none⟩ (.int .i64 ((cnt : Int) + 1))).heap[k]? = V.heap[k]? := by
  obtain ⟨ρ, r1, r2, r3, r4, r5, r6⟩ := h.st
  have keep : ∀ k, k ≠ kc → (V.setCell ⟨kc, 0, none⟩ (.int .i64 ((cnt : Int) + 1))).heap[k]? = V.heap[k]? := fun k hk => Below.heap_setCell V _ _ k hk
  have eg := keep gg h.ne.2.1
  refine ⟨⟨h.bl.setCell h.ge.2 _, (World.cell?_of_block (keep kg h.ne.2.2.2.1.symm)).trans h.g0, by rw [World.cell?_setCell_same _ _ _ h.cc]; rfl, (World.cell?_of_block (keep ki h.ne.2.2.2.2.symm)).trans h.ci, by rw [show (V.setCell ⟨kc, 0, none⟩ (.int .i64 ((cnt : Int) + 1))).frozen? ⟨kc, 0, none⟩ = V.frozen? ⟨kc, 0, none⟩ from by simp]; exact h.fc, fun l => (World.frozen?_of_block (a := ⟨gg, l, none⟩) eg).trans (h.fg l), h.ge, h.ne, fun k hk => ⟨by rw [World.size_setCell]; exact (h.pr k hk).1, (h.pr k hk).2⟩, ρ, r1, r2, r3, r4, r5, fun l hl => ?_⟩, fun k hk => keep k (h.pr k hk).2.2⟩
  obtain ⟨v, c, o, hr⟩ := r6 l hl
  exact ⟨v, (World.cell?_of_block eg).trans c, own_blk o (fun k hk => keep k (fun e => by have := hr k hk; rw [e, r3] at this; simp at this)), hr⟩
def addG (G : Nat → List Nat) (i j : Nat) : Nat → List Nat := fun l => if l = min i j then G l ++ [max i j] else G l
def P1Post (W0 : World) (kg gg kc ki n i : Nat) (G : Nat → List Nat) (cnt : Nat) (N : Nat → Prop) (V : World) (e : Ending) (w' : World) : Prop := e = .returned (.tuple #[]) ∧ PrS W0 kg gg kc ki n i G cnt N w' ∧ ∀ k, N k → w'.heap[k]? = V.heap[k]?
set_option maxRecDepth 100000 in
set_option maxHeartbeats 2000000 in
theorem pairs1_any {W0 V : World} {kg gg kc ki n i cnt : Nat} {G : Nat → List Nat} {N : Nat → Prop} (j : Nat) (hi : i < n) (hj : j < n) (hG : ∀ l, (G l).length ≤ 200000) (hn : n ≤ 1000) (hc : cnt ≤ 1000000) (h : PrS W0 kg gg kc ki n i G cnt N V) :
    Calls Try.prog 51 #[.int .i64 (j : Int), .pointer (some ⟨ki, 0, none⟩), .pointer (some ⟨kg, 0, none⟩), .pointer (some ⟨kc, 0, none⟩)] V (P1Post W0 kg gg kc ki n i (addG G i j) (cnt + 1) N V) := by
  have hmx : Try.prog.follows .mixedOrders = true := by kernel_rfl
  obtain ⟨iI, hiI, hI0, hI1, hI2⟩ := info_parts infoIn
  have ci := h.ci
  have HP0 := Lib.hid h
  have HFin : Hid (∀ w', PrS W0 kg gg kc ki n i (addG G i j) (cnt + 1) N w' → (∀ k, N k → w'.heap[k]? = V.heap[k]?) → P1Post W0 kg gg kc ki n i (addG G i j) (cnt + 1) N V (.returned (.tuple #[])) w') := Lib.hid (fun w' a b => ⟨rfl, a, b⟩)
  have xc : IntKind.i64.wrap ((cnt : Int) + 1) = (cnt : Int) + 1 := IntWalk.i64_in _ (by omega)
  clear h
  go_enter Try.func51, Try.ntmps51
  go_upto_region 0 with fail
  go_region
  go_upto_region 1 with fail
  have e1 : min (i : Int) (j : Int) = ((min i j : Nat) : Int) := by omega
  have e2 : max (i : Int) (j : Int) = ((max i j : Nat) : Int) := by omega
  rw [e1, e2]
  unfold addG at *
  clear e1 e2 ci
  have hlo : min i j < n := by omega
  generalize min i j = lo at *
  generalize max i j = hi at *
  have hlz : (lo : Int) < (n : Int) := by omega
  have HPd := Lib.hid (HP0.out.new (Below.refl V.heap.size V).drew.drew (fun k hk => .inl hk) (by omega))
  have HP8 := Lib.hid (HPd.out.new (below_alloc V.drew.drew (.cells #[.int .i64 (hi : Int)] 3)) (fun k hk => .inl hk) (by omega))
  have HK8 : Hid (∀ k, N k → (V.drew.drew.alloc (.cells #[.int .i64 (hi : Int)] 3)).heap[k]? = V.heap[k]?) := Lib.hid (fun k hk => (below_alloc V.drew.drew (.cells #[.int .i64 (hi : Int)] 3)).block k (HPd.out.pr k hk).1)
  have g0d := HPd.out.g0
  have g8 := HP8.out.g0
  have hB7 : W0.heap.size ≤ (V.drew.drew.alloc (.cells #[.int .i64 (hi : Int)] 3)).heap.size := HP8.out.bl.size
  have hGl := hG lo
  obtain ⟨ρ, r1, _, _, _, _, r6⟩ := HPd.out.st
  obtain ⟨va, c5, o5, hr5⟩ := r6 lo hlo
  have c8 := cell_later (below_alloc V.drew.drew (.cells #[.int .i64 (hi : Int)] 3)) c5
  have HO : Hid ((V.drew.drew.alloc (.cells #[.int .i64 (hi : Int)] 3)).ownsRow W0.heap.size 3 1 va (G lo).length (nCells (G lo))) := Lib.hid (World.ownsRow.alloc (w := V.drew.drew) o5 _)
  have HKg : Hid (∀ wB, (V.drew.drew.alloc (.cells #[.int .i64 (hi : Int)] 3)).grownBy wB va.ownBlock → wB.heap[kg]? = (V.drew.drew.alloc (.cells #[.int .i64 (hi : Int)] 3)).heap[kg]?) := Lib.hid (fun wB hg => hg.block kg (World.block_lt_of_cell? _ _ g8) (fun e => by have := hr5 kg e.symm; rw [r1] at this; simp at this))
  clear r6 o5 hr5 r1 hG HP0
  refine wp_region_held_drew (S := (fun X : World => X.cell? ⟨kg, 0, none⟩ = some (.slice (some ⟨gg, 0, none⟩) n n))) (by kernel_rfl) g0d (fun hHeld => ?_)
  generalize V.drew.drew = w7 at *
  refine wpAnyH_take (i := 0) (oi := { dst := some 13, op := Op.load 94 (Operand.tmp 2), type := 94, pos := "index.go:89", after := #[], guard := none }) (v := ?_) rfl (by kernel_rfl) (by kernel_rfl) (by kernel_rfl) (fun _ _ _ h => h) (Or.inl ⟨by rfl, ?_⟩) (by with_reducible assumption) ?_
  rotate_left
  focus (intro wS hSw; (try dsimp only at hSw); go_simp <;> with_reducible rfl)
  try go_frame
  refine wpAnyH_take (i := 1) (oi := { dst := some 14, op := Op.move (Operand.tmp 5), type := 3, pos := "index.go:89", after := #[], guard := none }) (v := ?_) rfl (by kernel_rfl) (by kernel_rfl) (by kernel_rfl) (fun _ _ _ h => h) (Or.inl ⟨by rfl, ?_⟩) (by with_reducible assumption) ?_
  rotate_left
  focus (intro wS hSw; (try dsimp only at hSw); go_simp <;> with_reducible rfl)
  try go_frame
  refine wpAnyH_take (i := 2) (oi := { dst := some 15, op := Op.load 94 (Operand.tmp 2), type := 94, pos := "index.go:89", after := #[], guard := none }) (v := ?_) rfl (by kernel_rfl) (by kernel_rfl) (by kernel_rfl) (fun _ _ _ h => h) (Or.inl ⟨by rfl, ?_⟩) (by with_reducible assumption) ?_
  rotate_left
  focus (intro wS hSw; (try dsimp only at hSw); go_simp <;> with_reducible rfl)
  try go_frame
  refine wpAnyH_take (i := 3) (oi := { dst := some 16, op := Op.move (Operand.tmp 5), type := 3, pos := "index.go:89", after := #[], guard := none }) (v := ?_) rfl (by kernel_rfl) (by kernel_rfl) (by kernel_rfl) (fun _ _ _ h => h) (Or.inl ⟨by rfl, ?_⟩) (by with_reducible assumption) ?_
  rotate_left
  focus (intro wS hSw; (try dsimp only at hSw); go_simp <;> with_reducible rfl)
  try go_frame
  refine wpAnyH_take (i := 4) (oi := { dst := some 17, op := Op.indexAddr 94 (Operand.tmp 15) (Operand.tmp 16), type := 0, pos := "index.go:89", after := #[{ on := 2, ground := Ground.data }, { on := 3, ground := Ground.data }], guard := none }) (v := ?_) rfl (by kernel_rfl) (by kernel_rfl) (by kernel_rfl) (fun _ _ _ h => h) (Or.inl ⟨by rfl, ?_⟩) (by with_reducible assumption) ?_
  rotate_left
  focus (intro wS hSw; (try dsimp only at hSw); go_simp <;> with_reducible rfl)
  try go_frame
  refine wpAnyH_take (i := 6) (oi := { dst := some 19, op := Op.move (Operand.tmp 6), type := 3, pos := "index.go:89", after := #[], guard := none }) (v := ?_) rfl (by kernel_rfl) (by kernel_rfl) (by kernel_rfl) (fun _ _ _ h => h) (Or.inl ⟨by rfl, ?_⟩) (by with_reducible assumption) ?_
  rotate_left
  focus (intro wS hSw; (try dsimp only at hSw); go_simp <;> with_reducible rfl)
  try go_frame
  refine wpAnyH_ready (rs := [5, 7]) (by kernel_rfl) (by simp) ?_
  refine AllReadyH.cons (i := 5) (o := { dst := some 18, op := Op.load 48 (Operand.tmp 17), type := 48, pos := "index.go:89", after := #[{ on := 4, ground := Ground.data }], guard := none }) rfl (fun K hK => ?_) (AllReadyH.cons (i := 7) (o := { dst := some 20, op := Op.buildSlice 48 1 #[(0, Operand.tmp 19)], type := 48, pos := "index.go:89", after := #[{ on := 6, ground := Ground.data }], guard := none }) rfl (fun K hK => ?_) AllReadyH.nil)
  · go_simp
    refine hK.out _ _ (by with_reducible assumption) (fun hHeld => ?_)
    clear hK K
    try go_frame
    refine wpAnyH_ready (rs := [7]) (by kernel_rfl) (by simp) ?_
    refine AllReadyH.cons (i := 7) (o := { dst := some 20, op := Op.buildSlice 48 1 #[(0, Operand.tmp 19)], type := 48, pos := "index.go:89", after := #[{ on := 6, ground := Ground.data }], guard := none }) rfl (fun K hK => ?_) AllReadyH.nil
    go_simp
    refine hK.out _ _ g8 (fun hHeld => ?_)
    clear hK K
    try go_frame
    refine wpAnyH_ready (rs := [8]) (by kernel_rfl) (by simp) ?_
    refine AllReadyH.cons (i := 8) (o := { dst := some 21, op := Op.call { callee := Callee.builtin Builtin.append, args := #[Operand.tmp 18, Operand.tmp 20], argTypes := #[48, 48] }, type := 48, pos := "index.go:89", after := #[{ on := 5, ground := Ground.data }, { on := 7, ground := Ground.data }], guard := none }) rfl (fun K hK => ?_) AllReadyH.nil
    refine step_append_at (by rfl) (.tmp 18) (.tmp 20) 48 (by rfl) W0.heap.size 3 iI (.int .i64 0) 1 8 Try.underlying48 hiI hI0 hI1 hI2 (by rfl) (by decide) va (G lo).length (nCells (G lo)) (by rfl) HO.out ⟨w7.heap.size, 0, none⟩ 1 1 [.int .i64 (hi : Int)] (by rfl) (by rfl) (Go.cell_one_new _ _ _) (by intro u hu; rw [List.mem_singleton] at hu; subst hu; rfl) (by unfold maxLen; omega) (by omega) hB7 ?_
    intro v2 wB hoB hgB hvB
    obtain ⟨⟨x0, x1, x2⟩, hP, hK2⟩ := HP8.out.more hlo c8 hgB hoB hvB
    have z0 := (World.cell?_of_block (HKg.out wB hgB)).trans g8
    obtain ⟨g2, cp2, rfl⟩ := own_form1 hoB
    have HP := Lib.hid hP
    have HK2 := Lib.hid hK2
    clear hoB hgB hvB hP hK2
    refine hK.out _ _ z0 (fun hHeld => ?_)
    clear hK K
    try go_frame
    refine wpAnyH_take (i := 9) (oi := { dst := some 22, op := Op.indexAddr 94 (Operand.tmp 13) (Operand.tmp 14), type := 0, pos := "index.go:89", after := #[{ on := 0, ground := Ground.data }, { on := 1, ground := Ground.data }, { on := 0, ground := Ground.phase }, { on := 1, ground := Ground.phase }, { on := 2, ground := Ground.phase }, { on := 3, ground := Ground.phase }, { on := 4, ground := Ground.phase }, { on := 5, ground := Ground.phase }, { on := 6, ground := Ground.phase }, { on := 7, ground := Ground.phase }, { on := 8, ground := Ground.phase }], guard := none }) (v := ?_) rfl (by kernel_rfl) (by kernel_rfl) (by kernel_rfl) (fun _ _ _ h => h) (Or.inl ⟨by rfl, ?_⟩) (by with_reducible assumption) ?_
    rotate_left
    focus (intro wS hSw; (try dsimp only at hSw); go_simp <;> with_reducible rfl)
    try go_frame
    refine wpAnyH_ready (rs := [10]) (by kernel_rfl) (by simp) ?_
    refine AllReadyH.cons (i := 10) (o := { dst := none, op := Op.store 48 (Operand.tmp 22) (Operand.tmp 21), type := 0, pos := "index.go:89", after := #[{ on := 9, ground := Ground.data }, { on := 8, ground := Ground.data }, { on := 8, ground := Ground.chain }, { on := 0, ground := Ground.phase }, { on := 1, ground := Ground.phase }, { on := 2, ground := Ground.phase }, { on := 3, ground := Ground.phase }, { on := 4, ground := Ground.phase }, { on := 5, ground := Ground.phase }, { on := 6, ground := Ground.phase }, { on := 7, ground := Ground.phase }, { on := 8, ground := Ground.phase }], guard := none }) rfl (fun K hK => ?_) AllReadyH.nil
    go_simp
    refine hK.out _ _ HP.out.g0 (fun hHeld => ?_)
    clear hK K
    try go_frame
    refine wpAnyH_done (by kernel_rfl) ?_ _
    have HPc := Lib.hid (HP.out.inc)
    have y0 := HP.out.cc
    have y1 := HP.out.fc
    go_wp2_with fail
    go_end0
    exact HFin.out _ HPc.out.1 (fun k hk => (HPc.out.2 k hk).trans ((HK2.out k hk).trans (HK8.out k hk)))
  · go_simp
    refine hK.out _ _ g8 (fun hHeld => ?_)
    clear hK K
    try go_frame
    refine wpAnyH_ready (rs := [5]) (by kernel_rfl) (by simp) ?_
    refine AllReadyH.cons (i := 5) (o := { dst := some 18, op := Op.load 48 (Operand.tmp 17), type := 48, pos := "index.go:89", after := #[{ on := 4, ground := Ground.data }], guard := none }) rfl (fun K hK => ?_) AllReadyH.nil
    go_simp
    refine hK.out _ _ (by with_reducible assumption) (fun hHeld => ?_)
    clear hK K
    try go_frame
    refine wpAnyH_ready (rs := [8]) (by kernel_rfl) (by simp) ?_
    refine AllReadyH.cons (i := 8) (o := { dst := some 21, op := Op.call { callee := Callee.builtin Builtin.append, args := #[Operand.tmp 18, Operand.tmp 20], argTypes := #[48, 48] }, type := 48, pos := "index.go:89", after := #[{ on := 5, ground := Ground.data }, { on := 7, ground := Ground.data }], guard := none }) rfl (fun K hK => ?_) AllReadyH.nil
    refine step_append_at (by rfl) (.tmp 18) (.tmp 20) 48 (by rfl) W0.heap.size 3 iI (.int .i64 0) 1 8 Try.underlying48 hiI hI0 hI1 hI2 (by rfl) (by decide) va (G lo).length (nCells (G lo)) (by rfl) HO.out ⟨w7.heap.size, 0, none⟩ 1 1 [.int .i64 (hi : Int)] (by rfl) (by rfl) (Go.cell_one_new _ _ _) (by intro u hu; rw [List.mem_singleton] at hu; subst hu; rfl) (by unfold maxLen; omega) (by omega) hB7 ?_
    intro v2 wB hoB hgB hvB
    obtain ⟨⟨x0, x1, x2⟩, hP, hK2⟩ := HP8.out.more hlo c8 hgB hoB hvB
    have z0 := (World.cell?_of_block (HKg.out wB hgB)).trans g8
    obtain ⟨g2, cp2, rfl⟩ := own_form1 hoB
    have HP := Lib.hid hP
    have HK2 := Lib.hid hK2
    clear hoB hgB hvB hP hK2
    refine hK.out _ _ z0 (fun hHeld => ?_)
    clear hK K
    try go_frame
    refine wpAnyH_take (i := 9) (oi := { dst := some 22, op := Op.indexAddr 94 (Operand.tmp 13) (Operand.tmp 14), type := 0, pos := "index.go:89", after := #[{ on := 0, ground := Ground.data }, { on := 1, ground := Ground.data }, { on := 0, ground := Ground.phase }, { on := 1, ground := Ground.phase }, { on := 2, ground := Ground.phase }, { on := 3, ground := Ground.phase }, { on := 4, ground := Ground.phase }, { on := 5, ground := Ground.phase }, { on := 6, ground := Ground.phase }, { on := 7, ground := Ground.phase }, { on := 8, ground := Ground.phase }], guard := none }) (v := ?_) rfl (by kernel_rfl) (by kernel_rfl) (by kernel_rfl) (fun _ _ _ h => h) (Or.inl ⟨by rfl, ?_⟩) (by with_reducible assumption) ?_
    rotate_left
    focus (intro wS hSw; (try dsimp only at hSw); go_simp <;> with_reducible rfl)
    try go_frame
    refine wpAnyH_ready (rs := [10]) (by kernel_rfl) (by simp) ?_
    refine AllReadyH.cons (i := 10) (o := { dst := none, op := Op.store 48 (Operand.tmp 22) (Operand.tmp 21), type := 0, pos := "index.go:89", after := #[{ on := 9, ground := Ground.data }, { on := 8, ground := Ground.data }, { on := 8, ground := Ground.chain }, { on := 0, ground := Ground.phase }, { on := 1, ground := Ground.phase }, { on := 2, ground := Ground.phase }, { on := 3, ground := Ground.phase }, { on := 4, ground := Ground.phase }, { on := 5, ground := Ground.phase }, { on := 6, ground := Ground.phase }, { on := 7, ground := Ground.phase }, { on := 8, ground := Ground.phase }], guard := none }) rfl (fun K hK => ?_) AllReadyH.nil
    go_simp
    refine hK.out _ _ HP.out.g0 (fun hHeld => ?_)
    clear hK K
    try go_frame
    refine wpAnyH_done (by kernel_rfl) ?_ _
    have HPc := Lib.hid (HP.out.inc)
    have y0 := HP.out.cc
    have y1 := HP.out.fc
    go_wp2_with fail
    go_end0
    exact HFin.out _ HPc.out.1 (fun k hk => (HPc.out.2 k hk).trans ((HK2.out k hk).trans (HK8.out k hk)))
/-- Rows behind these numbers of others. -/
def addGs (G : Nat → List Nat) (i : Nat) : List Nat → Nat → List Nat
  | [] => G
  | j :: U => addGs (addG G i j) i U
theorem addGs_snoc (i j : Nat) : ∀ (U : List Nat) (G : Nat → List Nat), addGs G i (U ++ [j]) = addG (addGs G i U) i j
  | [], _ => rfl
  | x :: U, G => addGs_snoc i j U (addG G i x)
theorem addGs_len (i : Nat) (l : Nat) : ∀ (U : List Nat) (G : Nat → List Nat), (addGs G i U l).length ≤ (G l).length + U.length
  | [], _ => Nat.le_refl _
  | x :: U, G => by
    have h := addGs_len i l U (addG G i x)
    have h2 : (addG G i x l).length ≤ (G l).length + 1 := by
      unfold addG
      split
      · simp
      · omega
    rw [List.length_cons]
    show (addGs (addG G i x) i U l).length ≤ _
    omega
/-- Pairs's use of a number, as long as rows and count stay low. -/
structure PrJ (W0 : World) (kg gg kc ki n i : Nat) (G : Nat → List Nat) (cnt : Nat) (N : Nat → Prop) (U : List Nat) (V : World) : Prop where
  s : PrS W0 kg gg kc ki n i (addGs G i U) (cnt + U.length) N V
  c : cnt ≤ 800000
  r : ∀ l, (G l).length ≤ 90000
  i : i < n
  n : n ≤ 1000
theorem pairs1_use (W0 : World) (kg gg kc ki n i : Nat) (G : Nat → List Nat) (cnt : Nat) : UseC n 51 #[.pointer (some ⟨ki, 0, none⟩), .pointer (some ⟨kg, 0, none⟩), .pointer (some ⟨kc, 0, none⟩)] (PrJ W0 kg gg kc ki n i G cnt) where
  ent := enters_of Try.func51 (by kernel_rfl) rfl
  new := fun h hb hN => ⟨h.s.new hb hN (Nat.lt_of_le_of_lt (Nat.zero_le _) h.i), h.c, h.r, h.i, h.n⟩
  lt := fun h k hk => (h.s.pr k hk).1
  use := fun {N U V} j hj hU h => by
    refine (pairs1_any j h.i hj (fun l => ?_) h.n (by have := h.c; omega) h.s).mono ?_
    · have h1 := addGs_len i l U G
      have h2 := h.r l
      omega
    · rintro e w' ⟨h1, h2, h3⟩
      refine ⟨h1, ⟨?_, h.c, h.r, h.i, h.n⟩, h3⟩
      rw [addGs_snoc, List.length_append, List.length_singleton, ← Nat.add_assoc]
      exact h2
end Go.Proofs.Ytenfaejdnphngaa
