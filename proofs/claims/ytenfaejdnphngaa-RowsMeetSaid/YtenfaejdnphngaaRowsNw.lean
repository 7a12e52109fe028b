/- Walks of the index: New, At, Len. -/
import Derived.Test.YtenfaejdnphngaaRowsF
import Derived.Test.YtenfaejdnphngaaIterG
import Derived.Test.YtenfaejdnphngaaUniq
namespace Go.Proofs.Ytenfaejdnphngaa
open Go.RowKit
open Go.ChangeMaps (setBlock)

theorem mem_selA {L : List B4} {b : B4} {below : Int} {i : Nat} : ∀ {A : List Nat}, (∀ j ∈ A, (j : Int) < below) → (i ∈ selA L b below A ↔ i ∈ A ∧ risB (comB b (bxA L i)) = true)
  | [], _ => by simp [selA]
  | j :: A, h => by
    have ih := mem_selA (L := L) (b := b) (below := below) (i := i) (A := A) (fun x hx => h x (List.mem_cons_of_mem _ hx))
    rw [selA, if_pos (h j List.mem_cons_self)]
    split
    · rename_i hr
      rw [List.mem_cons, ih, List.mem_cons]
      constructor
      · rintro (rfl | ⟨h1, h2⟩)
        · exact ⟨.inl rfl, hr⟩
        · exact ⟨.inr h1, h2⟩
      · rintro ⟨h1 | h1, h2⟩
        · exact .inl h1
        · exact .inr ⟨h1, h2⟩
    · rename_i hr
      rw [ih, List.mem_cons]
      constructor
      · rintro ⟨h1, h2⟩; exact ⟨.inr h1, h2⟩
      · rintro ⟨h1 | h1, h2⟩
        · subst h1; exact absurd h2 hr
        · exact ⟨h1, h2⟩
theorem mem_numsL {L : List B4} {s : I2} {i : Nat} : i ∈ numsL L s ↔ i < L.length ∧ ofS s (bxA L i) = true := by
  unfold numsL
  rw [List.mem_filter, List.mem_range]
/-- What the grids give, one after the other. -/
def fndL (L : List B4) (b : B4) (vis : List EnG) : List Nat := vis.flatMap (fun p => selA L b (L.length : Int) (numsL L p.1))
theorem fndL_snoc (L : List B4) (b : B4) (vis : List EnG) (p : EnG) : fndL L b (vis ++ [p]) = fndL L b vis ++ selA L b (L.length : Int) (numsL L p.1) := by simp [fndL, List.flatMap_append]
theorem fndL_mem {L : List B4} {b : B4} {ps vis : List EnG} (hb : rgtB b = true) (h2 : ∀ p ∈ ps, p ∈ vis) (hn : ∀ s, lkG ps s = none → numsL L s = []) (i : Nat) : i ∈ fndL L b vis ↔ i < L.length ∧ metB b (bxA L i) = true := by
  have hlt : ∀ s, ∀ j ∈ numsL L s, (j : Int) < (L.length : Int) := fun s j hj => by have := (mem_numsL.1 hj).1; omega
  unfold fndL
  rw [List.mem_flatMap]
  constructor
  · rintro ⟨p, hp, hi⟩
    rw [mem_selA (hlt p.1), mem_numsL] at hi
    obtain ⟨⟨a1, a2⟩, a3⟩ := hi
    unfold ofS at a2
    rw [Bool.and_eq_true] at a2
    exact ⟨a1, by unfold metB; simp [hb, a2.1, a3]⟩
  · rintro ⟨a1, a2⟩
    unfold metB at a2
    rw [Bool.and_eq_true, Bool.and_eq_true] at a2
    have hm : i ∈ numsL L (szB (bxA L i)) := mem_numsL.2 ⟨a1, by unfold ofS; simp [a2.1.2]⟩
    cases hl : lkG ps (szB (bxA L i)) with
    | none => rw [hn _ hl] at hm; cases hm
    | some v =>
      obtain ⟨c, hc⟩ := lkG_some hl
      exact ⟨_, h2 _ hc, (mem_selA (hlt _)).2 ⟨hm, a2.2⟩⟩
/-- The sizes differ: no box is counted twice. -/
theorem fnd_sum (vis : List EnG) (hd : vis.Pairwise (fun p q => p.1 ≠ q.1)) : ∀ n : Nat, ∀ L : List B4, L.length = n → (vis.map (fun p => (numsL L p.1).length)).sum ≤ n := by
  intro n
  induction n with
  | zero =>
    intro L hL
    obtain rfl := List.length_eq_zero_iff.1 hL
    have : ∀ v : List EnG, (v.map (fun p => (numsL [] p.1).length)).sum = 0 := by
      intro v; induction v with
      | nil => rfl
      | cons p v ih => rw [List.map_cons, List.sum_cons, ih]; rfl
    rw [this]; exact Nat.le_refl _
  | succ n ih =>
    intro L hL
    obtain ⟨M, b, rfl⟩ : ∃ M b, L = M ++ [b] := ⟨L.dropLast, L.getLast (by intro e; rw [e] at hL; cases hL), (List.dropLast_concat_getLast _).symm⟩
    rw [List.length_append, List.length_singleton] at hL
    have h := ih M (by omega)
    have key : ∀ v : List EnG, v.Pairwise (fun p q => p.1 ≠ q.1) → (v.map (fun p => (numsL (M ++ [b]) p.1).length)).sum ≤ (v.map (fun p => (numsL M p.1).length)).sum + 1 ∧ ((∀ p ∈ v, ofS p.1 b = false) → (v.map (fun p => (numsL (M ++ [b]) p.1).length)).sum = (v.map (fun p => (numsL M p.1).length)).sum) := by
      intro v
      induction v with
      | nil => intro _; exact ⟨Nat.zero_le _, fun _ => rfl⟩
      | cons p v ihv =>
        intro hp
        rw [List.pairwise_cons] at hp
        obtain ⟨k1, k2⟩ := ihv hp.2
        simp only [List.map_cons, List.sum_cons]
        rw [numsL_snoc, List.length_append]
        refine ⟨?_, fun hn => ?_⟩
        · by_cases ho : ofS p.1 b = true
          · rw [if_pos ho]
            have := k2 (fun q hq => by
              have hne := hp.1 q hq
              unfold ofS at ho ⊢
              rw [Bool.and_eq_true, decide_eq_true_eq] at ho
              rw [ho.1, Bool.true_and, decide_eq_false_iff_not]
              exact fun e => hne (ho.2.symm.trans e))
            rw [this, List.length_singleton]; omega
          · rw [if_neg ho, List.length_nil]; omega
        · rw [if_neg (by rw [hn p List.mem_cons_self]; simp), k2 (fun q hq => hn q (List.mem_cons_of_mem _ hq)), List.length_nil]; omega
    have := (key vis hd).1
    omega
theorem fndL_len (L : List B4) (b : B4) (vis : List EnG) (hd : vis.Pairwise (fun p q => p.1 ≠ q.1)) : (fndL L b vis).length ≤ L.length := by
  have h := fnd_sum vis hd L.length L rfl
  have k : ∀ v : List EnG, (fndL L b v).length ≤ (v.map (fun p => (numsL L p.1).length)).sum := by
    intro v
    induction v with
    | nil => exact Nat.le_refl _
    | cons p v ih =>
      have e : fndL L b (p :: v) = selA L b (L.length : Int) (numsL L p.1) ++ fndL L b v := rfl
      rw [e, List.length_append, List.map_cons, List.sum_cons]
      have := selA_len L b (L.length : Int) (numsL L p.1)
      omega
  have := k vis
  omega
theorem bxCells_at : ∀ (L : List B4) (i : Nat), i < L.length → (bxCells L)[i * 4]? = some (.int .i64 (bxA L i).1) ∧ (bxCells L)[i * 4 + 1]? = some (.int .i64 (bxA L i).2.1) ∧ (bxCells L)[i * 4 + 2]? = some (.int .i64 (bxA L i).2.2.1) ∧ (bxCells L)[i * 4 + 3]? = some (.int .i64 (bxA L i).2.2.2)
  | [], i, h => by cases h
  | b :: L, 0, _ => by
    have e : bxCells (b :: L) = bxCl b ++ bxCells L := rfl
    rw [e]
    exact ⟨rfl, rfl, rfl, rfl⟩
  | b :: L, i + 1, h => by
    have ih := bxCells_at L i (by simpa using h)
    have e : bxCells (b :: L) = bxCl b ++ bxCells L := rfl
    have k : ∀ j, (bxCells (b :: L))[(i + 1) * 4 + j]? = (bxCells L)[i * 4 + j]? := fun j => by
      rw [e, List.getElem?_append_right (by simp [bxCl]; omega)]
      congr 1
      simp [bxCl]; omega
    have e2 : bxA (b :: L) (i + 1) = bxA L i := rfl
    rw [e2]
    exact ⟨(k 0).trans ih.1, (k 1).trans ih.2.1, (k 2).trans ih.2.2.1, (k 3).trans ih.2.2.2⟩
/-- What meeting reads, where old memory is as it was. -/
theorem maR_of {W : World} {B xb gb : Nat} {R : Nat → Rl} {L : List B4} {s : I2} {A : List Nat} {F : I2 → List Nat} (h : IxL W B xb R L) (hg : GrI W B R s gb A F) :
    ∃ vp vc ap ac, ∀ X : World, (∀ k, k < W.heap.size → X.heap[k]? = W.heap[k]?) → MaR X xb gb L A vp ap vc ac ∧ X.cell? ⟨gb, 0, none⟩ = some (.int .i64 s.1) ∧ X.cell? ⟨gb, 1, none⟩ = some (.int .i64 s.2) := by
  obtain ⟨vb, c0, r0⟩ := h.c0
  obtain ⟨va, c2, r2⟩ := hg.c2
  obtain ⟨vp, vc, rfl⟩ := own_len r0.own
  obtain ⟨ap, ac, rfl⟩ := own_len r2.own
  refine ⟨vp, vc, ap, ac, fun X hX => ?_⟩
  have kc : ∀ {a : Addr} {v : Value}, W.cell? a = some v → X.cell? a = some v := fun {a v} hc => (World.cell?_of_block (hX _ (World.block_lt_of_cell? W _ hc))).trans hc
  refine ⟨⟨kc c0, kc c2, fun k hk => ?_, fun i hi => ?_⟩, kc hg.c0, kc hg.c1⟩
  · rcases r2.own.2 with ⟨_, hz⟩ | ⟨g, c, cur, e, _⟩
    · omega
    · injection e with e1 e2 e3
      subst e1
      refine ⟨g, rfl, kc ?_⟩
      have := r2.own.cellAt k (by omega)
      rw [this]
      unfold nCells
      rw [List.getElem?_map, List.getElem?_eq_getElem hk]
      rfl
  · rcases r0.own.2 with ⟨_, hz⟩ | ⟨g, c, cur, e, _⟩
    · omega
    · injection e with e1 e2 e3
      subst e1
      obtain ⟨q0, q1, q2, q3⟩ := bxCells_at L i hi
      exact ⟨g, rfl, kc ((r0.own.cellAt (i * 4) (by omega)).trans q0), kc ((r0.own.cellAt (i * 4 + 1) (by omega)).trans q1), kc ((r0.own.cellAt (i * 4 + 2) (by omega)).trans q2), kc ((r0.own.cellAt (i * 4 + 3) (by omega)).trans q3)⟩
theorem filt_le {f g : EnG → Bool} (h : ∀ r, f r = true → g r = true) : ∀ M : List EnG, (M.filter f).length ≤ (M.filter g).length
  | [] => Nat.le_refl _
  | r :: M => by
    have ih := filt_le h M
    have hr := h r
    rw [List.filter_cons, List.filter_cons]
    cases hf : f r with
    | true => rw [hr hf]; simpa using ih
    | false =>
      cases hg : g r with
      | true => simp; omega
      | false => simpa using ih
theorem filt_lt {f g : EnG → Bool} (h : ∀ r, f r = true → g r = true) {p : EnG} (hf : f p = false) (hg : g p = true) : ∀ M : List EnG, p ∈ M → (M.filter f).length < (M.filter g).length
  | [], hp => by cases hp
  | r :: M, hp => by
    have hle := filt_le h M
    have hr := h r
    rw [List.filter_cons, List.filter_cons]
    rcases List.mem_cons.1 hp with e | e
    · subst e
      rw [hf, hg]
      simp
      omega
    · have ih := filt_lt h hf hg M e
      cases hf2 : f r with
      | true => rw [hr hf2]; simpa using ih
      | false =>
        cases hg2 : g r with
        | true => simp; omega
        | false => simpa using ih
/-- How many entries have not come yet. -/
def lftN (ps vis : List EnG) : Nat := (ps.filter (fun p => !(vis.any (fun q => q.2.2 == p.2.2)))).length
theorem lftN_lt {ps vis : List EnG} {p : EnG} (hp : p ∈ ps) (hn : ∀ q ∈ vis, q.2.2 ≠ p.2.2) : lftN ps (vis ++ [p]) < lftN ps vis := by
  unfold lftN
  refine filt_lt (fun r hr => ?_) ?_ ?_ ps hp
  · rw [List.any_append, Bool.not_eq_true', Bool.or_eq_false_iff] at hr
    rw [hr.1]; rfl
  · rw [List.any_append]; simp
  · rw [Bool.not_eq_true', List.any_eq_false]
    intro q hq
    simpa using hn q hq
/-- Find's loop. -/
structure FsI (W : World) (kf r mb c : Nat) (L : List B4) (b : B4) (ps vis : List EnG) (V : World) : Prop where
  it : ItG V r mb c vis
  j : FnJ W kf (fun k => k < W.heap.size ∨ k = W.heap.size ∨ k = r) (fndL L b vis) V
  sub : ∀ q ∈ vis, q ∈ ps
  nd : vis.Pairwise (fun p q => p.1 ≠ q.1)
  bx : BxAt V W.heap.size 0 b
  ne : r ≠ W.heap.size ∧ W.heap.size ≤ r
theorem key_eq : ∀ {ps : List EnG}, ps.Pairwise (fun p q => p.1 ≠ q.1) → ∀ {p q : EnG}, p ∈ ps → q ∈ ps → p.1 = q.1 → p = q
  | [], _, _, _, hp, _, _ => by cases hp
  | x :: M, h, p, q, hp, hq, e => by
    rw [List.pairwise_cons] at h
    rcases List.mem_cons.1 hp with h1 | h1 <;> rcases List.mem_cons.1 hq with h2 | h2
    · rw [h1, h2]
    · rw [h1] at e; exact absurd e (h.1 q h2)
    · rw [h2] at e; exact absurd e.symm (h.1 p h1)
    · exact key_eq h.2 h1 h2 e
theorem born_eq : ∀ {ps : List EnG}, (ps.map (fun p => p.2.2)).Nodup → ∀ {p q : EnG}, p ∈ ps → q ∈ ps → p.2.2 = q.2.2 → p = q
  | [], _, _, _, hp, _, _ => by cases hp
  | x :: M, h, p, q, hp, hq, e => by
    rw [List.map_cons, List.nodup_cons] at h
    rcases List.mem_cons.1 hp with h1 | h1 <;> rcases List.mem_cons.1 hq with h2 | h2
    · rw [h1, h2]
    · rw [h1] at e; exact absurd (List.mem_map.2 ⟨q, h2, e.symm⟩) h.1
    · rw [h2] at e; exact absurd (List.mem_map.2 ⟨p, h1, e⟩) h.1
    · exact born_eq h.2 h1 h2 e
theorem FnJ.il {W0 V : World} {kf : Nat} {N : Nat → Prop} {U : List Nat} (h : FnJ W0 kf N U V) : ∃ va, V.cell? ⟨kf, 0, none⟩ = some va ∧ IL V kf va (U.map (fun n : Nat => (n : Int))) := by
  obtain ⟨va, c, o, h1, _⟩ := h.st
  refine ⟨va, c, ?_⟩
  rcases id o.2 with ⟨e, hz⟩ | ⟨g, cp, cur, e, _, _, hle, _⟩
  · have hU : U = [] := List.length_eq_zero_iff.1 hz
    subst hU
    exact ⟨none, 0, e, Nat.le_refl _, fun i hi => by simp at hi⟩
  · subst e
    refine ⟨_, cp, by rw [List.length_map], by rw [List.length_map]; exact hle, fun i hi => ⟨g, 0, rfl, fun e => h1 (by rw [← e]; rfl), ?_⟩⟩
    rw [List.length_map] at hi
    rw [Nat.zero_add, o.cellAt i (by omega)]
    unfold nCells
    rw [List.getElem?_map, List.getElem?_eq_getElem hi, List.getElem_map]
    rfl
theorem set_at {W : World} {r : Nat} {o0 : Obj} (o : Obj) (hb : W.heap[r]? = some o0) : (setBlock W r o).heap[r]? = some o ∧ ∀ k, k ≠ r → (setBlock W r o).heap[k]? = W.heap[k]? := by
  have hlt := (Array.getElem?_eq_some_iff.1 hb).1
  unfold setBlock
  refine ⟨?_, fun k hk => ?_⟩
  · simp [hlt]
  · simp [Ne.symm hk]
theorem grown_blockI {W : World} {r : Nat} {o0 : Obj} (o : Obj) (hb : W.heap[r]? = some o0) : W.grownBy (setBlock W r o) (some r) :=
  ⟨rfl, rfl, rfl, by simp [setBlock], fun k _ hk => (set_at o hb).2 k (fun e => hk (by rw [e]))⟩
theorem FnJ.grow {W0 V V1 : World} {kf r : Nat} {N : Nat → Prop} {U : List Nat} (h : FnJ W0 kf N U V) (hg : V.grownBy V1 (some r)) (hr : N r) (h0 : W0.heap.size ≤ r) : FnJ W0 kf N U V1 := by
  obtain ⟨va, c, o, h1, h2⟩ := h.st
  have hk : kf < V.heap.size := World.block_lt_of_cell? V _ c
  have e : V1.heap[kf]? = V.heap[kf]? := hg.block kf hk (fun e => by injection e with e; exact (h.n r hr).2 e.symm)
  exact ⟨h.k, h.bl.grown hg h.bl.size (fun k e => by injection e with e; subst e; exact h0), (World.frozen?_of_block e).trans h.fz, fun k hk' => ⟨Nat.lt_of_lt_of_le (h.n k hk').1 hg.size, (h.n k hk').2⟩, va, (World.cell?_of_block e).trans c, own_blk o (fun k hk' => hg.block k (own_block o hk').2 (fun e => by injection e with e; subst e; exact h2 _ hr hk')), h1, h2⟩
/-- Behind an entry's coming. -/
theorem FsI.step {W wr w1 : World} {kf r mb c : Nat} {L : List B4} {b : B4} {ps vis : List EnG} {p : EnG} (h : FsI W kf r mb c L b ps vis wr) (hw : w1 = wr ∨ w1 = wr.drew) :
    ItG (setBlock w1 r (.mapIter (some mb) c ((vis ++ [p]).map (fun p => p.2.2)).toArray c)) r mb c (vis ++ [p]) ∧ FnJ W kf (fun k => k < W.heap.size ∨ k = W.heap.size ∨ k = r) (fndL L b vis) (setBlock w1 r (.mapIter (some mb) c ((vis ++ [p]).map (fun p => p.2.2)).toArray c)) ∧ BxAt (setBlock w1 r (.mapIter (some mb) c ((vis ++ [p]).map (fun p => p.2.2)).toArray c)) W.heap.size 0 b := by
  have hb : Below wr.heap.size wr w1 := by
    rcases hw with e | e
    · rw [e]; exact Below.refl _ _
    · rw [e]; exact below_drewW wr
  have hr := (h.j.n r (.inr (.inr rfl))).1
  have hi : w1.heap[r]? = some (.mapIter (some mb) c (vis.map (fun p => p.2.2)).toArray c) := (hb.block r hr).trans h.it
  have hg := grown_blockI (.mapIter (some mb) c ((vis ++ [p]).map (fun p => p.2.2)).toArray c) hi
  have hn := h.j.n W.heap.size (.inr (.inl rfl))
  have eb : (setBlock w1 r (.mapIter (some mb) c ((vis ++ [p]).map (fun p => p.2.2)).toArray c)).heap[W.heap.size]? = wr.heap[W.heap.size]? := (hg.block _ (Nat.lt_of_lt_of_le hn.1 hb.size) (fun e => by injection e with e; exact h.ne.1 e.symm)).trans (hb.block _ hn.1)
  exact ⟨(set_at _ hi).1, (h.j.new hb (fun k hk => .inl hk)).grow hg (.inr (.inr rfl)) h.ne.2, (World.cell?_of_block eb).trans h.bx.1, (World.cell?_of_block eb).trans h.bx.2.1, (World.cell?_of_block eb).trans h.bx.2.2.1, (World.cell?_of_block eb).trans h.bx.2.2.2⟩
def FiPost (L : List B4) (b : B4) (w : World) (e : Ending) (w' : World) : Prop := ∃ (u : Value) (X : List Int) (M : List Nat), e = .returned u ∧ UnP X (M.map (fun n : Nat => (n : Int))) ∧ (∀ i, i ∈ M ↔ i < L.length ∧ metB b (bxA L i) = true) ∧ IL w' w'.heap.size u X ∧ Below w.heap.size w w'
set_option maxRecDepth 100000 in
set_option maxHeartbeats 4000000 in
theorem find_few {W : World} {B xb : Nat} {R : Nat → Rl} {L : List B4} (h : IxL W B xb R L) (hB : B ≤ W.heap.size) (hL : L.length < 16) (b : B4) (hb : rgtB b = true) :
    Calls Try.prog 26 #[.pointer (some ⟨xb, 0, none⟩), encB b] W (FiPost L b W) := by
  have hmx : Try.prog.follows .mixedOrders = true := by kernel_rfl
  have HI := Lib.hid h
  have HRR : Hid (∀ X, Calls Try.prog 15 #[encB b] X fun e w' => e = .returned (.bool true) ∧ Below X.heap.size X w') := Lib.hid (fun X => by have h := rright_any b X; rwa [hb] at h)
  clear h
  unfold encB at *
  go_enter Try.func26, Try.ntmps26
  go_upto_region 4 with (first | (go_at_call 15; refine (HRR.out _).mono ?_; rintro e w1 ⟨rfl, hb1⟩; have HB1 := Lib.hid hb1; clear hb1) | fail)
  have HBW : Hid (Below W.heap.size W (w1.alloc (.cells #[.slice none 0 0] 48))) := Lib.hid (below_after (below_after (below_alloc _ _) HB1.out) (below_alloc _ _))
  have HIV := Lib.hid (HI.out.keep HBW.out (ExtR.refl _ _) hB)
  have hkf : W.heap.size < w1.heap.size := by have := HB1.out.size; simp at this; omega
  have HBx : Hid (BxAt (w1.alloc (.cells #[.slice none 0 0] 48)) W.heap.size 0 b) := Lib.hid (by
    have h0 : BxAt (W.alloc (.cells #[.int .i64 b.1, .int .i64 b.2.1, .int .i64 b.2.2.1, .int .i64 b.2.2.2] 25)) W.heap.size 0 b := by refine ⟨?_, ?_, ?_, ?_⟩ <;> go_simp
    exact (h0.keep HB1.out).keep (below_alloc _ _))
  have HJ : Hid (FnJ W w1.heap.size (fun k => k < W.heap.size ∨ k = W.heap.size) [] (w1.alloc (.cells #[.slice none 0 0] 48))) := Lib.hid ⟨Nat.le_of_lt hkf, HBW.out, by go_simp, fun k hk => by simp only [World.size_alloc]; omega, .slice none 0 0, by go_simp, ⟨by simp [nCells], .inl ⟨rfl, rfl⟩⟩, by simp [Value.ownBlock], fun k _ => by simp [Value.ownBlock]⟩
  have HW := HI
  clear HB1 HI
  generalize hV : w1.alloc (.cells #[.slice none 0 0] 48) = V at *
  generalize w1.heap.size = kf at *
  clear hV
  have hx := HW.out.lt
  rcases HW.out.c1 with ⟨c1W, hA⟩ | ⟨mb, ps, c, c1W, hr, hmB, hmW, hg, hn⟩
  · have c1 := cell_later HBW.out c1W
    have run1 := run_range_nilMap (P := Try.prog) V 86 91 89 Try.underlying86
    have run2 := run_next_nilMap (P := Try.prog) V 0 0 0 #[]
    have HJ1 := Lib.hid (HJ.out.new (below_alloc V (.mapIter none 0 #[] 0)) (fun k hk => .inl hk))
    have HM := Lib.hid (fndL_mem (L := L) (ps := []) (vis := []) hb (fun p hp => by cases hp) (fun s _ => (hA s).1))
    clear HJ HIV HBx hA HW c1W
    go_wp2_with fail
    clear run1 c1
    generalize V.heap.size = r at *
    generalize V.alloc (.mapIter none 0 #[] 0) = V1 at *
    go_loopg [7] 0 (fun gk x7 wx => V1 = wx)
    case atStart => exact rfl
    case round =>
      obtain rfl := hrel
      obtain ⟨va, cva, hil⟩ := HJ1.out.il
      have HUq := Lib.hid (ouniq_any hil (by simp))
      have HBl := Lib.hid HJ1.out.bl
      clear hil HJ1
      go_wp2_with (go_at_call 52; refine HUq.out.mono ?_; rintro e w3 ⟨u, X, rfl, hX, _, hI, hb3⟩; have HX := Lib.hid hX; have HI3 := Lib.hid hI; have HB3 := Lib.hid hb3; clear hX hI hb3)
      go_ret
      exact ⟨_, X, [], rfl, HX.out, HM.out, HI3.out, HBl.out.trans (HB3.out.mono HBl.out.size)⟩
  · have c1 := cell_later HBW.out c1W
    have hm := hmW.of (HBW.out.block mb hmW.size)
    obtain ⟨V1, run1, hit, hb1, hs1⟩ := run_rangeG (mt := 86) Try.underlying86 hm
    have HF0 : Hid (FsI W kf V.heap.size mb c L b ps [] V1) := Lib.hid (by
      have hsz := HBx.out.1
      have hlt := World.block_lt_of_cell? V _ hsz
      refine ⟨hit, HJ.out.new hb1 (fun k hk => ?_), (fun q hq => by cases hq), .nil, HBx.out.keep hb1, Nat.ne_of_gt hlt, Nat.le_of_lt hlt⟩
      rcases hk with hk | hk | hk
      · exact .inl (.inl hk)
      · exact .inl (.inr hk)
      · exact .inr (by omega))
    have HMW := Lib.hid hmW
    have HG := Lib.hid hg
    have HN := Lib.hid (fun s h => (hn s h).1)
    clear hm hmW hg hn hit hb1 hs1 hr hmB HJ HIV HBx c1W hx
    go_wp2_with fail
    generalize V.heap.size = r at *
    clear run1 c1 HBW
    go_loopg [7] (lftN ps []) (fun gk x7 wx => ∃ vis, lftN ps vis ≤ gk ∧ Hid (FsI W kf r mb c L b ps vis wx))
    case atStart => exact ⟨[], Nat.le_refl _, HF0⟩
    case round =>
      obtain ⟨vis, hgk, HS⟩ := hrel
      clear HF0
      have hmr : MapG wr mb ps c := HMW.out.of (by
        have h := HS.out.j.bl
        exact h.block mb HMW.out.size)
      rcases run_nextG hmr HS.out.it 0 with ⟨hall, hrun⟩ | ⟨p, hp, hnew, w2, hw2, hrun⟩
      · have hv : ∀ p ∈ ps, p ∈ vis := fun p hp => by
          obtain ⟨q, hq, e⟩ := hall p hp
          rw [← born_eq HMW.out.bd (HS.out.sub q hq) hp e]
          exact hq
        have HM := Lib.hid (fndL_mem hb hv HN.out)
        have HLe : Hid ((fndL L b vis).length ≤ 1000) := Lib.hid (by have := fndL_len L b vis HS.out.nd; omega)
        obtain ⟨va, cva, hil⟩ := HS.out.j.il
        have HUq := Lib.hid (ouniq_any hil (by rw [List.length_map]; exact HLe.out))
        have HBl := Lib.hid HS.out.j.bl
        clear hmr hall hv hil HS HMW HN HG HLe
        go_wp2_with (go_at_call 52; refine HUq.out.mono ?_; rintro e w3 ⟨u, X, rfl, hX, _, hI, hb3⟩; have HX := Lib.hid hX; have HI3 := Lib.hid hI; have HB3 := Lib.hid hb3; clear hX hI hb3)
        go_ret
        exact ⟨_, X, fndL L b vis, rfl, HX.out, HM.out, HI3.out, HBl.out.trans (HB3.out.mono HBl.out.size)⟩
      · cases gk with
        | zero => have := lftN_lt hp hnew; omega
        | succ gr =>
          have hgr : lftN ps (vis ++ [p]) ≤ gr := by have := lftN_lt hp hnew; omega
          obtain ⟨hit2, hj2, hbx2⟩ := HS.out.step (p := p) hw2
          have HIt2 := Lib.hid hit2
          have HJ2 := Lib.hid hj2
          have HBx2 := Lib.hid hbx2
          have hm2 : MapG (setBlock w2 r (.mapIter (some mb) c ((vis ++ [p]).map (fun p => p.2.2)).toArray c)) mb ps c := HMW.out.of (hj2.bl.block mb HMW.out.size)
          have hen := run_entryIt hm2 hp hit2
          clear hmr hit2 hj2 hbx2 hm2
          obtain ⟨gb, hpe, hgr0⟩ := HG.out p hp
          rw [hpe] at hrun hen
          have HSub : Hid (∀ q ∈ vis ++ [p], q ∈ ps) := Lib.hid (fun q hq => by
            rcases List.mem_append.1 hq with hq | hq
            · exact HS.out.sub q hq
            · rw [List.mem_singleton] at hq; subst hq; exact hp)
          have HNd : Hid ((vis ++ [p]).Pairwise (fun p q => p.1 ≠ q.1)) := Lib.hid (by
            rw [List.pairwise_append]
            refine ⟨HS.out.nd, List.pairwise_singleton _ _, fun q hq x hx => ?_⟩
            rw [List.mem_singleton] at hx
            subst hx
            intro e
            have h1 := lkG_mem HMW.out.nd (HS.out.sub q hq)
            exact hnew q hq (by
              have hqp : q = x := key_eq HMW.out.nd (HS.out.sub q hq) hp e
              rw [hqp]))
          obtain ⟨vp, vc, ap, ac, hMR⟩ := maR_of HW.out hgr0
          have HMR := Lib.hid hMR
          have HLn : Hid ((fndL L b vis).length + (numsL L p.1).length ≤ 100000) := Lib.hid (by
            have h1 := fndL_len L b vis HS.out.nd
            have h2 := numsL_len L p.1
            omega)
          have HSz := Lib.hid hgr0.sz
          clear hnew hgr0 hMR hw2 hpe
          generalize hV2 : setBlock w2 r (.mapIter (some mb) c ((vis ++ [p]).map (fun p => p.2.2)).toArray c) = V2 at *
          clear hV2
          have HJd := Lib.hid (HJ2.out.new (below_drewW V2) (fun k hk => .inl hk))
          have HeW : Hid (∀ X : World, (∀ k, (k < W.heap.size ∨ k = W.heap.size ∨ k = r) → X.heap[k]? = V2.drew.heap[k]?) → ∀ k, k < W.heap.size → X.heap[k]? = W.heap[k]?) := Lib.hid (fun X hX k hk => (hX k (.inl hk)).trans (HJd.out.bl.block k hk))
          have HMt : Hid (Calls Try.prog 54 #[.pointer (some ⟨xb, 0, none⟩), .agg #[.int .i64 b.1, .int .i64 b.2.1, .int .i64 b.2.2.1, .int .i64 b.2.2.2], .pointer (some ⟨gb, 0, none⟩), .int .i64 (L.length : Int), .func (.func 55) #[] #[.pointer (some ⟨kf, 0, none⟩)]] V2.drew (MaPost (FnJ W kf) (fun k => k < W.heap.size ∨ k = W.heap.size ∨ k = r) (fndL L b vis ++ selA L b (L.length : Int) (numsL L p.1)) V2.drew)) := Lib.hid (meet_few (find1_use W kf) HJd.out (fun X hX => HMR.out X (HeW.out X hX)) (fun i hi => (mem_numsL.1 hi).1) (by have := numsL_len L p.1; omega) (by omega) HLn.out b hb HSz.out.1 HSz.out.2.2.1 HSz.out.2.1 HSz.out.2.2.2 (L.length : Int))
          have HSd : Hid (V2.drew.cell? ⟨xb, 0, none⟩ = some (.slice vp L.length vc) ∧ V2.drew.cell? ⟨W.heap.size, 0, none⟩ = some (.int .i64 b.1) ∧ V2.drew.cell? ⟨W.heap.size, 1, none⟩ = some (.int .i64 b.2.1) ∧ V2.drew.cell? ⟨W.heap.size, 2, none⟩ = some (.int .i64 b.2.2.1) ∧ V2.drew.cell? ⟨W.heap.size, 3, none⟩ = some (.int .i64 b.2.2.2)) := Lib.hid ⟨(HMR.out _ (HeW.out _ (fun _ _ => rfl))).1.x0, HBx2.out.1, HBx2.out.2.1, HBx2.out.2.2.1, HBx2.out.2.2.2⟩
          have HAft : Hid (∀ w9 : World, FnJ W kf (fun k => k < W.heap.size ∨ k = W.heap.size ∨ k = r) (fndL L b vis ++ selA L b (L.length : Int) (numsL L p.1)) w9 → (∀ k, (k < W.heap.size ∨ k = W.heap.size ∨ k = r) → w9.heap[k]? = V2.drew.heap[k]?) → (w9.cell? ⟨xb, 0, none⟩ = some (.slice vp L.length vc) ∧ BxAt w9 W.heap.size 0 b) ∧ FsI W kf r mb c L b ps (vis ++ [p]) w9) := Lib.hid (fun w9 hj he => by
            have eb := he W.heap.size (.inr (.inl rfl))
            have hbx : BxAt w9 W.heap.size 0 b := ⟨(World.cell?_of_block eb).trans HBx2.out.1, (World.cell?_of_block eb).trans HBx2.out.2.1, (World.cell?_of_block eb).trans HBx2.out.2.2.1, (World.cell?_of_block eb).trans HBx2.out.2.2.2⟩
            exact ⟨⟨(HMR.out w9 (HeW.out w9 he)).1.x0, hbx⟩, ⟨HIt2.out.of (he r (.inr (.inr rfl))), by rw [fndL_snoc]; exact hj, HSub.out, HNd.out, hbx, HS.out.ne⟩⟩)
          clear HS HJ2 HBx2 HIt2 HJd HMR HeW HSub HNd HLn HSz
          go_upto_region 7 with fail
          refine wp_region_held_drew (S := (fun X : World => X.cell? ⟨xb, 0, none⟩ = some (.slice vp L.length vc) ∧ X.cell? ⟨W.heap.size, 0, none⟩ = some (.int .i64 b.1) ∧ X.cell? ⟨W.heap.size, 1, none⟩ = some (.int .i64 b.2.1) ∧ X.cell? ⟨W.heap.size, 2, none⟩ = some (.int .i64 b.2.2.1) ∧ X.cell? ⟨W.heap.size, 3, none⟩ = some (.int .i64 b.2.2.2))) (by kernel_rfl) HSd.out (fun hHeld => ?_)
          clear HSd
          refine wpAnyH_take (i := 0) (oi := { dst := some 24, op := Op.move (Operand.tmp 0), type := 44, pos := "index.go:77", after := #[], guard := none }) (v := ?_) rfl (by kernel_rfl) (by kernel_rfl) (by kernel_rfl) (fun _ _ _ h => h) (Or.inl ⟨by rfl, ?_⟩) (by with_reducible assumption) ?_
          rotate_left
          focus (intro wS hSw; (try dsimp only at hSw); go_simp <;> with_reducible rfl)
          try go_frame
          refine wpAnyH_take (i := 1) (oi := { dst := some 25, op := Op.load 25 (Operand.tmp 3), type := 25, pos := "index.go:77", after := #[], guard := none }) (v := ?_) rfl (by kernel_rfl) (by kernel_rfl) (by kernel_rfl) (fun _ _ _ h => h) (Or.inl ⟨by rfl, ?_⟩) (by with_reducible assumption) ?_
          rotate_left
          focus (intro wS hSw; (try dsimp only at hSw); go_simp <;> with_reducible rfl)
          try go_frame
          refine wpAnyH_take (i := 2) (oi := { dst := some 26, op := Op.move (Operand.tmp 7), type := 89, pos := "index.go:77", after := #[], guard := none }) (v := ?_) rfl (by kernel_rfl) (by kernel_rfl) (by kernel_rfl) (fun _ _ _ h => h) (Or.inl ⟨by rfl, ?_⟩) (by with_reducible assumption) ?_
          rotate_left
          focus (intro wS hSw; (try dsimp only at hSw); go_simp <;> with_reducible rfl)
          try go_frame
          refine wpAnyH_take (i := 3) (oi := { dst := some 27, op := Op.move (Operand.tmp 0), type := 44, pos := "index.go:77", after := #[], guard := none }) (v := ?_) rfl (by kernel_rfl) (by kernel_rfl) (by kernel_rfl) (fun _ _ _ h => h) (Or.inl ⟨by rfl, ?_⟩) (by with_reducible assumption) ?_
          rotate_left
          focus (intro wS hSw; (try dsimp only at hSw); go_simp <;> with_reducible rfl)
          try go_frame
          refine wpAnyH_take (i := 4) (oi := { dst := some 28, op := Op.nilCheck (Operand.tmp 27), type := 0, pos := "index.go:77", after := #[{ on := 3, ground := Ground.data }], guard := none }) (v := ?_) rfl (by kernel_rfl) (by kernel_rfl) (by kernel_rfl) (fun _ _ _ h => h) (Or.inl ⟨by rfl, ?_⟩) (by with_reducible assumption) ?_
          rotate_left
          focus (intro wS hSw; (try dsimp only at hSw); go_simp <;> with_reducible rfl)
          try go_frame
          refine wpAnyH_take (i := 5) (oi := { dst := some 29, op := Op.fieldAddr 88 (Operand.tmp 28) 0, type := 0, pos := "index.go:77", after := #[{ on := 4, ground := Ground.data }], guard := none }) (v := ?_) rfl (by kernel_rfl) (by kernel_rfl) (by kernel_rfl) (fun _ _ _ h => h) (Or.inl ⟨by rfl, ?_⟩) (by with_reducible assumption) ?_
          rotate_left
          focus (intro wS hSw; (try dsimp only at hSw); go_simp <;> with_reducible rfl)
          try go_frame
          refine wpAnyH_take (i := 6) (oi := { dst := some 30, op := Op.load 42 (Operand.tmp 29), type := 42, pos := "index.go:77", after := #[{ on := 5, ground := Ground.data }], guard := none }) (v := ?_) rfl (by kernel_rfl) (by kernel_rfl) (by kernel_rfl) (fun _ _ _ h => h) (Or.inl ⟨by rfl, ?_⟩) (by with_reducible assumption) ?_
          rotate_left
          focus (intro wS hSw; (try dsimp only at hSw); go_simp <;> with_reducible rfl)
          try go_frame
          refine wpAnyH_take (i := 7) (oi := { dst := some 31, op := Op.call { callee := Callee.builtin Builtin.len, args := #[Operand.tmp 30], argTypes := #[42] }, type := 3, pos := "index.go:77", after := #[{ on := 6, ground := Ground.data }], guard := none }) (v := ?_) rfl (by kernel_rfl) (by kernel_rfl) (by kernel_rfl) (fun _ _ _ h => h) (Or.inl ⟨by rfl, ?_⟩) (by with_reducible assumption) ?_
          rotate_left
          focus (intro wS hSw; (try dsimp only at hSw); go_simp <;> with_reducible rfl)
          try go_frame
          refine wpAnyH_take (i := 8) (oi := { dst := some 32, op := Op.makeFunc (Fn.func 55) #[] #[Operand.tmp 5], type := 96, pos := "index.go:77", after := #[], guard := none }) (v := ?_) rfl (by kernel_rfl) (by kernel_rfl) (by kernel_rfl) (fun _ _ _ h => h) (Or.inl ⟨by rfl, ?_⟩) (by with_reducible assumption) ?_
          rotate_left
          focus (intro wS hSw; (try dsimp only at hSw); go_simp <;> with_reducible rfl)
          try go_frame
          refine wpAnyH_ready (rs := [9]) (by kernel_rfl) (by simp) ?_
          refine AllReadyH.cons (i := 9) (o := { dst := some 33, op := Op.call { callee := Callee.value (Operand.func 54), args := #[Operand.tmp 24, Operand.tmp 25, Operand.tmp 26, Operand.tmp 31, Operand.tmp 32], argTypes := #[44, 25, 89, 3, 96] }, type := 0, pos := "index.go:77", after := #[{ on := 0, ground := Ground.data }, { on := 1, ground := Ground.data }, { on := 2, ground := Ground.data }, { on := 7, ground := Ground.data }, { on := 8, ground := Ground.data }], guard := none }) rfl (fun K hK => ?_) AllReadyH.nil
          go_simp
          go_at_call 54
          refine Calls.mono HMt.out ?_
          rintro e w9 ⟨rfl, hj9, he9⟩
          have HX := Lib.hid (HAft.out w9 hj9 he9).1
          have HS2 := Lib.hid (HAft.out w9 hj9 he9).2
          clear hj9 he9
          refine hK.out _ _ ⟨HX.out.1, HX.out.2.1, HX.out.2.2.1, HX.out.2.2.2.1, HX.out.2.2.2.2⟩ (fun hHeld => ?_)
          clear hK K
          try go_frame
          refine wpAnyH_done (by kernel_rfl) ?_ _
          go_wp2_with fail
          go_roundg gr
          case measure => omega
          case rel => exact ⟨vis ++ [p], by omega, HS2⟩
end Go.Proofs.Ytenfaejdnphngaa

namespace Go.Proofs.Ytenfaejdnphngaa
open Go.RowKit

theorem len_ix {W : World} {B xb : Nat} {R : Nat → Rl} {L : List B4} (h : IxL W B xb R L) : Calls Try.prog 21 #[.pointer (some ⟨xb, 0, none⟩)] W fun e w' => e = .returned (.int .i64 (L.length : Int)) ∧ w' = W := by
  obtain ⟨vb, c0, r0⟩ := h.c0
  obtain ⟨p, c, rfl⟩ := own_len r0.own
  clear h r0
  generalize L.length = n at *
  go_enter Try.func21, Try.ntmps21
  go_wp2_with fail
  go_ret
  exact ⟨rfl, rfl⟩
theorem at_few {W : World} {B xb : Nat} {R : Nat → Rl} {L : List B4} (h : IxL W B xb R L) (hB : B ≤ W.heap.size) (hL : L.length < 16) (x y : Int) (hb : rgtB (x, y, x, y) = true) :
    Calls Try.prog 27 #[.pointer (some ⟨xb, 0, none⟩), .agg #[.int .i64 x, .int .i64 y]] W (FiPost L (x, y, x, y) W) := by
  have HF : Hid (∀ V, Below W.heap.size W V → Calls Try.prog 26 #[.pointer (some ⟨xb, 0, none⟩), .agg #[.int .i64 x, .int .i64 y, .int .i64 x, .int .i64 y]] V (FiPost L (x, y, x, y) W)) := Lib.hid (fun V hV => by
    refine (find_few (h.keep hV (ExtR.refl _ _) hB) (Nat.le_trans hB hV.size) hL (x, y, x, y) hb).mono ?_
    rintro e w' ⟨u, X, M, h1, h2, h3, h4, h5⟩
    exact ⟨u, X, M, h1, h2, h3, h4, below_after hV h5⟩)
  have HFin : Hid (∀ e w', FiPost L (x, y, x, y) W e w' → ∃ u, e = .returned u ∧ FiPost L (x, y, x, y) W (.returned u) w') := Lib.hid (fun e w' ⟨u, X, M, h1, h2, h3, h4, h5⟩ => ⟨u, h1, ⟨u, X, M, rfl, h2, h3, h4, h5⟩⟩)
  generalize FiPost L (x, y, x, y) W = TP at *
  clear h hb
  go_enter Try.func27, Try.ntmps27
  go_wp2_with (go_at_call 26; refine (HF.out _ (by first | exact (below_alloc _ _).drew | exact below_alloc _ _ | exact Below.refl _ _ | exact (below_after (below_alloc _ _) (below_alloc _ _)).drew | exact below_after (below_alloc _ _) (below_alloc _ _))).mono ?_; intro e w1 hp; obtain ⟨u, rfl, hp⟩ := HFin.out _ _ hp; have HP := Lib.hid hp; clear hp)
  exact HP.out
def NwPost (W : World) (L : List B4) (e : Ending) (w' : World) : Prop := ∃ xb R, e = .returned (.pointer (some ⟨xb, 0, none⟩)) ∧ W.heap.size ≤ xb ∧ IxL w' W.heap.size xb R L ∧ Below W.heap.size W w'
theorem new_any {W : World} {g cap : Nat} (L : List B4) (hL : L.length ≤ 200) (hrow : BxRow W g L) (hg : g < W.heap.size) :
    Calls Try.prog 19 #[.slice (some ⟨g, 0, none⟩) L.length cap] W (NwPost W L) := by
  have HA : Hid (Calls Try.prog 20 #[.pointer (some ⟨W.heap.size, 0, none⟩), .slice (some ⟨g, 0, none⟩) L.length cap] (W.alloc (.cells #[.slice none 0 0, .map none] 88)) (fun e w' => (∃ n, e = .returned (.int .i64 n)) ∧ NwPost W L (.returned (.pointer (some ⟨W.heap.size, 0, none⟩))) w')) := Lib.hid (by
    have hb := below_alloc W (.cells #[.slice none 0 0, .map none] 88)
    have hix : IxL (W.alloc (.cells #[.slice none 0 0, .map none] 88)) W.heap.size W.heap.size (fun k => if k = W.heap.size then .ix else .no) [] := by
      refine ⟨if_pos rfl, Nat.le_refl _, fun o => by go_simp, ⟨.slice none 0 0, by go_simp, RwI.nil _ _ _ _ _ _⟩, .inl ⟨by go_simp, fun s => ⟨rfl, fun f => rfl⟩⟩, fun k hk => if_neg (by omega)⟩
    have hrow2 : BxRow (W.alloc (.cells #[.slice none 0 0, .map none] 88)) g L := fun i hi => (hrow i hi).keep hb
    refine (add_any (cap := cap) L hix (by simp) (by simpa using hL) hrow2 (if_neg (by omega))).mono ?_
    rintro e w' ⟨rfl, hst, hfr⟩
    obtain ⟨R1, e1, hi⟩ := hst
    rw [List.nil_append] at hi
    exact ⟨⟨_, rfl⟩, _, R1, rfl, Nat.le_refl _, hi, ⟨hfr.os, hfr.tape, hfr.output, by have := hfr.size; simp at this; omega, fun k hk => (hfr.block k (by simp; omega) (if_neg (by omega))).trans (hb.block k hk)⟩⟩)
  have HFin : Hid (∀ w', NwPost W L (.returned (.pointer (some ⟨W.heap.size, 0, none⟩))) w' → NwPost W L (.returned (.pointer (some ⟨W.heap.size, 0, none⟩))) w') := Lib.hid (fun _ h => h)
  generalize NwPost W L = TP at *
  clear hrow hg hL
  go_enter Try.func19, Try.ntmps19
  go_wp2_with (go_at_call 20; refine HA.out.mono ?_; rintro e w1 ⟨⟨n, rfl⟩, hp⟩; have HP := Lib.hid hp; clear hp)
  exact HP.out
end Go.Proofs.Ytenfaejdnphngaa
