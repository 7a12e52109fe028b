/- Walks of the index: partners, with any use. -/
import Derived.Test.YtenfaejdnphngaaRowsNw
namespace Go.Proofs.Ytenfaejdnphngaa
open Go.RowKit
open Go.ChangeMaps (setBlock)

/-- What meeting does with the numbers of a grid. -/
def MtPost (J : (Nat → Prop) → List Nat → World → Prop) (N : Nat → Prop) (U : List Nat) (L : List B4) (b : B4) (below : Int) (s : I2) (W : World) (e : Ending) (w' : World) : Prop :=
  e = .returned (.tuple #[]) ∧ ∃ S : List Nat, (∀ i, i ∈ S ↔ i ∈ selA L b below (numsL L s)) ∧ S.length ≤ (numsL L s).length ∧ S.Nodup ∧ J N (U ++ S) w' ∧ ∀ k, N k → w'.heap[k]? = W.heap[k]?
theorem selA_sub (L : List B4) (b : B4) (below : Int) : ∀ A : List Nat, (selA L b below A).Sublist A
  | [] => List.Sublist.slnil
  | i :: A => by
    have h := selA_sub L b below A
    rw [selA]
    split
    · split
      · exact h.cons_cons i
      · exact h.cons i
    · exact List.nil_sublist _
theorem numsL_nodup (L : List B4) (s : I2) : (numsL L s).Nodup := List.nodup_range.filter _
structure MeetsC (W0 : World) (B xb : Nat) (R : Nat → Rl) (L : List B4) : Prop where
  m : ∀ {s : I2} {gb bd : Nat} {F0 : FuncId} {lb : Array Value} {J : (Nat → Prop) → List Nat → World → Prop} {U : List Nat} {N : Nat → Prop} {W : World}, GrI W0 B R s gb (numsL L s) (stF L s) → UseC bd F0 lb J → J N U W → (∀ k, k < W0.heap.size → N k ∧ W.heap[k]? = W0.heap[k]?) → L.length ≤ bd → U.length + (numsL L s).length ≤ 100000 → ∀ b : B4, rgtB b = true → ∀ below : Int,
    Calls Try.prog 54 #[.pointer (some ⟨xb, 0, none⟩), encB b, .pointer (some ⟨gb, 0, none⟩), .int .i64 below, .func (.func F0) #[] lb] W (MtPost J N U L b below s W)
theorem meets_few {W0 : World} {B xb : Nat} {R : Nat → Rl} {L : List B4} (h : IxL W0 B xb R L) (hL : L.length < 16) : MeetsC W0 B xb R L := by
  refine ⟨fun {s gb bd F0 lb J U N W} hg C h0 hN hbd hU b hb below => ?_⟩
  obtain ⟨vp, vc, ap, ac, hMR⟩ := maR_of h hg
  refine (meet_few C h0 (fun V hV => hMR V (fun k hk => (hV k (hN k hk).1).trans (hN k hk).2)) (fun i hi => (numsL_lt hi).1) (by have := numsL_len L s; omega) hbd hU b hb hg.sz.1 hg.sz.2.2.1 hg.sz.2.1 hg.sz.2.2.2 below).mono ?_
  rintro e w' ⟨h1, h2, h3⟩
  exact ⟨h1, _, fun i => Iff.rfl, selA_len _ _ _ _, (selA_sub _ _ _ _).nodup (numsL_nodup _ _), h2, h3⟩
theorem numsL_rise (L : List B4) (s : I2) : (numsL L s).Pairwise (· < ·) := List.pairwise_lt_range.filter _
theorem mem_selR {L : List B4} {b : B4} {below : Int} {i : Nat} : ∀ {A : List Nat}, A.Pairwise (· < ·) → (i ∈ selA L b below A ↔ i ∈ A ∧ (i : Int) < below ∧ risB (comB b (bxA L i)) = true)
  | [], _ => by simp [selA]
  | j :: A, h => by
    rw [List.pairwise_cons] at h
    have ih := mem_selR (L := L) (b := b) (below := below) (i := i) (A := A) h.2
    rw [selA]
    split
    · rename_i hj
      split
      · rename_i hr
        rw [List.mem_cons, ih, List.mem_cons]
        constructor
        · rintro (rfl | ⟨h1, h2⟩)
          · exact ⟨.inl rfl, hj, hr⟩
          · exact ⟨.inr h1, h2⟩
        · rintro ⟨h1 | h1, h2⟩
          · exact .inl h1
          · exact .inr ⟨h1, h2⟩
      · rename_i hr
        rw [ih, List.mem_cons]
        constructor
        · rintro ⟨h1, h2⟩; exact ⟨.inr h1, h2⟩
        · rintro ⟨h1 | h1, h2⟩
          · subst h1; exact absurd h2.2 hr
          · exact ⟨h1, h2⟩
    · rename_i hj
      constructor
      · intro hm; cases hm
      · rintro ⟨h1, h2, _⟩
        rcases List.mem_cons.1 h1 with e | e
        · subst e; exact absurd h2 hj
        · have := h.1 i e
          omega
/-- How sizes lie. -/
def cmpS (s t : I2) : Int := cmpL [s.1, s.2] [t.1, t.2]
theorem cmpS_val (s t : I2) : cmpS s t = if s.1 < t.1 then -1 else if t.1 < s.1 then 1 else if s.2 < t.2 then -1 else if t.2 < s.2 then 1 else 0 := by
  unfold cmpS
  simp only [cmpL]
theorem cmpS_cases (s t : I2) : cmpS s t = -1 ∨ cmpS s t = 0 ∨ cmpS s t = 1 := by
  rw [cmpS_val]; split <;> (try split) <;> (try split) <;> (try split) <;> simp
theorem cmpS_swap (s t : I2) : cmpS s t = - cmpS t s := by
  rw [cmpS_val, cmpS_val]
  split <;> split <;> (try split) <;> (try split) <;> (try split) <;> (try split) <;> omega
theorem cmpS_zero {s t : I2} (h : cmpS s t = 0) : s = t := by
  rw [cmpS_val] at h
  obtain ⟨a, b⟩ := s
  obtain ⟨c, d⟩ := t
  simp only at h
  split at h
  · cases h
  · split at h
    · cases h
    · split at h
      · cases h
      · split at h
        · cases h
        · ext <;> omega
/-- What one grid gives to box i. -/
def ptG (L : List B4) (i : Nat) (b : B4) (t : I2) : List Nat := if cmpS (szB b) t = -1 then selA L b (L.length : Int) (numsL L t) else if cmpS (szB b) t = 0 then selA L b (i : Int) (numsL L t) else []
theorem ptG_len (L : List B4) (i : Nat) (b : B4) (t : I2) : (ptG L i b t).length ≤ (numsL L t).length := by
  unfold ptG
  split
  · exact selA_len _ _ _ _
  · split
    · exact selA_len _ _ _ _
    · simp
theorem ptG_of {L : List B4} {i x : Nat} {b : B4} {t : I2} (h : x ∈ ptG L i b t) : szB (bxA L x) = t := by
  have key : ∀ bw, x ∈ selA L b bw (numsL L t) → szB (bxA L x) = t := fun bw hx => by
    have := (numsL_lt ((selA_sub _ _ _ _).subset hx)).2
    unfold ofS at this
    rw [Bool.and_eq_true, decide_eq_true_eq] at this
    exact this.2
  unfold ptG at h
  split at h
  · exact key _ h
  · split at h
    · exact key _ h
    · cases h
def ptL (L : List B4) (i : Nat) (b : B4) (vis : List EnG) : List Nat := vis.flatMap (fun p => ptG L i b p.1)
theorem ptL_snoc (L : List B4) (i : Nat) (b : B4) (vis : List EnG) (p : EnG) : ptL L i b (vis ++ [p]) = ptL L i b vis ++ ptG L i b p.1 := by simp [ptL, List.flatMap_append]
/-- The partners of box i. -/
def prtP (L : List B4) (i j : Nat) : Prop := j < L.length ∧ metB (bxA L i) (bxA L j) = true ∧ (cmpS (szB (bxA L i)) (szB (bxA L j)) = -1 ∨ cmpS (szB (bxA L i)) (szB (bxA L j)) = 0 ∧ j < i)
theorem ptL_mem {L : List B4} {i : Nat} {ps vis : List EnG} (hb : rgtB (bxA L i) = true) (h2 : ∀ p ∈ ps, p ∈ vis) (hn : ∀ s, lkG ps s = none → numsL L s = []) (j : Nat) : j ∈ ptL L i (bxA L i) vis ↔ prtP L i j := by
  have key : ∀ t : I2, j ∈ ptG L i (bxA L i) t ↔ j ∈ numsL L t ∧ prtP L i j := by
    intro t
    have e0 : j ∈ numsL L t → rgtB (bxA L j) = true ∧ szB (bxA L j) = t := fun hm => by
      have := (numsL_lt hm).2
      unfold ofS at this
      rw [Bool.and_eq_true, decide_eq_true_eq] at this
      exact this
    unfold ptG
    split
    · rename_i hc
      rw [mem_selR (numsL_rise L t)]
      constructor
      · rintro ⟨m1, _, m2⟩
        obtain ⟨r1, r2⟩ := e0 m1
        exact ⟨m1, (numsL_lt m1).1, by unfold metB; simp [hb, r1, m2], .inl (by rw [r2]; exact hc)⟩
      · rintro ⟨m1, m2, m3, _⟩
        unfold metB at m3
        rw [Bool.and_eq_true] at m3
        exact ⟨m1, by omega, m3.2⟩
    · rename_i hc
      split
      · rename_i hz
        rw [mem_selR (numsL_rise L t)]
        constructor
        · rintro ⟨m1, m2, m3⟩
          obtain ⟨r1, r2⟩ := e0 m1
          exact ⟨m1, (numsL_lt m1).1, by unfold metB; simp [hb, r1, m3], .inr ⟨by rw [r2]; exact hz, by omega⟩⟩
        · rintro ⟨m1, m2, m3, m4⟩
          unfold metB at m3
          rw [Bool.and_eq_true] at m3
          rcases m4 with m4 | m4
          · rw [(e0 m1).2] at m4; exact absurd m4 hc
          · exact ⟨m1, by omega, m3.2⟩
      · rename_i hz
        constructor
        · intro hm; cases hm
        · rintro ⟨m1, m2, m3, m4⟩
          rw [(e0 m1).2] at m4
          rcases m4 with m4 | m4
          · exact absurd m4 hc
          · exact absurd m4.1 hz
  unfold ptL
  rw [List.mem_flatMap]
  constructor
  · rintro ⟨p, _, hj⟩
    exact ((key p.1).1 hj).2
  · intro hp
    have hr : rgtB (bxA L j) = true := by
      have := hp.2.1
      unfold metB at this
      rw [Bool.and_eq_true, Bool.and_eq_true] at this
      exact this.1.2
    have hm : j ∈ numsL L (szB (bxA L j)) := by
      unfold numsL
      rw [List.mem_filter, List.mem_range]
      exact ⟨hp.1, by unfold ofS; simp [hr]⟩
    cases hl : lkG ps (szB (bxA L j)) with
    | none => rw [hn _ hl] at hm; cases hm
    | some v =>
      obtain ⟨c, hc⟩ := lkG_some hl
      exact ⟨_, h2 _ hc, (key _).2 ⟨hm, hp⟩⟩
theorem prt_none {L : List B4} {i : Nat} (hb : rgtB (bxA L i) = false) (j : Nat) : ¬ prtP L i j := by
  rintro ⟨_, h, _⟩
  unfold metB at h
  rw [hb] at h
  cases h
/-- The sizes' boxes. -/
def sumN (L : List B4) (vis : List EnG) : Nat := (vis.map (fun p => (numsL L p.1).length)).sum
theorem sumN_snoc (L : List B4) (vis : List EnG) (p : EnG) : sumN L (vis ++ [p]) = sumN L vis + (numsL L p.1).length := by simp [sumN]
/-- partners's loop. -/
structure PtI (J : (Nat → Prop) → List Nat → World → Prop) (N : Nat → Prop) (U : List Nat) (W : World) (nb sb r mb c : Nat) (L : List B4) (i : Nat) (b : B4) (ps vis : List EnG) (V : World) : Prop where
  it : ItG V r mb c vis
  j : ∃ S : List Nat, (∀ x, x ∈ S ↔ x ∈ ptL L i b vis) ∧ S.length ≤ sumN L vis ∧ S.Nodup ∧ J (fun k => N k ∨ k = nb ∨ k = sb ∨ k = r) (U ++ S) V
  eq : ∀ k, N k → V.heap[k]? = W.heap[k]?
  sub : ∀ q ∈ vis, q ∈ ps
  nd : vis.Pairwise (fun p q => p.1 ≠ q.1)
  bx : BxAt V nb 0 b
  sz : V.cell? ⟨sb, 0, none⟩ = some (.int .i64 (szB b).1) ∧ V.cell? ⟨sb, 1, none⟩ = some (.int .i64 (szB b).2)
  ne : r ≠ nb ∧ r ≠ sb ∧ ∀ k, N k → k ≠ r
  lt : r < V.heap.size
def PtPost (J : (Nat → Prop) → List Nat → World → Prop) (N : Nat → Prop) (U : List Nat) (L : List B4) (i : Nat) (W : World) (e : Ending) (w' : World) : Prop :=
  e = .returned (.tuple #[]) ∧ ∃ S : List Nat, (∀ x, x ∈ S ↔ prtP L i x) ∧ S.length ≤ L.length ∧ S.Nodup ∧ J N (U ++ S) w' ∧ ∀ k, N k → w'.heap[k]? = W.heap[k]?
/-- A use bears a change of a loop's own block. -/
structure GrowC (lo : Nat) (J : (Nat → Prop) → List Nat → World → Prop) : Prop where
  g : ∀ {N : Nat → Prop} {U : List Nat} {V : World} {r : Nat} (o : Obj), J N U V → N r → lo ≤ r → (∃ m a b c, V.heap[r]? = some (.mapIter m a b c)) → J N U (setBlock V r o)
theorem ix_box {W0 : World} {B xb : Nat} {R : Nat → Rl} {L : List B4} (h : IxL W0 B xb R L) {i : Nat} (hi : i < L.length) :
    ∃ gq vc, ∀ X : World, (∀ k, k < W0.heap.size → X.heap[k]? = W0.heap[k]?) → X.cell? ⟨xb, 0, none⟩ = some (.slice (some ⟨gq, 0, none⟩) L.length vc) ∧ BxAt X gq (i * 4) (bxA L i) := by
  obtain ⟨vb, c0, r0⟩ := h.c0
  obtain ⟨vp, vc, rfl⟩ := own_len r0.own
  have kc : ∀ {X : World}, (∀ k, k < W0.heap.size → X.heap[k]? = W0.heap[k]?) → ∀ {a : Addr} {v : Value}, W0.cell? a = some v → X.cell? a = some v := fun {X} hX {a v} hc => (World.cell?_of_block (hX _ (World.block_lt_of_cell? W0 _ hc))).trans hc
  rcases r0.own.2 with ⟨_, hz⟩ | ⟨g, c, cur, e, _⟩
  · omega
  · injection e with e1 e2 e3
    subst e1
    obtain ⟨q0, q1, q2, q3⟩ := bxCells_at L i hi
    exact ⟨g, vc, fun X hX => ⟨kc hX c0, kc hX ((r0.own.cellAt (i * 4) (by omega)).trans q0), kc hX ((r0.own.cellAt (i * 4 + 1) (by omega)).trans q1), kc hX ((r0.own.cellAt (i * 4 + 2) (by omega)).trans q2), kc hX ((r0.own.cellAt (i * 4 + 3) (by omega)).trans q3)⟩⟩
theorem PtI.step {J : (Nat → Prop) → List Nat → World → Prop} {N : Nat → Prop} {U : List Nat} {W : World} {nb sb r mb c bd lo : Nat} {F0 : FuncId} {lb : Array Value} {L : List B4} {i : Nat} {b : B4} {ps vis : List EnG} {wr w1 : World} {p : EnG} (C : UseC bd F0 lb J) (G : GrowC lo J) (hlo : lo ≤ r) (h : PtI J N U W nb sb r mb c L i b ps vis wr) (hw : w1 = wr ∨ w1 = wr.drew) :
    ItG (setBlock w1 r (.mapIter (some mb) c ((vis ++ [p]).map (fun p => p.2.2)).toArray c)) r mb c (vis ++ [p]) ∧ (∃ S : List Nat, (∀ x, x ∈ S ↔ x ∈ ptL L i b vis) ∧ S.length ≤ sumN L vis ∧ S.Nodup ∧ J (fun k => N k ∨ k = nb ∨ k = sb ∨ k = r) (U ++ S) (setBlock w1 r (.mapIter (some mb) c ((vis ++ [p]).map (fun p => p.2.2)).toArray c))) ∧ (∀ k, k < wr.heap.size → k ≠ r → (setBlock w1 r (.mapIter (some mb) c ((vis ++ [p]).map (fun p => p.2.2)).toArray c)).heap[k]? = wr.heap[k]?) ∧ wr.heap.size ≤ (setBlock w1 r (.mapIter (some mb) c ((vis ++ [p]).map (fun p => p.2.2)).toArray c)).heap.size := by
  have hb : Below wr.heap.size wr w1 := by
    rcases hw with e | e
    · rw [e]; exact Below.refl _ _
    · rw [e]; exact below_drewW wr
  have hi : w1.heap[r]? = some (.mapIter (some mb) c (vis.map (fun p => p.2.2)).toArray c) := (hb.block r h.lt).trans h.it
  have hg := grown_blockI (.mapIter (some mb) c ((vis ++ [p]).map (fun p => p.2.2)).toArray c) hi
  obtain ⟨S, s1, s2, sn, s3⟩ := h.j
  refine ⟨(set_at _ hi).1, ⟨S, s1, s2, sn, ?_⟩, fun k hk hkr => ((set_at _ hi).2 k hkr).trans (hb.block k hk), Nat.le_trans hb.size hg.size⟩
  exact G.g _ (C.new s3 hb (fun k hk => .inl hk)) (.inr (.inr (.inr rfl))) hlo ⟨_, _, _, _, hi⟩
theorem il_twoS {X : World} {g : Nat} {a b : Int} (h0 : X.cell? ⟨g, 0, none⟩ = some (.int .i64 a)) (h1 : X.cell? ⟨g, 1, none⟩ = some (.int .i64 b)) : IL X X.heap.size (.slice (some ⟨g, 0, none⟩) 2 2) [a, b] := by
  have hg := World.block_lt_of_cell? X _ h0
  refine ⟨_, _, rfl, by simp, fun i hi => ⟨g, 0, rfl, Nat.ne_of_lt hg, ?_⟩⟩
  match i, hi with
  | 0, _ => exact h0
  | 1, _ => exact h1
theorem cmp_two {X : World} {g k : Nat} {s t : I2} (h0 : X.cell? ⟨g, 0, none⟩ = some (.int .i64 s.1)) (h1 : X.cell? ⟨g, 1, none⟩ = some (.int .i64 s.2)) (k0 : X.cell? ⟨k, 0, none⟩ = some (.int .i64 t.1)) (k1 : X.cell? ⟨k, 1, none⟩ = some (.int .i64 t.2)) :
    Calls Try.prog 61 #[.slice (some ⟨g, 0, none⟩) 2 2, .slice (some ⟨k, 0, none⟩) 2 2] X fun e w' => e = .returned (.int .i64 (cmpS s t)) ∧ Below X.heap.size X w' := by
  refine (ocmp_any (il_twoS h0 h1) (il_twoS k0 k1) (by simp) (by simp)).mono ?_
  rintro e w' ⟨h, h2⟩
  exact ⟨h, h2⟩
set_option maxRecDepth 100000 in
set_option maxHeartbeats 4000000 in
theorem partners_any {W0 W : World} {B xb bd lo : Nat} {R : Nat → Rl} {L : List B4} {F0 : FuncId} {lb : Array Value} {J : (Nat → Prop) → List Nat → World → Prop} {U : List Nat} {N : Nat → Prop} (h : IxL W0 B xb R L) (hM : MeetsC W0 B xb R L) (C : UseC bd F0 lb J) (G : GrowC lo J) (hlo : lo ≤ W.heap.size) (h0 : J N U W) (hN : ∀ k, k < W0.heap.size → N k ∧ W.heap[k]? = W0.heap[k]?) (hl : L.length ≤ bd) (hU : U.length + L.length ≤ 90000) (i : Nat) (hi : i < L.length) :
    Calls Try.prog 50 #[.pointer (some ⟨xb, 0, none⟩), .int .i64 (i : Int), .func (.func F0) #[] lb] W (PtPost J N U L i W) := by
  have hmx : Try.prog.follows .mixedOrders = true := by kernel_rfl
  obtain ⟨gq, vc, hBx⟩ := ix_box h hi
  have hx0 := hBx W (fun k hk => (hN k hk).2)
  have x0 := hx0.1
  obtain ⟨q0, q1, q2, q3⟩ := hx0.2
  have hiz : (i : Int) < (L.length : Int) := by omega
  have HFin : Hid (∀ w' (S : List Nat), (∀ x, x ∈ S ↔ prtP L i x) → S.length ≤ L.length → S.Nodup → J N (U ++ S) w' → (∀ k, N k → w'.heap[k]? = W.heap[k]?) → PtPost J N U L i W (.returned (.tuple #[])) w') := Lib.hid (fun w' S a b n c d => ⟨rfl, S, a, b, n, c, d⟩)
  have HI := Lib.hid h
  have HM := Lib.hid hM
  have HC := Lib.hid C
  have HG := Lib.hid G
  have HN := Lib.hid hN
  have H0 := Lib.hid h0
  have HX := Lib.hid hBx
  have HNl : Hid (∀ k, N k → k < W.heap.size) := Lib.hid (C.lt h0)
  clear h hM C G hN h0 hBx hx0
  have HMem : Hid (rgtB (bxA L i) = true → ∀ {ps vis : List EnG}, (∀ p ∈ ps, p ∈ vis) → (∀ s, lkG ps s = none → numsL L s = []) → ∀ j, j ∈ ptL L i (bxA L i) vis ↔ prtP L i j) := Lib.hid (fun hb {ps vis} h2 hn => ptL_mem hb h2 hn)
  have HNo : Hid (rgtB (bxA L i) = false → ∀ j, ¬ prtP L i j) := Lib.hid (fun hb => prt_none hb)
  have HHas : Hid (rgtB (bxA L i) = true → numsL L (szB (bxA L i)) ≠ []) := Lib.hid (fun hb e => by
    have hm : i ∈ numsL L (szB (bxA L i)) := by
      unfold numsL
      rw [List.mem_filter, List.mem_range]
      exact ⟨hi, by unfold ofS; simp [hb]⟩
    rw [e] at hm; cases hm)
  generalize hbe : bxA L i = b at *
  clear hbe
  have HRR : Hid (∀ X, Calls Try.prog 15 #[encB b] X fun e w' => e = .returned (.bool (rgtB b)) ∧ Below X.heap.size X w') := Lib.hid (fun X => rright_any b X)
  cases hb : rgtB b with
  | false =>
    have HNo2 := Lib.hid (HNo.out hb)
    rw [hb] at HRR
    clear HMem HNo HHas
    unfold encB at *
    go_enter Try.func50, Try.ntmps50
    go_wp2_with (go_at_call 15; refine (HRR.out _).mono ?_; rintro e w1 ⟨rfl, hb1⟩; have HB1 := Lib.hid (below_after (below_alloc _ _) hb1); clear hb1)
    go_end0
    exact HFin.out _ [] (fun x => ⟨fun hx => (List.not_mem_nil hx).elim, fun hx => absurd hx (HNo2.out x)⟩) (Nat.zero_le _) .nil (by rw [List.append_nil]; exact HC.out.new H0.out HB1.out (fun k hk => .inl hk)) (fun k hk => HB1.out.block k (HNl.out k hk))
  | true =>
    have HMe := Lib.hid (@fun ps vis => HMem.out hb (ps := ps) (vis := vis))
    have HHs := Lib.hid (HHas.out hb)
    have HSz : Hid (∀ X, Calls Try.prog 48 #[encB b] X fun e w' => e = .returned (enc2 (szB b)) ∧ Below X.heap.size X w') := Lib.hid (fun X => sizeof_any b hb X)
    rw [hb] at HRR
    clear HMem HNo HHas
    unfold encB enc2 at *
    go_enter Try.func50, Try.ntmps50
    go_upto_region 3 with (first | (go_at_call 15; refine (HRR.out _).mono ?_; rintro e w1 ⟨rfl, hb1⟩; have HB1 := Lib.hid hb1; have k0 := cell_later hb1 (v := .int .i64 b.1) (a := ⟨W.heap.size, 0, none⟩) (by go_simp); have k1 := cell_later hb1 (v := .int .i64 b.2.1) (a := ⟨W.heap.size, 1, none⟩) (by go_simp); have k2 := cell_later hb1 (v := .int .i64 b.2.2.1) (a := ⟨W.heap.size, 2, none⟩) (by go_simp); have k3 := cell_later hb1 (v := .int .i64 b.2.2.2) (a := ⟨W.heap.size, 3, none⟩) (by go_simp); clear hb1) | (go_at_call 48; refine (HSz.out _).mono ?_; rintro e w2 ⟨rfl, hb2⟩; have HB2 := Lib.hid hb2; clear hb2) | fail)
    have HBW : Hid (Below W.heap.size W (w2.alloc (.cells #[.int .i64 (szB b).1, .int .i64 (szB b).2] 91))) := Lib.hid (below_after (below_after (below_after (below_alloc _ _) HB1.out) HB2.out) (below_alloc _ _))
    have hsb : W.heap.size < w2.heap.size := by have := HB1.out.size; have := HB2.out.size; simp at *; omega
    have HBx : Hid (BxAt (w2.alloc (.cells #[.int .i64 (szB b).1, .int .i64 (szB b).2] 91)) W.heap.size 0 b) := Lib.hid ((BxAt.keep ⟨k0, k1, k2, k3⟩ HB2.out).keep (below_alloc _ _))
    have HZc : Hid ((w2.alloc (.cells #[.int .i64 (szB b).1, .int .i64 (szB b).2] 91)).cell? ⟨w2.heap.size, 0, none⟩ = some (.int .i64 (szB b).1) ∧ (w2.alloc (.cells #[.int .i64 (szB b).1, .int .i64 (szB b).2] 91)).cell? ⟨w2.heap.size, 1, none⟩ = some (.int .i64 (szB b).2)) := Lib.hid ⟨by go_simp, by go_simp⟩
    have hsV : w2.heap.size < (w2.alloc (.cells #[.int .i64 (szB b).1, .int .i64 (szB b).2] 91)).heap.size := by simp
    clear k0 k1 k2 k3 HB1 HB2 x0 q0 q1 q2 q3 HRR HSz
    generalize w2.alloc (.cells #[.int .i64 (szB b).1, .int .i64 (szB b).2] 91) = V at *
    generalize w2.heap.size = sb at *
    have HVN : Hid (∀ k, k < W0.heap.size → V.heap[k]? = W0.heap[k]?) := Lib.hid (fun k hk => (HBW.out.block k (HNl.out k (HN.out k hk).1)).trans (HN.out k hk).2)
    have HJ : Hid (J (fun k => N k ∨ k = W.heap.size ∨ k = sb) U V) := Lib.hid (HC.out.new H0.out HBW.out (fun k hk => by
      rcases hk with hk | hk | hk
      · exact .inl hk
      · exact .inr ⟨by omega, by omega⟩
      · exact .inr ⟨by omega, by omega⟩))
    rcases HI.out.c1 with ⟨_, hA⟩ | ⟨mb, ps, c, c1W, hr, hmB, hmW, hg, hn⟩
    · exact absurd (hA (szB b)).1 HHs.out
    · have c1 : V.cell? ⟨xb, 1, none⟩ = some (.map (some mb)) := (World.cell?_of_block (HVN.out _ (World.block_lt_of_cell? W0 _ c1W))).trans c1W
      have hm := hmW.of (HVN.out mb hmW.size)
      obtain ⟨V1, run1, hit, hb1, hs1⟩ := run_rangeG (mt := 86) Try.underlying86 hm
      have HF0 : Hid (PtI J N U W W.heap.size sb V.heap.size mb c L i b ps [] V1) := Lib.hid (by
        refine ⟨hit, ⟨[], fun x => Iff.rfl, Nat.zero_le _, .nil, ?_⟩, fun k hk => (hb1.block k (by have := HNl.out k hk; omega)).trans (HBW.out.block k (HNl.out k hk)), (fun q hq => by cases hq), .nil, HBx.out.keep hb1, ⟨cell_later hb1 HZc.out.1, cell_later hb1 HZc.out.2⟩, ⟨by omega, by omega, fun k hk e => by have := HNl.out k hk; omega⟩, by omega⟩
        rw [List.append_nil]
        refine HC.out.new HJ.out hb1 (fun k hk => ?_)
        rcases hk with hk | hk | hk | hk
        · exact .inl (.inl hk)
        · exact .inl (.inr (.inl hk))
        · exact .inl (.inr (.inr hk))
        · exact .inr ⟨by omega, by omega⟩)
      have hloV : lo ≤ V.heap.size := by have := HBW.out.size; omega
      have hne : V.heap.size ≠ W.heap.size ∧ V.heap.size ≠ sb := ⟨by omega, by omega⟩
      have HMW := Lib.hid hmW
      have HGr := Lib.hid hg
      have HNn := Lib.hid (fun s h => (hn s h).1)
      clear hm hmW hg hn hit hb1 hs1 hr hmB HJ HBx HZc hsb
      go_wp2_with fail
      clear run1 c1 HBW
      generalize V.heap.size = r at *
      generalize hnbe : W.heap.size = nb at *
      go_loopg [9] (lftN ps []) (fun gk x7 wx => ∃ vis, lftN ps vis ≤ gk ∧ Hid (PtI J N U W nb sb r mb c L i b ps vis wx))
      case atStart => exact ⟨[], Nat.le_refl _, HF0⟩
      case round =>
        obtain ⟨vis, hgk, HS⟩ := hrel
        clear HF0
        have HWr : Hid (∀ k, k < W0.heap.size → wr.heap[k]? = W0.heap[k]?) := Lib.hid (fun k hk => (HS.out.eq k (HN.out k hk).1).trans (HN.out k hk).2)
        have hmr : MapG wr mb ps c := HMW.out.of (HWr.out mb HMW.out.size)
        rcases run_nextG hmr HS.out.it 0 with ⟨hall, hrun⟩ | ⟨p, hp, hnew, w2, hw2, hrun⟩
        · have hv : ∀ p ∈ ps, p ∈ vis := fun p hp => by
            obtain ⟨q, hq, e⟩ := hall p hp
            rw [← born_eq HMW.out.bd (HS.out.sub q hq) hp e]
            exact hq
          obtain ⟨S, s1, s2, sn, s3⟩ := HS.out.j
          have HF := Lib.hid (HFin.out wr S (fun x => (s1 x).trans (HMe.out ps vis hv HNn.out x)) (Nat.le_trans s2 (fnd_sum vis HS.out.nd L.length L rfl)) sn (HC.out.new s3 (Below.refl _ _) (fun k hk => .inl (.inl hk))) HS.out.eq)
          clear hmr hall hv s1 s2 s3 HS HMW HGr HNn HWr
          go_wp2_with fail
          go_end0
          exact HF.out
        · cases gk with
          | zero => have := lftN_lt hp hnew; omega
          | succ gr =>
            have hgr : lftN ps (vis ++ [p]) ≤ gr := by have := lftN_lt hp hnew; omega
            have hlr : lo ≤ r := hloV
            obtain ⟨hit2, hj2, hbk2, hsz2⟩ := HS.out.step (p := p) HC.out HG.out hlr hw2
            have HIt2 := Lib.hid hit2
            have HJ2 := Lib.hid hj2
            have hmlt : mb < wr.heap.size := hmr.size
            have hmne : mb ≠ r := HS.out.ne.2.2 mb (HN.out mb HMW.out.size).1
            have hm2 : MapG (setBlock w2 r (.mapIter (some mb) c ((vis ++ [p]).map (fun p => p.2.2)).toArray c)) mb ps c := hmr.of (hbk2 mb hmlt hmne)
            have hen := run_entryIt hm2 hp hit2
            have HB2 := Lib.hid hbk2
            have HNr : Hid (∀ k, N k → k < wr.heap.size ∧ k ≠ r) := Lib.hid (fun k hk => by
              obtain ⟨S, s1, s2, sn, s3⟩ := HS.out.j
              exact ⟨HC.out.lt s3 k (.inl hk), HS.out.ne.2.2 k hk⟩)
            have hnr : nb ≠ r ∧ nb < wr.heap.size ∧ sb ≠ r ∧ sb < wr.heap.size := ⟨fun e => HS.out.ne.1 e.symm, World.block_lt_of_cell? wr _ HS.out.bx.1, fun e => HS.out.ne.2.1 e.symm, World.block_lt_of_cell? wr _ HS.out.sz.1⟩
            clear hmr hit2 hj2 hbk2 hm2 hmlt hmne hsz2
            obtain ⟨gb, hpe, hgr0⟩ := HGr.out p hp
            have HGb := Lib.hid hgr0
            rw [hpe] at hrun hen
            have HSub : Hid (∀ q ∈ vis ++ [p], q ∈ ps) := Lib.hid (fun q hq => by
              rcases List.mem_append.1 hq with hq | hq
              · exact HS.out.sub q hq
              · rw [List.mem_singleton] at hq; subst hq; exact hp)
            have HNd : Hid ((vis ++ [p]).Pairwise (fun p q => p.1 ≠ q.1)) := Lib.hid (by
              rw [List.pairwise_append]
              refine ⟨HS.out.nd, List.pairwise_singleton _ _, fun q hq x hx => ?_⟩
              rw [List.mem_singleton] at hx
              subst hx
              intro e
              exact hnew q hq (by
                have hqp : q = x := key_eq HMW.out.nd (HS.out.sub q hq) hp e
                rw [hqp]))
            have HLn : Hid (sumN L vis + (numsL L p.1).length ≤ L.length) := Lib.hid (by
              have h1 := fnd_sum (vis ++ [p]) HNd.out L.length L rfl
              have h2 := sumN_snoc L vis p
              unfold sumN at *
              omega)
            clear hnew hgr0 hw2 hpe
            generalize hV2 : setBlock w2 r (.mapIter (some mb) c ((vis ++ [p]).map (fun p => p.2.2)).toArray c) = V2 at *
            clear hV2
            obtain ⟨s, v0, n0⟩ := p
            simp only at *
            have b0 : BxAt V2 nb 0 b := by
              have e := HB2.out nb hnr.2.1 hnr.1
              have h := HS.out.bx
              exact ⟨(World.cell?_of_block e).trans h.1, (World.cell?_of_block e).trans h.2.1, (World.cell?_of_block e).trans h.2.2.1, (World.cell?_of_block e).trans h.2.2.2⟩
            have z0 : V2.cell? ⟨sb, 0, none⟩ = some (.int .i64 (szB b).1) ∧ V2.cell? ⟨sb, 1, none⟩ = some (.int .i64 (szB b).2) := by
              have e := HB2.out sb hnr.2.2.2 hnr.2.2.1
              have h := HS.out.sz
              exact ⟨(World.cell?_of_block e).trans h.1, (World.cell?_of_block e).trans h.2⟩
            have HCm : Hid (∀ X, Below (V2.alloc (.cells #[.int .i64 s.1, .int .i64 s.2] 91)).heap.size (V2.alloc (.cells #[.int .i64 s.1, .int .i64 s.2] 91)) X → Calls Try.prog 61 #[.slice (some ⟨sb, 0, none⟩) 2 2, .slice (some ⟨V2.heap.size, 0, none⟩) 2 2] X fun e w' => e = .returned (.int .i64 (cmpS (szB b) s)) ∧ Below V2.heap.size V2 w') := Lib.hid (fun X hX => by
              refine (cmp_two (s := szB b) (t := s) (cell_later hX (cell_later (below_alloc _ _) z0.1)) (cell_later hX (cell_later (below_alloc _ _) z0.2)) (cell_later hX (by go_simp)) (cell_later hX (by go_simp))).mono ?_
              rintro e w' ⟨h1, h2⟩
              exact ⟨h1, below_after (below_after (below_alloc _ _) hX) h2⟩)
            have HBx2 := Lib.hid b0
            have HZ2 := Lib.hid z0
            clear b0 z0
            unfold enc2 at hrun hen
            go_upto_region 6 with fail
            refine wp_region_held_drew (S := (fun X : World => True)) (by kernel_rfl) trivial (fun hHeld => ?_)
            refine wpAnyH_take (i := 0) (oi := { dst := some 32, op := Op.slice 91 (Operand.tmp 7) none none none, type := 48, pos := "index.go:113", after := #[], guard := none }) (v := ?_) rfl (by kernel_rfl) (by kernel_rfl) (by kernel_rfl) (fun _ _ _ h => h) (Or.inl ⟨by rfl, ?_⟩) (by with_reducible assumption) ?_
            rotate_left
            focus (intro wS hSw; (try dsimp only at hSw); go_simp <;> with_reducible rfl)
            try go_frame
            refine wpAnyH_take (i := 1) (oi := { dst := some 33, op := Op.slice 91 (Operand.tmp 8) none none none, type := 48, pos := "index.go:113", after := #[], guard := none }) (v := ?_) rfl (by kernel_rfl) (by kernel_rfl) (by kernel_rfl) (fun _ _ _ h => h) (Or.inl ⟨by rfl, ?_⟩) (by with_reducible assumption) ?_
            rotate_left
            focus (intro wS hSw; (try dsimp only at hSw); go_simp <;> with_reducible rfl)
            try go_frame
            refine wpAnyH_ready (rs := [2]) (by kernel_rfl) (by simp) ?_
            refine AllReadyH.cons (i := 2) (o := { dst := some 34, op := Op.call { callee := Callee.value (Operand.func 61), args := #[Operand.tmp 32, Operand.tmp 33], argTypes := #[48, 48] }, type := 3, pos := "index.go:113", after := #[{ on := 0, ground := Ground.data }, { on := 1, ground := Ground.data }], guard := none }) rfl (fun K hK => ?_) AllReadyH.nil
            go_simp
            go_at_call 61
            refine (HCm.out _ (below_drewW _)).mono ?_
            rintro e w4 ⟨rfl, hb4⟩
            have HB4 := Lib.hid hb4
            clear hb4
            refine hK.out _ _ trivial (fun hHeld => ?_)
            clear hK K
            try go_frame
            refine wpAnyH_done (by kernel_rfl) ?_ _
            have HJ4 : Hid (∃ S : List Nat, (∀ x, x ∈ S ↔ x ∈ ptL L i b vis) ∧ S.length ≤ sumN L vis ∧ S.Nodup ∧ J (fun k => N k ∨ k = nb ∨ k = sb ∨ k = r) (U ++ S) w4) := Lib.hid (by
              obtain ⟨S, s1, s2, sn, s3⟩ := HJ2.out
              exact ⟨S, s1, s2, sn, HC.out.new s3 HB4.out (fun k hk => .inl hk)⟩)
            obtain ⟨S, s1, s2, sn, s3⟩ := HJ4.out
            have hNl2 : ∀ k, (N k ∨ k = nb ∨ k = sb ∨ k = r) → w4.heap[k]? = V2.heap[k]? := fun k hk => by
              obtain ⟨S', _, _, _, s3'⟩ := HJ2.out
              exact HB4.out.block k (HC.out.lt s3' k hk)
            have HNx : Hid (∀ w9 S2, (∀ x, x ∈ S2 ↔ x ∈ ptG L i b s) → S2.length ≤ (numsL L s).length → S2.Nodup → J (fun k => N k ∨ k = nb ∨ k = sb ∨ k = r) (U ++ S ++ S2) w9 → (∀ k, (N k ∨ k = nb ∨ k = sb ∨ k = r) → w9.heap[k]? = w4.heap[k]?) → PtI J N U W nb sb r mb c L i b ps (vis ++ [(s, v0, n0)]) w9) := Lib.hid (fun w9 S2 g1 g2 gn g3 g4 => by
              have e9 : ∀ k, (N k ∨ k = nb ∨ k = sb ∨ k = r) → w9.heap[k]? = V2.heap[k]? := fun k hk => (g4 k hk).trans (hNl2 k hk)
              have en := e9 nb (.inr (.inl rfl))
              have es := e9 sb (.inr (.inr (.inl rfl)))
              refine ⟨HIt2.out.of (e9 r (.inr (.inr (.inr rfl)))), ⟨S ++ S2, fun x => ?_, ?_, ?_, ?_⟩, fun k hk => ?_, HSub.out, HNd.out, ?_, ?_, HS.out.ne, HC.out.lt g3 r (.inr (.inr (.inr rfl)))⟩
              · rw [ptL_snoc, List.mem_append, List.mem_append, s1 x, g1 x]
              · rw [sumN_snoc, List.length_append]; exact Nat.add_le_add s2 g2
              · rw [List.nodup_append]
                refine ⟨sn, gn, fun x hx y hy e => ?_⟩
                subst e
                obtain ⟨q, hq, hxq⟩ := List.mem_flatMap.1 ((s1 x).1 hx)
                have h1 := ptG_of hxq
                have h2 := ptG_of ((g1 x).1 hy)
                have hd := HNd.out
                rw [List.pairwise_append] at hd
                exact hd.2.2 q hq _ List.mem_cons_self (h1.symm.trans h2)
              · rw [← List.append_assoc]; exact g3
              · exact (e9 k (.inl hk)).trans ((HB2.out k (HNr.out k hk).1 (HNr.out k hk).2).trans (HS.out.eq k hk))
              · exact ⟨(World.cell?_of_block en).trans HBx2.out.1, (World.cell?_of_block en).trans HBx2.out.2.1, (World.cell?_of_block en).trans HBx2.out.2.2.1, (World.cell?_of_block en).trans HBx2.out.2.2.2⟩
              · exact ⟨(World.cell?_of_block es).trans HZ2.out.1, (World.cell?_of_block es).trans HZ2.out.2⟩)
            have HN4 : Hid (∀ k, k < W0.heap.size → (N k ∨ k = nb ∨ k = sb ∨ k = r) ∧ w4.heap[k]? = W0.heap[k]?) := Lib.hid (fun k hk => ⟨.inl (HN.out k hk).1, (hNl2 k (.inl (HN.out k hk).1)).trans ((HB2.out k (HNr.out k (HN.out k hk).1).1 (HNr.out k (HN.out k hk).1).2).trans (HWr.out k hk))⟩)
            have HMt : Hid (∀ (X : World) (below : Int), Below w4.heap.size w4 X → Calls Try.prog 54 #[.pointer (some ⟨xb, 0, none⟩), .agg #[.int .i64 b.1, .int .i64 b.2.1, .int .i64 b.2.2.1, .int .i64 b.2.2.2], .pointer (some ⟨gb, 0, none⟩), .int .i64 below, .func (.func F0) #[] lb] X (fun e w' => e = .returned (.tuple #[]) ∧ ∃ S2 : List Nat, (∀ i, i ∈ S2 ↔ i ∈ selA L b below (numsL L s)) ∧ S2.length ≤ (numsL L s).length ∧ S2.Nodup ∧ J (fun k => N k ∨ k = nb ∨ k = sb ∨ k = r) (U ++ S ++ S2) w' ∧ ∀ k, (N k ∨ k = nb ∨ k = sb ∨ k = r) → w'.heap[k]? = w4.heap[k]?)) := Lib.hid (fun X below hX => by
              have hk4 : ∀ k, (N k ∨ k = nb ∨ k = sb ∨ k = r) → X.heap[k]? = w4.heap[k]? := fun k hk => hX.block k (HC.out.lt s3 k hk)
              refine (HM.out.m HGb.out HC.out (HC.out.new s3 hX (fun k hk => .inl hk)) (fun k hk => ⟨(HN4.out k hk).1, (hk4 k (HN4.out k hk).1).trans (HN4.out k hk).2⟩) hl (by rw [List.length_append]; have := HLn.out; omega) b hb below).mono ?_
              rintro e w' ⟨h1, S2, h2, h3, hn, h4, h5⟩
              exact ⟨h1, S2, h2, h3, hn, h4, fun k hk => (h5 k hk).trans (hk4 k hk)⟩)
            have HJn := Lib.hid s3
            have HBx4 : Hid (BxAt w4 nb 0 b ∧ w4.cell? ⟨xb, 0, none⟩ = some (.slice (some ⟨gq, 0, none⟩) L.length vc)) := Lib.hid ⟨HBx2.out.keep HB4.out, (HX.out w4 (fun k hk => (HN4.out k hk).2)).1⟩
            clear s1 s2 sn s3 HJ4 HJ2 hNl2 HB2 HIt2 HBx2 HZ2 HS HNr HWr HSub HNd HLn HCm HN4 HGb
            rcases cmpS_cases (szB b) s with hc | hc | hc
            · have HPt : Hid (ptG L i b s = selA L b (L.length : Int) (numsL L s)) := Lib.hid (by unfold ptG; rw [if_pos hc])
              rw [hc]
              go_upto_region 8 with fail
              have HSd : Hid (w4.drew.cell? ⟨xb, 0, none⟩ = some (.slice (some ⟨gq, 0, none⟩) L.length vc) ∧ w4.drew.cell? ⟨nb, 0, none⟩ = some (.int .i64 b.1) ∧ w4.drew.cell? ⟨nb, 1, none⟩ = some (.int .i64 b.2.1) ∧ w4.drew.cell? ⟨nb, 2, none⟩ = some (.int .i64 b.2.2.1) ∧ w4.drew.cell? ⟨nb, 3, none⟩ = some (.int .i64 b.2.2.2)) := Lib.hid ⟨HBx4.out.2, HBx4.out.1.1, HBx4.out.1.2.1, HBx4.out.1.2.2.1, HBx4.out.1.2.2.2⟩
              refine wp_region_held_drew (S := (fun X : World => X.cell? ⟨xb, 0, none⟩ = some (.slice (some ⟨gq, 0, none⟩) L.length vc) ∧ X.cell? ⟨nb, 0, none⟩ = some (.int .i64 b.1) ∧ X.cell? ⟨nb, 1, none⟩ = some (.int .i64 b.2.1) ∧ X.cell? ⟨nb, 2, none⟩ = some (.int .i64 b.2.2.1) ∧ X.cell? ⟨nb, 3, none⟩ = some (.int .i64 b.2.2.2))) (by kernel_rfl) HSd.out (fun hHeld => ?_)
              clear HSd
              refine wpAnyH_take (i := 0) (oi := { dst := some 37, op := Op.move (Operand.tmp 0), type := 44, pos := "index.go:115", after := #[], guard := none }) (v := ?_) rfl (by kernel_rfl) (by kernel_rfl) (by kernel_rfl) (fun _ _ _ h => h) (Or.inl ⟨by rfl, ?_⟩) (by with_reducible assumption) ?_
              rotate_left
              focus (intro wS hSw; (try dsimp only at hSw); go_simp <;> with_reducible rfl)
              try go_frame
              refine wpAnyH_take (i := 1) (oi := { dst := some 38, op := Op.load 25 (Operand.tmp 6), type := 25, pos := "index.go:115", after := #[], guard := none }) (v := ?_) rfl (by kernel_rfl) (by kernel_rfl) (by kernel_rfl) (fun _ _ _ h => h) (Or.inl ⟨by rfl, ?_⟩) (by with_reducible assumption) ?_
              rotate_left
              focus (intro wS hSw; (try dsimp only at hSw); go_simp <;> with_reducible rfl)
              try go_frame
              refine wpAnyH_take (i := 2) (oi := { dst := some 39, op := Op.move (Operand.tmp 9), type := 89, pos := "index.go:115", after := #[], guard := none }) (v := ?_) rfl (by kernel_rfl) (by kernel_rfl) (by kernel_rfl) (fun _ _ _ h => h) (Or.inl ⟨by rfl, ?_⟩) (by with_reducible assumption) ?_
              rotate_left
              focus (intro wS hSw; (try dsimp only at hSw); go_simp <;> with_reducible rfl)
              try go_frame
              refine wpAnyH_take (i := 3) (oi := { dst := some 40, op := Op.move (Operand.tmp 0), type := 44, pos := "index.go:115", after := #[], guard := none }) (v := ?_) rfl (by kernel_rfl) (by kernel_rfl) (by kernel_rfl) (fun _ _ _ h => h) (Or.inl ⟨by rfl, ?_⟩) (by with_reducible assumption) ?_
              rotate_left
              focus (intro wS hSw; (try dsimp only at hSw); go_simp <;> with_reducible rfl)
              try go_frame
              refine wpAnyH_take (i := 4) (oi := { dst := some 41, op := Op.nilCheck (Operand.tmp 40), type := 0, pos := "index.go:115", after := #[{ on := 3, ground := Ground.data }], guard := none }) (v := ?_) rfl (by kernel_rfl) (by kernel_rfl) (by kernel_rfl) (fun _ _ _ h => h) (Or.inl ⟨by rfl, ?_⟩) (by with_reducible assumption) ?_
              rotate_left
              focus (intro wS hSw; (try dsimp only at hSw); go_simp <;> with_reducible rfl)
              try go_frame
              refine wpAnyH_take (i := 5) (oi := { dst := some 42, op := Op.fieldAddr 88 (Operand.tmp 41) 0, type := 0, pos := "index.go:115", after := #[{ on := 4, ground := Ground.data }], guard := none }) (v := ?_) rfl (by kernel_rfl) (by kernel_rfl) (by kernel_rfl) (fun _ _ _ h => h) (Or.inl ⟨by rfl, ?_⟩) (by with_reducible assumption) ?_
              rotate_left
              focus (intro wS hSw; (try dsimp only at hSw); go_simp <;> with_reducible rfl)
              try go_frame
              refine wpAnyH_take (i := 6) (oi := { dst := some 43, op := Op.load 42 (Operand.tmp 42), type := 42, pos := "index.go:115", after := #[{ on := 5, ground := Ground.data }], guard := none }) (v := ?_) rfl (by kernel_rfl) (by kernel_rfl) (by kernel_rfl) (fun _ _ _ h => h) (Or.inl ⟨by rfl, ?_⟩) (by with_reducible assumption) ?_
              rotate_left
              focus (intro wS hSw; (try dsimp only at hSw); go_simp <;> with_reducible rfl)
              try go_frame
              refine wpAnyH_take (i := 7) (oi := { dst := some 44, op := Op.call { callee := Callee.builtin Builtin.len, args := #[Operand.tmp 43], argTypes := #[42] }, type := 3, pos := "index.go:115", after := #[{ on := 6, ground := Ground.data }], guard := none }) (v := ?_) rfl (by kernel_rfl) (by kernel_rfl) (by kernel_rfl) (fun _ _ _ h => h) (Or.inl ⟨by rfl, ?_⟩) (by with_reducible assumption) ?_
              rotate_left
              focus (intro wS hSw; (try dsimp only at hSw); go_simp <;> with_reducible rfl)
              try go_frame
              refine wpAnyH_take (i := 8) (oi := { dst := some 45, op := Op.move (Operand.tmp 2), type := 96, pos := "index.go:115", after := #[], guard := none }) (v := ?_) rfl (by kernel_rfl) (by kernel_rfl) (by kernel_rfl) (fun _ _ _ h => h) (Or.inl ⟨by rfl, ?_⟩) (by with_reducible assumption) ?_
              rotate_left
              focus (intro wS hSw; (try dsimp only at hSw); go_simp <;> with_reducible rfl)
              try go_frame
              refine wpAnyH_ready (rs := [9]) (by kernel_rfl) (by simp) ?_
              refine AllReadyH.cons (i := 9) (o := { dst := some 46, op := Op.call { callee := Callee.value (Operand.func 54), args := #[Operand.tmp 37, Operand.tmp 38, Operand.tmp 39, Operand.tmp 44, Operand.tmp 45], argTypes := #[44, 25, 89, 3, 96] }, type := 0, pos := "index.go:115", after := #[{ on := 0, ground := Ground.data }, { on := 1, ground := Ground.data }, { on := 2, ground := Ground.data }, { on := 7, ground := Ground.data }, { on := 8, ground := Ground.data }], guard := none }) rfl (fun K hK => ?_) AllReadyH.nil
              go_simp
              go_at_call 54
              refine (HMt.out _ _ (below_drewW _)).mono ?_
              rintro e w9 ⟨rfl, S2, g1, g2, gn, g3, g4⟩
              have HS2 := Lib.hid (HNx.out w9 S2 (fun x => (g1 x).trans (by rw [HPt.out])) g2 gn g3 g4)
              have HX2 : Hid (BxAt w9 nb 0 b ∧ w9.cell? ⟨xb, 0, none⟩ = some (.slice (some ⟨gq, 0, none⟩) L.length vc)) := Lib.hid ⟨HS2.out.bx, (HX.out w9 (fun k hk => (HS2.out.eq k (HN.out k hk).1).trans (HN.out k hk).2)).1⟩
              clear g1 g2 gn g3 g4
              refine hK.out _ _ ⟨HX2.out.2, HX2.out.1.1, HX2.out.1.2.1, HX2.out.1.2.2.1, HX2.out.1.2.2.2⟩ (fun hHeld => ?_)
              clear hK K
              try go_frame
              refine wpAnyH_done (by kernel_rfl) ?_ _
              go_wp2_with fail
              go_roundg gr
              case measure => omega
              case rel => exact ⟨vis ++ [(s, v0, n0)], by omega, HS2⟩
            · have HPt : Hid (ptG L i b s = selA L b (i : Int) (numsL L s)) := Lib.hid (by unfold ptG; rw [if_neg (by rw [hc]; decide), if_pos hc])
              rw [hc]
              have b0 := HBx4.out.1.1
              have b1 := HBx4.out.1.2.1
              have b2 := HBx4.out.1.2.2.1
              have b3 := HBx4.out.1.2.2.2
              go_wp2_with (go_at_call 54; refine (HMt.out _ _ (Below.refl _ _)).mono ?_; rintro e w9 ⟨rfl, S2, g1, g2, gn, g3, g4⟩; have HS2 := Lib.hid (HNx.out w9 S2 (fun x => (g1 x).trans (by rw [HPt.out])) g2 gn g3 g4); clear g1 g2 gn g3 g4)
              go_roundg gr
              case measure => omega
              case rel => exact ⟨vis ++ [(s, v0, n0)], by omega, HS2⟩
            · have HPt : Hid (ptG L i b s = []) := Lib.hid (by unfold ptG; rw [if_neg (by rw [hc]; decide), if_neg (by rw [hc]; decide)])
              rw [hc]
              have HS2 := Lib.hid (HNx.out w4 [] (fun x => by rw [HPt.out]) (Nat.zero_le _) .nil (by rw [List.append_nil]; exact HJn.out) (fun _ _ => rfl))
              go_wp2_with fail
              go_roundg gr
              case measure => omega
              case rel => exact ⟨vis ++ [(s, v0, n0)], by omega, HS2⟩
end Go.Proofs.Ytenfaejdnphngaa
