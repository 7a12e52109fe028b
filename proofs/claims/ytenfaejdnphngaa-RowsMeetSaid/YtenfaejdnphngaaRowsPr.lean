/- Walks of the index: Pairs. -/
import Derived.Test.YtenfaejdnphngaaRowsNw
import Derived.Test.YtenfaejdnphngaaUniq
import Derived.Test.YtenfaejdnphngaaRowsPq
namespace Go.Proofs.Ytenfaejdnphngaa
open Go.RowKit
open Go.ChangeMaps (setBlock)

/-- What meeting does with the numbers of a grid. -/
def MtPost (J : (Nat → Prop) → List Nat → World → Prop) (N : Nat → Prop) (U : List Nat) (L : List B4) (b : B4) (below : Int) (s : I2) (W : World) (e : Ending) (w' : World) : Prop :=
  e = .returned (.tuple #[]) ∧ ∃ S : List Nat, (∀ i, i ∈ S ↔ i ∈ selA L b below (numsL L s)) ∧ S.length ≤ (numsL L s).length ∧ S.Nodup ∧ J N (U ++ S) w' ∧ ∀ k, N k → w'.heap[k]? = W.heap[k]?
theorem selA_sub (L : List B4) (b : B4) (below : Int) : ∀ A : List Nat, (selA L b below A).Sublist A
  | [] => List.Sublist.slnil
  | i :: A => by
    have h := selA_sub L b below A
    rw [selA]
    split
    · split
      · exact h.cons_cons i
      · exact h.cons i
    · exact List.nil_sublist _
theorem numsL_nodup (L : List B4) (s : I2) : (numsL L s).Nodup := List.nodup_range.filter _
structure MeetsC (W0 : World) (B xb : Nat) (R : Nat → Rl) (L : List B4) : Prop where
  m : ∀ {s : I2} {gb bd : Nat} {F0 : FuncId} {lb : Array Value} {J : (Nat → Prop) → List Nat → World → Prop} {U : List Nat} {N : Nat → Prop} {W : World}, GrI W0 B R s gb (numsL L s) (stF L s) → UseC bd F0 lb J → J N U W → (∀ k, k < W0.heap.size → N k ∧ W.heap[k]? = W0.heap[k]?) → L.length ≤ bd → U.length + (numsL L s).length ≤ 100000 → ∀ b : B4, rgtB b = true → ∀ below : Int,
    Calls Try.prog 54 #[.pointer (some ⟨xb, 0, none⟩), encB b, .pointer (some ⟨gb, 0, none⟩), .int .i64 below, .func (.func F0) #[] lb] W (MtPost J N U L b below s W)
theorem meets_few {W0 : World} {B xb : Nat} {R : Nat → Rl} {L : List B4} (h : IxL W0 B xb R L) (hL : L.length < 16) : MeetsC W0 B xb R L := by
  refine ⟨fun {s gb bd F0 lb J U N W} hg C h0 hN hbd hU b hb below => ?_⟩
  obtain ⟨vp, vc, ap, ac, hMR⟩ := maR_of h hg
  refine (meet_few C h0 (fun V hV => hMR V (fun k hk => (hV k (hN k hk).1).trans (hN k hk).2)) (fun i hi => (numsL_lt hi).1) (by have := numsL_len L s; omega) hbd hU b hb hg.sz.1 hg.sz.2.2.1 hg.sz.2.1 hg.sz.2.2.2 below).mono ?_
  rintro e w' ⟨h1, h2, h3⟩
  exact ⟨h1, _, fun i => Iff.rfl, selA_len _ _ _ _, (selA_sub _ _ _ _).nodup (numsL_nodup _ _), h2, h3⟩
theorem numsL_rise (L : List B4) (s : I2) : (numsL L s).Pairwise (· < ·) := List.pairwise_lt_range.filter _
theorem mem_selR {L : List B4} {b : B4} {below : Int} {i : Nat} : ∀ {A : List Nat}, A.Pairwise (· < ·) → (i ∈ selA L b below A ↔ i ∈ A ∧ (i : Int) < below ∧ risB (comB b (bxA L i)) = true)
  | [], _ => by simp [selA]
  | j :: A, h => by
    rw [List.pairwise_cons] at h
    have ih := mem_selR (L := L) (b := b) (below := below) (i := i) (A := A) h.2
    rw [selA]
    split
    · rename_i hj
      split
      · rename_i hr
        rw [List.mem_cons, ih, List.mem_cons]
        constructor
        · rintro (rfl | ⟨h1, h2⟩)
          · exact ⟨.inl rfl, hj, hr⟩
          · exact ⟨.inr h1, h2⟩
        · rintro ⟨h1 | h1, h2⟩
          · exact .inl h1
          · exact .inr ⟨h1, h2⟩
      · rename_i hr
        rw [ih, List.mem_cons]
        constructor
        · rintro ⟨h1, h2⟩; exact ⟨.inr h1, h2⟩
        · rintro ⟨h1 | h1, h2⟩
          · subst h1; exact absurd h2.2 hr
          · exact ⟨h1, h2⟩
    · rename_i hj
      constructor
      · intro hm; cases hm
      · rintro ⟨h1, h2, _⟩
        rcases List.mem_cons.1 h1 with e | e
        · subst e; exact absurd h2 hj
        · have := h.1 i e
          omega
/-- How sizes lie. -/
def cmpS (s t : I2) : Int := cmpL [s.1, s.2] [t.1, t.2]
theorem cmpS_val (s t : I2) : cmpS s t = if s.1 < t.1 then -1 else if t.1 < s.1 then 1 else if s.2 < t.2 then -1 else if t.2 < s.2 then 1 else 0 := by
  unfold cmpS
  simp only [cmpL]
theorem cmpS_cases (s t : I2) : cmpS s t = -1 ∨ cmpS s t = 0 ∨ cmpS s t = 1 := by
  rw [cmpS_val]; split <;> (try split) <;> (try split) <;> (try split) <;> simp
theorem cmpS_swap (s t : I2) : cmpS s t = - cmpS t s := by
  rw [cmpS_val, cmpS_val]
  split <;> split <;> (try split) <;> (try split) <;> (try split) <;> (try split) <;> omega
theorem cmpS_zero {s t : I2} (h : cmpS s t = 0) : s = t := by
  rw [cmpS_val] at h
  obtain ⟨a, b⟩ := s
  obtain ⟨c, d⟩ := t
  simp only at h
  split at h
  · cases h
  · split at h
    · cases h
    · split at h
      · cases h
      · split at h
        · cases h
        · ext <;> omega
/-- What one grid gives to box i. -/
def ptG (L : List B4) (i : Nat) (b : B4) (t : I2) : List Nat := if cmpS (szB b) t = -1 then selA L b (L.length : Int) (numsL L t) else if cmpS (szB b) t = 0 then selA L b (i : Int) (numsL L t) else []
theorem ptG_len (L : List B4) (i : Nat) (b : B4) (t : I2) : (ptG L i b t).length ≤ (numsL L t).length := by
  unfold ptG
  split
  · exact selA_len _ _ _ _
  · split
    · exact selA_len _ _ _ _
    · simp
theorem ptG_of {L : List B4} {i x : Nat} {b : B4} {t : I2} (h : x ∈ ptG L i b t) : szB (bxA L x) = t := by
  have key : ∀ bw, x ∈ selA L b bw (numsL L t) → szB (bxA L x) = t := fun bw hx => by
    have := (numsL_lt ((selA_sub _ _ _ _).subset hx)).2
    unfold ofS at this
    rw [Bool.and_eq_true, decide_eq_true_eq] at this
    exact this.2
  unfold ptG at h
  split at h
  · exact key _ h
  · split at h
    · exact key _ h
    · cases h
def ptL (L : List B4) (i : Nat) (b : B4) (vis : List EnG) : List Nat := vis.flatMap (fun p => ptG L i b p.1)
theorem ptL_snoc (L : List B4) (i : Nat) (b : B4) (vis : List EnG) (p : EnG) : ptL L i b (vis ++ [p]) = ptL L i b vis ++ ptG L i b p.1 := by simp [ptL, List.flatMap_append]
/-- The partners of box i. -/
def prtP (L : List B4) (i j : Nat) : Prop := j < L.length ∧ metB (bxA L i) (bxA L j) = true ∧ (cmpS (szB (bxA L i)) (szB (bxA L j)) = -1 ∨ cmpS (szB (bxA L i)) (szB (bxA L j)) = 0 ∧ j < i)
theorem ptL_mem {L : List B4} {i : Nat} {ps vis : List EnG} (hb : rgtB (bxA L i) = true) (h2 : ∀ p ∈ ps, p ∈ vis) (hn : ∀ s, lkG ps s = none → numsL L s = []) (j : Nat) : j ∈ ptL L i (bxA L i) vis ↔ prtP L i j := by
  have key : ∀ t : I2, j ∈ ptG L i (bxA L i) t ↔ j ∈ numsL L t ∧ prtP L i j := by
    intro t
    have e0 : j ∈ numsL L t → rgtB (bxA L j) = true ∧ szB (bxA L j) = t := fun hm => by
      have := (numsL_lt hm).2
      unfold ofS at this
      rw [Bool.and_eq_true, decide_eq_true_eq] at this
      exact this
    unfold ptG
    split
    · rename_i hc
      rw [mem_selR (numsL_rise L t)]
      constructor
      · rintro ⟨m1, _, m2⟩
        obtain ⟨r1, r2⟩ := e0 m1
        exact ⟨m1, (numsL_lt m1).1, by unfold metB; simp [hb, r1, m2], .inl (by rw [r2]; exact hc)⟩
      · rintro ⟨m1, m2, m3, _⟩
        unfold metB at m3
        rw [Bool.and_eq_true] at m3
        exact ⟨m1, by omega, m3.2⟩
    · rename_i hc
      split
      · rename_i hz
        rw [mem_selR (numsL_rise L t)]
        constructor
        · rintro ⟨m1, m2, m3⟩
          obtain ⟨r1, r2⟩ := e0 m1
          exact ⟨m1, (numsL_lt m1).1, by unfold metB; simp [hb, r1, m3], .inr ⟨by rw [r2]; exact hz, by omega⟩⟩
        · rintro ⟨m1, m2, m3, m4⟩
          unfold metB at m3
          rw [Bool.and_eq_true] at m3
          rcases m4 with m4 | m4
          · rw [(e0 m1).2] at m4; exact absurd m4 hc
          · exact ⟨m1, by omega, m3.2⟩
      · rename_i hz
        constructor
        · intro hm; cases hm
        · rintro ⟨m1, m2, m3, m4⟩
          rw [(e0 m1).2] at m4
          rcases m4 with m4 | m4
          · exact absurd m4 hc
          · exact absurd m4.1 hz
  unfold ptL
  rw [List.mem_flatMap]
  constructor
  · rintro ⟨p, _, hj⟩
    exact ((key p.1).1 hj).2
  · intro hp
    have hr : rgtB (bxA L j) = true := by
      have := hp.2.1
      unfold metB at this
      rw [Bool.and_eq_true, Bool.and_eq_true] at this
      exact this.1.2
    have hm : j ∈ numsL L (szB (bxA L j)) := by
      unfold numsL
      rw [List.mem_filter, List.mem_range]
      exact ⟨hp.1, by unfold ofS; simp [hr]⟩
    cases hl : lkG ps (szB (bxA L j)) with
    | none => rw [hn _ hl] at hm; cases hm
    | some v =>
      obtain ⟨c, hc⟩ := lkG_some hl
      exact ⟨_, h2 _ hc, (key _).2 ⟨hm, hp⟩⟩
theorem prt_none {L : List B4} {i : Nat} (hb : rgtB (bxA L i) = false) (j : Nat) : ¬ prtP L i j := by
  rintro ⟨_, h, _⟩
  unfold metB at h
  rw [hb] at h
  cases h
/-- The sizes' boxes. -/
def sumN (L : List B4) (vis : List EnG) : Nat := (vis.map (fun p => (numsL L p.1).length)).sum
theorem sumN_snoc (L : List B4) (vis : List EnG) (p : EnG) : sumN L (vis ++ [p]) = sumN L vis + (numsL L p.1).length := by simp [sumN]
/-- partners's loop. -/
structure PtI (J : (Nat → Prop) → List Nat → World → Prop) (N : Nat → Prop) (U : List Nat) (W : World) (nb sb r mb c : Nat) (L : List B4) (i : Nat) (b : B4) (ps vis : List EnG) (V : World) : Prop where
  it : ItG V r mb c vis
  j : ∃ S : List Nat, (∀ x, x ∈ S ↔ x ∈ ptL L i b vis) ∧ S.length ≤ sumN L vis ∧ S.Nodup ∧ J (fun k => N k ∨ k = nb ∨ k = sb ∨ k = r) (U ++ S) V
  eq : ∀ k, N k → V.heap[k]? = W.heap[k]?
  sub : ∀ q ∈ vis, q ∈ ps
  nd : vis.Pairwise (fun p q => p.1 ≠ q.1)
  bx : BxAt V nb 0 b
  sz : V.cell? ⟨sb, 0, none⟩ = some (.int .i64 (szB b).1) ∧ V.cell? ⟨sb, 1, none⟩ = some (.int .i64 (szB b).2)
  ne : r ≠ nb ∧ r ≠ sb ∧ ∀ k, N k → k ≠ r
  lt : r < V.heap.size
def PtPost (J : (Nat → Prop) → List Nat → World → Prop) (N : Nat → Prop) (U : List Nat) (L : List B4) (i : Nat) (W : World) (e : Ending) (w' : World) : Prop :=
  e = .returned (.tuple #[]) ∧ ∃ S : List Nat, (∀ x, x ∈ S ↔ prtP L i x) ∧ S.length ≤ L.length ∧ S.Nodup ∧ J N (U ++ S) w' ∧ ∀ k, N k → w'.heap[k]? = W.heap[k]?
/-- A use bears a change of a loop's own block. -/
structure GrowC (lo : Nat) (J : (Nat → Prop) → List Nat → World → Prop) : Prop where
  g : ∀ {N : Nat → Prop} {U : List Nat} {V : World} {r : Nat} (o : Obj), J N U V → N r → lo ≤ r → (∃ m a b c, V.heap[r]? = some (.mapIter m a b c)) → J N U (setBlock V r o)
theorem ix_box {W0 : World} {B xb : Nat} {R : Nat → Rl} {L : List B4} (h : IxL W0 B xb R L) {i : Nat} (hi : i < L.length) :
    ∃ gq vc, ∀ X : World, (∀ k, k < W0.heap.size → X.heap[k]? = W0.heap[k]?) → X.cell? ⟨xb, 0, none⟩ = some (.slice (some ⟨gq, 0, none⟩) L.length vc) ∧ BxAt X gq (i * 4) (bxA L i) := by
  obtain ⟨vb, c0, r0⟩ := h.c0
  obtain ⟨vp, vc, rfl⟩ := own_len r0.own
  have kc : ∀ {X : World}, (∀ k, k < W0.heap.size → X.heap[k]? = W0.heap[k]?) → ∀ {a : Addr} {v : Value}, W0.cell? a = some v → X.cell? a = some v := fun {X} hX {a v} hc => (World.cell?_of_block (hX _ (World.block_lt_of_cell? W0 _ hc))).trans hc
  rcases r0.own.2 with ⟨_, hz⟩ | ⟨g, c, cur, e, _⟩
  · omega
  · injection e with e1 e2 e3
    subst e1
    obtain ⟨q0, q1, q2, q3⟩ := bxCells_at L i hi
    exact ⟨g, vc, fun X hX => ⟨kc hX c0, kc hX ((r0.own.cellAt (i * 4) (by omega)).trans q0), kc hX ((r0.own.cellAt (i * 4 + 1) (by omega)).trans q1), kc hX ((r0.own.cellAt (i * 4 + 2) (by omega)).trans q2), kc hX ((r0.own.cellAt (i * 4 + 3) (by omega)).trans q3)⟩⟩
theorem PtI.step {J : (Nat → Prop) → List Nat → World → Prop} {N : Nat → Prop} {U : List Nat} {W : World} {nb sb r mb c bd lo : Nat} {F0 : FuncId} {lb : Array Value} {L : List B4} {i : Nat} {b : B4} {ps vis : List EnG} {wr w1 : World} {p : EnG} (C : UseC bd F0 lb J) (G : GrowC lo J) (hlo : lo ≤ r) (h : PtI J N U W nb sb r mb c L i b ps vis wr) (hw : w1 = wr ∨ w1 = wr.drew) :
    ItG (setBlock w1 r (.mapIter (some mb) c ((vis ++ [p]).map (fun p => p.2.2)).toArray c)) r mb c (vis ++ [p]) ∧ (∃ S : List Nat, (∀ x, x ∈ S ↔ x ∈ ptL L i b vis) ∧ S.length ≤ sumN L vis ∧ S.Nodup ∧ J (fun k => N k ∨ k = nb ∨ k = sb ∨ k = r) (U ++ S) (setBlock w1 r (.mapIter (some mb) c ((vis ++ [p]).map (fun p => p.2.2)).toArray c))) ∧ (∀ k, k < wr.heap.size → k ≠ r → (setBlock w1 r (.mapIter (some mb) c ((vis ++ [p]).map (fun p => p.2.2)).toArray c)).heap[k]? = wr.heap[k]?) ∧ wr.heap.size ≤ (setBlock w1 r (.mapIter (some mb) c ((vis ++ [p]).map (fun p => p.2.2)).toArray c)).heap.size := by
  have hb : Below wr.heap.size wr w1 := by
    rcases hw with e | e
    · rw [e]; exact Below.refl _ _
    · rw [e]; exact below_drewW wr
  have hi : w1.heap[r]? = some (.mapIter (some mb) c (vis.map (fun p => p.2.2)).toArray c) := (hb.block r h.lt).trans h.it
  have hg := grown_blockI (.mapIter (some mb) c ((vis ++ [p]).map (fun p => p.2.2)).toArray c) hi
  obtain ⟨S, s1, s2, sn, s3⟩ := h.j
  refine ⟨(set_at _ hi).1, ⟨S, s1, s2, sn, ?_⟩, fun k hk hkr => ((set_at _ hi).2 k hkr).trans (hb.block k hk), Nat.le_trans hb.size hg.size⟩
  exact G.g _ (C.new s3 hb (fun k hk => .inl hk)) (.inr (.inr (.inr rfl))) hlo ⟨_, _, _, _, hi⟩
theorem il_twoS {X : World} {g : Nat} {a b : Int} (h0 : X.cell? ⟨g, 0, none⟩ = some (.int .i64 a)) (h1 : X.cell? ⟨g, 1, none⟩ = some (.int .i64 b)) : IL X X.heap.size (.slice (some ⟨g, 0, none⟩) 2 2) [a, b] := by
  have hg := World.block_lt_of_cell? X _ h0
  refine ⟨_, _, rfl, by simp, fun i hi => ⟨g, 0, rfl, Nat.ne_of_lt hg, ?_⟩⟩
  match i, hi with
  | 0, _ => exact h0
  | 1, _ => exact h1
theorem cmp_two {X : World} {g k : Nat} {s t : I2} (h0 : X.cell? ⟨g, 0, none⟩ = some (.int .i64 s.1)) (h1 : X.cell? ⟨g, 1, none⟩ = some (.int .i64 s.2)) (k0 : X.cell? ⟨k, 0, none⟩ = some (.int .i64 t.1)) (k1 : X.cell? ⟨k, 1, none⟩ = some (.int .i64 t.2)) :
    Calls Try.prog 61 #[.slice (some ⟨g, 0, none⟩) 2 2, .slice (some ⟨k, 0, none⟩) 2 2] X fun e w' => e = .returned (.int .i64 (cmpS s t)) ∧ Below X.heap.size X w' := by
  refine (ocmp_any (il_twoS h0 h1) (il_twoS k0 k1) (by simp) (by simp)).mono ?_
  rintro e w' ⟨h, h2⟩
  exact ⟨h, h2⟩
set_option maxRecDepth 100000 in
set_option maxHeartbeats 4000000 in
theorem partners_any {W0 W : World} {B xb bd lo : Nat} {R : Nat → Rl} {L : List B4} {F0 : FuncId} {lb : Array Value} {J : (Nat → Prop) → List Nat → World → Prop} {U : List Nat} {N : Nat → Prop} (h : IxL W0 B xb R L) (hM : MeetsC W0 B xb R L) (C : UseC bd F0 lb J) (G : GrowC lo J) (hlo : lo ≤ W.heap.size) (h0 : J N U W) (hN : ∀ k, k < W0.heap.size → N k ∧ W.heap[k]? = W0.heap[k]?) (hl : L.length ≤ bd) (hU : U.length + L.length ≤ 90000) (i : Nat) (hi : i < L.length) :
    Calls Try.prog 50 #[.pointer (some ⟨xb, 0, none⟩), .int .i64 (i : Int), .func (.func F0) #[] lb] W (PtPost J N U L i W) := by
  have hmx : Try.prog.follows .mixedOrders = true := by kernel_rfl
  obtain ⟨gq, vc, hBx⟩ := ix_box h hi
  have hx0 := hBx W (fun k hk => (hN k hk).2)
  have x0 := hx0.1
  obtain ⟨q0, q1, q2, q3⟩ := hx0.2
  have hiz : (i : Int) < (L.length : Int) := by omega
  have HFin : Hid (∀ w' (S : List Nat), (∀ x, x ∈ S ↔ prtP L i x) → S.length ≤ L.length → S.Nodup → J N (U ++ S) w' → (∀ k, N k → w'.heap[k]? = W.heap[k]?) → PtPost J N U L i W (.returned (.tuple #[])) w') := Lib.hid (fun w' S a b n c d => ⟨rfl, S, a, b, n, c, d⟩)
  have HI := Lib.hid h
  have HM := Lib.hid hM
  have HC := Lib.hid C
  have HG := Lib.hid G
  have HN := Lib.hid hN
  have H0 := Lib.hid h0
  have HX := Lib.hid hBx
  have HNl : Hid (∀ k, N k → k < W.heap.size) := Lib.hid (C.lt h0)
  clear h hM C G hN h0 hBx hx0
  have HMem : Hid (rgtB (bxA L i) = true → ∀ {ps vis : List EnG}, (∀ p ∈ ps, p ∈ vis) → (∀ s, lkG ps s = none → numsL L s = []) → ∀ j, j ∈ ptL L i (bxA L i) vis ↔ prtP L i j) := Lib.hid (fun hb {ps vis} h2 hn => ptL_mem hb h2 hn)
  have HNo : Hid (rgtB (bxA L i) = false → ∀ j, ¬ prtP L i j) := Lib.hid (fun hb => prt_none hb)
  have HHas : Hid (rgtB (bxA L i) = true → numsL L (szB (bxA L i)) ≠ []) := Lib.hid (fun hb e => by
    have hm : i ∈ numsL L (szB (bxA L i)) := by
      unfold numsL
      rw [List.mem_filter, List.mem_range]
      exact ⟨hi, by unfold ofS; simp [hb]⟩
    rw [e] at hm; cases hm)
  generalize hbe : bxA L i = b at *
  clear hbe
  have HRR : Hid (∀ X, Calls Try.prog 15 #[encB b] X fun e w' => e = .returned (.bool (rgtB b)) ∧ Below X.heap.size X w') := Lib.hid (fun X => rright_any b X)
  cases hb : rgtB b with
  | false =>
    have HNo2 := Lib.hid (HNo.out hb)
    rw [hb] at HRR
    clear HMem HNo HHas
    unfold encB at *
    go_enter Try.func50, Try.ntmps50
    go_wp2_with (go_at_call 15; refine (HRR.out _).mono ?_; rintro e w1 ⟨rfl, hb1⟩; have HB1 := Lib.hid (below_after (below_alloc _ _) hb1); clear hb1)
    go_end0
    exact HFin.out _ [] (fun x => ⟨fun hx => (List.not_mem_nil hx).elim, fun hx => absurd hx (HNo2.out x)⟩) (Nat.zero_le _) .nil (by rw [List.append_nil]; exact HC.out.new H0.out HB1.out (fun k hk => .inl hk)) (fun k hk => HB1.out.block k (HNl.out k hk))
  | true =>
    have HMe := Lib.hid (@fun ps vis => HMem.out hb (ps := ps) (vis := vis))
    have HHs := Lib.hid (HHas.out hb)
    have HSz : Hid (∀ X, Calls Try.prog 48 #[encB b] X fun e w' => e = .returned (enc2 (szB b)) ∧ Below X.heap.size X w') := Lib.hid (fun X => sizeof_any b hb X)
    rw [hb] at HRR
    clear HMem HNo HHas
    unfold encB enc2 at *
    go_enter Try.func50, Try.ntmps50
    go_upto_region 3 with (first | (go_at_call 15; refine (HRR.out _).mono ?_; rintro e w1 ⟨rfl, hb1⟩; have HB1 := Lib.hid hb1; have k0 := cell_later hb1 (v := .int .i64 b.1) (a := ⟨W.heap.size, 0, none⟩) (by go_simp); have k1 := cell_later hb1 (v := .int .i64 b.2.1) (a := ⟨W.heap.size, 1, none⟩) (by go_simp); have k2 := cell_later hb1 (v := .int .i64 b.2.2.1) (a := ⟨W.heap.size, 2, none⟩) (by go_simp); have k3 := cell_later hb1 (v := .int .i64 b.2.2.2) (a := ⟨W.heap.size, 3, none⟩) (by go_simp); clear hb1) | (go_at_call 48; refine (HSz.out _).mono ?_; rintro e w2 ⟨rfl, hb2⟩; have HB2 := Lib.hid hb2; clear hb2) | fail)
    have HBW : Hid (Below W.heap.size W (w2.alloc (.cells #[.int .i64 (szB b).1, .int .i64 (szB b).2] 91))) := Lib.hid (below_after (below_after (below_after (below_alloc _ _) HB1.out) HB2.out) (below_alloc _ _))
    have hsb : W.heap.size < w2.heap.size := by have := HB1.out.size; have := HB2.out.size; simp at *; omega
    have HBx : Hid (BxAt (w2.alloc (.cells #[.int .i64 (szB b).1, .int .i64 (szB b).2] 91)) W.heap.size 0 b) := Lib.hid ((BxAt.keep ⟨k0, k1, k2, k3⟩ HB2.out).keep (below_alloc _ _))
    have HZc : Hid ((w2.alloc (.cells #[.int .i64 (szB b).1, .int .i64 (szB b).2] 91)).cell? ⟨w2.heap.size, 0, none⟩ = some (.int .i64 (szB b).1) ∧ (w2.alloc (.cells #[.int .i64 (szB b).1, .int .i64 (szB b).2] 91)).cell? ⟨w2.heap.size, 1, none⟩ = some (.int .i64 (szB b).2)) := Lib.hid ⟨by go_simp, by go_simp⟩
    have hsV : w2.heap.size < (w2.alloc (.cells #[.int .i64 (szB b).1, .int .i64 (szB b).2] 91)).heap.size := by simp
    clear k0 k1 k2 k3 HB1 HB2 x0 q0 q1 q2 q3 HRR HSz
    generalize w2.alloc (.cells #[.int .i64 (szB b).1, .int .i64 (szB b).2] 91) = V at *
    generalize w2.heap.size = sb at *
    have HVN : Hid (∀ k, k < W0.heap.size → V.heap[k]? = W0.heap[k]?) := Lib.hid (fun k hk => (HBW.out.block k (HNl.out k (HN.out k hk).1)).trans (HN.out k hk).2)
    have HJ : Hid (J (fun k => N k ∨ k = W.heap.size ∨ k = sb) U V) := Lib.hid (HC.out.new H0.out HBW.out (fun k hk => by
      rcases hk with hk | hk | hk
      · exact .inl hk
      · exact .inr ⟨by omega, by omega⟩
      · exact .inr ⟨by omega, by omega⟩))
    rcases HI.out.c1 with ⟨_, hA⟩ | ⟨mb, ps, c, c1W, hr, hmB, hmW, hg, hn⟩
    · exact absurd (hA (szB b)).1 HHs.out
    · have c1 : V.cell? ⟨xb, 1, none⟩ = some (.map (some mb)) := (World.cell?_of_block (HVN.out _ (World.block_lt_of_cell? W0 _ c1W))).trans c1W
      have hm := hmW.of (HVN.out mb hmW.size)
      obtain ⟨V1, run1, hit, hb1, hs1⟩ := run_rangeG (mt := 86) Try.underlying86 hm
      have HF0 : Hid (PtI J N U W W.heap.size sb V.heap.size mb c L i b ps [] V1) := Lib.hid (by
        refine ⟨hit, ⟨[], fun x => Iff.rfl, Nat.zero_le _, .nil, ?_⟩, fun k hk => (hb1.block k (by have := HNl.out k hk; omega)).trans (HBW.out.block k (HNl.out k hk)), (fun q hq => by cases hq), .nil, HBx.out.keep hb1, ⟨cell_later hb1 HZc.out.1, cell_later hb1 HZc.out.2⟩, ⟨by omega, by omega, fun k hk e => by have := HNl.out k hk; omega⟩, by omega⟩
        rw [List.append_nil]
        refine HC.out.new HJ.out hb1 (fun k hk => ?_)
        rcases hk with hk | hk | hk | hk
        · exact .inl (.inl hk)
        · exact .inl (.inr (.inl hk))
        · exact .inl (.inr (.inr hk))
        · exact .inr ⟨by omega, by omega⟩)
      have hloV : lo ≤ V.heap.size := by have := HBW.out.size; omega
      have hne : V.heap.size ≠ W.heap.size ∧ V.heap.size ≠ sb := ⟨by omega, by omega⟩
      have HMW := Lib.hid hmW
      have HGr := Lib.hid hg
      have HNn := Lib.hid (fun s h => (hn s h).1)
      clear hm hmW hg hn hit hb1 hs1 hr hmB HJ HBx HZc hsb
      go_wp2_with fail
      clear run1 c1 HBW
      generalize V.heap.size = r at *
      generalize hnbe : W.heap.size = nb at *
      go_loopg [9] (lftN ps []) (fun gk x7 wx => ∃ vis, lftN ps vis ≤ gk ∧ Hid (PtI J N U W nb sb r mb c L i b ps vis wx))
      case atStart => exact ⟨[], Nat.le_refl _, HF0⟩
      case round =>
        obtain ⟨vis, hgk, HS⟩ := hrel
        clear HF0
        have HWr : Hid (∀ k, k < W0.heap.size → wr.heap[k]? = W0.heap[k]?) := Lib.hid (fun k hk => (HS.out.eq k (HN.out k hk).1).trans (HN.out k hk).2)
        have hmr : MapG wr mb ps c := HMW.out.of (HWr.out mb HMW.out.size)
        rcases run_nextG hmr HS.out.it 0 with ⟨hall, hrun⟩ | ⟨p, hp, hnew, w2, hw2, hrun⟩
        · have hv : ∀ p ∈ ps, p ∈ vis := fun p hp => by
            obtain ⟨q, hq, e⟩ := hall p hp
            rw [← born_eq HMW.out.bd (HS.out.sub q hq) hp e]
            exact hq
          obtain ⟨S, s1, s2, sn, s3⟩ := HS.out.j
          have HF := Lib.hid (HFin.out wr S (fun x => (s1 x).trans (HMe.out ps vis hv HNn.out x)) (Nat.le_trans s2 (fnd_sum vis HS.out.nd L.length L rfl)) sn (HC.out.new s3 (Below.refl _ _) (fun k hk => .inl (.inl hk))) HS.out.eq)
          clear hmr hall hv s1 s2 s3 HS HMW HGr HNn HWr
          go_wp2_with fail
          go_end0
          exact HF.out
        · cases gk with
          | zero => have := lftN_lt hp hnew; omega
          | succ gr =>
            have hgr : lftN ps (vis ++ [p]) ≤ gr := by have := lftN_lt hp hnew; omega
            have hlr : lo ≤ r := hloV
            obtain ⟨hit2, hj2, hbk2, hsz2⟩ := HS.out.step (p := p) HC.out HG.out hlr hw2
            have HIt2 := Lib.hid hit2
            have HJ2 := Lib.hid hj2
            have hmlt : mb < wr.heap.size := hmr.size
            have hmne : mb ≠ r := HS.out.ne.2.2 mb (HN.out mb HMW.out.size).1
            have hm2 : MapG (setBlock w2 r (.mapIter (some mb) c ((vis ++ [p]).map (fun p => p.2.2)).toArray c)) mb ps c := hmr.of (hbk2 mb hmlt hmne)
            have hen := run_entryIt hm2 hp hit2
            have HB2 := Lib.hid hbk2
            have HNr : Hid (∀ k, N k → k < wr.heap.size ∧ k ≠ r) := Lib.hid (fun k hk => by
              obtain ⟨S, s1, s2, sn, s3⟩ := HS.out.j
              exact ⟨HC.out.lt s3 k (.inl hk), HS.out.ne.2.2 k hk⟩)
            have hnr : nb ≠ r ∧ nb < wr.heap.size ∧ sb ≠ r ∧ sb < wr.heap.size := ⟨fun e => HS.out.ne.1 e.symm, World.block_lt_of_cell? wr _ HS.out.bx.1, fun e => HS.out.ne.2.1 e.symm, World.block_lt_of_cell? wr _ HS.out.sz.1⟩
            clear hmr hit2 hj2 hbk2 hm2 hmlt hmne hsz2
            obtain ⟨gb, hpe, hgr0⟩ := HGr.out p hp
            have HGb := Lib.hid hgr0
            rw [hpe] at hrun hen
            have HSub : Hid (∀ q ∈ vis ++ [p], q ∈ ps) := Lib.hid (fun q hq => by
              rcases List.mem_append.1 hq with hq | hq
              · exact HS.out.sub q hq
              · rw [List.mem_singleton] at hq; subst hq; exact hp)
            have HNd : Hid ((vis ++ [p]).Pairwise (fun p q => p.1 ≠ q.1)) := Lib.hid (by
              rw [List.pairwise_append]
              refine ⟨HS.out.nd, List.pairwise_singleton _ _, fun q hq x hx => ?_⟩
              rw [List.mem_singleton] at hx
              subst hx
              intro e
              exact hnew q hq (by
                have hqp : q = x := key_eq HMW.out.nd (HS.out.sub q hq) hp e
                rw [hqp]))
            have HLn : Hid (sumN L vis + (numsL L p.1).length ≤ L.length) := Lib.hid (by
              have h1 := fnd_sum (vis ++ [p]) HNd.out L.length L rfl
              have h2 := sumN_snoc L vis p
              unfold sumN at *
              omega)
            clear hnew hgr0 hw2 hpe
            generalize hV2 : setBlock w2 r (.mapIter (some mb) c ((vis ++ [p]).map (fun p => p.2.2)).toArray c) = V2 at *
            clear hV2
            obtain ⟨s, v0, n0⟩ := p
            simp only at *
            have b0 : BxAt V2 nb 0 b := by
              have e := HB2.out nb hnr.2.1 hnr.1
              have h := HS.out.bx
              exact ⟨(World.cell?_of_block e).trans h.1, (World.cell?_of_block e).trans h.2.1, (World.cell?_of_block e).trans h.2.2.1, (World.cell?_of_block e).trans h.2.2.2⟩
            have z0 : V2.cell? ⟨sb, 0, none⟩ = some (.int .i64 (szB b).1) ∧ V2.cell? ⟨sb, 1, none⟩ = some (.int .i64 (szB b).2) := by
              have e := HB2.out sb hnr.2.2.2 hnr.2.2.1
              have h := HS.out.sz
              exact ⟨(World.cell?_of_block e).trans h.1, (World.cell?_of_block e).trans h.2⟩
            have HCm : Hid (∀ X, Below (V2.alloc (.cells #[.int .i64 s.1, .int .i64 s.2] 91)).heap.size (V2.alloc (.cells #[.int .i64 s.1, .int .i64 s.2] 91)) X → Calls Try.prog 61 #[.slice (some ⟨sb, 0, none⟩) 2 2, .slice (some ⟨V2.heap.size, 0, none⟩) 2 2] X fun e w' => e = .returned (.int .i64 (cmpS (szB b) s)) ∧ Below V2.heap.size V2 w') := Lib.hid (fun X hX => by
              refine (cmp_two (s := szB b) (t := s) (cell_later hX (cell_later (below_alloc _ _) z0.1)) (cell_later hX (cell_later (below_alloc _ _) z0.2)) (cell_later hX (by go_simp)) (cell_later hX (by go_simp))).mono ?_
              rintro e w' ⟨h1, h2⟩
              exact ⟨h1, below_after (below_after (below_alloc _ _) hX) h2⟩)
            have HBx2 := Lib.hid b0
            have HZ2 := Lib.hid z0
            clear b0 z0
            unfold enc2 at hrun hen
            go_upto_region 6 with fail
            refine wp_region_held_drew (S := (fun X : World => True)) (by kernel_rfl) trivial (fun hHeld => ?_)
            refine wpAnyH_take (i := 0) (oi := { dst := some 32, op := Op.slice 91 (Operand.tmp 7) none none none, type := 48, pos := "index.go:113", after := #[], guard := none }) (v := ?_) rfl (by kernel_rfl) (by kernel_rfl) (by kernel_rfl) (fun _ _ _ h => h) (Or.inl ⟨by rfl, ?_⟩) (by with_reducible assumption) ?_
            rotate_left
            focus (intro wS hSw; (try dsimp only at hSw); go_simp <;> with_reducible rfl)
            try go_frame
            refine wpAnyH_take (i := 1) (oi := { dst := some 33, op := Op.slice 91 (Operand.tmp 8) none none none, type := 48, pos := "index.go:113", after := #[], guard := none }) (v := ?_) rfl (by kernel_rfl) (by kernel_rfl) (by kernel_rfl) (fun _ _ _ h => h) (Or.inl ⟨by rfl, ?_⟩) (by with_reducible assumption) ?_
            rotate_left
            focus (intro wS hSw; (try dsimp only at hSw); go_simp <;> with_reducible rfl)
            try go_frame
            refine wpAnyH_ready (rs := [2]) (by kernel_rfl) (by simp) ?_
            refine AllReadyH.cons (i := 2) (o := { dst := some 34, op := Op.call { callee := Callee.value (Operand.func 61), args := #[Operand.tmp 32, Operand.tmp 33], argTypes := #[48, 48] }, type := 3, pos := "index.go:113", after := #[{ on := 0, ground := Ground.data }, { on := 1, ground := Ground.data }], guard := none }) rfl (fun K hK => ?_) AllReadyH.nil
            go_simp
            go_at_call 61
            refine (HCm.out _ (below_drewW _)).mono ?_
            rintro e w4 ⟨rfl, hb4⟩
            have HB4 := Lib.hid hb4
            clear hb4
            refine hK.out _ _ trivial (fun hHeld => ?_)
            clear hK K
            try go_frame
            refine wpAnyH_done (by kernel_rfl) ?_ _
            have HJ4 : Hid (∃ S : List Nat, (∀ x, x ∈ S ↔ x ∈ ptL L i b vis) ∧ S.length ≤ sumN L vis ∧ S.Nodup ∧ J (fun k => N k ∨ k = nb ∨ k = sb ∨ k = r) (U ++ S) w4) := Lib.hid (by
              obtain ⟨S, s1, s2, sn, s3⟩ := HJ2.out
              exact ⟨S, s1, s2, sn, HC.out.new s3 HB4.out (fun k hk => .inl hk)⟩)
            obtain ⟨S, s1, s2, sn, s3⟩ := HJ4.out
            have hNl2 : ∀ k, (N k ∨ k = nb ∨ k = sb ∨ k = r) → w4.heap[k]? = V2.heap[k]? := fun k hk => by
              obtain ⟨S', _, _, _, s3'⟩ := HJ2.out
              exact HB4.out.block k (HC.out.lt s3' k hk)
            have HNx : Hid (∀ w9 S2, (∀ x, x ∈ S2 ↔ x ∈ ptG L i b s) → S2.length ≤ (numsL L s).length → S2.Nodup → J (fun k => N k ∨ k = nb ∨ k = sb ∨ k = r) (U ++ S ++ S2) w9 → (∀ k, (N k ∨ k = nb ∨ k = sb ∨ k = r) → w9.heap[k]? = w4.heap[k]?) → PtI J N U W nb sb r mb c L i b ps (vis ++ [(s, v0, n0)]) w9) := Lib.hid (fun w9 S2 g1 g2 gn g3 g4 => by
              have e9 : ∀ k, (N k ∨ k = nb ∨ k = sb ∨ k = r) → w9.heap[k]? = V2.heap[k]? := fun k hk => (g4 k hk).trans (hNl2 k hk)
              have en := e9 nb (.inr (.inl rfl))
              have es := e9 sb (.inr (.inr (.inl rfl)))
              refine ⟨HIt2.out.of (e9 r (.inr (.inr (.inr rfl)))), ⟨S ++ S2, fun x => ?_, ?_, ?_, ?_⟩, fun k hk => ?_, HSub.out, HNd.out, ?_, ?_, HS.out.ne, HC.out.lt g3 r (.inr (.inr (.inr rfl)))⟩
              · rw [ptL_snoc, List.mem_append, List.mem_append, s1 x, g1 x]
              · rw [sumN_snoc, List.length_append]; exact Nat.add_le_add s2 g2
              · rw [List.nodup_append]
                refine ⟨sn, gn, fun x hx y hy e => ?_⟩
                subst e
                obtain ⟨q, hq, hxq⟩ := List.mem_flatMap.1 ((s1 x).1 hx)
                have h1 := ptG_of hxq
                have h2 := ptG_of ((g1 x).1 hy)
                have hd := HNd.out
                rw [List.pairwise_append] at hd
                exact hd.2.2 q hq _ List.mem_cons_self (h1.symm.trans h2)
              · rw [← List.append_assoc]; exact g3
              · exact (e9 k (.inl hk)).trans ((HB2.out k (HNr.out k hk).1 (HNr.out k hk).2).trans (HS.out.eq k hk))
              · exact ⟨(World.cell?_of_block en).trans HBx2.out.1, (World.cell?_of_block en).trans HBx2.out.2.1, (World.cell?_of_block en).trans HBx2.out.2.2.1, (World.cell?_of_block en).trans HBx2.out.2.2.2⟩
              · exact ⟨(World.cell?_of_block es).trans HZ2.out.1, (World.cell?_of_block es).trans HZ2.out.2⟩)
            have HN4 : Hid (∀ k, k < W0.heap.size → (N k ∨ k = nb ∨ k = sb ∨ k = r) ∧ w4.heap[k]? = W0.heap[k]?) := Lib.hid (fun k hk => ⟨.inl (HN.out k hk).1, (hNl2 k (.inl (HN.out k hk).1)).trans ((HB2.out k (HNr.out k (HN.out k hk).1).1 (HNr.out k (HN.out k hk).1).2).trans (HWr.out k hk))⟩)
            have HMt : Hid (∀ (X : World) (below : Int), Below w4.heap.size w4 X → Calls Try.prog 54 #[.pointer (some ⟨xb, 0, none⟩), .agg #[.int .i64 b.1, .int .i64 b.2.1, .int .i64 b.2.2.1, .int .i64 b.2.2.2], .pointer (some ⟨gb, 0, none⟩), .int .i64 below, .func (.func F0) #[] lb] X (fun e w' => e = .returned (.tuple #[]) ∧ ∃ S2 : List Nat, (∀ i, i ∈ S2 ↔ i ∈ selA L b below (numsL L s)) ∧ S2.length ≤ (numsL L s).length ∧ S2.Nodup ∧ J (fun k => N k ∨ k = nb ∨ k = sb ∨ k = r) (U ++ S ++ S2) w' ∧ ∀ k, (N k ∨ k = nb ∨ k = sb ∨ k = r) → w'.heap[k]? = w4.heap[k]?)) := Lib.hid (fun X below hX => by
              have hk4 : ∀ k, (N k ∨ k = nb ∨ k = sb ∨ k = r) → X.heap[k]? = w4.heap[k]? := fun k hk => hX.block k (HC.out.lt s3 k hk)
              refine (HM.out.m HGb.out HC.out (HC.out.new s3 hX (fun k hk => .inl hk)) (fun k hk => ⟨(HN4.out k hk).1, (hk4 k (HN4.out k hk).1).trans (HN4.out k hk).2⟩) hl (by rw [List.length_append]; have := HLn.out; omega) b hb below).mono ?_
              rintro e w' ⟨h1, S2, h2, h3, hn, h4, h5⟩
              exact ⟨h1, S2, h2, h3, hn, h4, fun k hk => (h5 k hk).trans (hk4 k hk)⟩)
            have HJn := Lib.hid s3
            have HBx4 : Hid (BxAt w4 nb 0 b ∧ w4.cell? ⟨xb, 0, none⟩ = some (.slice (some ⟨gq, 0, none⟩) L.length vc)) := Lib.hid ⟨HBx2.out.keep HB4.out, (HX.out w4 (fun k hk => (HN4.out k hk).2)).1⟩
            clear s1 s2 sn s3 HJ4 HJ2 hNl2 HB2 HIt2 HBx2 HZ2 HS HNr HWr HSub HNd HLn HCm HN4 HGb
            rcases cmpS_cases (szB b) s with hc | hc | hc
            · have HPt : Hid (ptG L i b s = selA L b (L.length : Int) (numsL L s)) := Lib.hid (by unfold ptG; rw [if_pos hc])
              rw [hc]
              go_upto_region 8 with fail
              have HSd : Hid (w4.drew.cell? ⟨xb, 0, none⟩ = some (.slice (some ⟨gq, 0, none⟩) L.length vc) ∧ w4.drew.cell? ⟨nb, 0, none⟩ = some (.int .i64 b.1) ∧ w4.drew.cell? ⟨nb, 1, none⟩ = some (.int .i64 b.2.1) ∧ w4.drew.cell? ⟨nb, 2, none⟩ = some (.int .i64 b.2.2.1) ∧ w4.drew.cell? ⟨nb, 3, none⟩ = some (.int .i64 b.2.2.2)) := Lib.hid ⟨HBx4.out.2, HBx4.out.1.1, HBx4.out.1.2.1, HBx4.out.1.2.2.1, HBx4.out.1.2.2.2⟩
              refine wp_region_held_drew (S := (fun X : World => X.cell? ⟨xb, 0, none⟩ = some (.slice (some ⟨gq, 0, none⟩) L.length vc) ∧ X.cell? ⟨nb, 0, none⟩ = some (.int .i64 b.1) ∧ X.cell? ⟨nb, 1, none⟩ = some (.int .i64 b.2.1) ∧ X.cell? ⟨nb, 2, none⟩ = some (.int .i64 b.2.2.1) ∧ X.cell? ⟨nb, 3, none⟩ = some (.int .i64 b.2.2.2))) (by kernel_rfl) HSd.out (fun hHeld => ?_)
              clear HSd
              refine wpAnyH_take (i := 0) (oi := { dst := some 37, op := Op.move (Operand.tmp 0), type := 44, pos := "index.go:115", after := #[], guard := none }) (v := ?_) rfl (by kernel_rfl) (by kernel_rfl) (by kernel_rfl) (fun _ _ _ h => h) (Or.inl ⟨by rfl, ?_⟩) (by with_reducible assumption) ?_
              rotate_left
              focus (intro wS hSw; (try dsimp only at hSw); go_simp <;> with_reducible rfl)
              try go_frame
              refine wpAnyH_take (i := 1) (oi := { dst := some 38, op := Op.load 25 (Operand.tmp 6), type := 25, pos := "index.go:115", after := #[], guard := none }) (v := ?_) rfl (by kernel_rfl) (by kernel_rfl) (by kernel_rfl) (fun _ _ _ h => h) (Or.inl ⟨by rfl, ?_⟩) (by with_reducible assumption) ?_
              rotate_left
              focus (intro wS hSw; (try dsimp only at hSw); go_simp <;> with_reducible rfl)
              try go_frame
              refine wpAnyH_take (i := 2) (oi := { dst := some 39, op := Op.move (Operand.tmp 9), type := 89, pos := "index.go:115", after := #[], guard := none }) (v := ?_) rfl (by kernel_rfl) (by kernel_rfl) (by kernel_rfl) (fun _ _ _ h => h) (Or.inl ⟨by rfl, ?_⟩) (by with_reducible assumption) ?_
              rotate_left
              focus (intro wS hSw; (try dsimp only at hSw); go_simp <;> with_reducible rfl)
              try go_frame
              refine wpAnyH_take (i := 3) (oi := { dst := some 40, op := Op.move (Operand.tmp 0), type := 44, pos := "index.go:115", after := #[], guard := none }) (v := ?_) rfl (by kernel_rfl) (by kernel_rfl) (by kernel_rfl) (fun _ _ _ h => h) (Or.inl ⟨by rfl, ?_⟩) (by with_reducible assumption) ?_
              rotate_left
              focus (intro wS hSw; (try dsimp only at hSw); go_simp <;> with_reducible rfl)
              try go_frame
              refine wpAnyH_take (i := 4) (oi := { dst := some 41, op := Op.nilCheck (Operand.tmp 40), type := 0, pos := "index.go:115", after := #[{ on := 3, ground := Ground.data }], guard := none }) (v := ?_) rfl (by kernel_rfl) (by kernel_rfl) (by kernel_rfl) (fun _ _ _ h => h) (Or.inl ⟨by rfl, ?_⟩) (by with_reducible assumption) ?_
              rotate_left
              focus (intro wS hSw; (try dsimp only at hSw); go_simp <;> with_reducible rfl)
              try go_frame
              refine wpAnyH_take (i := 5) (oi := { dst := some 42, op := Op.fieldAddr 88 (Operand.tmp 41) 0, type := 0, pos := "index.go:115", after := #[{ on := 4, ground := Ground.data }], guard := none }) (v := ?_) rfl (by kernel_rfl) (by kernel_rfl) (by kernel_rfl) (fun _ _ _ h => h) (Or.inl ⟨by rfl, ?_⟩) (by with_reducible assumption) ?_
              rotate_left
              focus (intro wS hSw; (try dsimp only at hSw); go_simp <;> with_reducible rfl)
              try go_frame
              refine wpAnyH_take (i := 6) (oi := { dst := some 43, op := Op.load 42 (Operand.tmp 42), type := 42, pos := "index.go:115", after := #[{ on := 5, ground := Ground.data }], guard := none }) (v := ?_) rfl (by kernel_rfl) (by kernel_rfl) (by kernel_rfl) (fun _ _ _ h => h) (Or.inl ⟨by rfl, ?_⟩) (by with_reducible assumption) ?_
              rotate_left
              focus (intro wS hSw; (try dsimp only at hSw); go_simp <;> with_reducible rfl)
              try go_frame
              refine wpAnyH_take (i := 7) (oi := { dst := some 44, op := Op.call { callee := Callee.builtin Builtin.len, args := #[Operand.tmp 43], argTypes := #[42] }, type := 3, pos := "index.go:115", after := #[{ on := 6, ground := Ground.data }], guard := none }) (v := ?_) rfl (by kernel_rfl) (by kernel_rfl) (by kernel_rfl) (fun _ _ _ h => h) (Or.inl ⟨by rfl, ?_⟩) (by with_reducible assumption) ?_
              rotate_left
              focus (intro wS hSw; (try dsimp only at hSw); go_simp <;> with_reducible rfl)
              try go_frame
              refine wpAnyH_take (i := 8) (oi := { dst := some 45, op := Op.move (Operand.tmp 2), type := 96, pos := "index.go:115", after := #[], guard := none }) (v := ?_) rfl (by kernel_rfl) (by kernel_rfl) (by kernel_rfl) (fun _ _ _ h => h) (Or.inl ⟨by rfl, ?_⟩) (by with_reducible assumption) ?_
              rotate_left
              focus (intro wS hSw; (try dsimp only at hSw); go_simp <;> with_reducible rfl)
              try go_frame
              refine wpAnyH_ready (rs := [9]) (by kernel_rfl) (by simp) ?_
              refine AllReadyH.cons (i := 9) (o := { dst := some 46, op := Op.call { callee := Callee.value (Operand.func 54), args := #[Operand.tmp 37, Operand.tmp 38, Operand.tmp 39, Operand.tmp 44, Operand.tmp 45], argTypes := #[44, 25, 89, 3, 96] }, type := 0, pos := "index.go:115", after := #[{ on := 0, ground := Ground.data }, { on := 1, ground := Ground.data }, { on := 2, ground := Ground.data }, { on := 7, ground := Ground.data }, { on := 8, ground := Ground.data }], guard := none }) rfl (fun K hK => ?_) AllReadyH.nil
              go_simp
              go_at_call 54
              refine (HMt.out _ _ (below_drewW _)).mono ?_
              rintro e w9 ⟨rfl, S2, g1, g2, gn, g3, g4⟩
              have HS2 := Lib.hid (HNx.out w9 S2 (fun x => (g1 x).trans (by rw [HPt.out])) g2 gn g3 g4)
              have HX2 : Hid (BxAt w9 nb 0 b ∧ w9.cell? ⟨xb, 0, none⟩ = some (.slice (some ⟨gq, 0, none⟩) L.length vc)) := Lib.hid ⟨HS2.out.bx, (HX.out w9 (fun k hk => (HS2.out.eq k (HN.out k hk).1).trans (HN.out k hk).2)).1⟩
              clear g1 g2 gn g3 g4
              refine hK.out _ _ ⟨HX2.out.2, HX2.out.1.1, HX2.out.1.2.1, HX2.out.1.2.2.1, HX2.out.1.2.2.2⟩ (fun hHeld => ?_)
              clear hK K
              try go_frame
              refine wpAnyH_done (by kernel_rfl) ?_ _
              go_wp2_with fail
              go_roundg gr
              case measure => omega
              case rel => exact ⟨vis ++ [(s, v0, n0)], by omega, HS2⟩
            · have HPt : Hid (ptG L i b s = selA L b (i : Int) (numsL L s)) := Lib.hid (by unfold ptG; rw [if_neg (by rw [hc]; decide), if_pos hc])
              rw [hc]
              have b0 := HBx4.out.1.1
              have b1 := HBx4.out.1.2.1
              have b2 := HBx4.out.1.2.2.1
              have b3 := HBx4.out.1.2.2.2
              go_wp2_with (go_at_call 54; refine (HMt.out _ _ (Below.refl _ _)).mono ?_; rintro e w9 ⟨rfl, S2, g1, g2, gn, g3, g4⟩; have HS2 := Lib.hid (HNx.out w9 S2 (fun x => (g1 x).trans (by rw [HPt.out])) g2 gn g3 g4); clear g1 g2 gn g3 g4)
              go_roundg gr
              case measure => omega
              case rel => exact ⟨vis ++ [(s, v0, n0)], by omega, HS2⟩
            · have HPt : Hid (ptG L i b s = []) := Lib.hid (by unfold ptG; rw [if_neg (by rw [hc]; decide), if_neg (by rw [hc]; decide)])
              rw [hc]
              have HS2 := Lib.hid (HNx.out w4 [] (fun x => by rw [HPt.out]) (Nat.zero_le _) .nil (by rw [List.append_nil]; exact HJn.out) (fun _ _ => rfl))
              go_wp2_with fail
              go_roundg gr
              case measure => omega
              case rel => exact ⟨vis ++ [(s, v0, n0)], by omega, HS2⟩
end Go.Proofs.Ytenfaejdnphngaa

namespace Go.Proofs.Ytenfaejdnphngaa
open Go.RowKit Go.Sort

set_option maxRecDepth 100000 in
set_option maxHeartbeats 4000000 in
theorem icompact_own {w : World} {B : Nat} {v : Value} {L : List Int} (h : w.ownsRow B 3 1 v L.length (icells L)) (hL : L.length ≤ 1000) :
    Calls Try.prog 62 #[v] w fun e w' => ∃ u, e = .returned u ∧ (IL w' w'.heap.size u (thI (nA L) L.length) ∧ ∀ k, u.ownBlock = some k → B ≤ k) ∧ Below B w w' := by
  have hmx : Try.prog.follows .mixedOrders = true := by kernel_rfl
  rcases id h.2 with ⟨rfl, hz⟩ | ⟨g, cap, _, rfl, _, _, hcap, hmax, _, _⟩
  · obtain rfl : L = [] := List.eq_nil_of_length_eq_zero hz
    clear h hz
    go_enter Try.func62, Try.ntmps62
    go_wp2_with fail
    go_ret
    exact ⟨.slice none 0 0, rfl, ⟨IL.nil _ _ _ _, fun k hk => by cases hk⟩, Below.refl _ _⟩
  · have HR := Lib.hid (own_rw1 h)
    clear h
    have HOb : Hid (∀ (n : Nat) (k : Nat), (Value.slice (some ⟨g, 0, none⟩) n cap).ownBlock = some k → B ≤ k) := Lib.hid (fun n k hk => by cases hk; exact HR.out.base)
    by_cases h2 : L.length < 2
    · have hlz : (L.length : Int) < 2 := by omega
      have HF : Hid (IL w w.heap.size (.slice (some ⟨g, 0, none⟩) L.length cap) (thI (nA L) L.length)) := Lib.hid (by
        rw [thI_nd _ _ (fun i h3 h4 => by omega), rangeI_all]
        exact HR.out.il hcap)
      go_enter Try.func62, Try.ntmps62
      go_wp2_with fail
      go_ret
      exact ⟨_, rfl, ⟨HF.out, HOb.out _⟩, Below.refl _ _⟩
    · have hlz : ¬ (L.length : Int) < 2 := by omega
      go_enter Try.func62, Try.ntmps62
      go_wp2_with fail
      go_loopg [3] (L.length - 1) (fun gk i wx => ∃ k : Nat, 1 ≤ k ∧ k + gk = L.length ∧ i = .int .i64 (k : Int) ∧ Hid (ndI (nA L) k) ∧ Hid (Rw1 wx B g L.length (nA L) ∧ Below B w wx))
      case atStart => exact ⟨1, by omega, by omega, rfl, Lib.hid (fun i h3 h4 => by omega), Lib.hid ⟨HR.out, Below.refl _ _⟩⟩
      case round =>
        obtain ⟨k, hk1, hkg, rfl, HN, HB⟩ := hrel
        cases gk with
        | zero =>
          have hkz : ¬ ((k : Int) < (L.length : Int)) := by omega
          have HF : Hid (IL wr wr.heap.size (.slice (some ⟨g, 0, none⟩) L.length cap) (thI (nA L) L.length)) := Lib.hid (by
            rw [thI_nd _ _ (by have h := HN.out; rw [show k = L.length from by omega] at h; exact h), rangeI_all]
            exact HB.out.1.il hcap)
          go_wp2_with fail
          go_ret
          exact ⟨_, rfl, ⟨HF.out, HOb.out _⟩, HB.out.2⟩
        | succ gr =>
          have hkz : (k : Int) < (L.length : Int) := by omega
          have hkn : k < L.length := by omega
          have c0 := HB.out.1.c k hkn
          have d0 := HB.out.1.c (k - 1) (by omega)
          have x1 : IntKind.i64.wrap ((k : Int) - 1) = ((k - 1 : Nat) : Int) := by rw [show (k : Int) - 1 = ((k - 1 : Nat) : Int) from by omega]; exact IntWalk.i64_in _ (by omega)
          have hjz : ((k - 1 : Nat) : Int) < (L.length : Int) := by omega
          have HE : Hid ((nA L k == nA L (k - 1)) = true ↔ nA L k = nA L (k - 1)) := Lib.hid beq_iff_eq
          generalize hpk : nA L k = p1 at *
          generalize hqk : nA L (k - 1) = q1 at *
          have HPk := Lib.hid hpk
          have HQk := Lib.hid hqk
          clear hpk hqk
          generalize heb : (p1 == q1) = eb at *
          generalize hj : k - 1 = j at *
          have HJ := Lib.hid hj
          clear hj
          cases eb
          · have HN2 : Hid (ndI (nA L) (k + 1)) := Lib.hid (fun i h3 h4 => by
              by_cases e : i = k
              · subst e; intro h5; rw [HPk.out, HJ.out, HQk.out] at h5; have := HE.out.2 h5; cases this
              · exact HN.out i h3 (by omega))
            have HB2 : Hid (Rw1 wr.drew B g L.length (nA L) ∧ Below B w wr.drew) := Lib.hid ⟨HB.out.1.drew, HB.out.2.drew⟩
            go_wp2_with fail
            go_big_region
            go_wp2_with fail
            go_roundg gr
            case measure => omega
            case rel => exact ⟨k + 1, by omega, by omega, by go_num, HN2, HB2⟩
          · have HC : Hid (CpI w wr.drew B g L.length (nA L) (k + 1) ∧ (thI (nA L) (k + 1)).length = k) := Lib.hid (by
              have e1 : nA L k = nA L (k - 1) := by rw [HPk.out, HJ.out, HQk.out]; exact HE.out.1 rfl
              have e2 : thI (nA L) (k + 1) = (List.range k).map (nA L) := by
                rw [thI_no _ (fun h => by rcases h with h | h; omega; exact h e1), thI_nd _ _ HN.out]
              have e3 : (thI (nA L) (k + 1)).length = k := by rw [e2, List.length_map, List.length_range]
              refine ⟨⟨⟨nA L, HB.out.1.drew, ?_, fun _ _ _ => rfl⟩, by rw [e3]; omega, HB.out.2.drew⟩, e3⟩
              intro j hj
              rw [e3] at hj
              have h5 : ((List.range k).map (nA L)).length = k := by rw [List.length_map, List.length_range]
              rw [e2, nA_at (L := (List.range k).map (nA L)) (by omega)]
              simp)
            have y1 : (k : Int) ≤ (cap : Int) := by omega
            have y3 : ¬ k = cap := by omega
            have y4 : ¬ cap = k := by omega
            have y5 : ¬ cap - k = 0 := by omega
            go_wp2_with fail
            go_big_region
            clear c0 d0 x1 hjz heb HE HB HN HPk HQk
            go_wp2_with fail
            go_loopg [3, 5] (L.length - k - 1) (fun gk i j wx => ∃ r m : Nat, k < r ∧ r + gk = L.length ∧ i = .int .i64 (m : Int) ∧ j = .int .i64 ((r - k : Nat) : Int) ∧ Hid (CpI w wx B g L.length (nA L) r ∧ (thI (nA L) r).length = m))
            case atStart => exact ⟨k + 1, k, by omega, by omega, rfl, by rw [show k + 1 - k = 1 from by omega]; rfl, HC⟩
            case round =>
              obtain ⟨r, m, hkr, hrg, rfl, rfl, HS⟩ := hrel
              obtain ⟨⟨Q, hrow, hQ1, hQ2⟩, hfew, hbel⟩ := HS.out.1
              have hmr : m + 1 ≤ r := by have := HS.out.2; omega
              cases gk with
              | zero =>
                have hrn : r = L.length := by omega
                have hkz2 : ¬ (((r - k : Nat) : Int) < ((L.length - k : Nat) : Int)) := by omega
                have hmn : m < L.length := by omega
                have HZ := Lib.hid (show ∀ j, j < L.length - m → (wr.cell? ⟨g, m + j, none⟩).isSome = true from fun j hj => by rw [hrow.c (m + j) (by omega)]; rfl)
                have HY := Lib.hid (show ∀ j, j < L.length - m → wr.frozen? ⟨g, m + j, none⟩ = false from fun j hj => hrow.f (m + j) (by omega))
                have HF : Hid (IL (wr.setCells g m (zerI (L.length - m))) (wr.setCells g m (zerI (L.length - m))).heap.size (.slice (some ⟨g, 0, none⟩) m cap) (thI (nA L) L.length)) := Lib.hid (by
                  have h1 := hrow.cleared m (L.length - m) (by omega)
                  have hm := HS.out.2
                  rw [hrn] at hm hQ1
                  have h2 : Rw1 (wr.setCells g m (zerI (L.length - m))) B g (thI (nA L) L.length).length (nA (thI (nA L) L.length)) := by
                    rw [hm]; exact h1.congr (fun i hi => hQ1 i (by omega))
                  have := h2.il (cap := cap) (by omega)
                  rw [hm] at this
                  exact this)
                have HB2 := Lib.hid (below_setCellsI hrow.base (zerI (L.length - m)) m wr hbel)
                have z1 : (m : Int) ≤ (cap : Int) := by omega
                have z2 : (m : Int) ≤ (L.length : Int) := by omega
                have z3 : ¬ m = cap := by omega
                have z4 : ¬ cap = m := by omega
                have z5 : ¬ cap - m = 0 := by omega
                clear hrow hQ1 hQ2 hbel
                have hclr := fun ty => run_clear_ints (P := Try.prog) wr 48 3 ty Try.underlying48 zeroI g m (L.length - m) (cap - m) (by omega) HZ.out HY.out
                go_wp2_with fail
                go_ret
                exact ⟨_, rfl, ⟨HF.out, HOb.out _⟩, HB2.out⟩
              | succ gr2 =>
                obtain ⟨t, ht⟩ : ∃ t, r = k + (t + 1) := ⟨r - k - 1, by omega⟩
                have hrt : r - k = t + 1 := by omega
                have hkz2 : ((t + 1 : Nat) : Int) < ((L.length - k : Nat) : Int) := by omega
                have hkz3 : (t : Int) < ((L.length - k : Nat) : Int) := by omega
                have e0 := hrow.c r (by omega)
                have e2 := hrow.c (r - 1) (by omega)
                rw [hQ2 r (by omega) (by omega), show (⟨g, r, none⟩ : Addr) = ⟨g, k + (t + 1), none⟩ from by rw [ht]] at e0
                rw [hQ2 (r - 1) (by omega) (by omega), show (⟨g, r - 1, none⟩ : Addr) = ⟨g, k + t, none⟩ from by rw [show r - 1 = k + t from by omega]] at e2
                have b0 := hrow.c m (by omega)
                have f0 := hrow.f m (by omega)
                have hmz : (m : Int) < (L.length : Int) := by omega
                have x1 : IntKind.i64.wrap (((t + 1 : Nat) : Int) - 1) = (t : Int) := by rw [show ((t + 1 : Nat) : Int) - 1 = (t : Int) from by omega]; exact IntWalk.i64_in _ (by omega)
                have x2 : IntKind.i64.wrap ((m : Int) + 1) = (m : Int) + 1 := IntWalk.i64_in _ (by omega)
                have x3 : IntKind.i64.wrap (((t + 1 : Nat) : Int) + 1) = ((t + 1 : Nat) : Int) + 1 := IntWalk.i64_in _ (by omega)
                have HE : Hid ((nA L r == nA L (r - 1)) = true ↔ nA L r = nA L (r - 1)) := Lib.hid beq_iff_eq
                have HPut : Hid (¬ nA L r = nA L (r - 1) → CpI w (wr.drew.setCell ⟨g, m, none⟩ (.int .i64 (nA L r))) B g L.length (nA L) (r + 1)) := Lib.hid (fun h => by
                  have := HS.out.1.drew.put (by omega) (by omega) h
                  rw [HS.out.2] at this
                  exact this)
                have HLen : Hid (¬ nA L r = nA L (r - 1) → (thI (nA L) (r + 1)).length = m + 1) := Lib.hid (fun h => by
                  rw [thI_yes _ (Or.inr h), List.length_append, HS.out.2]; rfl)
                have HSk : Hid (nA L r = nA L (r - 1) → CpI w wr.drew B g L.length (nA L) (r + 1) ∧ (thI (nA L) (r + 1)).length = m) := Lib.hid (fun h => ⟨HS.out.1.drew.skip (by omega) h, by
                  rw [thI_no _ (fun h' => by rcases h' with h' | h'; omega; exact h' h)]; exact HS.out.2⟩)
                have hgg : r + 1 + gr2 = L.length := by omega
                have hkr2 : k < r + 1 := by omega
                have HR2 : Hid (((r + 1 - k : Nat) : Int) = ((t + 1 : Nat) : Int) + 1) := Lib.hid (by omega)
                rw [hrt]
                clear hrow hQ1 hQ2 hbel hfew HS hmr hrt
                have HX1 : Hid ((nA L r == nA L (r - 1)) = false → ¬ nA L r = nA L (r - 1)) := Lib.hid (fun h e => by rw [HE.out.2 e] at h; cases h)
                generalize hpk : nA L r = p1 at *
                generalize hqk : nA L (r - 1) = q1 at *
                have HPk := Lib.hid hpk
                have HQk := Lib.hid hqk
                clear hpk hqk
                generalize heb : (p1 == q1) = eb at *
                clear ht
                generalize t + 1 = t1 at *
                cases eb
                · have HX := Lib.hid (HX1.out rfl)
                  go_wp2_with fail
                  go_big_region
                  go_wp2_with fail
                  go_roundg gr2
                  case measure => omega
                  case rel => exact ⟨r + 1, m + 1, hkr2, hgg, by go_num, by rw [HR2.out], Lib.hid ⟨HPut.out HX.out, HLen.out HX.out⟩⟩
                · have HX := Lib.hid (HE.out.1 rfl)
                  go_wp2_with fail
                  go_big_region
                  go_wp2_with fail
                  go_roundg gr2
                  case measure => omega
                  case rel => exact ⟨r + 1, m, hkr2, hgg, rfl, by rw [HR2.out], Lib.hid (HSk.out HX.out)⟩
/-- As UqPost, and its row is the call's own. -/
def UoPost (L : List Int) (w : World) (e : Ending) (w' : World) : Prop := ∃ u X, e = .returned u ∧ UnP X L ∧ X.length ≤ L.length ∧ IL w' w'.heap.size u X ∧ (∀ k, u.ownBlock = some k → w.heap.size ≤ k) ∧ Below w.heap.size w w'
set_option maxRecDepth 100000 in
theorem ouniq_own {w : World} {gt : Nat} {v : Value} {L : List Int} (hI : IL w gt v L) (hL : L.length ≤ 1000) : Calls Try.prog 52 #[v] w (UoPost L w) := by
  have HS := Lib.hid (sorted_any 64 #[] ilt (fun _ => True) (hI.new (Nat.le_refl _)) hL (fun _ _ => trivial) (fun args W => by first | rfl | simp [callFunc]) (fun W x y _ _ _ => (oless_any x y W).mono (fun e w' h => ⟨h.1, h.2 ▸ Below.refl _ _⟩)))
  obtain ⟨q, c, rfl, _, hx⟩ := hI
  clear hx
  have HU := Lib.hid (unp_srt L)
  have hl := (srt_perm ilt L).length_eq
  go_enter Try.func52, Try.ntmps52
  go_wp2_with fail
  go_at_call 63
  refine Calls.mono HS.out ?_
  rintro e w1 ⟨u, rfl, ho, hb⟩
  have HB := Lib.hid hb
  have HC := Lib.hid (icompact_own (L := srt ilt L) (by rw [hl]; exact ho) (by rw [hl]; exact hL))
  clear ho hb hl
  generalize thI (nA (srt ilt L)) (srt ilt L).length = X at *
  go_wp2_with fail
  go_at_call 62
  refine Calls.mono HC.out ?_
  rintro e w2 ⟨u2, rfl, ⟨hi2, ho2⟩, hb2⟩
  have HO2 := Lib.hid ho2
  clear ho2
  have HI2 := Lib.hid hi2
  have HB2 : Hid (Below w.heap.size w w2) := Lib.hid (HB.out.trans hb2)
  clear hi2 hb2
  go_wp2_with fail
  go_ret
  exact ⟨u2, X, rfl, HU.out.1, HU.out.2, HI2.out, HO2.out, HB2.out⟩
end Go.Proofs.Ytenfaejdnphngaa

namespace Go.Proofs.Ytenfaejdnphngaa
open Go.RowKit
open Go.ChangeMaps (setBlock)

theorem PrS.setb {W0 V : World} {kg gg kc ki n i cnt r : Nat} {G : Nat → List Nat} {N : Nat → Prop} (h : PrS W0 kg gg kc ki n i G cnt N V) (o : Obj) (hr : N r) (hge : W0.heap.size ≤ r) (hm : ∃ m a b c, V.heap[r]? = some (.mapIter m a b c)) : PrS W0 kg gg kc ki n i G cnt N (setBlock V r o) := by
  obtain ⟨m, a, b, c, hb⟩ := hm
  obtain ⟨ρ, r1, r2, r3, r4, r5, r6⟩ := h.st
  have hg := grown_blockI o hb
  have keep : ∀ k, k ≠ r → (setBlock V r o).heap[k]? = V.heap[k]? := fun k hk => (set_at o hb).2 k hk
  have nc : ∀ {k l : Nat} {v : Value}, V.cell? ⟨k, l, none⟩ = some v → k ≠ r := fun {k l v} hc e => by
    subst e
    simp [World.cell?, hb] at hc
  have hr0 := h.pr r hr
  refine ⟨h.bl.grown hg h.bl.size (fun k e => by injection e with e; subst e; exact hge), (World.cell?_of_block (keep kg (nc h.g0))).trans h.g0, (World.cell?_of_block (keep kc hr0.2.2.symm)).trans h.cc, (World.cell?_of_block (keep ki (nc h.ci))).trans h.ci, (World.frozen?_of_block (a := ⟨kc, 0, none⟩) (keep kc hr0.2.2.symm)).trans h.fc, fun l => (World.frozen?_of_block (a := ⟨gg, l, none⟩) (keep gg hr0.2.1.symm)).trans (h.fg l), h.ge, h.ne, fun k hk => ⟨Nat.lt_of_lt_of_le (h.pr k hk).1 hg.size, (h.pr k hk).2⟩, ρ, r1, r2, r3, r4, r5, fun l hl => ?_⟩
  obtain ⟨v, c, o2, hv⟩ := r6 l hl
  exact ⟨v, (World.cell?_of_block (keep gg hr0.2.1.symm)).trans c, own_blk o2 (fun k hk => keep k (fun e => by have := hv k hk; rw [e, r5 r hr] at this; simp at this)), hv⟩
theorem prj_grow (W0 : World) (kg gg kc ki n i : Nat) (G : Nat → List Nat) (cnt : Nat) : GrowC W0.heap.size (PrJ W0 kg gg kc ki n i G cnt) where
  g := fun o h hr hge hm => ⟨h.s.setb o hr hge hm, h.c, h.r, h.i, h.n⟩
/-- Pairs's state between numbers. -/
structure PrT (W0 : World) (kg gg kc n : Nat) (G : Nat → List Nat) (cnt : Nat) (V : World) : Prop where
  bl : Below W0.heap.size W0 V
  g0 : V.cell? ⟨kg, 0, none⟩ = some (.slice (some ⟨gg, 0, none⟩) n n)
  cc : V.cell? ⟨kc, 0, none⟩ = some (.int .i64 (cnt : Int))
  fc : V.frozen? ⟨kc, 0, none⟩ = false
  fg : ∀ l, V.frozen? ⟨gg, l, none⟩ = false
  ge : W0.heap.size ≤ gg ∧ W0.heap.size ≤ kc
  ne : gg ≠ kg ∧ gg ≠ kc ∧ kc ≠ kg ∧ gg < V.heap.size
  st : ∃ ρ : Nat → Nat, ρ kg = 0 ∧ ρ gg = 0 ∧ ρ kc = 0 ∧ (∀ k, k < W0.heap.size → ρ k = 0) ∧ ∀ l, l < n → ∃ v, V.cell? ⟨gg, l, none⟩ = some v ∧ V.ownsRow W0.heap.size 3 1 v (G l).length (nCells (G l)) ∧ ∀ k, v.ownBlock = some k → ρ k = l + 1
theorem PrT.on {W0 V V1 : World} {kg gg kc n ki i cnt : Nat} {G : Nat → List Nat} (h : PrT W0 kg gg kc n G cnt V) (hb : Below V.heap.size V V1) (hk : V.heap.size ≤ ki) (hc : V1.cell? ⟨ki, 0, none⟩ = some (.int .i64 (i : Int))) : PrS W0 kg gg kc ki n i G cnt (fun k => k < W0.heap.size) V1 := by
  obtain ⟨ρ, r1, r2, r3, r5, r6⟩ := h.st
  have hs := h.bl.size
  have lkg : kg < V.heap.size := World.block_lt_of_cell? V _ h.g0
  have lkc : kc < V.heap.size := World.block_lt_of_cell? V _ h.cc
  have lgg := h.ne.2.2.2
  refine ⟨h.bl.trans (hb.mono hs), cell_later hb h.g0, cell_later hb h.cc, hc, (hb.frozen (p := ⟨kc, 0, none⟩) lkc).trans h.fc, fun l => (hb.frozen (p := ⟨gg, l, none⟩) lgg).trans (h.fg l), h.ge, ⟨h.ne.1, h.ne.2.1, by omega, h.ne.2.2.1, by omega⟩, fun k hk' => ⟨Nat.lt_of_lt_of_le hk' (Nat.le_trans hs hb.size), by have := h.ge.1; omega, by have := h.ge.2; omega⟩, fun k => if k < V.heap.size then ρ k else 0, by simp [lkg, r1], by simp [lgg, r2], by simp [lkc, r3], by simp [Nat.not_lt.2 hk], fun k hk' => ?_, fun l hl => ?_⟩
  · simp only []
    split
    · exact r5 k hk'
    · rfl
  · obtain ⟨v, c, o, hv⟩ := r6 l hl
    exact ⟨v, cell_later hb c, own_blk o (fun k hk => hb.block k (own_block o hk).2), fun k hk => by
      have := (own_block o hk).2
      simp only [this, if_true]
      exact hv k hk⟩
theorem PrS.off {W0 V : World} {kg gg kc ki n i cnt : Nat} {G : Nat → List Nat} (h : PrS W0 kg gg kc ki n i G cnt (fun k => k < W0.heap.size) V) (hg : gg < V.heap.size) : PrT W0 kg gg kc n G cnt V := by
  obtain ⟨ρ, r1, r2, r3, r4, r5, r6⟩ := h.st
  exact ⟨h.bl, h.g0, h.cc, h.fc, h.fg, h.ge, ⟨h.ne.1, h.ne.2.1, h.ne.2.2.2.1, hg⟩, ρ, r1, r2, r3, r5, r6⟩
theorem addGs_row (i l : Nat) : ∀ (S : List Nat) (G : Nat → List Nat), addGs G i S l = G l ++ (S.filter (fun j => decide (l = min i j))).map (fun j => max i j)
  | [], G => by simp [addGs]
  | j :: S, G => by
    show addGs (addG G i j) i S l = _
    rw [addGs_row i l S, List.filter_cons]
    unfold addG
    by_cases h : l = min i j
    · rw [if_pos h, if_pos (by simpa using h), List.map_cons, List.append_assoc]; rfl
    · rw [if_neg h, if_neg (by simpa using h)]
theorem prt_ne {L : List B4} {i j : Nat} (h : prtP L i j) : i ≠ j := by
  rintro rfl
  have e := cmpS_swap (szB (bxA L i)) (szB (bxA L i))
  rcases h.2.2 with h | h
  · omega
  · omega
theorem prt_one {L : List B4} {i j : Nat} (h : prtP L i j) : ¬ prtP L j i := by
  intro k
  have e := cmpS_swap (szB (bxA L i)) (szB (bxA L j))
  rcases h.2.2 with h | h <;> rcases k.2.2 with k | k <;> omega
theorem com_swap (a b : B4) : comB a b = comB b a := by
  unfold comB
  rw [Int.max_comm, Int.max_comm a.2.1, Int.min_comm, Int.min_comm a.2.2.2]
theorem met_swap (a b : B4) : metB a b = metB b a := by
  unfold metB
  rw [com_swap, Bool.and_comm (rgtB a)]
/-- What the rows hold, once the first i boxes have had their turn. -/
structure GOk (L : List B4) (i : Nat) (G : Nat → List Nat) : Prop where
  nd : ∀ l, (G l).Nodup
  mem : ∀ l x, x ∈ G l ↔ ∃ a b, a < i ∧ prtP L a b ∧ l = min a b ∧ x = max a b
theorem GOk.zero (L : List B4) : GOk L 0 (fun _ => []) := ⟨fun _ => .nil, fun l x => ⟨fun h => (List.not_mem_nil h).elim, fun ⟨a, b, h, _⟩ => by omega⟩⟩
theorem GOk.next {L : List B4} {i : Nat} {G : Nat → List Nat} {S : List Nat} (h : GOk L i G) (hS : ∀ x, x ∈ S ↔ prtP L i x) (hn : S.Nodup) : GOk L (i + 1) (addGs G i S) := by
  refine ⟨fun l => ?_, fun l x => ?_⟩
  · rw [addGs_row, List.nodup_append]
    refine ⟨h.nd l, ?_, fun x hx y hy e => ?_⟩
    · rw [List.nodup_iff_pairwise_ne, List.pairwise_map]
      refine List.Pairwise.imp_of_mem ?_ (List.nodup_iff_pairwise_ne.1 (hn.filter _))
      intro a b ha hb hne
      simp only [List.mem_filter, decide_eq_true_eq] at ha hb
      have h1 := prt_ne ((hS a).1 ha.1)
      have h2 := prt_ne ((hS b).1 hb.1)
      omega
    · subst e
      obtain ⟨a, b, h1, h2, h3, h4⟩ := (h.mem l x).1 hx
      obtain ⟨j, hj, e⟩ := List.mem_map.1 hy
      simp only [List.mem_filter, decide_eq_true_eq] at hj
      have hp := (hS j).1 hj.1
      have hne := prt_ne hp
      have hne2 := prt_ne h2
      have e1 : a = j ∧ b = i := by omega
      rw [e1.1, e1.2] at h2
      exact prt_one hp h2
  · rw [addGs_row, List.mem_append, h.mem, List.mem_map]
    constructor
    · rintro (⟨a, b, h1, h2⟩ | ⟨j, hj, e⟩)
      · exact ⟨a, b, by omega, h2⟩
      · simp only [List.mem_filter, decide_eq_true_eq] at hj
        exact ⟨i, j, by omega, (hS j).1 hj.1, hj.2, e.symm⟩
    · rintro ⟨a, b, h1, h2, h3, h4⟩
      by_cases e : a < i
      · exact .inl ⟨a, b, e, h2, h3, h4⟩
      · obtain rfl : a = i := by omega
        exact .inr ⟨b, by simp only [List.mem_filter, decide_eq_true_eq]; exact ⟨(hS b).2 h2, h3⟩, h4.symm⟩
theorem prt_of {L : List B4} {l x : Nat} (hx : x < L.length) (hlx : l < x) (hm : metB (bxA L l) (bxA L x) = true) : prtP L l x ∨ prtP L x l := by
  have e := cmpS_swap (szB (bxA L l)) (szB (bxA L x))
  have hm2 := hm
  rw [met_swap] at hm2
  rcases cmpS_cases (szB (bxA L l)) (szB (bxA L x)) with h | h | h
  · exact .inl ⟨hx, hm, .inl h⟩
  · exact .inr ⟨by omega, hm2, .inr ⟨by omega, hlx⟩⟩
  · exact .inr ⟨by omega, hm2, .inl (by omega)⟩
theorem GOk.all {L : List B4} {G : Nat → List Nat} (h : GOk L L.length G) (l x : Nat) : x ∈ G l ↔ l < x ∧ x < L.length ∧ metB (bxA L l) (bxA L x) = true := by
  rw [h.mem]
  constructor
  · rintro ⟨a, b, h1, h2, rfl, rfl⟩
    have hne := prt_ne h2
    rcases Nat.lt_or_ge a b with hab | hab
    · rw [Nat.min_eq_left (by omega), Nat.max_eq_right (by omega)]
      exact ⟨hab, h2.1, h2.2.1⟩
    · rw [Nat.min_eq_right (by omega), Nat.max_eq_left (by omega)]
      exact ⟨by omega, h1, by rw [met_swap]; exact h2.2.1⟩
  · rintro ⟨h1, h2, h3⟩
    rcases prt_of h2 h1 h3 with h | h
    · exact ⟨l, x, by omega, h, by omega, by omega⟩
    · exact ⟨x, l, by omega, h, by omega, by omega⟩
theorem nodup_len : ∀ (n : Nat) (l : List Nat), l.Nodup → (∀ x ∈ l, x < n) → l.length ≤ n
  | 0, l, _, h => by
    cases l with
    | nil => exact Nat.le_refl _
    | cons a l => have := h a List.mem_cons_self; omega
  | n + 1, l, hn, h => by
    by_cases hm : n ∈ l
    · have h1 := nodup_len n (l.erase n) (hn.erase n) (fun x hx => by
        have := (hn.mem_erase_iff).1 hx
        have := h x this.2
        omega)
      rw [List.length_erase_of_mem hm] at h1
      omega
    · have := nodup_len n l hn (fun x hx => by
        have := h x hx
        have : x ≠ n := fun e => hm (e ▸ hx)
        omega)
      omega
/-- The numbers above l that box l meets. -/
def mrow (L : List B4) (l : Nat) : List Nat := (List.range L.length).filter (fun x => decide (l < x) && metB (bxA L l) (bxA L x))
def mpairs (L : List B4) (i : Nat) : List (Nat × Nat) := (List.range i).flatMap (fun l => (mrow L l).map (fun x => (l, x)))
theorem mpairs_succ (L : List B4) (i : Nat) : mpairs L (i + 1) = mpairs L i ++ (mrow L i).map (fun x => (i, x)) := by simp [mpairs, List.range_succ, List.flatMap_append]
theorem mrow_len (L : List B4) (l : Nat) : (mrow L l).length ≤ L.length := by
  have := List.length_filter_le (fun x => decide (l < x) && metB (bxA L l) (bxA L x)) (List.range L.length)
  rw [List.length_range] at this
  exact this
theorem mpairs_len (L : List B4) : ∀ i, (mpairs L i).length ≤ i * L.length
  | 0 => by simp [mpairs]
  | i + 1 => by
    have h := mpairs_len L i
    have h2 := mrow_len L i
    rw [mpairs_succ, List.length_append, List.length_map, Nat.succ_mul]
    omega
/-- What Uniq gives of a row. -/
theorem mrow_uniq {L : List B4} {G : Nat → List Nat} {X : List Int} {l : Nat} (h : GOk L L.length G) (hX : UnP X ((G l).map (fun n : Nat => (n : Int)))) : X = (mrow L l).map (fun n : Nat => (n : Int)) := by
  refine rise_uniq hX.1 ?_ (fun y => ?_)
  · rw [List.pairwise_map]
    refine (List.pairwise_lt_range.filter _).imp (fun h => ?_)
    exact_mod_cast h
  · rw [hX.2 y, List.mem_map, List.mem_map]
    constructor
    · rintro ⟨x, hx, rfl⟩
      obtain ⟨h1, h2, h3⟩ := (h.all l x).1 hx
      exact ⟨x, by unfold mrow; simp [h1, h2, h3], rfl⟩
    · rintro ⟨x, hx, rfl⟩
      unfold mrow at hx
      simp only [List.mem_filter, List.mem_range, Bool.and_eq_true, decide_eq_true_eq] at hx
      exact ⟨x, (h.all l x).2 ⟨hx.2.1, hx.1, hx.2.2⟩, rfl⟩
def prCells (P : List (Nat × Nat)) : List Value := P.flatMap (fun p => [.int .i64 (p.1 : Int), .int .i64 (p.2 : Int)])
theorem prCells_snoc (P : List (Nat × Nat)) (a b : Nat) : prCells (P ++ [(a, b)]) = prCells P ++ [.int .i64 (a : Int), .int .i64 (b : Int)] := by simp [prCells]
theorem infoA2 : (Try.prog.info? 52).map (fun i => (i.zero, i.size, i.bytes)) = some (some (.agg #[.int .i64 0, .int .i64 0]), 2, 16) := by kernel_rfl
theorem infoSI : (Try.prog.info? 48).map (fun i => (i.zero, i.size, i.bytes)) = some (some (.slice none 0 0), 1, 24) := by kernel_rfl
theorem make_run2 (n : Nat) (hn : n ≤ 1000000) (w : World) : (Instr.makeSlice 49 (.int .i64 0) (.int .i64 (n : Int))).run Try.prog w = .ok (.slice (some ⟨w.heap.size, 0, none⟩) 0 n) (w.alloc (.cells (madeCells #[.int .i64 0, .int .i64 0] (n * 2)) 52)) := by
  obtain ⟨i0, hi, hz0, hz1, hz2⟩ := info_parts infoA2
  have h := run_make (P := Try.prog) w 49 52 i0 (.agg #[.int .i64 0, .int .i64 0]) Try.underlying49 hi hz0 .i64 .i64 0 (n : Int) (Int.le_refl _) (by omega) (by rw [hz2]; omega) (by omega)
  rw [hz1] at h
  simpa [Value.cells] using h
theorem made_own2 (W : World) (base n : Nat) (hb : base ≤ W.heap.size) (hn : n ≤ 1000000) : (W.alloc (.cells (madeCells #[.int .i64 0, .int .i64 0] (n * 2)) 52)).ownsRow base 52 2 (.slice (some ⟨W.heap.size, 0, none⟩) 0 n) 0 [] :=
  World.ownsRow_made W _ n hb (by unfold maxLen; omega) (by rw [size_madeCells])
theorem make_runS (n : Nat) (hn : n ≤ 1000000) (w : World) : (Instr.makeSlice 94 (.int .i64 (n : Int)) (.int .i64 (n : Int))).run Try.prog w = .ok (.slice (some ⟨w.heap.size, 0, none⟩) n n) (w.alloc (.cells (madeCells #[.slice none 0 0] n) 48)) := by
  obtain ⟨i0, hi, hz0, hz1, hz2⟩ := info_parts infoSI
  have h := run_make (P := Try.prog) w 94 48 i0 (.slice none 0 0) Try.underlying94 hi hz0 .i64 .i64 (n : Int) (n : Int) (by omega) (Int.le_refl _) (by rw [hz2]; omega) (by omega)
  rw [hz1] at h
  simpa [Value.cells] using h
def PsPost (L : List B4) (w : World) (e : Ending) (w' : World) : Prop := ∃ u, e = .returned u ∧ w'.ownsRow w.heap.size 52 2 u (mpairs L L.length).length (prCells (mpairs L L.length)) ∧ Below w.heap.size w w'
/-- A row of pairs, and where the numbers lie that it takes up. -/
structure P3I (V : World) (g o : Nat) (X : List Nat) (P : List (Nat × Nat)) (v : Value) (wy : World) : Prop where
  own : wy.ownsRow V.heap.size 52 2 v P.length (prCells P)
  bl : Below V.heap.size V wy
  x : ∀ j (h : j < X.length), wy.cell? ⟨g, o + j, none⟩ = some (.int .i64 (X[j] : Int))
  ne : ∀ k, v.ownBlock = some k → k ≠ g
theorem P3I.next {V wy wB : World} {g o a b : Nat} {X : List Nat} {P : List (Nat × Nat)} {v v2 : Value} {T : TypeId} {j : Nat} (h : P3I V g o X P v wy) (hj : j < X.length)
    (ho : wB.ownsRow V.heap.size 52 2 v2 (P.length + 1) (prCells P ++ [.int .i64 (a : Int), .int .i64 (b : Int)])) (hg : (wy.alloc (.cells #[.int .i64 (a : Int), .int .i64 (b : Int)] T)).grownBy wB v.ownBlock) (hv : v2.ownBlock = v.ownBlock ∨ v2.ownBlock = some (wy.alloc (.cells #[.int .i64 (a : Int), .int .i64 (b : Int)] T)).heap.size) : P3I V g o X (P ++ [(a, b)]) v2 wB := by
  have hb := below_alloc wy (.cells #[.int .i64 (a : Int), .int .i64 (b : Int)] T)
  have hgl : g < wy.heap.size := World.block_lt_of_cell? wy _ (h.x j hj)
  have hs := h.bl.size
  refine ⟨by rw [prCells_snoc, List.length_append, List.length_singleton]; exact ho, (h.bl.trans (hb.mono hs)).grown hg (Nat.le_trans hs hb.size) (fun k e => (own_block h.own e).1), fun i hi => ?_, fun k hk => ?_⟩
  · have hgl2 := Nat.lt_of_lt_of_le hgl hb.size
    exact (World.cell?_of_block (hg.block g hgl2 (fun e => h.ne g e.symm rfl))).trans (cell_later hb (h.x i hi))
  · rcases hv with e | e
    · exact h.ne k (e ▸ hk)
    · rw [e] at hk; injection hk with hk; have := hb.size; omega
theorem own_il {V : World} {B : Nat} {va : Value} {U : List Nat} (o : V.ownsRow B 3 1 va U.length (nCells U)) : IL V V.heap.size va (U.map (fun n : Nat => (n : Int))) := by
  rcases id o.2 with ⟨e, hz⟩ | ⟨g, cp, cur, e, _, hlt, hle, _⟩
  · have hU : U = [] := List.length_eq_zero_iff.1 hz
    subst hU
    exact ⟨none, 0, e, Nat.le_refl _, fun i hi => by simp at hi⟩
  · subst e
    refine ⟨_, cp, by rw [List.length_map], by rw [List.length_map]; exact hle, fun i hi => ⟨g, 0, rfl, Nat.ne_of_lt (own_block o rfl).2, ?_⟩⟩
    rw [List.length_map] at hi
    rw [Nat.zero_add, o.cellAt i (by omega)]
    unfold nCells
    rw [List.getElem?_map, List.getElem?_eq_getElem hi, List.getElem_map]
    rfl
theorem GOk.len {L : List B4} {i : Nat} {G : Nat → List Nat} (h : GOk L i G) (hi : i ≤ L.length) (l : Nat) : (G l).length ≤ L.length :=
  nodup_len _ _ (h.nd l) (fun x hx => by
    obtain ⟨a, b, h1, h2, _, h4⟩ := (h.mem l x).1 hx
    have := h2.1
    omega)
theorem pr_news (W : World) (a b : Int) (T : TypeId) : ∀ (j : Nat) (u : Value), ([.int .i64 a, .int .i64 b] : List Value)[j]? = some u → (W.alloc (.cells #[.int .i64 a, .int .i64 b] T)).cell? (Addr.add ⟨W.heap.size, 0, none⟩ j) = some u := by
  intro j u h
  match j, h with
  | 0, h => simp at h; subst h; go_simp
  | 1, h => simp at h; subst h; go_simp
/-- Where Uniq's row lies. -/
theorem p3_new {V w3 : World} {q : Option Addr} {n c : Nat} {M : List Nat} {P : List (Nat × Nat)} {v : Value} {B : Nat} (ho : w3.ownsRow V.heap.size 52 2 v P.length (prCells P)) (hb : Below V.heap.size V w3) (hI : IL w3 w3.heap.size (.slice q n c) (M.map (fun n : Nat => (n : Int)))) (hB : ∀ k, (Value.slice q n c).ownBlock = some k → B ≤ k) (hv : ∀ k, v.ownBlock = some k → k < B) :
    ∃ g o, (M ≠ [] → q = some ⟨g, o, none⟩) ∧ n = M.length ∧ P3I V g o M P v w3 := by
  obtain ⟨q', c', e, hle, hx⟩ := hI
  injection e with e1 e2 e3
  subst e1 e2 e3
  by_cases hM : M = []
  · subst hM
    exact ⟨w3.heap.size, 0, fun h => absurd rfl h, by simp, ho, hb, fun j hj => by simp at hj, fun k hk => Nat.ne_of_lt (own_block ho hk).2⟩
  · have h0 : 0 < (M.map (fun n : Nat => (n : Int))).length := by rw [List.length_map]; exact List.length_pos_iff.2 hM
    obtain ⟨g, o, hq, _, _⟩ := hx 0 h0
    subst hq
    refine ⟨g, o, fun _ => rfl, by rw [List.length_map], ho, hb, fun j hj => ?_, fun k hk e => ?_⟩
    · obtain ⟨g', o', e, _, hc⟩ := hx j (by rw [List.length_map]; exact hj)
      injection e with e
      injection e with e1 e2 _
      subst e1 e2
      rw [List.getElem_map] at hc
      exact hc
    · have h1 := hv k hk
      have h2 := hB g rfl
      omega
set_option maxRecDepth 100000 in
set_option maxHeartbeats 4000000 in
theorem pairs_any {W : World} {B xb : Nat} {R : Nat → Rl} {L : List B4} (h : IxL W B xb R L) (hM : MeetsC W B xb R L) (hB : B ≤ W.heap.size) (hL : L.length ≤ 200) :
    Calls Try.prog 22 #[.pointer (some ⟨xb, 0, none⟩)] W (PsPost L W) := by
  have hmx : Try.prog.follows .mixedOrders = true := by kernel_rfl
  obtain ⟨iI, hiI, hI0, hI1, hI2⟩ := info_parts infoA2
  have HI := Lib.hid h
  have HM := Lib.hid hM
  have HLn := Lib.hid (len_ix h)
  have hmk := make_runS L.length (by omega) W
  clear h hM
  go_enter Try.func22, Try.ntmps22
  go_upto_region 2 with (go_at_call 21; refine HLn.out.mono ?_; rintro e w1 ⟨rfl, rfl⟩)
  clear hmk HLn
  have HG0 : Hid (PrT w1 (w1.heap.size + 1) w1.heap.size (w1.heap.size + 1 + 1) L.length (fun _ => []) 0 (((w1.alloc (.cells (madeCells #[.slice none 0 0] L.length) 48)).alloc (.cells #[.slice (some ⟨w1.heap.size, 0, none⟩) L.length L.length] 94)).alloc (.cells #[.int .i64 0] 3))) := Lib.hid (by
    have hrow := World.rowIs_made w1 (.slice none 0 0) L.length 48
    refine ⟨below_after (below_after (below_alloc _ _) (below_alloc _ _)) (below_alloc _ _), by go_simp, by go_simp, by go_simp, fun l => by go_simp, ⟨Nat.le_refl _, by omega⟩, ⟨by omega, by omega, by omega, by simp; omega⟩, fun _ => 0, rfl, rfl, rfl, fun _ _ => rfl, fun l hl => ?_⟩
    refine ⟨.slice none 0 0, cell_later (below_alloc _ _) (cell_later (below_alloc _ _) ?_), ⟨by simp [nCells], .inl ⟨rfl, rfl⟩⟩, fun k hk => by cases hk⟩
    obtain ⟨c, hb, _, hc⟩ := hrow
    unfold World.cell?
    simp only [hb]
    exact hc l hl)
  generalize ((w1.alloc (.cells (madeCells #[.slice none 0 0] L.length) 48)).alloc (.cells #[.slice (some ⟨w1.heap.size, 0, none⟩) L.length L.length] 94)).alloc (.cells #[.int .i64 0] 3) = V0 at *
  generalize w1.heap.size + 1 + 1 = kc at *
  generalize w1.heap.size + 1 = kg at *
  generalize hgg : w1.heap.size = gg at *
  have x0 := HG0.out.g0
  have HGG := Lib.hid hgg
  clear hgg
  go_wp2_with fail
  clear x0
  go_loopg [16] L.length (fun gk i wx => ∃ (k : Nat) (G : Nat → List Nat) (cnt : Nat), k + gk = L.length ∧ i = .int .i64 (k : Int) ∧ Hid (PrT w1 kg gg kc L.length G cnt wx ∧ GOk L k G ∧ cnt ≤ k * L.length))
  case atStart => exact ⟨0, _, 0, by omega, rfl, Lib.hid ⟨HG0.out, GOk.zero L, Nat.zero_le _⟩⟩
  case round =>
    obtain ⟨k, G, cnt, hkg, rfl, HS⟩ := hrel
    clear HG0
    cases gk with
    | zero =>
      obtain rfl : k = L.length := by omega
      obtain ⟨V, rfl⟩ : ∃ V, V = wr := ⟨_, rfl⟩
      have hkz : ¬ ((L.length : Int) < (L.length : Int)) := by omega
      have hcl : cnt ≤ 40000 := Nat.le_trans HS.out.2.2 (Nat.le_trans (Nat.mul_le_mul hL hL) (by decide))
      have g0 := HS.out.1.g0
      have cc := HS.out.1.cc
      have hmk := make_run2 cnt (by omega) V
      have HV := Lib.hid HS.out.1
      have HGk := Lib.hid HS.out.2.1
      have HO0 : Hid ((V.alloc (.cells (madeCells #[.int .i64 0, .int .i64 0] (cnt * 2)) 52)).ownsRow V.heap.size 52 2 (.slice (some ⟨V.heap.size, 0, none⟩) 0 cnt) 0 [] ∧ Below V.heap.size V (V.alloc (.cells (madeCells #[.int .i64 0, .int .i64 0] (cnt * 2)) 52))) := Lib.hid ⟨made_own2 V _ cnt (Nat.le_refl _) (by omega), below_alloc _ _⟩
      have g1 := cell_later (below_alloc V (.cells (madeCells #[.int .i64 0, .int .i64 0] (cnt * 2)) 52)) g0
      clear HS HI HM
      go_wp2_with fail
      clear hmk g0 cc g1
      generalize V.alloc (.cells (madeCells #[.int .i64 0, .int .i64 0] (cnt * 2)) 52) = V1 at *
      generalize hv0 : (Value.slice (some ⟨V.heap.size, 0, none⟩) 0 cnt) = v0 at *
      clear hv0
      go_loopg [6, 28] L.length (fun gk v i wx => ∃ k : Nat, k + gk = L.length ∧ i = .int .i64 (k : Int) ∧ Hid (wx.ownsRow V.heap.size 52 2 v (mpairs L k).length (prCells (mpairs L k)) ∧ Below V.heap.size V wx))
      case atStart => exact ⟨0, by omega, rfl, HO0⟩
      case round =>
        obtain ⟨k, hkg, rfl, HS⟩ := hrel
        clear HO0
        cases gk with
        | zero =>
          obtain rfl : k = L.length := by omega
          have hkz : ¬ ((L.length : Int) < (L.length : Int)) := by omega
          have HF : Hid (wr.ownsRow w1.heap.size 52 2 u6 (mpairs L L.length).length (prCells (mpairs L L.length)) ∧ Below w1.heap.size w1 wr) := Lib.hid ⟨own_base HS.out.1 HV.out.bl.size, HV.out.bl.trans (HS.out.2.mono HV.out.bl.size)⟩
          clear HS
          go_wp2_with fail
          go_ret
          exact ⟨_, rfl, HF.out⟩
        | succ gr =>
          have hkz : (k : Int) < (L.length : Int) := by omega
          have hkn : k < L.length := by omega
          obtain ⟨ρ, _, _, _, _, r6⟩ := HV.out.st
          obtain ⟨va, cva, ova, _⟩ := r6 k hkn
          have cw := cell_later HS.out.2 cva
          have HUq := Lib.hid (ouniq_own (IL.keep HS.out.2 (own_il ova)) (by rw [List.length_map]; have := HGk.out.len (Nat.le_refl _) k; omega))
          obtain ⟨pa, ca, rfl⟩ := own_len ova
          clear r6 ova cva
          have hmn := mrow_len L k
          have hpl : (mpairs L k).length ≤ 40000 := Nat.le_trans (mpairs_len L k) (Nat.le_trans (Nat.mul_le_mul (by omega) hL) (by decide : 200 * 200 ≤ 40000))
          go_wp2_with (go_at_call 52; refine HUq.out.mono ?_; rintro e w3 ⟨u, X, rfl, hX, _, hI, hO, hb⟩; obtain rfl := mrow_uniq HGk.out hX; obtain ⟨q3, c3, rfl, _, hx3⟩ := id hI; clear hx3; rw [List.length_map]; obtain ⟨g3, o3, hq3, hn3, hP3⟩ := p3_new (own_blk HS.out.1 (fun k hk => hb.block k (own_block HS.out.1 hk).2)) (HS.out.2.trans (hb.mono HS.out.2.size)) hI hO (fun k hk => (own_block HS.out.1 hk).2); have HP3 := Lib.hid hP3; clear hX hI hO hb hP3 hn3)
          clear HS HUq cw
          obtain ⟨P0, hP0⟩ : ∃ P0, P0 = mpairs L k := ⟨_, rfl⟩
          obtain ⟨M, hM⟩ : ∃ M, M = mrow L k := ⟨_, rfl⟩
          have HPn : Hid (mpairs L (k + 1) = P0 ++ M.map (fun x => (k, x))) := Lib.hid (by rw [mpairs_succ, hP0, hM])
          rw [← hP0] at HP3 hpl
          rw [← hM] at HP3 hmn hq3
          rw [← hM]
          clear hP0 hM
          go_loopg [6, 36] M.length (fun gk v j wy => ∃ m : Nat, m + gk = M.length ∧ j = .int .i64 (m : Int) ∧ Hid (P3I V g3 o3 M (P0 ++ (M.take m).map (fun x => (k, x))) v wy))
          case atStart => exact ⟨0, by omega, rfl, Lib.hid (by simpa using HP3.out)⟩
          case round =>
            obtain ⟨m, hmg, rfl, HS⟩ := hrel
            clear HP3
            cases gk with
            | zero =>
              obtain rfl : m = M.length := by omega
              have hmz : ¬ ((M.length : Int) < (M.length : Int)) := by omega
              have HF : Hid (wr.ownsRow V.heap.size 52 2 u6 (mpairs L (k + 1)).length (prCells (mpairs L (k + 1))) ∧ Below V.heap.size V wr) := Lib.hid (by
                have h := HS.out
                rw [List.take_length, ← HPn.out] at h
                exact ⟨h.own, h.bl⟩)
              clear HS
              go_wp2_with fail
              go_roundg gr
              case measure => omega
              case rel => exact ⟨k + 1, by omega, by push_cast; rfl, HF⟩
            | succ gm =>
              have hmz : (m : Int) < (M.length : Int) := by omega
              have hml : m < M.length := by omega
              have hq := hq3 (by intro e; rw [e] at hml; cases hml)
              subst hq
              have hcx := HS.out.x m hml
              have HTk : Hid ((M.take (m + 1)).map (fun x => (k, x)) = (M.take m).map (fun x => (k, x)) ++ [(k, M[m])]) := Lib.hid (by rw [List.take_succ_eq_append_getElem hml, List.map_append]; rfl)
              generalize M[m] = mx at *
              have hle : (P0 ++ (M.take m).map (fun x => (k, x))).length ≤ 41000 := by rw [List.length_append, List.length_map, List.length_take]; omega
              have HO : Hid ((wr.alloc (.cells #[.int .i64 (k : Int), .int .i64 (mx : Int)] 52)).ownsRow V.heap.size 52 2 u6 (P0 ++ (M.take m).map (fun x => (k, x))).length (prCells (P0 ++ (M.take m).map (fun x => (k, x))))) := Lib.hid (World.ownsRow.alloc (w := wr) HS.out.own _)
              have hsz : V.heap.size ≤ (wr.alloc (.cells #[.int .i64 (k : Int), .int .i64 (mx : Int)] 52)).heap.size := by have := HS.out.bl.size; simp; omega
              go_wp2_with (at_builtin; refine wpList_append_at rfl (.tmp 40) (.tmp 44) 49 rfl V.heap.size 52 iI (.agg #[.int .i64 0, .int .i64 0]) 2 16 Try.underlying49 hiI hI0 hI1 hI2 rfl (by decide) u6 (P0 ++ (M.take m).map (fun x => (k, x))).length (prCells (P0 ++ (M.take m).map (fun x => (k, x)))) rfl HO.out ⟨wr.heap.size, 0, none⟩ 1 1 [.int .i64 (k : Int), .int .i64 (mx : Int)] rfl rfl (pr_news _ _ _ _) (by intro u hu; simp only [List.mem_cons, List.not_mem_nil, or_false] at hu; rcases hu with rfl | rfl <;> rfl) (by unfold maxLen; omega) (by omega) hsz ?_; intro v2 wB hoB hgB hvB; have HS2 := Lib.hid (HS.out.next hml hoB hgB hvB); clear hoB hgB hvB)
              go_roundg gm
              case measure => omega
              case rel => exact ⟨m + 1, by omega, by push_cast; rfl, by rw [HTk.out, ← List.append_assoc]; exact HS2⟩
    | succ gr =>
      have hkz : (k : Int) < (L.length : Int) := by omega
      have hkn : k < L.length := by omega
      have HPt : Hid (Calls Try.prog 50 #[.pointer (some ⟨xb, 0, none⟩), .int .i64 (k : Int), .func (.func 51) #[] #[.pointer (some ⟨wr.heap.size, 0, none⟩), .pointer (some ⟨kg, 0, none⟩), .pointer (some ⟨kc, 0, none⟩)]] (wr.alloc (.cells #[.int .i64 (k : Int)] 3)) (fun e w' => e = .returned (.tuple #[]) ∧ ∃ (G2 : Nat → List Nat) (cnt2 : Nat), PrT w1 kg gg kc L.length G2 cnt2 w' ∧ GOk L (k + 1) G2 ∧ cnt2 ≤ (k + 1) * L.length)) := Lib.hid (by
        obtain ⟨hT, hG, hc⟩ := HS.out
        have hb := below_alloc wr (.cells #[.int .i64 (k : Int)] 3)
        have hcl : cnt ≤ 40000 := Nat.le_trans hc (Nat.le_trans (Nat.mul_le_mul (by omega) hL) (by decide : 200 * 200 ≤ 40000))
        have hPS := hT.on hb (Nat.le_refl _) (i := k) (by go_simp)
        have hJ : PrJ w1 kg gg kc wr.heap.size L.length k G cnt (fun j => j < w1.heap.size) [] (wr.alloc (.cells #[.int .i64 (k : Int)] 3)) := ⟨hPS, by omega, fun l => by have := hG.len (by omega) l; omega, hkn, by omega⟩
        refine (partners_any HI.out HM.out (pairs1_use w1 kg gg kc wr.heap.size L.length k G cnt) (prj_grow _ _ _ _ _ _ _ _ _) (Nat.le_trans hT.bl.size hb.size) hJ (fun j hj => ⟨hj, hPS.bl.block j hj⟩) (Nat.le_refl _) (by simp; omega) k hkn).mono ?_
        rintro e w' ⟨h1, S, h2, h3, h4, h5, h6⟩
        rw [List.nil_append] at h5
        have hgs : gg < w'.heap.size := by
          obtain ⟨ρ, _, _, _, _, _, r6⟩ := h5.s.st
          obtain ⟨v, c, _⟩ := r6 k hkn
          exact World.block_lt_of_cell? w' _ c
        exact ⟨h1, _, _, h5.s.off hgs, hG.next h2 h4, by rw [Nat.succ_mul]; exact Nat.add_le_add hc h3⟩)
      clear HS
      go_wp2_with (go_at_call 50; refine HPt.out.mono ?_; rintro e w2 ⟨rfl, G2, cnt2, h2⟩; have HS2 := Lib.hid h2; clear h2)
      go_roundg gr
      case measure => omega
      case rel => exact ⟨k + 1, G2, cnt2, by omega, by push_cast; rfl, HS2⟩
end Go.Proofs.Ytenfaejdnphngaa
