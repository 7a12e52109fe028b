/- The walk of around , for the closures of Winding. (Written by mk_around.py.) -/
import Derived.Test.YtkibjbbhiclkmaaCountW
import Derived.Laws.EntriesVeiled
namespace Go.Proofs.Ytkibjbbhiclkmaa
open Go.RowKit Go.Shelf Go.Sort
attribute [local go_sem] Oper.semAt_some


def anyE (hs : Int × Int → Int × Int → Bool) (L : List (Int × Int)) : Bool := (upto (edA L) L.length).any (fun x => hs x.1 x.2)
def arB (hs : Int × Int → Int × Int → Bool) (L : List (Int × Int)) : Bool := !anyE hs L
def hwE (ab : Int × Int → Bool) (lf : Int × Int → Int × Int → Bool) (x : (Int × Int) × (Int × Int)) : Int := hW (ab x.1) (ab x.2) (lf x.1 x.2)
def arN (ab : Int × Int → Bool) (hs lf : Int × Int → Int × Int → Bool) (L : List (Int × Int)) : Int := if anyE hs L then 0 else sumE (hwE ab lf) (upto (edA L) L.length)
/-- Blocks that around has made. -/
structure ArW (w W : World) (P : Nat) (t : Int) : Prop where
  spot : W.heap[w.heap.size]? = some (.cells #[.func (.func 57) #[] #[.pointer (some ⟨P, 0, none⟩)], .func (.func 58) #[] #[.pointer (some ⟨P, 0, none⟩)], .func (.func 60) #[] #[.pointer (some ⟨P, 0, none⟩)]] 81)
  turns : Boxed W (w.heap.size + 1 + 1 + 1) 3 (.int .i64 t)
  fn : Boxed W (w.heap.size + 1 + 1 + 1 + 1) 107 (.func (.func 95) #[] #[.pointer (some ⟨w.heap.size, 0, none⟩), .pointer (some ⟨w.heap.size + 1 + 1 + 1, 0, none⟩)])
  res1 : Boxed W (w.heap.size + 1) 3 (.int .i64 0)
  res2 : Boxed W (w.heap.size + 1 + 1) 4 (.bool false)
  below : Below w.heap.size w W

theorem ArW.later {w W w1 : World} {P : Nat} {t : Int} (h : ArW w W P t) (hb : Below W.heap.size W w1) : ArW w w1 P t :=
  ⟨hp_below hb h.spot, hp_below hb h.turns, hp_below hb h.fn, hp_below hb h.res1, hp_below hb h.res2, h.below.trans (hb.mono h.below.size)⟩
theorem ArW.own {w A B : World} {P : Nat} {t : Int} {C : Nat} {row : Option Nat} (h : ArW w A P t) (hC : w.heap.size ≤ C) (hg : A.grownBy B row) (hr : ∀ r, row = some r → C ≤ r ∧ ∃ o : Obj, A.heap[r]? = some o ∧ o.isCells = false) : ArW w B P t :=
  ⟨(heap_own _ _ rfl).from C () A B row h.spot hg hr, (heap_own _ _ rfl).from C () A B row h.turns hg hr, (heap_own _ _ rfl).from C () A B row h.fn hg hr, (heap_own _ _ rfl).from C () A B row h.res1 hg hr, (heap_own _ _ rfl).from C () A B row h.res2 hg hr,
    ownFrom_below (Nat.le_refl _) hC () A B row h.below hg hr⟩

theorem ArW.spot_cells {w W : World} {P : Nat} {t : Int} (h : ArW w W P t) : SpW W w.heap.size P := by
  have h0 := h.spot
  exact ⟨by simp [World.cell?, h0], by simp [World.cell?, h0], by simp [World.cell?, h0]⟩
theorem ArW.set1 {w W : World} {P : Nat} {t : Int} (h : ArW w W P t) (u : Value) (hu : u = .int .i64 0 := by rfl) : ArW w (W.setCell ⟨w.heap.size + 1, 0, none⟩ u) P t := by
  subst hu
  have hg := grownBy_setCell' W (w.heap.size + 1) (.int .i64 0)
  exact ⟨hp_grown hg h.spot (by intro e; injection e with e; omega), hp_grown hg h.turns (by intro e; injection e with e; omega), hp_grown hg h.fn (by intro e; injection e with e; omega), h.res1.set _, hp_grown hg h.res2 (by intro e; injection e with e; omega), h.below.setCell (p := ⟨w.heap.size + 1, 0, none⟩) (by show _ ≤ w.heap.size + 1; omega) _⟩
theorem ArW.set2 {w W : World} {P : Nat} {t : Int} (h : ArW w W P t) (u : Value) (hu : u = .bool false := by rfl) : ArW w (W.setCell ⟨w.heap.size + 1 + 1, 0, none⟩ u) P t := by
  subst hu
  have hg := grownBy_setCell' W (w.heap.size + 1 + 1) (.bool false)
  exact ⟨hp_grown hg h.spot (by intro e; injection e with e; omega), hp_grown hg h.turns (by intro e; injection e with e; omega), hp_grown hg h.fn (by intro e; injection e with e; omega), hp_grown hg h.res1 (by intro e; injection e with e; omega), h.res2.set _, h.below.setCell (p := ⟨w.heap.size + 1 + 1, 0, none⟩) (by show _ ≤ w.heap.size + 1 + 1; omega) _⟩
theorem hW_in (a b c : Bool) : -1 ≤ hW a b c ∧ hW a b c ≤ 1 := by cases a <;> cases b <;> cases c <;> simp [hW]

set_option maxRecDepth 100000 in
set_option maxHeartbeats 4000000 in
theorem aroundW_any (w : World) (P : Nat) (ab : Int × Int → Bool) (hs lf : Int × Int → Int × Int → Bool)
    (KA : Hid (∀ (V : World) (p : Int × Int), Below w.heap.size w V → Calls Try.prog 57 #[.agg #[.int .i64 p.1, .int .i64 p.2], .pointer (some ⟨P, 0, none⟩)] V fun e w' => e = .returned (.bool (ab p)) ∧ Below V.heap.size V w'))
    (KH : Hid (∀ (V : World) (p q : Int × Int), Below w.heap.size w V → Calls Try.prog 58 #[.agg #[.int .i64 p.1, .int .i64 p.2], .agg #[.int .i64 q.1, .int .i64 q.2], .pointer (some ⟨P, 0, none⟩)] V fun e w' => e = .returned (.bool (hs p q)) ∧ Below V.heap.size V w'))
    (KL : Hid (∀ (V : World) (p q : Int × Int), Below w.heap.size w V → Calls Try.prog 60 #[.agg #[.int .i64 p.1, .int .i64 p.2], .agg #[.int .i64 q.1, .int .i64 q.2], .pointer (some ⟨P, 0, none⟩)] V fun e w' => e = .returned (.bool (lf p q)) ∧ Below V.heap.size V w'))
    (v : Value) (L : List (Int × Int)) (hL : L.length ≤ 1000) (hI : PL w v L) :
    Calls Try.prog 56 #[v, .agg #[.func (.func 57) #[] #[.pointer (some ⟨P, 0, none⟩)], .func (.func 58) #[] #[.pointer (some ⟨P, 0, none⟩)], .func (.func 60) #[] #[.pointer (some ⟨P, 0, none⟩)]]] w fun e w' => e = .returned (.tuple #[.int .i64 (arN ab hs lf L), .bool (arB hs L)]) ∧ Below w.heap.size w w' := by
  obtain ⟨p, cap, rfl, hcap, hi⟩ := id hI
  have HI := Lib.hid hI
  clear hI
  refine (callsIn_wide (n := 4)).1 ?_
  refine callsIn_of_wp_marks Try.func56 rfl trivial ?_ rfl
  simp only [Try.ntmps56, List.size_toArray, List.length_cons, List.length_nil, Nat.reduceAdd, Nat.reduceSub, Array.replicate_succ, Array.replicate_zero, List.push_toArray, List.append_toArray, List.nil_append, List.cons_append]
  gi_wp2_with fail
  refine ⟨trivial, (callsIn_wide.2 (edges_any _ _ _ _)).mono ?_⟩
  rintro e w2 ⟨rfl, rfl⟩
  gi_wp2_with fail
  generalize hW0 : ((((((w.alloc (.cells #[.func (.func 57) #[] #[.pointer (some ⟨P, 0, none⟩)], .func (.func 58) #[] #[.pointer (some ⟨P, 0, none⟩)], .func (.func 60) #[] #[.pointer (some ⟨P, 0, none⟩)]] 81)).alloc (.cells #[.int .i64 0] 3)).alloc (.cells #[.bool false] 4)).alloc (.cells #[.int .i64 0] 3)).alloc (.cells #[.func (.func 95) #[] #[.pointer (some ⟨w.heap.size, 0, none⟩), .pointer (some ⟨w.heap.size + 1 + 1 + 1, 0, none⟩)]] 107)).alloc (.cells #[.slice p L.length cap] 22)) = W0
  have hb6 : Below w.heap.size w W0 := by
    subst hW0
    exact (b5 _ _ _ _ _ _).trans ((b1 _ _).mono (by simp <;> omega))
  have hsz0 : W0.heap.size = w.heap.size + 1 + 1 + 1 + 1 + 1 + 1 := by subst hW0; simp
  have hE0 : W0.cell? ⟨w.heap.size + 1 + 1 + 1 + 1 + 1, 0, none⟩ = some (.slice p L.length cap) := by subst hW0; go_simp
  have hA0 : ArW w W0 P 0 := by
    subst hW0
    refine ⟨?_, ?_, ?_, ?_, ?_, hb6⟩
    · exact hp_alloc (hp_alloc (hp_alloc (hp_alloc (hp_alloc (heap_alloc_new w _)))))
    · exact hp_alloc (hp_alloc (hp_new (by simp)))
    · exact hp_alloc (hp_new (by simp))
    · exact hp_alloc (hp_alloc (hp_alloc (hp_alloc (hp_new (by simp)))))
    · exact hp_alloc (hp_alloc (hp_alloc (hp_new (by simp))))
  clear hW0
  have hPL := HI.out.keep hb6
  have hpw : ∀ q : Nat, (Value.slice p L.length cap).ownBlock = some q → L ≠ [] → q < w.heap.size := by
    intro q hq hne
    obtain ⟨b, off, rfl, hb, _, _⟩ := hi 0 (List.length_pos_iff.2 hne)
    simp only [Value.ownBlock, Option.some.injEq] at hq
    omega
  refine wpIn_rangeFunc_ownH rfl (by omega) (gf := 104) (lb := #[.pointer (some ⟨w.heap.size + 1 + 1 + 1 + 1 + 1, 0, none⟩)]) rfl trivial (enters_of Try.func104 (by kernel_rfl) rfl)
    (edges_stops 3 (by omega) (w.heap.size + 1 + 1 + 1 + 1 + 1) w.heap.size _ L (by omega) W0 (by omega) hE0 hPL hpw) EK.trans (EK.putObj (by omega)) (Below.refl _ _) (fun _ => rfl)
    (fun pre W => ArW w W P (sumE (hwE ab lf) pre) ∧ ∀ x ∈ pre, hs x.1 x.2 = false)
    (fun c pre W => (c = .ret ∧ ∃ ini last, pre = ini ++ [last] ∧ hs last.1 last.2 = true) ∧ ArW w W P (sumE (hwE ab lf) pre.dropLast))
    (OwnFrom.and (fun pre A B row h hg hr => h.own (by omega) hg hr) (ownFrom_pure _ (fun pre : List ((Int × Int) × (Int × Int)) => ∀ x ∈ pre, hs x.1 x.2 = false)))
    (fun c => OwnFrom.and (ownFrom_pure _ (fun pre : List ((Int × Int) × (Int × Int)) => c = .ret ∧ ∃ ini last, pre = ini ++ [last] ∧ hs last.1 last.2 = true)) (fun pre A B row h hg hr => h.own (by omega) hg hr))
    ⟨hA0, fun x hx => by cases hx⟩
    (fun x a' W => ∃ Bx By, PtB W Bx x.1 ∧ PtB W By x.2 ∧ a' = { tmps := #[.slice p L.length cap, .agg #[.func (.func 57) #[] #[.pointer (some ⟨P, 0, none⟩)], .func (.func 58) #[] #[.pointer (some ⟨P, 0, none⟩)], .func (.func 60) #[] #[.pointer (some ⟨P, 0, none⟩)]], undef, .pointer (some ⟨w.heap.size, 0, none⟩), .pointer (some ⟨w.heap.size + 1, 0, none⟩), .pointer (some ⟨w.heap.size + 1 + 1, 0, none⟩), .pointer (some ⟨w.heap.size + 1 + 1 + 1, 0, none⟩), .pointer (some ⟨w.heap.size + 1 + 1 + 1 + 1, 0, none⟩), .pointer (some ⟨Bx, 0, none⟩), .pointer (some ⟨By, 0, none⟩), .func (.func 95) #[] #[.pointer (some ⟨w.heap.size, 0, none⟩), .pointer (some ⟨w.heap.size + 1 + 1 + 1, 0, none⟩)], .slice p L.length cap, .func (.func 104) #[] #[.pointer (some ⟨w.heap.size + 1 + 1 + 1 + 1 + 1, 0, none⟩)], .agg #[.int .i64 x.1.1, .int .i64 x.1.2], .agg #[.int .i64 x.2.1, .int .i64 x.2.2], undef, undef, undef, undef, undef, undef, undef, undef, undef, undef], defers := [] })
    ?hAx ?assign ?body ?done ?stop
  case hAx =>
    rintro x a' s X Y row ⟨Bx, By, h3, h4, h5⟩ hg hrow
    exact ⟨Bx, By, (heap_own Bx _ rfl).from _ () X Y row h3 hg hrow, (heap_own By _ rfl).from _ () X Y row h4 hg hrow, h5⟩
  case assign =>
    rintro l pre x W K hi hK
    dsimp only [encE]
    gi_wp2
    refine hK _ _ (((KeepsOthers.alloc _ _).trans (KeepsOthers.alloc _ _)).from _) ⟨(b2 W _ _).mono hi.1.below.size, fun y hy => cell_later (b2 W _ _) hy⟩ ⟨hi.1.later (b2 W _ _), hi.2⟩ ⟨W.heap.size, W.heap.size + 1, ?_, ?_, rfl⟩
    · exact hp_alloc (heap_alloc_new W _)
    · exact hp_new (by simp)
  case body =>
    rintro l pre x a' W hl ⟨r, hr⟩ ⟨hAr, hno⟩ ⟨Bx, By, h3, h4, rfl⟩ hlt
    have hAR := Lib.hid hAr
    have hNO := Lib.hid hno
    obtain ⟨s0, s1, s2⟩ := hAr.spot_cells
    obtain ⟨f0, f1⟩ := h3.cells
    obtain ⟨t0, t1⟩ := h4.cells
    have hfn := hAr.fn.cell
    have KH0 := Lib.hid (KH.out W x.1 x.2 hAr.below)
    have hin := sumE_in (hwE ab lf) 1 (fun y => hW_in _ _ _) pre
    have hpl : pre.length ≤ 1000 := by omega
    cases hh : hs x.1 x.2
    · rw [hh] at KH0
      have HH := Lib.hid hh
      clear hh hno hAr hPL hA0 hb6 hE0
      gi_wp2_with fail
      refine ⟨trivial, (CallsIn.inRound l (callsIn_wide.2 KH0.out)).mono ?_⟩
      rintro e W1 ⟨rfl, hb1⟩
      have A1 := Lib.hid (hAR.out.later hb1)
      have c0 := cell_later hb1 f0
      have c1 := cell_later hb1 f1
      have c2 := cell_later hb1 t0
      have c3 := cell_later hb1 t1
      have c4 := cell_later hb1 hfn
      have HB1 := Lib.hid hb1
      clear s0 s1 s2 f0 f1 t0 t1 hfn hb1 KH0
      gi_wp2_with fail
      refine ⟨trivial, (CallsIn.inRound l (callsIn_wide.2 (countW_any w P ab lf KA KL x.1 x.2 w.heap.size (w.heap.size + 1 + 1 + 1) (sumE (hwE ab lf) pre) W1 A1.out.below A1.out.spot_cells A1.out.turns (by omega)))).mono ?_⟩
      rintro e W2 ⟨rfl, hbx, hg⟩
      have hsW := hAR.out.below.size
      have hlt1 : w.heap.size + 1 + 1 + 1 < W1.heap.size := A1.out.turns.lt
      have hbg : Below w.heap.size W1 W2 := (Below.refl _ _).grown hg A1.out.below.size (fun q hq => by cases hq; omega)
      have HR : Hid (KeepsFrom W0.heap.size W W2 ∧ EK w.heap.size (w.heap.size + 1 + 1 + 1 + 1 + 1) W W2 ∧ ArW w W2 P (sumE (hwE ab lf) (pre ++ [x])) ∧ ∀ y ∈ pre ++ [x], hs y.1 y.2 = false) := by
        refine Lib.hid ⟨((keepsOthers_below HB1.out).trans (KeepsOthers.of_grownBy hg (fun j o e ho => by cases e; rw [show W1.heap[w.heap.size + 1 + 1 + 1]? = _ from A1.out.turns] at ho; cases ho; rfl))).from _, ⟨(HB1.out.mono hsW).trans hbg, fun y hy => ?_⟩, ?_, fun y hy => ?_⟩
        · have h5 := cell_later HB1.out hy
          rw [World.cell?_of_block (hg.block _ (World.block_lt_of_cell? W1 _ h5) (by intro e; injection e with e; simp only [] at e; omega))]; exact h5
        · rw [sumE_snoc]
          exact ⟨hp_grown hg A1.out.spot (by intro e; injection e with e; omega), hbx, hp_grown hg A1.out.fn (by intro e; injection e with e; omega), hp_grown hg A1.out.res1 (by intro e; injection e with e; omega), hp_grown hg A1.out.res2 (by intro e; injection e with e; omega), A1.out.below.trans hbg⟩
        · rw [List.mem_append, List.mem_singleton] at hy
          rcases hy with hy | rfl
          · exact hNO.out y hy
          · exact HH.out
      clear hbx hg hbg c0 c1 c2 c3 c4
      gi_wp2
      exact HR.out
    · rw [hh] at KH0
      have HH := Lib.hid hh
      clear hh hno hAr hPL hA0 hb6 hE0
      gi_wp2_with fail
      refine ⟨trivial, (CallsIn.inRound l (callsIn_wide.2 KH0.out)).mono ?_⟩
      rintro e W1 ⟨rfl, hb1⟩
      have A1 := Lib.hid (hAR.out.later hb1)
      have d0 := A1.out.res1.cell
      have d1 := A1.out.res1.frozen
      have d2 := A1.out.res2.cell
      have d3 := A1.out.res2.frozen
      have HB1 := Lib.hid hb1
      clear s0 s1 s2 f0 f1 t0 t1 hfn hb1 KH0
      gi_wp2_with fail
      refine ⟨((keepsOthers_below HB1.out).trans ((KeepsOthers.setCell _ _ _).trans (KeepsOthers.setCell _ _ _))).from _, ⟨rfl, pre, x, rfl, HH.out⟩, ?_⟩
      rw [List.dropLast_concat]
      exact (A1.out.set1 _).set2 _
  case done =>
    rintro D ys W hD rfl ⟨hAr, hno⟩ hK
    have d0 := hAr.res1.cell
    have d1 := hAr.res1.frozen
    have d2 := hAr.res2.cell
    have d3 := hAr.res2.frozen
    have d4 := hAr.turns.cell
    have HA := Lib.hid hAr
    have HN : Hid (arN ab hs lf L = sumE (hwE ab lf) (upto (edA L) L.length) ∧ arB hs L = true) := Lib.hid (by
      have h0 : anyE hs L = false := by unfold anyE; rw [List.any_eq_false]; intro y hy; rw [hno y hy]; simp
      unfold arN arB; rw [h0]; exact ⟨rfl, rfl⟩)
    clear hAr hno hPL hA0 hb6 hE0
    generalize sumE (hwE ab lf) (upto (edA L) L.length) = sq at *
    gi_wp2
    have hK1 := (KeepsOthers.setCell W ⟨w.heap.size + 1, 0, none⟩ (.int .i64 sq)).same D _ hK rfl
    have hK2 := (KeepsOthers.setCell (W.setCell ⟨w.heap.size + 1, 0, none⟩ (.int .i64 sq)) ⟨w.heap.size + 1 + 1, 0, none⟩ (.bool true)).same D _ hK1 rfl
    have e1 : ((W.setCell ⟨w.heap.size + 1, 0, none⟩ (.int .i64 sq)).setCell ⟨w.heap.size + 1 + 1, 0, none⟩ (.bool true)).cell? ⟨w.heap.size + 1, 0, none⟩ = some (.int .i64 sq) := by
      rw [World.cell?_setCell_far _ _ _ _ (by show w.heap.size + 1 + 1 ≠ w.heap.size + 1; omega)]
      exact World.cell?_setCell_same _ _ _ d0
    have e2 : ((W.setCell ⟨w.heap.size + 1, 0, none⟩ (.int .i64 sq)).setCell ⟨w.heap.size + 1 + 1, 0, none⟩ (.bool true)).cell? ⟨w.heap.size + 1 + 1, 0, none⟩ = some (.bool true) :=
      World.cell?_setCell_same _ _ _ (by rw [World.cell?_setCell_far _ _ _ _ (by show w.heap.size + 1 ≠ w.heap.size + 1 + 1; omega)]; exact d2)
    have hbl : Below w.heap.size w ((W.setCell ⟨w.heap.size + 1, 0, none⟩ (.int .i64 sq)).setCell ⟨w.heap.size + 1 + 1, 0, none⟩ (.bool true)) :=
      (HA.out.below.setCell (p := ⟨w.heap.size + 1, 0, none⟩) (by show _ ≤ w.heap.size + 1; omega) _).setCell (p := ⟨w.heap.size + 1 + 1, 0, none⟩) (by show _ ≤ w.heap.size + 1 + 1; omega) _
    generalize (W.setCell ⟨w.heap.size + 1, 0, none⟩ (.int .i64 sq)).setCell ⟨w.heap.size + 1 + 1, 0, none⟩ (.bool true) = W' at *
    refine ⟨by simp, .inl ⟨_, _, rfl, run_takeDeferred hK2, ?_⟩⟩
    have hc5 := cell_kept e1 (grownBy_putObj' _ D (.deferred none)) (fun r e => by cases e; exact ⟨_, hK2, rfl⟩)
    have hc6 := cell_kept e2 (grownBy_putObj' _ D (.deferred none)) (fun r e => by cases e; exact ⟨_, hK2, rfl⟩)
    refine ⟨.tuple #[.int .i64 sq, .bool true], ?_, by rw [HN.out.1, HN.out.2], hbl.trans (belowK_b (w := w) (Nat.le_refl _) _ D _ _ (by omega) hK2 rfl rfl)⟩
    simp [results, Try.f56, go_sem, hc5, hc6]
  case stop =>
    rintro D c pre W hD ⟨k, hk, hpre⟩ ⟨⟨rfl, ini, last, rfl, hl⟩, hAr⟩ hK
    have HN : Hid (arN ab hs lf L = 0 ∧ arB hs L = false) := Lib.hid (by
      have h0 : anyE hs L = true := by
        unfold anyE
        rw [List.any_eq_true]
        refine ⟨last, ?_, hl⟩
        have hm : last ∈ upto (edA L) k := by rw [← hpre]; simp
        unfold upto at hm ⊢
        rw [List.mem_map] at hm ⊢
        obtain ⟨y, hy, rfl⟩ := hm
        rw [List.mem_range] at hy
        exact ⟨y, List.mem_range.2 (by omega), rfl⟩
      unfold arN arB; rw [h0]; exact ⟨rfl, rfl⟩)
    have e1 := hAr.res1.cell
    have e2 := hAr.res2.cell
    have hbl := hAr.below
    clear hAr hPL hA0 hb6 hE0
    gi_wp2
    refine ⟨by simp, .inl ⟨_, _, rfl, run_takeDeferred hK, ?_⟩⟩
    have hc5 := cell_kept e1 (grownBy_putObj' _ D (.deferred none)) (fun r e => by cases e; exact ⟨_, hK, rfl⟩)
    have hc6 := cell_kept e2 (grownBy_putObj' _ D (.deferred none)) (fun r e => by cases e; exact ⟨_, hK, rfl⟩)
    refine ⟨.tuple #[.int .i64 0, .bool false], ?_, by rw [HN.out.1, HN.out.2], hbl.trans (belowK_b (w := w) (Nat.le_refl _) _ D _ _ (by omega) hK rfl rfl)⟩
    simp [results, Try.f56, go_sem, hc5, hc6]
end Go.Proofs.Ytkibjbbhiclkmaa
