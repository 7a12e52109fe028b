/- The walk of ring.Area. -/
import Derived.Test.YtkibjbbhiclkmaaRing
namespace Go.Proofs.Ytkibjbbhiclkmaa
open Go.RowKit Go.Shelf Go.Sort
attribute [local go_sem] Oper.semAt_some

/-- The doubled area with a ring's first point. -/
def arE (o : Int × Int) (x : (Int × Int) × (Int × Int)) : Int := crV o.1 o.2 x.1.1 x.1.2 x.2.1 x.2.2
def areaV (L : List (Int × Int)) : Int := if L.length < 3 then 0 else if okL L then sumE (arE (ptA L 0)) (upto (edA L) L.length) else 0
/-- While the edges are gone through: the sum, and what was there. -/
def ArI (w1 : World) (S : Nat) (o : Int × Int) (pre : List ((Int × Int) × (Int × Int))) (W : World) : Prop := Boxed W S 3 (.int .i64 (sumE (arE o) pre)) ∧ Below S w1 W

set_option maxRecDepth 100000 in
set_option maxHeartbeats 4000000 in
theorem area_any (v : Value) (L : List (Int × Int)) (w : World) (hL : L.length ≤ 1000) (hI : PL w v L) :
    Calls Try.prog 34 #[v] w fun e w' => e = .returned (.int .i64 (areaV L)) ∧ Below w.heap.size w w' := by
  have hmx : Try.prog.follows .mixedOrders = true := by kernel_rfl
  obtain ⟨p, cap, rfl, hcap, hi⟩ := id hI
  by_cases h3 : L.length < 3
  · have hV : areaV L = 0 := by unfold areaV; rw [if_pos h3]
    have HV := Lib.hid hV
    clear hV hi
    go_enter Try.func34, Try.ntmps34
    go_wp2_with fail
    go_ret
    exact ⟨ret_int HV.out.symm, b1 _ _⟩
  · have HI := Lib.hid hI
    have hI1 := hI.keep (b1 w (.cells #[.slice p L.length cap] 22))
    cases hok : okL L
    · have hV : areaV L = 0 := by unfold areaV; rw [if_neg h3, hok]; rfl
      have HV := Lib.hid hV
      have KR := Lib.hid (right_pl hI1 (by omega))
      rw [hok] at KR
      clear hV hi hI hI1
      go_enter Try.func34, Try.ntmps34
      go_wp2_with fail
      refine KR.out.mono ?_
      rintro e w1 ⟨rfl, hb1⟩
      have HB := Lib.hid ((b1 _ _).trans (hb1.mono (by simp <;> omega)) : Below w.heap.size w w1)
      clear hb1
      go_wp2_with fail
      go_ret
      exact ⟨ret_int HV.out.symm, HB.out⟩
    · have hV : areaV L = sumE (arE (ptA L 0)) (upto (edA L) L.length) := by unfold areaV; rw [if_neg h3, hok]; rfl
      have HV := Lib.hid hV
      have KR := Lib.hid (right_pl hI1 (by omega))
      rw [hok] at KR
      obtain ⟨b, off, rfl, hb, p0, p1⟩ := hi 0 (by omega)
      clear hV hI1 hi hI
      refine (callsIn_wide (n := 4)).1 ?_
      refine callsIn_of_wp_marks Try.func34 rfl trivial ?_ rfl
      simp only [Try.ntmps34, List.size_toArray, List.length_cons, List.length_nil, Nat.reduceAdd, Nat.reduceSub, Array.replicate_succ, Array.replicate_zero, List.push_toArray, List.append_toArray, List.nil_append, List.cons_append]
      gi_wp2_with fail
      refine ⟨trivial, (callsIn_wide.2 KR.out).mono ?_⟩
      rintro e w1 ⟨rfl, hb1⟩
      have hB1 : Below w.heap.size w w1 := (b1 _ _).trans (hb1.mono (by simp <;> omega))
      have hbox : w1.cell? ⟨w.heap.size, 0, none⟩ = some (.slice (some ⟨b, off, none⟩) L.length cap) := cell_later hb1 (by go_simp)
      have hsz : w.heap.size < w1.heap.size := by have := hb1.size; simp at this; omega
      have HB1 := Lib.hid hB1
      have HBox := Lib.hid hbox
      clear hb1 KR hB1
      gi_wp2_with fail
      refine ⟨trivial, (callsIn_wide.2 (edges_any _ _ _ _)).mono ?_⟩
      rintro e w2 ⟨rfl, rfl⟩
      clear hbox
      gi_wp2_with fail
      have hB0 : Below w1.heap.size w1 ((w1.alloc (.cells #[.int .i64 0] 3)).alloc (.cells #[.slice (some ⟨b, off, none⟩) L.length cap] 22)) := b2 _ _ _
      have hPL := HI.out.keep (HB1.out.trans (hB0.mono HB1.out.size))
      refine wpIn_rangeFunc_ownH rfl (by omega) (gf := 104) (lb := #[.pointer (some ⟨w1.heap.size + 1, 0, none⟩)]) rfl trivial (enters_of Try.func104 (by kernel_rfl) rfl)
        (edges_stops 3 (by omega) (w1.heap.size + 1) w1.heap.size _ L (by omega) _ (by simp) (by go_simp) hPL (fun q hq _ => by simp only [Value.ownBlock, Option.some.injEq] at hq; omega)) EK.trans (EK.putObj (by simp <;> omega)) (Below.refl _ _) (fun _ => rfl)
        (fun pre W => ArI w1 w1.heap.size (ptA L 0) pre W)
        (fun _ _ _ => False)
        (OwnFrom.and (Own.from (boxed_own w1.heap.size 3 (fun pre => .int .i64 (sumE (arE (ptA L 0)) pre))) _) (ownFrom_below (Nat.le_refl _) (by simp <;> omega)))
        (fun _ _ _ _ _ hs _ _ => hs)
        ⟨(Boxed.new w1 3 (.int .i64 0)).alloc _, hB0⟩
        (fun x a' W => ∃ Bx By, PtB W Bx x.1 ∧ PtB W By x.2 ∧ a' = { tmps := #[.slice (some ⟨b, off, none⟩) L.length cap, .pointer (some ⟨w.heap.size, 0, none⟩), .int .i64 0, .pointer (some ⟨w1.heap.size, 0, none⟩), .pointer (some ⟨Bx, 0, none⟩), .pointer (some ⟨By, 0, none⟩), .slice (some ⟨b, off, none⟩) L.length cap, .int .i64 (L.length : Int), .bool (decide ((L.length : Int) < 3)), .bool (decide ((L.length : Int) < 3)), .slice (some ⟨b, off, none⟩) L.length cap, .bool true, .bool false, .bool (decide ((L.length : Int) < 3)), .slice (some ⟨b, off, none⟩) L.length cap, .func (.func 104) #[] #[.pointer (some ⟨w1.heap.size + 1, 0, none⟩)], .agg #[.int .i64 x.1.1, .int .i64 x.1.2], .agg #[.int .i64 x.2.1, .int .i64 x.2.2], undef, undef, undef, undef, undef, undef, undef, undef, undef], defers := [] })
        ?hAx ?assign ?body ?done ?stop
      case hAx =>
        rintro x a' s X Y row ⟨Bx, By, h3, h4, h5⟩ hg hrow
        exact ⟨Bx, By, (heap_own Bx _ rfl).from _ () X Y row h3 hg hrow, (heap_own By _ rfl).from _ () X Y row h4 hg hrow, h5⟩
      case assign =>
        rintro l pre x W K hi hK
        dsimp only [encE]
        gi_wp2
        have hg := (World.grownBy_alloc W (.cells #[.int .i64 x.1.1, .int .i64 x.1.2] 24) none)
        refine hK _ _ (((KeepsOthers.alloc _ _).trans (KeepsOthers.alloc _ _)).from _) ⟨(b2 W _ _).mono (by have := hi.2.size; omega), fun y hy => cell_later (b2 W _ _) hy⟩ ⟨(hi.1.alloc _).alloc _, hi.2.trans ((b2 W _ _).mono hi.2.size)⟩ ⟨W.heap.size, W.heap.size + 1, ?_, ?_, rfl⟩
        · exact hp_alloc (heap_alloc_new W _)
        · exact hp_new (by simp)
      case body =>
        rintro l pre x a' W hl ⟨r, hr⟩ ⟨hBx, hBl⟩ ⟨Bx, By, h3, h4, rfl⟩ hlt
        have s0 := hBx.cell
        have s1 := hBx.frozen
        have hA := (hBl.cell (p := ⟨w.heap.size, 0, none⟩) hsz).trans HBox.out
        have hbw := HB1.out.trans (hBl.mono (by omega))
        have q0 := (hbw.cell (p := ⟨b, off + 0 * 2, none⟩) hb).trans p0
        have q1 := (hbw.cell (p := ⟨b, off + 0 * 2 + 1, none⟩) hb).trans p1
        rw [Nat.zero_mul, Nat.add_zero] at q0 q1
        obtain ⟨f0, f1⟩ := h3.cells
        obtain ⟨t0, t1⟩ := h4.cells
        have HBl := Lib.hid hBl
        have HKC := Lib.hid (fun V => cross_any L[0].1 L[0].2 x.1.1 x.1.2 x.2.1 x.2.2 V)
        have HSn := Lib.hid (sumE_snoc (arE (ptA L 0)) pre x)
        have hin := sumE_in (arE (ptA L 0)) 2251799813685248 (fun y => crV_in _ _ _ _ _ _) pre
        have hcr := crV_in L[0].1 L[0].2 x.1.1 x.1.2 x.2.1 x.2.2
        have HE : Hid (arE (ptA L 0) x = crV L[0].1 L[0].2 x.1.1 x.1.2 x.2.1 x.2.2) := Lib.hid (by unfold arE; rw [ptA_at (by omega)])
        have hpl : (pre.length : Int) ≤ 1000 := by omega
        have hpm : (pre.length : Int) * 2251799813685248 ≤ 1000 * 2251799813685248 := Int.mul_le_mul_of_nonneg_right hpl (by omega)
        generalize sumE (arE (ptA L 0)) pre = sp at *
        generalize crV L[0].1 L[0].2 x.1.1 x.1.2 x.2.1 x.2.2 = cr at *
        have x1 : IntKind.i64.wrap (sp + cr) = sp + cr := IntWalk.i64_in _ (by omega)
        have r0 := fun d os => cell_regrown s0 d os
        have r1 := fun d os => cell_regrown hA d os
        have r2 := fun d os => cell_regrown q0 d os
        have r3 := fun d os => cell_regrown q1 d os
        have r4 := fun d os => cell_regrown f0 d os
        have r5 := fun d os => cell_regrown f1 d os
        have r6 := fun d os => cell_regrown t0 d os
        have r7 := fun d os => cell_regrown t1 d os
        clear hin hcr hpl hpm hA hbw q0 q1 f0 f1 t0 t1 hPL hB0 hBl p0 p1 h3 h4
        gi_wp2_with fail
        refine region_then (Open.round _ l) 8 hmx (by kernel_rfl) (C := fun w' => ∃ p : Regrown, w' = grow (redrawn W p.d) p.os) ⟨⟨W.drawn + 1, #[]⟩, by rw [grow_empty]; rfl⟩ ?_
        dsimp only [List.take, List.drop]
        repeat (go_big_quiet_step ((go_at_call 65; exact Calls.regrown_of (HKC.out _))))
        refine wpQuiet_nil ?_
        rintro _ ⟨pg, rfl⟩
        have hb2 := below_regrown W pg.d pg.os
        have u0 := r0 pg.d pg.os
        have u1 := (hb2.frozen (p := ⟨w1.heap.size, 0, none⟩) hBx.lt).trans s1
        have HB2 := Lib.hid hb2
        clear r0 r1 r2 r3 r4 r5 r6 r7 s0 s1 hb2
        generalize grow (redrawn W pg.d) pg.os = W2 at *
        gi_wp2
        have hbx2 : Boxed W2 w1.heap.size 3 (.int .i64 sp) := (HB2.out.block _ hBx.lt).trans hBx
        have hSW := HBl.out.size
        refine ⟨((keepsOthers_below HB2.out).trans (KeepsOthers.setCell _ _ _)).from _, ⟨(HB2.out.mono hSW).setCell (p := ⟨w1.heap.size, 0, none⟩) (Nat.le_refl _) _, fun y hy => ?_⟩, ?_, ?_⟩
        · rw [World.cell?_setCell_far _ _ _ _ (by show w1.heap.size ≠ w1.heap.size + 1; omega)]
          exact cell_later HB2.out hy
        · rw [HSn.out, HE.out]
          exact hbx2.set _
        · exact (HBl.out.trans (HB2.out.mono hSW)).setCell (p := ⟨w1.heap.size, 0, none⟩) (Nat.le_refl _) _
      case done =>
        rintro D ys W hD rfl ⟨hBx, hBl⟩ hK
        have hc := hBx.cell
        have hD' : w.heap.size ≤ D := by simp at hD; omega
        have HF : Hid (Below w.heap.size w (W.putObj D (.deferred none))) := Lib.hid ((HB1.out.trans (hBl.mono (by omega))).trans (belowK_b (w := w) (Nat.le_refl _) W D _ _ hD' hK rfl rfl))
        clear hBx hBl hPL hB0
        gi_wp2
        refine ⟨by simp, .inl ⟨_, _, rfl, run_takeDeferred hK, ?_⟩⟩
        exact ⟨_, results_tmp rfl _ _ _, by rw [HV.out]; rfl, HF.out⟩
      case stop =>
        rintro D c pre W _ _ h _
        exact h.elim
end Go.Proofs.Ytkibjbbhiclkmaa
