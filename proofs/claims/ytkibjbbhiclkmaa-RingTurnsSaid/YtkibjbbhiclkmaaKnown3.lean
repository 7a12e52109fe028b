/- The chapter's example of layer 3. -/
import Derived.Test.YtkibjbbhiclkmaaSimple
import Derived.Test.YtkibjbbhiclkmaaBeside
import Derived.Test.YtkibjbbhiclkmaaRingArea
namespace Go.Proofs.Ytkibjbbhiclkmaa
open Go.RowKit Go.Sort

def exL : List (Int × Int) := [(0, 0), (4, 0), (4, 4), (0, 4)]
theorem ex3a : winN exL (2, 2) = 1 ∧ winOk exL (2, 2) = true ∧ winOk exL (4, 2) = false := by decide +kernel
theorem ex3b : besN exL (0, 0) (4, 0) = 1 ∧ besOk exL (0, 0) (4, 0) = true := by decide +kernel
theorem ex3c : besN exL (4, 0) (0, 0) = 0 ∧ besOk exL (4, 0) (0, 0) = true := by decide +kernel
theorem ex3d : areaV exL = 32 := by decide +kernel
theorem ex3e : simB exL = true := by decide +kernel
theorem ex_pl (w : World) : PL (w.alloc (.cells #[.int .i64 0, .int .i64 0, .int .i64 4, .int .i64 0, .int .i64 4, .int .i64 4, .int .i64 0, .int .i64 4] 24)) (.slice (some ⟨w.heap.size, 0, none⟩) 4 4) exL := by
  refine ⟨_, _, rfl, by decide, fun i hi => ⟨w.heap.size, 0, rfl, by simp, ?_⟩⟩
  match i, hi with
  | 0, _ => exact ⟨by go_simp; rfl, by go_simp; rfl⟩
  | 1, _ => exact ⟨by go_simp; rfl, by go_simp; rfl⟩
  | 2, _ => exact ⟨by go_simp; rfl, by go_simp; rfl⟩
  | 3, _ => exact ⟨by go_simp; rfl, by go_simp; rfl⟩
structure ExAt (b : Nat) (W : World) : Prop where
  c0 : W.cell? ⟨b, 0, none⟩ = some (.int .i64 0)
  c1 : W.cell? ⟨b, 1, none⟩ = some (.int .i64 0)
  c2 : W.cell? ⟨b, 2, none⟩ = some (.int .i64 4)
  c3 : W.cell? ⟨b, 3, none⟩ = some (.int .i64 0)
theorem ExAt.later {b : Nat} {W w1 : World} (h : ExAt b W) (hb : Below W.heap.size W w1) : ExAt b w1 := ⟨cell_later hb h.c0, cell_later hb h.c1, cell_later hb h.c2, cell_later hb h.c3⟩
theorem bes_ex (A B : Int × Int) (b : Nat) (W : World) (d : Nat) (os : Array Obj) (h : PL W (.slice (some ⟨b, 0, none⟩) 4 4) exL) :
    Calls Try.prog 20 #[.slice (some ⟨b, 0, none⟩) 4 4, .agg #[.int .i64 A.1, .int .i64 A.2], .agg #[.int .i64 B.1, .int .i64 B.2]] (grow (redrawn W d) os) fun e w'' => e = .returned (.tuple #[.int .i64 (besN exL A B), .bool (besOk exL A B)]) ∧ ∃ p : Regrown, w'' = grow (redrawn W p.d) p.os :=
  Calls.regrown_of (beside_any _ exL A B (grow (redrawn W d) os) (by decide) (h.keep (below_regrown W d os)))

set_option maxRecDepth 100000 in
set_option maxHeartbeats 4000000 in
theorem known3_yes (w : World) : Calls Try.prog 22 #[] w fun e w' => e = .returned (.bool true) ∧ Below w.heap.size w w' := by
  have hmx : Try.prog.follows .mixedOrders = true := by kernel_rfl
  have HP0 := Lib.hid (ex_pl w)
  have HE0 : Hid (ExAt w.heap.size (w.alloc (.cells #[.int .i64 0, .int .i64 0, .int .i64 4, .int .i64 0, .int .i64 4, .int .i64 4, .int .i64 0, .int .i64 4] 24))) := Lib.hid ⟨by go_simp, by go_simp, by go_simp, by go_simp⟩
  have HB0 := Lib.hid (b1 w (.cells #[.int .i64 0, .int .i64 0, .int .i64 4, .int .i64 0, .int .i64 4, .int .i64 4, .int .i64 0, .int .i64 4] 24))
  go_enter Try.func22, Try.ntmps22
  go_wp2_with fail
  refine (winding_any _ exL (2, 2) _ (by decide) HP0.out).mono ?_
  rintro e w1 ⟨rfl, hb1⟩
  rw [ex3a.1, ex3a.2.1]
  have HP1 := Lib.hid (HP0.out.keep hb1)
  have HB1 := Lib.hid (HB0.out.trans (hb1.mono HB0.out.size))
  clear HP0
  go_wp2_with fail
  refine (winding_any _ exL (4, 2) _ (by decide) HP1.out).mono ?_
  rintro e w2 ⟨rfl, hb2⟩
  rw [ex3a.2.2]
  have HP2 := Lib.hid (HP1.out.keep hb2)
  have HB2 := Lib.hid (HB1.out.trans (hb2.mono HB1.out.size))
  clear HP1
  generalize winN exL (4, 2) = n2 at *
  have HE2 := Lib.hid ((HE0.out.later hb1).later hb2)
  obtain ⟨d0, d1, d2, d3⟩ := HE2.out
  have r0 := fun d os => cell_regrown d0 d os
  have r1 := fun d os => cell_regrown d1 d os
  have r2 := fun d os => cell_regrown d2 d os
  have r3 := fun d os => cell_regrown d3 d os
  have KB := Lib.hid (fun d os => bes_ex (0, 0) (4, 0) w.heap.size w2 d os HP2.out)
  rw [ex3b.1, ex3b.2] at KB
  clear d0 d1 d2 d3 hb1 hb2
  go_wp2_with fail
  refine wp_region_quiet_below (by assumption) (by kernel_rfl) ?_
  repeat (go_big_quiet_step ((go_at_call 20; with_reducible exact KB.out _ _)))
  refine wpQuiet_nil ?_
  rintro _ ⟨pg, rfl⟩
  have HP3 := Lib.hid (HP2.out.keep (below_regrown w2 pg.d pg.os))
  have HB3 := Lib.hid (HB2.out.trans ((below_regrown w2 pg.d pg.os).mono HB2.out.size))
  have HE3 := Lib.hid (HE2.out.later (below_regrown w2 pg.d pg.os))
  clear r0 r1 r2 r3 KB
  generalize grow (redrawn w2 pg.d) pg.os = w3 at *
  obtain ⟨d0, d1, d2, d3⟩ := HE3.out
  have r0 := fun d os => cell_regrown d0 d os
  have r1 := fun d os => cell_regrown d1 d os
  have r2 := fun d os => cell_regrown d2 d os
  have r3 := fun d os => cell_regrown d3 d os
  have KB := Lib.hid (fun d os => bes_ex (4, 0) (0, 0) w.heap.size w3 d os HP3.out)
  rw [ex3c.1, ex3c.2] at KB
  clear d0 d1 d2 d3
  go_wp2_with fail
  refine wp_region_quiet_below (by assumption) (by kernel_rfl) ?_
  repeat (go_big_quiet_step ((go_at_call 20; with_reducible exact KB.out _ _)))
  refine wpQuiet_nil ?_
  rintro _ ⟨pg2, rfl⟩
  have HP4 := Lib.hid (HP3.out.keep (below_regrown w3 pg2.d pg2.os))
  have HB4 := Lib.hid (HB3.out.trans ((below_regrown w3 pg2.d pg2.os).mono HB3.out.size))
  clear r0 r1 r2 r3 KB
  generalize grow (redrawn w3 pg2.d) pg2.os = w4 at *
  go_wp2_with fail
  refine (area_any _ exL _ (by decide) HP4.out).mono ?_
  rintro e w5 ⟨rfl, hb5⟩
  rw [ex3d]
  have HP5 := Lib.hid (HP4.out.keep hb5)
  have HB5 := Lib.hid (HB4.out.trans (hb5.mono HB4.out.size))
  clear hb5
  go_wp2_with fail
  refine (simple_any _ exL _ (by decide) HP5.out).mono ?_
  rintro e w6 ⟨rfl, hb6⟩
  rw [ex3e]
  have HB6 := Lib.hid (HB5.out.trans (hb6.mono HB5.out.size))
  clear hb6
  go_wp2_with fail
  go_ret
  exact ⟨rfl, HB6.out⟩
end Go.Proofs.Ytkibjbbhiclkmaa
