/- The walk of the document's On over a ring. -/
import Derived.Test.YtkibjbbhiclkmaaRefWind
import Derived.Test.YtkibjbbhiclkmaaSide
namespace Go.Proofs.Ytkibjbbhiclkmaa
open Go.RowKit Go.Sort

def onE (L : List (Int × Int)) (p : Int × Int) (i : Nat) : Bool := onI (ptA L i).1 (ptA L i).2 (ptA L ((i + 1) % L.length)).1 (ptA L ((i + 1) % L.length)).2 p.1 p.2
def RoPost (L : List (Int × Int)) (p : Int × Int) (w : World) (e : Ending) (w' : World) : Prop := ∃ b : Bool, e = .returned (.bool b) ∧ (b = true ↔ ∃ i, i < L.length ∧ onE L p i = true) ∧ Below w.heap.size w w'
theorem ron_ex (L : List (Int × Int)) (hok : okL L = true) (p : Int × Int) (hp : okp p.1 p.2 = true) (i : Nat) (W : World) (d : Nat) (os : Array Obj) :
    Calls Try.prog 62 #[.agg #[.int .i64 (ptA L i).1, .int .i64 (ptA L i).2], .agg #[.int .i64 (ptA L ((i + 1) % L.length)).1, .int .i64 (ptA L ((i + 1) % L.length)).2], .agg #[.int .i64 p.1, .int .i64 p.2]] (grow (redrawn W d) os)
      fun e w'' => e = .returned (.bool (onE L p i)) ∧ ∃ p : Regrown, w'' = grow (redrawn W p.d) p.os :=
  Calls.regrown_of (ron_any _ _ _ _ _ _ _ (by unfold ok3; rw [okL_pt hok, okL_pt hok, hp]; rfl))

set_option maxRecDepth 100000 in
set_option maxHeartbeats 4000000 in
theorem rons_any {w : World} {v : Value} {L : List (Int × Int)} (p : Int × Int) (hI : PL w v L) (hL : L.length ≤ 50) (hok : okL L = true) (hp : okp p.1 p.2 = true) :
    Calls Try.prog 18 #[v, .agg #[.int .i64 p.1, .int .i64 p.2]] w (RoPost L p w) := by
  have hmx : Try.prog.follows .mixedOrders = true := by kernel_rfl
  obtain ⟨pp, cap, rfl, hc, hi⟩ := hI
  have HI := Lib.hid hi
  clear hi
  have HO0 : Hid (OneP w (w.alloc (.cells #[.int .i64 p.1, .int .i64 p.2] 32)) p) := Lib.hid ⟨by go_simp, by go_simp, b1 _ _⟩
  go_enter Try.func18, Try.ntmps18
  go_wp2_with fail
  go_loopg [5] L.length (fun gk i wx => ∃ k : Nat, k + gk = L.length ∧ i = .int .i64 (k : Int) ∧ Hid (OneP w wx p) ∧ Hid (∀ x, x < k → onE L p x = false))
  case atStart => exact ⟨0, by omega, rfl, HO0, Lib.hid (by intro x h; omega)⟩
  case round =>
    obtain ⟨a, hag, rfl, HB, HN⟩ := hrel
    cases gk with
    | zero =>
      have haz : ¬ ((a : Int) < (L.length : Int)) := by omega
      have HF : Hid (false = true ↔ ∃ i, i < L.length ∧ onE L p i = true) := Lib.hid ⟨fun h => (by cases h), fun ⟨i, h1, h2⟩ => by rw [HN.out i (by omega)] at h2; exact h2⟩
      go_wp2_with fail
      go_ret
      exact ⟨false, rfl, HF.out, HB.out.below⟩
    | succ ga =>
      have haz : (a : Int) < (L.length : Int) := by omega
      have han : a < L.length := by omega
      obtain ⟨b, off, hpe, hpt⟩ := pl_pt HI.out (by omega) HB.out.below
      obtain ⟨j1, hj1⟩ : ∃ j, j = (a + 1) % L.length := ⟨_, rfl⟩
      have hn1 : j1 < L.length := by rw [hj1]; exact Nat.mod_lt _ (by omega)
      have KC0 := fun d os => ron_ex L hok p hp a wr d os
      rw [← hj1] at KC0
      have x1 : IntKind.i64.wrap ((a : Int) + 1) = (a : Int) + 1 := IntWalk.i64_in _ (by omega)
      have y1 : ((a : Int) + 1) % (L.length : Int) = (j1 : Int) := by
        rw [show ((a : Int) + 1) % (L.length : Int) = (((a + 1) % L.length : Nat) : Int) from by push_cast; rfl, ← hj1]
      have z1 : ((a : Int) + 1).tmod (L.length : Int) = (j1 : Int) := by rw [Int.tmod_eq_emod_of_nonneg (by omega)]; exact y1
      have x4 : IntKind.i64.wrap (j1 : Int) = (j1 : Int) := IntWalk.i64_in _ (by omega)
      have hn0 : ¬ (L.length : Int) = 0 := by omega
      have hn3 : ¬ L.length = 0 := by omega
      have l3 : (j1 : Int) < (L.length : Int) := by omega
      have r0 := fun d os => cell_regrown (hpt a han).1 d os
      have r1 := fun d os => cell_regrown (hpt a han).2 d os
      have r2 := fun d os => cell_regrown (hpt j1 hn1).1 d os
      have r3 := fun d os => cell_regrown (hpt j1 hn1).2 d os
      have r4 := fun d os => cell_regrown HB.out.p0 d os
      have r5 := fun d os => cell_regrown HB.out.p1 d os
      have KC := Lib.hid KC0
      clear hj1 KC0 hpt
      subst hpe
      generalize hon : onE L p a = on at *
      have HON := Lib.hid hon
      clear hon
      generalize (ptA L a).1 = p1 at *
      generalize (ptA L a).2 = p2 at *
      generalize (ptA L j1).1 = p5 at *
      generalize (ptA L j1).2 = p6 at *
      go_wp2_with fail
      refine wp_region_quiet_below (by assumption) (by kernel_rfl) ?_
      repeat (go_big_quiet_step ((go_at_call 62; with_reducible exact KC.out _ _)))
      refine wpQuiet_nil ?_
      rintro _ ⟨pg, rfl⟩
      have HB5 := Lib.hid (HB.out.later (below_regrown wr pg.d pg.os))
      clear r0 r1 r2 r3 r4 r5 KC x1 y1 z1 x4
      generalize grow (redrawn wr pg.d) pg.os = w5 at *
      cases on
      · go_wp2_with fail
        go_roundg ga
        case measure => omega
        case rel => exact ⟨a + 1, by omega, by go_num, HB5, Lib.hid fun x hx => by
          by_cases hxa : x < a
          · exact HN.out x hxa
          · obtain rfl : x = a := by omega
            exact HON.out⟩
      · go_wp2_with fail
        go_ret
        exact ⟨true, rfl, ⟨fun _ => ⟨a, han, HON.out⟩, fun _ => rfl⟩, HB5.out.below⟩
end Go.Proofs.Ytkibjbbhiclkmaa
