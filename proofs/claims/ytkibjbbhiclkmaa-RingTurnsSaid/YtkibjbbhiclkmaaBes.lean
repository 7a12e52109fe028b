/- What Beside's closures answer. -/
import Derived.Test.YtkibjbbhiclkmaaAroundB
import Derived.Test.YtkibjbbhiclkmaaWinding
namespace Go.Proofs.Ytkibjbbhiclkmaa
open Go.RowKit Go.Shelf Go.Sort

def w2 (x : Int) : Int := wrap64 (2 * x)
def btw (a b v : Int) : Bool := decide (min a b ≤ v) && decide (v ≤ max a b)
def alV (a b c d : Int × Int) : Bool := decide (0 < wrap64 (wrap64 (wrap64 (b.1 - a.1) * wrap64 (d.1 - c.1)) + wrap64 (wrap64 (b.2 - a.2) * wrap64 (d.2 - c.2))))
def ar2 (A B p q : Int × Int) : Int := crV p.1 p.2 q.1 q.2 A.1 A.2 + crV p.1 p.2 q.1 q.2 B.1 B.2
def abB (y : Int) (A B p : Int × Int) : Bool := decide (y < w2 p.2) || ((w2 p.2 == y) && decide (B.1 < A.1))
def hsB (x y : Int) (A B p q : Int × Int) : Bool := btw (w2 p.1) (w2 q.1) x && btw (w2 p.2) (w2 q.2) y && (ar2 A B p q == 0) && !(crV p.1 p.2 q.1 q.2 A.1 A.2 == 0)
def lfB (A B p q : Int × Int) : Bool := decide (0 < ar2 A B p q) || ((ar2 A B p q == 0) && alV p q A B)

set_option maxRecDepth 100000 in
set_option maxHeartbeats 1000000 in
theorem btw_any (a b v : Int) (W : World) : Calls Try.prog 68 #[.int .i64 a, .int .i64 b, .int .i64 v] W fun e w' => e = .returned (.bool (btw a b v)) ∧ w' = W := by
  go_enter Try.func68, Try.ntmps68
  go_wp2_with fail
  all_goals
    go_ret
    exact ⟨ret_bool (by unfold btw; rw [Bool.eq_iff_iff]; simp; omega), rfl⟩
set_option maxRecDepth 100000 in
set_option maxHeartbeats 1000000 in
theorem along_any (a b c d : Int × Int) (W : World) : Calls Try.prog 70 #[.agg #[.int .i64 a.1, .int .i64 a.2], .agg #[.int .i64 b.1, .int .i64 b.2], .agg #[.int .i64 c.1, .int .i64 c.2], .agg #[.int .i64 d.1, .int .i64 d.2]] W fun e w' => e = .returned (.bool (alV a b c d)) ∧ Below W.heap.size W w' := by
  unfold alV
  obtain ⟨a1, a2⟩ := a
  obtain ⟨c1, c2⟩ := c
  obtain ⟨d1, d2⟩ := d
  obtain ⟨m1, m2⟩ := b
  have hb4 : Hid (∀ A B C D, Below W.heap.size W ((((W.alloc A).alloc B).alloc C).alloc D)) := Lib.hid fun A B C D => (b2 _ _ _).trans ((b2 _ _ _).mono (by simp <;> omega))
  dsimp only
  go_enter Try.func70, Try.ntmps70
  go_wp2_with fail
  go_ret
  exact ⟨rfl, hb4.out _ _ _ _⟩
/-- What the closures are bound to. -/
structure BesS (W : World) (PX PY PF PA PB : Nat) (x y : Int) (A B : Int × Int) : Prop where
  x : W.cell? ⟨PX, 0, none⟩ = some (.int .i64 x)
  y : W.cell? ⟨PY, 0, none⟩ = some (.int .i64 y)
  f : W.cell? ⟨PF, 0, none⟩ = some (.func (.func 64) #[] #[.pointer (some ⟨PA, 0, none⟩), .pointer (some ⟨PB, 0, none⟩)])
  a0 : W.cell? ⟨PA, 0, none⟩ = some (.int .i64 A.1)
  a1 : W.cell? ⟨PA, 1, none⟩ = some (.int .i64 A.2)
  b0 : W.cell? ⟨PB, 0, none⟩ = some (.int .i64 B.1)
  b1 : W.cell? ⟨PB, 1, none⟩ = some (.int .i64 B.2)
theorem BesS.later {W w1 : World} {PX PY PF PA PB : Nat} {x y : Int} {A B : Int × Int} (h : BesS W PX PY PF PA PB x y A B) (hb : Below W.heap.size W w1) : BesS w1 PX PY PF PA PB x y A B :=
  ⟨cell_later hb h.x, cell_later hb h.y, cell_later hb h.f, cell_later hb h.a0, cell_later hb h.a1, cell_later hb h.b0, cell_later hb h.b1⟩

set_option maxRecDepth 100000 in
set_option maxHeartbeats 1000000 in
theorem bes1_any (PX PY PF PA PB : Nat) (x y : Int) (A B p q : Int × Int) (V : World) (h : BesS V PX PY PF PA PB x y A B) :
    Calls Try.prog 64 #[.agg #[.int .i64 p.1, .int .i64 p.2], .agg #[.int .i64 q.1, .int .i64 q.2], .pointer (some ⟨PA, 0, none⟩), .pointer (some ⟨PB, 0, none⟩)] V fun e w' => e = .returned (.int .i64 (ar2 A B p q)) ∧ Below V.heap.size V w' := by
  have hmx : Try.prog.follows .mixedOrders = true := by kernel_rfl
  have hb := b2 V (.cells #[.int .i64 p.1, .int .i64 p.2] 24) (.cells #[.int .i64 q.1, .int .i64 q.2] 24)
  have hS := h.later hb
  have k1 := crV_in p.1 p.2 q.1 q.2 A.1 A.2
  have k2 := crV_in p.1 p.2 q.1 q.2 B.1 B.2
  have HC1 := Lib.hid (fun W => cross_any p.1 p.2 q.1 q.2 A.1 A.2 W)
  have HC2 := Lib.hid (fun W => cross_any p.1 p.2 q.1 q.2 B.1 B.2 W)
  unfold ar2
  generalize crV p.1 p.2 q.1 q.2 A.1 A.2 = u at *
  generalize crV p.1 p.2 q.1 q.2 B.1 B.2 = v at *
  have x1 : IntKind.i64.wrap (u + v) = u + v := IntWalk.i64_in _ (by omega)
  have r0 := fun d os => cell_regrown hS.a0 d os
  have r1 := fun d os => cell_regrown hS.a1 d os
  have r2 := fun d os => cell_regrown hS.b0 d os
  have r3 := fun d os => cell_regrown hS.b1 d os
  have hp0 : ((V.alloc (.cells #[.int .i64 p.1, .int .i64 p.2] 24)).alloc (.cells #[.int .i64 q.1, .int .i64 q.2] 24)).cell? ⟨V.heap.size, 0, none⟩ = some (.int .i64 p.1) := by go_simp
  have hp1 : ((V.alloc (.cells #[.int .i64 p.1, .int .i64 p.2] 24)).alloc (.cells #[.int .i64 q.1, .int .i64 q.2] 24)).cell? ⟨V.heap.size, 1, none⟩ = some (.int .i64 p.2) := by go_simp
  have hq0 : ((V.alloc (.cells #[.int .i64 p.1, .int .i64 p.2] 24)).alloc (.cells #[.int .i64 q.1, .int .i64 q.2] 24)).cell? ⟨V.heap.size + 1, 0, none⟩ = some (.int .i64 q.1) := by go_simp
  have hq1 : ((V.alloc (.cells #[.int .i64 p.1, .int .i64 p.2] 24)).alloc (.cells #[.int .i64 q.1, .int .i64 q.2] 24)).cell? ⟨V.heap.size + 1, 1, none⟩ = some (.int .i64 q.2) := by go_simp
  have r4 := fun d os => cell_regrown hp0 d os
  have r5 := fun d os => cell_regrown hp1 d os
  have r6 := fun d os => cell_regrown hq0 d os
  have r7 := fun d os => cell_regrown hq1 d os
  have HB := Lib.hid hb
  clear hp0 hp1 hq0 hq1 hS h hb k1 k2
  go_enter Try.func64, Try.ntmps64
  go_wp2_with fail
  generalize (V.alloc (.cells #[.int .i64 p.1, .int .i64 p.2] 24)).alloc (.cells #[.int .i64 q.1, .int .i64 q.2] 24) = W at *
  refine wp_region_quiet_below (by assumption) (by kernel_rfl) ?_
  repeat (go_big_quiet_step ((go_at_call 65; first | with_reducible exact Calls.regrown_of (HC1.out _) | with_reducible exact Calls.regrown_of (HC2.out _))))
  refine wpQuiet_nil ?_
  rintro _ ⟨pg, rfl⟩
  have HF := Lib.hid (HB.out.trans ((below_regrown W pg.d pg.os).mono HB.out.size))
  clear r0 r1 r2 r3 r4 r5 r6 r7
  generalize grow (redrawn W pg.d) pg.os = W2 at *
  go_wp2
  go_ret
  exact ⟨rfl, HF.out⟩

set_option maxRecDepth 100000 in
set_option maxHeartbeats 1000000 in
theorem bes2_any (PX PY PF PA PB : Nat) (x y : Int) (A B p : Int × Int) (V : World) (h : BesS V PX PY PF PA PB x y A B) :
    Calls Try.prog 66 #[.agg #[.int .i64 p.1, .int .i64 p.2], .pointer (some ⟨PY, 0, none⟩), .pointer (some ⟨PB, 0, none⟩), .pointer (some ⟨PA, 0, none⟩)] V fun e w' => e = .returned (.bool (abB y A B p)) ∧ Below V.heap.size V w' := by
  have hb := b1 V (.cells #[.int .i64 p.1, .int .i64 p.2] 24)
  have hS := h.later hb
  have k0 := hS.y
  have k1 := hS.a0
  have k2 := hS.b0
  have HB := Lib.hid hb
  clear hS h hb
  unfold abB w2
  cases g1 : decide (y < wrap64 (2 * p.2))
  · cases g2 : (wrap64 (2 * p.2) == y)
    · go_enter Try.func66, Try.ntmps66
      go_wp2_with fail
      go_ret
      exact ⟨rfl, HB.out⟩
    · go_enter Try.func66, Try.ntmps66
      go_wp2_with fail
      go_ret
      exact ⟨rfl, HB.out⟩
  · go_enter Try.func66, Try.ntmps66
    go_wp2_with fail
    go_ret
    exact ⟨rfl, HB.out⟩

set_option maxRecDepth 100000 in
set_option maxHeartbeats 1000000 in
theorem bes4_any (PX PY PF PA PB : Nat) (x y : Int) (A B p q : Int × Int) (V : World) (h : BesS V PX PY PF PA PB x y A B) :
    Calls Try.prog 69 #[.agg #[.int .i64 p.1, .int .i64 p.2], .agg #[.int .i64 q.1, .int .i64 q.2], .pointer (some ⟨PF, 0, none⟩), .pointer (some ⟨PA, 0, none⟩), .pointer (some ⟨PB, 0, none⟩)] V fun e w' => e = .returned (.bool (lfB A B p q)) ∧ Below V.heap.size V w' := by
  have hb := b2 V (.cells #[.int .i64 p.1, .int .i64 p.2] 24) (.cells #[.int .i64 q.1, .int .i64 q.2] 24)
  have hS := h.later hb
  have k0 := hS.f
  have HS := Lib.hid hS
  have HB := Lib.hid hb
  clear hS h hb
  unfold lfB
  have H1 := Lib.hid (fun V h => bes1_any PX PY PF PA PB x y A B p q V h)
  have H2 := Lib.hid (fun V => along_any p q A B V)
  generalize ar2 A B p q = n at *
  generalize alV p q A B = al at *
  go_enter Try.func69, Try.ntmps69
  go_wp2_with fail
  refine (H1.out _ HS.out).mono ?_
  rintro e w1 ⟨rfl, hb1⟩
  have HB1 := Lib.hid (HB.out.trans (hb1.mono HB.out.size))
  have hS1 := HS.out.later hb1
  have f0 : w1.cell? ⟨V.heap.size, 0, none⟩ = some (.int .i64 p.1) := cell_later hb1 (by go_simp)
  have f1 : w1.cell? ⟨V.heap.size, 1, none⟩ = some (.int .i64 p.2) := cell_later hb1 (by go_simp)
  have t0 : w1.cell? ⟨V.heap.size + 1, 0, none⟩ = some (.int .i64 q.1) := cell_later hb1 (by go_simp)
  have t1 : w1.cell? ⟨V.heap.size + 1, 1, none⟩ = some (.int .i64 q.2) := cell_later hb1 (by go_simp)
  have a0 := hS1.a0
  have a1 := hS1.a1
  have b0 := hS1.b0
  have b1 := hS1.b1
  clear hS1 hb1 k0
  cases g1 : decide (0 < n)
  · cases g2 : (n == 0)
    · go_wp2_with fail
      go_ret
      exact ⟨ret_bool (by rw [g1, g2]; rfl), HB1.out⟩
    · go_wp2_with fail
      refine (H2.out _).mono ?_
      rintro e w2 ⟨rfl, hb2⟩
      have HB2 := Lib.hid (HB1.out.trans (hb2.mono HB1.out.size))
      clear hb2
      go_wp2_with fail
      go_ret
      exact ⟨ret_bool (by rw [g1, g2]; simp), HB2.out⟩
  · go_wp2_with fail
    go_ret
    exact ⟨ret_bool (by rw [g1]; simp), HB1.out⟩

set_option maxRecDepth 100000 in
set_option maxHeartbeats 1000000 in
theorem bes3_any (PX PY PF PA PB : Nat) (x y : Int) (A B p q : Int × Int) (V : World) (h : BesS V PX PY PF PA PB x y A B) :
    Calls Try.prog 67 #[.agg #[.int .i64 p.1, .int .i64 p.2], .agg #[.int .i64 q.1, .int .i64 q.2], .pointer (some ⟨PX, 0, none⟩), .pointer (some ⟨PY, 0, none⟩), .pointer (some ⟨PF, 0, none⟩), .pointer (some ⟨PA, 0, none⟩)] V fun e w' => e = .returned (.bool (hsB x y A B p q)) ∧ Below V.heap.size V w' := by
  have hb := b2 V (.cells #[.int .i64 p.1, .int .i64 p.2] 24) (.cells #[.int .i64 q.1, .int .i64 q.2] 24)
  have hS := h.later hb
  have k0 := hS.f
  have k1 := hS.x
  have k2 := hS.y
  have HS := Lib.hid hS
  have HB := Lib.hid hb
  clear hS h hb
  unfold hsB w2
  have H1 := Lib.hid (fun V h => bes1_any PX PY PF PA PB x y A B p q V h)
  have H2 := Lib.hid (fun V => cross_any p.1 p.2 q.1 q.2 A.1 A.2 V)
  generalize ar2 A B p q = n at *
  generalize crV p.1 p.2 q.1 q.2 A.1 A.2 = u at *
  go_enter Try.func67, Try.ntmps67
  go_wp2_with fail
  refine (btw_any _ _ _ _).mono ?_
  rintro e w1 ⟨rfl, rfl⟩
  cases g1 : btw (wrap64 (2 * p.1)) (wrap64 (2 * q.1)) x
  · go_wp2_with fail
    go_ret
    exact ⟨ret_bool (by rw [g1]; rfl), HB.out⟩
  · go_wp2_with fail
    refine (btw_any _ _ _ _).mono ?_
    rintro e w1 ⟨rfl, rfl⟩
    cases g2 : btw (wrap64 (2 * p.2)) (wrap64 (2 * q.2)) y
    · go_wp2_with fail
      go_ret
      exact ⟨ret_bool (by rw [g1, g2]; rfl), HB.out⟩
    · go_wp2_with fail
      refine (H1.out _ HS.out).mono ?_
      rintro e w1 ⟨rfl, hb1⟩
      have HB1 := Lib.hid (HB.out.trans (hb1.mono HB.out.size))
      have hS1 := HS.out.later hb1
      have f0 : w1.cell? ⟨V.heap.size, 0, none⟩ = some (.int .i64 p.1) := cell_later hb1 (by go_simp)
      have f1 : w1.cell? ⟨V.heap.size, 1, none⟩ = some (.int .i64 p.2) := cell_later hb1 (by go_simp)
      have t0 : w1.cell? ⟨V.heap.size + 1, 0, none⟩ = some (.int .i64 q.1) := cell_later hb1 (by go_simp)
      have t1 : w1.cell? ⟨V.heap.size + 1, 1, none⟩ = some (.int .i64 q.2) := cell_later hb1 (by go_simp)
      have a0 := hS1.a0
      have a1 := hS1.a1
      clear hS1 hb1 k0 k1 k2
      cases g3 : (n == 0)
      · go_wp2_with fail
        go_ret
        exact ⟨ret_bool (by rw [g3]; simp), HB1.out⟩
      · go_wp2_with fail
        refine (H2.out _).mono ?_
        rintro e w2 ⟨rfl, hb2⟩
        have HB2 := Lib.hid (HB1.out.trans (hb2.mono HB1.out.size))
        clear hb2
        go_wp2_with fail
        go_ret
        exact ⟨ret_bool (by rw [g1, g2, g3]; rw [Bool.eq_iff_iff]; simp), HB2.out⟩
end Go.Proofs.Ytkibjbbhiclkmaa
