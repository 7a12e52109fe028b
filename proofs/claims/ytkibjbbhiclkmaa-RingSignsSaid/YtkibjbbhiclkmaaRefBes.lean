/- The walks of the document's Beside: behind, Cross and On up to 2^25, aboveLeft. -/
import Derived.Test.YtkibjbbhiclkmaaRefWind
import Derived.Test.YtkibjbbhiclkmaaSide
namespace Go.Proofs.Ytkibjbbhiclkmaa
open Go.RowKit

set_option maxRecDepth 100000 in
set_option maxHeartbeats 1000000 in
theorem rbehind_any (x m e : Int) (W : World) : Calls Try.prog 98 #[.int .i64 x, .int .i64 m, .int .i64 e] W fun e' w' => e' = .returned (.bool (gtB x m e)) ∧ w' = W := by
  have hg : gtB x m e = (decide (m < x) || ((x == m) && decide (e < 0))) := by
    unfold gtB; rw [Bool.eq_iff_iff]; simp
  cases g1 : decide (m < x)
  · cases g2 : (x == m)
    · rw [g1, g2] at hg
      have HG := Lib.hid hg
      clear hg
      go_enter Try.func98, Try.ntmps98
      go_wp2_with fail
      go_ret
      exact ⟨ret_bool (by rw [HG.out]; rfl), rfl⟩
    · rw [g1, g2] at hg
      have HG := Lib.hid hg
      clear hg
      go_enter Try.func98, Try.ntmps98
      go_wp2_with fail
      go_ret
      exact ⟨ret_bool (by rw [HG.out]; simp), rfl⟩
  · rw [g1] at hg
    have HG := Lib.hid hg
    clear hg
    go_enter Try.func98, Try.ntmps98
    go_wp2_with fail
    go_ret
    exact ⟨ret_bool (by rw [HG.out]; simp), rfl⟩

/-- Numbers up to 2^25. -/
def tw (x : Int) : Prop := -33554432 ≤ x ∧ x ≤ 33554432
set_option maxHeartbeats 400000 in
theorem rcross2_yes (ax ay bx b_y cx cy : Int) (w : World) (h1 : tw ax) (h2 : tw ay) (h3 : tw bx) (h4 : tw b_y) (h5 : tw cx) (h6 : tw cy) :
    Calls Try.prog 97 #[.agg #[.int .i64 ax, .int .i64 ay], .agg #[.int .i64 bx, .int .i64 b_y], .agg #[.int .i64 cx, .int .i64 cy]] w
      fun e w' => e = .returned (.int .i64 (crI ax ay bx b_y cx cy)) ∧ Below w.heap.size w w' := by
  rw [← rcI_eq]
  have m1 := mul_in ax b_y 33554432 33554432 h1 h4
  have m2 := mul_in bx ay 33554432 33554432 h3 h2
  have m3 := mul_in bx cy 33554432 33554432 h3 h6
  have m4 := mul_in cx b_y 33554432 33554432 h5 h4
  have m5 := mul_in cx ay 33554432 33554432 h5 h2
  have m6 := mul_in ax cy 33554432 33554432 h1 h6
  clear h1 h2 h3 h4 h5 h6
  go_enter Try.func97, Try.ntmps97
  go_wp2
  go_ret
  exact ⟨rfl, b3 _ _ _ _⟩

theorem dif_in {a b : Int} (h1 : tw a) (h2 : tw b) : -67108864 ≤ a - b ∧ a - b ≤ 67108864 := by unfold tw at *; omega
def rablV (p q m e : Int × Int) : Int := vW (gtB p.1 m.1 e.1) (gtB q.1 m.1 e.1) (sdI (crI p.1 p.2 q.1 q.2 m.1 m.2) ((q.1 - p.1) * e.2 - (q.2 - p.2) * e.1))
structure FourP (w W : World) (a b p e : Int × Int) : Prop where
  a0 : W.cell? ⟨w.heap.size, 0, none⟩ = some (.int .i64 a.1)
  a1 : W.cell? ⟨w.heap.size, 1, none⟩ = some (.int .i64 a.2)
  b0 : W.cell? ⟨w.heap.size + 1, 0, none⟩ = some (.int .i64 b.1)
  b1 : W.cell? ⟨w.heap.size + 1, 1, none⟩ = some (.int .i64 b.2)
  p0 : W.cell? ⟨w.heap.size + 1 + 1, 0, none⟩ = some (.int .i64 p.1)
  p1 : W.cell? ⟨w.heap.size + 1 + 1, 1, none⟩ = some (.int .i64 p.2)
  e0 : W.cell? ⟨w.heap.size + 1 + 1 + 1, 0, none⟩ = some (.int .i64 e.1)
  e1 : W.cell? ⟨w.heap.size + 1 + 1 + 1, 1, none⟩ = some (.int .i64 e.2)
  below : Below w.heap.size w W
theorem FourP.later {w W w1 : World} {a b p e : Int × Int} (h : FourP w W a b p e) (hb : Below W.heap.size W w1) : FourP w w1 a b p e :=
  ⟨cell_later hb h.a0, cell_later hb h.a1, cell_later hb h.b0, cell_later hb h.b1, cell_later hb h.p0, cell_later hb h.p1, cell_later hb h.e0, cell_later hb h.e1, h.below.trans (hb.mono h.below.size)⟩

set_option maxRecDepth 100000 in
set_option maxHeartbeats 4000000 in
theorem rabl_any (p q m e : Int × Int) (w : World) (h1 : tw p.1) (h2 : tw p.2) (h3 : tw q.1) (h4 : tw q.2) (h5 : tw m.1) (h6 : tw m.2) (h7 : tw e.1) (h8 : tw e.2) :
    Calls Try.prog 71 #[.agg #[.int .i64 p.1, .int .i64 p.2], .agg #[.int .i64 q.1, .int .i64 q.2], .agg #[.int .i64 m.1, .int .i64 m.2], .agg #[.int .i64 e.1, .int .i64 e.2]] w
      fun e' w' => e' = .returned (.int .i64 (rablV p q m e)) ∧ Below w.heap.size w w' := by
  have HT : Hid (FourP w ((((w.alloc (.cells #[.int .i64 p.1, .int .i64 p.2] 32)).alloc (.cells #[.int .i64 q.1, .int .i64 q.2] 32)).alloc (.cells #[.int .i64 m.1, .int .i64 m.2] 32)).alloc (.cells #[.int .i64 e.1, .int .i64 e.2] 32)) p q m e) :=
    Lib.hid ⟨by go_simp, by go_simp, by go_simp, by go_simp, by go_simp, by go_simp, by go_simp, by go_simp, (b2 _ _ _).trans ((b2 _ _ _).mono (by simp <;> omega))⟩
  have HC := Lib.hid (fun W => rcross2_yes p.1 p.2 q.1 q.2 m.1 m.2 W h1 h2 h3 h4 h5 h6)
  have HP := Lib.hid (fun W => rbehind_any p.1 m.1 e.1 W)
  have HQ := Lib.hid (fun W => rbehind_any q.1 m.1 e.1 W)
  have m1 := mul_in (q.1 - p.1) e.2 67108864 33554432 (dif_in h3 h1) h8
  have m2 := mul_in (q.2 - p.2) e.1 67108864 33554432 (dif_in h4 h2) h7
  have x1 : IntKind.i64.wrap (q.1 - p.1) = q.1 - p.1 := IntWalk.i64_in _ (by have := dif_in h3 h1; omega)
  have x2 : IntKind.i64.wrap (q.2 - p.2) = q.2 - p.2 := IntWalk.i64_in _ (by have := dif_in h4 h2; omega)
  have x3 : IntKind.i64.wrap ((q.1 - p.1) * e.2) = (q.1 - p.1) * e.2 := IntWalk.i64_in _ (by omega)
  have x4 : IntKind.i64.wrap ((q.2 - p.2) * e.1) = (q.2 - p.2) * e.1 := IntWalk.i64_in _ (by omega)
  have x5 : IntKind.i64.wrap ((q.1 - p.1) * e.2 - (q.2 - p.2) * e.1) = (q.1 - p.1) * e.2 - (q.2 - p.2) * e.1 := IntWalk.i64_in _ (by omega)
  clear h1 h2 h3 h4 h5 h6 h7 h8 m1 m2
  unfold rablV
  generalize crI p.1 p.2 q.1 q.2 m.1 m.2 = c at *
  generalize gtB p.1 m.1 e.1 = bp at *
  generalize gtB q.1 m.1 e.1 = bq at *
  cases hc : (c == 0)
  · have HS : Hid (sdI c ((q.1 - p.1) * e.2 - (q.2 - p.2) * e.1) = c) := Lib.hid (by unfold sdI; rw [if_neg (by simpa using hc)])
    rw [HS.out]
    clear x1 x2 x3 x4 x5 HS
    cases bp <;> cases bq
    · go_enter Try.func71, Try.ntmps71
      go_wp2_with fail
      refine (HC.out _).mono ?_
      rintro e' w1 ⟨rfl, hb1⟩
      obtain ⟨c0, c1, c2, c3, c4, c5, c6, c7, hB⟩ := HT.out.later hb1
      clear hb1
      go_wp2_with fail
      refine (HP.out _).mono ?_
      rintro e' w2 ⟨rfl, rfl⟩
      go_wp2_with fail
      refine (HQ.out _).mono ?_
      rintro e' w2 ⟨rfl, rfl⟩
      go_wp2_with fail
      refine (HP.out _).mono ?_
      rintro e' w2 ⟨rfl, rfl⟩
      go_wp2_with fail
      go_ret
      exact ⟨by unfold vW; simp, hB⟩
    · cases g5 : decide (c < 0)
      · go_enter Try.func71, Try.ntmps71
        go_wp2_with fail
        refine (HC.out _).mono ?_
        rintro e' w1 ⟨rfl, hb1⟩
        obtain ⟨c0, c1, c2, c3, c4, c5, c6, c7, hB⟩ := HT.out.later hb1
        clear hb1
        go_wp2_with fail
        refine (HP.out _).mono ?_
        rintro e' w2 ⟨rfl, rfl⟩
        go_wp2_with fail
        refine (HQ.out _).mono ?_
        rintro e' w2 ⟨rfl, rfl⟩
        go_wp2_with fail
        refine (HP.out _).mono ?_
        rintro e' w2 ⟨rfl, rfl⟩
        go_wp2_with fail
        go_ret
        exact ⟨by unfold vW; simp [g5], hB⟩
      · go_enter Try.func71, Try.ntmps71
        go_wp2_with fail
        refine (HC.out _).mono ?_
        rintro e' w1 ⟨rfl, hb1⟩
        obtain ⟨c0, c1, c2, c3, c4, c5, c6, c7, hB⟩ := HT.out.later hb1
        clear hb1
        go_wp2_with fail
        refine (HP.out _).mono ?_
        rintro e' w2 ⟨rfl, rfl⟩
        go_wp2_with fail
        refine (HQ.out _).mono ?_
        rintro e' w2 ⟨rfl, rfl⟩
        go_wp2_with fail
        go_ret
        exact ⟨by unfold vW; simp [g5], hB⟩
    · cases g6 : decide (0 < c)
      · go_enter Try.func71, Try.ntmps71
        go_wp2_with fail
        refine (HC.out _).mono ?_
        rintro e' w1 ⟨rfl, hb1⟩
        obtain ⟨c0, c1, c2, c3, c4, c5, c6, c7, hB⟩ := HT.out.later hb1
        clear hb1
        go_wp2_with fail
        refine (HP.out _).mono ?_
        rintro e' w2 ⟨rfl, rfl⟩
        go_wp2_with fail
        refine (HP.out _).mono ?_
        rintro e' w2 ⟨rfl, rfl⟩
        go_wp2_with fail
        refine (HQ.out _).mono ?_
        rintro e' w2 ⟨rfl, rfl⟩
        go_wp2_with fail
        go_ret
        exact ⟨by unfold vW; simp [g6], hB⟩
      · go_enter Try.func71, Try.ntmps71
        go_wp2_with fail
        refine (HC.out _).mono ?_
        rintro e' w1 ⟨rfl, hb1⟩
        obtain ⟨c0, c1, c2, c3, c4, c5, c6, c7, hB⟩ := HT.out.later hb1
        clear hb1
        go_wp2_with fail
        refine (HP.out _).mono ?_
        rintro e' w2 ⟨rfl, rfl⟩
        go_wp2_with fail
        refine (HP.out _).mono ?_
        rintro e' w2 ⟨rfl, rfl⟩
        go_wp2_with fail
        refine (HQ.out _).mono ?_
        rintro e' w2 ⟨rfl, rfl⟩
        go_wp2_with fail
        go_ret
        exact ⟨by unfold vW; simp [g6], hB⟩
    · go_enter Try.func71, Try.ntmps71
      go_wp2_with fail
      refine (HC.out _).mono ?_
      rintro e' w1 ⟨rfl, hb1⟩
      obtain ⟨c0, c1, c2, c3, c4, c5, c6, c7, hB⟩ := HT.out.later hb1
      clear hb1
      go_wp2_with fail
      refine (HP.out _).mono ?_
      rintro e' w2 ⟨rfl, rfl⟩
      go_wp2_with fail
      refine (HP.out _).mono ?_
      rintro e' w2 ⟨rfl, rfl⟩
      go_wp2_with fail
      refine (HQ.out _).mono ?_
      rintro e' w2 ⟨rfl, rfl⟩
      go_wp2_with fail
      go_ret
      exact ⟨by unfold vW; simp, hB⟩
  · obtain rfl : c = 0 := by simpa using hc
    have HS : Hid (sdI 0 ((q.1 - p.1) * e.2 - (q.2 - p.2) * e.1) = (q.1 - p.1) * e.2 - (q.2 - p.2) * e.1) := Lib.hid (by unfold sdI; rw [if_pos rfl])
    rw [HS.out]
    clear HS hc
    generalize hs : (q.1 - p.1) * e.2 - (q.2 - p.2) * e.1 = s at *
    cases bp <;> cases bq
    · go_enter Try.func71, Try.ntmps71
      go_wp2_with fail
      refine (HC.out _).mono ?_
      rintro e' w1 ⟨rfl, hb1⟩
      obtain ⟨c0, c1, c2, c3, c4, c5, c6, c7, hB⟩ := HT.out.later hb1
      clear hb1
      go_wp2_with fail
      refine (HP.out _).mono ?_
      rintro e' w2 ⟨rfl, rfl⟩
      go_wp2_with fail
      refine (HQ.out _).mono ?_
      rintro e' w2 ⟨rfl, rfl⟩
      go_wp2_with fail
      refine (HP.out _).mono ?_
      rintro e' w2 ⟨rfl, rfl⟩
      go_wp2_with fail
      go_ret
      exact ⟨by unfold vW; simp, hB⟩
    · cases g5 : decide (s < 0)
      · go_enter Try.func71, Try.ntmps71
        go_wp2_with fail
        refine (HC.out _).mono ?_
        rintro e' w1 ⟨rfl, hb1⟩
        obtain ⟨c0, c1, c2, c3, c4, c5, c6, c7, hB⟩ := HT.out.later hb1
        clear hb1
        go_wp2_with fail
        refine (HP.out _).mono ?_
        rintro e' w2 ⟨rfl, rfl⟩
        go_wp2_with fail
        refine (HQ.out _).mono ?_
        rintro e' w2 ⟨rfl, rfl⟩
        go_wp2_with fail
        refine (HP.out _).mono ?_
        rintro e' w2 ⟨rfl, rfl⟩
        go_wp2_with fail
        go_ret
        exact ⟨by unfold vW; simp [g5], hB⟩
      · go_enter Try.func71, Try.ntmps71
        go_wp2_with fail
        refine (HC.out _).mono ?_
        rintro e' w1 ⟨rfl, hb1⟩
        obtain ⟨c0, c1, c2, c3, c4, c5, c6, c7, hB⟩ := HT.out.later hb1
        clear hb1
        go_wp2_with fail
        refine (HP.out _).mono ?_
        rintro e' w2 ⟨rfl, rfl⟩
        go_wp2_with fail
        refine (HQ.out _).mono ?_
        rintro e' w2 ⟨rfl, rfl⟩
        go_wp2_with fail
        go_ret
        exact ⟨by unfold vW; simp [g5], hB⟩
    · cases g6 : decide (0 < s)
      · go_enter Try.func71, Try.ntmps71
        go_wp2_with fail
        refine (HC.out _).mono ?_
        rintro e' w1 ⟨rfl, hb1⟩
        obtain ⟨c0, c1, c2, c3, c4, c5, c6, c7, hB⟩ := HT.out.later hb1
        clear hb1
        go_wp2_with fail
        refine (HP.out _).mono ?_
        rintro e' w2 ⟨rfl, rfl⟩
        go_wp2_with fail
        refine (HP.out _).mono ?_
        rintro e' w2 ⟨rfl, rfl⟩
        go_wp2_with fail
        refine (HQ.out _).mono ?_
        rintro e' w2 ⟨rfl, rfl⟩
        go_wp2_with fail
        go_ret
        exact ⟨by unfold vW; simp [g6], hB⟩
      · go_enter Try.func71, Try.ntmps71
        go_wp2_with fail
        refine (HC.out _).mono ?_
        rintro e' w1 ⟨rfl, hb1⟩
        obtain ⟨c0, c1, c2, c3, c4, c5, c6, c7, hB⟩ := HT.out.later hb1
        clear hb1
        go_wp2_with fail
        refine (HP.out _).mono ?_
        rintro e' w2 ⟨rfl, rfl⟩
        go_wp2_with fail
        refine (HP.out _).mono ?_
        rintro e' w2 ⟨rfl, rfl⟩
        go_wp2_with fail
        refine (HQ.out _).mono ?_
        rintro e' w2 ⟨rfl, rfl⟩
        go_wp2_with fail
        go_ret
        exact ⟨by unfold vW; simp [g6], hB⟩
    · go_enter Try.func71, Try.ntmps71
      go_wp2_with fail
      refine (HC.out _).mono ?_
      rintro e' w1 ⟨rfl, hb1⟩
      obtain ⟨c0, c1, c2, c3, c4, c5, c6, c7, hB⟩ := HT.out.later hb1
      clear hb1
      go_wp2_with fail
      refine (HP.out _).mono ?_
      rintro e' w2 ⟨rfl, rfl⟩
      go_wp2_with fail
      refine (HP.out _).mono ?_
      rintro e' w2 ⟨rfl, rfl⟩
      go_wp2_with fail
      refine (HQ.out _).mono ?_
      rintro e' w2 ⟨rfl, rfl⟩
      go_wp2_with fail
      go_ret
      exact ⟨by unfold vW; simp, hB⟩

theorem rdot_in {ax ay bx b_y px py : Int} (h1 : tw ax) (h2 : tw ay) (h3 : tw bx) (h4 : tw b_y) (h5 : tw px) (h6 : tw py) :
    (-4503599627370496 ≤ (px - ax) * (bx - ax) ∧ (px - ax) * (bx - ax) ≤ 4503599627370496) ∧ (-4503599627370496 ≤ (py - ay) * (b_y - ay) ∧ (py - ay) * (b_y - ay) ≤ 4503599627370496) ∧
    (-4503599627370496 ≤ (bx - ax) * (bx - ax) ∧ (bx - ax) * (bx - ax) ≤ 4503599627370496) ∧ (-4503599627370496 ≤ (b_y - ay) * (b_y - ay) ∧ (b_y - ay) * (b_y - ay) ≤ 4503599627370496) :=
  ⟨mul_in _ _ 67108864 67108864 (dif_in h5 h1) (dif_in h3 h1), mul_in _ _ 67108864 67108864 (dif_in h6 h2) (dif_in h4 h2), mul_in _ _ 67108864 67108864 (dif_in h3 h1) (dif_in h3 h1), mul_in _ _ 67108864 67108864 (dif_in h4 h2) (dif_in h4 h2)⟩

set_option maxHeartbeats 800000 in
theorem ron2_a (ax ay bx b_y px py : Int) (w : World) (h1 : tw ax) (h2 : tw ay) (h3 : tw bx) (h4 : tw b_y) (h5 : tw px) (h6 : tw py) (hne : (ax == bx) = false) (d0 d1 : Bool) (hz : (crI ax ay bx b_y px py == 0) = d0) (hd : decide (0 ≤ dotI ax ay bx b_y px py) = d1) :
    Calls Try.prog 62 #[.agg #[.int .i64 ax, .int .i64 ay], .agg #[.int .i64 bx, .int .i64 b_y], .agg #[.int .i64 px, .int .i64 py]] w
      fun e w' => e = .returned (.bool (d0 && d1 && decide (dotI ax ay bx b_y px py ≤ lngI ax ay bx b_y))) ∧ Below w.heap.size w w' := by
  have H := Lib.hid (fun W => rcross2_yes ax ay bx b_y px py W h1 h2 h3 h4 h5 h6)
  obtain ⟨m1, m2, m3, m4⟩ := rdot_in h1 h2 h3 h4 h5 h6
  unfold tw at h1 h2 h3 h4 h5 h6
  unfold dotI at *
  unfold lngI at *
  go_enter Try.func62, Try.ntmps62
  go_wp2_with fail
  refine (H.out _).mono ?_
  rintro e w1 ⟨rfl, hb1⟩
  go_wp2
  all_goals
    go_ret
    exact ⟨ret_bool (by first | (simp_all; done) | (cases d0 <;> cases d1 <;> simp_all <;> omega)), (b3 _ _ _ _).trans (hb1.mono (by simp <;> omega))⟩

set_option maxHeartbeats 800000 in
theorem ron2_b (ax ay bx b_y px py : Int) (w : World) (h1 : tw ax) (h2 : tw ay) (h3 : tw bx) (h4 : tw b_y) (h5 : tw px) (h6 : tw py) (he : Hid (ax = bx)) (hne : (ay == b_y) = false) (d0 d1 : Bool) (hz : (crI ax ay bx b_y px py == 0) = d0) (hd : decide (0 ≤ dotI ax ay bx b_y px py) = d1) :
    Calls Try.prog 62 #[.agg #[.int .i64 ax, .int .i64 ay], .agg #[.int .i64 bx, .int .i64 b_y], .agg #[.int .i64 px, .int .i64 py]] w
      fun e w' => e = .returned (.bool (d0 && d1 && decide (dotI ax ay bx b_y px py ≤ lngI ax ay bx b_y))) ∧ Below w.heap.size w w' := by
  obtain rfl : ax = bx := he.out
  clear he
  have H := Lib.hid (fun W => rcross2_yes ax ay ax b_y px py W h1 h2 h3 h4 h5 h6)
  obtain ⟨m1, m2, m3, m4⟩ := rdot_in h1 h2 h3 h4 h5 h6
  unfold tw at h1 h2 h4 h5 h6
  clear h3
  unfold dotI at *
  unfold lngI at *
  go_enter Try.func62, Try.ntmps62
  go_wp2_with fail
  refine (H.out _).mono ?_
  rintro e w1 ⟨rfl, hb1⟩
  go_wp2
  all_goals
    go_ret
    exact ⟨ret_bool (by first | (simp_all; done) | (cases d0 <;> cases d1 <;> simp_all <;> omega)), (b3 _ _ _ _).trans (hb1.mono (by simp <;> omega))⟩

theorem ron2_any (ax ay bx b_y px py : Int) (w : World) (h1 : tw ax) (h2 : tw ay) (h3 : tw bx) (h4 : tw b_y) (h5 : tw px) (h6 : tw py) :
    Calls Try.prog 62 #[.agg #[.int .i64 ax, .int .i64 ay], .agg #[.int .i64 bx, .int .i64 b_y], .agg #[.int .i64 px, .int .i64 py]] w
      fun e w' => e = .returned (.bool (onI ax ay bx b_y px py)) ∧ Below w.heap.size w w' := by
  by_cases he : ax = bx ∧ ay = b_y
  · unfold onI
    rw [if_pos he]
    obtain ⟨rfl, rfl⟩ := he
    exact ron_point ax ay px py w
  · rw [onI_dot he]
    have e0 : decide (crI ax ay bx b_y px py = 0) = (crI ax ay bx b_y px py == 0) := by rw [Bool.eq_iff_iff]; simp
    rw [e0]
    by_cases hx : ax = bx
    · exact ron2_b ax ay bx b_y px py w h1 h2 h3 h4 h5 h6 (Lib.hid hx) (beq_eq_false_iff_ne.2 (fun hy => he ⟨hx, hy⟩)) _ _ rfl rfl
    · exact ron2_a ax ay bx b_y px py w h1 h2 h3 h4 h5 h6 (beq_eq_false_iff_ne.2 hx) _ _ rfl rfl
end Go.Proofs.Ytkibjbbhiclkmaa
