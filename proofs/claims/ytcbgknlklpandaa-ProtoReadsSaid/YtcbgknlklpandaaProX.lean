/- Walks of the document's fields: Read. -/
import Derived.Test.YtcbgknlklpandaaProN
namespace Go.Proofs.Ytcbgknlklpandaa
open Go.RowKit Go.Sort

def R8Post (b : List Nat) (w : World) (e : Ending) (w' : World) : Prop := e = .returned (.tuple #[.agg #[.int .i64 (rdF b).1.num, .int .i64 (rdF b).1.kind, .int .u64 ((rdF b).1.n : Int), .string (bst (rdF b).1.b)], .int .i64 ((rdF b).2.1 : Int), .int .i64 ((rdF b).2.2 : Int)]) ∧ Below w.heap.size w w'
theorem r8_bad {b : List Nat} {w w' : World} {e : Nat} (h : rdF b = (fdZ, 0, e)) (hb : Below w.heap.size w w') : R8Post b w (.returned (.tuple #[.agg #[.int .i64 0, .int .i64 0, .int .u64 0, .string ⟨#[]⟩], .int .i64 0, .int .i64 (e : Int)])) w' := by
  unfold R8Post
  rw [h]
  exact ⟨rfl, hb⟩
/-- Read's state: what is to be answered, the field. -/
structure Rk (w W : World) (k8 : Nat) (v0 v1 v2 v3 : Value) : Prop where
  bl : Below w.heap.size w W
  ge : w.heap.size < k8
  z : F4 W w.heap.size 81 (.int .i64 0) (.int .i64 0) (.int .u64 0) (.string ⟨#[]⟩)
  f : F4 W k8 81 v0 v1 v2 v3
theorem Rk.keep {w W W1 : World} {k8 : Nat} {v0 v1 v2 v3 : Value} (h : Rk w W k8 v0 v1 v2 v3) (hb : Below W.heap.size W W1) : Rk w W1 k8 v0 v1 v2 v3 := ⟨below_after h.bl hb, h.ge, h.z.keep hb, h.f.keep hb⟩
theorem Rk.set2 {w W : World} {k8 : Nat} {v0 v1 v2 v3 : Value} (h : Rk w W k8 v0 v1 v2 v3) (u : Value) : Rk w (W.setCell ⟨k8, 2, none⟩ u) k8 v0 v1 u v3 :=
  ⟨h.bl.setCell (p := ⟨k8, 2, none⟩) (Nat.le_of_lt h.ge) u, h.ge, h.z.other (Nat.ne_of_lt h.ge) u, h.f.set2 u⟩
theorem Rk.set3 {w W : World} {k8 : Nat} {v0 v1 v2 v3 : Value} (h : Rk w W k8 v0 v1 v2 v3) (u : Value) : Rk w (W.setCell ⟨k8, 3, none⟩ u) k8 v0 v1 v2 u :=
  ⟨h.bl.setCell (p := ⟨k8, 3, none⟩) (Nat.le_of_lt h.ge) u, h.ge, h.z.other (Nat.ne_of_lt h.ge) u, h.f.set3 u⟩
theorem Rk.first {w w1 : World} (hb : Below w.heap.size w w1) (hz : F4 w1 w.heap.size 81 (.int .i64 0) (.int .i64 0) (.int .u64 0) (.string ⟨#[]⟩)) (a r : Int) : Rk w (w1.alloc (.cells #[.int .i64 a, .int .i64 r, .int .u64 0, .string ⟨#[]⟩] 81)) w1.heap.size (.int .i64 a) (.int .i64 r) (.int .u64 0) (.string ⟨#[]⟩) :=
  ⟨below_after hb (below_alloc _ _), hz.lt, hz.keep (below_alloc _ _), F4.new _ _ _ _ _ _⟩
theorem rdF_5 {b : List Nat} (h : (rd b).2.2 = 0) (k : (rd b).1 / 8 < 1 ∨ 536870911 < (rd b).1 / 8) : rdF b = (fdZ, 0, 5) := by unfold rdF; rw [if_neg (by omega), if_pos k]
theorem rdF_14 {b : List Nat} (h : (rd b).2.2 = 0) (k : ¬ ((rd b).1 / 8 < 1 ∨ 536870911 < (rd b).1 / 8)) (hk : kdB (((rd b).1 % 8 : Nat) : Int) = false) : rdF b = (fdZ, 0, 14) := by unfold rdF; rw [if_neg (by omega), if_neg k, if_pos hk]
theorem rdF_k {b : List Nat} (k : ¬ ((rd b).1 / 8 < 1 ∨ 536870911 < (rd b).1 / 8)) (hk : kdB (((rd b).1 % 8 : Nat) : Int) = true) : kyE (rd b).1 = 0 := by
  unfold kyE
  rw [if_neg (by rw [numB_no]; omega), if_neg (by rw [hk]; simp)]
set_option maxRecDepth 100000 in
set_option maxHeartbeats 4000000 in
theorem rr_a {w : World} {v : Value} {b : List Nat} (hK : KL .u8 w v b) (hb : ∀ x ∈ b, x < 256) (hl : b.length ≤ 1000000) (he : (rd b).2.2 ≠ 0) : Calls Try.prog 40 #[v] w (R8Post b w) := by
  have hmx : Try.prog.follows .mixedOrders = true := by kernel_rfl
  have HRd := Lib.hid (fun V (h : KL .u8 V v b) => rrd_any h hb hl)
  have HK := Lib.hid hK
  have HF := Lib.hid (fun w' (h : Below w.heap.size w w') => r8_bad (b := b) (w := w) (w' := w') (rdF_e1 he) h)
  unfold RdPost at HRd
  generalize hrb : rd b = rb at *
  obtain ⟨n, k, e⟩ := rb
  dsimp only at *
  have hez : ¬ (e : Int) = 0 := by omega
  clear hrb
  go_enter Try.func40, Try.ntmps40
  go_wp2_with fail
  refine (HRd.out _ (HK.out.keep (below_alloc _ _))).mono ?_
  rintro en w1 ⟨rfl, hb1⟩
  have HB1 := Lib.hid (below_after (below_alloc w (.cells #[.int .i64 0, .int .i64 0, .int .u64 0, .string ⟨#[]⟩] 81)) hb1)
  have HZ1 := Lib.hid ((F4.new w 81 (.int .i64 0) (.int .i64 0) (.int .u64 0) (.string ⟨#[]⟩)).keep hb1)
  clear hb1
  obtain ⟨z0, z1, z2, z3⟩ := HZ1.out.cells
  obtain ⟨y0, y1, y2, y3⟩ := HZ1.out.frozen
  have HB6 := Lib.hid (below_put4 HB1.out (Nat.le_refl _) (.int .i64 0) (.int .i64 0) (.int .u64 0) (.string ⟨#[]⟩))
  obtain ⟨d0, d1, d2, d3⟩ := (HZ1.out.put (.int .i64 0) (.int .i64 0) (.int .u64 0) (.string ⟨#[]⟩)).cells
  have HD0 := Lib.hid d0
  have HD1 := Lib.hid d1
  have HD2 := Lib.hid d2
  have HD3 := Lib.hid d3
  clear d0 d1 d2 d3
  unfold put4 at HB6 HD0 HD1 HD2 HD3
  go_wp2_with fail
  refine bodyPost_ret (v := .tuple #[.agg #[.int .i64 0, .int .i64 0, .int .u64 0, .string ⟨#[]⟩], .int .i64 (0), .int .i64 ((e : Int))]) (by simp [results, Try.results40, go_sem, HD0.out, HD1.out, HD2.out, HD3.out]) rfl ?_
  exact HF.out _ HB6.out
set_option maxRecDepth 100000 in
set_option maxHeartbeats 4000000 in
theorem rr_b {w : World} {v : Value} {b : List Nat} (hK : KL .u8 w v b) (hb : ∀ x ∈ b, x < 256) (hl : b.length ≤ 1000000) (he : (rd b).2.2 = 0) (hE : (rd b).1 / 8 < 1 ∨ 536870911 < (rd b).1 / 8) : Calls Try.prog 40 #[v] w (R8Post b w) := by
  have hmx : Try.prog.follows .mixedOrders = true := by kernel_rfl
  have HRd := Lib.hid (fun V (h : KL .u8 V v b) => rrd_any h hb hl)
  have HK := Lib.hid hK
  have hr : rd b = ((rd b).1, (rd b).2.1, 0) := by rw [← he]
  obtain ⟨t1, t2, t3, _, k5⟩ := rd_ok hr hb
  clear hr
  obtain ⟨qv, c, rfl, hlc, _⟩ := id hK
  obtain ⟨g, o, rfl, HG⟩ := hK.from t2 (by omega)
  clear hK
  have HF := Lib.hid (fun w' (h : Below w.heap.size w w') => r8_bad (b := b) (w := w) (w' := w') (rdF_5 he hE) h)
  unfold RdPost at HRd
  rw [he] at HRd
  have h1 : ((rd b).1 : Int) / 8 = (((rd b).1 / 8 : Nat) : Int) := by omega
  generalize (rd b).1 / 8 = a at *
  generalize (rd b).1 = u at *
  generalize (rd b).2.1 = k at *
  by_cases ha1 : a < 1
  · have ha1z : (a : Int) < 1 := by omega
    go_enter Try.func40, Try.ntmps40
    go_wp2_with fail
    refine (HRd.out _ (HK.out.keep (below_alloc _ _))).mono ?_
    rintro en w1 ⟨rfl, hb1⟩
    have HB1 := Lib.hid (below_after (below_alloc w (.cells #[.int .i64 0, .int .i64 0, .int .u64 0, .string ⟨#[]⟩] 81)) hb1)
    have HZ1 := Lib.hid ((F4.new w 81 (.int .i64 0) (.int .i64 0) (.int .u64 0) (.string ⟨#[]⟩)).keep hb1)
    clear hb1
    obtain ⟨z0, z1, z2, z3⟩ := HZ1.out.cells
    obtain ⟨y0, y1, y2, y3⟩ := HZ1.out.frozen
    have HB6 := Lib.hid (below_put4 HB1.out (Nat.le_refl _) (.int .i64 0) (.int .i64 0) (.int .u64 0) (.string ⟨#[]⟩))
    obtain ⟨d0, d1, d2, d3⟩ := (HZ1.out.put (.int .i64 0) (.int .i64 0) (.int .u64 0) (.string ⟨#[]⟩)).cells
    have HD0 := Lib.hid d0
    have HD1 := Lib.hid d1
    have HD2 := Lib.hid d2
    have HD3 := Lib.hid d3
    clear d0 d1 d2 d3
    unfold put4 at HB6 HD0 HD1 HD2 HD3
    go_wp2_with fail
    refine bodyPost_ret (v := .tuple #[.agg #[.int .i64 0, .int .i64 0, .int .u64 0, .string ⟨#[]⟩], .int .i64 (0), .int .i64 (5)]) (by simp [results, Try.results40, go_sem, HD0.out, HD1.out, HD2.out, HD3.out]) rfl ?_
    exact HF.out _ HB6.out
  · have ha1z : ¬ (a : Int) < 1 := by omega
    have ha2z : (536870911 : Int) < (a : Int) := by omega
    go_enter Try.func40, Try.ntmps40
    go_wp2_with fail
    refine (HRd.out _ (HK.out.keep (below_alloc _ _))).mono ?_
    rintro en w1 ⟨rfl, hb1⟩
    have HB1 := Lib.hid (below_after (below_alloc w (.cells #[.int .i64 0, .int .i64 0, .int .u64 0, .string ⟨#[]⟩] 81)) hb1)
    have HZ1 := Lib.hid ((F4.new w 81 (.int .i64 0) (.int .i64 0) (.int .u64 0) (.string ⟨#[]⟩)).keep hb1)
    clear hb1
    obtain ⟨z0, z1, z2, z3⟩ := HZ1.out.cells
    obtain ⟨y0, y1, y2, y3⟩ := HZ1.out.frozen
    have HB6 := Lib.hid (below_put4 HB1.out (Nat.le_refl _) (.int .i64 0) (.int .i64 0) (.int .u64 0) (.string ⟨#[]⟩))
    obtain ⟨d0, d1, d2, d3⟩ := (HZ1.out.put (.int .i64 0) (.int .i64 0) (.int .u64 0) (.string ⟨#[]⟩)).cells
    have HD0 := Lib.hid d0
    have HD1 := Lib.hid d1
    have HD2 := Lib.hid d2
    have HD3 := Lib.hid d3
    clear d0 d1 d2 d3
    unfold put4 at HB6 HD0 HD1 HD2 HD3
    go_wp2_with fail
    refine bodyPost_ret (v := .tuple #[.agg #[.int .i64 0, .int .i64 0, .int .u64 0, .string ⟨#[]⟩], .int .i64 (0), .int .i64 (5)]) (by simp [results, Try.results40, go_sem, HD0.out, HD1.out, HD2.out, HD3.out]) rfl ?_
    exact HF.out _ HB6.out
set_option maxRecDepth 100000 in
set_option maxHeartbeats 4000000 in
theorem rr_c {w : World} {v : Value} {b : List Nat} (hK : KL .u8 w v b) (hb : ∀ x ∈ b, x < 256) (hl : b.length ≤ 1000000) (he : (rd b).2.2 = 0) (hE : ¬ ((rd b).1 / 8 < 1 ∨ 536870911 < (rd b).1 / 8)) (hk : kdB (((rd b).1 % 8 : Nat) : Int) = false) : Calls Try.prog 40 #[v] w (R8Post b w) := by
  have hmx : Try.prog.follows .mixedOrders = true := by kernel_rfl
  have HRd := Lib.hid (fun V (h : KL .u8 V v b) => rrd_any h hb hl)
  have HK := Lib.hid hK
  have hr : rd b = ((rd b).1, (rd b).2.1, 0) := by rw [← he]
  obtain ⟨t1, t2, t3, _, k5⟩ := rd_ok hr hb
  clear hr
  obtain ⟨qv, c, rfl, hlc, _⟩ := id hK
  obtain ⟨g, o, rfl, HG⟩ := hK.from t2 (by omega)
  clear hK
  have HF := Lib.hid (fun w' (h : Below w.heap.size w w') => r8_bad (b := b) (w := w) (w' := w') (rdF_14 he hE hk) h)
  unfold RdPost at HRd
  rw [he] at HRd
  have h1 : ((rd b).1 : Int) / 8 = (((rd b).1 / 8 : Nat) : Int) := by omega
  have h2 : ((rd b).1 : Int) % 8 = (((rd b).1 % 8 : Nat) : Int) := by omega
  have ha : (rd b).1 / 8 < 2305843009213693952 := by omega
  have hr8 : (rd b).1 % 8 < 8 := by omega
  generalize (rd b).1 / 8 = a at *
  generalize (rd b).1 % 8 = r at *
  generalize (rd b).1 = u at *
  have ha1z : ¬ (a : Int) < 1 := by omega
  have ha2z : ¬ (536870911 : Int) < (a : Int) := by omega
  have x1 : IntKind.i64.wrap (a : Int) = (a : Int) := IntWalk.i64_in _ (by omega)
  generalize (rd b).2.1 = k at *
  have hrs : r = 3 ∨ r = 4 ∨ r = 6 ∨ r = 7 := by
    rcases (show r = 0 ∨ r = 1 ∨ r = 2 ∨ r = 3 ∨ r = 4 ∨ r = 5 ∨ r = 6 ∨ r = 7 by omega) with h | h | h | h | h | h | h | h <;> subst h <;> first | omega | (exact absurd hk (by decide))
  rcases hrs with hrr | hrr | hrr | hrr
  · subst hrr
    go_enter Try.func40, Try.ntmps40
    go_wp2_with fail
    refine (HRd.out _ (HK.out.keep (below_alloc _ _))).mono ?_
    rintro en w1 ⟨rfl, hb1⟩
    have HB1 := Lib.hid (below_after (below_alloc w (.cells #[.int .i64 0, .int .i64 0, .int .u64 0, .string ⟨#[]⟩] 81)) hb1)
    have HZ1 := Lib.hid ((F4.new w 81 (.int .i64 0) (.int .i64 0) (.int .u64 0) (.string ⟨#[]⟩)).keep hb1)
    clear hb1
    have HS2 := Lib.hid (Rk.first HB1.out HZ1.out (a : Int) 3)
    go_upto_region 7 with fail
    clear HB1 HZ1
    generalize hk8 : w1.heap.size = k8 at *
    generalize w1.alloc (.cells #[.int .i64 (a : Int), .int .i64 3, .int .u64 0, .string ⟨#[]⟩] 81) = w2 at *
    clear hk8
    obtain ⟨c0, c1, c2, c3⟩ := HS2.out.f.cells
    obtain ⟨g0, g1, g2, g3⟩ := HS2.out.f.frozen
    obtain ⟨z0, z1, z2, z3⟩ := HS2.out.z.cells
    obtain ⟨y0, y1, y2, y3⟩ := HS2.out.z.frozen
    have HB6 := Lib.hid (below_put4 HS2.out.bl (Nat.le_refl _) (.int .i64 0) (.int .i64 0) (.int .u64 0) (.string ⟨#[]⟩))
    obtain ⟨d0, d1, d2, d3⟩ := (HS2.out.z.put (.int .i64 0) (.int .i64 0) (.int .u64 0) (.string ⟨#[]⟩)).cells
    have HD0 := Lib.hid d0
    have HD1 := Lib.hid d1
    have HD2 := Lib.hid d2
    have HD3 := Lib.hid d3
    clear d0 d1 d2 d3
    unfold put4 at HB6 HD0 HD1 HD2 HD3
    go_wp2_with fail
    refine bodyPost_ret (v := .tuple #[.agg #[.int .i64 0, .int .i64 0, .int .u64 0, .string ⟨#[]⟩], .int .i64 (0), .int .i64 (14)]) (by simp [results, Try.results40, go_sem, HD0.out, HD1.out, HD2.out, HD3.out]) rfl ?_
    exact HF.out _ HB6.out
  · subst hrr
    go_enter Try.func40, Try.ntmps40
    go_wp2_with fail
    refine (HRd.out _ (HK.out.keep (below_alloc _ _))).mono ?_
    rintro en w1 ⟨rfl, hb1⟩
    have HB1 := Lib.hid (below_after (below_alloc w (.cells #[.int .i64 0, .int .i64 0, .int .u64 0, .string ⟨#[]⟩] 81)) hb1)
    have HZ1 := Lib.hid ((F4.new w 81 (.int .i64 0) (.int .i64 0) (.int .u64 0) (.string ⟨#[]⟩)).keep hb1)
    clear hb1
    have HS2 := Lib.hid (Rk.first HB1.out HZ1.out (a : Int) 4)
    go_upto_region 7 with fail
    clear HB1 HZ1
    generalize hk8 : w1.heap.size = k8 at *
    generalize w1.alloc (.cells #[.int .i64 (a : Int), .int .i64 4, .int .u64 0, .string ⟨#[]⟩] 81) = w2 at *
    clear hk8
    obtain ⟨c0, c1, c2, c3⟩ := HS2.out.f.cells
    obtain ⟨g0, g1, g2, g3⟩ := HS2.out.f.frozen
    obtain ⟨z0, z1, z2, z3⟩ := HS2.out.z.cells
    obtain ⟨y0, y1, y2, y3⟩ := HS2.out.z.frozen
    have HB6 := Lib.hid (below_put4 HS2.out.bl (Nat.le_refl _) (.int .i64 0) (.int .i64 0) (.int .u64 0) (.string ⟨#[]⟩))
    obtain ⟨d0, d1, d2, d3⟩ := (HS2.out.z.put (.int .i64 0) (.int .i64 0) (.int .u64 0) (.string ⟨#[]⟩)).cells
    have HD0 := Lib.hid d0
    have HD1 := Lib.hid d1
    have HD2 := Lib.hid d2
    have HD3 := Lib.hid d3
    clear d0 d1 d2 d3
    unfold put4 at HB6 HD0 HD1 HD2 HD3
    go_wp2_with fail
    refine bodyPost_ret (v := .tuple #[.agg #[.int .i64 0, .int .i64 0, .int .u64 0, .string ⟨#[]⟩], .int .i64 (0), .int .i64 (14)]) (by simp [results, Try.results40, go_sem, HD0.out, HD1.out, HD2.out, HD3.out]) rfl ?_
    exact HF.out _ HB6.out
  · subst hrr
    go_enter Try.func40, Try.ntmps40
    go_wp2_with fail
    refine (HRd.out _ (HK.out.keep (below_alloc _ _))).mono ?_
    rintro en w1 ⟨rfl, hb1⟩
    have HB1 := Lib.hid (below_after (below_alloc w (.cells #[.int .i64 0, .int .i64 0, .int .u64 0, .string ⟨#[]⟩] 81)) hb1)
    have HZ1 := Lib.hid ((F4.new w 81 (.int .i64 0) (.int .i64 0) (.int .u64 0) (.string ⟨#[]⟩)).keep hb1)
    clear hb1
    have HS2 := Lib.hid (Rk.first HB1.out HZ1.out (a : Int) 6)
    go_upto_region 7 with fail
    clear HB1 HZ1
    generalize hk8 : w1.heap.size = k8 at *
    generalize w1.alloc (.cells #[.int .i64 (a : Int), .int .i64 6, .int .u64 0, .string ⟨#[]⟩] 81) = w2 at *
    clear hk8
    obtain ⟨c0, c1, c2, c3⟩ := HS2.out.f.cells
    obtain ⟨g0, g1, g2, g3⟩ := HS2.out.f.frozen
    obtain ⟨z0, z1, z2, z3⟩ := HS2.out.z.cells
    obtain ⟨y0, y1, y2, y3⟩ := HS2.out.z.frozen
    have HB6 := Lib.hid (below_put4 HS2.out.bl (Nat.le_refl _) (.int .i64 0) (.int .i64 0) (.int .u64 0) (.string ⟨#[]⟩))
    obtain ⟨d0, d1, d2, d3⟩ := (HS2.out.z.put (.int .i64 0) (.int .i64 0) (.int .u64 0) (.string ⟨#[]⟩)).cells
    have HD0 := Lib.hid d0
    have HD1 := Lib.hid d1
    have HD2 := Lib.hid d2
    have HD3 := Lib.hid d3
    clear d0 d1 d2 d3
    unfold put4 at HB6 HD0 HD1 HD2 HD3
    go_wp2_with fail
    refine bodyPost_ret (v := .tuple #[.agg #[.int .i64 0, .int .i64 0, .int .u64 0, .string ⟨#[]⟩], .int .i64 (0), .int .i64 (14)]) (by simp [results, Try.results40, go_sem, HD0.out, HD1.out, HD2.out, HD3.out]) rfl ?_
    exact HF.out _ HB6.out
  · subst hrr
    go_enter Try.func40, Try.ntmps40
    go_wp2_with fail
    refine (HRd.out _ (HK.out.keep (below_alloc _ _))).mono ?_
    rintro en w1 ⟨rfl, hb1⟩
    have HB1 := Lib.hid (below_after (below_alloc w (.cells #[.int .i64 0, .int .i64 0, .int .u64 0, .string ⟨#[]⟩] 81)) hb1)
    have HZ1 := Lib.hid ((F4.new w 81 (.int .i64 0) (.int .i64 0) (.int .u64 0) (.string ⟨#[]⟩)).keep hb1)
    clear hb1
    have HS2 := Lib.hid (Rk.first HB1.out HZ1.out (a : Int) 7)
    go_upto_region 7 with fail
    clear HB1 HZ1
    generalize hk8 : w1.heap.size = k8 at *
    generalize w1.alloc (.cells #[.int .i64 (a : Int), .int .i64 7, .int .u64 0, .string ⟨#[]⟩] 81) = w2 at *
    clear hk8
    obtain ⟨c0, c1, c2, c3⟩ := HS2.out.f.cells
    obtain ⟨g0, g1, g2, g3⟩ := HS2.out.f.frozen
    obtain ⟨z0, z1, z2, z3⟩ := HS2.out.z.cells
    obtain ⟨y0, y1, y2, y3⟩ := HS2.out.z.frozen
    have HB6 := Lib.hid (below_put4 HS2.out.bl (Nat.le_refl _) (.int .i64 0) (.int .i64 0) (.int .u64 0) (.string ⟨#[]⟩))
    obtain ⟨d0, d1, d2, d3⟩ := (HS2.out.z.put (.int .i64 0) (.int .i64 0) (.int .u64 0) (.string ⟨#[]⟩)).cells
    have HD0 := Lib.hid d0
    have HD1 := Lib.hid d1
    have HD2 := Lib.hid d2
    have HD3 := Lib.hid d3
    clear d0 d1 d2 d3
    unfold put4 at HB6 HD0 HD1 HD2 HD3
    go_wp2_with fail
    refine bodyPost_ret (v := .tuple #[.agg #[.int .i64 0, .int .i64 0, .int .u64 0, .string ⟨#[]⟩], .int .i64 (0), .int .i64 (14)]) (by simp [results, Try.results40, go_sem, HD0.out, HD1.out, HD2.out, HD3.out]) rfl ?_
    exact HF.out _ HB6.out
end Go.Proofs.Ytcbgknlklpandaa
