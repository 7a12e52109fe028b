/- Layer 8's example: the law's known. -/
import Derived.Test.YtcbgknlklpandaaProK
namespace Go.Proofs.Ytcbgknlklpandaa
open Go.RowKit Go.Sort

theorem k8_key1 : fby ⟨3, 2, 0, [97, 98]⟩ = [26, 2, 97, 98] := by
  unfold fby pay
  rw [show key ⟨3, 2, 0, [97, 98]⟩ = 26 from by decide, if_neg (by decide), if_pos rfl, nb_lo (n := 26) (by omega), nb_lo (n := ([97, 98] : List Nat).length) (by decide)]
  rfl
theorem k8_key2 : fby ⟨15, 0, 2, []⟩ = [120, 2] := by
  unfold fby pay
  rw [show key ⟨15, 0, 2, []⟩ = 120 from by decide, if_pos rfl, nb_lo (n := 120) (by omega), nb_lo (n := 2) (by decide)]
  rfl
/-- The literal text's bytes, marked. -/
def k8W (w : World) : World := (w.alloc (.cells #[.int .u8 97, .int .u8 98] 5)).freeze ⟨w.heap.size, 2, none⟩ 1
theorem conv_same8 (w : World) : (convert 62 62 (.slice (some ⟨w.heap.size, 0, none⟩) 2 2)).run Try.prog (w.alloc (.cells #[.int .u8 97, .int .u8 98] 5)) = .ok (.slice (some ⟨w.heap.size, 0, none⟩) 2 2) (k8W w) := by
  have hu := Try.underlying62
  have hb := Try.underlying5
  have hsh : (w.alloc (.cells #[.int .u8 97, .int .u8 98] 5)).shape? w.heap.size = some (5, 2) := by
    simp [World.shape?, World.alloc, -World.alloc_eq]
  unfold convert
  simp [run_underlying hu, run_underlying hb, markStringish, hsh, k8W, Result.andThen]
theorem k8W_at (w : World) : (k8W w).heap[w.heap.size]? = some (.cells #[.int .u8 97, .int .u8 98] 5 (2, 3)) := by
  simp [k8W, World.freeze, World.alloc, -World.alloc_eq]
  rw [Array.getElem_modify_self]
  simp
theorem k8W_old (w : World) (j : Nat) (hj : j < w.heap.size) : (k8W w).heap[j]? = w.heap[j]? := by
  have h1 : w.heap.size ≠ j := by omega
  simp [k8W, World.freeze, World.alloc, -World.alloc_eq, Array.getElem?_modify, Array.getElem?_push, h1, Ne.symm h1]
theorem k8W_size (w : World) : (k8W w).heap.size = w.heap.size + 1 := by
  simp [k8W, World.freeze, World.alloc, -World.alloc_eq]
theorem k8W_below (w : World) : Below w.heap.size w (k8W w) := ⟨rfl, rfl, rfl, by rw [k8W_size]; omega, fun k hk => k8W_old w k hk⟩
theorem k8W_kl (w : World) : KL .u8 (k8W w) (.slice (some ⟨w.heap.size, 0, none⟩) 2 2) [97, 98] := by
  refine ⟨_, 2, rfl, by decide, fun i hi => ⟨w.heap.size, 0, rfl, ?_⟩⟩
  match i, hi with
  | 0, _ => simp [World.cell?, k8W_at]
  | 1, _ => simp [World.cell?, k8W_at]
def k8L : List Fd := [⟨3, 2, 0, [97, 98]⟩, ⟨15, 0, 2, []⟩]
theorem k8_wrE : wrE k8L = 0 := by decide
theorem k8_wrB : wrB k8L = [26, 2, 97, 98, 120, 2] := by
  unfold wrB k8L
  simp only [List.flatMap_cons, List.flatMap_nil, List.append_nil, k8_key1, k8_key2]
  rfl
theorem k8_wrO : wrO k8L = [26, 2, 97, 98, 120, 2] := by unfold wrO; rw [if_pos k8_wrE, k8_wrB]
theorem k8_fl (W : World) (T : TypeId) (q : Option Addr) (h : KL .u8 W (.slice q 2 2) [97, 98]) :
    FL (W.alloc (.cells #[.int .i64 3, .int .i64 2, .int .u64 0, .slice q 2 2, .int .i64 15, .int .i64 0, .int .u64 2, .slice none 0 0] T)) (.slice (some ⟨W.heap.size, 0, none⟩) 2 2) k8L := by
  have hk := h.keep (below_alloc W (.cells #[.int .i64 3, .int .i64 2, .int .u64 0, .slice q 2 2, .int .i64 15, .int .i64 0, .int .u64 2, .slice none 0 0] T))
  refine ⟨_, 2, rfl, by decide, fun i hi => ?_⟩
  match i, hi with
  | 0, _ => exact ⟨W.heap.size, 0, q, 2, rfl, (by go_simp; rfl), (by go_simp; rfl), (by go_simp; rfl), (by go_simp; rfl), hk⟩
  | 1, _ => exact ⟨W.heap.size, 0, none, 0, rfl, (by go_simp; rfl), (by go_simp; rfl), (by go_simp; rfl), (by go_simp; rfl), kl_none _ _ _ _⟩
set_option maxRecDepth 100000 in
set_option maxHeartbeats 4000000 in
theorem known8_yes (w : World) : Calls Try.prog 35 #[] w fun e w' => e = .returned (.bool true) ∧ Below w.heap.size w w' := by
  have hmx : Try.prog.follows .mixedOrders = true := by kernel_rfl
  have hcv := conv_same8 w
  have HB0 := Lib.hid (below_after (k8W_below w) (below_alloc (k8W w) (.cells #[.int .i64 3, .int .i64 2, .int .u64 0, .slice (some ⟨w.heap.size, 0, none⟩) 2 2, .int .i64 15, .int .i64 0, .int .u64 2, .slice none 0 0] 77)))
  have HFL := k8_fl (k8W w) 77 (some ⟨w.heap.size, 0, none⟩) (k8W_kl w)
  generalize k8W w = V at *
  have HW := pwrite_any HFL (by decide) (by intro f hf; simp [k8L] at hf; rcases hf with rfl | rfl <;> exact ⟨by decide, by simp, by simp⟩) (fun i hi hc => by
    have : i = 0 ∨ i = 1 ∨ i = 2 := by have : k8L.length = 2 := rfl; omega
    rcases this with rfl | rfl | rfl
    · simp [wrB]
    · simp [wrB, k8L, k8_key1]
    · have := congrArg List.length k8_wrB
      simp [k8L] at this ⊢
      omega)
  unfold WrPost at HW
  rw [k8_wrO, k8_wrE] at HW
  have HW := Lib.hid HW
  have HR := Lib.hid (fun (V : World) (n : Nat) (hn : n < 256) => pread_any (kl_lit .u8 V 5 [n] (cs := #[.int .u8 (n : Int)]) rfl (by show 1 ≤ 1000; omega) (n := 1) rfl) (by intro x hx; simp at hx; omega) (by show 1 ≤ 1000000; omega))
  have HR0 := Lib.hid (fun V => HR.out V 0 (by omega))
  have HR1 := Lib.hid (fun V => HR.out V 11 (by omega))
  unfold Rd8Post at HR0 HR1
  rw [show (rdF [0]).2.2 = 5 from by decide] at HR0
  rw [show (rdF [11]).2.2 = 14 from by decide] at HR1
  generalize rdF [0] = r0 at *
  generalize rdF [11] = r1 at *
  have HL := Lib.hid (fun V : World => kl_lit .u8 V 5 [26, 2, 97, 98, 120, 2] (cs := #[.int .u8 26, .int .u8 2, .int .u8 97, .int .u8 98, .int .u8 120, .int .u8 2]) rfl (by decide) (n := 6) rfl)
  clear HFL HR
  go_enter Try.func35, Try.ntmps35
  go_wp2_with fail
  refine HW.out.mono ?_
  rintro en w1 ⟨u, rfl, ho1, hb1⟩
  have HU := Lib.hid (kl_own (L := [26, 2, 97, 98, 120, 2]) rfl ho1)
  have HB1 := Lib.hid (below_after HB0.out hb1)
  obtain ⟨qu, cu, rfl, _⟩ := HU.out
  clear ho1 hb1 HW HB0 hcv
  go_wp2_with fail
  refine (HR0.out w1).mono ?_
  rintro en w2 ⟨q2, c2, rfl, _, hb2⟩
  have hb2 := below_after (below_alloc w1 _) hb2
  have HB2 := Lib.hid (below_after HB1.out hb2)
  have HU2 := Lib.hid (HU.out.keep hb2)
  clear hb2 HR0
  go_wp2_with fail
  have HB3 := Lib.hid (below_after HB2.out (below_alloc w2 (.cells #[.int .i64 r0.1.num, .int .i64 r0.1.kind, .int .u64 (r0.1.n : Int), .slice q2 r0.1.b.length c2] 77)))
  have HU3 := Lib.hid (HU2.out.keep (below_alloc w2 (.cells #[.int .i64 r0.1.num, .int .i64 r0.1.kind, .int .u64 (r0.1.n : Int), .slice q2 r0.1.b.length c2] 77)))
  have hr := HR1.out (w2.alloc (.cells #[.int .i64 r0.1.num, .int .i64 r0.1.kind, .int .u64 (r0.1.n : Int), .slice q2 r0.1.b.length c2] 77))
  rw [World.size_alloc] at hr
  refine hr.mono ?_
  rintro en w4 ⟨q4, c4, rfl, _, hb4⟩
  have hb4 := below_after (below_alloc _ _) hb4
  have HB4 := Lib.hid (below_after HB3.out hb4)
  have HU4 := Lib.hid (HU3.out.keep hb4)
  clear hb4 hr HR1
  go_wp2_with fail
  refine (rsame_any (HU4.out.keep (below_after (below_alloc _ _) (below_alloc _ _))) (by have h := HL.out (w4.alloc (.cells #[.int .i64 r1.1.num, .int .i64 r1.1.kind, .int .u64 (r1.1.n : Int), .slice q4 r1.1.b.length c4] 77)); rw [World.size_alloc] at h; exact h) (by decide)).mono ?_
  rintro en w5 ⟨rfl, hb5⟩
  have HB5 := Lib.hid (below_after (below_after HB4.out (below_after (below_alloc _ _) (below_alloc _ _))) hb5)
  clear hb5
  go_wp2_with fail
  go_ret
  exact ⟨rfl, HB5.out⟩
end Go.Proofs.Ytcbgknlklpandaa
