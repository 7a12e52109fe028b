/- The walk of ExactLies. -/
import Derived.Test.YtoojifpgdmhmcaaAreasLaw
import Derived.Test.YtoojifpgdmhmcaaInv2
namespace Go.Proofs.Ytoojifpgdmhmcaa
open Go.RowKit Go.BigFrame

/-- All of four points that lie in a block. -/
theorem all4' (W : World) (b : Nat) (ax ay bx b_y cx cy px py : Int)
    (h0 : W.cell? ⟨b, 0, none⟩ = some (.int .i64 ax)) (h1 : W.cell? ⟨b, 1, none⟩ = some (.int .i64 ay)) (h2 : W.cell? ⟨b, 2, none⟩ = some (.int .i64 bx))
    (h3 : W.cell? ⟨b, 3, none⟩ = some (.int .i64 b_y)) (h4 : W.cell? ⟨b, 4, none⟩ = some (.int .i64 cx)) (h5 : W.cell? ⟨b, 5, none⟩ = some (.int .i64 cy))
    (h6 : W.cell? ⟨b, 6, none⟩ = some (.int .i64 px)) (h7 : W.cell? ⟨b, 7, none⟩ = some (.int .i64 py)) :
    Calls Try.prog 14 #[.slice (some ⟨b, 0, none⟩) 4 4] W fun e w' => e = .returned (.bool (ok4 ax ay bx b_y cx cy px py)) ∧ Below W.heap.size W w' := by
  rw [← pall4]
  refine all_any b 0 4 4 _ _ W (by omega) (World.block_lt_of_cell? W ⟨b, 0, none⟩ h0) ?_ ?_
  · intro i hi
    match i, hi with
    | 0, _ => exact h0
    | 1, _ => exact h2
    | 2, _ => exact h4
    | 3, _ => exact h6
  · intro i hi
    match i, hi with
    | 0, _ => exact h1
    | 1, _ => exact h3
    | 2, _ => exact h5
    | 3, _ => exact h7
theorem OfS4.size {w : World} {ax ay bx b_y cx cy px py : Int} {W : World} (h : OfS4 w ax ay bx b_y cx cy px py W) : w.heap.size + 4 ≤ W.heap.size := by
  have := World.block_lt_of_cell? W ⟨w.heap.size + 1 + 1 + 1, 0, none⟩ h.2.2.2.2.2.2.1
  show w.heap.size + 1 + 1 + 1 + 1 ≤ _
  exact this

set_option maxRecDepth 100000 in
set_option maxHeartbeats 8000000 in
theorem lies_1 (ax ay bx b_y cx cy px py : Int) (w : World) :
    Calls Try.prog 4 #[.agg #[.int .i64 ax, .int .i64 ay], .agg #[.int .i64 bx, .int .i64 b_y], .agg #[.int .i64 cx, .int .i64 cy], .agg #[.int .i64 px, .int .i64 py]] w
      fun e w' => e = .returned (.bool true) ∧ Below w.heap.size w w' := by
  have hW : Hid (∀ W, OfS4 w ax ay bx b_y cx cy px py W → w.heap.size + 4 ≤ W.heap.size) := fun W h => h.size
  go_enter Try.func4, Try.ntmps4
  have hS0 : OfS4 w ax ay bx b_y cx cy px py ((((w.alloc (.cells #[.int .i64 ax, .int .i64 ay] 23)).alloc (.cells #[.int .i64 bx, .int .i64 b_y] 23)).alloc (.cells #[.int .i64 cx, .int .i64 cy] 23)).alloc (.cells #[.int .i64 px, .int .i64 py] 23)) := ⟨by go_simp, by go_simp, by go_simp, by go_simp, by go_simp, by go_simp, by go_simp, by go_simp, b4 _ _ _ _ _⟩
  go_upto_region 1 with fail
  go_cut [9, 10, 11, 12] (fun s9 s10 s11 s12 wx => ∃ k0 k1 k2 k3 : Nat, s9 = .pointer (some ⟨k0, 0, none⟩) ∧ s10 = .pointer (some ⟨k1, 0, none⟩) ∧ s11 = .pointer (some ⟨k2, 0, none⟩) ∧ s12 = .pointer (some ⟨k3, 0, none⟩) ∧ OfT4 w k0 k1 k2 k3 ax ay bx b_y cx cy px py wx)
  case first =>
    refine wp_region_any (by kernel_rfl) ?_
    refine wpAny_inv (rest := 4) (fun m listed a W => ∃ (t0 t1 t2 t3 t4 t5 t6 t7 t8 t9 t10 t11 : Bool) (k0 k1 k2 k3 : Nat), listed = #[t0, t1, t2, t3, t4, t5, t6, t7, t8, t9, t10, t11, false, false, false, false] ∧ m + t0.toNat + t1.toNat + t2.toNat + t3.toNat + t4.toNat + t5.toNat + t6.toNat + t7.toNat + t8.toNat + t9.toNat + t10.toNat + t11.toNat = 12 ∧ a = { tmps := #[.agg #[.int .i64 ax, .int .i64 ay], .agg #[.int .i64 bx, .int .i64 b_y], .agg #[.int .i64 cx, .int .i64 cy], .agg #[.int .i64 px, .int .i64 py], .pointer (some ⟨w.heap.size, 0, none⟩), .pointer (some ⟨w.heap.size + 1, 0, none⟩), .pointer (some ⟨w.heap.size + 1 + 1, 0, none⟩), .pointer (some ⟨w.heap.size + 1 + 1 + 1, 0, none⟩), .bool false, sl t8 (.pointer (some ⟨k0, 0, none⟩)), sl t9 (.pointer (some ⟨k1, 0, none⟩)), sl t10 (.pointer (some ⟨k2, 0, none⟩)), sl t11 (.pointer (some ⟨k3, 0, none⟩)), undef, undef, sl t0 (.agg #[.int .i64 ax, .int .i64 ay]), sl t1 (.agg #[.int .i64 ax, .int .i64 ay]), sl t2 (.agg #[.int .i64 bx, .int .i64 b_y]), sl t3 (.agg #[.int .i64 bx, .int .i64 b_y]), sl t4 (.agg #[.int .i64 cx, .int .i64 cy]), sl t5 (.agg #[.int .i64 cx, .int .i64 cy]), sl t6 (.agg #[.int .i64 px, .int .i64 py]), sl t7 (.agg #[.int .i64 px, .int .i64 py]), undef, undef, undef, undef, undef, undef, undef, undef, undef, undef, undef, undef, undef, undef, undef, undef, undef, undef, undef, undef, undef, undef, undef, undef, undef, undef, undef, undef, undef, undef, undef, undef, undef, undef, undef, undef, undef, undef, undef, undef, undef, undef], defers := [] } ∧ OfS4 w ax ay bx b_y cx cy px py W ∧ Fr W (w.heap.size + 4) t8 k0 ∧ Fr W (w.heap.size + 4) t9 k1 ∧ Fr W (w.heap.size + 4) t10 k2 ∧ Fr W (w.heap.size + 4) t11 k3 ∧ (t8 = true → t9 = true → k0 ≠ k1) ∧ (t8 = true → t10 = true → k0 ≠ k2) ∧ (t8 = true → t11 = true → k0 ≠ k3) ∧ (t9 = true → t10 = true → k1 ≠ k2) ∧ (t9 = true → t11 = true → k1 ≠ k3) ∧ (t10 = true → t11 = true → k2 ≠ k3) ∧ Dep4 t0 t1 t2 t3 t4 t5 t6 t7) ?_ ?_ ?_ 12 _ _ _ ?_
    · rintro m listed a W ⟨t0, t1, t2, t3, t4, t5, t6, t7, t8, t9, t10, t11, k0, k1, k2, k3, rfl, hm, rfl, hS, f0, f1, f2, f3, e01, e02, e03, e12, e13, e23, hdep⟩
      cases t8
      · exact List.ne_nil_of_mem (a := 8) (mem_ready.2 ⟨rfl, _, rfl, by simp⟩)
      cases t9
      · exact List.ne_nil_of_mem (a := 9) (mem_ready.2 ⟨rfl, _, rfl, by simp⟩)
      cases t10
      · exact List.ne_nil_of_mem (a := 10) (mem_ready.2 ⟨rfl, _, rfl, by simp⟩)
      cases t11
      · exact List.ne_nil_of_mem (a := 11) (mem_ready.2 ⟨rfl, _, rfl, by simp⟩)
      cases t0
      · exact List.ne_nil_of_mem (a := 0) (mem_ready.2 ⟨rfl, _, rfl, by simp⟩)
      cases t2
      · exact List.ne_nil_of_mem (a := 2) (mem_ready.2 ⟨rfl, _, rfl, by simp⟩)
      cases t4
      · exact List.ne_nil_of_mem (a := 4) (mem_ready.2 ⟨rfl, _, rfl, by simp⟩)
      cases t6
      · exact List.ne_nil_of_mem (a := 6) (mem_ready.2 ⟨rfl, _, rfl, by simp⟩)
      cases t1
      · exact List.ne_nil_of_mem (a := 1) (mem_ready.2 ⟨rfl, _, rfl, by simp⟩)
      cases t3
      · exact List.ne_nil_of_mem (a := 3) (mem_ready.2 ⟨rfl, _, rfl, by simp⟩)
      cases t5
      · exact List.ne_nil_of_mem (a := 5) (mem_ready.2 ⟨rfl, _, rfl, by simp⟩)
      cases t7
      · exact List.ne_nil_of_mem (a := 7) (mem_ready.2 ⟨rfl, _, rfl, by simp⟩)
      simp at hm
    · rintro m listed a W ⟨t0, t1, t2, t3, t4, t5, t6, t7, t8, t9, t10, t11, k0, k1, k2, k3, rfl, hm, rfl, hS, f0, f1, f2, f3, e01, e02, e03, e12, e13, e23, hdep⟩ i hi
      obtain ⟨hun, o, ho, hall⟩ := mem_ready.1 hi
      match i, hun, ho, hall with
      | 0, hun, ho, hall =>
        have hb : t0 = false := hun
        subst hb
        simp at hm
        refine wpOp_step rfl (fun K' hK => ?_)
        have hS' := hS
        obtain ⟨c0, c1, c2, c3, c4, c5, c6, c7, _⟩ := hS'
        go_simp
        refine hK _ _ ⟨true, t1, t2, t3, t4, t5, t6, t7, t8, t9, t10, t11, k0, k1, k2, k3, rfl, by simp; omega, rfl, hS, f0, f1, f2, f3, e01, e02, e03, e12, e13, e23, by clear hS hall; unfold Dep4 at *; grind⟩
      | 1, hun, ho, hall =>
        have hb : t1 = false := hun
        subst hb
        have hg : t0 = true := hall ⟨0, .data⟩ (by cases ho; simp) rfl
        subst hg
        simp at hm
        refine wpOp_step rfl (fun K' hK => ?_)
        go_simp
        refine (of_any _ _ _).mono ?_
        rintro e w4 ⟨rfl, hb4⟩
        refine hK _ _ ⟨true, true, t2, t3, t4, t5, t6, t7, t8, t9, t10, t11, k0, k1, k2, k3, rfl, by simp; omega, rfl, hS.keep hb4, f0.keep hb4, f1.keep hb4, f2.keep hb4, f3.keep hb4, e01, e02, e03, e12, e13, e23, by clear hS hall; unfold Dep4 at *; grind⟩
      | 2, hun, ho, hall =>
        have hb : t2 = false := hun
        subst hb
        simp at hm
        refine wpOp_step rfl (fun K' hK => ?_)
        have hS' := hS
        obtain ⟨c0, c1, c2, c3, c4, c5, c6, c7, _⟩ := hS'
        go_simp
        refine hK _ _ ⟨t0, t1, true, t3, t4, t5, t6, t7, t8, t9, t10, t11, k0, k1, k2, k3, rfl, by simp; omega, rfl, hS, f0, f1, f2, f3, e01, e02, e03, e12, e13, e23, by clear hS hall; unfold Dep4 at *; grind⟩
      | 3, hun, ho, hall =>
        have hb : t3 = false := hun
        subst hb
        have hg : t2 = true := hall ⟨2, .data⟩ (by cases ho; simp) rfl
        subst hg
        have hg2 : t1 = true := hall ⟨1, .chain⟩ (by cases ho; simp) rfl
        subst hg2
        simp at hm
        refine wpOp_step rfl (fun K' hK => ?_)
        go_simp
        refine (of_any _ _ _).mono ?_
        rintro e w4 ⟨rfl, hb4⟩
        refine hK _ _ ⟨t0, true, true, true, t4, t5, t6, t7, t8, t9, t10, t11, k0, k1, k2, k3, rfl, by simp; omega, rfl, hS.keep hb4, f0.keep hb4, f1.keep hb4, f2.keep hb4, f3.keep hb4, e01, e02, e03, e12, e13, e23, by clear hS hall; unfold Dep4 at *; grind⟩
      | 4, hun, ho, hall =>
        have hb : t4 = false := hun
        subst hb
        simp at hm
        refine wpOp_step rfl (fun K' hK => ?_)
        have hS' := hS
        obtain ⟨c0, c1, c2, c3, c4, c5, c6, c7, _⟩ := hS'
        go_simp
        refine hK _ _ ⟨t0, t1, t2, t3, true, t5, t6, t7, t8, t9, t10, t11, k0, k1, k2, k3, rfl, by simp; omega, rfl, hS, f0, f1, f2, f3, e01, e02, e03, e12, e13, e23, by clear hS hall; unfold Dep4 at *; grind⟩
      | 5, hun, ho, hall =>
        have hb : t5 = false := hun
        subst hb
        have hg : t4 = true := hall ⟨4, .data⟩ (by cases ho; simp) rfl
        subst hg
        have hg2 : t3 = true := hall ⟨3, .chain⟩ (by cases ho; simp) rfl
        subst hg2
        simp at hm
        refine wpOp_step rfl (fun K' hK => ?_)
        go_simp
        refine (of_any _ _ _).mono ?_
        rintro e w4 ⟨rfl, hb4⟩
        refine hK _ _ ⟨t0, t1, t2, true, true, true, t6, t7, t8, t9, t10, t11, k0, k1, k2, k3, rfl, by simp; omega, rfl, hS.keep hb4, f0.keep hb4, f1.keep hb4, f2.keep hb4, f3.keep hb4, e01, e02, e03, e12, e13, e23, by clear hS hall; unfold Dep4 at *; grind⟩
      | 6, hun, ho, hall =>
        have hb : t6 = false := hun
        subst hb
        simp at hm
        refine wpOp_step rfl (fun K' hK => ?_)
        have hS' := hS
        obtain ⟨c0, c1, c2, c3, c4, c5, c6, c7, _⟩ := hS'
        go_simp
        refine hK _ _ ⟨t0, t1, t2, t3, t4, t5, true, t7, t8, t9, t10, t11, k0, k1, k2, k3, rfl, by simp; omega, rfl, hS, f0, f1, f2, f3, e01, e02, e03, e12, e13, e23, by clear hS hall; unfold Dep4 at *; grind⟩
      | 7, hun, ho, hall =>
        have hb : t7 = false := hun
        subst hb
        have hg : t6 = true := hall ⟨6, .data⟩ (by cases ho; simp) rfl
        subst hg
        have hg2 : t5 = true := hall ⟨5, .chain⟩ (by cases ho; simp) rfl
        subst hg2
        simp at hm
        refine wpOp_step rfl (fun K' hK => ?_)
        go_simp
        refine (of_any _ _ _).mono ?_
        rintro e w4 ⟨rfl, hb4⟩
        refine hK _ _ ⟨t0, t1, t2, t3, t4, true, true, true, t8, t9, t10, t11, k0, k1, k2, k3, rfl, by simp; omega, rfl, hS.keep hb4, f0.keep hb4, f1.keep hb4, f2.keep hb4, f3.keep hb4, e01, e02, e03, e12, e13, e23, by clear hS hall; unfold Dep4 at *; grind⟩
      | 8, hun, ho, hall =>
        have hb : t8 = false := hun
        subst hb
        simp at hm
        refine wpOp_step rfl (fun K' hK => ?_)
        have hB : w.heap.size + 4 ≤ W.heap.size := hW.out W hS
        go_simp
        refine hK _ _ ⟨t0, t1, t2, t3, t4, t5, t6, t7, true, t9, t10, t11, W.heap.size, k1, k2, k3, rfl, by simp; omega, rfl, hS.keep (b1 W (.cells #[.int .i64 0, .int .i64 0] 24)), Fr.new W _ 24 hB, f1.keep (b1 W (.cells #[.int .i64 0, .int .i64 0] 24)), f2.keep (b1 W (.cells #[.int .i64 0, .int .i64 0] 24)), f3.keep (b1 W (.cells #[.int .i64 0, .int .i64 0] 24)), fun _ hq => Nat.ne_of_gt (f1.lt hq), fun _ hq => Nat.ne_of_gt (f2.lt hq), fun _ hq => Nat.ne_of_gt (f3.lt hq), e12, e13, e23, hdep⟩
      | 9, hun, ho, hall =>
        have hb : t9 = false := hun
        subst hb
        simp at hm
        refine wpOp_step rfl (fun K' hK => ?_)
        have hB : w.heap.size + 4 ≤ W.heap.size := hW.out W hS
        go_simp
        refine hK _ _ ⟨t0, t1, t2, t3, t4, t5, t6, t7, t8, true, t10, t11, k0, W.heap.size, k2, k3, rfl, by simp; omega, rfl, hS.keep (b1 W (.cells #[.int .i64 0, .int .i64 0] 24)), f0.keep (b1 W (.cells #[.int .i64 0, .int .i64 0] 24)), Fr.new W _ 24 hB, f2.keep (b1 W (.cells #[.int .i64 0, .int .i64 0] 24)), f3.keep (b1 W (.cells #[.int .i64 0, .int .i64 0] 24)), fun hp _ => Nat.ne_of_lt (f0.lt hp), e02, e03, fun _ hq => Nat.ne_of_gt (f2.lt hq), fun _ hq => Nat.ne_of_gt (f3.lt hq), e23, hdep⟩
      | 10, hun, ho, hall =>
        have hb : t10 = false := hun
        subst hb
        simp at hm
        refine wpOp_step rfl (fun K' hK => ?_)
        have hB : w.heap.size + 4 ≤ W.heap.size := hW.out W hS
        go_simp
        refine hK _ _ ⟨t0, t1, t2, t3, t4, t5, t6, t7, t8, t9, true, t11, k0, k1, W.heap.size, k3, rfl, by simp; omega, rfl, hS.keep (b1 W (.cells #[.int .i64 0, .int .i64 0] 24)), f0.keep (b1 W (.cells #[.int .i64 0, .int .i64 0] 24)), f1.keep (b1 W (.cells #[.int .i64 0, .int .i64 0] 24)), Fr.new W _ 24 hB, f3.keep (b1 W (.cells #[.int .i64 0, .int .i64 0] 24)), e01, fun hp _ => Nat.ne_of_lt (f0.lt hp), e03, fun hp _ => Nat.ne_of_lt (f1.lt hp), e13, fun _ hq => Nat.ne_of_gt (f3.lt hq), hdep⟩
      | 11, hun, ho, hall =>
        have hb : t11 = false := hun
        subst hb
        simp at hm
        refine wpOp_step rfl (fun K' hK => ?_)
        have hB : w.heap.size + 4 ≤ W.heap.size := hW.out W hS
        go_simp
        refine hK _ _ ⟨t0, t1, t2, t3, t4, t5, t6, t7, t8, t9, t10, true, k0, k1, k2, W.heap.size, rfl, by simp; omega, rfl, hS.keep (b1 W (.cells #[.int .i64 0, .int .i64 0] 24)), f0.keep (b1 W (.cells #[.int .i64 0, .int .i64 0] 24)), f1.keep (b1 W (.cells #[.int .i64 0, .int .i64 0] 24)), f2.keep (b1 W (.cells #[.int .i64 0, .int .i64 0] 24)), Fr.new W _ 24 hB, e01, e02, fun hp _ => Nat.ne_of_lt (f0.lt hp), e12, fun hp _ => Nat.ne_of_lt (f1.lt hp), fun hp _ => Nat.ne_of_lt (f2.lt hp), hdep⟩
      | 12, hun, ho, hall =>
        exfalso
        cases ho
        simp [Region.binds] at hall
        clear hS f0 f1 f2 f3 e01 e02 e03 e12 e13 e23
        unfold Dep4 at hdep
        have hx : t0 = true ∧ t1 = true ∧ t2 = true ∧ t3 = true ∧ t4 = true ∧ t5 = true ∧ t6 = true ∧ t7 = true ∧ t8 = true ∧ t9 = true ∧ t10 = true ∧ t11 = true := by grind
        simp [hx] at hm
      | 13, hun, ho, hall =>
        exfalso
        cases ho
        simp [Region.binds] at hall
      | 14, hun, ho, hall =>
        exfalso
        cases ho
        simp [Region.binds] at hall
      | 15, hun, ho, hall =>
        exfalso
        cases ho
        simp [Region.binds] at hall
      | q + 16, hun, ho, hall => exact absurd ho (by simp)
    · rintro listed a W ⟨t0, t1, t2, t3, t4, t5, t6, t7, t8, t9, t10, t11, k0, k1, k2, k3, rfl, hm, rfl, hS, f0, f1, f2, f3, e01, e02, e03, e12, e13, e23, hdep⟩
      clear hdep
      have hall : t0 = true ∧ t1 = true ∧ t2 = true ∧ t3 = true ∧ t4 = true ∧ t5 = true ∧ t6 = true ∧ t7 = true ∧ t8 = true ∧ t9 = true ∧ t10 = true ∧ t11 = true := by
        clear hS f0 f1 f2 f3 e01 e02 e03 e12 e13 e23
        have u0 := Bool.toNat_le t0
        have u1 := Bool.toNat_le t1
        have u2 := Bool.toNat_le t2
        have u3 := Bool.toNat_le t3
        have u4 := Bool.toNat_le t4
        have u5 := Bool.toNat_le t5
        have u6 := Bool.toNat_le t6
        have u7 := Bool.toNat_le t7
        have u8 := Bool.toNat_le t8
        have u9 := Bool.toNat_le t9
        have u10 := Bool.toNat_le t10
        have u11 := Bool.toNat_le t11
        refine ⟨one_of t0 (by omega), one_of t1 (by omega), one_of t2 (by omega), one_of t3 (by omega), one_of t4 (by omega), one_of t5 (by omega), one_of t6 (by omega), one_of t7 (by omega), one_of t8 (by omega), one_of t9 (by omega), one_of t10 (by omega), one_of t11 (by omega)⟩
      obtain ⟨rfl, rfl, rfl, rfl, rfl, rfl, rfl, rfl, rfl, rfl, rfl, rfl⟩ := hall
      have E01 := Lib.hid (e01 rfl rfl)
      have E02 := Lib.hid (e02 rfl rfl)
      have E03 := Lib.hid (e03 rfl rfl)
      have E12 := Lib.hid (e12 rfl rfl)
      have E13 := Lib.hid (e13 rfl rfl)
      have E23 := Lib.hid (e23 rfl rfl)
      clear hm e01 e02 e03 e12 e13 e23
      have L0 := Lib.hid (f0 rfl).1
      have F0 := Lib.hid f0
      have L1 := Lib.hid (f1 rfl).1
      have F1 := Lib.hid f1
      have L2 := Lib.hid (f2 rfl).1
      have F2 := Lib.hid f2
      have L3 := Lib.hid (f3 rfl).1
      have F3 := Lib.hid f3
      have S := Lib.hid hS
      clear hS f0 f1 f2 f3
      refine wpAny_one 12 (by kernel_rfl) ?_
      refine wpOp_step rfl (fun K' hK => ?_)
      obtain ⟨_, c, d, c', d'⟩ := F0.out rfl
      go_simp
      refine hK _ _ ?_
      clear c d c' d' hK K'
      refine gen_any (fun W => OfS4 w ax ay bx b_y cx cy px py W ∧ Cl W k0 ax ay ∧ Fr W (w.heap.size + 4) true k1 ∧ Fr W (w.heap.size + 4) true k2 ∧ Fr W (w.heap.size + 4) true k3) ⟨S.out.put ax ay L0.out, Cl.own ax ay F0.out, F1.out.put ax ay (Ne.symm E01.out), F2.out.put ax ay (Ne.symm E02.out), F3.out.put ax ay (Ne.symm E03.out)⟩ ?_
      clear S  F0 F1 F2 F3 W
      rintro W ⟨hS, h0, h1, h2, h3⟩
      have S := Lib.hid hS
      have C0 := Lib.hid h0
      have F1 := Lib.hid h1
      have F2 := Lib.hid h2
      have F3 := Lib.hid h3
      clear hS h0 h1 h2 h3
      refine wpAny_one 13 (by kernel_rfl) ?_
      refine wpOp_step rfl (fun K' hK => ?_)
      obtain ⟨_, c, d, c', d'⟩ := F1.out rfl
      go_simp
      refine hK _ _ ?_
      clear c d c' d' hK K'
      refine gen_any (fun W => OfS4 w ax ay bx b_y cx cy px py W ∧ Cl W k0 ax ay ∧ Cl W k1 bx b_y ∧ Fr W (w.heap.size + 4) true k2 ∧ Fr W (w.heap.size + 4) true k3) ⟨S.out.put bx b_y L1.out, C0.out.put bx b_y E01.out, Cl.own bx b_y F1.out, F2.out.put bx b_y (Ne.symm E12.out), F3.out.put bx b_y (Ne.symm E13.out)⟩ ?_
      clear S C0 F1 F2 F3 W
      rintro W ⟨hS, h0, h1, h2, h3⟩
      have S := Lib.hid hS
      have C0 := Lib.hid h0
      have C1 := Lib.hid h1
      have F2 := Lib.hid h2
      have F3 := Lib.hid h3
      clear hS h0 h1 h2 h3
      refine wpAny_one 14 (by kernel_rfl) ?_
      refine wpOp_step rfl (fun K' hK => ?_)
      obtain ⟨_, c, d, c', d'⟩ := F2.out rfl
      go_simp
      refine hK _ _ ?_
      clear c d c' d' hK K'
      refine gen_any (fun W => OfS4 w ax ay bx b_y cx cy px py W ∧ Cl W k0 ax ay ∧ Cl W k1 bx b_y ∧ Cl W k2 cx cy ∧ Fr W (w.heap.size + 4) true k3) ⟨S.out.put cx cy L2.out, C0.out.put cx cy E02.out, C1.out.put cx cy E12.out, Cl.own cx cy F2.out, F3.out.put cx cy (Ne.symm E23.out)⟩ ?_
      clear S C0 C1 F2 F3 W
      rintro W ⟨hS, h0, h1, h2, h3⟩
      have S := Lib.hid hS
      have C0 := Lib.hid h0
      have C1 := Lib.hid h1
      have C2 := Lib.hid h2
      have F3 := Lib.hid h3
      clear hS h0 h1 h2 h3
      refine wpAny_one 15 (by kernel_rfl) ?_
      refine wpOp_step rfl (fun K' hK => ?_)
      obtain ⟨_, c, d, c', d'⟩ := F3.out rfl
      go_simp
      refine hK _ _ ?_
      clear c d c' d' hK K'
      refine gen_any (fun W => OfS4 w ax ay bx b_y cx cy px py W ∧ Cl W k0 ax ay ∧ Cl W k1 bx b_y ∧ Cl W k2 cx cy ∧ Cl W k3 px py) ⟨S.out.put px py L3.out, C0.out.put px py E03.out, C1.out.put px py E13.out, C2.out.put px py E23.out, Cl.own px py F3.out⟩ ?_
      clear S C0 C1 C2 F3 W
      rintro W ⟨hS, h0, h1, h2, h3⟩
      have S := Lib.hid hS
      have C0 := Lib.hid h0
      have C1 := Lib.hid h1
      have C2 := Lib.hid h2
      have C3 := Lib.hid h3
      clear hS h0 h1 h2 h3
      refine wpAny_none (by kernel_rfl) ?_
      go_wp2_with fail
      go_meet
      exact ⟨k0, k1, k2, k3, rfl, rfl, rfl, rfl, OfT4.of' S.out C0.out C1.out C2.out C3.out⟩
    · refine ⟨false, false, false, false, false, false, false, false, false, false, false, false, 0, 0, 0, 0, rfl, rfl, rfl, hS0.drew, Fr.no _ _ _, Fr.no _ _ _, Fr.no _ _ _, Fr.no _ _ _, (fun h => by cases h), (fun h => by cases h), (fun h => by cases h), (fun h => by cases h), (fun h => by cases h), (fun h => by cases h), ?_⟩
      unfold Dep4
      simp
  case rest =>
    obtain ⟨k0, k1, k2, k3, rfl, rfl, rfl, rfl, hT⟩ := hcut
    have HT := Lib.hid hT
    clear hT hS0 hW
    go_upto_region 2 with fail
    go_cut [13] (fun s13 wx => s13 = .bool (onV ax ay bx b_y px py) ∧ OfT4 w k0 k1 k2 k3 ax ay bx b_y cx cy px py wx)
    case first =>
      obtain ⟨c0, c1, c2, c3, c4, c5, c6, c7, c8, c9, c10, c11, c12, c13, c14, c15, _⟩ := HT.out
      have hS8 := keep16 (b1 _ (.cells #[.int .i64 ax, .int .i64 ay, .int .i64 bx, .int .i64 b_y, .int .i64 px, .int .i64 py] 24)) HT.out
      cases h : ok3 ax ay bx b_y px py
      · have H := Lib.hid h
        clear h
        go_wp2_with fail
        refine (all3' _ _ ax ay bx b_y px py (by go_simp) (by go_simp) (by go_simp) (by go_simp) (by go_simp) (by go_simp)).mono ?_
        rintro e w1 ⟨rfl, hb1⟩
        rw [H.out]
        have hA := keep16 hb1 hS8
        go_wp2_with fail
        go_meet
        exact ⟨by unfold onV; rw [H.out]; rfl, hA⟩
      · have H := Lib.hid h
        clear h
        go_wp2_with fail
        refine (all3' _ _ ax ay bx b_y px py (by go_simp) (by go_simp) (by go_simp) (by go_simp) (by go_simp) (by go_simp)).mono ?_
        rintro e w1 ⟨rfl, hb1⟩
        rw [H.out]
        have hA := keep16 hb1 hS8
        clear c0 c1 c2 c3 c4 c5 c6 c7 c8 c9 c10 c11 c12 c13 c14 c15 hS8 hb1
        have HA := Lib.hid hA
        obtain ⟨c0, c1, c2, c3, c4, c5, c6, c7, c8, c9, c10, c11, c12, c13, c14, c15, _⟩ := hA
        go_wp2_with fail
        refine (ron_any _ _ _ _ _ _ _ H.out).mono ?_
        rintro e w2 ⟨rfl, hb2⟩
        have hB := keep16 hb2 HA.out
        go_wp2_with fail
        go_meet
        exact ⟨by rw [onV_ok H.out], hB⟩
    case rest =>
      obtain ⟨rfl, hT5⟩ := hcut
      have HT5 := Lib.hid hT5
      clear hT5 HT
      go_upto_region 3 with fail
      go_cut [14] (fun s14 wx => s14 = .bool (inV ax ay bx b_y cx cy px py) ∧ OfT4 w k0 k1 k2 k3 ax ay bx b_y cx cy px py wx)
      case first =>
        obtain ⟨c0, c1, c2, c3, c4, c5, c6, c7, c8, c9, c10, c11, c12, c13, c14, c15, _⟩ := HT5.out
        have hS8 := keep16 (b1 _ (.cells #[.int .i64 ax, .int .i64 ay, .int .i64 bx, .int .i64 b_y, .int .i64 cx, .int .i64 cy, .int .i64 px, .int .i64 py] 24)) HT5.out
        cases h : ok4 ax ay bx b_y cx cy px py
        · have H := Lib.hid h
          clear h
          go_wp2_with fail
          refine (all4' _ _ ax ay bx b_y cx cy px py (by go_simp) (by go_simp) (by go_simp) (by go_simp) (by go_simp) (by go_simp) (by go_simp) (by go_simp)).mono ?_
          rintro e w1 ⟨rfl, hb1⟩
          rw [H.out]
          have hA := keep16 hb1 hS8
          go_wp2_with fail
          go_meet
          exact ⟨by unfold inV; rw [H.out]; rfl, hA⟩
        · have H := Lib.hid h
          clear h
          go_wp2_with fail
          refine (all4' _ _ ax ay bx b_y cx cy px py (by go_simp) (by go_simp) (by go_simp) (by go_simp) (by go_simp) (by go_simp) (by go_simp) (by go_simp)).mono ?_
          rintro e w1 ⟨rfl, hb1⟩
          rw [H.out]
          have hA := keep16 hb1 hS8
          clear c0 c1 c2 c3 c4 c5 c6 c7 c8 c9 c10 c11 c12 c13 c14 c15 hS8 hb1
          have HA := Lib.hid hA
          obtain ⟨c0, c1, c2, c3, c4, c5, c6, c7, c8, c9, c10, c11, c12, c13, c14, c15, _⟩ := hA
          go_wp2_with fail
          refine (rin_any _ _ _ _ _ _ _ _ _ H.out).mono ?_
          rintro e w2 ⟨rfl, hb2⟩
          have hB := keep16 hb2 HA.out
          go_wp2_with fail
          go_meet
          exact ⟨by unfold inV; rw [H.out]; rfl, hB⟩
      case rest =>
        obtain ⟨rfl, hT6⟩ := hcut
        have HT6 := Lib.hid hT6
        clear hT6 HT5
        go_wp2_with fail
        refine (known_yes _).mono ?_
        rintro e w1 ⟨rfl, hb1⟩
        have hA := keep16 hb1 HT6.out
        have HA := Lib.hid hA
        clear hb1 HT6
        obtain ⟨c0, c1, c2, c3, c4, c5, c6, c7, c8, c9, c10, c11, c12, c13, c14, c15, _⟩ := hA
        go_wp2_with fail
        refine (on_any _ _ _ _ _ _ _).mono ?_
        rintro e w2 ⟨rfl, hb2⟩
        have hB := keep16 hb2 HA.out
        have HB := Lib.hid hB
        clear c0 c1 c2 c3 c4 c5 c6 c7 c8 c9 c10 c11 c12 c13 c14 c15 hb2
        obtain ⟨c0, c1, c2, c3, c4, c5, c6, c7, c8, c9, c10, c11, c12, c13, c14, c15, _⟩ := hB
        go_wp2_with fail
        refine (intri_any _ _ _ _ _ _ _ _ _).mono ?_
        rintro e w3 ⟨rfl, hb3⟩
        have hD := keep16 hb3 HB.out
        go_wp2
        go_ret
        exact ⟨rfl, hD.2.2.2.2.2.2.2.2.2.2.2.2.2.2.2.2⟩
end Go.Proofs.Ytoojifpgdmhmcaa
