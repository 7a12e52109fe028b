/- The walk of ExactAreas. -/
import Derived.Test.YtoojifpgdmhmcaaSym
import Derived.Test.YtoojifpgdmhmcaaInv
import Derived.Test.YtoojifpgdmhmcaaClass
import Derived.Deep.DeepCutAuto
namespace Go.Proofs.Ytoojifpgdmhmcaa
open Go.RowKit Go.BigFrame

theorem one_of (b : Bool) (h : b.toNat = 1) : b = true := by cases b <;> simp_all
theorem OfS3.size {w : World} {ax ay bx b_y cx cy : Int} {W : World} (h : OfS3 w ax ay bx b_y cx cy W) : w.heap.size + 3 ≤ W.heap.size := by
  have := World.block_lt_of_cell? W ⟨w.heap.size + 1 + 1, 0, none⟩ h.2.2.2.2.1
  show w.heap.size + 1 + 1 + 1 ≤ _
  exact this

/-- All of three points that lie in a block. -/
theorem all3 (W : World) (b : Nat) (ax ay bx b_y cx cy : Int) (hb : b < W.heap.size)
    (h0 : W.cell? ⟨b, 0, none⟩ = some (.int .i64 ax)) (h1 : W.cell? ⟨b, 1, none⟩ = some (.int .i64 ay)) (h2 : W.cell? ⟨b, 2, none⟩ = some (.int .i64 bx))
    (h3 : W.cell? ⟨b, 3, none⟩ = some (.int .i64 b_y)) (h4 : W.cell? ⟨b, 4, none⟩ = some (.int .i64 cx)) (h5 : W.cell? ⟨b, 5, none⟩ = some (.int .i64 cy)) :
    Calls Try.prog 14 #[.slice (some ⟨b, 0, none⟩) 3 3] W fun e w' => e = .returned (.bool (ok3 ax ay bx b_y cx cy)) ∧ Below W.heap.size W w' := by
  rw [← pall3]
  refine all_any b 0 3 3 _ _ W (by omega) hb ?_ ?_
  · intro i hi
    match i, hi with
    | 0, _ => exact h0
    | 1, _ => exact h2
    | 2, _ => exact h4
  · intro i hi
    match i, hi with
    | 0, _ => exact h1
    | 1, _ => exact h3
    | 2, _ => exact h5
theorem all3' (W : World) (b : Nat) (ax ay bx b_y cx cy : Int)
    (h0 : W.cell? ⟨b, 0, none⟩ = some (.int .i64 ax)) (h1 : W.cell? ⟨b, 1, none⟩ = some (.int .i64 ay)) (h2 : W.cell? ⟨b, 2, none⟩ = some (.int .i64 bx))
    (h3 : W.cell? ⟨b, 3, none⟩ = some (.int .i64 b_y)) (h4 : W.cell? ⟨b, 4, none⟩ = some (.int .i64 cx)) (h5 : W.cell? ⟨b, 5, none⟩ = some (.int .i64 cy)) :
    Calls Try.prog 14 #[.slice (some ⟨b, 0, none⟩) 3 3] W fun e w' => e = .returned (.bool (ok3 ax ay bx b_y cx cy)) ∧ Below W.heap.size W w' :=
  all3 W b ax ay bx b_y cx cy (World.block_lt_of_cell? W ⟨b, 0, none⟩ h0) h0 h1 h2 h3 h4 h5
theorem right3' (W : World) (b : Nat) (ax ay bx b_y cx cy : Int)
    (h0 : W.cell? ⟨b, 0, none⟩ = some (.int .i64 ax)) (h1 : W.cell? ⟨b, 1, none⟩ = some (.int .i64 ay)) (h2 : W.cell? ⟨b, 2, none⟩ = some (.int .i64 bx))
    (h3 : W.cell? ⟨b, 3, none⟩ = some (.int .i64 b_y)) (h4 : W.cell? ⟨b, 4, none⟩ = some (.int .i64 cx)) (h5 : W.cell? ⟨b, 5, none⟩ = some (.int .i64 cy)) :
    Calls Try.prog 13 #[.slice (some ⟨b, 0, none⟩) 3 3] W fun e w' => e = .returned (.bool (ok3 ax ay bx b_y cx cy)) ∧ Below W.heap.size W w' :=
  right3 W b ax ay bx b_y cx cy (World.block_lt_of_cell? W ⟨b, 0, none⟩ h0) h0 h1 h2 h3 h4 h5
theorem may_ok (x y : Int) (w : World) : Calls Try.prog 10 #[.agg #[.int .i64 x, .int .i64 y]] w fun e w' => e = .returned (.bool (okp x y)) ∧ Below w.heap.size w w' := may_any x y w

set_option maxRecDepth 100000 in
set_option maxHeartbeats 8000000 in
theorem areas_1 (ax ay bx b_y cx cy : Int) (w : World) :
    Calls Try.prog 3 #[.agg #[.int .i64 ax, .int .i64 ay], .agg #[.int .i64 bx, .int .i64 b_y], .agg #[.int .i64 cx, .int .i64 cy]] w
      fun e w' => e = .returned (.bool true) ∧ Below w.heap.size w w' := by
  have hW : Hid (∀ W, OfS3 w ax ay bx b_y cx cy W → w.heap.size + 3 ≤ W.heap.size) := fun W h => h.size
  go_enter Try.func3, Try.ntmps3
  have hS0 : OfS3 w ax ay bx b_y cx cy (((w.alloc (.cells #[.int .i64 ax, .int .i64 ay] 23)).alloc (.cells #[.int .i64 bx, .int .i64 b_y] 23)).alloc (.cells #[.int .i64 cx, .int .i64 cy] 23)) := ⟨by go_simp, by go_simp, by go_simp, by go_simp, by go_simp, by go_simp, b3 _ _ _ _⟩
  go_upto_region 1 with fail
  go_cut [7, 8, 9] (fun s7 s8 s9 wx => ∃ k0 k1 k2 : Nat, s7 = .pointer (some ⟨k0, 0, none⟩) ∧ s8 = .pointer (some ⟨k1, 0, none⟩) ∧ s9 = .pointer (some ⟨k2, 0, none⟩) ∧ OfT3 w k0 k1 k2 ax ay bx b_y cx cy wx)
  case first =>
    refine wp_region_any (by kernel_rfl) ?_
    refine wpAny_inv (rest := 3) (fun m listed a W => ∃ (t0 t1 t2 t3 t4 t5 t6 t7 t8 : Bool) (k0 k1 k2 : Nat), listed = #[t0, t1, t2, t3, t4, t5, t6, t7, t8, false, false, false] ∧ m + t0.toNat + t1.toNat + t2.toNat + t3.toNat + t4.toNat + t5.toNat + t6.toNat + t7.toNat + t8.toNat = 9 ∧ a = { tmps := #[.agg #[.int .i64 ax, .int .i64 ay], .agg #[.int .i64 bx, .int .i64 b_y], .agg #[.int .i64 cx, .int .i64 cy], .pointer (some ⟨w.heap.size, 0, none⟩), .pointer (some ⟨w.heap.size + 1, 0, none⟩), .pointer (some ⟨w.heap.size + 1 + 1, 0, none⟩), .bool false, sl t6 (.pointer (some ⟨k0, 0, none⟩)), sl t7 (.pointer (some ⟨k1, 0, none⟩)), sl t8 (.pointer (some ⟨k2, 0, none⟩)), undef, sl t0 (.agg #[.int .i64 ax, .int .i64 ay]), sl t1 (.agg #[.int .i64 ax, .int .i64 ay]), sl t2 (.agg #[.int .i64 bx, .int .i64 b_y]), sl t3 (.agg #[.int .i64 bx, .int .i64 b_y]), sl t4 (.agg #[.int .i64 cx, .int .i64 cy]), sl t5 (.agg #[.int .i64 cx, .int .i64 cy]), undef, undef, undef, undef, undef, undef, undef, undef, undef, undef, undef, undef, undef, undef, undef, undef, undef, undef, undef, undef, undef, undef, undef, undef, undef, undef, undef, undef, undef, undef, undef, undef, undef, undef, undef, undef, undef, undef, undef, undef, undef, undef, undef, undef, undef, undef, undef, undef, undef, undef, undef, undef, undef, undef, undef, undef, undef], defers := [] } ∧ OfS3 w ax ay bx b_y cx cy W ∧ Fr W (w.heap.size + 3) t6 k0 ∧ Fr W (w.heap.size + 3) t7 k1 ∧ Fr W (w.heap.size + 3) t8 k2 ∧ (t6 = true → t7 = true → k0 ≠ k1) ∧ (t6 = true → t8 = true → k0 ≠ k2) ∧ (t7 = true → t8 = true → k1 ≠ k2) ∧ Dep3 t0 t1 t2 t3 t4 t5) ?_ ?_ ?_ 9 _ _ _ ?_
    · rintro m listed a W ⟨t0, t1, t2, t3, t4, t5, t6, t7, t8, k0, k1, k2, rfl, hm, rfl, hS, f0, f1, f2, e01, e02, e12, hdep⟩
      cases t6
      · exact List.ne_nil_of_mem (a := 6) (mem_ready.2 ⟨rfl, _, rfl, by simp⟩)
      cases t7
      · exact List.ne_nil_of_mem (a := 7) (mem_ready.2 ⟨rfl, _, rfl, by simp⟩)
      cases t8
      · exact List.ne_nil_of_mem (a := 8) (mem_ready.2 ⟨rfl, _, rfl, by simp⟩)
      cases t0
      · exact List.ne_nil_of_mem (a := 0) (mem_ready.2 ⟨rfl, _, rfl, by simp⟩)
      cases t2
      · exact List.ne_nil_of_mem (a := 2) (mem_ready.2 ⟨rfl, _, rfl, by simp⟩)
      cases t4
      · exact List.ne_nil_of_mem (a := 4) (mem_ready.2 ⟨rfl, _, rfl, by simp⟩)
      cases t1
      · exact List.ne_nil_of_mem (a := 1) (mem_ready.2 ⟨rfl, _, rfl, by simp⟩)
      cases t3
      · exact List.ne_nil_of_mem (a := 3) (mem_ready.2 ⟨rfl, _, rfl, by simp⟩)
      cases t5
      · exact List.ne_nil_of_mem (a := 5) (mem_ready.2 ⟨rfl, _, rfl, by simp⟩)
      simp at hm
    · rintro m listed a W ⟨t0, t1, t2, t3, t4, t5, t6, t7, t8, k0, k1, k2, rfl, hm, rfl, hS, f0, f1, f2, e01, e02, e12, hdep⟩ i hi
      obtain ⟨hun, o, ho, hall⟩ := mem_ready.1 hi
      match i, hun, ho, hall with
      | 0, hun, ho, hall =>
        have hb : t0 = false := hun
        subst hb
        simp at hm
        refine wpOp_step rfl (fun K' hK => ?_)
        have hS' := hS
        obtain ⟨c0, c1, c2, c3, c4, c5, _⟩ := hS'
        go_simp
        refine hK _ _ ⟨true, t1, t2, t3, t4, t5, t6, t7, t8, k0, k1, k2, rfl, by simp; omega, rfl, hS, f0, f1, f2, e01, e02, e12, by clear hS hall; unfold Dep3 at *; grind⟩
      | 1, hun, ho, hall =>
        have hb : t1 = false := hun
        subst hb
        have hg : t0 = true := hall ⟨0, .data⟩ (by cases ho; simp) rfl
        subst hg
        simp at hm
        refine wpOp_step rfl (fun K' hK => ?_)
        go_simp
        refine (of_any _ _ _).mono ?_
        rintro e w4 ⟨rfl, hb4⟩
        refine hK _ _ ⟨true, true, t2, t3, t4, t5, t6, t7, t8, k0, k1, k2, rfl, by simp; omega, rfl, hS.keep hb4, f0.keep hb4, f1.keep hb4, f2.keep hb4, e01, e02, e12, by clear hS hall; unfold Dep3 at *; grind⟩
      | 2, hun, ho, hall =>
        have hb : t2 = false := hun
        subst hb
        simp at hm
        refine wpOp_step rfl (fun K' hK => ?_)
        have hS' := hS
        obtain ⟨c0, c1, c2, c3, c4, c5, _⟩ := hS'
        go_simp
        refine hK _ _ ⟨t0, t1, true, t3, t4, t5, t6, t7, t8, k0, k1, k2, rfl, by simp; omega, rfl, hS, f0, f1, f2, e01, e02, e12, by clear hS hall; unfold Dep3 at *; grind⟩
      | 3, hun, ho, hall =>
        have hb : t3 = false := hun
        subst hb
        have hg : t2 = true := hall ⟨2, .data⟩ (by cases ho; simp) rfl
        subst hg
        have hg2 : t1 = true := hall ⟨1, .chain⟩ (by cases ho; simp) rfl
        subst hg2
        simp at hm
        refine wpOp_step rfl (fun K' hK => ?_)
        go_simp
        refine (of_any _ _ _).mono ?_
        rintro e w4 ⟨rfl, hb4⟩
        refine hK _ _ ⟨t0, true, true, true, t4, t5, t6, t7, t8, k0, k1, k2, rfl, by simp; omega, rfl, hS.keep hb4, f0.keep hb4, f1.keep hb4, f2.keep hb4, e01, e02, e12, by clear hS hall; unfold Dep3 at *; grind⟩
      | 4, hun, ho, hall =>
        have hb : t4 = false := hun
        subst hb
        simp at hm
        refine wpOp_step rfl (fun K' hK => ?_)
        have hS' := hS
        obtain ⟨c0, c1, c2, c3, c4, c5, _⟩ := hS'
        go_simp
        refine hK _ _ ⟨t0, t1, t2, t3, true, t5, t6, t7, t8, k0, k1, k2, rfl, by simp; omega, rfl, hS, f0, f1, f2, e01, e02, e12, by clear hS hall; unfold Dep3 at *; grind⟩
      | 5, hun, ho, hall =>
        have hb : t5 = false := hun
        subst hb
        have hg : t4 = true := hall ⟨4, .data⟩ (by cases ho; simp) rfl
        subst hg
        have hg2 : t3 = true := hall ⟨3, .chain⟩ (by cases ho; simp) rfl
        subst hg2
        simp at hm
        refine wpOp_step rfl (fun K' hK => ?_)
        go_simp
        refine (of_any _ _ _).mono ?_
        rintro e w4 ⟨rfl, hb4⟩
        refine hK _ _ ⟨t0, t1, t2, true, true, true, t6, t7, t8, k0, k1, k2, rfl, by simp; omega, rfl, hS.keep hb4, f0.keep hb4, f1.keep hb4, f2.keep hb4, e01, e02, e12, by clear hS hall; unfold Dep3 at *; grind⟩
      | 6, hun, ho, hall =>
        have hb : t6 = false := hun
        subst hb
        simp at hm
        refine wpOp_step rfl (fun K' hK => ?_)
        have hB : w.heap.size + 3 ≤ W.heap.size := hW.out W hS
        go_simp
        refine hK _ _ ⟨t0, t1, t2, t3, t4, t5, true, t7, t8, W.heap.size, k1, k2, rfl, by simp; omega, rfl, hS.keep (b1 W (.cells #[.int .i64 0, .int .i64 0] 24)), Fr.new W _ 24 hB, f1.keep (b1 W (.cells #[.int .i64 0, .int .i64 0] 24)), f2.keep (b1 W (.cells #[.int .i64 0, .int .i64 0] 24)), fun _ hq => Nat.ne_of_gt (f1.lt hq), fun _ hq => Nat.ne_of_gt (f2.lt hq), e12, hdep⟩
      | 7, hun, ho, hall =>
        have hb : t7 = false := hun
        subst hb
        simp at hm
        refine wpOp_step rfl (fun K' hK => ?_)
        have hB : w.heap.size + 3 ≤ W.heap.size := hW.out W hS
        go_simp
        refine hK _ _ ⟨t0, t1, t2, t3, t4, t5, t6, true, t8, k0, W.heap.size, k2, rfl, by simp; omega, rfl, hS.keep (b1 W (.cells #[.int .i64 0, .int .i64 0] 24)), f0.keep (b1 W (.cells #[.int .i64 0, .int .i64 0] 24)), Fr.new W _ 24 hB, f2.keep (b1 W (.cells #[.int .i64 0, .int .i64 0] 24)), fun hp _ => Nat.ne_of_lt (f0.lt hp), e02, fun _ hq => Nat.ne_of_gt (f2.lt hq), hdep⟩
      | 8, hun, ho, hall =>
        have hb : t8 = false := hun
        subst hb
        simp at hm
        refine wpOp_step rfl (fun K' hK => ?_)
        have hB : w.heap.size + 3 ≤ W.heap.size := hW.out W hS
        go_simp
        refine hK _ _ ⟨t0, t1, t2, t3, t4, t5, t6, t7, true, k0, k1, W.heap.size, rfl, by simp; omega, rfl, hS.keep (b1 W (.cells #[.int .i64 0, .int .i64 0] 24)), f0.keep (b1 W (.cells #[.int .i64 0, .int .i64 0] 24)), f1.keep (b1 W (.cells #[.int .i64 0, .int .i64 0] 24)), Fr.new W _ 24 hB, e01, fun hp _ => Nat.ne_of_lt (f0.lt hp), fun hp _ => Nat.ne_of_lt (f1.lt hp), hdep⟩
      | 9, hun, ho, hall =>
        exfalso
        cases ho
        simp [Region.binds] at hall
        clear hS f0 f1 f2 e01 e02 e12
        unfold Dep3 at hdep
        have hx : t0 = true ∧ t1 = true ∧ t2 = true ∧ t3 = true ∧ t4 = true ∧ t5 = true ∧ t6 = true ∧ t7 = true ∧ t8 = true := by grind
        simp [hx] at hm
      | 10, hun, ho, hall =>
        exfalso
        cases ho
        simp [Region.binds] at hall
      | 11, hun, ho, hall =>
        exfalso
        cases ho
        simp [Region.binds] at hall
      | q + 12, hun, ho, hall => exact absurd ho (by simp)
    · rintro listed a W ⟨t0, t1, t2, t3, t4, t5, t6, t7, t8, k0, k1, k2, rfl, hm, rfl, hS, f0, f1, f2, e01, e02, e12, hdep⟩
      clear hdep
      have hall : t0 = true ∧ t1 = true ∧ t2 = true ∧ t3 = true ∧ t4 = true ∧ t5 = true ∧ t6 = true ∧ t7 = true ∧ t8 = true := by
        clear hS f0 f1 f2 e01 e02 e12
        have u0 := Bool.toNat_le t0
        have u1 := Bool.toNat_le t1
        have u2 := Bool.toNat_le t2
        have u3 := Bool.toNat_le t3
        have u4 := Bool.toNat_le t4
        have u5 := Bool.toNat_le t5
        have u6 := Bool.toNat_le t6
        have u7 := Bool.toNat_le t7
        have u8 := Bool.toNat_le t8
        refine ⟨one_of t0 (by omega), one_of t1 (by omega), one_of t2 (by omega), one_of t3 (by omega), one_of t4 (by omega), one_of t5 (by omega), one_of t6 (by omega), one_of t7 (by omega), one_of t8 (by omega)⟩
      obtain ⟨rfl, rfl, rfl, rfl, rfl, rfl, rfl, rfl, rfl⟩ := hall
      have E01 := Lib.hid (e01 rfl rfl)
      have E02 := Lib.hid (e02 rfl rfl)
      have E12 := Lib.hid (e12 rfl rfl)
      clear hm
      have g0 := f0 rfl
      have g1 := (f1.put ax ay (Ne.symm E01.out)) rfl
      have g2 := ((f2.put ax ay (Ne.symm E02.out)).put bx b_y (Ne.symm E12.out)) rfl
      simp only [Put] at g0 g1 g2
      refine wpAny_one 9 (by kernel_rfl) ?_
      refine wpOp_step rfl (fun K' hK => ?_)
      obtain ⟨_, c0, d0, c0', d0'⟩ := g0
      go_simp
      refine hK _ _ ?_
      refine wpAny_one 10 (by kernel_rfl) ?_
      refine wpOp_step rfl (fun K' hK => ?_)
      obtain ⟨_, c1, d1, c1', d1'⟩ := g1
      go_simp
      refine hK _ _ ?_
      refine wpAny_one 11 (by kernel_rfl) ?_
      refine wpOp_step rfl (fun K' hK => ?_)
      obtain ⟨_, c2, d2, c2', d2'⟩ := g2
      go_simp
      refine hK _ _ ?_
      refine wpAny_none (by kernel_rfl) ?_
      go_wp2_with fail
      go_meet
      exact ⟨k0, k1, k2, rfl, rfl, rfl, OfT3.of hS f0 f1 f2 E01.out E02.out E12.out⟩
    · refine ⟨false, false, false, false, false, false, false, false, false, 0, 0, 0, rfl, rfl, rfl, hS0.drew, Fr.no _ _ _, Fr.no _ _ _, Fr.no _ _ _, (fun h => by cases h), (fun h => by cases h), (fun h => by cases h), ?_⟩
      unfold Dep3
      simp
  case rest =>
    obtain ⟨k0, k1, k2, rfl, rfl, rfl, hT⟩ := hcut
    have HT := Lib.hid hT
    clear hT hS0 hW
    go_upto_region 3 with fail
    go_cut [26] (fun s26 wx => s26 = .bool (ok3 ax ay bx b_y cx cy) ∧ OfT3 w k0 k1 k2 ax ay bx b_y cx cy wx)
    case first =>
      obtain ⟨c0, c1, c2, c3, c4, c5, c6, c7, c8, c9, c10, c11, _⟩ := HT.out
      cases h1 : okp ax ay
      · have H1 := Lib.hid h1
        clear h1
        go_wp2_with (go_at_call 10; refine (may_ok _ _ _).mono ?_; rintro e w1 ⟨rfl, hb1⟩; rw [H1.out]; have hA := HT.out.keep hb1)
        go_meet
        exact ⟨by unfold ok3; rw [H1.out]; rfl, by assumption⟩
      · have H1 := Lib.hid h1
        clear h1
        cases h2 : okp bx b_y
        · have H2 := Lib.hid h2
          clear h2
          go_wp2_with fail
          refine (may_ok _ _ _).mono ?_
          rintro e w1 ⟨rfl, hb1⟩
          rw [H1.out]
          have HA := Lib.hid (HT.out.keep hb1)
          clear c0 c1 c2 c3 c4 c5 c6 c7 c8 c9 c10 c11 hb1
          obtain ⟨c0, c1, c2, c3, c4, c5, c6, c7, c8, c9, c10, c11, _⟩ := HA.out
          go_wp2_with fail
          refine (may_ok _ _ _).mono ?_
          rintro e w2 ⟨rfl, hb2⟩
          rw [H2.out]
          have hB := HA.out.keep hb2
          go_wp2_with fail
          go_meet
          exact ⟨by unfold ok3; rw [H1.out, H2.out]; rfl, by assumption⟩
        · have H2 := Lib.hid h2
          clear h2
          go_wp2_with fail
          refine (may_ok _ _ _).mono ?_
          rintro e w1 ⟨rfl, hb1⟩
          rw [H1.out]
          have HA := Lib.hid (HT.out.keep hb1)
          clear c0 c1 c2 c3 c4 c5 c6 c7 c8 c9 c10 c11 hb1
          obtain ⟨c0, c1, c2, c3, c4, c5, c6, c7, c8, c9, c10, c11, _⟩ := HA.out
          go_wp2_with fail
          refine (may_ok _ _ _).mono ?_
          rintro e w2 ⟨rfl, hb2⟩
          rw [H2.out]
          have HB := Lib.hid (HA.out.keep hb2)
          clear c0 c1 c2 c3 c4 c5 c6 c7 c8 c9 c10 c11 hb2
          obtain ⟨c0, c1, c2, c3, c4, c5, c6, c7, c8, c9, c10, c11, _⟩ := HB.out
          go_wp2_with fail
          refine (may_ok _ _ _).mono ?_
          rintro e w3 ⟨rfl, hb3⟩
          have hD := HB.out.keep hb3
          go_wp2_with fail
          go_meet
          exact ⟨by unfold ok3; rw [H1.out, H2.out]; rfl, by assumption⟩
    case rest =>
      obtain ⟨rfl, hT5⟩ := hcut
      have HT5 := Lib.hid hT5
      clear hT5 HT
      go_upto_if 26 with fail
      go_cut [10] (fun s10 wx => s10 = .int .i64 (crV ax ay bx b_y cx cy) ∧ OfT3 w k0 k1 k2 ax ay bx b_y cx cy wx)
      case first =>
        obtain ⟨c0, c1, c2, c3, c4, c5, c6, c7, c8, c9, c10, c11, _⟩ := HT5.out
        cases h : ok3 ax ay bx b_y cx cy
        · have H := Lib.hid h
          clear h
          go_wp2
          go_meet
          exact ⟨by unfold crV; rw [H.out]; rfl, HT5.out⟩
        · have H := Lib.hid h
          clear h
          go_wp2_with fail
          refine (rcross_yes _ _ _ _ _ _ _ H.out).mono ?_
          rintro e w1 ⟨rfl, hb1⟩
          have hA := HT5.out.keep hb1
          go_wp2_with fail
          go_meet
          exact ⟨by rw [crV_ok H.out], by assumption⟩
      case rest =>
        obtain ⟨rfl, hT6⟩ := hcut
        have HT6 := Lib.hid hT6
        clear hT6 HT5
        go_upto_region 5 with fail
        have T12 := HT6.out
        have E12 : OfT3 w k0 k1 k2 ax ay bx b_y cx cy = OfT3 w k0 k1 k2 ax ay bx b_y cx cy := rfl
        clear E12
        go_region_held3 (fun w' => w'.cell? ⟨w.heap.size, 0, none⟩ = some (.int .i64 ax) ∧ w'.cell? ⟨w.heap.size, 1, none⟩ = some (.int .i64 ay) ∧ w'.cell? ⟨w.heap.size + 1, 0, none⟩ = some (.int .i64 bx) ∧ w'.cell? ⟨w.heap.size + 1, 1, none⟩ = some (.int .i64 b_y) ∧ w'.cell? ⟨w.heap.size + 1 + 1, 0, none⟩ = some (.int .i64 cx) ∧ w'.cell? ⟨w.heap.size + 1 + 1, 1, none⟩ = some (.int .i64 cy) ∧ w'.cell? ⟨k0, 0, none⟩ = some (.int .i64 ax) ∧ w'.cell? ⟨k0, 1, none⟩ = some (.int .i64 ay) ∧ w'.cell? ⟨k1, 0, none⟩ = some (.int .i64 bx) ∧ w'.cell? ⟨k1, 1, none⟩ = some (.int .i64 b_y) ∧ w'.cell? ⟨k2, 0, none⟩ = some (.int .i64 cx) ∧ w'.cell? ⟨k2, 1, none⟩ = some (.int .i64 cy) ∧ Below w.heap.size w w') (first | exact hS8 | exact ⟨T12.1, T12.2.1, T12.2.2.1, T12.2.2.2.1, T12.2.2.2.2.1, T12.2.2.2.2.2.1, T12.2.2.2.2.2.2.1, T12.2.2.2.2.2.2.2.1, T12.2.2.2.2.2.2.2.2.1, T12.2.2.2.2.2.2.2.2.2.1, T12.2.2.2.2.2.2.2.2.2.2.1, T12.2.2.2.2.2.2.2.2.2.2.2.1, T12.2.2.2.2.2.2.2.2.2.2.2.2.drew⟩ | exact keep12 (b1 _ _) (by assumption) | assumption) (first | (go_at_call_of 13 (Value.slice none 0 0); refine (right_nil _).mono ?_; rintro e w8 ⟨rfl, rfl⟩) | (go_at_call 13; refine (right3' _ _ ax ay bx b_y cx cy (by go_simp) (by go_simp) (by go_simp) (by go_simp) (by go_simp) (by go_simp)).mono ?_; rintro e w8 ⟨rfl, hb8⟩; have hS8 := keep12 hb8 (by assumption); obtain ⟨hc8, _⟩ := bcell hb8) | (go_at_call 14; refine (all3' _ _ ax ay bx b_y cx cy (by go_simp) (by go_simp) (by go_simp) (by go_simp) (by go_simp) (by go_simp)).mono ?_; rintro e w8 ⟨rfl, hb8⟩; have hS8 := keep12 hb8 (by assumption); obtain ⟨hc8, _⟩ := bcell hb8) | (go_at_call 15; refine (less_any _ _ _ _ _).mono ?_; rintro e w8 ⟨rfl, hb8⟩; have hS8 := keep12 hb8 (by assumption); obtain ⟨hc8, _⟩ := bcell hb8) | (go_at_call 16; refine (rless_any _ _ _ _ _).mono ?_; rintro e w8 ⟨rfl, hb8⟩; have hS8 := keep12 hb8 (by assumption); obtain ⟨hc8, _⟩ := bcell hb8) | (go_at_call 17; refine (cross_any _ _ _ _ _ _ _).mono ?_; rintro e w8 ⟨rfl, hb8⟩; have hS8 := keep12 hb8 (by assumption); obtain ⟨hc8, _⟩ := bcell hb8) | (go_at_call 18; refine (turn_any _ _ _ _ _ _ _).mono ?_; rintro e w8 ⟨rfl, hb8⟩; have hS8 := keep12 hb8 (by assumption); obtain ⟨hc8, _⟩ := bcell hb8) | (go_at_call 19; refine (sign_any _ _).mono ?_; rintro e w8 ⟨rfl, rfl⟩) | (go_at_call 12; refine (known_yes _).mono ?_; rintro e w8 ⟨rfl, hb8⟩; have hS8 := keep12 hb8 (by assumption); obtain ⟨hc8, _⟩ := bcell hb8))
        all_goals go_wp2
        all_goals go_ret
        all_goals exact ⟨rfl, hS8.2.2.2.2.2.2.2.2.2.2.2.2⟩
end Go.Proofs.Ytoojifpgdmhmcaa
