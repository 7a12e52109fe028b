/- Boxes that meet: the program's and the document's. -/
import Derived.Test.YtenfaejdnphngaaRowsA
import Derived.Test.YtenfaejdnphngaaMapE
namespace Go.Proofs.Ytenfaejdnphngaa
open Go.RowKit

theorem equal_Bx (a b : B4) (w : World) : (Op.equalIn 10000 25 (encB a) (encB b)).run Try.prog w = .ok (decide (a = b)) w := by
  have hS : Try.prog.underlying 25 = some (.struct (Try.prog.fieldsOf 25)) := by kernel_rfl
  have hp : Try.prog.stoodInHeld 25 = false := by kernel_rfl
  unfold encB
  rw [show (10000 : Nat) = 9999 + 1 from rfl, run_equalIn_agg w 9999 25 _ _ hS hp]
  simp only [Program.fieldsOf, Try.underlying25]
  obtain ⟨a1, a2, a3, a4⟩ := a
  obtain ⟨b1, b2, b3, b4⟩ := b
  go_simp
  by_cases h1 : a1 = b1 <;> by_cases h2 : a2 = b2 <;> by_cases h3 : a3 = b3 <;> by_cases h4 : a4 = b4 <;> simp [h1, h2, h3, h4]
theorem rlen_nil (w : World) : Calls Try.prog 21 #[.pointer none] w fun e w' => e = .returned (.int .i64 0) ∧ w = w' := by
  go_enter Try.func21, Try.ntmps21
  go_wp2_with fail
  go_ret
  exact ⟨rfl, rfl⟩
theorem radd_nil (v : Value) (w : World) : Calls Try.prog 20 #[.pointer none, v] w fun e w' => e = .returned (.int .i64 0) ∧ w = w' := by
  go_enter Try.func20, Try.ntmps20
  go_wp2_with fail
  go_ret
  exact ⟨rfl, rfl⟩
theorem rfind_nil (b : B4) (w : World) : Calls Try.prog 26 #[.pointer none, encB b] w fun e w' => e = .returned (.slice none 0 0) ∧ Below w.heap.size w w' := by
  unfold encB
  have HB := Lib.hid (fun o => below_alloc w o)
  go_enter Try.func26, Try.ntmps26
  go_wp2_with fail
  go_ret
  exact ⟨rfl, HB.out _⟩
theorem rat_nil (x y : Int) (w : World) : Calls Try.prog 27 #[.pointer none, .agg #[.int .i64 x, .int .i64 y]] w fun e w' => e = .returned (.slice none 0 0) ∧ Below w.heap.size w w' := by
  have HF := Lib.hid (fun V => rfind_nil (x, y, x, y) V)
  simp only [encB] at HF
  have HB := Lib.hid (fun o => below_alloc w o)
  go_enter Try.func27, Try.ntmps27
  go_wp2_with (go_at_call 26; refine (HF.out _).mono ?_; rintro e w1 ⟨rfl, hb⟩; have HB1 := Lib.hid hb; clear hb)
  go_ret
  exact ⟨rfl, below_after (by first | exact (HB.out _).drew | exact HB.out _) HB1.out⟩
theorem rbox_nil (i : Int) (w : World) : Calls Try.prog 24 #[.pointer none, .int .i64 i] w fun e w' => e = .returned (.tuple #[encB (0, 0, 0, 0), .bool false]) ∧ Below w.heap.size w w' := by
  unfold encB
  have HB := Lib.hid (fun o => below_alloc w o)
  go_enter Try.func24, Try.ntmps24
  by_cases h : i < 0
  · go_wp2_with fail
    refine bodyPost_ret (v := .tuple #[.agg #[.int .i64 0, .int .i64 0, .int .i64 0, .int .i64 0], .bool false]) (by simp [results, Try.results24, go_sem]) rfl ⟨rfl, ?_⟩
    exact HB.out _
  · have h2 : (0 : Int) ≤ i := by omega
    go_wp2_with (go_at_call 21; refine (rlen_nil _).mono ?_; rintro e w1 ⟨rfl, rfl⟩)
    refine bodyPost_ret (v := .tuple #[.agg #[.int .i64 0, .int .i64 0, .int .i64 0, .int .i64 0], .bool false]) (by simp [results, Try.results24, go_sem]) rfl ⟨rfl, ?_⟩
    exact HB.out _
end Go.Proofs.Ytenfaejdnphngaa

namespace Go.Proofs.Ytenfaejdnphngaa
open Go.RowKit

set_option maxRecDepth 100000 in
set_option maxHeartbeats 1000000 in
theorem rmeet_any (a b : B4) (w : World) : Calls Try.prog 13 #[encB a, encB b] w fun e w' => e = .returned (.bool (metB a b)) ∧ Below w.heap.size w w' := by
  have hmx : Try.prog.follows .mixedOrders = true := by kernel_rfl
  have HR := Lib.hid (fun X => rright_any a X)
  have HR2 := Lib.hid (fun X => rright_any b X)
  have HC := Lib.hid (fun X => rowcommon_any a b X)
  have HS := Lib.hid (fun X => rises_any (comB a b) X)
  have HX : Hid (metB a b = (rgtB a && rgtB b && risB (comB a b))) := Lib.hid rfl
  generalize metB a b = m at *
  generalize rgtB a = ra at *
  generalize rgtB b = rb at *
  generalize risB (comB a b) = rc at *
  unfold encB at *
  have B0 : Hid (Below w.heap.size w ((w.alloc (.cells #[.int .i64 a.1, .int .i64 a.2.1, .int .i64 a.2.2.1, .int .i64 a.2.2.2] 25)).alloc (.cells #[.int .i64 b.1, .int .i64 b.2.1, .int .i64 b.2.2.1, .int .i64 b.2.2.2] 25)) ∧ BxAt ((w.alloc (.cells #[.int .i64 a.1, .int .i64 a.2.1, .int .i64 a.2.2.1, .int .i64 a.2.2.2] 25)).alloc (.cells #[.int .i64 b.1, .int .i64 b.2.1, .int .i64 b.2.2.1, .int .i64 b.2.2.2] 25)) w.heap.size 0 a ∧ BxAt ((w.alloc (.cells #[.int .i64 a.1, .int .i64 a.2.1, .int .i64 a.2.2.1, .int .i64 a.2.2.2] 25)).alloc (.cells #[.int .i64 b.1, .int .i64 b.2.1, .int .i64 b.2.2.1, .int .i64 b.2.2.2] 25)) (w.heap.size + 1) 0 b) := Lib.hid ⟨below_after (below_alloc _ _) (below_alloc _ _), (bx_new w a _).keep (below_alloc _ _), by have h := bx_new (w.alloc (.cells #[.int .i64 a.1, .int .i64 a.2.1, .int .i64 a.2.2.1, .int .i64 a.2.2.2] 25)) b 25; simpa using h⟩
  go_enter Try.func13, Try.ntmps13
  cases ra with
  | false =>
    go_wp2_with (go_at_call 15; refine (HR.out _).mono ?_; rintro e w1 ⟨rfl, hb1⟩; have HB1 := Lib.hid (below_after B0.out.1 hb1); clear hb1)
    go_ret
    exact ⟨by rw [HX.out]; rfl, HB1.out⟩
  | true =>
    go_wp2_with fail
    go_at_call 15
    refine (HR.out _).mono ?_
    rintro e w1 ⟨rfl, hb1⟩
    have B1 := Lib.hid (And.intro (below_after B0.out.1 hb1) (And.intro (B0.out.2.1.keep hb1) (B0.out.2.2.keep hb1)))
    obtain ⟨x0, x1, x2, x3⟩ := B1.out.2.2
    clear hb1 B0
    cases rb with
    | false =>
      go_wp2_with (go_at_call 15; refine (HR2.out _).mono ?_; rintro e w2 ⟨rfl, hb2⟩; have HB2 := Lib.hid (below_after B1.out.1 hb2); clear hb2)
      go_ret
      exact ⟨by rw [HX.out]; rfl, HB2.out⟩
    | true =>
      go_wp2_with (first
        | (go_at_call 15; refine (HR2.out _).mono ?_; rintro e w2 ⟨rfl, hb2⟩; have B2 := Lib.hid (And.intro (below_after B1.out.1 hb2) (And.intro (B1.out.2.1.keep hb2) (B1.out.2.2.keep hb2))); obtain ⟨z0, z1, z2, z3⟩ := B2.out.2.2; obtain ⟨y0, y1, y2, y3⟩ := B2.out.2.1; clear hb2 B1)
        | (go_at_call 45; refine (HC.out _).mono ?_; rintro e w3 ⟨rfl, hb3⟩; have HB3 := Lib.hid (below_after B2.out.1 hb3); clear hb3 B2)
        | (go_at_call 44; refine (HS.out _).mono ?_; rintro e w4 ⟨rfl, hb4⟩; have HB4 := Lib.hid (below_after HB3.out hb4); clear hb4 HB3))
      go_ret
      exact ⟨by rw [HX.out]; cases rc <;> rfl, HB4.out⟩
set_option maxRecDepth 100000 in
theorem rrgt6_any (a : B4) (w : World) : Calls Try.prog 16 #[encB a] w fun e w' => e = .returned (.bool (rgtB a)) ∧ Below w.heap.size w w' := by
  have hmx : Try.prog.follows .mixedOrders = true := by kernel_rfl
  have HX : Hid (rgtB a = (((bnd a.1 && bnd a.2.1) && (bnd a.2.2.1 && bnd a.2.2.2)) && (decide (a.1 ≤ a.2.2.1) && decide (a.2.1 ≤ a.2.2.2)))) := Lib.hid rfl
  have HM1 := Lib.hid (fun X => may_any a.1 a.2.1 X)
  have HM2 := Lib.hid (fun X => may_any a.2.2.1 a.2.2.2 X)
  generalize rgtB a = r at *
  generalize (bnd a.1 && bnd a.2.1) = m1 at *
  generalize (bnd a.2.2.1 && bnd a.2.2.2) = m2 at *
  unfold encB
  have B0 : Hid (Below w.heap.size w (w.alloc (.cells #[.int .i64 a.1, .int .i64 a.2.1, .int .i64 a.2.2.1, .int .i64 a.2.2.2] 38)) ∧ BxAt (w.alloc (.cells #[.int .i64 a.1, .int .i64 a.2.1, .int .i64 a.2.2.1, .int .i64 a.2.2.2] 38)) w.heap.size 0 a) := Lib.hid ⟨below_alloc _ _, bx_new w a _⟩
  go_enter Try.func16, Try.ntmps16
  cases m1 with
  | false =>
    go_wp2_with (go_at_call 43; refine (HM1.out _).mono ?_; rintro e w1 ⟨rfl, hb1⟩; have HB1 := Lib.hid (below_after B0.out.1 hb1); clear hb1)
    go_ret
    exact ⟨by rw [HX.out]; rfl, HB1.out⟩
  | true =>
    go_wp2_with fail
    go_at_call 43
    refine (HM1.out _).mono ?_
    rintro e w1 ⟨rfl, hb1⟩
    have B1 := Lib.hid (And.intro (below_after B0.out.1 hb1) (B0.out.2.keep hb1))
    obtain ⟨_, _, x2, x3⟩ := B1.out.2
    clear hb1 B0
    cases m2 with
    | false =>
      go_wp2_with (go_at_call 43; refine (HM2.out _).mono ?_; rintro e w2 ⟨rfl, hb2⟩; have HB2 := Lib.hid (below_after B1.out.1 hb2); clear hb2)
      go_ret
      exact ⟨by rw [HX.out]; rfl, HB2.out⟩
    | true =>
      by_cases h1 : a.1 ≤ a.2.2.1
      · by_cases h2 : a.2.1 ≤ a.2.2.2
        · go_wp2_with (go_at_call 43; refine (HM2.out _).mono ?_; rintro e w2 ⟨rfl, hb2⟩; have HB2 := Lib.hid (below_after B1.out.1 hb2); obtain ⟨y0, y1, y2, y3⟩ := B1.out.2.keep hb2; clear hb2)
          go_ret
          exact ⟨by rw [HX.out]; simp [h1, h2], HB2.out⟩
        · go_wp2_with (go_at_call 43; refine (HM2.out _).mono ?_; rintro e w2 ⟨rfl, hb2⟩; have HB2 := Lib.hid (below_after B1.out.1 hb2); obtain ⟨y0, y1, y2, y3⟩ := B1.out.2.keep hb2; clear hb2)
          go_ret
          exact ⟨by rw [HX.out]; simp [h1, h2], HB2.out⟩
      · go_wp2_with (go_at_call 43; refine (HM2.out _).mono ?_; rintro e w2 ⟨rfl, hb2⟩; have HB2 := Lib.hid (below_after B1.out.1 hb2); obtain ⟨y0, y1, y2, y3⟩ := B1.out.2.keep hb2; clear hb2)
        go_ret
        exact ⟨by rw [HX.out]; simp; omega, HB2.out⟩
set_option maxRecDepth 100000 in
set_option maxHeartbeats 1000000 in
theorem rmt6_any (a b : B4) (w : World) : Calls Try.prog 18 #[encB a, encB b] w fun e w' => e = .returned (.bool (metB a b)) ∧ Below w.heap.size w w' := by
  have hmx : Try.prog.follows .mixedOrders = true := by kernel_rfl
  have HR := Lib.hid (fun X => rrgt6_any a X)
  have HR2 := Lib.hid (fun X => rrgt6_any b X)
  have HX : Hid (metB a b = (rgtB a && rgtB b && (decide (max a.1 b.1 ≤ min a.2.2.1 b.2.2.1) && decide (max a.2.1 b.2.1 ≤ min a.2.2.2 b.2.2.2)))) := Lib.hid rfl
  generalize metB a b = m at *
  generalize rgtB a = ra at *
  generalize rgtB b = rb at *
  unfold encB at *
  have B0 : Hid (Below w.heap.size w ((w.alloc (.cells #[.int .i64 a.1, .int .i64 a.2.1, .int .i64 a.2.2.1, .int .i64 a.2.2.2] 38)).alloc (.cells #[.int .i64 b.1, .int .i64 b.2.1, .int .i64 b.2.2.1, .int .i64 b.2.2.2] 38)) ∧ BxAt ((w.alloc (.cells #[.int .i64 a.1, .int .i64 a.2.1, .int .i64 a.2.2.1, .int .i64 a.2.2.2] 38)).alloc (.cells #[.int .i64 b.1, .int .i64 b.2.1, .int .i64 b.2.2.1, .int .i64 b.2.2.2] 38)) w.heap.size 0 a ∧ BxAt ((w.alloc (.cells #[.int .i64 a.1, .int .i64 a.2.1, .int .i64 a.2.2.1, .int .i64 a.2.2.2] 38)).alloc (.cells #[.int .i64 b.1, .int .i64 b.2.1, .int .i64 b.2.2.1, .int .i64 b.2.2.2] 38)) (w.heap.size + 1) 0 b) := Lib.hid ⟨below_after (below_alloc _ _) (below_alloc _ _), (bx_new w a _).keep (below_alloc _ _), by have h := bx_new (w.alloc (.cells #[.int .i64 a.1, .int .i64 a.2.1, .int .i64 a.2.2.1, .int .i64 a.2.2.2] 38)) b 38; simpa using h⟩
  go_enter Try.func18, Try.ntmps18
  cases ra with
  | false =>
    go_wp2_with (go_at_call 16; refine (HR.out _).mono ?_; rintro e w1 ⟨rfl, hb1⟩; have HB1 := Lib.hid (below_after B0.out.1 hb1); clear hb1)
    go_ret
    exact ⟨by rw [HX.out]; rfl, HB1.out⟩
  | true =>
    go_wp2_with fail
    go_at_call 16
    refine (HR.out _).mono ?_
    rintro e w1 ⟨rfl, hb1⟩
    have B1 := Lib.hid (And.intro (below_after B0.out.1 hb1) (And.intro (B0.out.2.1.keep hb1) (B0.out.2.2.keep hb1)))
    obtain ⟨x0, x1, x2, x3⟩ := B1.out.2.2
    clear hb1 B0
    cases rb with
    | false =>
      go_wp2_with (go_at_call 16; refine (HR2.out _).mono ?_; rintro e w2 ⟨rfl, hb2⟩; have HB2 := Lib.hid (below_after B1.out.1 hb2); clear hb2)
      go_ret
      exact ⟨by rw [HX.out]; rfl, HB2.out⟩
    | true =>
      go_upto_region 3 with (go_at_call 16; refine (HR2.out _).mono ?_; rintro e w2 ⟨rfl, hb2⟩; have B2 := Lib.hid (And.intro (below_after B1.out.1 hb2) (And.intro (B1.out.2.1.keep hb2) (B1.out.2.2.keep hb2))); obtain ⟨z0, z1, z2, z3⟩ := B2.out.2.2; obtain ⟨y0, y1, y2, y3⟩ := B2.out.2.1; clear hb2 B1)
      go_region
      go_upto_region 4 with fail
      go_region
      have HB3 : Hid (Below w.heap.size w w2.drew.drew) := Lib.hid (below_after B2.out.1 (Below.refl _ _).drew.drew)
      clear B2
      have e1 : (if a.1 < b.1 then b.1 else a.1) = max a.1 b.1 := by omega
      have e2 : (if b.2.2.1 < a.2.2.1 then b.2.2.1 else a.2.2.1) = min a.2.2.1 b.2.2.1 := by omega
      have e3 : (if a.2.1 < b.2.1 then b.2.1 else a.2.1) = max a.2.1 b.2.1 := by omega
      have e4 : (if b.2.2.2 < a.2.2.2 then b.2.2.2 else a.2.2.2) = min a.2.2.2 b.2.2.2 := by omega
      rw [e1, e2, e3, e4]
      clear e1 e2 e3 e4
      generalize max a.1 b.1 = l1 at *
      generalize min a.2.2.1 b.2.2.1 = u1 at *
      generalize max a.2.1 b.2.1 = l2 at *
      generalize min a.2.2.2 b.2.2.2 = u2 at *
      by_cases h1 : l1 ≤ u1
      · by_cases h2 : l2 ≤ u2
        · go_wp2_with fail
          go_ret
          exact ⟨by rw [HX.out]; simp [h1, h2], HB3.out⟩
        · go_wp2_with fail
          go_ret
          exact ⟨by rw [HX.out]; simp [h2], HB3.out⟩
      · go_wp2_with fail
        go_ret
        exact ⟨by rw [HX.out]; simp; omega, HB3.out⟩
set_option maxRecDepth 100000 in
set_option maxHeartbeats 1000000 in
theorem of6_any (b : B4) (w : World) : Calls Try.prog 17 #[encB b] w fun e w' => e = .returned (encB b) ∧ Below w.heap.size w w' := by
  have hmx : Try.prog.follows .mixedOrders = true := by kernel_rfl
  have HO1 := Lib.hid (fun X => of_any b.1 b.2.1 X)
  have HO2 := Lib.hid (fun X => of_any b.2.2.1 b.2.2.2 X)
  unfold encB
  go_enter Try.func17, Try.ntmps17
  go_upto_region 1 with fail
  have B0 : Hid (Below w.heap.size w ((w.alloc (.cells #[.int .i64 b.1, .int .i64 b.2.1, .int .i64 b.2.2.1, .int .i64 b.2.2.2] 25)).alloc (.cells #[.int .i64 0, .int .i64 0, .int .i64 0, .int .i64 0] 38)) ∧ BxAt ((w.alloc (.cells #[.int .i64 b.1, .int .i64 b.2.1, .int .i64 b.2.2.1, .int .i64 b.2.2.2] 25)).alloc (.cells #[.int .i64 0, .int .i64 0, .int .i64 0, .int .i64 0] 38)) w.heap.size 0 b ∧ BxAt ((w.alloc (.cells #[.int .i64 b.1, .int .i64 b.2.1, .int .i64 b.2.2.1, .int .i64 b.2.2.2] 25)).alloc (.cells #[.int .i64 0, .int .i64 0, .int .i64 0, .int .i64 0] 38)) (w.heap.size + 1) 0 (0, 0, 0, 0)) := Lib.hid ⟨below_after (below_alloc _ _) (below_alloc _ _), (bx_new w b _).keep (below_alloc _ _), by have h := bx_new (w.alloc (.cells #[.int .i64 b.1, .int .i64 b.2.1, .int .i64 b.2.2.1, .int .i64 b.2.2.2] 25)) (0, 0, 0, 0) 38; simpa using h⟩
  have hfz : ∀ o, ((w.alloc (.cells #[.int .i64 b.1, .int .i64 b.2.1, .int .i64 b.2.2.1, .int .i64 b.2.2.2] 25)).alloc (.cells #[.int .i64 0, .int .i64 0, .int .i64 0, .int .i64 0] 38)).frozen? ⟨w.heap.size + 1, o, none⟩ = false := fun o => by go_simp
  generalize ((w.alloc (.cells #[.int .i64 b.1, .int .i64 b.2.1, .int .i64 b.2.2.1, .int .i64 b.2.2.2] 25)).alloc (.cells #[.int .i64 0, .int .i64 0, .int .i64 0, .int .i64 0] 38)) = V at *
  have hVs : w.heap.size + 1 < V.heap.size := World.block_lt_of_cell? V _ B0.out.2.2.1
  refine wp_region_held_drew (S := (fun X : World => Below (w.heap.size + 1) V X)) (by kernel_rfl) ((Below.refl _ V).drew) (fun hHeld => ?_)
  refine wpAnyH_take (i := 0) (oi := { dst := some 3, op := Op.fieldAddr 25 (Operand.tmp 1) 0, type := 0, pos := "law.go:22", after := #[], guard := none }) (v := ?_) rfl (by kernel_rfl) (by kernel_rfl) (by kernel_rfl) (fun _ _ _ h => h) (Or.inl ⟨by rfl, ?_⟩) (by with_reducible assumption) ?_
  rotate_left
  focus (intro wS hSw; (try dsimp only at hSw); go_simp <;> with_reducible rfl)
  try go_frame
  refine wpAnyH_take (i := 1) (oi := { dst := some 4, op := Op.load 23 (Operand.tmp 3), type := 23, pos := "law.go:22", after := #[{ on := 0, ground := Ground.data }], guard := none }) (v := ?_) rfl (by kernel_rfl) (by kernel_rfl) (by kernel_rfl) (fun _ _ _ h => h) (Or.inl ⟨by rfl, ?_⟩) (by with_reducible assumption) ?_
  rotate_left
  focus (intro wS hSw; have hbk := hSw.block w.heap.size (by omega); have q0 := (World.cell?_of_block hbk).trans B0.out.2.1.1; have q1 := (World.cell?_of_block hbk).trans B0.out.2.1.2.1; have q2 := (World.cell?_of_block hbk).trans B0.out.2.1.2.2.1; have q3 := (World.cell?_of_block hbk).trans B0.out.2.1.2.2.2; clear hbk; (try dsimp only at hSw); go_simp <;> with_reducible rfl)
  try go_frame
  refine wpAnyH_take (i := 3) (oi := { dst := some 6, op := Op.fieldAddr 25 (Operand.tmp 1) 1, type := 0, pos := "law.go:22", after := #[], guard := none }) (v := ?_) rfl (by kernel_rfl) (by kernel_rfl) (by kernel_rfl) (fun _ _ _ h => h) (Or.inl ⟨by rfl, ?_⟩) (by with_reducible assumption) ?_
  rotate_left
  focus (intro wS hSw; (try dsimp only at hSw); go_simp <;> with_reducible rfl)
  try go_frame
  refine wpAnyH_take (i := 4) (oi := { dst := some 7, op := Op.load 23 (Operand.tmp 6), type := 23, pos := "law.go:22", after := #[{ on := 3, ground := Ground.data }], guard := none }) (v := ?_) rfl (by kernel_rfl) (by kernel_rfl) (by kernel_rfl) (fun _ _ _ h => h) (Or.inl ⟨by rfl, ?_⟩) (by with_reducible assumption) ?_
  rotate_left
  focus (intro wS hSw; have hbk := hSw.block w.heap.size (by omega); have q0 := (World.cell?_of_block hbk).trans B0.out.2.1.1; have q1 := (World.cell?_of_block hbk).trans B0.out.2.1.2.1; have q2 := (World.cell?_of_block hbk).trans B0.out.2.1.2.2.1; have q3 := (World.cell?_of_block hbk).trans B0.out.2.1.2.2.2; clear hbk; (try dsimp only at hSw); go_simp <;> with_reducible rfl)
  try go_frame
  refine wpAnyH_ready (rs := [2]) (by kernel_rfl) (by simp) ?_
  refine AllReadyH.cons (i := 2) (o := { dst := some 5, op := Op.call { callee := Callee.value (Operand.func 23), args := #[Operand.tmp 4], argTypes := #[23] }, type := 36, pos := "law.go:22", after := #[{ on := 1, ground := Ground.data }], guard := none }) rfl (fun K hK => ?_) AllReadyH.nil
  go_simp
  go_at_call 23
  refine (HO1.out _).mono ?_
  rintro e w1 ⟨rfl, hb1⟩
  have HB1 := Lib.hid (below_after ((Below.refl V.heap.size V).drew) hb1)
  clear hb1
  refine hK.out _ _ (HB1.out.mono (Nat.le_of_lt hVs)) (fun hHeld => ?_)
  clear hK K
  try go_frame
  refine wpAnyH_ready (rs := [5]) (by kernel_rfl) (by simp) ?_
  refine AllReadyH.cons (i := 5) (o := { dst := some 8, op := Op.call { callee := Callee.value (Operand.func 23), args := #[Operand.tmp 7], argTypes := #[23] }, type := 36, pos := "law.go:22", after := #[{ on := 4, ground := Ground.data }, { on := 2, ground := Ground.chain }], guard := none }) rfl (fun K hK => ?_) AllReadyH.nil
  go_simp
  go_at_call 23
  refine (HO2.out _).mono ?_
  rintro e w2 ⟨rfl, hb2⟩
  have HB2 := Lib.hid (below_after HB1.out hb2)
  clear hb2
  refine hK.out _ _ (HB2.out.mono (Nat.le_of_lt hVs)) (fun hHeld => ?_)
  clear hK K
  try go_frame
  refine wpAnyH_take (i := 6) (oi := { dst := some 9, op := Op.build 38 #[(0, Operand.tmp 5), (1, Operand.tmp 8)], type := 38, pos := "law.go:22", after := #[{ on := 2, ground := Ground.data }, { on := 5, ground := Ground.data }], guard := none }) (v := ?_) rfl (by kernel_rfl) (by kernel_rfl) (by kernel_rfl) (fun _ _ _ h => h) (Or.inl ⟨by rfl, ?_⟩) (by with_reducible assumption) ?_
  rotate_left
  focus (intro wS hSw; (try dsimp only at hSw); go_simp <;> with_reducible rfl)
  try go_frame
  obtain ⟨z0, z1, z2, z3⟩ := B0.out.2.2.keep HB2.out
  have f0 := fun o => (HB2.out.frozen (p := ⟨w.heap.size + 1, o, none⟩) (show w.heap.size + 1 < V.heap.size from World.block_lt_of_cell? V _ B0.out.2.2.1)).trans (hfz o)
  refine wpAnyH_ready (rs := [7]) (by kernel_rfl) (by simp) ?_
  refine AllReadyH.cons (i := 7) (o := { dst := none, op := Op.store 38 (Operand.tmp 2) (Operand.tmp 9), type := 0, pos := "law.go:22", after := #[{ on := 6, ground := Ground.data }, { on := 5, ground := Ground.chain }, { on := 0, ground := Ground.phase }, { on := 1, ground := Ground.phase }, { on := 2, ground := Ground.phase }, { on := 3, ground := Ground.phase }, { on := 4, ground := Ground.phase }, { on := 5, ground := Ground.phase }, { on := 6, ground := Ground.phase }], guard := none }) rfl (fun K hK => ?_) AllReadyH.nil
  go_simp
  refine hK.out _ _ (((((HB2.out.mono (Nat.le_of_lt hVs)).setCell (Nat.le_refl _) _).setCell (Nat.le_refl _) _).setCell (Nat.le_refl _) _).setCell (Nat.le_refl _) _) (fun hHeld => ?_)
  clear hK K
  try go_frame
  refine wpAnyH_done (by kernel_rfl) ?_ _
  have HBz : Hid (∀ a b c d, Below w.heap.size w ((((w2.setCell ⟨w.heap.size + 1, 0, none⟩ a).setCell ⟨w.heap.size + 1, 1, none⟩ b).setCell ⟨w.heap.size + 1, 2, none⟩ c).setCell ⟨w.heap.size + 1, 3, none⟩ d)) := Lib.hid (fun a b c d => (((((below_after B0.out.1 HB2.out).setCell (Nat.le_succ _) _).setCell (Nat.le_succ _) _).setCell (Nat.le_succ _) _).setCell (Nat.le_succ _) _))
  go_wp2_with fail
  have e0 : (w2.setCell ⟨w.heap.size + 1, 0, none⟩ (.int .i64 b.1)).cell? ⟨w.heap.size + 1, 0, none⟩ = some (.int .i64 b.1) := World.cell?_setCell_same _ _ _ z0
  have e1 : ((w2.setCell ⟨w.heap.size + 1, 0, none⟩ (.int .i64 b.1)).setCell ⟨w.heap.size + 1, 1, none⟩ (.int .i64 b.2.1)).cell? ⟨w.heap.size + 1, 1, none⟩ = some (.int .i64 b.2.1) := World.cell?_setCell_same _ _ _ ((World.cell?_setCell_other _ _ _ _ (by intro e; injection e with _ e2; exact absurd e2 (by decide))).trans z1)
  have e2 : (((w2.setCell ⟨w.heap.size + 1, 0, none⟩ (.int .i64 b.1)).setCell ⟨w.heap.size + 1, 1, none⟩ (.int .i64 b.2.1)).setCell ⟨w.heap.size + 1, 2, none⟩ (.int .i64 b.2.2.1)).cell? ⟨w.heap.size + 1, 2, none⟩ = some (.int .i64 b.2.2.1) := World.cell?_setCell_same _ _ _ ((World.cell?_setCell_other _ _ _ _ (by intro e; injection e with _ e2; exact absurd e2 (by decide))).trans ((World.cell?_setCell_other _ _ _ _ (by intro e; injection e with _ e2; exact absurd e2 (by decide))).trans z2))
  have e3 : ((((w2.setCell ⟨w.heap.size + 1, 0, none⟩ (.int .i64 b.1)).setCell ⟨w.heap.size + 1, 1, none⟩ (.int .i64 b.2.1)).setCell ⟨w.heap.size + 1, 2, none⟩ (.int .i64 b.2.2.1)).setCell ⟨w.heap.size + 1, 3, none⟩ (.int .i64 b.2.2.2)).cell? ⟨w.heap.size + 1, 3, none⟩ = some (.int .i64 b.2.2.2) := World.cell?_setCell_same _ _ _ ((World.cell?_setCell_other _ _ _ _ (by intro e; injection e with _ e2; exact absurd e2 (by decide))).trans ((World.cell?_setCell_other _ _ _ _ (by intro e; injection e with _ e2; exact absurd e2 (by decide))).trans ((World.cell?_setCell_other _ _ _ _ (by intro e; injection e with _ e2; exact absurd e2 (by decide))).trans z3)))
  exact bodyPost_ret (v := .agg #[.int .i64 b.1, .int .i64 b.2.1, .int .i64 b.2.2.1, .int .i64 b.2.2.2]) (by simp [results, Try.results17, go_sem, e0, e1, e2, e3]) rfl ⟨rfl, HBz.out _ _ _ _⟩

end Go.Proofs.Ytenfaejdnphngaa
