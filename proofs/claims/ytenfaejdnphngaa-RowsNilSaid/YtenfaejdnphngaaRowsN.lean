/- Walks of the index: nil; boxes held against each other. -/
import Derived.Test.YtenfaejdnphngaaRowsA
import Derived.Test.YtenfaejdnphngaaMapE
namespace Go.Proofs.Ytenfaejdnphngaa
open Go.RowKit

theorem equal_Bx (a b : B4) (w : World) : (Op.equalIn 10000 25 (encB a) (encB b)).run Try.prog w = .ok (decide (a = b)) w := by
  have hS : Try.prog.underlying 25 = some (.struct (Try.prog.fieldsOf 25)) := by kernel_rfl
  have hp : Try.prog.stoodInHeld 25 = false := by kernel_rfl
  unfold encB
  rw [show (10000 : Nat) = 9999 + 1 from rfl, run_equalIn_agg w 9999 25 _ _ hS hp]
  simp only [Program.fieldsOf, Try.underlying25]
  obtain ⟨a1, a2, a3, a4⟩ := a
  obtain ⟨b1, b2, b3, b4⟩ := b
  go_simp
  by_cases h1 : a1 = b1 <;> by_cases h2 : a2 = b2 <;> by_cases h3 : a3 = b3 <;> by_cases h4 : a4 = b4 <;> simp [h1, h2, h3, h4]
theorem rlen_nil (w : World) : Calls Try.prog 21 #[.pointer none] w fun e w' => e = .returned (.int .i64 0) ∧ w = w' := by
  go_enter Try.func21, Try.ntmps21
  go_wp2_with fail
  go_ret
  exact ⟨rfl, rfl⟩
theorem radd_nil (v : Value) (w : World) : Calls Try.prog 20 #[.pointer none, v] w fun e w' => e = .returned (.int .i64 0) ∧ w = w' := by
  go_enter Try.func20, Try.ntmps20
  go_wp2_with fail
  go_ret
  exact ⟨rfl, rfl⟩
theorem rfind_nil (b : B4) (w : World) : Calls Try.prog 26 #[.pointer none, encB b] w fun e w' => e = .returned (.slice none 0 0) ∧ Below w.heap.size w w' := by
  unfold encB
  have HB := Lib.hid (fun o => below_alloc w o)
  go_enter Try.func26, Try.ntmps26
  go_wp2_with fail
  go_ret
  exact ⟨rfl, HB.out _⟩
theorem rat_nil (x y : Int) (w : World) : Calls Try.prog 27 #[.pointer none, .agg #[.int .i64 x, .int .i64 y]] w fun e w' => e = .returned (.slice none 0 0) ∧ Below w.heap.size w w' := by
  have HF := Lib.hid (fun V => rfind_nil (x, y, x, y) V)
  simp only [encB] at HF
  have HB := Lib.hid (fun o => below_alloc w o)
  go_enter Try.func27, Try.ntmps27
  go_wp2_with (go_at_call 26; refine (HF.out _).mono ?_; rintro e w1 ⟨rfl, hb⟩; have HB1 := Lib.hid hb; clear hb)
  go_ret
  exact ⟨rfl, below_after (by first | exact (HB.out _).drew | exact HB.out _) HB1.out⟩
theorem rbox_nil (i : Int) (w : World) : Calls Try.prog 24 #[.pointer none, .int .i64 i] w fun e w' => e = .returned (.tuple #[encB (0, 0, 0, 0), .bool false]) ∧ Below w.heap.size w w' := by
  unfold encB
  have HB := Lib.hid (fun o => below_alloc w o)
  go_enter Try.func24, Try.ntmps24
  by_cases h : i < 0
  · go_wp2_with fail
    refine bodyPost_ret (v := .tuple #[.agg #[.int .i64 0, .int .i64 0, .int .i64 0, .int .i64 0], .bool false]) (by simp [results, Try.results24, go_sem]) rfl ⟨rfl, ?_⟩
    exact HB.out _
  · have h2 : (0 : Int) ≤ i := by omega
    go_wp2_with (go_at_call 21; refine (rlen_nil _).mono ?_; rintro e w1 ⟨rfl, rfl⟩)
    refine bodyPost_ret (v := .tuple #[.agg #[.int .i64 0, .int .i64 0, .int .i64 0, .int .i64 0], .bool false]) (by simp [results, Try.results24, go_sem]) rfl ⟨rfl, ?_⟩
    exact HB.out _
end Go.Proofs.Ytenfaejdnphngaa
