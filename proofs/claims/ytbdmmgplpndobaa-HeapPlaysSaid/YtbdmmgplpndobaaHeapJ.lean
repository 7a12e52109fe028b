/- Walks of the law's own same, of two rows of entries. -/
import Derived.Test.YtbdmmgplpndobaaHeapI
namespace Go.Proofs.Ytbdmmgplpndobaa
open Go.RowKit Go.Sort Go.Deep

theorem equal_E5 (a b : E3) (w : World) : (Op.equalIn 10000 36 (encE3 a) (encE3 b)).run Try.prog w = .ok (eqE a b) w := by
  have u3 := Try.underlying3
  have hS : Try.prog.underlying 36 = some (.struct (Try.prog.fieldsOf 36)) := by kernel_rfl
  have hp : Try.prog.stoodInHeld 36 = false := by kernel_rfl
  unfold encE3
  rw [show (10000 : Nat) = 9999 + 1 from rfl, run_equalIn_agg w 9999 36 _ _ hS hp]
  simp only [Program.fieldsOf, Try.underlying36]
  obtain ⟨a1, a2, a3⟩ := a
  obtain ⟨b1, b2, b3⟩ := b
  unfold eqE
  go_simp
  by_cases h1 : a1 = b1 <;> by_cases h2 : a2 = b2 <;> by_cases h3 : a3 = b3 <;> simp [h1, h2, h3]
theorem eq_E5 (a b : E3) (w : World) : Sem.run Try.prog (binOp .eql 36 (encE3 a) (encE3 b)) w = .ok (.bool (eqE a b)) w := by
  have h := equal_E5 a b w
  unfold encE3 at *
  simp only [binOp]
  simp [Op.equal, Op.maxDepth, h]
theorem neq_E5 (a b : E3) (w : World) : Sem.run Try.prog (binOp .neq 36 (encE3 a) (encE3 b)) w = .ok (.bool (!eqE a b)) w := by
  have h := equal_E5 a b w
  unfold encE3 at *
  simp only [binOp]
  simp [Op.equal, Op.maxDepth, h]
set_option maxRecDepth 100000 in
set_option maxHeartbeats 2000000 in
theorem same5_yes {w : World} {ha ga ma hb gb mb : Nat} {va vb : Value} {A : List E3} (hA : EI w ha ga ma va A) (hB : EI w hb gb mb vb A) (hL : A.length ≤ 1000000) : Calls Try.prog 15 #[va, vb] w fun e w' => e = .returned (.bool true) ∧ Below w.heap.size w w' := by
  have hmx : Try.prog.follows .mixedOrders = true := by kernel_rfl
  have HA := Lib.hid hA
  have HB := Lib.hid hB
  obtain ⟨qa, ca, rfl, _, hx⟩ := hA
  clear hx
  obtain ⟨qb, cb, rfl, _, hx⟩ := hB
  clear hx
  go_enter Try.func15, Try.ntmps15
  go_wp2_with fail
  go_loopg [5] A.length (fun gk s wx => ∃ k : Nat, gk = A.length - k ∧ k ≤ A.length ∧ s = .int .i64 (k : Int) ∧ Hid (Below w.heap.size w wx))
  case atStart => exact ⟨0, rfl, by omega, rfl, Lib.hid (Below.refl _ _)⟩
  case round =>
    obtain ⟨k, hgk, hk, rfl, HW⟩ := hrel
    by_cases hlt : k < A.length
    · obtain ⟨g, o, rfl, c0, c1, c2⟩ := HA.out.at hlt
      obtain ⟨g', o', rfl, d0, d1, d2⟩ := HB.out.at hlt
      have c0 := cell_later HW.out c0
      have c1 := cell_later HW.out c1
      have c2 := cell_later HW.out c2
      have d0 := cell_later HW.out d0
      have d1 := cell_later HW.out d1
      have d2 := cell_later HW.out d2
      have hq := fun W => neq_E5 A[k] A[k] W
      rw [show eqE A[k] A[k] = true from by simp [eqE]] at hq
      unfold encE3 at hq
      have hlz : ((k : Nat) : Int) < ((A.length : Nat) : Int) := by omega
      generalize A[k] = p at *
      have HW2 := Lib.hid HW.out.drew
      go_wp2_with fail
      go_region
      go_wp2_with fail
      go_roundg (A.length - (k + 1))
      case measure => omega
      case rel => exact ⟨k + 1, rfl, by omega, by push_cast; rfl, HW2⟩
    · obtain rfl : k = A.length := by omega
      go_wp2_with fail
      go_ret
      exact ⟨rfl, HW.out⟩
end Go.Proofs.Ytbdmmgplpndobaa
