/- Walks of the document's own heap: Less, Push, Drop. -/
import Derived.Test.YtbdmmgplpndobaaHeapL
namespace Go.Proofs.Ytbdmmgplpndobaa
open Go.RowKit Go.Sort Go.Deep

set_option maxRecDepth 100000 in
set_option maxHeartbeats 2000000 in
theorem r5less_any (a b : E3) (w : World) : Calls Try.prog 18 #[encE3 a, encE3 b] w fun e w' => e = .returned (.bool (ltE a b)) ∧ Below w.heap.size w w' := by
  obtain ⟨a1, a2, a3⟩ := a
  obtain ⟨b1, b2, b3⟩ := b
  have HB : Hid (∀ A B : Obj, Below w.heap.size w ((w.alloc A).alloc B)) := Lib.hid (fun A B => below_after (below_alloc _ _) (below_alloc _ _))
  unfold encE3
  go_enter Try.func18, Try.ntmps18
  by_cases h1 : a1 < b1
  · have HL := Lib.hid (show ltE (a1, a2, a3) (b1, b2, b3) = true from by exact (ltE_iff.2 (by simp only; omega)))
    have x1 : decide (a1 < b1) = true := by simp; omega
    generalize ltE (a1, a2, a3) (b1, b2, b3) = r at *
    go_wp2_with fail
    go_ret
    exact ⟨by rw [HL.out]; rfl, HB.out _ _⟩
  · by_cases h2 : a1 = b1
    · by_cases h3 : a2 < b2
      · have HL := Lib.hid (show ltE (a1, a2, a3) (b1, b2, b3) = true from by exact (ltE_iff.2 (by simp only; omega)))
        have x1 : decide (a1 < b1) = false := by simp; omega
        have x2 : (a1 == b1) = true := by simp; omega
        have x3 : decide (a2 < b2) = true := by simp; omega
        generalize ltE (a1, a2, a3) (b1, b2, b3) = r at *
        go_wp2_with fail
        go_ret
        exact ⟨by rw [HL.out]; rfl, HB.out _ _⟩
      · by_cases h4 : a2 = b2
        · by_cases h5 : a3 < b3
          · have HL := Lib.hid (show ltE (a1, a2, a3) (b1, b2, b3) = true from by exact (ltE_iff.2 (by simp only; omega)))
            have x1 : decide (a1 < b1) = false := by simp; omega
            have x2 : (a1 == b1) = true := by simp; omega
            have x3 : decide (a2 < b2) = false := by simp; omega
            have x4 : (a2 == b2) = true := by simp; omega
            have x5 : decide (a3 < b3) = true := by simp; omega
            generalize ltE (a1, a2, a3) (b1, b2, b3) = r at *
            go_wp2_with fail
            go_ret
            exact ⟨by rw [HL.out]; rfl, HB.out _ _⟩
          · have HL := Lib.hid (show ltE (a1, a2, a3) (b1, b2, b3) = false from by exact (Bool.eq_false_iff.2 (fun c => by have := ltE_iff.1 c; simp only at this; omega)))
            have x1 : decide (a1 < b1) = false := by simp; omega
            have x2 : (a1 == b1) = true := by simp; omega
            have x3 : decide (a2 < b2) = false := by simp; omega
            have x4 : (a2 == b2) = true := by simp; omega
            have x5 : decide (a3 < b3) = false := by simp; omega
            generalize ltE (a1, a2, a3) (b1, b2, b3) = r at *
            go_wp2_with fail
            go_ret
            exact ⟨by rw [HL.out]; rfl, HB.out _ _⟩
        · have HL := Lib.hid (show ltE (a1, a2, a3) (b1, b2, b3) = false from by exact (Bool.eq_false_iff.2 (fun c => by have := ltE_iff.1 c; simp only at this; omega)))
          have x1 : decide (a1 < b1) = false := by simp; omega
          have x2 : (a1 == b1) = true := by simp; omega
          have x3 : decide (a2 < b2) = false := by simp; omega
          have x4 : (a2 == b2) = false := by simp; omega
          generalize ltE (a1, a2, a3) (b1, b2, b3) = r at *
          go_wp2_with fail
          go_ret
          exact ⟨by rw [HL.out]; rfl, HB.out _ _⟩
    · have HL := Lib.hid (show ltE (a1, a2, a3) (b1, b2, b3) = false from by exact (Bool.eq_false_iff.2 (fun c => by have := ltE_iff.1 c; simp only at this; omega)))
      have x1 : decide (a1 < b1) = false := by simp; omega
      have x2 : (a1 == b1) = false := by simp; omega
      generalize ltE (a1, a2, a3) (b1, b2, b3) = r at *
      go_wp2_with fail
      go_ret
      exact ⟨by rw [HL.out]; rfl, HB.out _ _⟩
end Go.Proofs.Ytbdmmgplpndobaa
