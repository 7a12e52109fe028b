/- sort.Search for any closure. -/
import Derived.Test.YtmmahejdpanmjaaFind
namespace Go.Proofs.Ytmmahejdpanmjaa
open Go.RowKit Go.Sort

def SeP (p : Nat → Bool) (n a b : Nat) : Prop := (∀ k, k < a → p k = false) ∧ (∀ k, k < n → b ≤ k → p k = true)
set_option maxRecDepth 100000 in
set_option maxHeartbeats 2000000 in
theorem search_any (F : FuncId) (lb : Array Value) (p : Nat → Bool) (n : Nat) (hn : n ≤ 1000) {w : World} (hp : ∀ i j, i ≤ j → j < n → p i = true → p j = true)
    (hF : ∀ (args : Array Value) (W : World), Sem.run Try.prog (callFunc F args) W = .ok (Next.enter F args) W)
    (hK : ∀ (W : World) (k : Nat), Below w.heap.size w W → k < n → Calls Try.prog F (#[.int .i64 (k : Int)] ++ lb) W fun e w' => e = .returned (.bool (p k)) ∧ Below W.heap.size W w') :
    Calls Try.prog 54 #[.int .i64 (n : Int), .func (.func F) #[] lb] w fun e w' => ∃ i, i ≤ n ∧ SeP p n i i ∧ e = .returned (.int .i64 (i : Int)) ∧ Below w.heap.size w w' := by
  have HK := Lib.hid hK
  have HP := Lib.hid hp
  clear hK hp
  go_enter Try.func54, Try.ntmps54
  go_wp2_with fail
  go_loopg [5, 6] n (fun gk i j wx => ∃ a b : Nat, gk = b - a ∧ a ≤ b ∧ b ≤ n ∧ i = .int .i64 (a : Int) ∧ j = .int .i64 (b : Int) ∧ Hid (SeP p n a b) ∧ Hid (Below w.heap.size w wx))
  case atStart => exact ⟨0, n, by omega, by omega, by omega, rfl, rfl, Lib.hid ⟨fun k h => by omega, fun k h h1 => by omega⟩, Lib.hid (Below.refl _ _)⟩
  case round =>
    obtain ⟨a, b, hgk, hab, hbn, rfl, rfl, HB, HW⟩ := hrel
    by_cases hk : ((a : Nat) : Int) < ((b : Nat) : Int)
    · go_upto_region 3 with fail
      go_cut [7] (fun h wx => h = .int .i64 ((a + b) / 2 : Nat) ∧ Hid (Below w.heap.size w wx))
      case first =>
        go_wp2_with fail
        go_meet
        exact ⟨by push_cast; rfl, HW⟩
      case rest =>
        clear HW
        obtain ⟨rfl, HW⟩ := hcut
        have hm : (a + b) / 2 < n := by omega
        have hma : a ≤ (a + b) / 2 := by omega
        have hmb : (a + b) / 2 < b := by omega
        generalize (a + b) / 2 = m at *
        have KM := Lib.hid (HK.out _ m HW.out hm)
        cases hpm : p m
        · have HB2 : Hid (SeP p n (m + 1) b) := Lib.hid ⟨fun k h => (by
            rcases hq : p k with _ | _
            · rfl
            · have := HP.out k m (by omega) hm hq
              rw [hpm] at this
              cases this), HB.out.2⟩
          rw [hpm] at KM
          go_wp2_with (refine Calls.mono KM.out ?_; rintro e w1 ⟨rfl, hb⟩)
          go_roundg (b - (m + 1))
          case measure => omega
          case rel => exact ⟨m + 1, b, rfl, by omega, hbn, by push_cast; rfl, rfl, HB2, Lib.hid (below_after HW.out hb)⟩
        · have HB2 : Hid (SeP p n a m) := Lib.hid ⟨HB.out.1, fun k h h1 => HP.out m k h1 h hpm⟩
          rw [hpm] at KM
          go_wp2_with (refine Calls.mono KM.out ?_; rintro e w1 ⟨rfl, hb⟩)
          go_roundg (m - a)
          case measure => omega
          case rel => exact ⟨a, m, rfl, hma, by omega, rfl, rfl, HB2, Lib.hid (below_after HW.out hb)⟩
    · have hab' : a = b := by omega
      subst hab'
      go_wp2_with fail
      go_ret
      exact ⟨a, hbn, HB.out, rfl, HW.out⟩
end Go.Proofs.Ytmmahejdpanmjaa
