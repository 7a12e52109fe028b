/- order.less, order.Merge; the document's Compare, Ints, Find at numbers. -/
import Derived.Test.YtenfaejdnphngaaApart
namespace Go.Proofs.Ytenfaejdnphngaa
open Go.RowKit Go.Sort Go.Deep

theorem oless_any (x y : Int) (w : World) : Calls Try.prog 64 #[.int .i64 x, .int .i64 y] w fun e w' => e = .returned (.bool (ilt x y)) ∧ w = w' := by
  go_enter Try.func64, Try.ntmps64
  go_wp2_with fail
  go_ret
  exact ⟨rfl, rfl⟩
theorem cmpL_tail {A B : List Int} {i : Nat} (ha : i ≤ A.length) (hb : i ≤ B.length) (hn : ¬ (i < A.length ∧ i < B.length)) (h : cmpL (A.drop i) (B.drop i) = cmpL A B) : cmpL A B = sgn ((A.length : Int) - (B.length : Int)) := by
  by_cases h1 : i < A.length
  · rw [cmpL_endB h1 (by omega) h]
    unfold sgn; rw [if_pos (by omega)]
  · rw [cmpL_endA (by omega) hb h]
    unfold sgn
    by_cases h2 : i < B.length
    · rw [if_pos h2, if_neg (by omega), if_pos (by omega)]
    · rw [if_neg h2, if_neg (by omega), if_neg (by omega)]
set_option maxRecDepth 100000 in
set_option maxHeartbeats 2000000 in
theorem rcmp_any {w : World} {ga gb : Nat} {va vb : Value} {A B : List Int} (hA : IL w ga va A) (hB : IL w gb vb B) (la : A.length ≤ 9223372036854775807) (lb : B.length ≤ 9223372036854775807) :
    Calls Try.prog 53 #[va, vb] w (CmpPost A B w) := by
  obtain ⟨qa, ca, rfl, _, hx⟩ := id hA
  clear hx
  obtain ⟨qb, cb, rfl, _, hx⟩ := id hB
  clear hx
  have HA := Lib.hid hA
  have HB := Lib.hid hB
  clear hA hB
  go_enter Try.func53, Try.ntmps53
  go_wp2_with fail
  go_loopg [5] A.length (fun gk s wx => ∃ i : Nat, gk = A.length - i ∧ i ≤ A.length ∧ i ≤ B.length ∧ s = .int .i64 (i : Int) ∧ Hid (cmpL (A.drop i) (B.drop i) = cmpL A B) ∧ Hid (Below w.heap.size w wx))
  case atStart => exact ⟨0, rfl, by omega, by omega, rfl, Lib.hid rfl, Lib.hid (Below.refl _ _)⟩
  case round =>
    obtain ⟨i, hgk, hia, hib, rfl, HC, HW⟩ := hrel
    by_cases ha : i < A.length
    · by_cases hb : i < B.length
      · obtain ⟨g1, o1, rfl, c1⟩ := HA.out.at ha
        obtain ⟨g2, o2, rfl, c2⟩ := HB.out.at hb
        have c1 := cell_later HW.out c1
        have c2 := cell_later HW.out c2
        have HSt := Lib.hid (cmpL_step ha hb HC.out)
        clear HC
        generalize A[i] = x at *
        generalize B[i] = y at *
        have x1 : ((i : Nat) : Int) < ((A.length : Nat) : Int) := by omega
        have x2 : ((i : Nat) : Int) < ((B.length : Nat) : Int) := by omega
        by_cases h1 : x < y
        · have H := Lib.hid (HSt.out.1 h1)
          have d1 : decide (x < y) = true := by simp [h1]
          go_wp2_with fail
          go_quiet (fail)
          go_wp2_with fail
          go_ret
          exact ⟨by rw [H.out]; rfl, below_drewN HW.out _⟩
        · have d1 : decide (x < y) = false := by simp; omega
          by_cases h2 : y < x
          · have H := Lib.hid (HSt.out.2.1 h2)
            have d2 : decide (y < x) = true := by simp [h2]
            go_wp2_with fail
            go_quiet (fail)
            go_wp2_with fail
            go_quiet (fail)
            go_wp2_with fail
            go_ret
            exact ⟨by rw [H.out]; rfl, below_drewN (below_drewN HW.out _) _⟩
          · have H := Lib.hid (HSt.out.2.2 (by omega))
            have d2 : decide (y < x) = false := by simp; omega
            go_wp2_with fail
            go_quiet (fail)
            go_wp2_with fail
            go_quiet (fail)
            go_wp2_with fail
            go_roundg (A.length - (i + 1))
            case measure => omega
            case rel => exact ⟨i + 1, rfl, by omega, by omega, by push_cast; rfl, H, Lib.hid (below_drewN HW.out _)⟩
      · have H := Lib.hid (cmpL_tail hia hib (by omega) HC.out)
        clear HC
        go_wp2_with (go_at_call 65; refine (sign_any _ _).mono ?_; rintro e w1 ⟨rfl, rfl⟩)
        go_ret
        exact ⟨by rw [H.out]; rfl, HW.out⟩
    · have H := Lib.hid (cmpL_tail hia hib (by omega) HC.out)
      clear HC
      go_wp2_with (go_at_call 65; refine (sign_any _ _).mono ?_; rintro e w1 ⟨rfl, rfl⟩)
      go_ret
      exact ⟨by rw [H.out]; rfl, HW.out⟩
theorem ints_any {w : World} {ga gb : Nat} {va vb : Value} {A B : List Int} (hA : IL w ga va A) (hB : IL w gb vb B) (la : A.length ≤ 9223372036854775807) (lb : B.length ≤ 9223372036854775807) (h : A = B) :
    Calls Try.prog 25 #[va, vb] w fun e w' => e = .returned (.bool true) ∧ Below w.heap.size w w' := by
  have HK := Lib.hid (rcmp_any hA hB la lb)
  subst h
  have H0 := Lib.hid (cmpL_self A)
  clear hA hB
  go_enter Try.func25, Try.ntmps25
  go_wp2_with fail
  go_at_call 53
  refine Calls.mono HK.out ?_
  rintro e w1 ⟨rfl, hb⟩
  rw [H0.out]
  go_wp2_with fail
  go_ret
  exact ⟨rfl, hb⟩
def FndPost (L : List Int) (x : Int) (w : World) (e : Ending) (w' : World) : Prop :=
  ∃ i, i ≤ L.length ∧ (∀ k (h : k < L.length), k < i → L[k] < x) ∧ (∀ h : i < L.length, ¬ L[i] < x) ∧ e = .returned (.tuple #[.int .i64 (i : Int), .bool (decide (L[i]? = some x))]) ∧ Below w.heap.size w w'
def MrgPost (A B : List Int) (w : World) (e : Ending) (w' : World) : Prop :=
  ∃ u, e = .returned u ∧ w'.ownsRow w.heap.size 3 1 u (mrg ilt A B).length (icells (mrg ilt A B)) ∧ Below w.heap.size w w'
end Go.Proofs.Ytenfaejdnphngaa
