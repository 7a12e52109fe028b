/- slices.BinarySearch at numbers. -/
import Derived.Test.YtmmahejdpanmjaaMrg
namespace Go.Proofs.Ytmmahejdpanmjaa
open Go.RowKit Go.Sort

theorem nan_cmp (x : Int) (w : World) : Calls Try.prog 71 #[.int .i64 x] w fun e w' => e = .returned (.bool false) ∧ Below w.heap.size w w' := by
  go_enter Try.func71, Try.ntmps71
  go_wp2_with fail
  go_ret
  exact ⟨by simp, Below.refl _ _⟩
theorem nan_sl (x : Int) (w : World) : Calls Try.prog 66 #[.int .i64 x] w fun e w' => e = .returned (.bool false) ∧ Below w.heap.size w w' := by
  go_enter Try.func66, Try.ntmps66
  go_wp2_with fail
  go_ret
  exact ⟨by simp, Below.refl _ _⟩
theorem cless_any (x y : Int) (w : World) : Calls Try.prog 65 #[.int .i64 x, .int .i64 y] w fun e w' => e = .returned (.bool (decide (x < y))) ∧ Below w.heap.size w w' := by
  go_enter Try.func65, Try.ntmps65
  go_wp2_with (go_at_call 71; refine (nan_cmp _ _).mono ?_; rintro e w1 ⟨rfl, hb⟩)
  go_ret
  exact ⟨by simp, by assumption⟩
def BsP (L : List Int) (x : Int) (a b : Nat) : Prop := (∀ k (h : k < L.length), k < a → L[k] < x) ∧ (∀ k (h : k < L.length), b ≤ k → ¬ L[k] < x)
theorem le_at {L : List Int} (hS : L.Pairwise (· ≤ ·)) {k m : Nat} (hk : k < L.length) (hm : m < L.length) (h : k ≤ m) : L[k] ≤ L[m] := by
  rcases Nat.lt_or_ge k m with h1 | h1
  · exact List.pairwise_iff_getElem.1 hS k m hk hm h1
  · have : k = m := by omega
    subst this; exact Int.le_refl _
theorem BsP.up {L : List Int} {x : Int} {a b m : Nat} (h : BsP L x a b) (hS : L.Pairwise (· ≤ ·)) (hm : m < L.length) (hlt : L[m] < x) : BsP L x (m + 1) b :=
  ⟨fun k hk h1 => by have := le_at hS hk hm (by omega); omega, h.2⟩
theorem BsP.down {L : List Int} {x : Int} {a b m : Nat} (h : BsP L x a b) (hS : L.Pairwise (· ≤ ·)) (hm : m < L.length) (hlt : ¬ L[m] < x) : BsP L x a m :=
  ⟨h.1, fun k hk h1 => by have := le_at hS hm hk (by omega); omega⟩
theorem below_after {w W W1 : World} (h : Below w.heap.size w W) (hb : Below W.heap.size W W1) : Below w.heap.size w W1 := h.grown (row := none) (grown_below hb) h.size (fun k h => by cases h)
set_option maxRecDepth 100000 in
set_option maxHeartbeats 2000000 in
theorem bins_any {w : World} {gt : Nat} {v : Value} {L : List Int} (hI : IL w gt v L) (x : Int) (hL : L.length ≤ 1000) (hS : L.Pairwise (· ≤ ·)) :
    Calls Try.prog 53 #[v, .int .i64 x] w fun e w' => ∃ i, i ≤ L.length ∧ BsP L x i i ∧ e = .returned (.tuple #[.int .i64 (i : Int), .bool (decide (L[i]? = some x))]) ∧ Below w.heap.size w w' := by
  obtain ⟨q, c, rfl, hc, hcell⟩ := hI
  by_cases hn : L.length = 0
  · have hz : L = [] := List.eq_nil_of_length_eq_zero hn
    subst hz
    clear hcell
    go_enter Try.func53, Try.ntmps53
    go_wp2_with fail
    go_loopg [7, 8] 0 (fun gk i j wx => i = .int .i64 0 ∧ j = .int .i64 0 ∧ wx = w)
    case atStart => exact ⟨rfl, rfl, rfl⟩
    case round =>
      obtain ⟨rfl, rfl, hw⟩ := hrel
      have hw' := hw.symm; clear hw; subst hw'
      go_wp2_with fail
      go_ret2
      exact ⟨0, by simp, ⟨fun k h => by simp at h, fun k h => by simp at h⟩, by simp, Below.refl _ _⟩
  · obtain ⟨g, o, rfl, _, _⟩ := hcell 0 (by omega)
    have HC : Hid (∀ i (h : i < L.length), w.cell? ⟨g, o + i, none⟩ = some (.int .i64 L[i])) := Lib.hid (fun i h => by
      obtain ⟨g1, o1, e, _, h1⟩ := hcell i h
      cases e; exact h1)
    clear hcell
    have HS := Lib.hid hS
    clear hS
    go_enter Try.func53, Try.ntmps53
    go_wp2_with fail
    go_loopg [7, 8] L.length (fun gk i j wx => ∃ a b : Nat, gk = b - a ∧ a ≤ b ∧ b ≤ L.length ∧ i = .int .i64 (a : Int) ∧ j = .int .i64 (b : Int) ∧ Hid (BsP L x a b) ∧ Hid (Below w.heap.size w wx))
    case atStart => exact ⟨0, L.length, by omega, by omega, by omega, rfl, rfl, Lib.hid ⟨fun k h h1 => by omega, fun k h h1 => by omega⟩, Lib.hid (Below.refl _ _)⟩
    case round =>
      obtain ⟨a, b, hgk, hab, hbn, rfl, rfl, HB, HW⟩ := hrel
      by_cases hk : ((a : Nat) : Int) < ((b : Nat) : Int)
      · go_upto_region 4 with fail
        go_cut [9] (fun h wx => h = .int .i64 ((a + b) / 2 : Nat) ∧ Hid (Below w.heap.size w wx))
        case first =>
          go_wp2_with fail
          go_meet
          exact ⟨by push_cast; rfl, HW⟩
        case rest =>
          clear HW
          obtain ⟨rfl, HW⟩ := hcut
          have hm : (a + b) / 2 < L.length := by omega
          have hma : a ≤ (a + b) / 2 := by omega
          have hmb : (a + b) / 2 < b := by omega
          generalize (a + b) / 2 = m at *
          have c1 := cell_later HW.out (HC.out m hm)
          by_cases hlt : L[m] < x
          · have HB2 := Lib.hid (HB.out.up HS.out hm hlt)
            go_wp2_with (go_at_call 65; refine (cless_any _ _ _).mono ?_; rintro e w1 ⟨rfl, hb⟩)
            go_roundg (b - (m + 1))
            case measure => omega
            case rel => exact ⟨m + 1, b, rfl, by omega, hbn, by push_cast; rfl, rfl, HB2, Lib.hid (below_after HW.out hb)⟩
          · have HB2 := Lib.hid (HB.out.down HS.out hm hlt)
            go_wp2_with (go_at_call 65; refine (cless_any _ _ _).mono ?_; rintro e w1 ⟨rfl, hb⟩)
            go_roundg (m - a)
            case measure => omega
            case rel => exact ⟨a, m, rfl, hma, by omega, rfl, rfl, HB2, Lib.hid (below_after HW.out hb)⟩
      · have hab' : a = b := by omega
        subst hab'
        by_cases ha : ((a : Nat) : Int) < ((L.length : Nat) : Int)
        · have c1 := cell_later HW.out (HC.out a (by omega))
          have han : a < L.length := by omega
          by_cases he : L[a] = x
          · go_wp2_with (go_at_call 66; refine (nan_sl _ _).mono ?_; rintro e w1 ⟨rfl, hb⟩)
            go_ret2
            exact ⟨a, hbn, HB.out, by rw [List.getElem?_eq_getElem han, he]; simp, HW.out⟩
          · go_wp2_with (go_at_call 66; refine (nan_sl _ _).mono ?_; rintro e w1 ⟨rfl, hb⟩)
            go_ret2
            exact ⟨a, hbn, HB.out, by rw [List.getElem?_eq_getElem han]; simp [he], below_after HW.out hb⟩
        · go_wp2_with fail
          go_ret2
          exact ⟨a, by omega, HB.out, by rw [List.getElem?_eq_none (by omega)]; simp, HW.out⟩
theorem find_any {w : World} {gt : Nat} {v : Value} {L : List Int} (hI : IL w gt v L) (x : Int) (hL : L.length ≤ 1000) (hS : L.Pairwise (· ≤ ·)) :
    Calls Try.prog 23 #[v, .int .i64 x] w fun e w' => ∃ i, i ≤ L.length ∧ BsP L x i i ∧ e = .returned (.tuple #[.int .i64 (i : Int), .bool (decide (L[i]? = some x))]) ∧ Below w.heap.size w w' := by
  have HI := Lib.hid hI
  have HS := Lib.hid hS
  obtain ⟨q, c, rfl, hc, _⟩ := hI
  clear hS
  go_enter Try.func23, Try.ntmps23
  go_wp2_with (go_at_call 53; refine (bins_any HI.out _ hL HS.out).mono ?_; rintro e w1 ⟨i, hi, hb, rfl, hw⟩)
  go_ret2
  exact ⟨i, hi, hb, rfl, hw⟩
end Go.Proofs.Ytmmahejdpanmjaa
