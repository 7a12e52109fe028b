/- Walks of Box. -/
import Derived.Test.YtenfaejdnphngaaOwn
import Derived.Test.YtenfaejdnphngaaArea
import Derived.Deep.DeepCutAuto
import Derived.BigRegion
import Derived.RegionTactic
namespace Go.Proofs.Ytenfaejdnphngaa
open Go.RowKit

/-- The slice's cells. -/
def Sl (W : World) (b off n : Nat) (f g : Nat → Int) : Prop :=
  b < W.heap.size ∧ ∀ i, i < n → W.cell? ⟨b, off + i * 2, none⟩ = some (.int .i64 (f i)) ∧ W.cell? ⟨b, off + i * 2 + 1, none⟩ = some (.int .i64 (g i))
theorem Sl.keep {W w1 : World} {b off n : Nat} {f g : Nat → Int} (hw : Below W.heap.size W w1) (h : Sl W b off n f g) : Sl w1 b off n f g :=
  ⟨Nat.lt_of_lt_of_le h.1 hw.size, fun i hi => ⟨cell_later hw (h.2 i hi).1, cell_later hw (h.2 i hi).2⟩⟩
theorem right_sl {b off n cap : Nat} {f g : Nat → Int} {w : World} (hn : n ≤ 9223372036854775807) (h : Sl w b off n f g) :
    Calls Try.prog 46 #[.slice (some ⟨b, off, none⟩) n cap] w fun e w' => e = .returned (.bool (pall n f g)) ∧ Below w.heap.size w w' :=
  right_any b off n cap f g w hn h.1 (fun i hi => (h.2 i hi).1) (fun i hi => (h.2 i hi).2)

set_option maxHeartbeats 800000 in
theorem box_nil (w : World) : Calls Try.prog 42 #[.slice none 0 0] w
    fun e w' => e = .returned (.tuple #[.agg #[.int .i64 0, .int .i64 0], .agg #[.int .i64 0, .int .i64 0], .bool false]) ∧ Below w.heap.size w w' := by
  go_enter Try.func42, Try.ntmps42
  go_wp2
  exact bodyPost_ret (v := .tuple #[.agg #[.int .i64 0, .int .i64 0], .agg #[.int .i64 0, .int .i64 0], .bool false]) (by simp [results, Try.results42, go_sem]) rfl ⟨rfl, b2 _ _ _⟩
set_option maxHeartbeats 800000 in
theorem box_zero (a : Addr) (cap : Nat) (w : World) : Calls Try.prog 42 #[.slice (some a) 0 cap] w
    fun e w' => e = .returned (.tuple #[.agg #[.int .i64 0, .int .i64 0], .agg #[.int .i64 0, .int .i64 0], .bool false]) ∧ Below w.heap.size w w' := by
  go_enter Try.func42, Try.ntmps42
  go_wp2
  exact bodyPost_ret (v := .tuple #[.agg #[.int .i64 0, .int .i64 0], .agg #[.int .i64 0, .int .i64 0], .bool false]) (by simp [results, Try.results42, go_sem]) rfl ⟨rfl, b2 _ _ _⟩
set_option maxHeartbeats 800000 in
theorem box_no (b off n cap : Nat) (f g : Nat → Int) (w : World) (hn : n ≤ 9223372036854775807) (h1 : 0 < n) (hs : Hid (Sl w b off n f g)) (H : Hid (pall n f g = false)) : Calls Try.prog 42 #[.slice (some ⟨b, off, none⟩) n cap] w
    fun e w' => e = .returned (.tuple #[.agg #[.int .i64 0, .int .i64 0], .agg #[.int .i64 0, .int .i64 0], .bool false]) ∧ Below w.heap.size w w' := by
  have hnz : ((n : Int) == 0) = false := beq_eq_false_iff_ne.2 (by omega)
  go_enter Try.func42, Try.ntmps42
  go_wp2_with fail
  refine (right_sl hn (hs.out.keep (b2 _ _ _))).mono ?_
  rintro e w1 ⟨rfl, hb1⟩
  rw [H.out]
  have hR0 := (Ow.new w w.heap.size 23 0 0 (Nat.le_refl _)).keep ((b1 _ _).trans (hb1.mono (by simp <;> omega)))
  have hR1 := (Ow.new (w.alloc (.cells #[.int .i64 0, .int .i64 0] 23)) w.heap.size 23 0 0 (by simp <;> omega)).keep hb1
  obtain ⟨_, c0, c1, f0, f1⟩ := hR0
  obtain ⟨_, d0, d1, g0, g1⟩ := hR1
  simp at d0 d1 g0 g1
  have hB : Below w.heap.size w w1 := (b2 _ _ _).trans (hb1.mono (by simp <;> omega))
  go_wp2
  exact bodyPost_ret (v := .tuple #[.agg #[.int .i64 0, .int .i64 0], .agg #[.int .i64 0, .int .i64 0], .bool false]) (by simp [results, Try.results42, go_sem, *]) rfl ⟨rfl, Put.below (k := w.heap.size + 1) 0 0 (Put.below (k := w.heap.size) 0 0 hB (Nat.le_refl _)) (by omega)⟩

/-- Box's two results and its two variables. -/
def BoxS (w W : World) (L H : Nat) (a b c d : Int) : Prop :=
  Ow W w.heap.size w.heap.size 0 0 ∧ Ow W w.heap.size (w.heap.size + 1) 0 0 ∧ Ow W (w.heap.size + 2) L a b ∧ Ow W (w.heap.size + 2) H c d ∧ L ≠ H ∧ Below w.heap.size w W
theorem BoxS.step {w W : World} {L H : Nat} {a b c d : Int} (a' b' c' d' : Int) (o : Obj) (h : BoxS w W L H a b c d) : BoxS w ((Put (Put W L a' b') H c' d').alloc o) L H a' b' c' d' := by
  obtain ⟨r0, r1, hl, hh, hne, hb⟩ := h
  have l1 := hl.1
  have l2 := hh.1
  have e : Below (Put (Put W L a' b') H c' d').heap.size (Put (Put W L a' b') H c' d') ((Put (Put W L a' b') H c' d').alloc o) := b1 _ _
  exact ⟨((r0.other a' b' (by omega)).other c' d' (by omega)).keep e, ((r1.other a' b' (by omega)).other c' d' (by omega)).keep e, ((hl.put a' b').other c' d' hne).keep e, ((hh.other a' b' (Ne.symm hne)).put c' d').keep e, hne,
    (Put.below c' d' (Put.below a' b' hb (by omega)) (by omega)).alloc (by unfold Put; have := hb.size; simp [World.setCell]; omega) _⟩
theorem mn_if (a x : Int) : (if x < a then x else a) = min a x := by split <;> omega
theorem mx_if (a x : Int) : (if a < x then x else a) = max a x := by split <;> omega

set_option maxHeartbeats 2000000 in
theorem box_yes (b off n cap : Nat) (f g : Nat → Int) (w : World) (hn : n ≤ 9223372036854775807) (h1 : 0 < n) (hcap : n ≤ cap) (hs : Hid (Sl w b off n f g)) (H : Hid (pall n f g = true)) : Calls Try.prog 42 #[.slice (some ⟨b, off, none⟩) n cap] w
    fun e w' => e = .returned (.tuple #[.agg #[.int .i64 (mnF f (n - 1)), .int .i64 (mnF g (n - 1))], .agg #[.int .i64 (mxF f (n - 1)), .int .i64 (mxF g (n - 1))], .bool true]) ∧ Below w.heap.size w w' := by
  have hnz : ((n : Int) == 0) = false := beq_eq_false_iff_ne.2 (by omega)
  go_enter Try.func42, Try.ntmps42
  go_wp2_with fail
  refine (right_sl hn (hs.out.keep (b2 _ _ _))).mono ?_
  rintro e w1 ⟨rfl, hb1⟩
  rw [H.out]
  have hR0 := (Ow.new w w.heap.size 23 0 0 (Nat.le_refl _)).keep ((b1 _ _).trans (hb1.mono (by simp <;> omega)))
  have hR1 := (Ow.new (w.alloc (.cells #[.int .i64 0, .int .i64 0] 23)) w.heap.size 23 0 0 (by simp <;> omega)).keep hb1
  simp only [World.size_alloc] at hR1
  have hB : Below w.heap.size w w1 := (b2 _ _ _).trans (hb1.mono (by simp <;> omega))
  have HB := Lib.hid hB
  have hz : w.heap.size + 2 ≤ w1.heap.size := by have := hb1.size; simp at this; omega
  have HR0 := Lib.hid hR0
  have HR1 := Lib.hid hR1
  obtain ⟨c0, c1⟩ := (hs.out.keep hB).2 0 h1
  simp at c0 c1
  have hbl : b < w1.heap.size := Nat.lt_of_lt_of_le hs.out.1 HB.out.size
  have hn2 : b ≠ w1.heap.size := by omega
  have hn3 : b ≠ w1.heap.size + 1 := by omega
  have P1 := Lib.hid (((Ow.new w1 (w.heap.size + 2) 23 (f 0) (g 0) hz).keep (b1 _ (.cells #[.int .i64 (f 0), .int .i64 (g 0)] 23))).drew)
  have P2 := Lib.hid ((Ow.new (w1.alloc (.cells #[.int .i64 (f 0), .int .i64 (g 0)] 23)) (w.heap.size + 2) 23 (f 0) (g 0) (by simp <;> omega)).drew)
  rw [World.size_alloc] at P2
  clear hR0 hR1 hB hb1
  go_upto_region 3 with fail
  go_cut [5, 6] (fun s5 s6 wx => ∃ L Hh : Nat, s5 = .pointer (some ⟨L, 0, none⟩) ∧ s6 = .pointer (some ⟨Hh, 0, none⟩) ∧ BoxS w wx L Hh (mnF f 0) (mnF g 0) (mxF f 0) (mxF g 0))
  case first =>
    go_region
    · go_wp2_with fail
      go_meet
      exact ⟨w1.heap.size, w1.heap.size + 1, rfl, rfl, ((HR0.out.keep (b2 _ _ _))).drew, (HR1.out.keep (b2 _ _ _)).drew, P1.out, P2.out, by omega, (HB.out.trans ((b2 _ _ _).mono HB.out.size)).drew⟩
    · go_wp2_with fail
      go_meet
      exact ⟨w1.heap.size + 1, w1.heap.size, rfl, rfl, ((HR0.out.keep (b2 _ _ _))).drew, (HR1.out.keep (b2 _ _ _)).drew, P2.out, P1.out, by omega, (HB.out.trans ((b2 _ _ _).mono HB.out.size)).drew⟩
  case rest =>
    obtain ⟨L, Hh, rfl, rfl, hS⟩ := hcut
    have HS := Lib.hid hS
    clear hS c0 c1 HR0 HR1 hz
    by_cases hc1 : cap = 1
    · obtain rfl : n = 1 := by omega
      subst hc1
      go_wp2
      go_loopw [28] (fun i wr => i = .int .i64 0 ∧ BoxS w wr L Hh (mnF f 0) (mnF g 0) (mxF f 0) (mxF g 0)) (fun _ _ => 0)
      case atStart => exact ⟨rfl, HS.out⟩
      case round =>
        obtain ⟨rfl, hS⟩ := hrel
        obtain ⟨⟨_, r0, r1, rf0, rf1⟩, ⟨_, s0, s1, sf0, sf1⟩, ⟨hL, l0, l1, lf0, lf1⟩, ⟨hH, m0, m1, mf0, mf1⟩, hne, hbe⟩ := hS
        go_wp2
        go_region
        go_wp2
        exact bodyPost_ret (v := .tuple #[.agg #[.int .i64 (mnF f 0), .int .i64 (mnF g 0)], .agg #[.int .i64 (mxF f 0), .int .i64 (mxF g 0)], .bool true]) (by simp [results, Try.results42, go_sem, *]) rfl ⟨rfl, (Put.below (k := w.heap.size + 1) _ _ (Put.below (k := w.heap.size) _ _ hbe (Nat.le_refl _)) (by omega)).drew⟩
    · have hc2 : 1 < cap := by omega
      go_wp2
      go_loopw [28] (fun i wr => ∃ k : Nat, k + 1 ≤ n ∧ i = .int .i64 k ∧ BoxS w wr L Hh (mnF f k) (mnF g k) (mxF f k) (mxF g k)) (fun i _ => n - 1 - (intOf i).toNat)
      case atStart => exact ⟨0, by omega, rfl, HS.out⟩
      case round =>
        obtain ⟨k, hk, rfl, hS⟩ := hrel
        have HS2 := Lib.hid hS
        clear hS HS
        by_cases hlt : k + 1 < n
        · obtain ⟨r0, r1, hl, hh, hne, hbe⟩ := HS2.out
          have hx := (hs.out.keep hbe).2 (k + 1) hlt
          obtain ⟨c0, c1⟩ := hx
          rw [show off + (k + 1) * 2 = off + 2 + k * 2 from by omega] at c0 c1
          have hLl := hl.lt
          have hHl := hh.lt
          have hbl2 : b < wr.heap.size := (hs.out.keep hbe).1
          obtain ⟨hLg, l0, l1, lf0, lf1⟩ := hl
          obtain ⟨hHg, m0, m1, mf0, mf1⟩ := hh
          have hne1 : L ≠ wr.heap.size := by omega
          have hne2 : Hh ≠ wr.heap.size := by omega
          have hne3 : ¬ Hh = L := fun e => hne e.symm
          have eA : Hid (mnF f (k + 1) = min (mnF f k) (f (k + 1))) := Lib.hid rfl
          have eB : Hid (mnF g (k + 1) = min (mnF g k) (g (k + 1))) := Lib.hid rfl
          have eC : Hid (mxF f (k + 1) = max (mxF f k) (f (k + 1))) := Lib.hid rfl
          have eD : Hid (mxF g (k + 1) = max (mxF g k) (g (k + 1))) := Lib.hid rfl
          clear r0 r1 hbe
          generalize mnF f k = A at *
          generalize mnF g k = B at *
          generalize mxF f k = C at *
          generalize mxF g k = D at *
          generalize f (k + 1) = X at *
          generalize g (k + 1) = Y at *
          go_wp2
          go_roundw
          case rel => exact ⟨k + 1, by omega, by go_num, by rw [mn_if, mn_if, mx_if, mx_if, eA.out, eB.out, eC.out, eD.out]; exact HS2.out.step _ _ _ _ _⟩
          case measure => simp [intOf]; omega
        · obtain rfl : n = k + 1 := by omega
          obtain ⟨⟨_, r0, r1, rf0, rf1⟩, ⟨_, s0, s1, sf0, sf1⟩, ⟨hL, l0, l1, lf0, lf1⟩, ⟨hH, m0, m1, mf0, mf1⟩, hne, hbe⟩ := HS2.out
          go_wp2
          go_region
          go_wp2
          exact bodyPost_ret (v := .tuple #[.agg #[.int .i64 (mnF f k), .int .i64 (mnF g k)], .agg #[.int .i64 (mxF f k), .int .i64 (mxF g k)], .bool true]) (by simp [results, Try.results42, go_sem, *]) rfl ⟨rfl, (Put.below (k := w.heap.size + 1) _ _ (Put.below (k := w.heap.size) _ _ hbe (Nat.le_refl _)) (by omega)).drew⟩
def ok2 (ax ay bx b_y : Int) : Bool := okp ax ay && okp bx b_y
theorem pall2 (ax ay bx b_y : Int) : pall 2 (fun i => [ax, bx].getD i 0) (fun i => [ay, b_y].getD i 0) = ok2 ax ay bx b_y := by
  simp [pall_succ, pall_zero, ok2, okp]
theorem right2 (W : World) (b : Nat) (ax ay bx b_y : Int) (hb : b < W.heap.size)
    (h0 : W.cell? ⟨b, 0, none⟩ = some (.int .i64 ax)) (h1 : W.cell? ⟨b, 1, none⟩ = some (.int .i64 ay)) (h2 : W.cell? ⟨b, 2, none⟩ = some (.int .i64 bx)) (h3 : W.cell? ⟨b, 3, none⟩ = some (.int .i64 b_y)) :
    Calls Try.prog 46 #[.slice (some ⟨b, 0, none⟩) 2 2] W fun e w' => e = .returned (.bool (ok2 ax ay bx b_y)) ∧ Below W.heap.size W w' := by
  rw [← pall2]
  refine right_any b 0 2 2 _ _ W (by omega) hb ?_ ?_
  · intro i hi
    match i, hi with
    | 0, _ => exact h0
    | 1, _ => exact h2
  · intro i hi
    match i, hi with
    | 0, _ => exact h1
    | 1, _ => exact h3
end Go.Proofs.Ytenfaejdnphngaa
