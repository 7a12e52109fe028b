/- The walk of ExactBoxes. -/
import Derived.Test.YtoojifpgdmhmcaaOfs
namespace Go.Proofs.Ytoojifpgdmhmcaa
open Go.RowKit

def tb (f : Nat → Int) (c : Int) (k : Nat) : Bool := (List.range k).any fun j => f j == c
theorem tb_succ (f : Nat → Int) (c : Int) (k : Nat) : tb f c (k + 1) = (tb f c k || (f k == c)) := by
  simp [tb, List.range_succ]
theorem tb_yes {f : Nat → Int} {c : Int} {n i : Nat} (h : i < n) (e : f i = c) : tb f c n = true := by
  unfold tb
  rw [List.any_eq_true]
  exact ⟨i, by simpa using h, by simpa using e⟩

set_option maxRecDepth 100000 in
set_option maxHeartbeats 2000000 in
theorem boxes_nil (w : World) : Calls Try.prog 5 #[.slice none 0 0] w fun e w' => e = .returned (.bool true) ∧ Below w.heap.size w w' := by
  go_enter Try.func5, Try.ntmps5
  go_wp2_with fail
  refine (box_nil _).mono ?_
  rintro e w1 ⟨rfl, hb1⟩
  go_wp2_with fail
  refine (known_yes _).mono ?_
  rintro e w2 ⟨rfl, hb2⟩
  have hP := (Ow.new w1 0 23 0 0 (Nat.zero_le _)).keep (((b1 _ (.cells #[.int .i64 0, .int .i64 0] 23)).trans (hb2.mono (by simp))))
  have hQ := (Ow.new (w1.alloc (.cells #[.int .i64 0, .int .i64 0] 23)) 0 23 0 0 (Nat.zero_le _)).keep hb2
  rw [World.size_alloc] at hQ
  have hB : Below w.heap.size w w2 := hb1.trans (((b2 w1 _ _).trans (hb2.mono (by simp <;> omega))).mono hb1.size)
  have HB := Lib.hid hB
  obtain ⟨_, c0, c1, _, _⟩ := hP
  obtain ⟨_, d0, d1, _, _⟩ := hQ
  clear hb1 hb2 hB
  go_wp2
  go_ret
  exact ⟨rfl, HB.out⟩

set_option maxRecDepth 100000 in
set_option maxHeartbeats 2000000 in
theorem boxes_zero (a : Addr) (cap : Nat) (w : World) : Calls Try.prog 5 #[.slice (some a) 0 cap] w fun e w' => e = .returned (.bool true) ∧ Below w.heap.size w w' := by
  go_enter Try.func5, Try.ntmps5
  go_wp2_with fail
  refine (box_zero _ _ _).mono ?_
  rintro e w1 ⟨rfl, hb1⟩
  go_wp2_with fail
  refine (known_yes _).mono ?_
  rintro e w2 ⟨rfl, hb2⟩
  have hP := (Ow.new w1 0 23 0 0 (Nat.zero_le _)).keep (((b1 _ (.cells #[.int .i64 0, .int .i64 0] 23)).trans (hb2.mono (by simp))))
  have hQ := (Ow.new (w1.alloc (.cells #[.int .i64 0, .int .i64 0] 23)) 0 23 0 0 (Nat.zero_le _)).keep hb2
  rw [World.size_alloc] at hQ
  have hB : Below w.heap.size w w2 := hb1.trans (((b2 w1 _ _).trans (hb2.mono (by simp <;> omega))).mono hb1.size)
  have HB := Lib.hid hB
  obtain ⟨_, c0, c1, _, _⟩ := hP
  obtain ⟨_, d0, d1, _, _⟩ := hQ
  clear hb1 hb2 hB
  go_wp2
  go_ret
  exact ⟨rfl, HB.out⟩

theorem Sl.less {W : World} {b off m n : Nat} {f g : Nat → Int} (h : Sl W b off m f g) (hn : n ≤ m) : Sl W b off n f g := ⟨h.1, fun i hi => h.2 i (by omega)⟩

/-- The four marks. -/
def Mk (W : World) (T : Nat) (t0 t1 t2 t3 : Bool) : Prop :=
  W.cell? ⟨T, 0, none⟩ = some (.bool t0) ∧ W.cell? ⟨T, 1, none⟩ = some (.bool t1) ∧ W.cell? ⟨T, 2, none⟩ = some (.bool t2) ∧ W.cell? ⟨T, 3, none⟩ = some (.bool t3) ∧
    W.frozen? ⟨T, 0, none⟩ = false ∧ W.frozen? ⟨T, 1, none⟩ = false ∧ W.frozen? ⟨T, 2, none⟩ = false ∧ W.frozen? ⟨T, 3, none⟩ = false
/-- The box, and the marks. -/
def BT (w W : World) (P T : Nat) (a b c d : Int) (t0 t1 t2 t3 : Bool) : Prop :=
  Ow W w.heap.size P a b ∧ Ow W w.heap.size (P + 1) c d ∧ Mk W T t0 t1 t2 t3 ∧ P + 1 < T ∧ Below w.heap.size w W

def Set4 (W : World) (T : Nat) (s0 s1 s2 s3 : Bool) : World := (((W.setCell ⟨T, 0, none⟩ (.bool s0)).setCell ⟨T, 1, none⟩ (.bool s1)).setCell ⟨T, 2, none⟩ (.bool s2)).setCell ⟨T, 3, none⟩ (.bool s3)
theorem Set4.other (W : World) (T : Nat) (s0 s1 s2 s3 : Bool) {b o : Nat} (h : b ≠ T) : (Set4 W T s0 s1 s2 s3).cell? ⟨b, o, none⟩ = W.cell? ⟨b, o, none⟩ := by
  unfold Set4
  have ne : ∀ (V : World) (v : Value) (i : Nat), (V.setCell ⟨T, i, none⟩ v).cell? ⟨b, o, none⟩ = V.cell? ⟨b, o, none⟩ := fun V v i =>
    World.cell?_setCell_other _ _ _ _ (by intro e; injection e with e1 _; exact h e1.symm)
  rw [ne, ne, ne, ne]
theorem Set4.frozen (W : World) (T : Nat) (s0 s1 s2 s3 : Bool) (a : Addr) : (Set4 W T s0 s1 s2 s3).frozen? a = W.frozen? a := by
  unfold Set4; simp
theorem Set4.ow {W : World} {B k T : Nat} {x y : Int} (s0 s1 s2 s3 : Bool) (h : Ow W B k x y) (hk : k ≠ T) : Ow (Set4 W T s0 s1 s2 s3) B k x y :=
  ⟨h.1, (Set4.other _ _ _ _ _ _ hk).trans h.2.1, (Set4.other _ _ _ _ _ _ hk).trans h.2.2.1, (Set4.frozen _ _ _ _ _ _ _).trans h.2.2.2.1, (Set4.frozen _ _ _ _ _ _ _).trans h.2.2.2.2⟩
theorem Set4.mk {W : World} {T : Nat} {t0 t1 t2 t3 : Bool} (s0 s1 s2 s3 : Bool) (h : Mk W T t0 t1 t2 t3) : Mk (Set4 W T s0 s1 s2 s3) T s0 s1 s2 s3 := by
  obtain ⟨h0, h1, h2, h3, n0, n1, n2, n3⟩ := h
  have ne : ∀ (V : World) (v : Value) (i j : Nat), i ≠ j → (V.setCell ⟨T, i, none⟩ v).cell? ⟨T, j, none⟩ = V.cell? ⟨T, j, none⟩ := fun V v i j hij =>
    World.cell?_setCell_other _ _ _ _ (by intro e; injection e with _ e2; exact hij e2)
  have k1 := (ne W (.bool s0) 0 1 (by omega)).trans h1
  have k2 := (ne (W.setCell ⟨T, 0, none⟩ (.bool s0)) (.bool s1) 1 2 (by omega)).trans ((ne W (.bool s0) 0 2 (by omega)).trans h2)
  have k3 := (ne ((W.setCell ⟨T, 0, none⟩ (.bool s0)).setCell ⟨T, 1, none⟩ (.bool s1)) (.bool s2) 2 3 (by omega)).trans ((ne (W.setCell ⟨T, 0, none⟩ (.bool s0)) (.bool s1) 1 3 (by omega)).trans ((ne W (.bool s0) 0 3 (by omega)).trans h3))
  refine ⟨?_, ?_, ?_, ?_, (Set4.frozen _ _ _ _ _ _ _).trans n0, (Set4.frozen _ _ _ _ _ _ _).trans n1, (Set4.frozen _ _ _ _ _ _ _).trans n2, (Set4.frozen _ _ _ _ _ _ _).trans n3⟩
  · unfold Set4
    rw [ne _ _ 3 0 (by omega), ne _ _ 2 0 (by omega), ne _ _ 1 0 (by omega), World.cell?_setCell_same _ _ _ h0]
  · unfold Set4
    rw [ne _ _ 3 1 (by omega), ne _ _ 2 1 (by omega), World.cell?_setCell_same _ _ _ k1]
  · unfold Set4
    rw [ne _ _ 3 2 (by omega), World.cell?_setCell_same _ _ _ k2]
  · unfold Set4
    rw [World.cell?_setCell_same _ _ _ k3]
theorem Mk.keep {W w1 : World} {T : Nat} {t0 t1 t2 t3 : Bool} (hw : Below W.heap.size W w1) (h : Mk W T t0 t1 t2 t3) : Mk w1 T t0 t1 t2 t3 := by
  obtain ⟨h0, h1, h2, h3, n0, n1, n2, n3⟩ := h
  have hl : T < W.heap.size := World.block_lt_of_cell? W ⟨T, 0, none⟩ h0
  exact ⟨cell_later hw h0, cell_later hw h1, cell_later hw h2, cell_later hw h3, (hw.frozen (p := ⟨T, 0, none⟩) hl).trans n0, (hw.frozen (p := ⟨T, 1, none⟩) hl).trans n1, (hw.frozen (p := ⟨T, 2, none⟩) hl).trans n2, (hw.frozen (p := ⟨T, 3, none⟩) hl).trans n3⟩
theorem BT.step {w W : World} {P T : Nat} {a b c d : Int} {t0 t1 t2 t3 : Bool} (s0 s1 s2 s3 : Bool) (o : Obj) (h : BT w W P T a b c d t0 t1 t2 t3) : BT w ((Set4 W T s0 s1 s2 s3).alloc o) P T a b c d s0 s1 s2 s3 := by
  obtain ⟨hp, hq, hm, hPT, hb⟩ := h
  have hP := hp.1
  have e : Below (Set4 W T s0 s1 s2 s3).heap.size (Set4 W T s0 s1 s2 s3) ((Set4 W T s0 s1 s2 s3).alloc o) := b1 _ _
  have hT : w.heap.size ≤ T := by omega
  have hS : Below w.heap.size w (Set4 W T s0 s1 s2 s3) := ((((hb.setCell (p := ⟨T, 0, none⟩) hT _).setCell (p := ⟨T, 1, none⟩) hT _).setCell (p := ⟨T, 2, none⟩) hT _).setCell (p := ⟨T, 3, none⟩) hT _)
  exact ⟨(Set4.ow s0 s1 s2 s3 hp (by omega)).keep e, (Set4.ow s0 s1 s2 s3 hq (by omega)).keep e, (Set4.mk s0 s1 s2 s3 hm).keep e, hPT, hS.trans (e.mono hS.size)⟩
theorem BT.keep {w W w1 : World} {P T : Nat} {a b c d : Int} {t0 t1 t2 t3 : Bool} (hw : Below W.heap.size W w1) (h : BT w W P T a b c d t0 t1 t2 t3) : BT w w1 P T a b c d t0 t1 t2 t3 := by
  obtain ⟨hp, hq, hm, hPT, hb⟩ := h
  exact ⟨hp.keep hw, hq.keep hw, hm.keep hw, hPT, hb.trans (hw.mono hb.size)⟩

set_option maxRecDepth 100000 in
set_option maxHeartbeats 4000000 in
theorem boxes_some (b off len cap n : Nat) (f g : Nat → Int) (w : World) (hl : len ≤ cap) (hm : cap ≤ 9223372036854775807) (h0 : 0 < len) (hs0 : Hid (Sl w b off len f g)) (Hn : Hid (n = min len 50)) :
    Calls Try.prog 5 #[.slice (some ⟨b, off, none⟩) len cap] w fun e w' => e = .returned (.bool true) ∧ Below w.heap.size w w' := by
  have hn0 : 0 < n := by have := Hn.out; omega
  have hn1 : n ≤ 50 := by have := Hn.out; omega
  have hn2 : n ≤ cap := by have := Hn.out; omega
  have hs : Hid (Sl w b off n f g) := Lib.hid (hs0.out.less (by have := Hn.out; omega))
  go_enter Try.func5, Try.ntmps5
  go_upto_region 1 with fail
  go_cut [0] (fun s0 wx => s0 = .slice (some ⟨b, off, none⟩) n cap ∧ w = wx)
  case first =>
    by_cases h50 : 50 < len
    · have e := Hn.out
      obtain rfl : n = 50 := by omega
      clear e Hn hn0 hn1 hn2
      go_wp2
      go_meet
      exact ⟨rfl, rfl⟩
    · have e := Hn.out
      obtain rfl : n = len := by omega
      clear e Hn hn2
      go_wp2
      go_meet
      exact ⟨rfl, rfl⟩
  case rest =>
    obtain ⟨rfl, rfl⟩ := hcut
    cases h : pall n f g
    · have H := Lib.hid h
      clear h
      go_wp2_with fail
      refine (box_no b off n cap f g _ (by omega) hn0 hs H).mono ?_
      rintro e w1 ⟨rfl, hb1⟩
      have hs1 := Lib.hid ((hs.out.keep hb1).keep (b2 w1 (.cells #[.int .i64 0, .int .i64 0] 23) (.cells #[.int .i64 0, .int .i64 0] 23)))
      go_wp2_with fail
      refine (ofs_any b off n cap f g _ hn1 hs1).mono ?_
      rintro e w2 ⟨v, rfl, hv, hb2⟩
      have HV := Lib.hid hv
      clear hv
      go_wp2_with fail
      refine (all_own HV.out).mono ?_
      rintro e w3 ⟨rfl, hb3⟩
      rw [H.out]
      go_wp2_with fail
      refine (known_yes _).mono ?_
      rintro e w4 ⟨rfl, hb4⟩
      have hk : Below ((w1.alloc (.cells #[.int .i64 0, .int .i64 0] 23)).alloc (.cells #[.int .i64 0, .int .i64 0] 23)).heap.size ((w1.alloc (.cells #[.int .i64 0, .int .i64 0] 23)).alloc (.cells #[.int .i64 0, .int .i64 0] 23)) w4 :=
        (hb2.trans (hb3.mono hb2.size)).trans (hb4.mono (Nat.le_trans hb2.size hb3.size))
      have hP := (Ow.new w1 0 23 0 0 (Nat.zero_le _)).keep (((b1 _ (.cells #[.int .i64 0, .int .i64 0] 23)).trans (hk.mono (by simp))))
      have hQ := (Ow.new (w1.alloc (.cells #[.int .i64 0, .int .i64 0] 23)) 0 23 0 0 (Nat.zero_le _)).keep hk
      rw [World.size_alloc] at hQ
      have hB : Below w.heap.size w w4 := hb1.trans (((b2 w1 _ _).trans (hk.mono (by simp <;> omega))).mono hb1.size)
      have HB := Lib.hid hB
      obtain ⟨_, c0, c1, _, _⟩ := hP
      obtain ⟨_, d0, d1, _, _⟩ := hQ
      clear hb1 hb2 hb3 hb4 hk hB
      go_wp2
      go_ret
      exact ⟨rfl, HB.out⟩
    · have H := Lib.hid h
      clear h
      go_wp2_with fail
      refine (box_yes b off n cap f g _ (by omega) hn0 hn2 hs H).mono ?_
      rintro e w1 ⟨rfl, hb1⟩
      have hs1 := Lib.hid ((hs.out.keep hb1).keep (b2 w1 (.cells #[.int .i64 (mnF f (n - 1)), .int .i64 (mnF g (n - 1))] 23) (.cells #[.int .i64 (mxF f (n - 1)), .int .i64 (mxF g (n - 1))] 23)))
      go_wp2_with fail
      refine (ofs_any b off n cap f g _ hn1 hs1).mono ?_
      rintro e w2 ⟨v, rfl, hv, hb2⟩
      have HV := Lib.hid hv
      clear hv
      go_wp2_with fail
      refine (all_own HV.out).mono ?_
      rintro e w3 ⟨rfl, hb3⟩
      rw [H.out]
      have hk : Below ((w1.alloc (.cells #[.int .i64 (mnF f (n - 1)), .int .i64 (mnF g (n - 1))] 23)).alloc (.cells #[.int .i64 (mxF f (n - 1)), .int .i64 (mxF g (n - 1))] 23)).heap.size ((w1.alloc (.cells #[.int .i64 (mnF f (n - 1)), .int .i64 (mnF g (n - 1))] 23)).alloc (.cells #[.int .i64 (mxF f (n - 1)), .int .i64 (mxF g (n - 1))] 23)) w3 :=
        hb2.trans (hb3.mono hb2.size)
      have hP := (Ow.new w1 w.heap.size 23 (mnF f (n - 1)) (mnF g (n - 1)) hb1.size).keep (((b1 _ (.cells #[.int .i64 (mxF f (n - 1)), .int .i64 (mxF g (n - 1))] 23)).trans (hk.mono (by simp))))
      have hQ := (Ow.new (w1.alloc (.cells #[.int .i64 (mnF f (n - 1)), .int .i64 (mnF g (n - 1))] 23)) w.heap.size 23 (mxF f (n - 1)) (mxF g (n - 1)) (by have := hb1.size; simp; omega)).keep hk
      rw [World.size_alloc] at hQ
      have hB : Below w.heap.size w w3 := hb1.trans (((b2 w1 _ _).trans (hk.mono (by simp <;> omega))).mono hb1.size)
      have HB := Lib.hid hB
      have HP := Lib.hid hP
      have HQ := Lib.hid hQ
      clear hb1 hb2 hb3 hk hB hP hQ HV
      have hz3 : w1.heap.size + 1 < w3.heap.size := HQ.out.lt
      have hT : BT w (w3.alloc (.cells #[.bool false, .bool false, .bool false, .bool false] 44)) w1.heap.size w3.heap.size (mnF f (n - 1)) (mnF g (n - 1)) (mxF f (n - 1)) (mxF g (n - 1)) false false false false :=
        ⟨HP.out.keep (b1 _ _), HQ.out.keep (b1 _ _), ⟨by go_simp, by go_simp, by go_simp, by go_simp, by go_simp, by go_simp, by go_simp, by go_simp⟩, hz3, HB.out.trans ((b1 _ _).mono HB.out.size)⟩
      have HT := Lib.hid hT
      clear hT hz3 HP HQ HB
      go_wp2
      go_loopw [7] (fun i wr => ∃ (k : Nat) (t0 t1 t2 t3 : Bool), k ≤ n ∧ i = .int .i64 k ∧ BT w wr w1.heap.size w3.heap.size (mnF f (n - 1)) (mnF g (n - 1)) (mxF f (n - 1)) (mxF g (n - 1)) t0 t1 t2 t3 ∧ t0 = tb f (mnF f (n - 1)) k ∧ t1 = tb f (mxF f (n - 1)) k ∧ t2 = tb g (mnF g (n - 1)) k ∧ t3 = tb g (mxF g (n - 1)) k) (fun i _ => n - (intOf i).toNat)
      case atStart => exact ⟨0, false, false, false, false, by omega, rfl, HT.out, rfl, rfl, rfl, rfl⟩
      case round =>
        obtain ⟨k, t0, t1, t2, t3, hk, rfl, hBT, ht⟩ := hrel
        have Ht := Lib.hid ht
        have HBT := Lib.hid hBT
        clear ht hBT HT
        by_cases hlt : k < n
        · obtain ⟨hp, hq, ⟨m0, m1, m2, m3, n0, n1, n2, n3⟩, hPT, hbe⟩ := HBT.out
          obtain ⟨c0, c1⟩ := (hs.out.keep hbe).2 k hlt
          have i1 := mnF_le f (n - 1) k (by omega)
          have i2 := mxF_le f (n - 1) k (by omega)
          have i3 := mnF_le g (n - 1) k (by omega)
          have i4 := mxF_le g (n - 1) k (by omega)
          have hpl := hp.lt
          have hql := hq.lt
          have hTl : w3.heap.size < wr.heap.size := World.block_lt_of_cell? wr ⟨w3.heap.size, 0, none⟩ m0
          obtain ⟨hPg, p0, p1, pf0, pf1⟩ := hp
          obtain ⟨hQg, q0, q1, qf0, qf1⟩ := hq
          clear hbe
          generalize hA : mnF f (n - 1) = A at *
          generalize hB' : mnF g (n - 1) = B at *
          generalize hC : mxF f (n - 1) = C at *
          generalize hD : mxF g (n - 1) = D at *
          have X1 := Lib.hid hA
          have X2 := Lib.hid hB'
          have X3 := Lib.hid hC
          have X4 := Lib.hid hD
          clear hA hB' hC hD
          generalize hX : f k = X at *
          generalize hY : g k = Y at *
          have X5 := Lib.hid hX
          have X6 := Lib.hid hY
          clear hX hY
          cases t0 <;> cases t1 <;> cases t2 <;> cases t3
          all_goals
            go_wp2
            go_roundw
            case rel =>
              exact ⟨k + 1, _, _, _, _, by omega, by go_num, HBT.out.step _ _ _ _ _, by rw [tb_succ, X5.out, ← Ht.out.1]; rfl, by rw [tb_succ, X5.out, ← Ht.out.2.1]; rfl, by rw [tb_succ, X6.out, ← Ht.out.2.2.1]; rfl, by rw [tb_succ, X6.out, ← Ht.out.2.2.2]; rfl⟩
            case measure => simp [intOf]; omega
        · obtain rfl : k = n := by omega
          obtain ⟨j0, hj0, ej0⟩ := mnF_is f (k - 1)
          obtain ⟨j1, hj1, ej1⟩ := mxF_is f (k - 1)
          obtain ⟨j2, hj2, ej2⟩ := mnF_is g (k - 1)
          obtain ⟨j3, hj3, ej3⟩ := mxF_is g (k - 1)
          have y0 := tb_yes (n := k) (by omega) ej0
          have y1 := tb_yes (n := k) (by omega) ej1
          have y2 := tb_yes (n := k) (by omega) ej2
          have y3 := tb_yes (n := k) (by omega) ej3
          obtain rfl : t0 = true := Ht.out.1.trans y0
          obtain rfl : t1 = true := Ht.out.2.1.trans y1
          obtain rfl : t2 = true := Ht.out.2.2.1.trans y2
          obtain rfl : t3 = true := Ht.out.2.2.2.trans y3
          clear y0 y1 y2 y3 ej0 ej1 ej2 ej3 Ht
          go_wp2_with fail
          refine (known_yes _).mono ?_
          rintro e w4 ⟨rfl, hb4⟩
          have hE := HBT.out.keep hb4
          clear hb4 HBT
          obtain ⟨_, _, ⟨m0, m1, m2, m3, _⟩, _, hbe⟩ := hE
          have HBE := Lib.hid hbe
          clear hbe
          have hq4 : ∀ W : World, (Op.equalIn 10000 44 (.agg #[.bool true, .bool true, .bool true, .bool true]) (.agg #[.bool true, .bool true, .bool true, .bool true])).run Try.prog W = .ok true W := fun W => by kernel_rfl
          go_wp2
          go_ret
          exact ⟨rfl, HBE.out⟩
end Go.Proofs.Ytoojifpgdmhmcaa
