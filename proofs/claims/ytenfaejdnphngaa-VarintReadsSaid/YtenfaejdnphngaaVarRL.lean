/- The law VarintReads. -/
import Derived.Test.YtenfaejdnphngaaVarK
import Derived.Deep.Upon
namespace Go.Proofs.Ytenfaejdnphngaa
open Go.RowKit Go.Sort

theorem row_err : ∀ (g : Nat) (b : List Nat) (i : Nat) (acc : List Nat), (rowR g b i acc).2.2 ≠ 0 → (rowR g b i acc).1 = []
  | 0, _, _, _, h => absurd rfl h
  | g + 1, b, i, acc, h => by
    rw [rowR] at h ⊢
    split
    · rename_i h1
      rw [if_pos h1] at h
      split
      · rename_i h2
        rw [if_pos h2] at h
        exact row_err g b _ _ h
      · rfl
    · rename_i h1
      rw [if_neg h1] at h
      exact absurd rfl h
/-- What the law holds. -/
def VrS (w : World) (q qy : Option Addr) (c cy : Nat) (b L : List Nat) (X : World) : Prop := Below w.heap.size w X ∧ KL .u8 X (.slice q b.length c) b ∧ KL .u64 X (.slice qy L.length cy) L
theorem VrS.keep {w : World} {q qy : Option Addr} {c cy : Nat} {b L : List Nat} {X X1 : World} (h : VrS w q qy c cy b L X) (hb : Below X.heap.size X X1) : VrS w q qy c cy b L X1 := ⟨below_after h.1 hb, h.2.1.keep hb, h.2.2.keep hb⟩
set_option maxRecDepth 100000 in
set_option maxHeartbeats 4000000 in
theorem readsLaw_yes {w : World} {v : Value} {l0 : List Nat} (hK : KL .u8 w v l0) (hb0 : ∀ n ∈ l0, n < 256) :
    Calls Try.prog 8 #[v] w fun e w' => e = .returned (.bool true) ∧ Below w.heap.size w w' := by
  have hmx : Try.prog.follows .mixedOrders = true := by kernel_rfl
  obtain ⟨q, c, rfl, hc, _⟩ := id hK
  have hKm := hK.take (Nat.min_le_left l0.length 200)
  have hlm : (l0.take (min l0.length 200)).length = min l0.length 200 := by rw [List.length_take]; omega
  have hbm : ∀ x ∈ l0.take (min l0.length 200), x < 256 := fun x hx => hb0 x (List.mem_of_mem_take hx)
  have hmn : min (l0.length : Int) 200 = ((min l0.length 200 : Nat) : Int) := by omega
  have hm50 : min l0.length 200 ≤ 200 := Nat.min_le_right _ _
  have hmc : min l0.length 200 ≤ c := by omega
  generalize l0.take (min l0.length 200) = b at *
  generalize min l0.length 200 = m at *
  subst hlm
  have hcz : (b.length : Int) ≤ (c : Int) := by omega
  have HK := Lib.hid hKm
  have HRd := Lib.hid (rd_any hKm hbm (by omega))
  have HRr := Lib.hid (fun (V : World) (h : KL .u8 V (.slice q b.length c) b) => rrd_any h hbm (by omega))
  have HRw := Lib.hid (fun (V : World) (h : KL .u8 V (.slice q b.length c) b) => row_any h hbm (by omega))
  have HRo := Lib.hid (fun (V : World) (h : KL .u8 V (.slice q b.length c) b) => rrow_any h hbm (by omega))
  have HOk : Hid ((rd b).2.2 = 0 → 0 < (rd b).2.1 ∧ (rd b).2.1 ≤ b.length ∧ nb (rd b).1 = b.take (rd b).2.1 ∧ (rd b).1 < 18446744073709551616) := Lib.hid (fun h => by
    have hr : rd b = ((rd b).1, (rd b).2.1, 0) := by rw [← h]
    obtain ⟨k1, k2, _, k4, k5⟩ := rd_ok hr hbm
    exact ⟨k1, k2, k4, k5⟩)
  have HOw : Hid ((rowD b).2.2 = 0 → bys (rowD b).1 = b ∧ ∀ n ∈ (rowD b).1, n < 18446744073709551616) := Lib.hid (fun h => by
    have hr : rowD b = ((rowD b).1, (rowD b).2.1, 0) := by rw [← h]
    obtain ⟨k1, _, k3⟩ := rowD_ok hbm hr
    exact ⟨k1, k3⟩)
  have HLr : Hid ((rowD b).1.length ≤ 1000) := Lib.hid (by
    by_cases h : (rowD b).2.2 = 0
    · obtain ⟨k1, k3⟩ := HOw.out h
      have := (bys_len _ k3).2
      rw [k1] at this
      omega
    · have := row_err (b.length + 1) b 0 [] h
      unfold rowD
      rw [this]; simp)
  unfold RdPost at HRd HRr
  unfold RoPost7 at HRw HRo
  generalize (rd b).1 = n at *
  generalize (rd b).2.1 = k at *
  generalize (rd b).2.2 = e at *
  generalize (rowD b).1 = L at *
  generalize (rowD b).2.1 = at' at *
  generalize (rowD b).2.2 = f at *
  clear hK hKm hbm hb0 hc
  go_enter Try.func8, Try.ntmps8
  go_upto_region 8 with (first
    | (go_at_call 39; refine HRd.out.mono ?_; rintro e w1 ⟨rfl, hb1⟩; have HB1 := Lib.hid hb1; have HK1 := Lib.hid (HK.out.keep hb1); clear hb1)
    | (go_at_call 40; refine (HRr.out _ HK1.out).mono ?_; rintro e w2 ⟨rfl, hb2⟩; have HB2 := Lib.hid (below_after HB1.out hb2); have HK2 := Lib.hid (HK1.out.keep hb2); clear hb2)
    | (go_at_call 31; refine (HRw.out _ HK2.out).mono ?_; rintro e w3 ⟨u3, rfl, ho3, hb3⟩; have HB3 := Lib.hid (below_after HB2.out hb3); have HK3 := Lib.hid (HK2.out.keep hb3); have HY := Lib.hid (kl_own rfl ho3); obtain ⟨qy, cy, rfl, _⟩ := HY.out; clear hb3 ho3)
    | (go_at_call 41; refine (HRo.out _ HK3.out).mono ?_; rintro e w4 ⟨u4, rfl, ho4, hb4⟩; have HB4 := Lib.hid (below_after HB3.out hb4); have HK4 := Lib.hid (HK3.out.keep hb4); have HY4 := Lib.hid (HY.out.keep hb4); have HZ := Lib.hid (kl_own rfl ho4); obtain ⟨qz, cz, rfl, _⟩ := HZ.out; clear hb4 ho4)
    | (go_at_call 34; refine (lsame_any HY4.out HZ.out (by have := HLr.out; omega)).mono ?_; rintro e w5 ⟨rfl, hb5⟩; have HB5 := Lib.hid (below_after HB4.out hb5); have HK5 := Lib.hid (HK4.out.keep hb5); have HY5 := Lib.hid (HY4.out.keep hb5); clear hb5))
  clear HRd HRr HRw HRo HB1 HB2 HB3 HB4 HK HK1 HK2 HK3 HK4 HY HY4 HZ
  have HD := Lib.hid (show VrS w q qy c cy b L w5.drew from ⟨HB5.out.drew, HK5.out.keep ((Below.refl _ _).drew), HY5.out.keep ((Below.refl _ _).drew)⟩)
  clear HB5 HK5 HY5
  by_cases he : e = 0
  · subst he
    have HO2 := Lib.hid (HOk.out rfl)
    have hkc : (k : Int) ≤ (c : Int) := by have := HO2.out.2.1; omega
    clear HOk
    by_cases hf : f = 0
    · subst hf
      have HW2 := Lib.hid (HOw.out rfl)
      clear HOw
      refine wp_region_held_drew (S := fun _ => True) (by kernel_rfl) trivial (fun hHeld => ?_)
      refine wpAnyH_ready (rs := [0]) (by kernel_rfl) (by simp) ?_
      refine AllReadyH.cons (i := 0) (o := { dst := some 73, op := Op.call { callee := Callee.value (Operand.func 32), args := #[], argTypes := #[] }, type := 4, pos := "law.go:55", after := #[], guard := none }) rfl (fun K hK => ?_) AllReadyH.nil
      go_simp
      go_at_call 32
      refine (known7_yes _).mono ?_
      rintro e x1 ⟨rfl, hb1⟩
      have HE1 := Lib.hid (HD.out.keep hb1)
      clear HD hb1
      refine hK.out _ _ trivial (fun hHeld => ?_)
      clear hK K
      try go_frame
      refine wpAnyH_take (i := 1) (oi := { dst := some 74, op := Op.move (Operand.tmp 73), type := 4, pos := "law.go:55", after := #[{ on := 0, ground := Ground.data }, { on := 0, ground := Ground.chain }], guard := none }) (v := ?_) rfl (by kernel_rfl) (by kernel_rfl) (by kernel_rfl) (fun _ _ _ h => h) (Or.inl ⟨by rfl, ?_⟩) (by with_reducible assumption) ?_
      rotate_left
      focus (intro wS hSw; (try dsimp only at hSw); go_simp <;> with_reducible rfl)
      try go_frame
      refine wpAnyH_take (i := 2) (oi := { dst := some 75, op := Op.move (Operand.tmp 5), type := 65, pos := "law.go:55", after := #[{ on := 1, ground := Ground.guard }], guard := some (1, true) }) (v := ?_) rfl (by kernel_rfl) (by kernel_rfl) (by kernel_rfl) (fun _ _ _ h => h) (Or.inl ⟨by rfl, ?_⟩) (by with_reducible assumption) ?_
      rotate_left
      focus (intro wS hSw; (try dsimp only at hSw); go_simp <;> with_reducible rfl)
      try go_frame
      refine wpAnyH_take (i := 3) (oi := { dst := some 76, op := Op.binOp BinOp.neq 65 (Operand.tmp 75) (Operand.const (Value.int IntKind.i64 0)) 65, type := 4, pos := "law.go:55", after := #[{ on := 2, ground := Ground.data }, { on := 1, ground := Ground.guard }], guard := some (1, true) }) (v := ?_) rfl (by kernel_rfl) (by kernel_rfl) (by kernel_rfl) (fun _ _ _ h => h) (Or.inl ⟨by rfl, ?_⟩) (by with_reducible assumption) ?_
      rotate_left
      focus (intro wS hSw; (try dsimp only at hSw); go_simp <;> with_reducible rfl)
      try go_frame
      refine wpAnyH_take (i := 4) (oi := { dst := some 77, op := Op.move (Operand.tmp 76), type := 4, pos := "law.go:55", after := #[{ on := 3, ground := Ground.data }, { on := 1, ground := Ground.chain }, { on := 1, ground := Ground.guard }], guard := some (1, true) }) (v := ?_) rfl (by kernel_rfl) (by kernel_rfl) (by kernel_rfl) (fun _ _ _ h => h) (Or.inl ⟨by rfl, ?_⟩) (by with_reducible assumption) ?_
      rotate_left
      focus (intro wS hSw; (try dsimp only at hSw); go_simp <;> with_reducible rfl)
      try go_frame
      refine wpAnyH_take (i := 5) (oi := { dst := some 78, op := Op.move (Operand.tmp 3), type := 43, pos := "law.go:55", after := #[{ on := 4, ground := Ground.guard }], guard := some (4, false) }) (v := ?_) rfl (by kernel_rfl) (by kernel_rfl) (by kernel_rfl) (fun _ _ _ h => h) (Or.inl ⟨by rfl, ?_⟩) (by with_reducible assumption) ?_
      rotate_left
      focus (intro wS hSw; (try dsimp only at hSw); go_simp <;> with_reducible rfl)
      try go_frame
      refine wpAnyH_take (i := 8) (oi := { dst := some 81, op := Op.move (Operand.tmp 0), type := 61, pos := "law.go:55", after := #[{ on := 4, ground := Ground.guard }], guard := some (4, false) }) (v := ?_) rfl (by kernel_rfl) (by kernel_rfl) (by kernel_rfl) (fun _ _ _ h => h) (Or.inl ⟨by rfl, ?_⟩) (by with_reducible assumption) ?_
      rotate_left
      focus (intro wS hSw; (try dsimp only at hSw); go_simp <;> with_reducible rfl)
      try go_frame
      refine wpAnyH_take (i := 9) (oi := { dst := some 82, op := Op.move (Operand.tmp 7), type := 3, pos := "law.go:55", after := #[{ on := 4, ground := Ground.guard }], guard := some (4, false) }) (v := ?_) rfl (by kernel_rfl) (by kernel_rfl) (by kernel_rfl) (fun _ _ _ h => h) (Or.inl ⟨by rfl, ?_⟩) (by with_reducible assumption) ?_
      rotate_left
      focus (intro wS hSw; (try dsimp only at hSw); go_simp <;> with_reducible rfl)
      try go_frame
      refine wpAnyH_take (i := 10) (oi := { dst := some 83, op := Op.slice 61 (Operand.tmp 81) none (some (Operand.tmp 82)) none, type := 61, pos := "law.go:55", after := #[{ on := 8, ground := Ground.data }, { on := 9, ground := Ground.data }, { on := 4, ground := Ground.guard }], guard := some (4, false) }) (v := ?_) rfl (by kernel_rfl) (by kernel_rfl) (by kernel_rfl) (fun _ _ _ h => h) (Or.inl ⟨by rfl, ?_⟩) (by with_reducible assumption) ?_
      rotate_left
      focus (intro wS hSw; (try dsimp only at hSw); go_simp <;> with_reducible rfl)
      try go_frame
      refine wpAnyH_ready (rs := [6]) (by kernel_rfl) (by simp) ?_
      refine AllReadyH.cons (i := 6) (o := { dst := some 79, op := Op.buildSlice 60 1 #[(0, Operand.tmp 78)], type := 60, pos := "law.go:55", after := #[{ on := 5, ground := Ground.data }, { on := 4, ground := Ground.guard }], guard := some (4, false) }) rfl (fun K hK => ?_) AllReadyH.nil
      go_simp
      have HE2 := Lib.hid (HE1.out.keep (below_alloc x1 (.cells #[.int .u64 (n : Int)] 43)))
      refine hK.out _ _ trivial (fun hHeld => ?_)
      clear hK K
      try go_frame
      refine wpAnyH_ready (rs := [7]) (by kernel_rfl) (by simp) ?_
      refine AllReadyH.cons (i := 7) (o := { dst := some 80, op := Op.call { callee := Callee.value (Operand.func 30), args := #[Operand.tmp 79], argTypes := #[60] }, type := 61, pos := "law.go:55", after := #[{ on := 6, ground := Ground.data }, { on := 4, ground := Ground.chain }, { on := 4, ground := Ground.guard }], guard := some (4, false) }) rfl (fun K hK => ?_) AllReadyH.nil
      go_simp
      go_at_call 30
      refine (bytes_any (kl_lit .u64 x1 43 [n] (cs := #[.int .u64 (n : Int)]) rfl (by show 1 ≤ 1000; omega) (n := 1) rfl) (by show 1 ≤ 1000; omega) (by intro y hy; rw [List.mem_singleton] at hy; subst hy; exact HO2.out.2.2.2)).mono ?_
      rintro e x2 ⟨u2, rfl, ho2, hb2⟩
      have HU2 := Lib.hid (show KL .u8 x2 u2 (nb n) from by have h := ho2; rw [show bys [n] = nb n from by simp [bys]] at h; exact kl_own rfl h)
      have HE3 := Lib.hid (HE2.out.keep hb2)
      clear HE2 hb2 ho2
      refine hK.out _ _ trivial (fun hHeld => ?_)
      clear hK K
      try go_frame
      refine wpAnyH_ready (rs := [11]) (by kernel_rfl) (by simp) ?_
      refine AllReadyH.cons (i := 11) (o := { dst := some 84, op := Op.call { callee := Callee.value (Operand.func 33), args := #[Operand.tmp 80, Operand.tmp 83], argTypes := #[61, 61] }, type := 4, pos := "law.go:55", after := #[{ on := 7, ground := Ground.data }, { on := 10, ground := Ground.data }, { on := 7, ground := Ground.chain }, { on := 4, ground := Ground.guard }], guard := some (4, false) }) rfl (fun K hK => ?_) AllReadyH.nil
      go_simp
      go_at_call 33
      refine (rsame_any (L := b.take k) (by rw [← HO2.out.2.2.1]; exact HU2.out) (HE3.out.2.1.take HO2.out.2.1) (by rw [List.length_take]; omega)).mono ?_
      rintro e x3 ⟨rfl, hb3⟩
      have HE4 := Lib.hid (HE3.out.keep hb3)
      clear HE3 hb3 HU2
      refine hK.out _ _ trivial (fun hHeld => ?_)
      clear hK K
      try go_frame
      refine wpAnyH_take (i := 12) (oi := { dst := some 85, op := Op.pick (Operand.tmp 77) (Operand.const (Value.bool true)) (Operand.tmp 84), type := 4, pos := "law.go:55", after := #[{ on := 4, ground := Ground.data }, { on := 11, ground := Ground.data }, { on := 1, ground := Ground.guard }], guard := some (1, true) }) (v := ?_) rfl (by kernel_rfl) (by kernel_rfl) (by kernel_rfl) (fun _ _ _ h => h) (Or.inl ⟨by rfl, ?_⟩) (by with_reducible assumption) ?_
      rotate_left
      focus (intro wS hSw; (try dsimp only at hSw); go_simp <;> with_reducible rfl)
      try go_frame
      refine wpAnyH_take (i := 13) (oi := { dst := some 86, op := Op.pick (Operand.tmp 74) (Operand.tmp 85) (Operand.const (Value.bool false)), type := 4, pos := "law.go:55", after := #[{ on := 1, ground := Ground.data }, { on := 12, ground := Ground.data }], guard := none }) (v := ?_) rfl (by kernel_rfl) (by kernel_rfl) (by kernel_rfl) (fun _ _ _ h => h) (Or.inl ⟨by rfl, ?_⟩) (by with_reducible assumption) ?_
      rotate_left
      focus (intro wS hSw; (try dsimp only at hSw); go_simp <;> with_reducible rfl)
      try go_frame
      refine wpAnyH_take (i := 14) (oi := { dst := some 87, op := Op.move (Operand.tmp 86), type := 4, pos := "law.go:55", after := #[{ on := 13, ground := Ground.data }, { on := 11, ground := Ground.chain }], guard := none }) (v := ?_) rfl (by kernel_rfl) (by kernel_rfl) (by kernel_rfl) (fun _ _ _ h => h) (Or.inl ⟨by rfl, ?_⟩) (by with_reducible assumption) ?_
      rotate_left
      focus (intro wS hSw; (try dsimp only at hSw); go_simp <;> with_reducible rfl)
      try go_frame
      refine wpAnyH_take (i := 15) (oi := { dst := some 88, op := Op.move (Operand.tmp 11), type := 65, pos := "law.go:55", after := #[{ on := 14, ground := Ground.guard }], guard := some (14, true) }) (v := ?_) rfl (by kernel_rfl) (by kernel_rfl) (by kernel_rfl) (fun _ _ _ h => h) (Or.inl ⟨by rfl, ?_⟩) (by with_reducible assumption) ?_
      rotate_left
      focus (intro wS hSw; (try dsimp only at hSw); go_simp <;> with_reducible rfl)
      try go_frame
      refine wpAnyH_take (i := 16) (oi := { dst := some 89, op := Op.binOp BinOp.neq 65 (Operand.tmp 88) (Operand.const (Value.int IntKind.i64 0)) 65, type := 4, pos := "law.go:55", after := #[{ on := 15, ground := Ground.data }, { on := 14, ground := Ground.guard }], guard := some (14, true) }) (v := ?_) rfl (by kernel_rfl) (by kernel_rfl) (by kernel_rfl) (fun _ _ _ h => h) (Or.inl ⟨by rfl, ?_⟩) (by with_reducible assumption) ?_
      rotate_left
      focus (intro wS hSw; (try dsimp only at hSw); go_simp <;> with_reducible rfl)
      try go_frame
      refine wpAnyH_take (i := 17) (oi := { dst := some 90, op := Op.move (Operand.tmp 89), type := 4, pos := "law.go:55", after := #[{ on := 16, ground := Ground.data }, { on := 14, ground := Ground.chain }, { on := 14, ground := Ground.guard }], guard := some (14, true) }) (v := ?_) rfl (by kernel_rfl) (by kernel_rfl) (by kernel_rfl) (fun _ _ _ h => h) (Or.inl ⟨by rfl, ?_⟩) (by with_reducible assumption) ?_
      rotate_left
      focus (intro wS hSw; (try dsimp only at hSw); go_simp <;> with_reducible rfl)
      try go_frame
      refine wpAnyH_take (i := 18) (oi := { dst := some 91, op := Op.move (Operand.tmp 9), type := 60, pos := "law.go:55", after := #[{ on := 17, ground := Ground.guard }], guard := some (17, false) }) (v := ?_) rfl (by kernel_rfl) (by kernel_rfl) (by kernel_rfl) (fun _ _ _ h => h) (Or.inl ⟨by rfl, ?_⟩) (by with_reducible assumption) ?_
      rotate_left
      focus (intro wS hSw; (try dsimp only at hSw); go_simp <;> with_reducible rfl)
      try go_frame
      refine wpAnyH_take (i := 20) (oi := { dst := some 93, op := Op.move (Operand.tmp 0), type := 61, pos := "law.go:55", after := #[{ on := 17, ground := Ground.guard }], guard := some (17, false) }) (v := ?_) rfl (by kernel_rfl) (by kernel_rfl) (by kernel_rfl) (fun _ _ _ h => h) (Or.inl ⟨by rfl, ?_⟩) (by with_reducible assumption) ?_
      rotate_left
      focus (intro wS hSw; (try dsimp only at hSw); go_simp <;> with_reducible rfl)
      try go_frame
      refine wpAnyH_ready (rs := [19]) (by kernel_rfl) (by simp) ?_
      refine AllReadyH.cons (i := 19) (o := { dst := some 92, op := Op.call { callee := Callee.value (Operand.func 30), args := #[Operand.tmp 91], argTypes := #[60] }, type := 61, pos := "law.go:55", after := #[{ on := 18, ground := Ground.data }, { on := 17, ground := Ground.chain }, { on := 17, ground := Ground.guard }], guard := some (17, false) }) rfl (fun K hK => ?_) AllReadyH.nil
      go_simp
      go_at_call 30
      refine (bytes_any HE4.out.2.2 HLr.out HW2.out.2).mono ?_
      rintro e x4 ⟨u4, rfl, ho4, hb4⟩
      have HU4 := Lib.hid (show KL .u8 x4 u4 b from by have h := ho4; rw [HW2.out.1] at h; exact kl_own rfl h)
      have HE5 := Lib.hid (HE4.out.keep hb4)
      clear HE4 hb4 ho4
      refine hK.out _ _ trivial (fun hHeld => ?_)
      clear hK K
      try go_frame
      refine wpAnyH_ready (rs := [21]) (by kernel_rfl) (by simp) ?_
      refine AllReadyH.cons (i := 21) (o := { dst := some 94, op := Op.call { callee := Callee.value (Operand.func 33), args := #[Operand.tmp 92, Operand.tmp 93], argTypes := #[61, 61] }, type := 4, pos := "law.go:55", after := #[{ on := 19, ground := Ground.data }, { on := 20, ground := Ground.data }, { on := 19, ground := Ground.chain }, { on := 17, ground := Ground.guard }], guard := some (17, false) }) rfl (fun K hK => ?_) AllReadyH.nil
      go_simp
      go_at_call 33
      refine (rsame_any HU4.out HE5.out.2.1 (by omega)).mono ?_
      rintro e x5 ⟨rfl, hb5⟩
      have HE6 := Lib.hid (HE5.out.keep hb5)
      clear HE5 hb5 HU4
      refine hK.out _ _ trivial (fun hHeld => ?_)
      clear hK K
      try go_frame
      refine wpAnyH_take (i := 22) (oi := { dst := some 95, op := Op.pick (Operand.tmp 90) (Operand.const (Value.bool true)) (Operand.tmp 94), type := 4, pos := "law.go:55", after := #[{ on := 17, ground := Ground.data }, { on := 21, ground := Ground.data }, { on := 14, ground := Ground.guard }], guard := some (14, true) }) (v := ?_) rfl (by kernel_rfl) (by kernel_rfl) (by kernel_rfl) (fun _ _ _ h => h) (Or.inl ⟨by rfl, ?_⟩) (by with_reducible assumption) ?_
      rotate_left
      focus (intro wS hSw; (try dsimp only at hSw); go_simp <;> with_reducible rfl)
      try go_frame
      refine wpAnyH_take (i := 23) (oi := { dst := some 96, op := Op.pick (Operand.tmp 87) (Operand.tmp 95) (Operand.const (Value.bool false)), type := 4, pos := "law.go:55", after := #[{ on := 14, ground := Ground.data }, { on := 22, ground := Ground.data }], guard := none }) (v := ?_) rfl (by kernel_rfl) (by kernel_rfl) (by kernel_rfl) (fun _ _ _ h => h) (Or.inl ⟨by rfl, ?_⟩) (by with_reducible assumption) ?_
      rotate_left
      focus (intro wS hSw; (try dsimp only at hSw); go_simp <;> with_reducible rfl)
      try go_frame
      refine wpAnyH_take (i := 24) (oi := { dst := some 2, op := Op.assign (Operand.tmp 96), type := 4, pos := "law.go:55", after := #[{ on := 23, ground := Ground.data }, { on := 21, ground := Ground.chain }, { on := 0, ground := Ground.phase }, { on := 1, ground := Ground.phase }, { on := 2, ground := Ground.phase }, { on := 3, ground := Ground.phase }, { on := 4, ground := Ground.phase }, { on := 5, ground := Ground.phase }, { on := 6, ground := Ground.phase }, { on := 7, ground := Ground.phase }, { on := 8, ground := Ground.phase }, { on := 9, ground := Ground.phase }, { on := 10, ground := Ground.phase }, { on := 11, ground := Ground.phase }, { on := 12, ground := Ground.phase }, { on := 13, ground := Ground.phase }, { on := 14, ground := Ground.phase }, { on := 15, ground := Ground.phase }, { on := 16, ground := Ground.phase }, { on := 17, ground := Ground.phase }, { on := 18, ground := Ground.phase }, { on := 19, ground := Ground.phase }, { on := 20, ground := Ground.phase }, { on := 21, ground := Ground.phase }, { on := 22, ground := Ground.phase }, { on := 23, ground := Ground.phase }], guard := none }) (v := ?_) rfl (by kernel_rfl) (by kernel_rfl) (by kernel_rfl) (fun _ _ _ h => h) (Or.inl ⟨by rfl, ?_⟩) (by with_reducible assumption) ?_
      rotate_left
      focus (intro wS hSw; (try dsimp only at hSw); go_simp <;> with_reducible rfl)
      try go_frame
      refine wpAnyH_done (by kernel_rfl) ?_ _
      go_wp2_with fail
      go_ret
      exact ⟨by simp, HE6.out.1⟩
    · have hfz : ¬ (f : Int) = 0 := by omega
      have hf1 : ((f : Int) == 0) = false := beq_eq_false_iff_ne.2 hfz
      have hf2 : ((f : Int) != 0) = true := by simp [bne, hf1]
      clear HOw
      refine wp_region_held_drew (S := fun _ => True) (by kernel_rfl) trivial (fun hHeld => ?_)
      refine wpAnyH_ready (rs := [0]) (by kernel_rfl) (by simp) ?_
      refine AllReadyH.cons (i := 0) (o := { dst := some 73, op := Op.call { callee := Callee.value (Operand.func 32), args := #[], argTypes := #[] }, type := 4, pos := "law.go:55", after := #[], guard := none }) rfl (fun K hK => ?_) AllReadyH.nil
      go_simp
      go_at_call 32
      refine (known7_yes _).mono ?_
      rintro e x1 ⟨rfl, hb1⟩
      have HE1 := Lib.hid (HD.out.keep hb1)
      clear HD hb1
      refine hK.out _ _ trivial (fun hHeld => ?_)
      clear hK K
      try go_frame
      refine wpAnyH_take (i := 1) (oi := { dst := some 74, op := Op.move (Operand.tmp 73), type := 4, pos := "law.go:55", after := #[{ on := 0, ground := Ground.data }, { on := 0, ground := Ground.chain }], guard := none }) (v := ?_) rfl (by kernel_rfl) (by kernel_rfl) (by kernel_rfl) (fun _ _ _ h => h) (Or.inl ⟨by rfl, ?_⟩) (by with_reducible assumption) ?_
      rotate_left
      focus (intro wS hSw; (try dsimp only at hSw); go_simp <;> with_reducible rfl)
      try go_frame
      refine wpAnyH_take (i := 2) (oi := { dst := some 75, op := Op.move (Operand.tmp 5), type := 65, pos := "law.go:55", after := #[{ on := 1, ground := Ground.guard }], guard := some (1, true) }) (v := ?_) rfl (by kernel_rfl) (by kernel_rfl) (by kernel_rfl) (fun _ _ _ h => h) (Or.inl ⟨by rfl, ?_⟩) (by with_reducible assumption) ?_
      rotate_left
      focus (intro wS hSw; (try dsimp only at hSw); go_simp <;> with_reducible rfl)
      try go_frame
      refine wpAnyH_take (i := 3) (oi := { dst := some 76, op := Op.binOp BinOp.neq 65 (Operand.tmp 75) (Operand.const (Value.int IntKind.i64 0)) 65, type := 4, pos := "law.go:55", after := #[{ on := 2, ground := Ground.data }, { on := 1, ground := Ground.guard }], guard := some (1, true) }) (v := ?_) rfl (by kernel_rfl) (by kernel_rfl) (by kernel_rfl) (fun _ _ _ h => h) (Or.inl ⟨by rfl, ?_⟩) (by with_reducible assumption) ?_
      rotate_left
      focus (intro wS hSw; (try dsimp only at hSw); go_simp <;> with_reducible rfl)
      try go_frame
      refine wpAnyH_take (i := 4) (oi := { dst := some 77, op := Op.move (Operand.tmp 76), type := 4, pos := "law.go:55", after := #[{ on := 3, ground := Ground.data }, { on := 1, ground := Ground.chain }, { on := 1, ground := Ground.guard }], guard := some (1, true) }) (v := ?_) rfl (by kernel_rfl) (by kernel_rfl) (by kernel_rfl) (fun _ _ _ h => h) (Or.inl ⟨by rfl, ?_⟩) (by with_reducible assumption) ?_
      rotate_left
      focus (intro wS hSw; (try dsimp only at hSw); go_simp <;> with_reducible rfl)
      try go_frame
      refine wpAnyH_take (i := 5) (oi := { dst := some 78, op := Op.move (Operand.tmp 3), type := 43, pos := "law.go:55", after := #[{ on := 4, ground := Ground.guard }], guard := some (4, false) }) (v := ?_) rfl (by kernel_rfl) (by kernel_rfl) (by kernel_rfl) (fun _ _ _ h => h) (Or.inl ⟨by rfl, ?_⟩) (by with_reducible assumption) ?_
      rotate_left
      focus (intro wS hSw; (try dsimp only at hSw); go_simp <;> with_reducible rfl)
      try go_frame
      refine wpAnyH_take (i := 8) (oi := { dst := some 81, op := Op.move (Operand.tmp 0), type := 61, pos := "law.go:55", after := #[{ on := 4, ground := Ground.guard }], guard := some (4, false) }) (v := ?_) rfl (by kernel_rfl) (by kernel_rfl) (by kernel_rfl) (fun _ _ _ h => h) (Or.inl ⟨by rfl, ?_⟩) (by with_reducible assumption) ?_
      rotate_left
      focus (intro wS hSw; (try dsimp only at hSw); go_simp <;> with_reducible rfl)
      try go_frame
      refine wpAnyH_take (i := 9) (oi := { dst := some 82, op := Op.move (Operand.tmp 7), type := 3, pos := "law.go:55", after := #[{ on := 4, ground := Ground.guard }], guard := some (4, false) }) (v := ?_) rfl (by kernel_rfl) (by kernel_rfl) (by kernel_rfl) (fun _ _ _ h => h) (Or.inl ⟨by rfl, ?_⟩) (by with_reducible assumption) ?_
      rotate_left
      focus (intro wS hSw; (try dsimp only at hSw); go_simp <;> with_reducible rfl)
      try go_frame
      refine wpAnyH_take (i := 10) (oi := { dst := some 83, op := Op.slice 61 (Operand.tmp 81) none (some (Operand.tmp 82)) none, type := 61, pos := "law.go:55", after := #[{ on := 8, ground := Ground.data }, { on := 9, ground := Ground.data }, { on := 4, ground := Ground.guard }], guard := some (4, false) }) (v := ?_) rfl (by kernel_rfl) (by kernel_rfl) (by kernel_rfl) (fun _ _ _ h => h) (Or.inl ⟨by rfl, ?_⟩) (by with_reducible assumption) ?_
      rotate_left
      focus (intro wS hSw; (try dsimp only at hSw); go_simp <;> with_reducible rfl)
      try go_frame
      refine wpAnyH_ready (rs := [6]) (by kernel_rfl) (by simp) ?_
      refine AllReadyH.cons (i := 6) (o := { dst := some 79, op := Op.buildSlice 60 1 #[(0, Operand.tmp 78)], type := 60, pos := "law.go:55", after := #[{ on := 5, ground := Ground.data }, { on := 4, ground := Ground.guard }], guard := some (4, false) }) rfl (fun K hK => ?_) AllReadyH.nil
      go_simp
      have HE2 := Lib.hid (HE1.out.keep (below_alloc x1 (.cells #[.int .u64 (n : Int)] 43)))
      refine hK.out _ _ trivial (fun hHeld => ?_)
      clear hK K
      try go_frame
      refine wpAnyH_ready (rs := [7]) (by kernel_rfl) (by simp) ?_
      refine AllReadyH.cons (i := 7) (o := { dst := some 80, op := Op.call { callee := Callee.value (Operand.func 30), args := #[Operand.tmp 79], argTypes := #[60] }, type := 61, pos := "law.go:55", after := #[{ on := 6, ground := Ground.data }, { on := 4, ground := Ground.chain }, { on := 4, ground := Ground.guard }], guard := some (4, false) }) rfl (fun K hK => ?_) AllReadyH.nil
      go_simp
      go_at_call 30
      refine (bytes_any (kl_lit .u64 x1 43 [n] (cs := #[.int .u64 (n : Int)]) rfl (by show 1 ≤ 1000; omega) (n := 1) rfl) (by show 1 ≤ 1000; omega) (by intro y hy; rw [List.mem_singleton] at hy; subst hy; exact HO2.out.2.2.2)).mono ?_
      rintro e x2 ⟨u2, rfl, ho2, hb2⟩
      have HU2 := Lib.hid (show KL .u8 x2 u2 (nb n) from by have h := ho2; rw [show bys [n] = nb n from by simp [bys]] at h; exact kl_own rfl h)
      have HE3 := Lib.hid (HE2.out.keep hb2)
      clear HE2 hb2 ho2
      refine hK.out _ _ trivial (fun hHeld => ?_)
      clear hK K
      try go_frame
      refine wpAnyH_ready (rs := [11]) (by kernel_rfl) (by simp) ?_
      refine AllReadyH.cons (i := 11) (o := { dst := some 84, op := Op.call { callee := Callee.value (Operand.func 33), args := #[Operand.tmp 80, Operand.tmp 83], argTypes := #[61, 61] }, type := 4, pos := "law.go:55", after := #[{ on := 7, ground := Ground.data }, { on := 10, ground := Ground.data }, { on := 7, ground := Ground.chain }, { on := 4, ground := Ground.guard }], guard := some (4, false) }) rfl (fun K hK => ?_) AllReadyH.nil
      go_simp
      go_at_call 33
      refine (rsame_any (L := b.take k) (by rw [← HO2.out.2.2.1]; exact HU2.out) (HE3.out.2.1.take HO2.out.2.1) (by rw [List.length_take]; omega)).mono ?_
      rintro e x3 ⟨rfl, hb3⟩
      have HE4 := Lib.hid (HE3.out.keep hb3)
      clear HE3 hb3 HU2
      refine hK.out _ _ trivial (fun hHeld => ?_)
      clear hK K
      try go_frame
      refine wpAnyH_take (i := 12) (oi := { dst := some 85, op := Op.pick (Operand.tmp 77) (Operand.const (Value.bool true)) (Operand.tmp 84), type := 4, pos := "law.go:55", after := #[{ on := 4, ground := Ground.data }, { on := 11, ground := Ground.data }, { on := 1, ground := Ground.guard }], guard := some (1, true) }) (v := ?_) rfl (by kernel_rfl) (by kernel_rfl) (by kernel_rfl) (fun _ _ _ h => h) (Or.inl ⟨by rfl, ?_⟩) (by with_reducible assumption) ?_
      rotate_left
      focus (intro wS hSw; (try dsimp only at hSw); go_simp <;> with_reducible rfl)
      try go_frame
      refine wpAnyH_take (i := 13) (oi := { dst := some 86, op := Op.pick (Operand.tmp 74) (Operand.tmp 85) (Operand.const (Value.bool false)), type := 4, pos := "law.go:55", after := #[{ on := 1, ground := Ground.data }, { on := 12, ground := Ground.data }], guard := none }) (v := ?_) rfl (by kernel_rfl) (by kernel_rfl) (by kernel_rfl) (fun _ _ _ h => h) (Or.inl ⟨by rfl, ?_⟩) (by with_reducible assumption) ?_
      rotate_left
      focus (intro wS hSw; (try dsimp only at hSw); go_simp <;> with_reducible rfl)
      try go_frame
      refine wpAnyH_take (i := 14) (oi := { dst := some 87, op := Op.move (Operand.tmp 86), type := 4, pos := "law.go:55", after := #[{ on := 13, ground := Ground.data }, { on := 11, ground := Ground.chain }], guard := none }) (v := ?_) rfl (by kernel_rfl) (by kernel_rfl) (by kernel_rfl) (fun _ _ _ h => h) (Or.inl ⟨by rfl, ?_⟩) (by with_reducible assumption) ?_
      rotate_left
      focus (intro wS hSw; (try dsimp only at hSw); go_simp <;> with_reducible rfl)
      try go_frame
      refine wpAnyH_take (i := 15) (oi := { dst := some 88, op := Op.move (Operand.tmp 11), type := 65, pos := "law.go:55", after := #[{ on := 14, ground := Ground.guard }], guard := some (14, true) }) (v := ?_) rfl (by kernel_rfl) (by kernel_rfl) (by kernel_rfl) (fun _ _ _ h => h) (Or.inl ⟨by rfl, ?_⟩) (by with_reducible assumption) ?_
      rotate_left
      focus (intro wS hSw; (try dsimp only at hSw); go_simp <;> with_reducible rfl)
      try go_frame
      refine wpAnyH_take (i := 16) (oi := { dst := some 89, op := Op.binOp BinOp.neq 65 (Operand.tmp 88) (Operand.const (Value.int IntKind.i64 0)) 65, type := 4, pos := "law.go:55", after := #[{ on := 15, ground := Ground.data }, { on := 14, ground := Ground.guard }], guard := some (14, true) }) (v := ?_) rfl (by kernel_rfl) (by kernel_rfl) (by kernel_rfl) (fun _ _ _ h => h) (Or.inl ⟨by rfl, ?_⟩) (by with_reducible assumption) ?_
      rotate_left
      focus (intro wS hSw; (try dsimp only at hSw); go_simp <;> with_reducible rfl)
      try go_frame
      refine wpAnyH_take (i := 17) (oi := { dst := some 90, op := Op.move (Operand.tmp 89), type := 4, pos := "law.go:55", after := #[{ on := 16, ground := Ground.data }, { on := 14, ground := Ground.chain }, { on := 14, ground := Ground.guard }], guard := some (14, true) }) (v := ?_) rfl (by kernel_rfl) (by kernel_rfl) (by kernel_rfl) (fun _ _ _ h => h) (Or.inl ⟨by rfl, ?_⟩) (by with_reducible assumption) ?_
      rotate_left
      focus (intro wS hSw; (try dsimp only at hSw); go_simp <;> with_reducible rfl)
      try go_frame
      refine wpAnyH_take (i := 18) (oi := { dst := some 91, op := Op.move (Operand.tmp 9), type := 60, pos := "law.go:55", after := #[{ on := 17, ground := Ground.guard }], guard := some (17, false) }) (v := undef) rfl (by kernel_rfl) (by kernel_rfl) (by kernel_rfl) (fun _ _ _ h => h) (Or.inr ⟨by rfl, rfl⟩) (by with_reducible assumption) ?_
      try go_frame
      refine wpAnyH_take (i := 19) (oi := { dst := some 92, op := Op.call { callee := Callee.value (Operand.func 30), args := #[Operand.tmp 91], argTypes := #[60] }, type := 61, pos := "law.go:55", after := #[{ on := 18, ground := Ground.data }, { on := 17, ground := Ground.chain }, { on := 17, ground := Ground.guard }], guard := some (17, false) }) (v := undef) rfl (by kernel_rfl) (by kernel_rfl) (by kernel_rfl) (fun _ _ _ h => h) (Or.inr ⟨by rfl, rfl⟩) (by with_reducible assumption) ?_
      try go_frame
      refine wpAnyH_take (i := 20) (oi := { dst := some 93, op := Op.move (Operand.tmp 0), type := 61, pos := "law.go:55", after := #[{ on := 17, ground := Ground.guard }], guard := some (17, false) }) (v := undef) rfl (by kernel_rfl) (by kernel_rfl) (by kernel_rfl) (fun _ _ _ h => h) (Or.inr ⟨by rfl, rfl⟩) (by with_reducible assumption) ?_
      try go_frame
      refine wpAnyH_take (i := 21) (oi := { dst := some 94, op := Op.call { callee := Callee.value (Operand.func 33), args := #[Operand.tmp 92, Operand.tmp 93], argTypes := #[61, 61] }, type := 4, pos := "law.go:55", after := #[{ on := 19, ground := Ground.data }, { on := 20, ground := Ground.data }, { on := 19, ground := Ground.chain }, { on := 17, ground := Ground.guard }], guard := some (17, false) }) (v := undef) rfl (by kernel_rfl) (by kernel_rfl) (by kernel_rfl) (fun _ _ _ h => h) (Or.inr ⟨by rfl, rfl⟩) (by with_reducible assumption) ?_
      try go_frame
      refine wpAnyH_take (i := 22) (oi := { dst := some 95, op := Op.pick (Operand.tmp 90) (Operand.const (Value.bool true)) (Operand.tmp 94), type := 4, pos := "law.go:55", after := #[{ on := 17, ground := Ground.data }, { on := 21, ground := Ground.data }, { on := 14, ground := Ground.guard }], guard := some (14, true) }) (v := ?_) rfl (by kernel_rfl) (by kernel_rfl) (by kernel_rfl) (fun _ _ _ h => h) (Or.inl ⟨by rfl, ?_⟩) (by with_reducible assumption) ?_
      rotate_left
      focus (intro wS hSw; (try dsimp only at hSw); go_simp <;> with_reducible rfl)
      try go_frame
      refine wpAnyH_take (i := 23) (oi := { dst := some 96, op := Op.pick (Operand.tmp 87) (Operand.tmp 95) (Operand.const (Value.bool false)), type := 4, pos := "law.go:55", after := #[{ on := 14, ground := Ground.data }, { on := 22, ground := Ground.data }], guard := none }) (v := ?_) rfl (by kernel_rfl) (by kernel_rfl) (by kernel_rfl) (fun _ _ _ h => h) (Or.inl ⟨by rfl, ?_⟩) (by with_reducible assumption) ?_
      rotate_left
      focus (intro wS hSw; (try dsimp only at hSw); go_simp <;> with_reducible rfl)
      try go_frame
      refine wpAnyH_take (i := 24) (oi := { dst := some 2, op := Op.assign (Operand.tmp 96), type := 4, pos := "law.go:55", after := #[{ on := 23, ground := Ground.data }, { on := 21, ground := Ground.chain }, { on := 0, ground := Ground.phase }, { on := 1, ground := Ground.phase }, { on := 2, ground := Ground.phase }, { on := 3, ground := Ground.phase }, { on := 4, ground := Ground.phase }, { on := 5, ground := Ground.phase }, { on := 6, ground := Ground.phase }, { on := 7, ground := Ground.phase }, { on := 8, ground := Ground.phase }, { on := 9, ground := Ground.phase }, { on := 10, ground := Ground.phase }, { on := 11, ground := Ground.phase }, { on := 12, ground := Ground.phase }, { on := 13, ground := Ground.phase }, { on := 14, ground := Ground.phase }, { on := 15, ground := Ground.phase }, { on := 16, ground := Ground.phase }, { on := 17, ground := Ground.phase }, { on := 18, ground := Ground.phase }, { on := 19, ground := Ground.phase }, { on := 20, ground := Ground.phase }, { on := 21, ground := Ground.phase }, { on := 22, ground := Ground.phase }, { on := 23, ground := Ground.phase }], guard := none }) (v := ?_) rfl (by kernel_rfl) (by kernel_rfl) (by kernel_rfl) (fun _ _ _ h => h) (Or.inl ⟨by rfl, ?_⟩) (by with_reducible assumption) ?_
      rotate_left
      focus (intro wS hSw; (try dsimp only at hSw); go_simp <;> with_reducible rfl)
      try go_frame
      refine wpAnyH_done (by kernel_rfl) ?_ _
      go_wp2_with fail
      go_ret
      exact ⟨by simp, HE4.out.1⟩
  · have hez : ¬ (e : Int) = 0 := by omega
    have he1 : ((e : Int) == 0) = false := beq_eq_false_iff_ne.2 hez
    have he2 : ((e : Int) != 0) = true := by simp [bne, he1]
    clear HOk
    by_cases hf : f = 0
    · subst hf
      have HW2 := Lib.hid (HOw.out rfl)
      clear HOw
      refine wp_region_held_drew (S := fun _ => True) (by kernel_rfl) trivial (fun hHeld => ?_)
      refine wpAnyH_ready (rs := [0]) (by kernel_rfl) (by simp) ?_
      refine AllReadyH.cons (i := 0) (o := { dst := some 73, op := Op.call { callee := Callee.value (Operand.func 32), args := #[], argTypes := #[] }, type := 4, pos := "law.go:55", after := #[], guard := none }) rfl (fun K hK => ?_) AllReadyH.nil
      go_simp
      go_at_call 32
      refine (known7_yes _).mono ?_
      rintro e x1 ⟨rfl, hb1⟩
      have HE1 := Lib.hid (HD.out.keep hb1)
      clear HD hb1
      refine hK.out _ _ trivial (fun hHeld => ?_)
      clear hK K
      try go_frame
      refine wpAnyH_take (i := 1) (oi := { dst := some 74, op := Op.move (Operand.tmp 73), type := 4, pos := "law.go:55", after := #[{ on := 0, ground := Ground.data }, { on := 0, ground := Ground.chain }], guard := none }) (v := ?_) rfl (by kernel_rfl) (by kernel_rfl) (by kernel_rfl) (fun _ _ _ h => h) (Or.inl ⟨by rfl, ?_⟩) (by with_reducible assumption) ?_
      rotate_left
      focus (intro wS hSw; (try dsimp only at hSw); go_simp <;> with_reducible rfl)
      try go_frame
      refine wpAnyH_take (i := 2) (oi := { dst := some 75, op := Op.move (Operand.tmp 5), type := 65, pos := "law.go:55", after := #[{ on := 1, ground := Ground.guard }], guard := some (1, true) }) (v := ?_) rfl (by kernel_rfl) (by kernel_rfl) (by kernel_rfl) (fun _ _ _ h => h) (Or.inl ⟨by rfl, ?_⟩) (by with_reducible assumption) ?_
      rotate_left
      focus (intro wS hSw; (try dsimp only at hSw); go_simp <;> with_reducible rfl)
      try go_frame
      refine wpAnyH_take (i := 3) (oi := { dst := some 76, op := Op.binOp BinOp.neq 65 (Operand.tmp 75) (Operand.const (Value.int IntKind.i64 0)) 65, type := 4, pos := "law.go:55", after := #[{ on := 2, ground := Ground.data }, { on := 1, ground := Ground.guard }], guard := some (1, true) }) (v := ?_) rfl (by kernel_rfl) (by kernel_rfl) (by kernel_rfl) (fun _ _ _ h => h) (Or.inl ⟨by rfl, ?_⟩) (by with_reducible assumption) ?_
      rotate_left
      focus (intro wS hSw; (try dsimp only at hSw); go_simp <;> with_reducible rfl)
      try go_frame
      refine wpAnyH_take (i := 4) (oi := { dst := some 77, op := Op.move (Operand.tmp 76), type := 4, pos := "law.go:55", after := #[{ on := 3, ground := Ground.data }, { on := 1, ground := Ground.chain }, { on := 1, ground := Ground.guard }], guard := some (1, true) }) (v := ?_) rfl (by kernel_rfl) (by kernel_rfl) (by kernel_rfl) (fun _ _ _ h => h) (Or.inl ⟨by rfl, ?_⟩) (by with_reducible assumption) ?_
      rotate_left
      focus (intro wS hSw; (try dsimp only at hSw); go_simp <;> with_reducible rfl)
      try go_frame
      refine wpAnyH_take (i := 5) (oi := { dst := some 78, op := Op.move (Operand.tmp 3), type := 43, pos := "law.go:55", after := #[{ on := 4, ground := Ground.guard }], guard := some (4, false) }) (v := undef) rfl (by kernel_rfl) (by kernel_rfl) (by kernel_rfl) (fun _ _ _ h => h) (Or.inr ⟨by rfl, rfl⟩) (by with_reducible assumption) ?_
      try go_frame
      refine wpAnyH_take (i := 6) (oi := { dst := some 79, op := Op.buildSlice 60 1 #[(0, Operand.tmp 78)], type := 60, pos := "law.go:55", after := #[{ on := 5, ground := Ground.data }, { on := 4, ground := Ground.guard }], guard := some (4, false) }) (v := undef) rfl (by kernel_rfl) (by kernel_rfl) (by kernel_rfl) (fun _ _ _ h => h) (Or.inr ⟨by rfl, rfl⟩) (by with_reducible assumption) ?_
      try go_frame
      refine wpAnyH_take (i := 7) (oi := { dst := some 80, op := Op.call { callee := Callee.value (Operand.func 30), args := #[Operand.tmp 79], argTypes := #[60] }, type := 61, pos := "law.go:55", after := #[{ on := 6, ground := Ground.data }, { on := 4, ground := Ground.chain }, { on := 4, ground := Ground.guard }], guard := some (4, false) }) (v := undef) rfl (by kernel_rfl) (by kernel_rfl) (by kernel_rfl) (fun _ _ _ h => h) (Or.inr ⟨by rfl, rfl⟩) (by with_reducible assumption) ?_
      try go_frame
      refine wpAnyH_take (i := 8) (oi := { dst := some 81, op := Op.move (Operand.tmp 0), type := 61, pos := "law.go:55", after := #[{ on := 4, ground := Ground.guard }], guard := some (4, false) }) (v := undef) rfl (by kernel_rfl) (by kernel_rfl) (by kernel_rfl) (fun _ _ _ h => h) (Or.inr ⟨by rfl, rfl⟩) (by with_reducible assumption) ?_
      try go_frame
      refine wpAnyH_take (i := 9) (oi := { dst := some 82, op := Op.move (Operand.tmp 7), type := 3, pos := "law.go:55", after := #[{ on := 4, ground := Ground.guard }], guard := some (4, false) }) (v := undef) rfl (by kernel_rfl) (by kernel_rfl) (by kernel_rfl) (fun _ _ _ h => h) (Or.inr ⟨by rfl, rfl⟩) (by with_reducible assumption) ?_
      try go_frame
      refine wpAnyH_take (i := 10) (oi := { dst := some 83, op := Op.slice 61 (Operand.tmp 81) none (some (Operand.tmp 82)) none, type := 61, pos := "law.go:55", after := #[{ on := 8, ground := Ground.data }, { on := 9, ground := Ground.data }, { on := 4, ground := Ground.guard }], guard := some (4, false) }) (v := undef) rfl (by kernel_rfl) (by kernel_rfl) (by kernel_rfl) (fun _ _ _ h => h) (Or.inr ⟨by rfl, rfl⟩) (by with_reducible assumption) ?_
      try go_frame
      refine wpAnyH_take (i := 11) (oi := { dst := some 84, op := Op.call { callee := Callee.value (Operand.func 33), args := #[Operand.tmp 80, Operand.tmp 83], argTypes := #[61, 61] }, type := 4, pos := "law.go:55", after := #[{ on := 7, ground := Ground.data }, { on := 10, ground := Ground.data }, { on := 7, ground := Ground.chain }, { on := 4, ground := Ground.guard }], guard := some (4, false) }) (v := undef) rfl (by kernel_rfl) (by kernel_rfl) (by kernel_rfl) (fun _ _ _ h => h) (Or.inr ⟨by rfl, rfl⟩) (by with_reducible assumption) ?_
      try go_frame
      refine wpAnyH_take (i := 12) (oi := { dst := some 85, op := Op.pick (Operand.tmp 77) (Operand.const (Value.bool true)) (Operand.tmp 84), type := 4, pos := "law.go:55", after := #[{ on := 4, ground := Ground.data }, { on := 11, ground := Ground.data }, { on := 1, ground := Ground.guard }], guard := some (1, true) }) (v := ?_) rfl (by kernel_rfl) (by kernel_rfl) (by kernel_rfl) (fun _ _ _ h => h) (Or.inl ⟨by rfl, ?_⟩) (by with_reducible assumption) ?_
      rotate_left
      focus (intro wS hSw; (try dsimp only at hSw); go_simp <;> with_reducible rfl)
      try go_frame
      refine wpAnyH_take (i := 13) (oi := { dst := some 86, op := Op.pick (Operand.tmp 74) (Operand.tmp 85) (Operand.const (Value.bool false)), type := 4, pos := "law.go:55", after := #[{ on := 1, ground := Ground.data }, { on := 12, ground := Ground.data }], guard := none }) (v := ?_) rfl (by kernel_rfl) (by kernel_rfl) (by kernel_rfl) (fun _ _ _ h => h) (Or.inl ⟨by rfl, ?_⟩) (by with_reducible assumption) ?_
      rotate_left
      focus (intro wS hSw; (try dsimp only at hSw); go_simp <;> with_reducible rfl)
      try go_frame
      refine wpAnyH_take (i := 14) (oi := { dst := some 87, op := Op.move (Operand.tmp 86), type := 4, pos := "law.go:55", after := #[{ on := 13, ground := Ground.data }, { on := 11, ground := Ground.chain }], guard := none }) (v := ?_) rfl (by kernel_rfl) (by kernel_rfl) (by kernel_rfl) (fun _ _ _ h => h) (Or.inl ⟨by rfl, ?_⟩) (by with_reducible assumption) ?_
      rotate_left
      focus (intro wS hSw; (try dsimp only at hSw); go_simp <;> with_reducible rfl)
      try go_frame
      refine wpAnyH_take (i := 15) (oi := { dst := some 88, op := Op.move (Operand.tmp 11), type := 65, pos := "law.go:55", after := #[{ on := 14, ground := Ground.guard }], guard := some (14, true) }) (v := ?_) rfl (by kernel_rfl) (by kernel_rfl) (by kernel_rfl) (fun _ _ _ h => h) (Or.inl ⟨by rfl, ?_⟩) (by with_reducible assumption) ?_
      rotate_left
      focus (intro wS hSw; (try dsimp only at hSw); go_simp <;> with_reducible rfl)
      try go_frame
      refine wpAnyH_take (i := 16) (oi := { dst := some 89, op := Op.binOp BinOp.neq 65 (Operand.tmp 88) (Operand.const (Value.int IntKind.i64 0)) 65, type := 4, pos := "law.go:55", after := #[{ on := 15, ground := Ground.data }, { on := 14, ground := Ground.guard }], guard := some (14, true) }) (v := ?_) rfl (by kernel_rfl) (by kernel_rfl) (by kernel_rfl) (fun _ _ _ h => h) (Or.inl ⟨by rfl, ?_⟩) (by with_reducible assumption) ?_
      rotate_left
      focus (intro wS hSw; (try dsimp only at hSw); go_simp <;> with_reducible rfl)
      try go_frame
      refine wpAnyH_take (i := 17) (oi := { dst := some 90, op := Op.move (Operand.tmp 89), type := 4, pos := "law.go:55", after := #[{ on := 16, ground := Ground.data }, { on := 14, ground := Ground.chain }, { on := 14, ground := Ground.guard }], guard := some (14, true) }) (v := ?_) rfl (by kernel_rfl) (by kernel_rfl) (by kernel_rfl) (fun _ _ _ h => h) (Or.inl ⟨by rfl, ?_⟩) (by with_reducible assumption) ?_
      rotate_left
      focus (intro wS hSw; (try dsimp only at hSw); go_simp <;> with_reducible rfl)
      try go_frame
      refine wpAnyH_take (i := 18) (oi := { dst := some 91, op := Op.move (Operand.tmp 9), type := 60, pos := "law.go:55", after := #[{ on := 17, ground := Ground.guard }], guard := some (17, false) }) (v := ?_) rfl (by kernel_rfl) (by kernel_rfl) (by kernel_rfl) (fun _ _ _ h => h) (Or.inl ⟨by rfl, ?_⟩) (by with_reducible assumption) ?_
      rotate_left
      focus (intro wS hSw; (try dsimp only at hSw); go_simp <;> with_reducible rfl)
      try go_frame
      refine wpAnyH_take (i := 20) (oi := { dst := some 93, op := Op.move (Operand.tmp 0), type := 61, pos := "law.go:55", after := #[{ on := 17, ground := Ground.guard }], guard := some (17, false) }) (v := ?_) rfl (by kernel_rfl) (by kernel_rfl) (by kernel_rfl) (fun _ _ _ h => h) (Or.inl ⟨by rfl, ?_⟩) (by with_reducible assumption) ?_
      rotate_left
      focus (intro wS hSw; (try dsimp only at hSw); go_simp <;> with_reducible rfl)
      try go_frame
      refine wpAnyH_ready (rs := [19]) (by kernel_rfl) (by simp) ?_
      refine AllReadyH.cons (i := 19) (o := { dst := some 92, op := Op.call { callee := Callee.value (Operand.func 30), args := #[Operand.tmp 91], argTypes := #[60] }, type := 61, pos := "law.go:55", after := #[{ on := 18, ground := Ground.data }, { on := 17, ground := Ground.chain }, { on := 17, ground := Ground.guard }], guard := some (17, false) }) rfl (fun K hK => ?_) AllReadyH.nil
      go_simp
      go_at_call 30
      refine (bytes_any HE1.out.2.2 HLr.out HW2.out.2).mono ?_
      rintro e x4 ⟨u4, rfl, ho4, hb4⟩
      have HU4 := Lib.hid (show KL .u8 x4 u4 b from by have h := ho4; rw [HW2.out.1] at h; exact kl_own rfl h)
      have HE2 := Lib.hid (HE1.out.keep hb4)
      clear HE1 hb4 ho4
      refine hK.out _ _ trivial (fun hHeld => ?_)
      clear hK K
      try go_frame
      refine wpAnyH_ready (rs := [21]) (by kernel_rfl) (by simp) ?_
      refine AllReadyH.cons (i := 21) (o := { dst := some 94, op := Op.call { callee := Callee.value (Operand.func 33), args := #[Operand.tmp 92, Operand.tmp 93], argTypes := #[61, 61] }, type := 4, pos := "law.go:55", after := #[{ on := 19, ground := Ground.data }, { on := 20, ground := Ground.data }, { on := 19, ground := Ground.chain }, { on := 17, ground := Ground.guard }], guard := some (17, false) }) rfl (fun K hK => ?_) AllReadyH.nil
      go_simp
      go_at_call 33
      refine (rsame_any HU4.out HE2.out.2.1 (by omega)).mono ?_
      rintro e x5 ⟨rfl, hb5⟩
      have HE3 := Lib.hid (HE2.out.keep hb5)
      clear HE2 hb5 HU4
      refine hK.out _ _ trivial (fun hHeld => ?_)
      clear hK K
      try go_frame
      refine wpAnyH_take (i := 22) (oi := { dst := some 95, op := Op.pick (Operand.tmp 90) (Operand.const (Value.bool true)) (Operand.tmp 94), type := 4, pos := "law.go:55", after := #[{ on := 17, ground := Ground.data }, { on := 21, ground := Ground.data }, { on := 14, ground := Ground.guard }], guard := some (14, true) }) (v := ?_) rfl (by kernel_rfl) (by kernel_rfl) (by kernel_rfl) (fun _ _ _ h => h) (Or.inl ⟨by rfl, ?_⟩) (by with_reducible assumption) ?_
      rotate_left
      focus (intro wS hSw; (try dsimp only at hSw); go_simp <;> with_reducible rfl)
      try go_frame
      refine wpAnyH_take (i := 23) (oi := { dst := some 96, op := Op.pick (Operand.tmp 87) (Operand.tmp 95) (Operand.const (Value.bool false)), type := 4, pos := "law.go:55", after := #[{ on := 14, ground := Ground.data }, { on := 22, ground := Ground.data }], guard := none }) (v := ?_) rfl (by kernel_rfl) (by kernel_rfl) (by kernel_rfl) (fun _ _ _ h => h) (Or.inl ⟨by rfl, ?_⟩) (by with_reducible assumption) ?_
      rotate_left
      focus (intro wS hSw; (try dsimp only at hSw); go_simp <;> with_reducible rfl)
      try go_frame
      refine wpAnyH_take (i := 24) (oi := { dst := some 2, op := Op.assign (Operand.tmp 96), type := 4, pos := "law.go:55", after := #[{ on := 23, ground := Ground.data }, { on := 21, ground := Ground.chain }, { on := 0, ground := Ground.phase }, { on := 1, ground := Ground.phase }, { on := 2, ground := Ground.phase }, { on := 3, ground := Ground.phase }, { on := 4, ground := Ground.phase }, { on := 5, ground := Ground.phase }, { on := 6, ground := Ground.phase }, { on := 7, ground := Ground.phase }, { on := 8, ground := Ground.phase }, { on := 9, ground := Ground.phase }, { on := 10, ground := Ground.phase }, { on := 11, ground := Ground.phase }, { on := 12, ground := Ground.phase }, { on := 13, ground := Ground.phase }, { on := 14, ground := Ground.phase }, { on := 15, ground := Ground.phase }, { on := 16, ground := Ground.phase }, { on := 17, ground := Ground.phase }, { on := 18, ground := Ground.phase }, { on := 19, ground := Ground.phase }, { on := 20, ground := Ground.phase }, { on := 21, ground := Ground.phase }, { on := 22, ground := Ground.phase }, { on := 23, ground := Ground.phase }], guard := none }) (v := ?_) rfl (by kernel_rfl) (by kernel_rfl) (by kernel_rfl) (fun _ _ _ h => h) (Or.inl ⟨by rfl, ?_⟩) (by with_reducible assumption) ?_
      rotate_left
      focus (intro wS hSw; (try dsimp only at hSw); go_simp <;> with_reducible rfl)
      try go_frame
      refine wpAnyH_done (by kernel_rfl) ?_ _
      go_wp2_with fail
      go_ret
      exact ⟨by simp, HE3.out.1⟩
    · have hfz : ¬ (f : Int) = 0 := by omega
      have hf1 : ((f : Int) == 0) = false := beq_eq_false_iff_ne.2 hfz
      have hf2 : ((f : Int) != 0) = true := by simp [bne, hf1]
      clear HOw
      refine wp_region_held_drew (S := fun _ => True) (by kernel_rfl) trivial (fun hHeld => ?_)
      refine wpAnyH_ready (rs := [0]) (by kernel_rfl) (by simp) ?_
      refine AllReadyH.cons (i := 0) (o := { dst := some 73, op := Op.call { callee := Callee.value (Operand.func 32), args := #[], argTypes := #[] }, type := 4, pos := "law.go:55", after := #[], guard := none }) rfl (fun K hK => ?_) AllReadyH.nil
      go_simp
      go_at_call 32
      refine (known7_yes _).mono ?_
      rintro e x1 ⟨rfl, hb1⟩
      have HE1 := Lib.hid (HD.out.keep hb1)
      clear HD hb1
      refine hK.out _ _ trivial (fun hHeld => ?_)
      clear hK K
      try go_frame
      refine wpAnyH_take (i := 1) (oi := { dst := some 74, op := Op.move (Operand.tmp 73), type := 4, pos := "law.go:55", after := #[{ on := 0, ground := Ground.data }, { on := 0, ground := Ground.chain }], guard := none }) (v := ?_) rfl (by kernel_rfl) (by kernel_rfl) (by kernel_rfl) (fun _ _ _ h => h) (Or.inl ⟨by rfl, ?_⟩) (by with_reducible assumption) ?_
      rotate_left
      focus (intro wS hSw; (try dsimp only at hSw); go_simp <;> with_reducible rfl)
      try go_frame
      refine wpAnyH_take (i := 2) (oi := { dst := some 75, op := Op.move (Operand.tmp 5), type := 65, pos := "law.go:55", after := #[{ on := 1, ground := Ground.guard }], guard := some (1, true) }) (v := ?_) rfl (by kernel_rfl) (by kernel_rfl) (by kernel_rfl) (fun _ _ _ h => h) (Or.inl ⟨by rfl, ?_⟩) (by with_reducible assumption) ?_
      rotate_left
      focus (intro wS hSw; (try dsimp only at hSw); go_simp <;> with_reducible rfl)
      try go_frame
      refine wpAnyH_take (i := 3) (oi := { dst := some 76, op := Op.binOp BinOp.neq 65 (Operand.tmp 75) (Operand.const (Value.int IntKind.i64 0)) 65, type := 4, pos := "law.go:55", after := #[{ on := 2, ground := Ground.data }, { on := 1, ground := Ground.guard }], guard := some (1, true) }) (v := ?_) rfl (by kernel_rfl) (by kernel_rfl) (by kernel_rfl) (fun _ _ _ h => h) (Or.inl ⟨by rfl, ?_⟩) (by with_reducible assumption) ?_
      rotate_left
      focus (intro wS hSw; (try dsimp only at hSw); go_simp <;> with_reducible rfl)
      try go_frame
      refine wpAnyH_take (i := 4) (oi := { dst := some 77, op := Op.move (Operand.tmp 76), type := 4, pos := "law.go:55", after := #[{ on := 3, ground := Ground.data }, { on := 1, ground := Ground.chain }, { on := 1, ground := Ground.guard }], guard := some (1, true) }) (v := ?_) rfl (by kernel_rfl) (by kernel_rfl) (by kernel_rfl) (fun _ _ _ h => h) (Or.inl ⟨by rfl, ?_⟩) (by with_reducible assumption) ?_
      rotate_left
      focus (intro wS hSw; (try dsimp only at hSw); go_simp <;> with_reducible rfl)
      try go_frame
      refine wpAnyH_take (i := 5) (oi := { dst := some 78, op := Op.move (Operand.tmp 3), type := 43, pos := "law.go:55", after := #[{ on := 4, ground := Ground.guard }], guard := some (4, false) }) (v := undef) rfl (by kernel_rfl) (by kernel_rfl) (by kernel_rfl) (fun _ _ _ h => h) (Or.inr ⟨by rfl, rfl⟩) (by with_reducible assumption) ?_
      try go_frame
      refine wpAnyH_take (i := 6) (oi := { dst := some 79, op := Op.buildSlice 60 1 #[(0, Operand.tmp 78)], type := 60, pos := "law.go:55", after := #[{ on := 5, ground := Ground.data }, { on := 4, ground := Ground.guard }], guard := some (4, false) }) (v := undef) rfl (by kernel_rfl) (by kernel_rfl) (by kernel_rfl) (fun _ _ _ h => h) (Or.inr ⟨by rfl, rfl⟩) (by with_reducible assumption) ?_
      try go_frame
      refine wpAnyH_take (i := 7) (oi := { dst := some 80, op := Op.call { callee := Callee.value (Operand.func 30), args := #[Operand.tmp 79], argTypes := #[60] }, type := 61, pos := "law.go:55", after := #[{ on := 6, ground := Ground.data }, { on := 4, ground := Ground.chain }, { on := 4, ground := Ground.guard }], guard := some (4, false) }) (v := undef) rfl (by kernel_rfl) (by kernel_rfl) (by kernel_rfl) (fun _ _ _ h => h) (Or.inr ⟨by rfl, rfl⟩) (by with_reducible assumption) ?_
      try go_frame
      refine wpAnyH_take (i := 8) (oi := { dst := some 81, op := Op.move (Operand.tmp 0), type := 61, pos := "law.go:55", after := #[{ on := 4, ground := Ground.guard }], guard := some (4, false) }) (v := undef) rfl (by kernel_rfl) (by kernel_rfl) (by kernel_rfl) (fun _ _ _ h => h) (Or.inr ⟨by rfl, rfl⟩) (by with_reducible assumption) ?_
      try go_frame
      refine wpAnyH_take (i := 9) (oi := { dst := some 82, op := Op.move (Operand.tmp 7), type := 3, pos := "law.go:55", after := #[{ on := 4, ground := Ground.guard }], guard := some (4, false) }) (v := undef) rfl (by kernel_rfl) (by kernel_rfl) (by kernel_rfl) (fun _ _ _ h => h) (Or.inr ⟨by rfl, rfl⟩) (by with_reducible assumption) ?_
      try go_frame
      refine wpAnyH_take (i := 10) (oi := { dst := some 83, op := Op.slice 61 (Operand.tmp 81) none (some (Operand.tmp 82)) none, type := 61, pos := "law.go:55", after := #[{ on := 8, ground := Ground.data }, { on := 9, ground := Ground.data }, { on := 4, ground := Ground.guard }], guard := some (4, false) }) (v := undef) rfl (by kernel_rfl) (by kernel_rfl) (by kernel_rfl) (fun _ _ _ h => h) (Or.inr ⟨by rfl, rfl⟩) (by with_reducible assumption) ?_
      try go_frame
      refine wpAnyH_take (i := 11) (oi := { dst := some 84, op := Op.call { callee := Callee.value (Operand.func 33), args := #[Operand.tmp 80, Operand.tmp 83], argTypes := #[61, 61] }, type := 4, pos := "law.go:55", after := #[{ on := 7, ground := Ground.data }, { on := 10, ground := Ground.data }, { on := 7, ground := Ground.chain }, { on := 4, ground := Ground.guard }], guard := some (4, false) }) (v := undef) rfl (by kernel_rfl) (by kernel_rfl) (by kernel_rfl) (fun _ _ _ h => h) (Or.inr ⟨by rfl, rfl⟩) (by with_reducible assumption) ?_
      try go_frame
      refine wpAnyH_take (i := 12) (oi := { dst := some 85, op := Op.pick (Operand.tmp 77) (Operand.const (Value.bool true)) (Operand.tmp 84), type := 4, pos := "law.go:55", after := #[{ on := 4, ground := Ground.data }, { on := 11, ground := Ground.data }, { on := 1, ground := Ground.guard }], guard := some (1, true) }) (v := ?_) rfl (by kernel_rfl) (by kernel_rfl) (by kernel_rfl) (fun _ _ _ h => h) (Or.inl ⟨by rfl, ?_⟩) (by with_reducible assumption) ?_
      rotate_left
      focus (intro wS hSw; (try dsimp only at hSw); go_simp <;> with_reducible rfl)
      try go_frame
      refine wpAnyH_take (i := 13) (oi := { dst := some 86, op := Op.pick (Operand.tmp 74) (Operand.tmp 85) (Operand.const (Value.bool false)), type := 4, pos := "law.go:55", after := #[{ on := 1, ground := Ground.data }, { on := 12, ground := Ground.data }], guard := none }) (v := ?_) rfl (by kernel_rfl) (by kernel_rfl) (by kernel_rfl) (fun _ _ _ h => h) (Or.inl ⟨by rfl, ?_⟩) (by with_reducible assumption) ?_
      rotate_left
      focus (intro wS hSw; (try dsimp only at hSw); go_simp <;> with_reducible rfl)
      try go_frame
      refine wpAnyH_take (i := 14) (oi := { dst := some 87, op := Op.move (Operand.tmp 86), type := 4, pos := "law.go:55", after := #[{ on := 13, ground := Ground.data }, { on := 11, ground := Ground.chain }], guard := none }) (v := ?_) rfl (by kernel_rfl) (by kernel_rfl) (by kernel_rfl) (fun _ _ _ h => h) (Or.inl ⟨by rfl, ?_⟩) (by with_reducible assumption) ?_
      rotate_left
      focus (intro wS hSw; (try dsimp only at hSw); go_simp <;> with_reducible rfl)
      try go_frame
      refine wpAnyH_take (i := 15) (oi := { dst := some 88, op := Op.move (Operand.tmp 11), type := 65, pos := "law.go:55", after := #[{ on := 14, ground := Ground.guard }], guard := some (14, true) }) (v := ?_) rfl (by kernel_rfl) (by kernel_rfl) (by kernel_rfl) (fun _ _ _ h => h) (Or.inl ⟨by rfl, ?_⟩) (by with_reducible assumption) ?_
      rotate_left
      focus (intro wS hSw; (try dsimp only at hSw); go_simp <;> with_reducible rfl)
      try go_frame
      refine wpAnyH_take (i := 16) (oi := { dst := some 89, op := Op.binOp BinOp.neq 65 (Operand.tmp 88) (Operand.const (Value.int IntKind.i64 0)) 65, type := 4, pos := "law.go:55", after := #[{ on := 15, ground := Ground.data }, { on := 14, ground := Ground.guard }], guard := some (14, true) }) (v := ?_) rfl (by kernel_rfl) (by kernel_rfl) (by kernel_rfl) (fun _ _ _ h => h) (Or.inl ⟨by rfl, ?_⟩) (by with_reducible assumption) ?_
      rotate_left
      focus (intro wS hSw; (try dsimp only at hSw); go_simp <;> with_reducible rfl)
      try go_frame
      refine wpAnyH_take (i := 17) (oi := { dst := some 90, op := Op.move (Operand.tmp 89), type := 4, pos := "law.go:55", after := #[{ on := 16, ground := Ground.data }, { on := 14, ground := Ground.chain }, { on := 14, ground := Ground.guard }], guard := some (14, true) }) (v := ?_) rfl (by kernel_rfl) (by kernel_rfl) (by kernel_rfl) (fun _ _ _ h => h) (Or.inl ⟨by rfl, ?_⟩) (by with_reducible assumption) ?_
      rotate_left
      focus (intro wS hSw; (try dsimp only at hSw); go_simp <;> with_reducible rfl)
      try go_frame
      refine wpAnyH_take (i := 18) (oi := { dst := some 91, op := Op.move (Operand.tmp 9), type := 60, pos := "law.go:55", after := #[{ on := 17, ground := Ground.guard }], guard := some (17, false) }) (v := undef) rfl (by kernel_rfl) (by kernel_rfl) (by kernel_rfl) (fun _ _ _ h => h) (Or.inr ⟨by rfl, rfl⟩) (by with_reducible assumption) ?_
      try go_frame
      refine wpAnyH_take (i := 19) (oi := { dst := some 92, op := Op.call { callee := Callee.value (Operand.func 30), args := #[Operand.tmp 91], argTypes := #[60] }, type := 61, pos := "law.go:55", after := #[{ on := 18, ground := Ground.data }, { on := 17, ground := Ground.chain }, { on := 17, ground := Ground.guard }], guard := some (17, false) }) (v := undef) rfl (by kernel_rfl) (by kernel_rfl) (by kernel_rfl) (fun _ _ _ h => h) (Or.inr ⟨by rfl, rfl⟩) (by with_reducible assumption) ?_
      try go_frame
      refine wpAnyH_take (i := 20) (oi := { dst := some 93, op := Op.move (Operand.tmp 0), type := 61, pos := "law.go:55", after := #[{ on := 17, ground := Ground.guard }], guard := some (17, false) }) (v := undef) rfl (by kernel_rfl) (by kernel_rfl) (by kernel_rfl) (fun _ _ _ h => h) (Or.inr ⟨by rfl, rfl⟩) (by with_reducible assumption) ?_
      try go_frame
      refine wpAnyH_take (i := 21) (oi := { dst := some 94, op := Op.call { callee := Callee.value (Operand.func 33), args := #[Operand.tmp 92, Operand.tmp 93], argTypes := #[61, 61] }, type := 4, pos := "law.go:55", after := #[{ on := 19, ground := Ground.data }, { on := 20, ground := Ground.data }, { on := 19, ground := Ground.chain }, { on := 17, ground := Ground.guard }], guard := some (17, false) }) (v := undef) rfl (by kernel_rfl) (by kernel_rfl) (by kernel_rfl) (fun _ _ _ h => h) (Or.inr ⟨by rfl, rfl⟩) (by with_reducible assumption) ?_
      try go_frame
      refine wpAnyH_take (i := 22) (oi := { dst := some 95, op := Op.pick (Operand.tmp 90) (Operand.const (Value.bool true)) (Operand.tmp 94), type := 4, pos := "law.go:55", after := #[{ on := 17, ground := Ground.data }, { on := 21, ground := Ground.data }, { on := 14, ground := Ground.guard }], guard := some (14, true) }) (v := ?_) rfl (by kernel_rfl) (by kernel_rfl) (by kernel_rfl) (fun _ _ _ h => h) (Or.inl ⟨by rfl, ?_⟩) (by with_reducible assumption) ?_
      rotate_left
      focus (intro wS hSw; (try dsimp only at hSw); go_simp <;> with_reducible rfl)
      try go_frame
      refine wpAnyH_take (i := 23) (oi := { dst := some 96, op := Op.pick (Operand.tmp 87) (Operand.tmp 95) (Operand.const (Value.bool false)), type := 4, pos := "law.go:55", after := #[{ on := 14, ground := Ground.data }, { on := 22, ground := Ground.data }], guard := none }) (v := ?_) rfl (by kernel_rfl) (by kernel_rfl) (by kernel_rfl) (fun _ _ _ h => h) (Or.inl ⟨by rfl, ?_⟩) (by with_reducible assumption) ?_
      rotate_left
      focus (intro wS hSw; (try dsimp only at hSw); go_simp <;> with_reducible rfl)
      try go_frame
      refine wpAnyH_take (i := 24) (oi := { dst := some 2, op := Op.assign (Operand.tmp 96), type := 4, pos := "law.go:55", after := #[{ on := 23, ground := Ground.data }, { on := 21, ground := Ground.chain }, { on := 0, ground := Ground.phase }, { on := 1, ground := Ground.phase }, { on := 2, ground := Ground.phase }, { on := 3, ground := Ground.phase }, { on := 4, ground := Ground.phase }, { on := 5, ground := Ground.phase }, { on := 6, ground := Ground.phase }, { on := 7, ground := Ground.phase }, { on := 8, ground := Ground.phase }, { on := 9, ground := Ground.phase }, { on := 10, ground := Ground.phase }, { on := 11, ground := Ground.phase }, { on := 12, ground := Ground.phase }, { on := 13, ground := Ground.phase }, { on := 14, ground := Ground.phase }, { on := 15, ground := Ground.phase }, { on := 16, ground := Ground.phase }, { on := 17, ground := Ground.phase }, { on := 18, ground := Ground.phase }, { on := 19, ground := Ground.phase }, { on := 20, ground := Ground.phase }, { on := 21, ground := Ground.phase }, { on := 22, ground := Ground.phase }, { on := 23, ground := Ground.phase }], guard := none }) (v := ?_) rfl (by kernel_rfl) (by kernel_rfl) (by kernel_rfl) (fun _ _ _ h => h) (Or.inl ⟨by rfl, ?_⟩) (by with_reducible assumption) ?_
      rotate_left
      focus (intro wS hSw; (try dsimp only at hSw); go_simp <;> with_reducible rfl)
      try go_frame
      refine wpAnyH_done (by kernel_rfl) ?_ _
      go_wp2_with fail
      go_ret
      exact ⟨by simp, HE1.out.1⟩
end Go.Proofs.Ytenfaejdnphngaa
