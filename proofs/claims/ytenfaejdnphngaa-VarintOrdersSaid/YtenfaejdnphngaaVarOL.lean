/- The law VarintOrders. -/
import Derived.Test.YtenfaejdnphngaaVarK
import Derived.Deep.Upon
namespace Go.Proofs.Ytenfaejdnphngaa
open Go.RowKit Go.Sort

theorem own_none (kd : IntKind) (W : World) (T : TypeId) : (W.alloc (.cells #[] T)).ownsRow W.heap.size T 1 (.slice (some ⟨W.heap.size, 0, none⟩) 0 0) 0 (kcl kd []) :=
  World.ownsRow_lit W #[] 0 (Nat.le_refl _) (by unfold maxLen; omega) rfl
/-- What the law holds. -/
def VoS (w : World) (qa qb : Option Addr) (ca cb : Nat) (A B : List Nat) (X : World) : Prop := Below w.heap.size w X ∧ KL .u64 X (.slice qa A.length ca) A ∧ KL .u64 X (.slice qb B.length cb) B
theorem VoS.keep {w : World} {qa qb : Option Addr} {ca cb : Nat} {A B : List Nat} {X X1 : World} (h : VoS w qa qb ca cb A B X) (hb : Below X.heap.size X X1) : VoS w qa qb ca cb A B X1 := ⟨below_after h.1 hb, h.2.1.keep hb, h.2.2.keep hb⟩
set_option maxRecDepth 100000 in
set_option maxHeartbeats 4000000 in
theorem ordersLaw_yes {w : World} {va vb : Value} {A0 B0 : List Nat} (hKa : KL .u64 w va A0) (hKb : KL .u64 w vb B0) (hba : ∀ n ∈ A0, n < 18446744073709551616) (hbb : ∀ n ∈ B0, n < 18446744073709551616) (n m : Nat) (hn : n < 18446744073709551616) (hm : m < 18446744073709551616) (cut : Int) :
    Calls Try.prog 9 #[va, vb, .int .u64 (n : Int), .int .u64 (m : Int), .int .i64 cut] w fun e w' => e = .returned (.bool true) ∧ Below w.heap.size w w' := by
  have hmx : Try.prog.follows .mixedOrders = true := by kernel_rfl
  obtain ⟨i8, hi8, hy0, hy1, hy2⟩ := info_parts info8
  obtain ⟨i0, hi, hz0, hz1, hz2⟩ := info_parts info64
  obtain ⟨qa, ca, rfl, hca, _⟩ := id hKa
  have hKma := hKa.take (Nat.min_le_left A0.length 30)
  have hlma : (A0.take (min A0.length 30)).length = min A0.length 30 := by rw [List.length_take]; omega
  have hbma : ∀ x ∈ A0.take (min A0.length 30), x < 18446744073709551616 := fun x hx => hba x (List.mem_of_mem_take hx)
  have hmna : min (A0.length : Int) 30 = ((min A0.length 30 : Nat) : Int) := by omega
  have hm50a : min A0.length 30 ≤ 30 := Nat.min_le_right _ _
  have hmca : min A0.length 30 ≤ ca := by omega
  generalize A0.take (min A0.length 30) = la at *
  generalize min A0.length 30 = ma at *
  subst hlma
  have hcza : (la.length : Int) ≤ (ca : Int) := by omega
  obtain ⟨qb, cb, rfl, hcb, _⟩ := id hKb
  have hKmb := hKb.take (Nat.min_le_left B0.length 30)
  have hlmb : (B0.take (min B0.length 30)).length = min B0.length 30 := by rw [List.length_take]; omega
  have hbmb : ∀ x ∈ B0.take (min B0.length 30), x < 18446744073709551616 := fun x hx => hbb x (List.mem_of_mem_take hx)
  have hmnb : min (B0.length : Int) 30 = ((min B0.length 30 : Nat) : Int) := by omega
  have hm50b : min B0.length 30 ≤ 30 := Nat.min_le_right _ _
  have hmcb : min B0.length 30 ≤ cb := by omega
  generalize B0.take (min B0.length 30) = lb at *
  generalize min B0.length 30 = mb at *
  subst hlmb
  have hczb : (lb.length : Int) ≤ (cb : Int) := by omega
  have H0 := Lib.hid (show VoS w qa qb ca cb la lb w from ⟨Below.refl _ _, hKma, hKmb⟩)
  have HBa := Lib.hid hbma
  have HBb := Lib.hid hbmb
  have hla : la.length ≤ 30 := hm50a
  have hlb : lb.length ≤ 30 := hm50b
  clear hKa hKb hba hbb hKma hKmb hbma hbmb hca hcb
  go_enter Try.func9, Try.ntmps9
  go_upto_region 1 with fail
  have HD := Lib.hid (H0.out.keep ((Below.refl w.heap.size w).drew))
  clear H0
  refine wp_region_held_drew (S := fun _ => True) (by kernel_rfl) trivial (fun hHeld => ?_)
  refine wpAnyH_take (i := 0) (oi := { dst := some 19, op := Op.move (Operand.tmp 0), type := 60, pos := "law.go:60", after := #[], guard := none }) (v := ?_) rfl (by kernel_rfl) (by kernel_rfl) (by kernel_rfl) (fun _ _ _ h => h) (Or.inl ⟨by rfl, ?_⟩) (by with_reducible assumption) ?_
  rotate_left
  focus (intro wS hSw; (try dsimp only at hSw); go_simp <;> with_reducible rfl)
  try go_frame
  refine wpAnyH_take (i := 1) (oi := { dst := some 20, op := Op.move (Operand.tmp 0), type := 60, pos := "law.go:60", after := #[], guard := none }) (v := ?_) rfl (by kernel_rfl) (by kernel_rfl) (by kernel_rfl) (fun _ _ _ h => h) (Or.inl ⟨by rfl, ?_⟩) (by with_reducible assumption) ?_
  rotate_left
  focus (intro wS hSw; (try dsimp only at hSw); go_simp <;> with_reducible rfl)
  try go_frame
  refine wpAnyH_take (i := 2) (oi := { dst := some 21, op := Op.call { callee := Callee.builtin Builtin.len, args := #[Operand.tmp 20], argTypes := #[60] }, type := 3, pos := "law.go:60", after := #[{ on := 1, ground := Ground.data }], guard := none }) (v := ?_) rfl (by kernel_rfl) (by kernel_rfl) (by kernel_rfl) (fun _ _ _ h => h) (Or.inl ⟨by rfl, ?_⟩) (by with_reducible assumption) ?_
  rotate_left
  focus (intro wS hSw; (try dsimp only at hSw); go_simp <;> with_reducible rfl)
  try go_frame
  refine wpAnyH_take (i := 3) (oi := { dst := some 22, op := Op.call { callee := Callee.builtin Builtin.min, args := #[Operand.tmp 21, Operand.const (Value.int IntKind.i64 30)], argTypes := #[3, 3] }, type := 3, pos := "law.go:60", after := #[{ on := 2, ground := Ground.data }], guard := none }) (v := ?_) rfl (by kernel_rfl) (by kernel_rfl) (by kernel_rfl) (fun _ _ _ h => h) (Or.inl ⟨by rfl, ?_⟩) (by with_reducible assumption) ?_
  rotate_left
  focus (intro wS hSw; (try dsimp only at hSw); go_simp <;> with_reducible rfl)
  try go_frame
  refine wpAnyH_take (i := 4) (oi := { dst := some 23, op := Op.slice 60 (Operand.tmp 19) none (some (Operand.tmp 22)) none, type := 60, pos := "law.go:60", after := #[{ on := 0, ground := Ground.data }, { on := 3, ground := Ground.data }], guard := none }) (v := ?_) rfl (by kernel_rfl) (by kernel_rfl) (by kernel_rfl) (fun _ _ _ h => h) (Or.inl ⟨by rfl, ?_⟩) (by with_reducible assumption) ?_
  rotate_left
  focus (intro wS hSw; (try dsimp only at hSw); go_simp <;> with_reducible rfl)
  try go_frame
  refine wpAnyH_take (i := 5) (oi := { dst := some 24, op := Op.move (Operand.tmp 1), type := 60, pos := "law.go:60", after := #[], guard := none }) (v := ?_) rfl (by kernel_rfl) (by kernel_rfl) (by kernel_rfl) (fun _ _ _ h => h) (Or.inl ⟨by rfl, ?_⟩) (by with_reducible assumption) ?_
  rotate_left
  focus (intro wS hSw; (try dsimp only at hSw); go_simp <;> with_reducible rfl)
  try go_frame
  refine wpAnyH_take (i := 6) (oi := { dst := some 25, op := Op.move (Operand.tmp 1), type := 60, pos := "law.go:60", after := #[], guard := none }) (v := ?_) rfl (by kernel_rfl) (by kernel_rfl) (by kernel_rfl) (fun _ _ _ h => h) (Or.inl ⟨by rfl, ?_⟩) (by with_reducible assumption) ?_
  rotate_left
  focus (intro wS hSw; (try dsimp only at hSw); go_simp <;> with_reducible rfl)
  try go_frame
  refine wpAnyH_take (i := 7) (oi := { dst := some 26, op := Op.call { callee := Callee.builtin Builtin.len, args := #[Operand.tmp 25], argTypes := #[60] }, type := 3, pos := "law.go:60", after := #[{ on := 6, ground := Ground.data }], guard := none }) (v := ?_) rfl (by kernel_rfl) (by kernel_rfl) (by kernel_rfl) (fun _ _ _ h => h) (Or.inl ⟨by rfl, ?_⟩) (by with_reducible assumption) ?_
  rotate_left
  focus (intro wS hSw; (try dsimp only at hSw); go_simp <;> with_reducible rfl)
  try go_frame
  refine wpAnyH_take (i := 8) (oi := { dst := some 27, op := Op.call { callee := Callee.builtin Builtin.min, args := #[Operand.tmp 26, Operand.const (Value.int IntKind.i64 30)], argTypes := #[3, 3] }, type := 3, pos := "law.go:60", after := #[{ on := 7, ground := Ground.data }], guard := none }) (v := ?_) rfl (by kernel_rfl) (by kernel_rfl) (by kernel_rfl) (fun _ _ _ h => h) (Or.inl ⟨by rfl, ?_⟩) (by with_reducible assumption) ?_
  rotate_left
  focus (intro wS hSw; (try dsimp only at hSw); go_simp <;> with_reducible rfl)
  try go_frame
  refine wpAnyH_take (i := 9) (oi := { dst := some 28, op := Op.slice 60 (Operand.tmp 24) none (some (Operand.tmp 27)) none, type := 60, pos := "law.go:60", after := #[{ on := 5, ground := Ground.data }, { on := 8, ground := Ground.data }], guard := none }) (v := ?_) rfl (by kernel_rfl) (by kernel_rfl) (by kernel_rfl) (fun _ _ _ h => h) (Or.inl ⟨by rfl, ?_⟩) (by with_reducible assumption) ?_
  rotate_left
  focus (intro wS hSw; (try dsimp only at hSw); go_simp <;> with_reducible rfl)
  try go_frame
  refine wpAnyH_take (i := 10) (oi := { dst := some 0, op := Op.assign (Operand.tmp 23), type := 60, pos := "law.go:60", after := #[{ on := 4, ground := Ground.data }, { on := 0, ground := Ground.phase }, { on := 1, ground := Ground.phase }, { on := 2, ground := Ground.phase }, { on := 3, ground := Ground.phase }, { on := 4, ground := Ground.phase }, { on := 5, ground := Ground.textOnly Departure.lateStores }, { on := 6, ground := Ground.textOnly Departure.lateStores }, { on := 7, ground := Ground.textOnly Departure.lateStoresUnsure }, { on := 8, ground := Ground.textOnly Departure.lateStoresUnsure }, { on := 9, ground := Ground.textOnly Departure.lateStoresUnsure }], guard := none }) (v := ?_) rfl (by kernel_rfl) (by kernel_rfl) (by kernel_rfl) (fun _ _ _ h => h) (Or.inl ⟨by rfl, ?_⟩) (by with_reducible assumption) ?_
  rotate_left
  focus (intro wS hSw; (try dsimp only at hSw); go_simp <;> with_reducible rfl)
  try go_frame
  refine wpAnyH_take (i := 11) (oi := { dst := some 1, op := Op.assign (Operand.tmp 28), type := 60, pos := "law.go:60", after := #[{ on := 9, ground := Ground.data }, { on := 10, ground := Ground.chain }, { on := 0, ground := Ground.phase }, { on := 1, ground := Ground.phase }, { on := 2, ground := Ground.phase }, { on := 3, ground := Ground.phase }, { on := 4, ground := Ground.phase }, { on := 5, ground := Ground.phase }, { on := 6, ground := Ground.phase }, { on := 7, ground := Ground.phase }, { on := 8, ground := Ground.phase }, { on := 9, ground := Ground.phase }, { on := 10, ground := Ground.phase }], guard := none }) (v := ?_) rfl (by kernel_rfl) (by kernel_rfl) (by kernel_rfl) (fun _ _ _ h => h) (Or.inl ⟨by rfl, ?_⟩) (by with_reducible assumption) ?_
  rotate_left
  focus (intro wS hSw; (try dsimp only at hSw); go_simp <;> with_reducible rfl)
  try go_frame
  refine wpAnyH_done (by kernel_rfl) ?_ _
  generalize w.drew = V0 at *
  have hxa := (bys_len la HBa.out).1
  have hxb := (bys_len lb HBb.out).1
  go_upto_region 3 with (first
    | (go_at_call 30; refine (bytes_any HD.out.2.1 (by omega) HBa.out).mono ?_; rintro e w1 ⟨ux, rfl, ho1, hb1⟩; have HD1 := Lib.hid (HD.out.keep hb1); have HX := Lib.hid (kl_own rfl ho1); clear hb1 ho1 HD)
    | (go_at_call 30; refine (bytes_any HD1.out.2.2 (by omega) HBb.out).mono ?_; rintro e w2 ⟨uy, rfl, ho2, hb2⟩; have HD2 := Lib.hid (HD1.out.keep hb2); have HX2 := Lib.hid (HX.out.keep hb2); have HY := Lib.hid (kl_own rfl ho2); clear hb2 ho2 HD1 HX))
  have HO0 := Lib.hid (own_none .u64 w2 43)
  have HV : Hid (w2.heap.size ≤ (w2.alloc (.cells #[] 43)).heap.size) := Lib.hid (by simp)
  have HSa := Lib.hid (kl_src (HD2.out.keep (below_alloc w2 (.cells #[] 43))).2.1)
  have HG0 := Lib.hid (grown_below (row := some w2.heap.size) (below_alloc w2 (.cells #[] 43)))
  go_wp2_with (at_builtin; refine wpList_append_srcO rfl (.tmp 33) (.tmp 34) 60 rfl w2.heap.size 43 i0 (.int .u64 0) 1 8 Try.underlying60 hi hz0 hz1 hz2 rfl (by decide) _ 0 (kcl .u64 []) rfl HO0.out _ la.length (kcl .u64 la) rfl HSa.out (by rw [kcl_len, Nat.mul_one]) (kcl_one _ _) (by unfold maxLen; omega) (by omega) HV.out ?_)
  intro v1 wA hoA hgA
  have HBA : Hid (Below w2.heap.size w2 wA) := Lib.hid ((below_alloc w2 (.cells #[] 43)).grown hgA HV.out (fun k e => (own_block HO0.out e).1))
  have HOA := Lib.hid hoA
  have HSb := Lib.hid (kl_src (HD2.out.keep HBA.out).2.2)
  clear hoA hgA HO0 HSa HG0
  go_wp2_with (at_builtin; refine wpList_append_srcO rfl (.tmp 35) (.tmp 36) 60 rfl w2.heap.size 43 i0 (.int .u64 0) 1 8 Try.underlying60 hi hz0 hz1 hz2 rfl (by decide) _ la.length (kcl .u64 [] ++ kcl .u64 la) rfl HOA.out _ lb.length (kcl .u64 lb) rfl HSb.out (by rw [kcl_len, Nat.mul_one]) (kcl_one _ _) (by unfold maxLen; omega) (by omega) HBA.out.size ?_)
  intro v2 wB hoB hgB
  have HBB : Hid (Below w2.heap.size w2 wB) := Lib.hid (HBA.out.grown hgB HBA.out.size (fun k e => (own_block HOA.out e).1))
  have HKB : Hid (KL .u64 wB v2 (la ++ lb)) := Lib.hid (kl_own (by rw [List.length_append]) (by rw [kcl_app]; exact hoB))
  clear hoB hgB HOA HSb HBA
  have hxy : (la ++ lb).length ≤ 60 := by rw [List.length_append]; omega
  have HBab : Hid (∀ x ∈ la ++ lb, x < 18446744073709551616) := Lib.hid (fun x hx => (List.mem_append.1 hx).elim (HBa.out x) (HBb.out x))
  go_upto_region 4 with (go_at_call 30; refine (bytes_any HKB.out (by omega) HBab.out).mono ?_; rintro e w3 ⟨uz, rfl, ho3, hb3⟩; have HZ := Lib.hid (kl_own rfl ho3); have HB3 := Lib.hid (below_after HBB.out hb3); clear hb3 ho3)
  have HD3 := Lib.hid (HD2.out.keep HB3.out)
  have HX3 := Lib.hid (HX2.out.keep HB3.out)
  have HY3 := Lib.hid (HY.out.keep HB3.out)
  clear HD2 HX2 HY HKB HBB HB3 HV
  obtain ⟨qx, cx, rfl, _⟩ := HX3.out
  obtain ⟨qy, cy, rfl, _⟩ := HY3.out
  have HO8 := Lib.hid (own_none .u8 w3 5)
  have HV8 : Hid (w3.heap.size ≤ (w3.alloc (.cells #[] 5)).heap.size) := Lib.hid (by simp)
  have HSx := Lib.hid (kl_src (HX3.out.keep (below_alloc w3 (.cells #[] 5))))
  go_wp2_with (at_builtin; refine wpList_append_srcO rfl (.tmp 40) (.tmp 41) 61 rfl w3.heap.size 5 i8 (.int .u8 0) 1 1 Try.underlying61 hi8 hy0 hy1 hy2 rfl (by decide) _ 0 (kcl .u8 []) rfl HO8.out _ (bys la).length (kcl .u8 (bys la)) rfl HSx.out (by rw [kcl_len, Nat.mul_one]) (kcl_one _ _) (by unfold maxLen; omega) (by omega) HV8.out ?_)
  intro v3 wC hoC hgC
  have HBC : Hid (Below w3.heap.size w3 wC) := Lib.hid ((below_alloc w3 (.cells #[] 5)).grown hgC HV8.out (fun k e => (own_block HO8.out e).1))
  have HOC := Lib.hid hoC
  have HSy := Lib.hid (kl_src (HY3.out.keep HBC.out))
  clear hoC hgC HO8 HSx
  go_wp2_with (at_builtin; refine wpList_append_srcO rfl (.tmp 42) (.tmp 43) 61 rfl w3.heap.size 5 i8 (.int .u8 0) 1 1 Try.underlying61 hi8 hy0 hy1 hy2 rfl (by decide) _ (bys la).length (kcl .u8 [] ++ kcl .u8 (bys la)) rfl HOC.out _ (bys lb).length (kcl .u8 (bys lb)) rfl HSy.out (by rw [kcl_len, Nat.mul_one]) (kcl_one _ _) (by unfold maxLen; omega) (by omega) HBC.out.size ?_)
  intro v4 wD hoD hgD
  have HBD : Hid (Below w3.heap.size w3 wD) := Lib.hid (HBC.out.grown hgD HBC.out.size (fun k e => (own_block HOC.out e).1))
  have HKD : Hid (KL .u8 wD v4 (bys (la ++ lb))) := Lib.hid (by rw [bys_app]; exact kl_own (by rw [List.length_append]) (by rw [kcl_app]; exact hoD))
  have HZD := Lib.hid (HZ.out.keep HBD.out)
  have HDD := Lib.hid (HD3.out.keep HBD.out).1
  have hzl : (bys (la ++ lb)).length ≤ 1000 := by rw [bys_app, List.length_append]; omega
  clear hoD hgD HOC HSy HBC HBD HX3 HY3 HZ HD3
  have hmi : min n m < 18446744073709551616 := by omega
  have hma : max n m < 18446744073709551616 := by omega
  have hmono := nb_mono (max n m) (min n m) (max n m) (Nat.le_refl _) (by omega)
  have hmono2 : ¬ ((nb (max n m)).length : Int) < ((nb (min n m)).length : Int) := by omega
  have emin : min (n : Int) (m : Int) = ((min n m : Nat) : Int) := by omega
  have emax : max (n : Int) (m : Int) = ((max n m : Nat) : Int) := by omega
  have hpos := nb_pos n
  have h10 := nb_len10 hn
  have HCut := Lib.hid (fun k (hk : k < (nb n).length) => rd_cut hn hk)
  have HLt := Lib.hid (nb_lt n n (Nat.le_refl _))
  generalize min n m = mi at *
  generalize max n m = ma at *
  have HKn := Lib.hid (fun V : World => kl_lit .u64 V 43 [n] (cs := #[.int .u64 (n : Int)]) rfl (by show 1 ≤ 1000; omega) (n := 1) rfl)
  have HBn := Lib.hid (fun V : World => bytes_any (HKn.out V) (by show 1 ≤ 1000; omega) (by intro y hy; rw [List.mem_singleton] at hy; subst hy; exact hn))
  unfold ByPost at HBn
  rw [show bys [n] = nb n from by simp [bys]] at HBn
  clear hmono
  go_upto_region 6 with (first
    | (go_at_call 33; refine (rsame_any HZD.out HKD.out (by omega)).mono ?_; rintro e w5 ⟨rfl, hb5⟩; have HB5 := Lib.hid (below_after HDD.out hb5); clear hb5)
    | (go_at_call 30; refine (HBn.out _).mono ?_; rintro e w6 ⟨u6, rfl, ho6, hb6⟩; have HB6 := Lib.hid (below_after (below_after HB5.out (below_alloc _ _)) hb6); obtain ⟨q6, c6, rfl, _⟩ := kl_own (kd := .u8) rfl ho6; clear hb6 ho6)
    | (go_at_call 29; refine (size_any _ _ (by assumption)).mono ?_; rintro e w7 ⟨rfl, hw⟩; subst hw))
  clear HZD HKD HDD hmono2 emin emax hmi hma
  have hp0 : ¬ (((nb n).length : Nat) : Int) = 0 := by omega
  obtain ⟨cu, hcu⟩ : ∃ cu : Nat, cu = (cut % 18446744073709551616).toNat := ⟨_, rfl⟩
  have hcu2 : (cu : Int) = cut % 18446744073709551616 := by omega
  have xcu : IntKind.u64.wrap cut = (cu : Int) := by rw [IntKind.wrap_u64]; omega
  have hcu64 : cu < 18446744073709551616 := by omega
  obtain ⟨kk, hkk⟩ : ∃ kk : Nat, kk = cu % (nb n).length := ⟨_, rfl⟩
  have hkl : kk < (nb n).length := by rw [hkk]; exact Nat.mod_lt _ hpos
  have xkk : (cu : Int) % (((nb n).length : Nat) : Int) = (kk : Int) := by rw [hkk]; rfl
  have HC4 := Lib.hid (HCut.out kk hkl)
  have HZt : Hid (∀ V v, KL .u8 V v (nb n) → ∀ q c, v = .slice q (nb n).length c → Calls Try.prog 39 #[.slice q kk c] V (fun e w' => e = .returned (.tuple #[.int .u64 0, .int .i64 0, .int .i64 4]) ∧ Below V.heap.size V w')) := Lib.hid (fun V v h q c e => by
    subst e
    have h2 := rd_any (h.take (Nat.le_of_lt hkl)) (fun x hx => HLt.out x (List.mem_of_mem_take hx)) (by rw [List.length_take]; omega)
    refine h2.mono ?_
    rintro e w' ⟨a, b⟩
    rw [HC4.out] at a
    exact ⟨a, b⟩)
  clear hkk hcu hcu2 HCut HC4 HLt
  have HKn2 : Hid (∀ V, Calls Try.prog 30 #[.slice (some ⟨V.heap.size, 0, none⟩) 1 1] (V.alloc (.cells #[.int .u64 (n : Int)] 43)) (fun e w' => ∃ q c, e = .returned (.slice q (nb n).length c) ∧ (nb n).length ≤ c ∧ KL .u8 w' (.slice q (nb n).length c) (nb n) ∧ Below V.heap.size V w')) := Lib.hid (fun V => by
    refine (HBn.out V).mono ?_
    rintro e w' ⟨u, a, b, c⟩
    have hk := kl_own (kd := .u8) rfl b
    obtain ⟨q, c2, e2, hle, _⟩ := id hk
    subst e2
    exact ⟨q, c2, a, hle, hk, below_after (below_alloc _ _) c⟩)
  clear HBn HKn
  generalize nb n = Z at *
  have hzl10 : Z.length ≤ 10 := h10
  have xzl : IntKind.u64.wrap ((Z.length : Nat) : Int) = ((Z.length : Nat) : Int) := IntWalk.u64_in _ (by omega)
  have xki : IntKind.i64.wrap (kk : Int) = (kk : Int) := IntWalk.i64_in _ (by omega)
  have hne : ((Z.length : Nat) : Int) ≠ 0 := hp0
  have hkz : (kk : Int) ≤ ((Z.length : Nat) : Int) := by omega
  go_upto_region 9 with (go_at_call 30; refine (HKn2.out _).mono ?_; rintro e w8 ⟨qz, cz, rfl, hzc, hk8, hb8⟩; have HK8 := Lib.hid hk8; have HB8 := Lib.hid (below_after HB6.out hb8); clear hk8 hb8)
  have hkc : (kk : Int) ≤ (cz : Int) := by omega
  go_upto_region 10 with fail
  go_wp2_with (first
    | (go_at_call 39; refine (HZt.out _ _ HK8.out _ _ rfl).mono ?_; rintro e w9 ⟨rfl, hb9⟩; have HB9 := Lib.hid (below_after HB8.out hb9); clear hb9)
    | (go_at_call 32; refine (known7_yes _).mono ?_; rintro e w10 ⟨rfl, hb10⟩; have HB10 := Lib.hid (below_after HB9.out hb10); clear hb10))
  go_ret
  exact ⟨by simp, HB10.out⟩
theorem ordersLaw_int {w : World} {va vb : Value} {A0 B0 : List Nat} (hKa : KL .u64 w va A0) (hKb : KL .u64 w vb B0) (hba : ∀ n ∈ A0, n < 18446744073709551616) (hbb : ∀ n ∈ B0, n < 18446744073709551616) (x y : Int) (hx : 0 ≤ x) (hx1 : x ≤ 18446744073709551615) (hy : 0 ≤ y) (hy1 : y ≤ 18446744073709551615) (cut : Int) :
    Calls Try.prog 9 #[va, vb, .int .u64 x, .int .u64 y, .int .i64 cut] w fun e w' => e = .returned (.bool true) ∧ Below w.heap.size w w' := by
  obtain ⟨n, rfl⟩ := Int.eq_ofNat_of_zero_le hx
  obtain ⟨m, rfl⟩ := Int.eq_ofNat_of_zero_le hy
  exact ordersLaw_yes hKa hKb hba hbb n m (by omega) (by omega) cut
end Go.Proofs.Ytenfaejdnphngaa
