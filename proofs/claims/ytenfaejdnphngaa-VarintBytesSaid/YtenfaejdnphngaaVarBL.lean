/- The law VarintBytes. -/
import Derived.Test.YtenfaejdnphngaaVarK
namespace Go.Proofs.Ytenfaejdnphngaa
open Go.RowKit Go.Sort

set_option maxRecDepth 100000 in
set_option maxHeartbeats 4000000 in
theorem bytesLaw_yes {w : World} {v : Value} {l0 : List Nat} (hK : KL .u64 w v l0) (hb0 : ∀ n ∈ l0, n < 18446744073709551616) (n : Int) (hn0 : -9223372036854775808 ≤ n) (hn1 : n ≤ 9223372036854775807) (u : Int) (hu0 : 0 ≤ u) (hu1 : u < 18446744073709551616) :
    Calls Try.prog 7 #[v, .int .i64 n, .int .u64 u] w fun e w' => e = .returned (.bool true) ∧ Below w.heap.size w w' := by
  have hmx : Try.prog.follows .mixedOrders = true := by kernel_rfl
  obtain ⟨i0, hi, hz0, hz1, hz2⟩ := info_parts info8
  obtain ⟨q, c, rfl, hc, _⟩ := id hK
  have hKm := hK.take (Nat.min_le_left l0.length 50)
  have hlm : (l0.take (min l0.length 50)).length = min l0.length 50 := by rw [List.length_take]; omega
  have hbm : ∀ x ∈ l0.take (min l0.length 50), x < 18446744073709551616 := fun x hx => hb0 x (List.mem_of_mem_take hx)
  have hmn : min (l0.length : Int) 50 = ((min l0.length 50 : Nat) : Int) := by omega
  have hm50 : min l0.length 50 ≤ 50 := Nat.min_le_right _ _
  have hmc : min l0.length 50 ≤ c := by omega
  generalize l0.take (min l0.length 50) = l at *
  generalize min l0.length 50 = m at *
  subst hlm
  have hcz : (l.length : Int) ≤ (c : Int) := by omega
  have HK := Lib.hid hKm
  have HBd := Lib.hid hbm
  have hzb : 0 ≤ zigV n ∧ zigV n < 18446744073709551616 := by unfold zigV; split <;> omega
  have hgb : -9223372036854775808 ≤ zagV u ∧ zagV u ≤ 9223372036854775807 := by unfold zagV; split <;> omega
  have HFz : Hid (zagV (zigV n) = n ∧ zigV (zagV u) = u) := Lib.hid ⟨zig_zag, zag_zig hu0⟩
  obtain ⟨z1, z2⟩ := hzb
  obtain ⟨g1, g2⟩ := hgb
  have HLen := Lib.hid (fun i (hi : i ≤ l.length) => (bys_len (l.take i) (fun n hn => HBd.out n (List.mem_of_mem_take hn))).1)
  clear hK hKm hbm hb0 hc
  go_enter Try.func7, Try.ntmps7
  go_wp2_with fail
  go_loopg [7, 8] l.length (fun gk v i wx => ∃ k : Nat, k + gk = l.length ∧ i = .int .i64 (k : Int) ∧ Hid (wx.ownsRow w.heap.size 5 1 v (bys (l.take k)).length (kcl .u8 (bys (l.take k))) ∧ Below w.heap.size w wx))
  case atStart => exact ⟨0, by omega, rfl, Lib.hid ⟨World.ownsRow_nil _ _ _ _, Below.refl _ _⟩⟩
  case round =>
    obtain ⟨k, hkg, rfl, HS⟩ := hrel
    cases gk with
    | succ gr =>
      have hkz : (k : Int) < (l.length : Int) := by omega
      have hkl : k < l.length := by omega
      obtain ⟨_, _, e, _, hx⟩ := HK.out.keep HS.out.2
      injection e with e1 e2 e3
      subst e1 e3
      obtain ⟨g, o, rfl, hc0⟩ := hx k hkl
      have hn := HBd.out _ (List.getElem_mem hkl)
      have HT := Lib.hid (bys_take hkl)
      have h1 := HLen.out k (by omega)
      rw [List.length_take, Nat.min_eq_left (by omega)] at h1
      have h10 := nb_len10 hn
      have HRb := Lib.hid (rbytes_any l[k] l[k] (Nat.le_refl _) hn)
      have HSz := Lib.hid (fun V => size_any l[k] V hn)
      clear hx
      generalize l[k] = x at *
      generalize hPe : bys (l.take (k + 1)) = P1 at *
      have HPe := Lib.hid hPe
      clear hPe
      generalize bys (l.take k) = P at *
      generalize nb x = X at *
      have hP : P.length ≤ 1000 := by omega
      clear h1
      go_wp2_with (first
        | (go_at_call 28; refine (HRb.out _).mono ?_; rintro e w1 ⟨ub, rfl, ho, hb1⟩; have HX := Lib.hid (kl_own rfl ho); have HO := Lib.hid (own_keepB hb1 HS.out.1); have HB1 := Lib.hid (below_after HS.out.2 hb1); have hc1 := cell_later hb1 hc0; obtain ⟨qb, cb, rfl, _⟩ := HX.out; clear ho hb1 HS)
        | (go_at_call 29; refine (HSz.out _).mono ?_; rintro e w2 ⟨rfl, hw2⟩; subst hw2)
        | (at_builtin; refine wpList_append_srcO rfl (.tmp 38) (.tmp 39) 61 rfl w.heap.size 5 i0 (.int .u8 0) 1 1 Try.underlying61 hi hz0 hz1 hz2 rfl (by decide) _ P.length (kcl .u8 P) rfl HO.out _ X.length (kcl .u8 X) rfl (kl_src HX.out) (by rw [kcl_len, Nat.mul_one]) (kcl_one _ _) (by unfold maxLen; omega) (by omega) HB1.out.size ?_; intro v2 w2 ho2 hg2; have HF : Hid (w2.ownsRow w.heap.size 5 1 v2 P1.length (kcl .u8 P1) ∧ Below w.heap.size w w2) := Lib.hid ⟨by rw [HT.out, kcl_app, List.length_append]; exact ho2, HB1.out.grown hg2 HB1.out.size (fun k e => (own_block HO.out e).1)⟩; clear ho2 hg2))
      go_roundg gr
      case measure => omega
      case rel => exact ⟨k + 1, by omega, by go_num, by rw [HPe.out]; exact HF⟩
    | zero =>
      obtain rfl : k = l.length := by omega
      have hkz : ¬ ((l.length : Int) < (l.length : Int)) := by omega
      have h1 := HLen.out l.length (Nat.le_refl _)
      have HS2 : Hid (wr.ownsRow w.heap.size 5 1 u7 (bys l).length (kcl .u8 (bys l)) ∧ Below w.heap.size w wr) := Lib.hid (by have h := HS.out; rwa [List.take_length] at h)
      rw [List.take_length] at h1
      have HW := Lib.hid (kl_own rfl HS2.out.1)
      have HBy := Lib.hid (bytes_any (HK.out.keep HS2.out.2) (by omega) HBd.out)
      have hlt := bys_lt l
      have HRw := Lib.hid (rowD_bys HBd.out)
      have hbl : (bys l).length ≤ 500 := by omega
      obtain ⟨q7, c7, rfl, _⟩ := HW.out
      clear HS h1
      generalize bys l = P at *
      have HRr := Lib.hid (fun (V : World) (v : Value) (h : KL .u8 V v P) => row_any h hlt (by omega))
      clear hlt
      unfold RoPost7 at HRr
      rw [HRw.out] at HRr
      go_wp2_with (first
        | (go_at_call 30; refine HBy.out.mono ?_; rintro e w1 ⟨ub, rfl, ho, hb1⟩; have HX := Lib.hid (kl_own rfl ho); have HB1 := Lib.hid (below_after HS2.out.2 hb1); have HW1 := Lib.hid (HW.out.keep hb1); have HK1 := Lib.hid ((HK.out.keep HS2.out.2).keep hb1); obtain ⟨qb, cb, rfl, _⟩ := HX.out; clear ho hb1 HS2)
        | (go_at_call 31; refine (HRr.out _ _ HX.out).mono ?_; rintro e w2 ⟨ur, rfl, ho, hb2⟩; have HY := Lib.hid (kl_own rfl ho); have HB2 := Lib.hid (below_after HB1.out hb2); have HX2 := Lib.hid (HX.out.keep hb2); have HW2 := Lib.hid (HW1.out.keep hb2); have HK2 := Lib.hid (HK1.out.keep hb2); obtain ⟨qr, cr, rfl, _⟩ := HY.out; clear ho hb2)
        | (go_at_call 32; refine (known7_yes _).mono ?_; rintro e w3 ⟨rfl, hb3⟩; have HB3 := Lib.hid (below_after HB2.out hb3); have HX3 := Lib.hid (HX2.out.keep hb3); have HW3 := Lib.hid (HW2.out.keep hb3); have HK3 := Lib.hid (HK2.out.keep hb3); have HY3 := Lib.hid (HY.out.keep hb3); clear hb3)
        | (go_at_call 33; refine (rsame_any HX3.out HW3.out (by omega)).mono ?_; rintro e w4 ⟨rfl, hb4⟩; have HB4 := Lib.hid (below_after HB3.out hb4); have HK4 := Lib.hid (HK3.out.keep hb4); have HY4 := Lib.hid (HY3.out.keep hb4); clear hb4)
        | (go_at_call 34; refine (lsame_any HY4.out HK4.out (by omega)).mono ?_; rintro e w5 ⟨rfl, hb5⟩; have HB5 := Lib.hid (below_after HB4.out hb5); clear hb5)
        | (go_at_call 36; refine (rzig_any _ _ (by assumption) (by assumption)).mono ?_; rintro e w7 ⟨rfl, hw⟩; subst hw)
        | (go_at_call 38; refine (rzag_any _ _ (by assumption) (by assumption)).mono ?_; rintro e w8 ⟨rfl, hw⟩; subst hw)
        | (go_at_call 35; refine (zig_any _ _ (by assumption) (by assumption)).mono ?_; rintro e w6 ⟨rfl, hw⟩; subst hw)
        | (go_at_call 37; refine (zag_any _ _ (by assumption) (by assumption)).mono ?_; rintro e w6 ⟨rfl, hw⟩; subst hw; (try rw [HFz.out.1])))
      go_ret
      exact ⟨by simp [HFz.out.2], HB5.out⟩
end Go.Proofs.Ytenfaejdnphngaa
