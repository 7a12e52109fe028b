/- Walks of the document's fields: Read at bytes. -/
import Derived.Test.YtcbgknlklpandaaProX
namespace Go.Proofs.Ytcbgknlklpandaa
open Go.RowKit Go.Sort

theorem rdF_e2kc {b : List Nat} (h : (rd b).2.2 = 0) (k : kyE (rd b).1 = 0) (h0 : (rd b).1 % 8 = 2) : rdF b = if (rd (b.drop (rd b).2.1)).2.2 ≠ 0 then (fdZ, 0, (rd (b.drop (rd b).2.1)).2.2) else if b.length - ((rd b).2.1 + (rd (b.drop (rd b).2.1)).2.1) < (rd (b.drop (rd b).2.1)).1 then (fdZ, 0, 4) else (⟨((rd b).1 / 8 : Nat), 2, 0, (b.drop ((rd b).2.1 + (rd (b.drop (rd b).2.1)).2.1)).take (rd (b.drop (rd b).2.1)).1⟩, (rd b).2.1 + (rd (b.drop (rd b).2.1)).2.1 + (rd (b.drop (rd b).2.1)).1, 0) := by
  obtain ⟨k1, k2⟩ := kyE_no k
  unfold rdF
  rw [if_neg (by omega), if_neg k1, if_neg (by rw [k2]; simp), if_neg (by omega), if_pos h0, Nat.sub_sub]
set_option maxRecDepth 100000 in
set_option maxHeartbeats 4000000 in
theorem rr_e3 {w : World} {v : Value} {b : List Nat} (hK : KL .u8 w v b) (hb : ∀ x ∈ b, x < 256) (hl : b.length ≤ 1000000) (he : (rd b).2.2 = 0) (hE : ¬ ((rd b).1 / 8 < 1 ∨ 536870911 < (rd b).1 / 8)) (hk0 : kyE (rd b).1 = 0) (h0 : (rd b).1 % 8 = 2) (hz2 : (rd (b.drop (rd b).2.1)).2.2 = 0) (hn : ¬ b.length - ((rd b).2.1 + (rd (b.drop (rd b).2.1)).2.1) < (rd (b.drop (rd b).2.1)).1) : Calls Try.prog 40 #[v] w (R8Post b w) := by
  have hmx : Try.prog.follows .mixedOrders = true := by kernel_rfl
  have HRd := Lib.hid (fun V (h : KL .u8 V v b) => rrd_any h hb hl)
  have HK := Lib.hid hK
  have hr : rd b = ((rd b).1, (rd b).2.1, 0) := by rw [← he]
  obtain ⟨t1, t2, t3, _, k5⟩ := rd_ok hr hb
  clear hr
  obtain ⟨qv, c, rfl, hlc, _⟩ := id hK
  obtain ⟨g, o, rfl, HG⟩ := hK.from t2 (by omega)
  clear hK
  have hbd : ∀ x ∈ b.drop (rd b).2.1, x < 256 := fun x hx => hb x (List.mem_of_mem_drop hx)
  have hdl : (b.drop (rd b).2.1).length ≤ 1000000 := by rw [List.length_drop]; omega
  have HFr := Lib.hid (fun V (q' : Option Addr) (hq : q' = some ⟨g, o + (rd b).2.1, none⟩ ∨ (rd b).2.1 = b.length) (hV : Below w.heap.size w V) => (HG q' hq).keep hV)
  have hF := rdF_e2kc he hk0 h0
  have HR2 := Lib.hid (fun V q' hq (hV : Below w.heap.size w V) => rrd_any (HFr.out V q' hq hV) hbd hdl)
  have HK10 : Hid ((rd (b.drop (rd b).2.1)).2.1 ≤ 10) := Lib.hid (rd_k10 _ hbd)
  have HOk2 : Hid ((rd (b.drop (rd b).2.1)).2.2 = 0 → (rd (b.drop (rd b).2.1)).2.1 ≤ b.length - (rd b).2.1 ∧ (rd (b.drop (rd b).2.1)).1 < 18446744073709551616) := Lib.hid (fun h => by have := rd_ok (show rd (b.drop (rd b).2.1) = ((rd (b.drop (rd b).2.1)).1, (rd (b.drop (rd b).2.1)).2.1, 0) by rw [← h]) hbd; rw [List.length_drop] at this; exact ⟨this.2.1, this.2.2.2.2⟩)
  have HK2q : Hid ((rd (b.drop (rd b).2.1)).2.2 = 0 → 0 < (rd (b.drop (rd b).2.1)).2.1) := Lib.hid (fun h => (rd_ok (show rd (b.drop (rd b).2.1) = ((rd (b.drop (rd b).2.1)).1, (rd (b.drop (rd b).2.1)).2.1, 0) by rw [← h]) hbd).1)
  have HNil : Hid ((rd b).2.1 = b.length → (rd (b.drop (rd b).2.1)).1 = 0 ∧ (rd (b.drop (rd b).2.1)).2.1 = 0 ∧ (rd (b.drop (rd b).2.1)).2.2 = 4) := Lib.hid (fun h => by rw [h, List.drop_length]; decide)
  have HRe : Hid (∀ V, Calls Try.prog 85 #[.slice (some ⟨g, o, none⟩) 0 0] V fun e w' => e = .returned (.tuple #[.int .u64 0, .int .i64 0, .int .i64 4]) ∧ Below V.heap.size V w') := Lib.hid (fun V => rrd_any (kl_none .u8 V _ 0) (fun x hx => by cases hx) (Nat.zero_le _))
  have HNo : Hid ((rd (b.drop (rd b).2.1)).2.2 = 0 → (rd b).2.1 < b.length) := Lib.hid (fun h => rd_lt h)
  unfold RdPost at HR2
  generalize hrd2 : rd (b.drop (rd b).2.1) = rd2 at *
  obtain ⟨n2, k2, e2⟩ := rd2
  unfold RdPost at HRd
  rw [he] at HRd
  have h1 : ((rd b).1 : Int) / 8 = (((rd b).1 / 8 : Nat) : Int) := by omega
  have h2 : ((rd b).1 : Int) % 8 = 2 := by omega
  have ha : (rd b).1 / 8 < 2305843009213693952 := by omega
  have hE1 : 1 ≤ (rd b).1 / 8 := by omega
  have hE2 : (rd b).1 / 8 ≤ 536870911 := by omega
  generalize (rd b).1 / 8 = a at *
  generalize (rd b).1 = u at *
  have ha1z : ¬ (a : Int) < 1 := by omega
  have ha2z : ¬ (536870911 : Int) < (a : Int) := by omega
  have x1 : IntKind.i64.wrap (a : Int) = (a : Int) := IntWalk.i64_in _ (by omega)
  generalize (rd b).2.1 = k at *
  have y6 : (k : Int) ≤ (c : Int) := by omega
  have y7 : (b.length : Int) ≤ (c : Int) := by omega
  have y8 : (k : Int) ≤ (b.length : Int) := by omega
  dsimp only at *
  clear hrd2 HFr hbd hb HG
  have h2 := hz2
  subst h2
  obtain ⟨m1, m2⟩ := HOk2.out rfl
  have hk2l := HK10.out
  have hkl := HNo.out rfl
  have HK2p := Lib.hid (HK2q.out rfl)
  have xk : IntKind.i64.wrap ((k : Int) + (k2 : Int)) = ((k + k2 : Nat) : Int) := by rw [IntWalk.i64_in _ (by omega)]; omega
  have hck : ¬ k = c := by omega
  have hck2 : ¬ c = k := by omega
  have xs : IntKind.u64.wrap ((b.length : Int) - ((k + k2 : Nat) : Int)) = ((b.length - (k + k2) : Nat) : Int) := by rw [IntWalk.u64_in _ (by omega)]; omega
  have xs0 : IntKind.i64.wrap ((b.length : Int) - ((k + k2 : Nat) : Int)) = (b.length : Int) - ((k + k2 : Nat) : Int) := IntWalk.i64_in _ (by omega)
  rw [if_neg (by simp)] at hF
  have hnz : ¬ ((b.length - (k + k2) : Nat) : Int) < (n2 : Int) := by omega
  have hF2 := hF
  rw [if_neg hn] at hF2
  have xn : IntKind.i64.wrap (n2 : Int) = (n2 : Int) := IntWalk.i64_in _ (by omega)
  have xe : IntKind.i64.wrap (((k + k2 : Nat) : Int) + (n2 : Int)) = ((k + k2 + n2 : Nat) : Int) := by rw [IntWalk.i64_in _ (by omega)]; omega
  have z1 : ((k + k2 : Nat) : Int) ≤ ((k + k2 + n2 : Nat) : Int) := by omega
  have z2 : ((k + k2 + n2 : Nat) : Int) ≤ (c : Int) := by omega
  have HKT : Hid (∀ V (q' : Option Addr), (q' = some ⟨g, o + (k + k2), none⟩ ∨ k + k2 = b.length) → Below w.heap.size w V → KL .u8 V (.slice q' n2 (c - (k + k2))) ((b.drop (k + k2)).take n2)) := Lib.hid (fun V q' hq hV => by have h := (((HK.out.keep hV).from2 (m := k + k2) (by omega) (by omega) hq).take (m := n2) (by rw [List.length_drop]; omega)); exact h)
  generalize hsb : bst ((b.drop (k + k2)).take n2) = sb at *
  have HF : Hid (∀ w', Below w.heap.size w w' → R8Post b w (.returned (.tuple #[.agg #[.int .i64 (a : Int), .int .i64 2, .int .u64 0, .string sb], .int .i64 ((k + k2 + n2 : Nat) : Int), .int .i64 0])) w') := Lib.hid (fun w' h => by unfold R8Post; rw [hF2]; exact ⟨by rw [← hsb]; rfl, h⟩)
  have HSb := Lib.hid hsb
  clear hF hF2 hsb
  rcases Nat.lt_or_ge (k + k2) c with hdd | hdd
  · have hdc : ¬ k + k2 = c := by omega
    have hdc2 : ¬ c = k + k2 := by omega
    go_enter Try.func40, Try.ntmps40
    go_wp2_with fail
    refine (HRd.out _ (HK.out.keep (below_alloc _ _))).mono ?_
    rintro en w1 ⟨rfl, hb1⟩
    have HB1 := Lib.hid (below_after (below_alloc w (.cells #[.int .i64 0, .int .i64 0, .int .u64 0, .string ⟨#[]⟩] 81)) hb1)
    have HZ1 := Lib.hid ((F4.new w 81 (.int .i64 0) (.int .i64 0) (.int .u64 0) (.string ⟨#[]⟩)).keep hb1)
    clear hb1
    have HS2 := Lib.hid (Rk.first HB1.out HZ1.out (a : Int) 2)
    go_upto_region 7 with fail
    clear HB1 HZ1
    generalize hk8 : w1.heap.size = k8 at *
    generalize w1.alloc (.cells #[.int .i64 (a : Int), .int .i64 2, .int .u64 0, .string ⟨#[]⟩] 81) = w2 at *
    clear hk8
    obtain ⟨c0, c1, c2, c3⟩ := HS2.out.f.cells
    obtain ⟨g0, g1, g2, g3⟩ := HS2.out.f.frozen
    go_wp2_with fail
    refine (HR2.out _ _ (.inl rfl) HS2.out.bl).mono ?_
    rintro en w3 ⟨rfl, hb3⟩
    have HS3 := Lib.hid (HS2.out.keep hb3)
    clear hb3 c0 c1 c2 c3 g0 g1 g2 g3
    obtain ⟨c0, c1, c2, c3⟩ := HS3.out.f.cells
    obtain ⟨g0, g1, g2, g3⟩ := HS3.out.f.frozen
    go_upto_region 25 with fail
    have hcv := conv_bst (HKT.out w3 (some ⟨g, o + (k + k2), none⟩) (.inl rfl) HS3.out.bl)
    rw [HSb.out] at hcv
    have HS4 := Lib.hid (HS3.out.set3 (.string sb))
    go_upto_region 26 with fail
    clear c0 c1 c2 c3 g0 g1 g2 g3 hcv
    obtain ⟨c0, c1, c2, c3⟩ := HS4.out.f.cells
    obtain ⟨z0, z1, z2, z3⟩ := HS4.out.z.cells
    obtain ⟨y0, y1, y2, y3⟩ := HS4.out.z.frozen
    have HB6 := Lib.hid (below_put4 HS4.out.bl (Nat.le_refl _) (.int .i64 (a : Int)) (.int .i64 2) (.int .u64 0) (.string sb))
    obtain ⟨d0, d1, d2, d3⟩ := (HS4.out.z.put (.int .i64 (a : Int)) (.int .i64 2) (.int .u64 0) (.string sb)).cells
    have HD0 := Lib.hid d0
    have HD1 := Lib.hid d1
    have HD2 := Lib.hid d2
    have HD3 := Lib.hid d3
    clear d0 d1 d2 d3
    unfold put4 at HB6 HD0 HD1 HD2 HD3
    go_wp2_with fail
    refine bodyPost_ret (v := .tuple #[.agg #[.int .i64 (a : Int), .int .i64 2, .int .u64 0, .string sb], .int .i64 (((k + k2 + n2 : Nat) : Int)), .int .i64 (0)]) (by simp [results, Try.results40, go_sem, HD0.out, HD1.out, HD2.out, HD3.out]) rfl ?_
    exact HF.out _ HB6.out
  · go_enter Try.func40, Try.ntmps40
    go_wp2_with fail
    refine (HRd.out _ (HK.out.keep (below_alloc _ _))).mono ?_
    rintro en w1 ⟨rfl, hb1⟩
    have HB1 := Lib.hid (below_after (below_alloc w (.cells #[.int .i64 0, .int .i64 0, .int .u64 0, .string ⟨#[]⟩] 81)) hb1)
    have HZ1 := Lib.hid ((F4.new w 81 (.int .i64 0) (.int .i64 0) (.int .u64 0) (.string ⟨#[]⟩)).keep hb1)
    clear hb1
    have HS2 := Lib.hid (Rk.first HB1.out HZ1.out (a : Int) 2)
    go_upto_region 7 with fail
    clear HB1 HZ1
    generalize hk8 : w1.heap.size = k8 at *
    generalize w1.alloc (.cells #[.int .i64 (a : Int), .int .i64 2, .int .u64 0, .string ⟨#[]⟩] 81) = w2 at *
    clear hk8
    obtain ⟨c0, c1, c2, c3⟩ := HS2.out.f.cells
    obtain ⟨g0, g1, g2, g3⟩ := HS2.out.f.frozen
    go_wp2_with fail
    refine (HR2.out _ _ (.inl rfl) HS2.out.bl).mono ?_
    rintro en w3 ⟨rfl, hb3⟩
    have HS3 := Lib.hid (HS2.out.keep hb3)
    clear hb3 c0 c1 c2 c3 g0 g1 g2 g3
    obtain ⟨c0, c1, c2, c3⟩ := HS3.out.f.cells
    obtain ⟨g0, g1, g2, g3⟩ := HS3.out.f.frozen
    have hdec : ¬ (IntKind.u64.wrap ((b.length : Int) - ((k : Int) + (k2 : Int))) < (n2 : Int)) := by rw [IntWalk.u64_in _ (by omega)]; omega
    have HCB : Hid (k + k2 = b.length) := Lib.hid (by omega)
    have HCC : Hid (k + k2 = c) := Lib.hid (by omega)
    have HN2 : Hid (n2 = 0) := Lib.hid (by omega)
    clear hdd hn hlc hkl m1 y8
    go_upto_region 25 with fail
    have hc0 := HCC.out
    have hn0 := HN2.out
    clear xs xs0 hnz hdec xe xk xn z1 z2 y6 y7 hk2l
    subst hn0
    subst hc0
    have hcv := conv_bst (HKT.out w3 (some ⟨g, o, none⟩) (.inr HCB.out) HS3.out.bl)
    rw [HSb.out] at hcv
    rw [Nat.sub_self] at hcv
    have HS4 := Lib.hid (HS3.out.set3 (.string sb))
    go_upto_region 26 with fail
    clear c0 c1 c2 c3 g0 g1 g2 g3 hcv
    obtain ⟨c0, c1, c2, c3⟩ := HS4.out.f.cells
    obtain ⟨z0, z1, z2, z3⟩ := HS4.out.z.cells
    obtain ⟨y0, y1, y2, y3⟩ := HS4.out.z.frozen
    have HB6 := Lib.hid (below_put4 HS4.out.bl (Nat.le_refl _) (.int .i64 (a : Int)) (.int .i64 2) (.int .u64 0) (.string sb))
    obtain ⟨d0, d1, d2, d3⟩ := (HS4.out.z.put (.int .i64 (a : Int)) (.int .i64 2) (.int .u64 0) (.string sb)).cells
    have HD0 := Lib.hid d0
    have HD1 := Lib.hid d1
    have HD2 := Lib.hid d2
    have HD3 := Lib.hid d3
    clear d0 d1 d2 d3
    unfold put4 at HB6 HD0 HD1 HD2 HD3
    go_wp2_with fail
    refine bodyPost_ret (v := .tuple #[.agg #[.int .i64 (a : Int), .int .i64 2, .int .u64 0, .string sb], .int .i64 (((k + k2 + 0 : Nat) : Int)), .int .i64 (0)]) (by simp [results, Try.results40, go_sem, HD0.out, HD1.out, HD2.out, HD3.out]) rfl ?_
    exact HF.out _ HB6.out
end Go.Proofs.Ytcbgknlklpandaa
