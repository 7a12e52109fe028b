/- Walks of the document's fields: Read at bytes. -/
import Derived.Test.YtcbgknlklpandaaProX
namespace Go.Proofs.Ytcbgknlklpandaa
open Go.RowKit Go.Sort

theorem rdF_e2k {b : List Nat} (h : (rd b).2.2 = 0) (k : kyE (rd b).1 = 0) (h0 : (rd b).1 % 8 = 2) : rdF b = if (rd (b.drop (rd b).2.1)).2.2 ≠ 0 then (fdZ, 0, (rd (b.drop (rd b).2.1)).2.2) else if b.length - ((rd b).2.1 + (rd (b.drop (rd b).2.1)).2.1) < (rd (b.drop (rd b).2.1)).1 then (fdZ, 0, 4) else (⟨((rd b).1 / 8 : Nat), 2, 0, (b.drop ((rd b).2.1 + (rd (b.drop (rd b).2.1)).2.1)).take (rd (b.drop (rd b).2.1)).1⟩, (rd b).2.1 + (rd (b.drop (rd b).2.1)).2.1 + (rd (b.drop (rd b).2.1)).1, 0) := by
  obtain ⟨k1, k2⟩ := kyE_no k
  unfold rdF
  rw [if_neg (by omega), if_neg k1, if_neg (by rw [k2]; simp), if_neg (by omega), if_pos h0, Nat.sub_sub]
set_option maxRecDepth 100000 in
set_option maxHeartbeats 4000000 in
theorem rr_e1 {w : World} {v : Value} {b : List Nat} (hK : KL .u8 w v b) (hb : ∀ x ∈ b, x < 256) (hl : b.length ≤ 1000000) (he : (rd b).2.2 = 0) (hE : ¬ ((rd b).1 / 8 < 1 ∨ 536870911 < (rd b).1 / 8)) (hk0 : kyE (rd b).1 = 0) (h0 : (rd b).1 % 8 = 2) (hz2 : (rd (b.drop (rd b).2.1)).2.2 ≠ 0) : Calls Try.prog 40 #[v] w (R8Post b w) := by
  have hmx : Try.prog.follows .mixedOrders = true := by kernel_rfl
  have HRd := Lib.hid (fun V (h : KL .u8 V v b) => rrd_any h hb hl)
  have HK := Lib.hid hK
  have hr : rd b = ((rd b).1, (rd b).2.1, 0) := by rw [← he]
  obtain ⟨t1, t2, t3, _, k5⟩ := rd_ok hr hb
  clear hr
  obtain ⟨qv, c, rfl, hlc, _⟩ := id hK
  obtain ⟨g, o, rfl, HG⟩ := hK.from t2 (by omega)
  clear hK
  have hbd : ∀ x ∈ b.drop (rd b).2.1, x < 256 := fun x hx => hb x (List.mem_of_mem_drop hx)
  have hdl : (b.drop (rd b).2.1).length ≤ 1000000 := by rw [List.length_drop]; omega
  have HFr := Lib.hid (fun V (q' : Option Addr) (hq : q' = some ⟨g, o + (rd b).2.1, none⟩ ∨ (rd b).2.1 = b.length) (hV : Below w.heap.size w V) => (HG q' hq).keep hV)
  have hF := rdF_e2k he hk0 h0
  have HR2 := Lib.hid (fun V q' hq (hV : Below w.heap.size w V) => rrd_any (HFr.out V q' hq hV) hbd hdl)
  have HK10 : Hid ((rd (b.drop (rd b).2.1)).2.1 ≤ 10) := Lib.hid (rd_k10 _ hbd)
  have HOk2 : Hid ((rd (b.drop (rd b).2.1)).2.2 = 0 → (rd (b.drop (rd b).2.1)).2.1 ≤ b.length - (rd b).2.1 ∧ (rd (b.drop (rd b).2.1)).1 < 18446744073709551616) := Lib.hid (fun h => by have := rd_ok (show rd (b.drop (rd b).2.1) = ((rd (b.drop (rd b).2.1)).1, (rd (b.drop (rd b).2.1)).2.1, 0) by rw [← h]) hbd; rw [List.length_drop] at this; exact ⟨this.2.1, this.2.2.2.2⟩)
  have HK2q : Hid ((rd (b.drop (rd b).2.1)).2.2 = 0 → 0 < (rd (b.drop (rd b).2.1)).2.1) := Lib.hid (fun h => (rd_ok (show rd (b.drop (rd b).2.1) = ((rd (b.drop (rd b).2.1)).1, (rd (b.drop (rd b).2.1)).2.1, 0) by rw [← h]) hbd).1)
  have HNil : Hid ((rd b).2.1 = b.length → (rd (b.drop (rd b).2.1)).1 = 0 ∧ (rd (b.drop (rd b).2.1)).2.1 = 0 ∧ (rd (b.drop (rd b).2.1)).2.2 = 4) := Lib.hid (fun h => by rw [h, List.drop_length]; decide)
  have HRe : Hid (∀ V, Calls Try.prog 85 #[.slice (some ⟨g, o, none⟩) 0 0] V fun e w' => e = .returned (.tuple #[.int .u64 0, .int .i64 0, .int .i64 4]) ∧ Below V.heap.size V w') := Lib.hid (fun V => rrd_any (kl_none .u8 V _ 0) (fun x hx => by cases hx) (Nat.zero_le _))
  have HNo : Hid ((rd (b.drop (rd b).2.1)).2.2 = 0 → (rd b).2.1 < b.length) := Lib.hid (fun h => rd_lt h)
  unfold RdPost at HR2
  generalize hrd2 : rd (b.drop (rd b).2.1) = rd2 at *
  obtain ⟨n2, k2, e2⟩ := rd2
  unfold RdPost at HRd
  rw [he] at HRd
  have h1 : ((rd b).1 : Int) / 8 = (((rd b).1 / 8 : Nat) : Int) := by omega
  have h2 : ((rd b).1 : Int) % 8 = 2 := by omega
  have ha : (rd b).1 / 8 < 2305843009213693952 := by omega
  have hE1 : 1 ≤ (rd b).1 / 8 := by omega
  have hE2 : (rd b).1 / 8 ≤ 536870911 := by omega
  generalize (rd b).1 / 8 = a at *
  generalize (rd b).1 = u at *
  have ha1z : ¬ (a : Int) < 1 := by omega
  have ha2z : ¬ (536870911 : Int) < (a : Int) := by omega
  have x1 : IntKind.i64.wrap (a : Int) = (a : Int) := IntWalk.i64_in _ (by omega)
  generalize (rd b).2.1 = k at *
  have y6 : (k : Int) ≤ (c : Int) := by omega
  have y7 : (b.length : Int) ≤ (c : Int) := by omega
  have y8 : (k : Int) ≤ (b.length : Int) := by omega
  dsimp only at *
  clear hrd2 HFr hbd hb HG
  have h2 := hz2
  rw [if_pos h2] at hF
  have HF := Lib.hid (fun w' (h : Below w.heap.size w w') => r8_bad (b := b) (w := w) (w' := w') hF h)
  have hez : ¬ (e2 : Int) = 0 := by omega
  clear hF
  rcases Nat.lt_or_ge k c with hkc | hkc
  · have hck : ¬ k = c := by omega
    have hck2 : ¬ c = k := by omega
    go_enter Try.func40, Try.ntmps40
    go_wp2_with fail
    refine (HRd.out _ (HK.out.keep (below_alloc _ _))).mono ?_
    rintro en w1 ⟨rfl, hb1⟩
    have HB1 := Lib.hid (below_after (below_alloc w (.cells #[.int .i64 0, .int .i64 0, .int .u64 0, .string ⟨#[]⟩] 81)) hb1)
    have HZ1 := Lib.hid ((F4.new w 81 (.int .i64 0) (.int .i64 0) (.int .u64 0) (.string ⟨#[]⟩)).keep hb1)
    clear hb1
    have HS2 := Lib.hid (Rk.first HB1.out HZ1.out (a : Int) 2)
    go_upto_region 7 with fail
    clear HB1 HZ1
    generalize hk8 : w1.heap.size = k8 at *
    generalize w1.alloc (.cells #[.int .i64 (a : Int), .int .i64 2, .int .u64 0, .string ⟨#[]⟩] 81) = w2 at *
    clear hk8
    obtain ⟨c0, c1, c2, c3⟩ := HS2.out.f.cells
    obtain ⟨g0, g1, g2, g3⟩ := HS2.out.f.frozen
    go_wp2_with fail
    refine (HR2.out _ _ (.inl rfl) HS2.out.bl).mono ?_
    rintro en w3 ⟨rfl, hb3⟩
    have HS3 := Lib.hid (HS2.out.keep hb3)
    clear hb3 c0 c1 c2 c3 g0 g1 g2 g3
    obtain ⟨c0, c1, c2, c3⟩ := HS3.out.f.cells
    obtain ⟨g0, g1, g2, g3⟩ := HS3.out.f.frozen
    clear c0 c1 c2 c3 g0 g1 g2 g3
    obtain ⟨z0, z1, z2, z3⟩ := HS3.out.z.cells
    obtain ⟨y0, y1, y2, y3⟩ := HS3.out.z.frozen
    have HB6 := Lib.hid (below_put4 HS3.out.bl (Nat.le_refl _) (.int .i64 0) (.int .i64 0) (.int .u64 0) (.string ⟨#[]⟩))
    obtain ⟨d0, d1, d2, d3⟩ := (HS3.out.z.put (.int .i64 0) (.int .i64 0) (.int .u64 0) (.string ⟨#[]⟩)).cells
    have HD0 := Lib.hid d0
    have HD1 := Lib.hid d1
    have HD2 := Lib.hid d2
    have HD3 := Lib.hid d3
    clear d0 d1 d2 d3
    unfold put4 at HB6 HD0 HD1 HD2 HD3
    go_wp2_with fail
    refine bodyPost_ret (v := .tuple #[.agg #[.int .i64 0, .int .i64 0, .int .u64 0, .string ⟨#[]⟩], .int .i64 (0), .int .i64 ((e2 : Int))]) (by simp [results, Try.results40, go_sem, HD0.out, HD1.out, HD2.out, HD3.out]) rfl ?_
    exact HF.out _ HB6.out
  · obtain ⟨rfl, rfl, rfl⟩ := HNil.out (by omega)
    obtain rfl : k = c := by omega
    go_enter Try.func40, Try.ntmps40
    go_wp2_with fail
    refine (HRd.out _ (HK.out.keep (below_alloc _ _))).mono ?_
    rintro en w1 ⟨rfl, hb1⟩
    have HB1 := Lib.hid (below_after (below_alloc w (.cells #[.int .i64 0, .int .i64 0, .int .u64 0, .string ⟨#[]⟩] 81)) hb1)
    have HZ1 := Lib.hid ((F4.new w 81 (.int .i64 0) (.int .i64 0) (.int .u64 0) (.string ⟨#[]⟩)).keep hb1)
    clear hb1
    have HS2 := Lib.hid (Rk.first HB1.out HZ1.out (a : Int) 2)
    go_upto_region 7 with fail
    clear HB1 HZ1
    generalize hk8 : w1.heap.size = k8 at *
    generalize w1.alloc (.cells #[.int .i64 (a : Int), .int .i64 2, .int .u64 0, .string ⟨#[]⟩] 81) = w2 at *
    clear hk8
    obtain ⟨c0, c1, c2, c3⟩ := HS2.out.f.cells
    obtain ⟨g0, g1, g2, g3⟩ := HS2.out.f.frozen
    go_wp2_with fail
    refine (HRe.out _).mono ?_
    rintro en w3 ⟨rfl, hb3⟩
    have HS3 := Lib.hid (HS2.out.keep hb3)
    clear hb3 c0 c1 c2 c3 g0 g1 g2 g3
    obtain ⟨c0, c1, c2, c3⟩ := HS3.out.f.cells
    obtain ⟨g0, g1, g2, g3⟩ := HS3.out.f.frozen
    clear c0 c1 c2 c3 g0 g1 g2 g3
    obtain ⟨z0, z1, z2, z3⟩ := HS3.out.z.cells
    obtain ⟨y0, y1, y2, y3⟩ := HS3.out.z.frozen
    have HB6 := Lib.hid (below_put4 HS3.out.bl (Nat.le_refl _) (.int .i64 0) (.int .i64 0) (.int .u64 0) (.string ⟨#[]⟩))
    obtain ⟨d0, d1, d2, d3⟩ := (HS3.out.z.put (.int .i64 0) (.int .i64 0) (.int .u64 0) (.string ⟨#[]⟩)).cells
    have HD0 := Lib.hid d0
    have HD1 := Lib.hid d1
    have HD2 := Lib.hid d2
    have HD3 := Lib.hid d3
    clear d0 d1 d2 d3
    unfold put4 at HB6 HD0 HD1 HD2 HD3
    go_wp2_with fail
    refine bodyPost_ret (v := .tuple #[.agg #[.int .i64 0, .int .i64 0, .int .u64 0, .string ⟨#[]⟩], .int .i64 (0), .int .i64 (4)]) (by simp [results, Try.results40, go_sem, HD0.out, HD1.out, HD2.out, HD3.out]) rfl ?_
    exact HF.out _ HB6.out
end Go.Proofs.Ytcbgknlklpandaa
