/- Walks of proto: look at a number. -/
import Derived.Test.YtcbgknlklpandaaProC
namespace Go.Proofs.Ytcbgknlklpandaa
open Go.RowKit Go.Sort

set_option maxRecDepth 100000 in
set_option maxHeartbeats 4000000 in
theorem look_c {w : World} {v : Value} {b : List Nat} (hK : KL .u8 w v b) (hb : ∀ x ∈ b, x < 256) (hl : b.length ≤ 1000000) (he : (rd b).2.2 = 0) (hE : kyE (rd b).1 = 0) (h0 : (rd b).1 % 8 = 0) : Calls Try.prog 84 #[v] w (LkPost v b w) := by
  have hmx : Try.prog.follows .mixedOrders = true := by kernel_rfl
  have HRd := Lib.hid (fun V (h : KL .u8 V v b) => rd_any h hb hl)
  have HK := Lib.hid hK
  have HS0 := Lib.hid (Lk.start w)
  have hr : rd b = ((rd b).1, (rd b).2.1, 0) := by rw [← he]
  obtain ⟨t1, t2, t3, _, k5⟩ := rd_ok hr hb
  clear hr
  obtain ⟨qv, c, rfl, hlc, _⟩ := id hK
  obtain ⟨g, o, rfl, HG⟩ := hK.from t2 (by omega)
  clear hK
  have HKy := Lib.hid (fun V (a r : Nat) (ha : (rd b).1 / 8 = a) (hr : (rd b).1 % 8 = r) => pkeyed_ok k5 hE ha hr V)
  have HFr := Lib.hid (fun V (q' : Option Addr) (hq : q' = some ⟨g, o + (rd b).2.1, none⟩ ∨ (rd b).2.1 = b.length) (hV : Below w.heap.size w V) => (HG q' hq).keep hV)
  have hbd : ∀ x ∈ b.drop (rd b).2.1, x < 256 := fun x hx => hb x (List.mem_of_mem_drop hx)
  have hdl : (b.drop (rd b).2.1).length ≤ 1000000 := by rw [List.length_drop]; omega
  have hF := rdF_n he hE h0
  have HR2 := Lib.hid (fun V q' hq (hV : Below w.heap.size w V) => rd_any (HFr.out V q' hq hV) hbd hdl)
  have HKy := Lib.hid (fun V => HKy.out V _ 0 rfl h0)
  unfold RdPost at HRd HR2
  rw [he] at HRd
  have HK10 : Hid ((rd (b.drop (rd b).2.1)).2.1 ≤ 10) := Lib.hid (rd_k10 _ hbd)
  have HNil : Hid ((rd b).2.1 = b.length → (rd (b.drop (rd b).2.1)).1 = 0 ∧ (rd (b.drop (rd b).2.1)).2.1 = 0 ∧ (rd (b.drop (rd b).2.1)).2.2 = 4) := Lib.hid (fun h => by rw [h, List.drop_length]; decide)
  have HRe : Hid (∀ V, Calls Try.prog 112 #[.slice (some ⟨g, o, none⟩) 0 0] V fun e w' => e = .returned (.tuple #[.int .u64 0, .int .i64 0, .int .i64 4]) ∧ Below V.heap.size V w') := Lib.hid (fun V => rd_any (kl_none .u8 V _ 0) (fun x hx => by cases hx) (Nat.zero_le _))
  have HNo : Hid ((rd (b.drop (rd b).2.1)).2.2 = 0 → (rd b).2.1 < b.length) := Lib.hid (fun h => rd_lt h)
  generalize hrd2 : rd (b.drop (rd b).2.1) = rd2 at *
  obtain ⟨n2, k2, e2⟩ := rd2
  generalize (rd b).1 / 8 = a at *
  generalize (rd b).1 = u at *
  have hk2 : (rd b).2.1 ≤ b.length := by assumption
  have y6 : ((rd b).2.1 : Int) ≤ (c : Int) := by omega
  have y7 : (b.length : Int) ≤ (c : Int) := by omega
  have y8 : ((rd b).2.1 : Int) ≤ (b.length : Int) := by omega
  generalize (rd b).2.1 = k at *
  dsimp only at *
  clear hrd2 HFr hbd hb HG
  by_cases h2 : e2 = 0
  · subst h2
    rw [if_neg (by simp)] at hF
    have HF : Hid (∀ w', Below w.heap.size w w' → LkPost (.slice (some ⟨g, o, none⟩) b.length c) b w (.returned (.tuple #[.agg #[.int .i64 (a : Int), .int .i64 0, .int .u64 (n2 : Int), .slice none 0 0], .int .i64 ((k + k2 : Nat) : Int), .int .i64 0])) w') := Lib.hid (fun w' h => by unfold LkPost; rw [hF]; exact ⟨none, 0, rfl, fun _ _ => kl_none _ _ _ _, h⟩)
    have hk2l : k2 ≤ 10 := HK10.out
    have xk : IntKind.i64.wrap ((k : Int) + (k2 : Int)) = ((k + k2 : Nat) : Int) := by rw [IntWalk.i64_in _ (by omega)]; omega
    have hkl := HNo.out (by simp)
    clear hF
    rcases Nat.lt_or_ge k c with hkc | hkc
    · have hck : ¬ k = c := by omega
      have hck2 : ¬ c = k := by omega
      go_enter Try.func84, Try.ntmps84
      go_wp2_with fail
      refine wp_scope_straight ?_
      go_wp2_with fail
      refine (HRd.out _ (HK.out.keep HS0.out.bl)).mono ?_
      rintro en w1 ⟨rfl, hb1⟩
      have HS1 := Lib.hid (HS0.out.keep hb1)
      clear hb1
      go_wp2_with fail
      refine (HKy.out _).mono ?_
      rintro en w2 ⟨rfl, hb2⟩
      have HS2 := Lib.hid (HS1.out.keep hb2)
      obtain ⟨c0, c1, c2, c3⟩ := HS2.out.f.cells
      obtain ⟨g0, g1, g2, g3⟩ := HS2.out.f.frozen
      have HS3 := Lib.hid (HS2.out.put (.int .i64 (a : Int)) (.int .i64 0) (.int .u64 0) (.slice none 0 0))
      clear hb2
      unfold put4 at HS3
      obtain ⟨p0, p1, p2, p3⟩ := HS3.out.f.cells
      obtain ⟨r0, r1, r2, r3⟩ := HS3.out.f.frozen
      go_wp2_with fail
      refine (HR2.out _ _ (.inl rfl) (HS3.out.bl)).mono ?_
      rintro en w3 ⟨rfl, hb3⟩
      have HS4 := Lib.hid (HS3.out.keep hb3)
      clear c0 c1 c2 c3 g0 g1 g2 g3 p0 p1 p2 p3 r0 r1 r2 r3 hb3
      obtain ⟨x0, x1, x2, x3⟩ := HS4.out.f.cells
      obtain ⟨y0, y1, y2, y3⟩ := HS4.out.f.frozen
      have HS5 := Lib.hid (HS4.out.set2 (.int .u64 (n2 : Int)))
      obtain ⟨c0, c1, c2, c3⟩ := HS5.out.f.cells
      obtain ⟨g0, g1, g2, g3⟩ := HS5.out.f.frozen
      obtain ⟨m0, m1, m2, m3⟩ := HS5.out.z.cells
      obtain ⟨o0, o1, o2, o3⟩ := HS5.out.z.frozen
      have HB := Lib.hid (below_put4 HS5.out.bl (Nat.le_refl _) (.int .i64 (a : Int)) (.int .i64 0) (.int .u64 (n2 : Int)) (.slice none 0 0))
      obtain ⟨d0, d1, d2, d3⟩ := (HS5.out.z.put (.int .i64 (a : Int)) (.int .i64 0) (.int .u64 (n2 : Int)) (.slice none 0 0)).cells
      have HD0 := Lib.hid d0
      have HD1 := Lib.hid d1
      have HD2 := Lib.hid d2
      have HD3 := Lib.hid d3
      clear d0 d1 d2 d3
      unfold put4 at HB HD0 HD1 HD2 HD3
      go_wp2_with fail
      refine bodyPost_ret (v := .tuple #[.agg #[.int .i64 (a : Int), .int .i64 0, .int .u64 (n2 : Int), .slice none 0 0], .int .i64 (((k + k2 : Nat) : Int)), .int .i64 0]) (by simp [results, Try.results84, go_sem, HD0.out, HD1.out, HD2.out, HD3.out]) rfl ?_
      exact HF.out _ HB.out
    · omega
  · rw [if_pos h2] at hF
    have HF := Lib.hid (fun w' (h : Below w.heap.size w w') => lk_bad (v := .slice (some ⟨g, o, none⟩) b.length c) (w := w) (w' := w') hF h)
    have hez : ¬ (e2 : Int) = 0 := by omega
    clear hF
    rcases Nat.lt_or_ge k c with hkc | hkc
    · have hck : ¬ k = c := by omega
      have hck2 : ¬ c = k := by omega
      go_enter Try.func84, Try.ntmps84
      go_wp2_with fail
      apply wp_scope_onceS (l := 0) (S := fun W => Below w.heap.size w W ∧ F4 W w.heap.size 77 (.int .i64 0) (.int .i64 0) (.int .u64 0) (.slice none 0 0)) (hf := rfl)
      case first =>
        go_wp2_with fail
        refine (HRd.out _ (HK.out.keep HS0.out.bl)).mono ?_
        rintro en w1 ⟨rfl, hb1⟩
        have HS1 := Lib.hid (HS0.out.keep hb1)
        clear hb1
        go_wp2_with fail
        refine (HKy.out _).mono ?_
        rintro en w2 ⟨rfl, hb2⟩
        have HS2 := Lib.hid (HS1.out.keep hb2)
        obtain ⟨c0, c1, c2, c3⟩ := HS2.out.f.cells
        obtain ⟨g0, g1, g2, g3⟩ := HS2.out.f.frozen
        have HS3 := Lib.hid (HS2.out.put (.int .i64 (a : Int)) (.int .i64 0) (.int .u64 0) (.slice none 0 0))
        clear hb2
        unfold put4 at HS3
        obtain ⟨p0, p1, p2, p3⟩ := HS3.out.f.cells
        obtain ⟨r0, r1, r2, r3⟩ := HS3.out.f.frozen
        go_wp2_with fail
        refine (HR2.out _ _ (.inl rfl) (HS3.out.bl)).mono ?_
        rintro en w3 ⟨rfl, hb3⟩
        have HS4 := Lib.hid (HS3.out.keep hb3)
        clear c0 c1 c2 c3 g0 g1 g2 g3 p0 p1 p2 p3 r0 r1 r2 r3 hb3
        obtain ⟨c0, c1, c2, c3⟩ := HS4.out.f.cells
        obtain ⟨g0, g1, g2, g3⟩ := HS4.out.f.frozen
        have HS5 := Lib.hid (HS4.out.set2 (.int .u64 (n2 : Int)))
        go_wp2_with fail
        go_step3
        exact ⟨rfl, rfl, HS5.out.bl, HS5.out.z⟩
      case pass =>
        rintro W ⟨hBl, hZ⟩
        obtain ⟨z0, z1, z2, z3⟩ := hZ.cells
        obtain ⟨y0, y1, y2, y3⟩ := hZ.frozen
        have HB := Lib.hid (below_put4 hBl (Nat.le_refl _) (.int .i64 0) (.int .i64 0) (.int .u64 0) (.slice none 0 0))
        obtain ⟨d0, d1, d2, d3⟩ := (hZ.put (.int .i64 0) (.int .i64 0) (.int .u64 0) (.slice none 0 0)).cells
        have HD0 := Lib.hid d0
        have HD1 := Lib.hid d1
        have HD2 := Lib.hid d2
        have HD3 := Lib.hid d3
        clear d0 d1 d2 d3 hBl hZ
        unfold put4 at *
        go_wp2_with fail
        refine bodyPost_ret (v := .tuple #[.agg #[.int .i64 0, .int .i64 0, .int .u64 0, .slice none 0 0], .int .i64 0, .int .i64 (e2 : Int)]) (by simp [results, Try.results84, go_sem, HD0.out, HD1.out, HD2.out, HD3.out]) rfl ?_
        exact HF.out _ HB.out
    · obtain ⟨rfl, rfl, rfl⟩ := HNil.out (by omega)
      obtain rfl : k = c := by omega
      go_enter Try.func84, Try.ntmps84
      go_wp2_with fail
      apply wp_scope_onceS (l := 0) (S := fun W => Below w.heap.size w W ∧ F4 W w.heap.size 77 (.int .i64 0) (.int .i64 0) (.int .u64 0) (.slice none 0 0)) (hf := rfl)
      case first =>
        go_wp2_with fail
        refine (HRd.out _ (HK.out.keep HS0.out.bl)).mono ?_
        rintro en w1 ⟨rfl, hb1⟩
        have HS1 := Lib.hid (HS0.out.keep hb1)
        clear hb1
        go_wp2_with fail
        refine (HKy.out _).mono ?_
        rintro en w2 ⟨rfl, hb2⟩
        have HS2 := Lib.hid (HS1.out.keep hb2)
        obtain ⟨c0, c1, c2, c3⟩ := HS2.out.f.cells
        obtain ⟨g0, g1, g2, g3⟩ := HS2.out.f.frozen
        have HS3 := Lib.hid (HS2.out.put (.int .i64 (a : Int)) (.int .i64 0) (.int .u64 0) (.slice none 0 0))
        clear hb2
        unfold put4 at HS3
        obtain ⟨p0, p1, p2, p3⟩ := HS3.out.f.cells
        obtain ⟨r0, r1, r2, r3⟩ := HS3.out.f.frozen
        go_wp2_with fail
        refine (HRe.out _).mono ?_
        rintro en w3 ⟨rfl, hb3⟩
        have HS4 := Lib.hid (HS3.out.keep hb3)
        clear c0 c1 c2 c3 g0 g1 g2 g3 p0 p1 p2 p3 r0 r1 r2 r3 hb3
        obtain ⟨c0, c1, c2, c3⟩ := HS4.out.f.cells
        obtain ⟨g0, g1, g2, g3⟩ := HS4.out.f.frozen
        have HS5 := Lib.hid (HS4.out.set2 (.int .u64 (0 : Int)))
        go_wp2_with fail
        go_step3
        exact ⟨rfl, rfl, HS5.out.bl, HS5.out.z⟩
      case pass =>
        rintro W ⟨hBl, hZ⟩
        obtain ⟨z0, z1, z2, z3⟩ := hZ.cells
        obtain ⟨y0, y1, y2, y3⟩ := hZ.frozen
        have HB := Lib.hid (below_put4 hBl (Nat.le_refl _) (.int .i64 0) (.int .i64 0) (.int .u64 0) (.slice none 0 0))
        obtain ⟨d0, d1, d2, d3⟩ := (hZ.put (.int .i64 0) (.int .i64 0) (.int .u64 0) (.slice none 0 0)).cells
        have HD0 := Lib.hid d0
        have HD1 := Lib.hid d1
        have HD2 := Lib.hid d2
        have HD3 := Lib.hid d3
        clear d0 d1 d2 d3 hBl hZ
        unfold put4 at *
        go_wp2_with fail
        refine bodyPost_ret (v := .tuple #[.agg #[.int .i64 0, .int .i64 0, .int .u64 0, .slice none 0 0], .int .i64 0, .int .i64 (4 : Int)]) (by simp [results, Try.results84, go_sem, HD0.out, HD1.out, HD2.out, HD3.out]) rfl ?_
        exact HF.out _ HB.out
end Go.Proofs.Ytcbgknlklpandaa
