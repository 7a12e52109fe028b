/- Walks of proto: look at a word. -/
import Derived.Test.YtcbgknlklpandaaProC
namespace Go.Proofs.Ytcbgknlklpandaa
open Go.RowKit Go.Sort

set_option maxRecDepth 100000 in
set_option maxHeartbeats 4000000 in
theorem look_e {w : World} {v : Value} {b : List Nat} (hK : KL .u8 w v b) (hb : ∀ x ∈ b, x < 256) (hl : b.length ≤ 1000000) (he : (rd b).2.2 = 0) (hE : kyE (rd b).1 = 0) (h0 : (rd b).1 % 8 = 1) : Calls Try.prog 84 #[v] w (LkPost v b w) := by
  have hmx : Try.prog.follows .mixedOrders = true := by kernel_rfl
  have HRd := Lib.hid (fun V (h : KL .u8 V v b) => rd_any h hb hl)
  have HK := Lib.hid hK
  have HS0 := Lib.hid (Lk.start w)
  have hr : rd b = ((rd b).1, (rd b).2.1, 0) := by rw [← he]
  obtain ⟨t1, t2, t3, _, k5⟩ := rd_ok hr hb
  clear hr
  obtain ⟨qv, c, rfl, hlc, _⟩ := id hK
  obtain ⟨g, o, rfl, HG⟩ := hK.from t2 (by omega)
  clear hK
  have HKy := Lib.hid (fun V (a r : Nat) (ha : (rd b).1 / 8 = a) (hr : (rd b).1 % 8 = r) => pkeyed_ok k5 hE ha hr V)
  have HFr := Lib.hid (fun V (q' : Option Addr) (hq : q' = some ⟨g, o + (rd b).2.1, none⟩ ∨ (rd b).2.1 = b.length) (hV : Below w.heap.size w V) => (HG q' hq).keep hV)
  have hbd : ∀ x ∈ b.drop (rd b).2.1, x < 256 := fun x hx => hb x (List.mem_of_mem_drop hx)
  have hdl : (b.drop (rd b).2.1).length ≤ 1000000 := by rw [List.length_drop]; omega
  have hF := rdF_w he hE (by omega) (by omega)
  rw [h0, show wid ((1 : Nat) : Int) = 8 from rfl] at hF
  have HR2 := Lib.hid (fun V (q' : Option Addr) (hq : q' = some ⟨g, o + (rd b).2.1, none⟩ ∨ (rd b).2.1 = b.length) (hV : Below w.heap.size w V) => pword_any (HFr.out V q' hq hV) hbd 8 (by omega))
  have HKy := Lib.hid (fun V => HKy.out V _ 1 rfl h0)
  have HWi := Lib.hid (fun V => pwidth_any 1 V)
  unfold RdPost at HRd
  rw [he] at HRd
  have HNil : Hid ((rd b).2.1 = b.length → (b.drop (rd b).2.1).length = 0) := Lib.hid (fun h => by rw [h, List.drop_length]; rfl)
  have HRe : Hid (∀ V, Calls Try.prog 115 #[.slice (some ⟨g, o, none⟩) 0 0, .int .i64 8] V fun e w' => e = .returned (.tuple #[.int .u64 0, .int .i64 0, .int .i64 4]) ∧ Below V.heap.size V w') := Lib.hid (fun V => pword_any (kl_none .u8 V _ 0) (fun x hx => by cases hx) 8 (by omega))
  unfold WdPost at HR2
  generalize unl ((b.drop (rd b).2.1).take 8) = n2 at *
  generalize (b.drop (rd b).2.1).length = m at *
  generalize (rd b).1 / 8 = a at *
  generalize (rd b).1 = u at *
  have hk2 : (rd b).2.1 ≤ b.length := by assumption
  have y6 : ((rd b).2.1 : Int) ≤ (c : Int) := by omega
  have y7 : (b.length : Int) ≤ (c : Int) := by omega
  have y8 : ((rd b).2.1 : Int) ≤ (b.length : Int) := by omega
  generalize (rd b).2.1 = k at *
  clear HFr hbd hb HG
  by_cases h2 : m < 8
  · rw [if_pos h2] at hF
    simp only [if_pos h2] at HR2
    have HF := Lib.hid (fun w' (h : Below w.heap.size w w') => lk_bad (v := .slice (some ⟨g, o, none⟩) b.length c) (w := w) (w' := w') hF h)
    clear hF
    rcases Nat.lt_or_ge k c with hkc | hkc
    · have hck : ¬ k = c := by omega
      have hck2 : ¬ c = k := by omega
      go_enter Try.func84, Try.ntmps84
      go_wp2_with fail
      apply wp_scope_onceS (l := 0) (S := fun W => Below w.heap.size w W ∧ F4 W w.heap.size 77 (.int .i64 0) (.int .i64 0) (.int .u64 0) (.slice none 0 0)) (hf := rfl)
      case first =>
        go_wp2_with fail
        refine (HRd.out _ (HK.out.keep HS0.out.bl)).mono ?_
        rintro en w1 ⟨rfl, hb1⟩
        have HS1 := Lib.hid (HS0.out.keep hb1)
        clear hb1
        go_wp2_with fail
        refine (HKy.out _).mono ?_
        rintro en w2 ⟨rfl, hb2⟩
        have HS2 := Lib.hid (HS1.out.keep hb2)
        obtain ⟨c0, c1, c2, c3⟩ := HS2.out.f.cells
        obtain ⟨g0, g1, g2, g3⟩ := HS2.out.f.frozen
        have HS3 := Lib.hid (HS2.out.put (.int .i64 (a : Int)) (.int .i64 1) (.int .u64 0) (.slice none 0 0))
        clear hb2
        unfold put4 at HS3
        obtain ⟨p0, p1, p2, p3⟩ := HS3.out.f.cells
        obtain ⟨r0, r1, r2, r3⟩ := HS3.out.f.frozen
        go_upto_region 8 with fail
        clear c0 c1 c2 c3 g0 g1 g2 g3 p0 p1 p2 p3 r0 r1 r2 r3
        generalize ((((w2.setCell ⟨w.heap.size + 1, 0, none⟩ (.int .i64 (a : Int))).setCell ⟨w.heap.size + 1, 1, none⟩ (.int .i64 1)).setCell ⟨w.heap.size + 1, 2, none⟩ (.int .u64 0)).setCell ⟨w.heap.size + 1, 3, none⟩ (.slice none 0 0)) = w4 at *
        have HV := Lib.hid (HS3.out.keep (Below.refl _ _).drew)
        have hp1 := HV.out.f.cells.2.1
        refine wp_region_held_drew (S := fun W' => W'.cell? ⟨w.heap.size + 1, 1, none⟩ = some (.int .i64 1)) (by kernel_rfl) hp1 (fun hHeld => ?_)
        generalize w4.drew = w5 at *
        refine wpAnyH_take (i := 0) (oi := { dst := some 28, op := Op.move (Operand.tmp 0), type := 62, pos := "read.go:73", after := #[], guard := none }) (v := ?_) rfl (by kernel_rfl) (by kernel_rfl) (by kernel_rfl) (fun _ _ _ h => h) (Or.inl ⟨by rfl, ?_⟩) (by with_reducible assumption) ?_
        rotate_left
        focus (intro wS hSw; (try dsimp only at hSw); go_simp <;> with_reducible rfl)
        try go_frame
        refine wpAnyH_take (i := 1) (oi := { dst := some 29, op := Op.move (Operand.tmp 8), type := 3, pos := "read.go:73", after := #[], guard := none }) (v := ?_) rfl (by kernel_rfl) (by kernel_rfl) (by kernel_rfl) (fun _ _ _ h => h) (Or.inl ⟨by rfl, ?_⟩) (by with_reducible assumption) ?_
        rotate_left
        focus (intro wS hSw; (try dsimp only at hSw); go_simp <;> with_reducible rfl)
        try go_frame
        refine wpAnyH_take (i := 2) (oi := { dst := some 30, op := Op.slice 62 (Operand.tmp 28) (some (Operand.tmp 29)) none none, type := 62, pos := "read.go:73", after := #[{ on := 0, ground := Ground.data }, { on := 1, ground := Ground.data }], guard := none }) (v := ?_) rfl (by kernel_rfl) (by kernel_rfl) (by kernel_rfl) (fun _ _ _ h => h) (Or.inl ⟨by rfl, ?_⟩) (by with_reducible assumption) ?_
        rotate_left
        focus (intro wS hSw; (try dsimp only at hSw); go_simp <;> with_reducible rfl)
        try go_frame
        refine wpAnyH_take (i := 3) (oi := { dst := some 31, op := Op.fieldAddr 77 (Operand.tmp 5) 1, type := 0, pos := "read.go:73", after := #[], guard := none }) (v := ?_) rfl (by kernel_rfl) (by kernel_rfl) (by kernel_rfl) (fun _ _ _ h => h) (Or.inl ⟨by rfl, ?_⟩) (by with_reducible assumption) ?_
        rotate_left
        focus (intro wS hSw; (try dsimp only at hSw); go_simp <;> with_reducible rfl)
        try go_frame
        refine wpAnyH_take (i := 4) (oi := { dst := some 32, op := Op.load 3 (Operand.tmp 31), type := 3, pos := "read.go:73", after := #[{ on := 3, ground := Ground.data }], guard := none }) (v := ?_) rfl (by kernel_rfl) (by kernel_rfl) (by kernel_rfl) (fun _ _ _ h => h) (Or.inl ⟨by rfl, ?_⟩) (by with_reducible assumption) ?_
        rotate_left
        focus (intro wS hSw; (try dsimp only at hSw); go_simp <;> with_reducible rfl)
        try go_frame
        refine wpAnyH_ready (rs := [5]) (by kernel_rfl) (by simp) ?_
        refine AllReadyH.cons (i := 5) (o := { dst := some 33, op := Op.call { callee := Callee.value (Operand.func 108), args := #[Operand.tmp 32], argTypes := #[3] }, type := 3, pos := "read.go:73", after := #[{ on := 4, ground := Ground.data }], guard := none }) rfl (fun K hK => ?_) AllReadyH.nil
        go_simp
        go_at_call 108
        refine (HWi.out _).mono ?_
        rintro en wz ⟨rfl, hwz⟩
        subst hwz
        refine hK.out _ _ hp1 (fun hHeld => ?_)
        clear hK K
        try go_frame
        refine wpAnyH_ready (rs := [6]) (by kernel_rfl) (by simp) ?_
        refine AllReadyH.cons (i := 6) (o := { dst := some 34, op := Op.call { callee := Callee.value (Operand.func 115), args := #[Operand.tmp 30, Operand.tmp 33], argTypes := #[62, 3] }, type := 167, pos := "read.go:73", after := #[{ on := 2, ground := Ground.data }, { on := 5, ground := Ground.data }, { on := 5, ground := Ground.chain }], guard := none }) rfl (fun K hK => ?_) AllReadyH.nil
        go_simp
        go_at_call 115
        refine (HR2.out _ _ (.inl rfl) (HV.out.bl)).mono ?_
        rintro en w3 ⟨rfl, hb3⟩
        have HS4 := Lib.hid (HV.out.keep hb3)
        obtain ⟨x0, x1, x2, x3⟩ := HS4.out.f.cells
        obtain ⟨y0, y1, y2, y3⟩ := HS4.out.f.frozen
        have HS5 := Lib.hid (HS4.out.set2 (.int .u64 0))
        have HP4 := Lib.hid HS4.out.f.cells.2.1
        have HP5 := Lib.hid HS5.out.f.cells.2.1
        refine hK.out _ _ HP4.out (fun hHeld => ?_)
        clear hK K
        try go_frame
        refine wpAnyH_take (i := 7) (oi := { dst := some 27, op := Op.move (Operand.tmp 34), type := 167, pos := "read.go:73", after := #[{ on := 6, ground := Ground.data }], guard := none }) (v := ?_) rfl (by kernel_rfl) (by kernel_rfl) (by kernel_rfl) (fun _ _ _ h => h) (Or.inl ⟨by rfl, ?_⟩) (by with_reducible assumption) ?_
        rotate_left
        focus (intro wS hSw; (try dsimp only at hSw); go_simp <;> with_reducible rfl)
        try go_frame
        refine wpAnyH_take (i := 8) (oi := { dst := some 35, op := Op.extract (Operand.tmp 27) 0, type := 36, pos := "read.go:73", after := #[{ on := 7, ground := Ground.data }], guard := none }) (v := ?_) rfl (by kernel_rfl) (by kernel_rfl) (by kernel_rfl) (fun _ _ _ h => h) (Or.inl ⟨by rfl, ?_⟩) (by with_reducible assumption) ?_
        rotate_left
        focus (intro wS hSw; (try dsimp only at hSw); go_simp <;> with_reducible rfl)
        try go_frame
        refine wpAnyH_take (i := 9) (oi := { dst := some 36, op := Op.extract (Operand.tmp 27) 1, type := 3, pos := "read.go:73", after := #[{ on := 7, ground := Ground.data }, { on := 12, ground := Ground.gcOnly Departure.lateStores }], guard := none }) (v := ?_) rfl (by kernel_rfl) (by kernel_rfl) (by kernel_rfl) (fun _ _ _ h => h) (Or.inl ⟨by rfl, ?_⟩) (by with_reducible assumption) ?_
        rotate_left
        focus (intro wS hSw; (try dsimp only at hSw); go_simp <;> with_reducible rfl)
        try go_frame
        refine wpAnyH_take (i := 10) (oi := { dst := some 37, op := Op.extract (Operand.tmp 27) 2, type := 63, pos := "read.go:73", after := #[{ on := 7, ground := Ground.data }, { on := 13, ground := Ground.gcOnly Departure.lateStores }], guard := none }) (v := ?_) rfl (by kernel_rfl) (by kernel_rfl) (by kernel_rfl) (fun _ _ _ h => h) (Or.inl ⟨by rfl, ?_⟩) (by with_reducible assumption) ?_
        rotate_left
        focus (intro wS hSw; (try dsimp only at hSw); go_simp <;> with_reducible rfl)
        try go_frame
        refine wpAnyH_take (i := 11) (oi := { dst := some 38, op := Op.fieldAddr 77 (Operand.tmp 5) 2, type := 0, pos := "read.go:73", after := #[{ on := 0, ground := Ground.phase }, { on := 1, ground := Ground.phase }, { on := 2, ground := Ground.phase }, { on := 3, ground := Ground.phase }, { on := 4, ground := Ground.phase }, { on := 5, ground := Ground.phase }, { on := 6, ground := Ground.phase }, { on := 7, ground := Ground.phase }, { on := 8, ground := Ground.phase }, { on := 9, ground := Ground.textOnly Departure.lateStores }, { on := 10, ground := Ground.textOnly Departure.lateStores }], guard := none }) (v := ?_) rfl (by kernel_rfl) (by kernel_rfl) (by kernel_rfl) (fun _ _ _ h => h) (Or.inl ⟨by rfl, ?_⟩) (by with_reducible assumption) ?_
        rotate_left
        focus (intro wS hSw; (try dsimp only at hSw); go_simp <;> with_reducible rfl)
        try go_frame
        refine wpAnyH_ready (rs := [12]) (by kernel_rfl) (by simp) ?_
        refine AllReadyH.cons (i := 12) (o := { dst := none, op := Op.store 36 (Operand.tmp 38) (Operand.tmp 35), type := 0, pos := "read.go:73", after := #[{ on := 11, ground := Ground.data }, { on := 8, ground := Ground.data }, { on := 6, ground := Ground.chain }, { on := 0, ground := Ground.phase }, { on := 1, ground := Ground.phase }, { on := 2, ground := Ground.phase }, { on := 3, ground := Ground.phase }, { on := 4, ground := Ground.phase }, { on := 5, ground := Ground.phase }, { on := 6, ground := Ground.phase }, { on := 7, ground := Ground.phase }, { on := 8, ground := Ground.phase }, { on := 9, ground := Ground.textOnly Departure.lateStores }, { on := 10, ground := Ground.textOnly Departure.lateStores }], guard := none }) rfl (fun K hK => ?_) AllReadyH.nil
        go_simp
        refine hK.out _ _ HP5.out (fun hHeld => ?_)
        clear hK K
        try go_frame
        refine wpAnyH_ready (rs := [13]) (by kernel_rfl) (by simp) ?_
        refine AllReadyH.cons (i := 13) (o := { dst := some 6, op := Op.assign (Operand.tmp 36), type := 3, pos := "read.go:73", after := #[{ on := 9, ground := Ground.data }, { on := 12, ground := Ground.chain }, { on := 0, ground := Ground.phase }, { on := 1, ground := Ground.phase }, { on := 2, ground := Ground.phase }, { on := 3, ground := Ground.phase }, { on := 4, ground := Ground.phase }, { on := 5, ground := Ground.phase }, { on := 6, ground := Ground.phase }, { on := 7, ground := Ground.phase }, { on := 8, ground := Ground.phase }, { on := 9, ground := Ground.phase }, { on := 10, ground := Ground.textOnly Departure.lateStores }, { on := 11, ground := Ground.phase }, { on := 12, ground := Ground.phase }], guard := none }) rfl (fun K hK => ?_) AllReadyH.nil
        go_simp
        refine hK.out _ _ HP5.out (fun hHeld => ?_)
        clear hK K
        try go_frame
        refine wpAnyH_ready (rs := [14]) (by kernel_rfl) (by simp) ?_
        refine AllReadyH.cons (i := 14) (o := { dst := some 9, op := Op.assign (Operand.tmp 37), type := 63, pos := "read.go:73", after := #[{ on := 10, ground := Ground.data }, { on := 13, ground := Ground.chain }, { on := 0, ground := Ground.phase }, { on := 1, ground := Ground.phase }, { on := 2, ground := Ground.phase }, { on := 3, ground := Ground.phase }, { on := 4, ground := Ground.phase }, { on := 5, ground := Ground.phase }, { on := 6, ground := Ground.phase }, { on := 7, ground := Ground.phase }, { on := 8, ground := Ground.phase }, { on := 9, ground := Ground.phase }, { on := 10, ground := Ground.phase }, { on := 11, ground := Ground.phase }, { on := 12, ground := Ground.phase }, { on := 13, ground := Ground.phase }], guard := none }) rfl (fun K hK => ?_) AllReadyH.nil
        go_simp
        refine hK.out _ _ HP5.out (fun hHeld => ?_)
        clear hK K
        try go_frame
        refine wpAnyH_done (by kernel_rfl) ?_ _
        go_wp2_with fail
        go_step3
        exact ⟨rfl, rfl, HS5.out.bl, HS5.out.z⟩
      case pass =>
        rintro W ⟨hBl, hZ⟩
        obtain ⟨z0, z1, z2, z3⟩ := hZ.cells
        obtain ⟨y0, y1, y2, y3⟩ := hZ.frozen
        have HB := Lib.hid (below_put4 hBl (Nat.le_refl _) (.int .i64 0) (.int .i64 0) (.int .u64 0) (.slice none 0 0))
        obtain ⟨d0, d1, d2, d3⟩ := (hZ.put (.int .i64 0) (.int .i64 0) (.int .u64 0) (.slice none 0 0)).cells
        have HD0 := Lib.hid d0
        have HD1 := Lib.hid d1
        have HD2 := Lib.hid d2
        have HD3 := Lib.hid d3
        clear d0 d1 d2 d3 hBl hZ
        unfold put4 at *
        go_wp2_with fail
        refine bodyPost_ret (v := .tuple #[.agg #[.int .i64 0, .int .i64 0, .int .u64 0, .slice none 0 0], .int .i64 0, .int .i64 (4 : Int)]) (by simp [results, Try.results84, go_sem, HD0.out, HD1.out, HD2.out, HD3.out]) rfl ?_
        exact HF.out _ HB.out
    · obtain rfl : k = c := by omega
      go_enter Try.func84, Try.ntmps84
      go_wp2_with fail
      apply wp_scope_onceS (l := 0) (S := fun W => Below w.heap.size w W ∧ F4 W w.heap.size 77 (.int .i64 0) (.int .i64 0) (.int .u64 0) (.slice none 0 0)) (hf := rfl)
      case first =>
        go_wp2_with fail
        refine (HRd.out _ (HK.out.keep HS0.out.bl)).mono ?_
        rintro en w1 ⟨rfl, hb1⟩
        have HS1 := Lib.hid (HS0.out.keep hb1)
        clear hb1
        go_wp2_with fail
        refine (HKy.out _).mono ?_
        rintro en w2 ⟨rfl, hb2⟩
        have HS2 := Lib.hid (HS1.out.keep hb2)
        obtain ⟨c0, c1, c2, c3⟩ := HS2.out.f.cells
        obtain ⟨g0, g1, g2, g3⟩ := HS2.out.f.frozen
        have HS3 := Lib.hid (HS2.out.put (.int .i64 (a : Int)) (.int .i64 1) (.int .u64 0) (.slice none 0 0))
        clear hb2
        unfold put4 at HS3
        obtain ⟨p0, p1, p2, p3⟩ := HS3.out.f.cells
        obtain ⟨r0, r1, r2, r3⟩ := HS3.out.f.frozen
        go_upto_region 8 with fail
        clear c0 c1 c2 c3 g0 g1 g2 g3 p0 p1 p2 p3 r0 r1 r2 r3
        generalize ((((w2.setCell ⟨w.heap.size + 1, 0, none⟩ (.int .i64 (a : Int))).setCell ⟨w.heap.size + 1, 1, none⟩ (.int .i64 1)).setCell ⟨w.heap.size + 1, 2, none⟩ (.int .u64 0)).setCell ⟨w.heap.size + 1, 3, none⟩ (.slice none 0 0)) = w4 at *
        have HV := Lib.hid (HS3.out.keep (Below.refl _ _).drew)
        have hp1 := HV.out.f.cells.2.1
        refine wp_region_held_drew (S := fun W' => W'.cell? ⟨w.heap.size + 1, 1, none⟩ = some (.int .i64 1)) (by kernel_rfl) hp1 (fun hHeld => ?_)
        generalize w4.drew = w5 at *
        refine wpAnyH_take (i := 0) (oi := { dst := some 28, op := Op.move (Operand.tmp 0), type := 62, pos := "read.go:73", after := #[], guard := none }) (v := ?_) rfl (by kernel_rfl) (by kernel_rfl) (by kernel_rfl) (fun _ _ _ h => h) (Or.inl ⟨by rfl, ?_⟩) (by with_reducible assumption) ?_
        rotate_left
        focus (intro wS hSw; (try dsimp only at hSw); go_simp <;> with_reducible rfl)
        try go_frame
        refine wpAnyH_take (i := 1) (oi := { dst := some 29, op := Op.move (Operand.tmp 8), type := 3, pos := "read.go:73", after := #[], guard := none }) (v := ?_) rfl (by kernel_rfl) (by kernel_rfl) (by kernel_rfl) (fun _ _ _ h => h) (Or.inl ⟨by rfl, ?_⟩) (by with_reducible assumption) ?_
        rotate_left
        focus (intro wS hSw; (try dsimp only at hSw); go_simp <;> with_reducible rfl)
        try go_frame
        refine wpAnyH_take (i := 2) (oi := { dst := some 30, op := Op.slice 62 (Operand.tmp 28) (some (Operand.tmp 29)) none none, type := 62, pos := "read.go:73", after := #[{ on := 0, ground := Ground.data }, { on := 1, ground := Ground.data }], guard := none }) (v := ?_) rfl (by kernel_rfl) (by kernel_rfl) (by kernel_rfl) (fun _ _ _ h => h) (Or.inl ⟨by rfl, ?_⟩) (by with_reducible assumption) ?_
        rotate_left
        focus (intro wS hSw; (try dsimp only at hSw); go_simp <;> with_reducible rfl)
        try go_frame
        refine wpAnyH_take (i := 3) (oi := { dst := some 31, op := Op.fieldAddr 77 (Operand.tmp 5) 1, type := 0, pos := "read.go:73", after := #[], guard := none }) (v := ?_) rfl (by kernel_rfl) (by kernel_rfl) (by kernel_rfl) (fun _ _ _ h => h) (Or.inl ⟨by rfl, ?_⟩) (by with_reducible assumption) ?_
        rotate_left
        focus (intro wS hSw; (try dsimp only at hSw); go_simp <;> with_reducible rfl)
        try go_frame
        refine wpAnyH_take (i := 4) (oi := { dst := some 32, op := Op.load 3 (Operand.tmp 31), type := 3, pos := "read.go:73", after := #[{ on := 3, ground := Ground.data }], guard := none }) (v := ?_) rfl (by kernel_rfl) (by kernel_rfl) (by kernel_rfl) (fun _ _ _ h => h) (Or.inl ⟨by rfl, ?_⟩) (by with_reducible assumption) ?_
        rotate_left
        focus (intro wS hSw; (try dsimp only at hSw); go_simp <;> with_reducible rfl)
        try go_frame
        refine wpAnyH_ready (rs := [5]) (by kernel_rfl) (by simp) ?_
        refine AllReadyH.cons (i := 5) (o := { dst := some 33, op := Op.call { callee := Callee.value (Operand.func 108), args := #[Operand.tmp 32], argTypes := #[3] }, type := 3, pos := "read.go:73", after := #[{ on := 4, ground := Ground.data }], guard := none }) rfl (fun K hK => ?_) AllReadyH.nil
        go_simp
        go_at_call 108
        refine (HWi.out _).mono ?_
        rintro en wz ⟨rfl, hwz⟩
        subst hwz
        refine hK.out _ _ hp1 (fun hHeld => ?_)
        clear hK K
        try go_frame
        refine wpAnyH_ready (rs := [6]) (by kernel_rfl) (by simp) ?_
        refine AllReadyH.cons (i := 6) (o := { dst := some 34, op := Op.call { callee := Callee.value (Operand.func 115), args := #[Operand.tmp 30, Operand.tmp 33], argTypes := #[62, 3] }, type := 167, pos := "read.go:73", after := #[{ on := 2, ground := Ground.data }, { on := 5, ground := Ground.data }, { on := 5, ground := Ground.chain }], guard := none }) rfl (fun K hK => ?_) AllReadyH.nil
        go_simp
        go_at_call 115
        refine (HRe.out _).mono ?_
        rintro en w3 ⟨rfl, hb3⟩
        have HS4 := Lib.hid (HV.out.keep hb3)
        obtain ⟨x0, x1, x2, x3⟩ := HS4.out.f.cells
        obtain ⟨y0, y1, y2, y3⟩ := HS4.out.f.frozen
        have HS5 := Lib.hid (HS4.out.set2 (.int .u64 0))
        have HP4 := Lib.hid HS4.out.f.cells.2.1
        have HP5 := Lib.hid HS5.out.f.cells.2.1
        refine hK.out _ _ HP4.out (fun hHeld => ?_)
        clear hK K
        try go_frame
        refine wpAnyH_take (i := 7) (oi := { dst := some 27, op := Op.move (Operand.tmp 34), type := 167, pos := "read.go:73", after := #[{ on := 6, ground := Ground.data }], guard := none }) (v := ?_) rfl (by kernel_rfl) (by kernel_rfl) (by kernel_rfl) (fun _ _ _ h => h) (Or.inl ⟨by rfl, ?_⟩) (by with_reducible assumption) ?_
        rotate_left
        focus (intro wS hSw; (try dsimp only at hSw); go_simp <;> with_reducible rfl)
        try go_frame
        refine wpAnyH_take (i := 8) (oi := { dst := some 35, op := Op.extract (Operand.tmp 27) 0, type := 36, pos := "read.go:73", after := #[{ on := 7, ground := Ground.data }], guard := none }) (v := ?_) rfl (by kernel_rfl) (by kernel_rfl) (by kernel_rfl) (fun _ _ _ h => h) (Or.inl ⟨by rfl, ?_⟩) (by with_reducible assumption) ?_
        rotate_left
        focus (intro wS hSw; (try dsimp only at hSw); go_simp <;> with_reducible rfl)
        try go_frame
        refine wpAnyH_take (i := 9) (oi := { dst := some 36, op := Op.extract (Operand.tmp 27) 1, type := 3, pos := "read.go:73", after := #[{ on := 7, ground := Ground.data }, { on := 12, ground := Ground.gcOnly Departure.lateStores }], guard := none }) (v := ?_) rfl (by kernel_rfl) (by kernel_rfl) (by kernel_rfl) (fun _ _ _ h => h) (Or.inl ⟨by rfl, ?_⟩) (by with_reducible assumption) ?_
        rotate_left
        focus (intro wS hSw; (try dsimp only at hSw); go_simp <;> with_reducible rfl)
        try go_frame
        refine wpAnyH_take (i := 10) (oi := { dst := some 37, op := Op.extract (Operand.tmp 27) 2, type := 63, pos := "read.go:73", after := #[{ on := 7, ground := Ground.data }, { on := 13, ground := Ground.gcOnly Departure.lateStores }], guard := none }) (v := ?_) rfl (by kernel_rfl) (by kernel_rfl) (by kernel_rfl) (fun _ _ _ h => h) (Or.inl ⟨by rfl, ?_⟩) (by with_reducible assumption) ?_
        rotate_left
        focus (intro wS hSw; (try dsimp only at hSw); go_simp <;> with_reducible rfl)
        try go_frame
        refine wpAnyH_take (i := 11) (oi := { dst := some 38, op := Op.fieldAddr 77 (Operand.tmp 5) 2, type := 0, pos := "read.go:73", after := #[{ on := 0, ground := Ground.phase }, { on := 1, ground := Ground.phase }, { on := 2, ground := Ground.phase }, { on := 3, ground := Ground.phase }, { on := 4, ground := Ground.phase }, { on := 5, ground := Ground.phase }, { on := 6, ground := Ground.phase }, { on := 7, ground := Ground.phase }, { on := 8, ground := Ground.phase }, { on := 9, ground := Ground.textOnly Departure.lateStores }, { on := 10, ground := Ground.textOnly Departure.lateStores }], guard := none }) (v := ?_) rfl (by kernel_rfl) (by kernel_rfl) (by kernel_rfl) (fun _ _ _ h => h) (Or.inl ⟨by rfl, ?_⟩) (by with_reducible assumption) ?_
        rotate_left
        focus (intro wS hSw; (try dsimp only at hSw); go_simp <;> with_reducible rfl)
        try go_frame
        refine wpAnyH_ready (rs := [12]) (by kernel_rfl) (by simp) ?_
        refine AllReadyH.cons (i := 12) (o := { dst := none, op := Op.store 36 (Operand.tmp 38) (Operand.tmp 35), type := 0, pos := "read.go:73", after := #[{ on := 11, ground := Ground.data }, { on := 8, ground := Ground.data }, { on := 6, ground := Ground.chain }, { on := 0, ground := Ground.phase }, { on := 1, ground := Ground.phase }, { on := 2, ground := Ground.phase }, { on := 3, ground := Ground.phase }, { on := 4, ground := Ground.phase }, { on := 5, ground := Ground.phase }, { on := 6, ground := Ground.phase }, { on := 7, ground := Ground.phase }, { on := 8, ground := Ground.phase }, { on := 9, ground := Ground.textOnly Departure.lateStores }, { on := 10, ground := Ground.textOnly Departure.lateStores }], guard := none }) rfl (fun K hK => ?_) AllReadyH.nil
        go_simp
        refine hK.out _ _ HP5.out (fun hHeld => ?_)
        clear hK K
        try go_frame
        refine wpAnyH_ready (rs := [13]) (by kernel_rfl) (by simp) ?_
        refine AllReadyH.cons (i := 13) (o := { dst := some 6, op := Op.assign (Operand.tmp 36), type := 3, pos := "read.go:73", after := #[{ on := 9, ground := Ground.data }, { on := 12, ground := Ground.chain }, { on := 0, ground := Ground.phase }, { on := 1, ground := Ground.phase }, { on := 2, ground := Ground.phase }, { on := 3, ground := Ground.phase }, { on := 4, ground := Ground.phase }, { on := 5, ground := Ground.phase }, { on := 6, ground := Ground.phase }, { on := 7, ground := Ground.phase }, { on := 8, ground := Ground.phase }, { on := 9, ground := Ground.phase }, { on := 10, ground := Ground.textOnly Departure.lateStores }, { on := 11, ground := Ground.phase }, { on := 12, ground := Ground.phase }], guard := none }) rfl (fun K hK => ?_) AllReadyH.nil
        go_simp
        refine hK.out _ _ HP5.out (fun hHeld => ?_)
        clear hK K
        try go_frame
        refine wpAnyH_ready (rs := [14]) (by kernel_rfl) (by simp) ?_
        refine AllReadyH.cons (i := 14) (o := { dst := some 9, op := Op.assign (Operand.tmp 37), type := 63, pos := "read.go:73", after := #[{ on := 10, ground := Ground.data }, { on := 13, ground := Ground.chain }, { on := 0, ground := Ground.phase }, { on := 1, ground := Ground.phase }, { on := 2, ground := Ground.phase }, { on := 3, ground := Ground.phase }, { on := 4, ground := Ground.phase }, { on := 5, ground := Ground.phase }, { on := 6, ground := Ground.phase }, { on := 7, ground := Ground.phase }, { on := 8, ground := Ground.phase }, { on := 9, ground := Ground.phase }, { on := 10, ground := Ground.phase }, { on := 11, ground := Ground.phase }, { on := 12, ground := Ground.phase }, { on := 13, ground := Ground.phase }], guard := none }) rfl (fun K hK => ?_) AllReadyH.nil
        go_simp
        refine hK.out _ _ HP5.out (fun hHeld => ?_)
        clear hK K
        try go_frame
        refine wpAnyH_done (by kernel_rfl) ?_ _
        go_wp2_with fail
        go_step3
        exact ⟨rfl, rfl, HS5.out.bl, HS5.out.z⟩
      case pass =>
        rintro W ⟨hBl, hZ⟩
        obtain ⟨z0, z1, z2, z3⟩ := hZ.cells
        obtain ⟨y0, y1, y2, y3⟩ := hZ.frozen
        have HB := Lib.hid (below_put4 hBl (Nat.le_refl _) (.int .i64 0) (.int .i64 0) (.int .u64 0) (.slice none 0 0))
        obtain ⟨d0, d1, d2, d3⟩ := (hZ.put (.int .i64 0) (.int .i64 0) (.int .u64 0) (.slice none 0 0)).cells
        have HD0 := Lib.hid d0
        have HD1 := Lib.hid d1
        have HD2 := Lib.hid d2
        have HD3 := Lib.hid d3
        clear d0 d1 d2 d3 hBl hZ
        unfold put4 at *
        go_wp2_with fail
        refine bodyPost_ret (v := .tuple #[.agg #[.int .i64 0, .int .i64 0, .int .u64 0, .slice none 0 0], .int .i64 0, .int .i64 (4 : Int)]) (by simp [results, Try.results84, go_sem, HD0.out, HD1.out, HD2.out, HD3.out]) rfl ?_
        exact HF.out _ HB.out
  · rw [if_neg h2] at hF
    simp only [if_neg h2] at HR2
    have HF : Hid (∀ w', Below w.heap.size w w' → LkPost (.slice (some ⟨g, o, none⟩) b.length c) b w (.returned (.tuple #[.agg #[.int .i64 (a : Int), .int .i64 1, .int .u64 (n2 : Int), .slice none 0 0], .int .i64 ((k + 8 : Nat) : Int), .int .i64 0])) w') := Lib.hid (fun w' h => by unfold LkPost; rw [hF]; exact ⟨none, 0, rfl, fun _ _ => kl_none _ _ _ _, h⟩)
    have xk : IntKind.i64.wrap ((k : Int) + 8) = ((k + 8 : Nat) : Int) := by rw [IntWalk.i64_in _ (by omega)]; omega
    clear hF
    rcases Nat.lt_or_ge k c with hkc | hkc
    · have hck : ¬ k = c := by omega
      have hck2 : ¬ c = k := by omega
      go_enter Try.func84, Try.ntmps84
      go_wp2_with fail
      refine wp_scope_straight ?_
      go_wp2_with fail
      refine (HRd.out _ (HK.out.keep HS0.out.bl)).mono ?_
      rintro en w1 ⟨rfl, hb1⟩
      have HS1 := Lib.hid (HS0.out.keep hb1)
      clear hb1
      go_wp2_with fail
      refine (HKy.out _).mono ?_
      rintro en w2 ⟨rfl, hb2⟩
      have HS2 := Lib.hid (HS1.out.keep hb2)
      obtain ⟨c0, c1, c2, c3⟩ := HS2.out.f.cells
      obtain ⟨g0, g1, g2, g3⟩ := HS2.out.f.frozen
      have HS3 := Lib.hid (HS2.out.put (.int .i64 (a : Int)) (.int .i64 1) (.int .u64 0) (.slice none 0 0))
      clear hb2
      unfold put4 at HS3
      obtain ⟨p0, p1, p2, p3⟩ := HS3.out.f.cells
      obtain ⟨r0, r1, r2, r3⟩ := HS3.out.f.frozen
      go_upto_region 8 with fail
      clear c0 c1 c2 c3 g0 g1 g2 g3 p0 p1 p2 p3 r0 r1 r2 r3
      generalize ((((w2.setCell ⟨w.heap.size + 1, 0, none⟩ (.int .i64 (a : Int))).setCell ⟨w.heap.size + 1, 1, none⟩ (.int .i64 1)).setCell ⟨w.heap.size + 1, 2, none⟩ (.int .u64 0)).setCell ⟨w.heap.size + 1, 3, none⟩ (.slice none 0 0)) = w4 at *
      have HV := Lib.hid (HS3.out.keep (Below.refl _ _).drew)
      have hp1 := HV.out.f.cells.2.1
      refine wp_region_held_drew (S := fun W' => W'.cell? ⟨w.heap.size + 1, 1, none⟩ = some (.int .i64 1)) (by kernel_rfl) hp1 (fun hHeld => ?_)
      generalize w4.drew = w5 at *
      refine wpAnyH_take (i := 0) (oi := { dst := some 28, op := Op.move (Operand.tmp 0), type := 62, pos := "read.go:73", after := #[], guard := none }) (v := ?_) rfl (by kernel_rfl) (by kernel_rfl) (by kernel_rfl) (fun _ _ _ h => h) (Or.inl ⟨by rfl, ?_⟩) (by with_reducible assumption) ?_
      rotate_left
      focus (intro wS hSw; (try dsimp only at hSw); go_simp <;> with_reducible rfl)
      try go_frame
      refine wpAnyH_take (i := 1) (oi := { dst := some 29, op := Op.move (Operand.tmp 8), type := 3, pos := "read.go:73", after := #[], guard := none }) (v := ?_) rfl (by kernel_rfl) (by kernel_rfl) (by kernel_rfl) (fun _ _ _ h => h) (Or.inl ⟨by rfl, ?_⟩) (by with_reducible assumption) ?_
      rotate_left
      focus (intro wS hSw; (try dsimp only at hSw); go_simp <;> with_reducible rfl)
      try go_frame
      refine wpAnyH_take (i := 2) (oi := { dst := some 30, op := Op.slice 62 (Operand.tmp 28) (some (Operand.tmp 29)) none none, type := 62, pos := "read.go:73", after := #[{ on := 0, ground := Ground.data }, { on := 1, ground := Ground.data }], guard := none }) (v := ?_) rfl (by kernel_rfl) (by kernel_rfl) (by kernel_rfl) (fun _ _ _ h => h) (Or.inl ⟨by rfl, ?_⟩) (by with_reducible assumption) ?_
      rotate_left
      focus (intro wS hSw; (try dsimp only at hSw); go_simp <;> with_reducible rfl)
      try go_frame
      refine wpAnyH_take (i := 3) (oi := { dst := some 31, op := Op.fieldAddr 77 (Operand.tmp 5) 1, type := 0, pos := "read.go:73", after := #[], guard := none }) (v := ?_) rfl (by kernel_rfl) (by kernel_rfl) (by kernel_rfl) (fun _ _ _ h => h) (Or.inl ⟨by rfl, ?_⟩) (by with_reducible assumption) ?_
      rotate_left
      focus (intro wS hSw; (try dsimp only at hSw); go_simp <;> with_reducible rfl)
      try go_frame
      refine wpAnyH_take (i := 4) (oi := { dst := some 32, op := Op.load 3 (Operand.tmp 31), type := 3, pos := "read.go:73", after := #[{ on := 3, ground := Ground.data }], guard := none }) (v := ?_) rfl (by kernel_rfl) (by kernel_rfl) (by kernel_rfl) (fun _ _ _ h => h) (Or.inl ⟨by rfl, ?_⟩) (by with_reducible assumption) ?_
      rotate_left
      focus (intro wS hSw; (try dsimp only at hSw); go_simp <;> with_reducible rfl)
      try go_frame
      refine wpAnyH_ready (rs := [5]) (by kernel_rfl) (by simp) ?_
      refine AllReadyH.cons (i := 5) (o := { dst := some 33, op := Op.call { callee := Callee.value (Operand.func 108), args := #[Operand.tmp 32], argTypes := #[3] }, type := 3, pos := "read.go:73", after := #[{ on := 4, ground := Ground.data }], guard := none }) rfl (fun K hK => ?_) AllReadyH.nil
      go_simp
      go_at_call 108
      refine (HWi.out _).mono ?_
      rintro en wz ⟨rfl, hwz⟩
      subst hwz
      refine hK.out _ _ hp1 (fun hHeld => ?_)
      clear hK K
      try go_frame
      refine wpAnyH_ready (rs := [6]) (by kernel_rfl) (by simp) ?_
      refine AllReadyH.cons (i := 6) (o := { dst := some 34, op := Op.call { callee := Callee.value (Operand.func 115), args := #[Operand.tmp 30, Operand.tmp 33], argTypes := #[62, 3] }, type := 167, pos := "read.go:73", after := #[{ on := 2, ground := Ground.data }, { on := 5, ground := Ground.data }, { on := 5, ground := Ground.chain }], guard := none }) rfl (fun K hK => ?_) AllReadyH.nil
      go_simp
      go_at_call 115
      refine (HR2.out _ _ (.inl rfl) (HV.out.bl)).mono ?_
      rintro en w3 ⟨rfl, hb3⟩
      have HS4 := Lib.hid (HV.out.keep hb3)
      obtain ⟨x0, x1, x2, x3⟩ := HS4.out.f.cells
      obtain ⟨y0, y1, y2, y3⟩ := HS4.out.f.frozen
      have HS5 := Lib.hid (HS4.out.set2 (.int .u64 (n2 : Int)))
      have HP4 := Lib.hid HS4.out.f.cells.2.1
      have HP5 := Lib.hid HS5.out.f.cells.2.1
      refine hK.out _ _ HP4.out (fun hHeld => ?_)
      clear hK K
      try go_frame
      refine wpAnyH_take (i := 7) (oi := { dst := some 27, op := Op.move (Operand.tmp 34), type := 167, pos := "read.go:73", after := #[{ on := 6, ground := Ground.data }], guard := none }) (v := ?_) rfl (by kernel_rfl) (by kernel_rfl) (by kernel_rfl) (fun _ _ _ h => h) (Or.inl ⟨by rfl, ?_⟩) (by with_reducible assumption) ?_
      rotate_left
      focus (intro wS hSw; (try dsimp only at hSw); go_simp <;> with_reducible rfl)
      try go_frame
      refine wpAnyH_take (i := 8) (oi := { dst := some 35, op := Op.extract (Operand.tmp 27) 0, type := 36, pos := "read.go:73", after := #[{ on := 7, ground := Ground.data }], guard := none }) (v := ?_) rfl (by kernel_rfl) (by kernel_rfl) (by kernel_rfl) (fun _ _ _ h => h) (Or.inl ⟨by rfl, ?_⟩) (by with_reducible assumption) ?_
      rotate_left
      focus (intro wS hSw; (try dsimp only at hSw); go_simp <;> with_reducible rfl)
      try go_frame
      refine wpAnyH_take (i := 9) (oi := { dst := some 36, op := Op.extract (Operand.tmp 27) 1, type := 3, pos := "read.go:73", after := #[{ on := 7, ground := Ground.data }, { on := 12, ground := Ground.gcOnly Departure.lateStores }], guard := none }) (v := ?_) rfl (by kernel_rfl) (by kernel_rfl) (by kernel_rfl) (fun _ _ _ h => h) (Or.inl ⟨by rfl, ?_⟩) (by with_reducible assumption) ?_
      rotate_left
      focus (intro wS hSw; (try dsimp only at hSw); go_simp <;> with_reducible rfl)
      try go_frame
      refine wpAnyH_take (i := 10) (oi := { dst := some 37, op := Op.extract (Operand.tmp 27) 2, type := 63, pos := "read.go:73", after := #[{ on := 7, ground := Ground.data }, { on := 13, ground := Ground.gcOnly Departure.lateStores }], guard := none }) (v := ?_) rfl (by kernel_rfl) (by kernel_rfl) (by kernel_rfl) (fun _ _ _ h => h) (Or.inl ⟨by rfl, ?_⟩) (by with_reducible assumption) ?_
      rotate_left
      focus (intro wS hSw; (try dsimp only at hSw); go_simp <;> with_reducible rfl)
      try go_frame
      refine wpAnyH_take (i := 11) (oi := { dst := some 38, op := Op.fieldAddr 77 (Operand.tmp 5) 2, type := 0, pos := "read.go:73", after := #[{ on := 0, ground := Ground.phase }, { on := 1, ground := Ground.phase }, { on := 2, ground := Ground.phase }, { on := 3, ground := Ground.phase }, { on := 4, ground := Ground.phase }, { on := 5, ground := Ground.phase }, { on := 6, ground := Ground.phase }, { on := 7, ground := Ground.phase }, { on := 8, ground := Ground.phase }, { on := 9, ground := Ground.textOnly Departure.lateStores }, { on := 10, ground := Ground.textOnly Departure.lateStores }], guard := none }) (v := ?_) rfl (by kernel_rfl) (by kernel_rfl) (by kernel_rfl) (fun _ _ _ h => h) (Or.inl ⟨by rfl, ?_⟩) (by with_reducible assumption) ?_
      rotate_left
      focus (intro wS hSw; (try dsimp only at hSw); go_simp <;> with_reducible rfl)
      try go_frame
      refine wpAnyH_ready (rs := [12]) (by kernel_rfl) (by simp) ?_
      refine AllReadyH.cons (i := 12) (o := { dst := none, op := Op.store 36 (Operand.tmp 38) (Operand.tmp 35), type := 0, pos := "read.go:73", after := #[{ on := 11, ground := Ground.data }, { on := 8, ground := Ground.data }, { on := 6, ground := Ground.chain }, { on := 0, ground := Ground.phase }, { on := 1, ground := Ground.phase }, { on := 2, ground := Ground.phase }, { on := 3, ground := Ground.phase }, { on := 4, ground := Ground.phase }, { on := 5, ground := Ground.phase }, { on := 6, ground := Ground.phase }, { on := 7, ground := Ground.phase }, { on := 8, ground := Ground.phase }, { on := 9, ground := Ground.textOnly Departure.lateStores }, { on := 10, ground := Ground.textOnly Departure.lateStores }], guard := none }) rfl (fun K hK => ?_) AllReadyH.nil
      go_simp
      refine hK.out _ _ HP5.out (fun hHeld => ?_)
      clear hK K
      try go_frame
      refine wpAnyH_ready (rs := [13]) (by kernel_rfl) (by simp) ?_
      refine AllReadyH.cons (i := 13) (o := { dst := some 6, op := Op.assign (Operand.tmp 36), type := 3, pos := "read.go:73", after := #[{ on := 9, ground := Ground.data }, { on := 12, ground := Ground.chain }, { on := 0, ground := Ground.phase }, { on := 1, ground := Ground.phase }, { on := 2, ground := Ground.phase }, { on := 3, ground := Ground.phase }, { on := 4, ground := Ground.phase }, { on := 5, ground := Ground.phase }, { on := 6, ground := Ground.phase }, { on := 7, ground := Ground.phase }, { on := 8, ground := Ground.phase }, { on := 9, ground := Ground.phase }, { on := 10, ground := Ground.textOnly Departure.lateStores }, { on := 11, ground := Ground.phase }, { on := 12, ground := Ground.phase }], guard := none }) rfl (fun K hK => ?_) AllReadyH.nil
      go_simp
      refine hK.out _ _ HP5.out (fun hHeld => ?_)
      clear hK K
      try go_frame
      refine wpAnyH_ready (rs := [14]) (by kernel_rfl) (by simp) ?_
      refine AllReadyH.cons (i := 14) (o := { dst := some 9, op := Op.assign (Operand.tmp 37), type := 63, pos := "read.go:73", after := #[{ on := 10, ground := Ground.data }, { on := 13, ground := Ground.chain }, { on := 0, ground := Ground.phase }, { on := 1, ground := Ground.phase }, { on := 2, ground := Ground.phase }, { on := 3, ground := Ground.phase }, { on := 4, ground := Ground.phase }, { on := 5, ground := Ground.phase }, { on := 6, ground := Ground.phase }, { on := 7, ground := Ground.phase }, { on := 8, ground := Ground.phase }, { on := 9, ground := Ground.phase }, { on := 10, ground := Ground.phase }, { on := 11, ground := Ground.phase }, { on := 12, ground := Ground.phase }, { on := 13, ground := Ground.phase }], guard := none }) rfl (fun K hK => ?_) AllReadyH.nil
      go_simp
      refine hK.out _ _ HP5.out (fun hHeld => ?_)
      clear hK K
      try go_frame
      refine wpAnyH_done (by kernel_rfl) ?_ _
      clear x0 x1 x2 x3 y0 y1 y2 y3
      obtain ⟨c0, c1, c2, c3⟩ := HS5.out.f.cells
      obtain ⟨g0, g1, g2, g3⟩ := HS5.out.f.frozen
      obtain ⟨m0, m1, m2, m3⟩ := HS5.out.z.cells
      obtain ⟨o0, o1, o2, o3⟩ := HS5.out.z.frozen
      have HB := Lib.hid (below_put4 HS5.out.bl (Nat.le_refl _) (.int .i64 (a : Int)) (.int .i64 1) (.int .u64 (n2 : Int)) (.slice none 0 0))
      obtain ⟨d0, d1, d2, d3⟩ := (HS5.out.z.put (.int .i64 (a : Int)) (.int .i64 1) (.int .u64 (n2 : Int)) (.slice none 0 0)).cells
      have HD0 := Lib.hid d0
      have HD1 := Lib.hid d1
      have HD2 := Lib.hid d2
      have HD3 := Lib.hid d3
      clear d0 d1 d2 d3
      unfold put4 at HB HD0 HD1 HD2 HD3
      go_wp2_with fail
      refine bodyPost_ret (v := .tuple #[.agg #[.int .i64 (a : Int), .int .i64 1, .int .u64 (n2 : Int), .slice none 0 0], .int .i64 (((k + 8 : Nat) : Int)), .int .i64 0]) (by simp [results, Try.results84, go_sem, HD0.out, HD1.out, HD2.out, HD3.out]) rfl ?_
      exact HF.out _ HB.out
    · exact absurd (HNil.out (by omega)) (by omega)
set_option maxRecDepth 100000 in
set_option maxHeartbeats 4000000 in
theorem look_f {w : World} {v : Value} {b : List Nat} (hK : KL .u8 w v b) (hb : ∀ x ∈ b, x < 256) (hl : b.length ≤ 1000000) (he : (rd b).2.2 = 0) (hE : kyE (rd b).1 = 0) (h0 : (rd b).1 % 8 = 5) : Calls Try.prog 84 #[v] w (LkPost v b w) := by
  have hmx : Try.prog.follows .mixedOrders = true := by kernel_rfl
  have HRd := Lib.hid (fun V (h : KL .u8 V v b) => rd_any h hb hl)
  have HK := Lib.hid hK
  have HS0 := Lib.hid (Lk.start w)
  have hr : rd b = ((rd b).1, (rd b).2.1, 0) := by rw [← he]
  obtain ⟨t1, t2, t3, _, k5⟩ := rd_ok hr hb
  clear hr
  obtain ⟨qv, c, rfl, hlc, _⟩ := id hK
  obtain ⟨g, o, rfl, HG⟩ := hK.from t2 (by omega)
  clear hK
  have HKy := Lib.hid (fun V (a r : Nat) (ha : (rd b).1 / 8 = a) (hr : (rd b).1 % 8 = r) => pkeyed_ok k5 hE ha hr V)
  have HFr := Lib.hid (fun V (q' : Option Addr) (hq : q' = some ⟨g, o + (rd b).2.1, none⟩ ∨ (rd b).2.1 = b.length) (hV : Below w.heap.size w V) => (HG q' hq).keep hV)
  have hbd : ∀ x ∈ b.drop (rd b).2.1, x < 256 := fun x hx => hb x (List.mem_of_mem_drop hx)
  have hdl : (b.drop (rd b).2.1).length ≤ 1000000 := by rw [List.length_drop]; omega
  have hF := rdF_w he hE (by omega) (by omega)
  rw [h0, show wid ((5 : Nat) : Int) = 4 from rfl] at hF
  have HR2 := Lib.hid (fun V (q' : Option Addr) (hq : q' = some ⟨g, o + (rd b).2.1, none⟩ ∨ (rd b).2.1 = b.length) (hV : Below w.heap.size w V) => pword_any (HFr.out V q' hq hV) hbd 4 (by omega))
  have HKy := Lib.hid (fun V => HKy.out V _ 5 rfl h0)
  have HWi := Lib.hid (fun V => pwidth_any 5 V)
  unfold RdPost at HRd
  rw [he] at HRd
  have HNil : Hid ((rd b).2.1 = b.length → (b.drop (rd b).2.1).length = 0) := Lib.hid (fun h => by rw [h, List.drop_length]; rfl)
  have HRe : Hid (∀ V, Calls Try.prog 115 #[.slice (some ⟨g, o, none⟩) 0 0, .int .i64 4] V fun e w' => e = .returned (.tuple #[.int .u64 0, .int .i64 0, .int .i64 4]) ∧ Below V.heap.size V w') := Lib.hid (fun V => pword_any (kl_none .u8 V _ 0) (fun x hx => by cases hx) 4 (by omega))
  unfold WdPost at HR2
  generalize unl ((b.drop (rd b).2.1).take 4) = n2 at *
  generalize (b.drop (rd b).2.1).length = m at *
  generalize (rd b).1 / 8 = a at *
  generalize (rd b).1 = u at *
  have hk2 : (rd b).2.1 ≤ b.length := by assumption
  have y6 : ((rd b).2.1 : Int) ≤ (c : Int) := by omega
  have y7 : (b.length : Int) ≤ (c : Int) := by omega
  have y8 : ((rd b).2.1 : Int) ≤ (b.length : Int) := by omega
  generalize (rd b).2.1 = k at *
  clear HFr hbd hb HG
  by_cases h2 : m < 4
  · rw [if_pos h2] at hF
    simp only [if_pos h2] at HR2
    have HF := Lib.hid (fun w' (h : Below w.heap.size w w') => lk_bad (v := .slice (some ⟨g, o, none⟩) b.length c) (w := w) (w' := w') hF h)
    clear hF
    rcases Nat.lt_or_ge k c with hkc | hkc
    · have hck : ¬ k = c := by omega
      have hck2 : ¬ c = k := by omega
      go_enter Try.func84, Try.ntmps84
      go_wp2_with fail
      apply wp_scope_onceS (l := 0) (S := fun W => Below w.heap.size w W ∧ F4 W w.heap.size 77 (.int .i64 0) (.int .i64 0) (.int .u64 0) (.slice none 0 0)) (hf := rfl)
      case first =>
        go_wp2_with fail
        refine (HRd.out _ (HK.out.keep HS0.out.bl)).mono ?_
        rintro en w1 ⟨rfl, hb1⟩
        have HS1 := Lib.hid (HS0.out.keep hb1)
        clear hb1
        go_wp2_with fail
        refine (HKy.out _).mono ?_
        rintro en w2 ⟨rfl, hb2⟩
        have HS2 := Lib.hid (HS1.out.keep hb2)
        obtain ⟨c0, c1, c2, c3⟩ := HS2.out.f.cells
        obtain ⟨g0, g1, g2, g3⟩ := HS2.out.f.frozen
        have HS3 := Lib.hid (HS2.out.put (.int .i64 (a : Int)) (.int .i64 5) (.int .u64 0) (.slice none 0 0))
        clear hb2
        unfold put4 at HS3
        obtain ⟨p0, p1, p2, p3⟩ := HS3.out.f.cells
        obtain ⟨r0, r1, r2, r3⟩ := HS3.out.f.frozen
        go_upto_region 8 with fail
        clear c0 c1 c2 c3 g0 g1 g2 g3 p0 p1 p2 p3 r0 r1 r2 r3
        generalize ((((w2.setCell ⟨w.heap.size + 1, 0, none⟩ (.int .i64 (a : Int))).setCell ⟨w.heap.size + 1, 1, none⟩ (.int .i64 5)).setCell ⟨w.heap.size + 1, 2, none⟩ (.int .u64 0)).setCell ⟨w.heap.size + 1, 3, none⟩ (.slice none 0 0)) = w4 at *
        have HV := Lib.hid (HS3.out.keep (Below.refl _ _).drew)
        have hp1 := HV.out.f.cells.2.1
        refine wp_region_held_drew (S := fun W' => W'.cell? ⟨w.heap.size + 1, 1, none⟩ = some (.int .i64 5)) (by kernel_rfl) hp1 (fun hHeld => ?_)
        generalize w4.drew = w5 at *
        refine wpAnyH_take (i := 0) (oi := { dst := some 28, op := Op.move (Operand.tmp 0), type := 62, pos := "read.go:73", after := #[], guard := none }) (v := ?_) rfl (by kernel_rfl) (by kernel_rfl) (by kernel_rfl) (fun _ _ _ h => h) (Or.inl ⟨by rfl, ?_⟩) (by with_reducible assumption) ?_
        rotate_left
        focus (intro wS hSw; (try dsimp only at hSw); go_simp <;> with_reducible rfl)
        try go_frame
        refine wpAnyH_take (i := 1) (oi := { dst := some 29, op := Op.move (Operand.tmp 8), type := 3, pos := "read.go:73", after := #[], guard := none }) (v := ?_) rfl (by kernel_rfl) (by kernel_rfl) (by kernel_rfl) (fun _ _ _ h => h) (Or.inl ⟨by rfl, ?_⟩) (by with_reducible assumption) ?_
        rotate_left
        focus (intro wS hSw; (try dsimp only at hSw); go_simp <;> with_reducible rfl)
        try go_frame
        refine wpAnyH_take (i := 2) (oi := { dst := some 30, op := Op.slice 62 (Operand.tmp 28) (some (Operand.tmp 29)) none none, type := 62, pos := "read.go:73", after := #[{ on := 0, ground := Ground.data }, { on := 1, ground := Ground.data }], guard := none }) (v := ?_) rfl (by kernel_rfl) (by kernel_rfl) (by kernel_rfl) (fun _ _ _ h => h) (Or.inl ⟨by rfl, ?_⟩) (by with_reducible assumption) ?_
        rotate_left
        focus (intro wS hSw; (try dsimp only at hSw); go_simp <;> with_reducible rfl)
        try go_frame
        refine wpAnyH_take (i := 3) (oi := { dst := some 31, op := Op.fieldAddr 77 (Operand.tmp 5) 1, type := 0, pos := "read.go:73", after := #[], guard := none }) (v := ?_) rfl (by kernel_rfl) (by kernel_rfl) (by kernel_rfl) (fun _ _ _ h => h) (Or.inl ⟨by rfl, ?_⟩) (by with_reducible assumption) ?_
        rotate_left
        focus (intro wS hSw; (try dsimp only at hSw); go_simp <;> with_reducible rfl)
        try go_frame
        refine wpAnyH_take (i := 4) (oi := { dst := some 32, op := Op.load 3 (Operand.tmp 31), type := 3, pos := "read.go:73", after := #[{ on := 3, ground := Ground.data }], guard := none }) (v := ?_) rfl (by kernel_rfl) (by kernel_rfl) (by kernel_rfl) (fun _ _ _ h => h) (Or.inl ⟨by rfl, ?_⟩) (by with_reducible assumption) ?_
        rotate_left
        focus (intro wS hSw; (try dsimp only at hSw); go_simp <;> with_reducible rfl)
        try go_frame
        refine wpAnyH_ready (rs := [5]) (by kernel_rfl) (by simp) ?_
        refine AllReadyH.cons (i := 5) (o := { dst := some 33, op := Op.call { callee := Callee.value (Operand.func 108), args := #[Operand.tmp 32], argTypes := #[3] }, type := 3, pos := "read.go:73", after := #[{ on := 4, ground := Ground.data }], guard := none }) rfl (fun K hK => ?_) AllReadyH.nil
        go_simp
        go_at_call 108
        refine (HWi.out _).mono ?_
        rintro en wz ⟨rfl, hwz⟩
        subst hwz
        refine hK.out _ _ hp1 (fun hHeld => ?_)
        clear hK K
        try go_frame
        refine wpAnyH_ready (rs := [6]) (by kernel_rfl) (by simp) ?_
        refine AllReadyH.cons (i := 6) (o := { dst := some 34, op := Op.call { callee := Callee.value (Operand.func 115), args := #[Operand.tmp 30, Operand.tmp 33], argTypes := #[62, 3] }, type := 167, pos := "read.go:73", after := #[{ on := 2, ground := Ground.data }, { on := 5, ground := Ground.data }, { on := 5, ground := Ground.chain }], guard := none }) rfl (fun K hK => ?_) AllReadyH.nil
        go_simp
        go_at_call 115
        refine (HR2.out _ _ (.inl rfl) (HV.out.bl)).mono ?_
        rintro en w3 ⟨rfl, hb3⟩
        have HS4 := Lib.hid (HV.out.keep hb3)
        obtain ⟨x0, x1, x2, x3⟩ := HS4.out.f.cells
        obtain ⟨y0, y1, y2, y3⟩ := HS4.out.f.frozen
        have HS5 := Lib.hid (HS4.out.set2 (.int .u64 0))
        have HP4 := Lib.hid HS4.out.f.cells.2.1
        have HP5 := Lib.hid HS5.out.f.cells.2.1
        refine hK.out _ _ HP4.out (fun hHeld => ?_)
        clear hK K
        try go_frame
        refine wpAnyH_take (i := 7) (oi := { dst := some 27, op := Op.move (Operand.tmp 34), type := 167, pos := "read.go:73", after := #[{ on := 6, ground := Ground.data }], guard := none }) (v := ?_) rfl (by kernel_rfl) (by kernel_rfl) (by kernel_rfl) (fun _ _ _ h => h) (Or.inl ⟨by rfl, ?_⟩) (by with_reducible assumption) ?_
        rotate_left
        focus (intro wS hSw; (try dsimp only at hSw); go_simp <;> with_reducible rfl)
        try go_frame
        refine wpAnyH_take (i := 8) (oi := { dst := some 35, op := Op.extract (Operand.tmp 27) 0, type := 36, pos := "read.go:73", after := #[{ on := 7, ground := Ground.data }], guard := none }) (v := ?_) rfl (by kernel_rfl) (by kernel_rfl) (by kernel_rfl) (fun _ _ _ h => h) (Or.inl ⟨by rfl, ?_⟩) (by with_reducible assumption) ?_
        rotate_left
        focus (intro wS hSw; (try dsimp only at hSw); go_simp <;> with_reducible rfl)
        try go_frame
        refine wpAnyH_take (i := 9) (oi := { dst := some 36, op := Op.extract (Operand.tmp 27) 1, type := 3, pos := "read.go:73", after := #[{ on := 7, ground := Ground.data }, { on := 12, ground := Ground.gcOnly Departure.lateStores }], guard := none }) (v := ?_) rfl (by kernel_rfl) (by kernel_rfl) (by kernel_rfl) (fun _ _ _ h => h) (Or.inl ⟨by rfl, ?_⟩) (by with_reducible assumption) ?_
        rotate_left
        focus (intro wS hSw; (try dsimp only at hSw); go_simp <;> with_reducible rfl)
        try go_frame
        refine wpAnyH_take (i := 10) (oi := { dst := some 37, op := Op.extract (Operand.tmp 27) 2, type := 63, pos := "read.go:73", after := #[{ on := 7, ground := Ground.data }, { on := 13, ground := Ground.gcOnly Departure.lateStores }], guard := none }) (v := ?_) rfl (by kernel_rfl) (by kernel_rfl) (by kernel_rfl) (fun _ _ _ h => h) (Or.inl ⟨by rfl, ?_⟩) (by with_reducible assumption) ?_
        rotate_left
        focus (intro wS hSw; (try dsimp only at hSw); go_simp <;> with_reducible rfl)
        try go_frame
        refine wpAnyH_take (i := 11) (oi := { dst := some 38, op := Op.fieldAddr 77 (Operand.tmp 5) 2, type := 0, pos := "read.go:73", after := #[{ on := 0, ground := Ground.phase }, { on := 1, ground := Ground.phase }, { on := 2, ground := Ground.phase }, { on := 3, ground := Ground.phase }, { on := 4, ground := Ground.phase }, { on := 5, ground := Ground.phase }, { on := 6, ground := Ground.phase }, { on := 7, ground := Ground.phase }, { on := 8, ground := Ground.phase }, { on := 9, ground := Ground.textOnly Departure.lateStores }, { on := 10, ground := Ground.textOnly Departure.lateStores }], guard := none }) (v := ?_) rfl (by kernel_rfl) (by kernel_rfl) (by kernel_rfl) (fun _ _ _ h => h) (Or.inl ⟨by rfl, ?_⟩) (by with_reducible assumption) ?_
        rotate_left
        focus (intro wS hSw; (try dsimp only at hSw); go_simp <;> with_reducible rfl)
        try go_frame
        refine wpAnyH_ready (rs := [12]) (by kernel_rfl) (by simp) ?_
        refine AllReadyH.cons (i := 12) (o := { dst := none, op := Op.store 36 (Operand.tmp 38) (Operand.tmp 35), type := 0, pos := "read.go:73", after := #[{ on := 11, ground := Ground.data }, { on := 8, ground := Ground.data }, { on := 6, ground := Ground.chain }, { on := 0, ground := Ground.phase }, { on := 1, ground := Ground.phase }, { on := 2, ground := Ground.phase }, { on := 3, ground := Ground.phase }, { on := 4, ground := Ground.phase }, { on := 5, ground := Ground.phase }, { on := 6, ground := Ground.phase }, { on := 7, ground := Ground.phase }, { on := 8, ground := Ground.phase }, { on := 9, ground := Ground.textOnly Departure.lateStores }, { on := 10, ground := Ground.textOnly Departure.lateStores }], guard := none }) rfl (fun K hK => ?_) AllReadyH.nil
        go_simp
        refine hK.out _ _ HP5.out (fun hHeld => ?_)
        clear hK K
        try go_frame
        refine wpAnyH_ready (rs := [13]) (by kernel_rfl) (by simp) ?_
        refine AllReadyH.cons (i := 13) (o := { dst := some 6, op := Op.assign (Operand.tmp 36), type := 3, pos := "read.go:73", after := #[{ on := 9, ground := Ground.data }, { on := 12, ground := Ground.chain }, { on := 0, ground := Ground.phase }, { on := 1, ground := Ground.phase }, { on := 2, ground := Ground.phase }, { on := 3, ground := Ground.phase }, { on := 4, ground := Ground.phase }, { on := 5, ground := Ground.phase }, { on := 6, ground := Ground.phase }, { on := 7, ground := Ground.phase }, { on := 8, ground := Ground.phase }, { on := 9, ground := Ground.phase }, { on := 10, ground := Ground.textOnly Departure.lateStores }, { on := 11, ground := Ground.phase }, { on := 12, ground := Ground.phase }], guard := none }) rfl (fun K hK => ?_) AllReadyH.nil
        go_simp
        refine hK.out _ _ HP5.out (fun hHeld => ?_)
        clear hK K
        try go_frame
        refine wpAnyH_ready (rs := [14]) (by kernel_rfl) (by simp) ?_
        refine AllReadyH.cons (i := 14) (o := { dst := some 9, op := Op.assign (Operand.tmp 37), type := 63, pos := "read.go:73", after := #[{ on := 10, ground := Ground.data }, { on := 13, ground := Ground.chain }, { on := 0, ground := Ground.phase }, { on := 1, ground := Ground.phase }, { on := 2, ground := Ground.phase }, { on := 3, ground := Ground.phase }, { on := 4, ground := Ground.phase }, { on := 5, ground := Ground.phase }, { on := 6, ground := Ground.phase }, { on := 7, ground := Ground.phase }, { on := 8, ground := Ground.phase }, { on := 9, ground := Ground.phase }, { on := 10, ground := Ground.phase }, { on := 11, ground := Ground.phase }, { on := 12, ground := Ground.phase }, { on := 13, ground := Ground.phase }], guard := none }) rfl (fun K hK => ?_) AllReadyH.nil
        go_simp
        refine hK.out _ _ HP5.out (fun hHeld => ?_)
        clear hK K
        try go_frame
        refine wpAnyH_done (by kernel_rfl) ?_ _
        go_wp2_with fail
        go_step3
        exact ⟨rfl, rfl, HS5.out.bl, HS5.out.z⟩
      case pass =>
        rintro W ⟨hBl, hZ⟩
        obtain ⟨z0, z1, z2, z3⟩ := hZ.cells
        obtain ⟨y0, y1, y2, y3⟩ := hZ.frozen
        have HB := Lib.hid (below_put4 hBl (Nat.le_refl _) (.int .i64 0) (.int .i64 0) (.int .u64 0) (.slice none 0 0))
        obtain ⟨d0, d1, d2, d3⟩ := (hZ.put (.int .i64 0) (.int .i64 0) (.int .u64 0) (.slice none 0 0)).cells
        have HD0 := Lib.hid d0
        have HD1 := Lib.hid d1
        have HD2 := Lib.hid d2
        have HD3 := Lib.hid d3
        clear d0 d1 d2 d3 hBl hZ
        unfold put4 at *
        go_wp2_with fail
        refine bodyPost_ret (v := .tuple #[.agg #[.int .i64 0, .int .i64 0, .int .u64 0, .slice none 0 0], .int .i64 0, .int .i64 (4 : Int)]) (by simp [results, Try.results84, go_sem, HD0.out, HD1.out, HD2.out, HD3.out]) rfl ?_
        exact HF.out _ HB.out
    · obtain rfl : k = c := by omega
      go_enter Try.func84, Try.ntmps84
      go_wp2_with fail
      apply wp_scope_onceS (l := 0) (S := fun W => Below w.heap.size w W ∧ F4 W w.heap.size 77 (.int .i64 0) (.int .i64 0) (.int .u64 0) (.slice none 0 0)) (hf := rfl)
      case first =>
        go_wp2_with fail
        refine (HRd.out _ (HK.out.keep HS0.out.bl)).mono ?_
        rintro en w1 ⟨rfl, hb1⟩
        have HS1 := Lib.hid (HS0.out.keep hb1)
        clear hb1
        go_wp2_with fail
        refine (HKy.out _).mono ?_
        rintro en w2 ⟨rfl, hb2⟩
        have HS2 := Lib.hid (HS1.out.keep hb2)
        obtain ⟨c0, c1, c2, c3⟩ := HS2.out.f.cells
        obtain ⟨g0, g1, g2, g3⟩ := HS2.out.f.frozen
        have HS3 := Lib.hid (HS2.out.put (.int .i64 (a : Int)) (.int .i64 5) (.int .u64 0) (.slice none 0 0))
        clear hb2
        unfold put4 at HS3
        obtain ⟨p0, p1, p2, p3⟩ := HS3.out.f.cells
        obtain ⟨r0, r1, r2, r3⟩ := HS3.out.f.frozen
        go_upto_region 8 with fail
        clear c0 c1 c2 c3 g0 g1 g2 g3 p0 p1 p2 p3 r0 r1 r2 r3
        generalize ((((w2.setCell ⟨w.heap.size + 1, 0, none⟩ (.int .i64 (a : Int))).setCell ⟨w.heap.size + 1, 1, none⟩ (.int .i64 5)).setCell ⟨w.heap.size + 1, 2, none⟩ (.int .u64 0)).setCell ⟨w.heap.size + 1, 3, none⟩ (.slice none 0 0)) = w4 at *
        have HV := Lib.hid (HS3.out.keep (Below.refl _ _).drew)
        have hp1 := HV.out.f.cells.2.1
        refine wp_region_held_drew (S := fun W' => W'.cell? ⟨w.heap.size + 1, 1, none⟩ = some (.int .i64 5)) (by kernel_rfl) hp1 (fun hHeld => ?_)
        generalize w4.drew = w5 at *
        refine wpAnyH_take (i := 0) (oi := { dst := some 28, op := Op.move (Operand.tmp 0), type := 62, pos := "read.go:73", after := #[], guard := none }) (v := ?_) rfl (by kernel_rfl) (by kernel_rfl) (by kernel_rfl) (fun _ _ _ h => h) (Or.inl ⟨by rfl, ?_⟩) (by with_reducible assumption) ?_
        rotate_left
        focus (intro wS hSw; (try dsimp only at hSw); go_simp <;> with_reducible rfl)
        try go_frame
        refine wpAnyH_take (i := 1) (oi := { dst := some 29, op := Op.move (Operand.tmp 8), type := 3, pos := "read.go:73", after := #[], guard := none }) (v := ?_) rfl (by kernel_rfl) (by kernel_rfl) (by kernel_rfl) (fun _ _ _ h => h) (Or.inl ⟨by rfl, ?_⟩) (by with_reducible assumption) ?_
        rotate_left
        focus (intro wS hSw; (try dsimp only at hSw); go_simp <;> with_reducible rfl)
        try go_frame
        refine wpAnyH_take (i := 2) (oi := { dst := some 30, op := Op.slice 62 (Operand.tmp 28) (some (Operand.tmp 29)) none none, type := 62, pos := "read.go:73", after := #[{ on := 0, ground := Ground.data }, { on := 1, ground := Ground.data }], guard := none }) (v := ?_) rfl (by kernel_rfl) (by kernel_rfl) (by kernel_rfl) (fun _ _ _ h => h) (Or.inl ⟨by rfl, ?_⟩) (by with_reducible assumption) ?_
        rotate_left
        focus (intro wS hSw; (try dsimp only at hSw); go_simp <;> with_reducible rfl)
        try go_frame
        refine wpAnyH_take (i := 3) (oi := { dst := some 31, op := Op.fieldAddr 77 (Operand.tmp 5) 1, type := 0, pos := "read.go:73", after := #[], guard := none }) (v := ?_) rfl (by kernel_rfl) (by kernel_rfl) (by kernel_rfl) (fun _ _ _ h => h) (Or.inl ⟨by rfl, ?_⟩) (by with_reducible assumption) ?_
        rotate_left
        focus (intro wS hSw; (try dsimp only at hSw); go_simp <;> with_reducible rfl)
        try go_frame
        refine wpAnyH_take (i := 4) (oi := { dst := some 32, op := Op.load 3 (Operand.tmp 31), type := 3, pos := "read.go:73", after := #[{ on := 3, ground := Ground.data }], guard := none }) (v := ?_) rfl (by kernel_rfl) (by kernel_rfl) (by kernel_rfl) (fun _ _ _ h => h) (Or.inl ⟨by rfl, ?_⟩) (by with_reducible assumption) ?_
        rotate_left
        focus (intro wS hSw; (try dsimp only at hSw); go_simp <;> with_reducible rfl)
        try go_frame
        refine wpAnyH_ready (rs := [5]) (by kernel_rfl) (by simp) ?_
        refine AllReadyH.cons (i := 5) (o := { dst := some 33, op := Op.call { callee := Callee.value (Operand.func 108), args := #[Operand.tmp 32], argTypes := #[3] }, type := 3, pos := "read.go:73", after := #[{ on := 4, ground := Ground.data }], guard := none }) rfl (fun K hK => ?_) AllReadyH.nil
        go_simp
        go_at_call 108
        refine (HWi.out _).mono ?_
        rintro en wz ⟨rfl, hwz⟩
        subst hwz
        refine hK.out _ _ hp1 (fun hHeld => ?_)
        clear hK K
        try go_frame
        refine wpAnyH_ready (rs := [6]) (by kernel_rfl) (by simp) ?_
        refine AllReadyH.cons (i := 6) (o := { dst := some 34, op := Op.call { callee := Callee.value (Operand.func 115), args := #[Operand.tmp 30, Operand.tmp 33], argTypes := #[62, 3] }, type := 167, pos := "read.go:73", after := #[{ on := 2, ground := Ground.data }, { on := 5, ground := Ground.data }, { on := 5, ground := Ground.chain }], guard := none }) rfl (fun K hK => ?_) AllReadyH.nil
        go_simp
        go_at_call 115
        refine (HRe.out _).mono ?_
        rintro en w3 ⟨rfl, hb3⟩
        have HS4 := Lib.hid (HV.out.keep hb3)
        obtain ⟨x0, x1, x2, x3⟩ := HS4.out.f.cells
        obtain ⟨y0, y1, y2, y3⟩ := HS4.out.f.frozen
        have HS5 := Lib.hid (HS4.out.set2 (.int .u64 0))
        have HP4 := Lib.hid HS4.out.f.cells.2.1
        have HP5 := Lib.hid HS5.out.f.cells.2.1
        refine hK.out _ _ HP4.out (fun hHeld => ?_)
        clear hK K
        try go_frame
        refine wpAnyH_take (i := 7) (oi := { dst := some 27, op := Op.move (Operand.tmp 34), type := 167, pos := "read.go:73", after := #[{ on := 6, ground := Ground.data }], guard := none }) (v := ?_) rfl (by kernel_rfl) (by kernel_rfl) (by kernel_rfl) (fun _ _ _ h => h) (Or.inl ⟨by rfl, ?_⟩) (by with_reducible assumption) ?_
        rotate_left
        focus (intro wS hSw; (try dsimp only at hSw); go_simp <;> with_reducible rfl)
        try go_frame
        refine wpAnyH_take (i := 8) (oi := { dst := some 35, op := Op.extract (Operand.tmp 27) 0, type := 36, pos := "read.go:73", after := #[{ on := 7, ground := Ground.data }], guard := none }) (v := ?_) rfl (by kernel_rfl) (by kernel_rfl) (by kernel_rfl) (fun _ _ _ h => h) (Or.inl ⟨by rfl, ?_⟩) (by with_reducible assumption) ?_
        rotate_left
        focus (intro wS hSw; (try dsimp only at hSw); go_simp <;> with_reducible rfl)
        try go_frame
        refine wpAnyH_take (i := 9) (oi := { dst := some 36, op := Op.extract (Operand.tmp 27) 1, type := 3, pos := "read.go:73", after := #[{ on := 7, ground := Ground.data }, { on := 12, ground := Ground.gcOnly Departure.lateStores }], guard := none }) (v := ?_) rfl (by kernel_rfl) (by kernel_rfl) (by kernel_rfl) (fun _ _ _ h => h) (Or.inl ⟨by rfl, ?_⟩) (by with_reducible assumption) ?_
        rotate_left
        focus (intro wS hSw; (try dsimp only at hSw); go_simp <;> with_reducible rfl)
        try go_frame
        refine wpAnyH_take (i := 10) (oi := { dst := some 37, op := Op.extract (Operand.tmp 27) 2, type := 63, pos := "read.go:73", after := #[{ on := 7, ground := Ground.data }, { on := 13, ground := Ground.gcOnly Departure.lateStores }], guard := none }) (v := ?_) rfl (by kernel_rfl) (by kernel_rfl) (by kernel_rfl) (fun _ _ _ h => h) (Or.inl ⟨by rfl, ?_⟩) (by with_reducible assumption) ?_
        rotate_left
        focus (intro wS hSw; (try dsimp only at hSw); go_simp <;> with_reducible rfl)
        try go_frame
        refine wpAnyH_take (i := 11) (oi := { dst := some 38, op := Op.fieldAddr 77 (Operand.tmp 5) 2, type := 0, pos := "read.go:73", after := #[{ on := 0, ground := Ground.phase }, { on := 1, ground := Ground.phase }, { on := 2, ground := Ground.phase }, { on := 3, ground := Ground.phase }, { on := 4, ground := Ground.phase }, { on := 5, ground := Ground.phase }, { on := 6, ground := Ground.phase }, { on := 7, ground := Ground.phase }, { on := 8, ground := Ground.phase }, { on := 9, ground := Ground.textOnly Departure.lateStores }, { on := 10, ground := Ground.textOnly Departure.lateStores }], guard := none }) (v := ?_) rfl (by kernel_rfl) (by kernel_rfl) (by kernel_rfl) (fun _ _ _ h => h) (Or.inl ⟨by rfl, ?_⟩) (by with_reducible assumption) ?_
        rotate_left
        focus (intro wS hSw; (try dsimp only at hSw); go_simp <;> with_reducible rfl)
        try go_frame
        refine wpAnyH_ready (rs := [12]) (by kernel_rfl) (by simp) ?_
        refine AllReadyH.cons (i := 12) (o := { dst := none, op := Op.store 36 (Operand.tmp 38) (Operand.tmp 35), type := 0, pos := "read.go:73", after := #[{ on := 11, ground := Ground.data }, { on := 8, ground := Ground.data }, { on := 6, ground := Ground.chain }, { on := 0, ground := Ground.phase }, { on := 1, ground := Ground.phase }, { on := 2, ground := Ground.phase }, { on := 3, ground := Ground.phase }, { on := 4, ground := Ground.phase }, { on := 5, ground := Ground.phase }, { on := 6, ground := Ground.phase }, { on := 7, ground := Ground.phase }, { on := 8, ground := Ground.phase }, { on := 9, ground := Ground.textOnly Departure.lateStores }, { on := 10, ground := Ground.textOnly Departure.lateStores }], guard := none }) rfl (fun K hK => ?_) AllReadyH.nil
        go_simp
        refine hK.out _ _ HP5.out (fun hHeld => ?_)
        clear hK K
        try go_frame
        refine wpAnyH_ready (rs := [13]) (by kernel_rfl) (by simp) ?_
        refine AllReadyH.cons (i := 13) (o := { dst := some 6, op := Op.assign (Operand.tmp 36), type := 3, pos := "read.go:73", after := #[{ on := 9, ground := Ground.data }, { on := 12, ground := Ground.chain }, { on := 0, ground := Ground.phase }, { on := 1, ground := Ground.phase }, { on := 2, ground := Ground.phase }, { on := 3, ground := Ground.phase }, { on := 4, ground := Ground.phase }, { on := 5, ground := Ground.phase }, { on := 6, ground := Ground.phase }, { on := 7, ground := Ground.phase }, { on := 8, ground := Ground.phase }, { on := 9, ground := Ground.phase }, { on := 10, ground := Ground.textOnly Departure.lateStores }, { on := 11, ground := Ground.phase }, { on := 12, ground := Ground.phase }], guard := none }) rfl (fun K hK => ?_) AllReadyH.nil
        go_simp
        refine hK.out _ _ HP5.out (fun hHeld => ?_)
        clear hK K
        try go_frame
        refine wpAnyH_ready (rs := [14]) (by kernel_rfl) (by simp) ?_
        refine AllReadyH.cons (i := 14) (o := { dst := some 9, op := Op.assign (Operand.tmp 37), type := 63, pos := "read.go:73", after := #[{ on := 10, ground := Ground.data }, { on := 13, ground := Ground.chain }, { on := 0, ground := Ground.phase }, { on := 1, ground := Ground.phase }, { on := 2, ground := Ground.phase }, { on := 3, ground := Ground.phase }, { on := 4, ground := Ground.phase }, { on := 5, ground := Ground.phase }, { on := 6, ground := Ground.phase }, { on := 7, ground := Ground.phase }, { on := 8, ground := Ground.phase }, { on := 9, ground := Ground.phase }, { on := 10, ground := Ground.phase }, { on := 11, ground := Ground.phase }, { on := 12, ground := Ground.phase }, { on := 13, ground := Ground.phase }], guard := none }) rfl (fun K hK => ?_) AllReadyH.nil
        go_simp
        refine hK.out _ _ HP5.out (fun hHeld => ?_)
        clear hK K
        try go_frame
        refine wpAnyH_done (by kernel_rfl) ?_ _
        go_wp2_with fail
        go_step3
        exact ⟨rfl, rfl, HS5.out.bl, HS5.out.z⟩
      case pass =>
        rintro W ⟨hBl, hZ⟩
        obtain ⟨z0, z1, z2, z3⟩ := hZ.cells
        obtain ⟨y0, y1, y2, y3⟩ := hZ.frozen
        have HB := Lib.hid (below_put4 hBl (Nat.le_refl _) (.int .i64 0) (.int .i64 0) (.int .u64 0) (.slice none 0 0))
        obtain ⟨d0, d1, d2, d3⟩ := (hZ.put (.int .i64 0) (.int .i64 0) (.int .u64 0) (.slice none 0 0)).cells
        have HD0 := Lib.hid d0
        have HD1 := Lib.hid d1
        have HD2 := Lib.hid d2
        have HD3 := Lib.hid d3
        clear d0 d1 d2 d3 hBl hZ
        unfold put4 at *
        go_wp2_with fail
        refine bodyPost_ret (v := .tuple #[.agg #[.int .i64 0, .int .i64 0, .int .u64 0, .slice none 0 0], .int .i64 0, .int .i64 (4 : Int)]) (by simp [results, Try.results84, go_sem, HD0.out, HD1.out, HD2.out, HD3.out]) rfl ?_
        exact HF.out _ HB.out
  · rw [if_neg h2] at hF
    simp only [if_neg h2] at HR2
    have HF : Hid (∀ w', Below w.heap.size w w' → LkPost (.slice (some ⟨g, o, none⟩) b.length c) b w (.returned (.tuple #[.agg #[.int .i64 (a : Int), .int .i64 5, .int .u64 (n2 : Int), .slice none 0 0], .int .i64 ((k + 4 : Nat) : Int), .int .i64 0])) w') := Lib.hid (fun w' h => by unfold LkPost; rw [hF]; exact ⟨none, 0, rfl, fun _ _ => kl_none _ _ _ _, h⟩)
    have xk : IntKind.i64.wrap ((k : Int) + 4) = ((k + 4 : Nat) : Int) := by rw [IntWalk.i64_in _ (by omega)]; omega
    clear hF
    rcases Nat.lt_or_ge k c with hkc | hkc
    · have hck : ¬ k = c := by omega
      have hck2 : ¬ c = k := by omega
      go_enter Try.func84, Try.ntmps84
      go_wp2_with fail
      refine wp_scope_straight ?_
      go_wp2_with fail
      refine (HRd.out _ (HK.out.keep HS0.out.bl)).mono ?_
      rintro en w1 ⟨rfl, hb1⟩
      have HS1 := Lib.hid (HS0.out.keep hb1)
      clear hb1
      go_wp2_with fail
      refine (HKy.out _).mono ?_
      rintro en w2 ⟨rfl, hb2⟩
      have HS2 := Lib.hid (HS1.out.keep hb2)
      obtain ⟨c0, c1, c2, c3⟩ := HS2.out.f.cells
      obtain ⟨g0, g1, g2, g3⟩ := HS2.out.f.frozen
      have HS3 := Lib.hid (HS2.out.put (.int .i64 (a : Int)) (.int .i64 5) (.int .u64 0) (.slice none 0 0))
      clear hb2
      unfold put4 at HS3
      obtain ⟨p0, p1, p2, p3⟩ := HS3.out.f.cells
      obtain ⟨r0, r1, r2, r3⟩ := HS3.out.f.frozen
      go_upto_region 8 with fail
      clear c0 c1 c2 c3 g0 g1 g2 g3 p0 p1 p2 p3 r0 r1 r2 r3
      generalize ((((w2.setCell ⟨w.heap.size + 1, 0, none⟩ (.int .i64 (a : Int))).setCell ⟨w.heap.size + 1, 1, none⟩ (.int .i64 5)).setCell ⟨w.heap.size + 1, 2, none⟩ (.int .u64 0)).setCell ⟨w.heap.size + 1, 3, none⟩ (.slice none 0 0)) = w4 at *
      have HV := Lib.hid (HS3.out.keep (Below.refl _ _).drew)
      have hp1 := HV.out.f.cells.2.1
      refine wp_region_held_drew (S := fun W' => W'.cell? ⟨w.heap.size + 1, 1, none⟩ = some (.int .i64 5)) (by kernel_rfl) hp1 (fun hHeld => ?_)
      generalize w4.drew = w5 at *
      refine wpAnyH_take (i := 0) (oi := { dst := some 28, op := Op.move (Operand.tmp 0), type := 62, pos := "read.go:73", after := #[], guard := none }) (v := ?_) rfl (by kernel_rfl) (by kernel_rfl) (by kernel_rfl) (fun _ _ _ h => h) (Or.inl ⟨by rfl, ?_⟩) (by with_reducible assumption) ?_
      rotate_left
      focus (intro wS hSw; (try dsimp only at hSw); go_simp <;> with_reducible rfl)
      try go_frame
      refine wpAnyH_take (i := 1) (oi := { dst := some 29, op := Op.move (Operand.tmp 8), type := 3, pos := "read.go:73", after := #[], guard := none }) (v := ?_) rfl (by kernel_rfl) (by kernel_rfl) (by kernel_rfl) (fun _ _ _ h => h) (Or.inl ⟨by rfl, ?_⟩) (by with_reducible assumption) ?_
      rotate_left
      focus (intro wS hSw; (try dsimp only at hSw); go_simp <;> with_reducible rfl)
      try go_frame
      refine wpAnyH_take (i := 2) (oi := { dst := some 30, op := Op.slice 62 (Operand.tmp 28) (some (Operand.tmp 29)) none none, type := 62, pos := "read.go:73", after := #[{ on := 0, ground := Ground.data }, { on := 1, ground := Ground.data }], guard := none }) (v := ?_) rfl (by kernel_rfl) (by kernel_rfl) (by kernel_rfl) (fun _ _ _ h => h) (Or.inl ⟨by rfl, ?_⟩) (by with_reducible assumption) ?_
      rotate_left
      focus (intro wS hSw; (try dsimp only at hSw); go_simp <;> with_reducible rfl)
      try go_frame
      refine wpAnyH_take (i := 3) (oi := { dst := some 31, op := Op.fieldAddr 77 (Operand.tmp 5) 1, type := 0, pos := "read.go:73", after := #[], guard := none }) (v := ?_) rfl (by kernel_rfl) (by kernel_rfl) (by kernel_rfl) (fun _ _ _ h => h) (Or.inl ⟨by rfl, ?_⟩) (by with_reducible assumption) ?_
      rotate_left
      focus (intro wS hSw; (try dsimp only at hSw); go_simp <;> with_reducible rfl)
      try go_frame
      refine wpAnyH_take (i := 4) (oi := { dst := some 32, op := Op.load 3 (Operand.tmp 31), type := 3, pos := "read.go:73", after := #[{ on := 3, ground := Ground.data }], guard := none }) (v := ?_) rfl (by kernel_rfl) (by kernel_rfl) (by kernel_rfl) (fun _ _ _ h => h) (Or.inl ⟨by rfl, ?_⟩) (by with_reducible assumption) ?_
      rotate_left
      focus (intro wS hSw; (try dsimp only at hSw); go_simp <;> with_reducible rfl)
      try go_frame
      refine wpAnyH_ready (rs := [5]) (by kernel_rfl) (by simp) ?_
      refine AllReadyH.cons (i := 5) (o := { dst := some 33, op := Op.call { callee := Callee.value (Operand.func 108), args := #[Operand.tmp 32], argTypes := #[3] }, type := 3, pos := "read.go:73", after := #[{ on := 4, ground := Ground.data }], guard := none }) rfl (fun K hK => ?_) AllReadyH.nil
      go_simp
      go_at_call 108
      refine (HWi.out _).mono ?_
      rintro en wz ⟨rfl, hwz⟩
      subst hwz
      refine hK.out _ _ hp1 (fun hHeld => ?_)
      clear hK K
      try go_frame
      refine wpAnyH_ready (rs := [6]) (by kernel_rfl) (by simp) ?_
      refine AllReadyH.cons (i := 6) (o := { dst := some 34, op := Op.call { callee := Callee.value (Operand.func 115), args := #[Operand.tmp 30, Operand.tmp 33], argTypes := #[62, 3] }, type := 167, pos := "read.go:73", after := #[{ on := 2, ground := Ground.data }, { on := 5, ground := Ground.data }, { on := 5, ground := Ground.chain }], guard := none }) rfl (fun K hK => ?_) AllReadyH.nil
      go_simp
      go_at_call 115
      refine (HR2.out _ _ (.inl rfl) (HV.out.bl)).mono ?_
      rintro en w3 ⟨rfl, hb3⟩
      have HS4 := Lib.hid (HV.out.keep hb3)
      obtain ⟨x0, x1, x2, x3⟩ := HS4.out.f.cells
      obtain ⟨y0, y1, y2, y3⟩ := HS4.out.f.frozen
      have HS5 := Lib.hid (HS4.out.set2 (.int .u64 (n2 : Int)))
      have HP4 := Lib.hid HS4.out.f.cells.2.1
      have HP5 := Lib.hid HS5.out.f.cells.2.1
      refine hK.out _ _ HP4.out (fun hHeld => ?_)
      clear hK K
      try go_frame
      refine wpAnyH_take (i := 7) (oi := { dst := some 27, op := Op.move (Operand.tmp 34), type := 167, pos := "read.go:73", after := #[{ on := 6, ground := Ground.data }], guard := none }) (v := ?_) rfl (by kernel_rfl) (by kernel_rfl) (by kernel_rfl) (fun _ _ _ h => h) (Or.inl ⟨by rfl, ?_⟩) (by with_reducible assumption) ?_
      rotate_left
      focus (intro wS hSw; (try dsimp only at hSw); go_simp <;> with_reducible rfl)
      try go_frame
      refine wpAnyH_take (i := 8) (oi := { dst := some 35, op := Op.extract (Operand.tmp 27) 0, type := 36, pos := "read.go:73", after := #[{ on := 7, ground := Ground.data }], guard := none }) (v := ?_) rfl (by kernel_rfl) (by kernel_rfl) (by kernel_rfl) (fun _ _ _ h => h) (Or.inl ⟨by rfl, ?_⟩) (by with_reducible assumption) ?_
      rotate_left
      focus (intro wS hSw; (try dsimp only at hSw); go_simp <;> with_reducible rfl)
      try go_frame
      refine wpAnyH_take (i := 9) (oi := { dst := some 36, op := Op.extract (Operand.tmp 27) 1, type := 3, pos := "read.go:73", after := #[{ on := 7, ground := Ground.data }, { on := 12, ground := Ground.gcOnly Departure.lateStores }], guard := none }) (v := ?_) rfl (by kernel_rfl) (by kernel_rfl) (by kernel_rfl) (fun _ _ _ h => h) (Or.inl ⟨by rfl, ?_⟩) (by with_reducible assumption) ?_
      rotate_left
      focus (intro wS hSw; (try dsimp only at hSw); go_simp <;> with_reducible rfl)
      try go_frame
      refine wpAnyH_take (i := 10) (oi := { dst := some 37, op := Op.extract (Operand.tmp 27) 2, type := 63, pos := "read.go:73", after := #[{ on := 7, ground := Ground.data }, { on := 13, ground := Ground.gcOnly Departure.lateStores }], guard := none }) (v := ?_) rfl (by kernel_rfl) (by kernel_rfl) (by kernel_rfl) (fun _ _ _ h => h) (Or.inl ⟨by rfl, ?_⟩) (by with_reducible assumption) ?_
      rotate_left
      focus (intro wS hSw; (try dsimp only at hSw); go_simp <;> with_reducible rfl)
      try go_frame
      refine wpAnyH_take (i := 11) (oi := { dst := some 38, op := Op.fieldAddr 77 (Operand.tmp 5) 2, type := 0, pos := "read.go:73", after := #[{ on := 0, ground := Ground.phase }, { on := 1, ground := Ground.phase }, { on := 2, ground := Ground.phase }, { on := 3, ground := Ground.phase }, { on := 4, ground := Ground.phase }, { on := 5, ground := Ground.phase }, { on := 6, ground := Ground.phase }, { on := 7, ground := Ground.phase }, { on := 8, ground := Ground.phase }, { on := 9, ground := Ground.textOnly Departure.lateStores }, { on := 10, ground := Ground.textOnly Departure.lateStores }], guard := none }) (v := ?_) rfl (by kernel_rfl) (by kernel_rfl) (by kernel_rfl) (fun _ _ _ h => h) (Or.inl ⟨by rfl, ?_⟩) (by with_reducible assumption) ?_
      rotate_left
      focus (intro wS hSw; (try dsimp only at hSw); go_simp <;> with_reducible rfl)
      try go_frame
      refine wpAnyH_ready (rs := [12]) (by kernel_rfl) (by simp) ?_
      refine AllReadyH.cons (i := 12) (o := { dst := none, op := Op.store 36 (Operand.tmp 38) (Operand.tmp 35), type := 0, pos := "read.go:73", after := #[{ on := 11, ground := Ground.data }, { on := 8, ground := Ground.data }, { on := 6, ground := Ground.chain }, { on := 0, ground := Ground.phase }, { on := 1, ground := Ground.phase }, { on := 2, ground := Ground.phase }, { on := 3, ground := Ground.phase }, { on := 4, ground := Ground.phase }, { on := 5, ground := Ground.phase }, { on := 6, ground := Ground.phase }, { on := 7, ground := Ground.phase }, { on := 8, ground := Ground.phase }, { on := 9, ground := Ground.textOnly Departure.lateStores }, { on := 10, ground := Ground.textOnly Departure.lateStores }], guard := none }) rfl (fun K hK => ?_) AllReadyH.nil
      go_simp
      refine hK.out _ _ HP5.out (fun hHeld => ?_)
      clear hK K
      try go_frame
      refine wpAnyH_ready (rs := [13]) (by kernel_rfl) (by simp) ?_
      refine AllReadyH.cons (i := 13) (o := { dst := some 6, op := Op.assign (Operand.tmp 36), type := 3, pos := "read.go:73", after := #[{ on := 9, ground := Ground.data }, { on := 12, ground := Ground.chain }, { on := 0, ground := Ground.phase }, { on := 1, ground := Ground.phase }, { on := 2, ground := Ground.phase }, { on := 3, ground := Ground.phase }, { on := 4, ground := Ground.phase }, { on := 5, ground := Ground.phase }, { on := 6, ground := Ground.phase }, { on := 7, ground := Ground.phase }, { on := 8, ground := Ground.phase }, { on := 9, ground := Ground.phase }, { on := 10, ground := Ground.textOnly Departure.lateStores }, { on := 11, ground := Ground.phase }, { on := 12, ground := Ground.phase }], guard := none }) rfl (fun K hK => ?_) AllReadyH.nil
      go_simp
      refine hK.out _ _ HP5.out (fun hHeld => ?_)
      clear hK K
      try go_frame
      refine wpAnyH_ready (rs := [14]) (by kernel_rfl) (by simp) ?_
      refine AllReadyH.cons (i := 14) (o := { dst := some 9, op := Op.assign (Operand.tmp 37), type := 63, pos := "read.go:73", after := #[{ on := 10, ground := Ground.data }, { on := 13, ground := Ground.chain }, { on := 0, ground := Ground.phase }, { on := 1, ground := Ground.phase }, { on := 2, ground := Ground.phase }, { on := 3, ground := Ground.phase }, { on := 4, ground := Ground.phase }, { on := 5, ground := Ground.phase }, { on := 6, ground := Ground.phase }, { on := 7, ground := Ground.phase }, { on := 8, ground := Ground.phase }, { on := 9, ground := Ground.phase }, { on := 10, ground := Ground.phase }, { on := 11, ground := Ground.phase }, { on := 12, ground := Ground.phase }, { on := 13, ground := Ground.phase }], guard := none }) rfl (fun K hK => ?_) AllReadyH.nil
      go_simp
      refine hK.out _ _ HP5.out (fun hHeld => ?_)
      clear hK K
      try go_frame
      refine wpAnyH_done (by kernel_rfl) ?_ _
      clear x0 x1 x2 x3 y0 y1 y2 y3
      obtain ⟨c0, c1, c2, c3⟩ := HS5.out.f.cells
      obtain ⟨g0, g1, g2, g3⟩ := HS5.out.f.frozen
      obtain ⟨m0, m1, m2, m3⟩ := HS5.out.z.cells
      obtain ⟨o0, o1, o2, o3⟩ := HS5.out.z.frozen
      have HB := Lib.hid (below_put4 HS5.out.bl (Nat.le_refl _) (.int .i64 (a : Int)) (.int .i64 5) (.int .u64 (n2 : Int)) (.slice none 0 0))
      obtain ⟨d0, d1, d2, d3⟩ := (HS5.out.z.put (.int .i64 (a : Int)) (.int .i64 5) (.int .u64 (n2 : Int)) (.slice none 0 0)).cells
      have HD0 := Lib.hid d0
      have HD1 := Lib.hid d1
      have HD2 := Lib.hid d2
      have HD3 := Lib.hid d3
      clear d0 d1 d2 d3
      unfold put4 at HB HD0 HD1 HD2 HD3
      go_wp2_with fail
      refine bodyPost_ret (v := .tuple #[.agg #[.int .i64 (a : Int), .int .i64 5, .int .u64 (n2 : Int), .slice none 0 0], .int .i64 (((k + 4 : Nat) : Int)), .int .i64 0]) (by simp [results, Try.results84, go_sem, HD0.out, HD1.out, HD2.out, HD3.out]) rfl ?_
      exact HF.out _ HB.out
    · exact absurd (HNil.out (by omega)) (by omega)
end Go.Proofs.Ytcbgknlklpandaa
