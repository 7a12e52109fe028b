/- Walks of the document's fields: Read at a word. -/
import Derived.Test.YtcbgknlklpandaaProX
namespace Go.Proofs.Ytcbgknlklpandaa
open Go.RowKit Go.Sort

set_option maxRecDepth 100000 in
set_option maxHeartbeats 4000000 in
theorem rr_f {w : World} {v : Value} {b : List Nat} (hK : KL .u8 w v b) (hb : ∀ x ∈ b, x < 256) (hl : b.length ≤ 1000000) (he : (rd b).2.2 = 0) (hE : ¬ ((rd b).1 / 8 < 1 ∨ 536870911 < (rd b).1 / 8)) (hk0 : kyE (rd b).1 = 0) (h0 : (rd b).1 % 8 = 1) : Calls Try.prog 40 #[v] w (R8Post b w) := by
  have hmx : Try.prog.follows .mixedOrders = true := by kernel_rfl
  have HRd := Lib.hid (fun V (h : KL .u8 V v b) => rrd_any h hb hl)
  have HK := Lib.hid hK
  have hr : rd b = ((rd b).1, (rd b).2.1, 0) := by rw [← he]
  obtain ⟨t1, t2, t3, _, k5⟩ := rd_ok hr hb
  clear hr
  obtain ⟨qv, c, rfl, hlc, _⟩ := id hK
  obtain ⟨g, o, rfl, HG⟩ := hK.from t2 (by omega)
  clear hK
  have hbd : ∀ x ∈ b.drop (rd b).2.1, x < 256 := fun x hx => hb x (List.mem_of_mem_drop hx)
  have hdl : (b.drop (rd b).2.1).length ≤ 1000000 := by rw [List.length_drop]; omega
  have HFr := Lib.hid (fun V (q' : Option Addr) (hq : q' = some ⟨g, o + (rd b).2.1, none⟩ ∨ (rd b).2.1 = b.length) (hV : Below w.heap.size w V) => (HG q' hq).keep hV)
  have hF := rdF_w he hk0 (by omega) (by omega)
  rw [h0, show wid ((1 : Nat) : Int) = 8 from rfl] at hF
  have hLen : (b.drop (rd b).2.1).length = b.length - (rd b).2.1 := List.length_drop
  unfold RdPost at HRd
  rw [he] at HRd
  have h1 : ((rd b).1 : Int) / 8 = (((rd b).1 / 8 : Nat) : Int) := by omega
  have h2 : ((rd b).1 : Int) % 8 = 1 := by omega
  have ha : (rd b).1 / 8 < 2305843009213693952 := by omega
  have hE1 : 1 ≤ (rd b).1 / 8 := by omega
  have hE2 : (rd b).1 / 8 ≤ 536870911 := by omega
  generalize (rd b).1 / 8 = a at *
  generalize (rd b).1 = u at *
  have ha1z : ¬ (a : Int) < 1 := by omega
  have ha2z : ¬ (536870911 : Int) < (a : Int) := by omega
  have x1 : IntKind.i64.wrap (a : Int) = (a : Int) := IntWalk.i64_in _ (by omega)
  have HDr : Hid (∀ i, (rd b).2.1 + i < b.length → (b.drop (rd b).2.1)[i]? = b[(rd b).2.1 + i]?) := Lib.hid (fun i _ => by rw [List.getElem?_drop])
  generalize (rd b).2.1 = k at *
  have y6 : (k : Int) ≤ (c : Int) := by omega
  have y7 : (b.length : Int) ≤ (c : Int) := by omega
  have y8 : (k : Int) ≤ (b.length : Int) := by omega
  rw [hLen] at hF
  have xs : IntKind.u64.wrap ((b.length : Int) - (k : Int)) = ((b.length - k : Nat) : Int) := by rw [IntWalk.u64_in _ (by omega)]; omega
  have xs0 : IntKind.i64.wrap ((b.length : Int) - (k : Int)) = (b.length : Int) - (k : Int) := IntWalk.i64_in _ (by omega)
  clear HFr HG
  by_cases hn : b.length - k < 8
  · have hnz : ((b.length - k : Nat) : Int) < 8 := by omega
    rw [if_pos hn] at hF
    have HF := Lib.hid (fun w' (h : Below w.heap.size w w') => r8_bad (b := b) (w := w) (w' := w') hF h)
    clear hF
    go_enter Try.func40, Try.ntmps40
    go_wp2_with fail
    refine (HRd.out _ (HK.out.keep (below_alloc _ _))).mono ?_
    rintro en w1 ⟨rfl, hb1⟩
    have HB1 := Lib.hid (below_after (below_alloc w (.cells #[.int .i64 0, .int .i64 0, .int .u64 0, .string ⟨#[]⟩] 81)) hb1)
    have HZ1 := Lib.hid ((F4.new w 81 (.int .i64 0) (.int .i64 0) (.int .u64 0) (.string ⟨#[]⟩)).keep hb1)
    clear hb1
    have HS2 := Lib.hid (Rk.first HB1.out HZ1.out (a : Int) 1)
    go_upto_region 7 with fail
    clear HB1 HZ1
    generalize hk8 : w1.heap.size = k8 at *
    generalize w1.alloc (.cells #[.int .i64 (a : Int), .int .i64 1, .int .u64 0, .string ⟨#[]⟩] 81) = w2 at *
    clear hk8
    obtain ⟨c0, c1, c2, c3⟩ := HS2.out.f.cells
    obtain ⟨g0, g1, g2, g3⟩ := HS2.out.f.frozen
    clear c2 c3 g0 g1 g2 g3
    obtain ⟨z0, z1, z2, z3⟩ := HS2.out.z.cells
    obtain ⟨y0, y1, y2, y3⟩ := HS2.out.z.frozen
    have HB6 := Lib.hid (below_put4 HS2.out.bl (Nat.le_refl _) (.int .i64 0) (.int .i64 0) (.int .u64 0) (.string ⟨#[]⟩))
    obtain ⟨d0, d1, d2, d3⟩ := (HS2.out.z.put (.int .i64 0) (.int .i64 0) (.int .u64 0) (.string ⟨#[]⟩)).cells
    have HD0 := Lib.hid d0
    have HD1 := Lib.hid d1
    have HD2 := Lib.hid d2
    have HD3 := Lib.hid d3
    clear d0 d1 d2 d3
    unfold put4 at HB6 HD0 HD1 HD2 HD3
    go_wp2_with fail
    refine bodyPost_ret (v := .tuple #[.agg #[.int .i64 0, .int .i64 0, .int .u64 0, .string ⟨#[]⟩], .int .i64 (0), .int .i64 (4)]) (by simp [results, Try.results40, go_sem, HD0.out, HD1.out, HD2.out, HD3.out]) rfl ?_
    exact HF.out _ HB6.out
  · have hnz : ¬ ((b.length - k : Nat) : Int) < 8 := by omega
    rw [if_neg hn] at hF
    have hTl : ((b.drop k).take 8).length = 8 := by rw [List.length_take, hLen]; omega
    have hTb : ∀ x ∈ (b.drop k).take 8, x < 256 := fun x hx => hbd x (List.mem_of_mem_take hx)
    have HTi : Hid (∀ j (hj : j < 8), ∃ hk : k + j < b.length, ((b.drop k).take 8)[j]? = some b[k + j]) := Lib.hid (fun j hj => ⟨by omega, by rw [List.getElem?_take_of_lt hj, List.getElem?_drop, List.getElem?_eq_getElem]⟩)
    generalize hT : (b.drop k).take 8 = T at *
    have HF : Hid (∀ w', Below w.heap.size w w' → R8Post b w (.returned (.tuple #[.agg #[.int .i64 (a : Int), .int .i64 1, .int .u64 (unl T : Int), .string ⟨#[]⟩], .int .i64 ((k + 8 : Nat) : Int), .int .i64 0])) w') := Lib.hid (fun w' h => by unfold R8Post; rw [hF]; exact ⟨rfl, h⟩)
    have HTb := Lib.hid hTb
    have HTl := Lib.hid hTl
    have xe : IntKind.i64.wrap ((k : Int) + 8) = ((k + 8 : Nat) : Int) := by rw [IntWalk.i64_in _ (by omega)]; omega
    have xd : IntKind.i64.wrap (((k + 8 : Nat) : Int) - 1) = (k : Int) + 7 := by rw [IntWalk.i64_in _ (by omega)]; omega
    have HX : Hid (∀ V, Below w.heap.size w V → ∀ j (h : j < b.length), V.cell? ⟨g, o + j, none⟩ = some (.int .u8 (b[j] : Int))) := Lib.hid (fun V hV j hj => by obtain ⟨q', c', e, _, hx⟩ := HK.out; cases e; obtain ⟨g', o', e', hc⟩ := hx j hj; cases e'; exact cell_later hV hc)
    clear hF hT hTb hTl
    go_enter Try.func40, Try.ntmps40
    go_wp2_with fail
    refine (HRd.out _ (HK.out.keep (below_alloc _ _))).mono ?_
    rintro en w1 ⟨rfl, hb1⟩
    have HB1 := Lib.hid (below_after (below_alloc w (.cells #[.int .i64 0, .int .i64 0, .int .u64 0, .string ⟨#[]⟩] 81)) hb1)
    have HZ1 := Lib.hid ((F4.new w 81 (.int .i64 0) (.int .i64 0) (.int .u64 0) (.string ⟨#[]⟩)).keep hb1)
    clear hb1
    have HS2 := Lib.hid (Rk.first HB1.out HZ1.out (a : Int) 1)
    go_upto_region 7 with fail
    clear HB1 HZ1
    generalize hk8 : w1.heap.size = k8 at *
    generalize w1.alloc (.cells #[.int .i64 (a : Int), .int .i64 1, .int .u64 0, .string ⟨#[]⟩] 81) = w2 at *
    clear hk8
    obtain ⟨c0, c1, c2, c3⟩ := HS2.out.f.cells
    obtain ⟨g0, g1, g2, g3⟩ := HS2.out.f.frozen
    clear h2
    go_upto_region 27 with fail
    clear c0 c1 c2 c3 g0 g1 g2 g3
    go_wp2_with fail
    go_loopg [14] 8 (fun gk i wx => ∃ j : Nat, j = gk ∧ j ≤ 8 ∧ i = .int .i64 ((k : Int) + (j : Int) - 1) ∧ Hid (Rk w wx k8 (.int .i64 (a : Int)) (.int .i64 1) (.int .u64 ((unl (T.drop j) : Nat) : Int)) (.string ⟨#[]⟩)))
    case atStart => exact ⟨8, rfl, Nat.le_refl _, (by first | rfl | (congr 1; omega)), (by rw [List.drop_of_length_le (by rw [HTl.out]; exact Nat.le_refl _)]; exact HS2)⟩
    case round =>
      obtain ⟨j, rfl, hj, rfl, HR⟩ := hrel
      cases j with
      | zero =>
        have hkz : ¬ (k : Int) ≤ (k : Int) + ((0 : Nat) : Int) - 1 := by omega
        have HR0 : Hid (Rk w wr k8 (.int .i64 (a : Int)) (.int .i64 1) (.int .u64 (unl T : Int)) (.string ⟨#[]⟩)) := Lib.hid (by have h := HR.out; rwa [List.drop_zero] at h)
        obtain ⟨c0, c1, c2, c3⟩ := HR0.out.f.cells
        generalize unl T = n2 at *
        obtain ⟨z0, z1, z2, z3⟩ := HR0.out.z.cells
        obtain ⟨y0, y1, y2, y3⟩ := HR0.out.z.frozen
        have HB6 := Lib.hid (below_put4 HR0.out.bl (Nat.le_refl _) (.int .i64 (a : Int)) (.int .i64 1) (.int .u64 (n2 : Int)) (.string ⟨#[]⟩))
        obtain ⟨d0, d1, d2, d3⟩ := (HR0.out.z.put (.int .i64 (a : Int)) (.int .i64 1) (.int .u64 (n2 : Int)) (.string ⟨#[]⟩)).cells
        have HD0 := Lib.hid d0
        have HD1 := Lib.hid d1
        have HD2 := Lib.hid d2
        have HD3 := Lib.hid d3
        clear d0 d1 d2 d3
        unfold put4 at HB6 HD0 HD1 HD2 HD3
        go_wp2_with fail
        refine bodyPost_ret (v := .tuple #[.agg #[.int .i64 (a : Int), .int .i64 1, .int .u64 (n2 : Int), .string ⟨#[]⟩], .int .i64 (((k + 8 : Nat) : Int)), .int .i64 (0)]) (by simp [results, Try.results40, go_sem, HD0.out, HD1.out, HD2.out, HD3.out]) rfl ?_
        exact HF.out _ HB6.out
      | succ j =>
        have ei : (k : Int) + ((j + 1 : Nat) : Int) - 1 = ((k + j : Nat) : Int) := by omega
        rw [ei]
        have hkz : (k : Int) ≤ ((k + j : Nat) : Int) := by omega
        have hkz2 : ((k + j : Nat) : Int) < (b.length : Int) := by omega
        have hq0 : 0 ≤ (k : Int) + (j : Int) := by omega
        have hq1 : (k : Int) + (j : Int) < (b.length : Int) := by omega
        have hq2 : ((k : Int) + (j : Int)).toNat = k + j := by omega
        have hqc : ((k + j : Nat) : Int) = (k : Int) + (j : Int) := by omega
        obtain ⟨hkj, hTj⟩ := HTi.out j (by omega)
        have hx := HX.out wr HR.out.bl (k + j) hkj
        have HXx := Lib.hid (fun V hV => HX.out V hV (k + j) hkj)
        have hdr : T.drop j = b[k + j] :: T.drop (j + 1) := by obtain ⟨h1, h2⟩ := List.getElem?_eq_some_iff.1 hTj; rw [List.drop_eq_getElem_cons h1, h2]
        have hun : unl (T.drop j) = b[k + j] + 256 * unl (T.drop (j + 1)) := by rw [hdr]; rfl
        have hx8 := hb _ (List.getElem_mem hkj)
        have hub := unl_lt (T.drop (j + 1)) (fun x hx => HTb.out x (List.mem_of_mem_drop hx))
        rw [List.length_drop, HTl.out] at hub
        have hu7 : unl (T.drop (j + 1)) < 72057594037927936 := Nat.lt_of_lt_of_le hub (by have := Nat.pow_le_pow_right (n := 256) (by omega) (show 8 - (j + 1) ≤ 7 by omega); rwa [show (256 : Nat) ^ 7 = 72057594037927936 from by decide] at this)
        have HUn := Lib.hid hun
        generalize hu1 : unl (T.drop j) = u1 at *
        have HU1 := Lib.hid hu1
        generalize unl (T.drop (j + 1)) = u0 at *
        generalize b[k + j] = x at *
        have xc : IntKind.u64.wrap (x : Int) = (x : Int) := IntWalk.u64_in _ (by omega)
        have xm : IntKind.u64.wrap (256 * (u0 : Int)) = 256 * (u0 : Int) := IntWalk.u64_in _ (by omega)
        have xa : IntKind.u64.wrap (256 * (u0 : Int) + (x : Int)) = (u1 : Int) := by rw [IntWalk.u64_in _ (by omega)]; have := HUn.out; omega
        have xdec : IntKind.i64.wrap (((k + j : Nat) : Int) - 1) = (k : Int) + (j : Int) - 1 := by rw [IntWalk.i64_in _ (by omega)]; omega
        clear hun hdr hub hTj hu1 ei hu7
        have HR1 := Lib.hid (HR.out.keep (Below.refl _ _).drew)
        go_upto_region 30 with fail
        have HXd := Lib.hid (HXx.out _ HR1.out.bl)
        clear hx
        refine wp_region_held_drew (S := fun W' => W'.cell? ⟨g, o + (k + j), none⟩ = some (.int .u8 (x : Int))) (by kernel_rfl) HXd.out (fun hHeld => ?_)
        generalize wr.drew = w5 at *
        obtain ⟨c0, c1, c2, c3⟩ := HR1.out.f.cells
        obtain ⟨g0, g1, g2, g3⟩ := HR1.out.f.frozen
        have HR2 := Lib.hid (HR1.out.set2 (.int .u64 (u1 : Int)))
        have HXe := Lib.hid (HXx.out _ HR2.out.bl)
        refine wpAnyH_take (i := 0) (oi := { dst := some 119, op := Op.fieldAddr 81 (Operand.tmp 8) 2, type := 0, pos := "ref.go:114", after := #[], guard := none }) (v := ?_) rfl (by kernel_rfl) (by kernel_rfl) (by kernel_rfl) (fun _ _ _ h => h) (Or.inl ⟨by rfl, ?_⟩) (by with_reducible assumption) ?_
        rotate_left
        focus (intro wS hSw; (try dsimp only at hSw); go_simp <;> with_reducible rfl)
        try go_frame
        refine wpAnyH_take (i := 3) (oi := { dst := some 122, op := Op.move (Operand.tmp 0), type := 62, pos := "ref.go:114", after := #[], guard := none }) (v := ?_) rfl (by kernel_rfl) (by kernel_rfl) (by kernel_rfl) (fun _ _ _ h => h) (Or.inl ⟨by rfl, ?_⟩) (by with_reducible assumption) ?_
        rotate_left
        focus (intro wS hSw; (try dsimp only at hSw); go_simp <;> with_reducible rfl)
        try go_frame
        refine wpAnyH_take (i := 4) (oi := { dst := some 123, op := Op.move (Operand.tmp 14), type := 3, pos := "ref.go:114", after := #[], guard := none }) (v := ?_) rfl (by kernel_rfl) (by kernel_rfl) (by kernel_rfl) (fun _ _ _ h => h) (Or.inl ⟨by rfl, ?_⟩) (by with_reducible assumption) ?_
        rotate_left
        focus (intro wS hSw; (try dsimp only at hSw); go_simp <;> with_reducible rfl)
        try go_frame
        refine wpAnyH_take (i := 5) (oi := { dst := some 124, op := Op.indexAddr 62 (Operand.tmp 122) (Operand.tmp 123), type := 0, pos := "ref.go:114", after := #[{ on := 3, ground := Ground.data }, { on := 4, ground := Ground.data }], guard := none }) (v := ?_) rfl (by kernel_rfl) (by kernel_rfl) (by kernel_rfl) (fun _ _ _ h => h) (Or.inl ⟨by rfl, ?_⟩) (by with_reducible assumption) ?_
        rotate_left
        focus (intro wS hSw; (try dsimp only at hSw); go_simp <;> with_reducible rfl)
        try go_frame
        refine wpAnyH_take (i := 6) (oi := { dst := some 125, op := Op.load 5 (Operand.tmp 124), type := 5, pos := "ref.go:114", after := #[{ on := 5, ground := Ground.data }], guard := none }) (v := ?_) rfl (by kernel_rfl) (by kernel_rfl) (by kernel_rfl) (fun _ _ _ h => h) (Or.inl ⟨by rfl, ?_⟩) (by with_reducible assumption) ?_
        rotate_left
        focus (intro wS hSw; (try dsimp only at hSw); go_simp <;> with_reducible rfl)
        try go_frame
        refine wpAnyH_take (i := 7) (oi := { dst := some 126, op := Op.convert 5 36 (Operand.tmp 125), type := 36, pos := "ref.go:114", after := #[{ on := 6, ground := Ground.data }], guard := none }) (v := ?_) rfl (by kernel_rfl) (by kernel_rfl) (by kernel_rfl) (fun _ _ _ h => h) (Or.inl ⟨by rfl, ?_⟩) (by with_reducible assumption) ?_
        rotate_left
        focus (intro wS hSw; (try dsimp only at hSw); go_simp <;> with_reducible rfl)
        try go_frame
        refine wpAnyH_ready (rs := [1]) (by kernel_rfl) (by simp) ?_
        refine AllReadyH.cons (i := 1) (o := { dst := some 120, op := Op.load 36 (Operand.tmp 119), type := 36, pos := "ref.go:114", after := #[{ on := 0, ground := Ground.data }], guard := none }) rfl (fun K hK => ?_) AllReadyH.nil
        go_simp
        refine hK.out _ _ HXd.out (fun hHeld => ?_)
        clear hK K
        try go_frame
        refine wpAnyH_take (i := 2) (oi := { dst := some 121, op := Op.binOp BinOp.mul 36 (Operand.const (Value.int IntKind.u64 256)) (Operand.tmp 120) 36, type := 36, pos := "ref.go:114", after := #[{ on := 1, ground := Ground.data }], guard := none }) (v := ?_) rfl (by kernel_rfl) (by kernel_rfl) (by kernel_rfl) (fun _ _ _ h => h) (Or.inl ⟨by rfl, ?_⟩) (by with_reducible assumption) ?_
        rotate_left
        focus (intro wS hSw; (try dsimp only at hSw); go_simp <;> with_reducible rfl)
        try go_frame
        refine wpAnyH_take (i := 8) (oi := { dst := some 127, op := Op.binOp BinOp.add 36 (Operand.tmp 121) (Operand.tmp 126) 36, type := 36, pos := "ref.go:114", after := #[{ on := 2, ground := Ground.data }, { on := 7, ground := Ground.data }], guard := none }) (v := ?_) rfl (by kernel_rfl) (by kernel_rfl) (by kernel_rfl) (fun _ _ _ h => h) (Or.inl ⟨by rfl, ?_⟩) (by with_reducible assumption) ?_
        rotate_left
        focus (intro wS hSw; (try dsimp only at hSw); go_simp <;> with_reducible rfl)
        try go_frame
        refine wpAnyH_take (i := 9) (oi := { dst := some 128, op := Op.fieldAddr 81 (Operand.tmp 8) 2, type := 0, pos := "ref.go:114", after := #[{ on := 0, ground := Ground.phase }, { on := 1, ground := Ground.phase }, { on := 2, ground := Ground.phase }, { on := 3, ground := Ground.phase }, { on := 4, ground := Ground.phase }, { on := 5, ground := Ground.phase }, { on := 6, ground := Ground.phase }, { on := 7, ground := Ground.phase }, { on := 8, ground := Ground.phase }], guard := none }) (v := ?_) rfl (by kernel_rfl) (by kernel_rfl) (by kernel_rfl) (fun _ _ _ h => h) (Or.inl ⟨by rfl, ?_⟩) (by with_reducible assumption) ?_
        rotate_left
        focus (intro wS hSw; (try dsimp only at hSw); go_simp <;> with_reducible rfl)
        try go_frame
        refine wpAnyH_ready (rs := [10]) (by kernel_rfl) (by simp) ?_
        refine AllReadyH.cons (i := 10) (o := { dst := none, op := Op.store 36 (Operand.tmp 128) (Operand.tmp 127), type := 0, pos := "ref.go:114", after := #[{ on := 9, ground := Ground.data }, { on := 8, ground := Ground.data }, { on := 0, ground := Ground.phase }, { on := 1, ground := Ground.phase }, { on := 2, ground := Ground.phase }, { on := 3, ground := Ground.phase }, { on := 4, ground := Ground.phase }, { on := 5, ground := Ground.phase }, { on := 6, ground := Ground.phase }, { on := 7, ground := Ground.phase }, { on := 8, ground := Ground.phase }], guard := none }) rfl (fun K hK => ?_) AllReadyH.nil
        go_simp
        refine hK.out _ _ HXe.out (fun hHeld => ?_)
        clear hK K
        try go_frame
        refine wpAnyH_done (by kernel_rfl) ?_ _
        clear c0 c1 c2 c3 g0 g1 g2 g3
        go_wp2_with fail
        go_roundg j
        case measure => omega
        case rel => exact ⟨j, rfl, by omega, rfl, by rw [HU1.out]; exact HR2⟩
set_option maxRecDepth 100000 in
set_option maxHeartbeats 4000000 in
theorem rr_g {w : World} {v : Value} {b : List Nat} (hK : KL .u8 w v b) (hb : ∀ x ∈ b, x < 256) (hl : b.length ≤ 1000000) (he : (rd b).2.2 = 0) (hE : ¬ ((rd b).1 / 8 < 1 ∨ 536870911 < (rd b).1 / 8)) (hk0 : kyE (rd b).1 = 0) (h0 : (rd b).1 % 8 = 5) : Calls Try.prog 40 #[v] w (R8Post b w) := by
  have hmx : Try.prog.follows .mixedOrders = true := by kernel_rfl
  have HRd := Lib.hid (fun V (h : KL .u8 V v b) => rrd_any h hb hl)
  have HK := Lib.hid hK
  have hr : rd b = ((rd b).1, (rd b).2.1, 0) := by rw [← he]
  obtain ⟨t1, t2, t3, _, k5⟩ := rd_ok hr hb
  clear hr
  obtain ⟨qv, c, rfl, hlc, _⟩ := id hK
  obtain ⟨g, o, rfl, HG⟩ := hK.from t2 (by omega)
  clear hK
  have hbd : ∀ x ∈ b.drop (rd b).2.1, x < 256 := fun x hx => hb x (List.mem_of_mem_drop hx)
  have hdl : (b.drop (rd b).2.1).length ≤ 1000000 := by rw [List.length_drop]; omega
  have HFr := Lib.hid (fun V (q' : Option Addr) (hq : q' = some ⟨g, o + (rd b).2.1, none⟩ ∨ (rd b).2.1 = b.length) (hV : Below w.heap.size w V) => (HG q' hq).keep hV)
  have hF := rdF_w he hk0 (by omega) (by omega)
  rw [h0, show wid ((5 : Nat) : Int) = 4 from rfl] at hF
  have hLen : (b.drop (rd b).2.1).length = b.length - (rd b).2.1 := List.length_drop
  unfold RdPost at HRd
  rw [he] at HRd
  have h1 : ((rd b).1 : Int) / 8 = (((rd b).1 / 8 : Nat) : Int) := by omega
  have h2 : ((rd b).1 : Int) % 8 = 5 := by omega
  have ha : (rd b).1 / 8 < 2305843009213693952 := by omega
  have hE1 : 1 ≤ (rd b).1 / 8 := by omega
  have hE2 : (rd b).1 / 8 ≤ 536870911 := by omega
  generalize (rd b).1 / 8 = a at *
  generalize (rd b).1 = u at *
  have ha1z : ¬ (a : Int) < 1 := by omega
  have ha2z : ¬ (536870911 : Int) < (a : Int) := by omega
  have x1 : IntKind.i64.wrap (a : Int) = (a : Int) := IntWalk.i64_in _ (by omega)
  have HDr : Hid (∀ i, (rd b).2.1 + i < b.length → (b.drop (rd b).2.1)[i]? = b[(rd b).2.1 + i]?) := Lib.hid (fun i _ => by rw [List.getElem?_drop])
  generalize (rd b).2.1 = k at *
  have y6 : (k : Int) ≤ (c : Int) := by omega
  have y7 : (b.length : Int) ≤ (c : Int) := by omega
  have y8 : (k : Int) ≤ (b.length : Int) := by omega
  rw [hLen] at hF
  have xs : IntKind.u64.wrap ((b.length : Int) - (k : Int)) = ((b.length - k : Nat) : Int) := by rw [IntWalk.u64_in _ (by omega)]; omega
  have xs0 : IntKind.i64.wrap ((b.length : Int) - (k : Int)) = (b.length : Int) - (k : Int) := IntWalk.i64_in _ (by omega)
  clear HFr HG
  by_cases hn : b.length - k < 4
  · have hnz : ((b.length - k : Nat) : Int) < 4 := by omega
    rw [if_pos hn] at hF
    have HF := Lib.hid (fun w' (h : Below w.heap.size w w') => r8_bad (b := b) (w := w) (w' := w') hF h)
    clear hF
    go_enter Try.func40, Try.ntmps40
    go_wp2_with fail
    refine (HRd.out _ (HK.out.keep (below_alloc _ _))).mono ?_
    rintro en w1 ⟨rfl, hb1⟩
    have HB1 := Lib.hid (below_after (below_alloc w (.cells #[.int .i64 0, .int .i64 0, .int .u64 0, .string ⟨#[]⟩] 81)) hb1)
    have HZ1 := Lib.hid ((F4.new w 81 (.int .i64 0) (.int .i64 0) (.int .u64 0) (.string ⟨#[]⟩)).keep hb1)
    clear hb1
    have HS2 := Lib.hid (Rk.first HB1.out HZ1.out (a : Int) 5)
    go_upto_region 7 with fail
    clear HB1 HZ1
    generalize hk8 : w1.heap.size = k8 at *
    generalize w1.alloc (.cells #[.int .i64 (a : Int), .int .i64 5, .int .u64 0, .string ⟨#[]⟩] 81) = w2 at *
    clear hk8
    obtain ⟨c0, c1, c2, c3⟩ := HS2.out.f.cells
    obtain ⟨g0, g1, g2, g3⟩ := HS2.out.f.frozen
    clear c2 c3 g0 g1 g2 g3
    obtain ⟨z0, z1, z2, z3⟩ := HS2.out.z.cells
    obtain ⟨y0, y1, y2, y3⟩ := HS2.out.z.frozen
    have HB6 := Lib.hid (below_put4 HS2.out.bl (Nat.le_refl _) (.int .i64 0) (.int .i64 0) (.int .u64 0) (.string ⟨#[]⟩))
    obtain ⟨d0, d1, d2, d3⟩ := (HS2.out.z.put (.int .i64 0) (.int .i64 0) (.int .u64 0) (.string ⟨#[]⟩)).cells
    have HD0 := Lib.hid d0
    have HD1 := Lib.hid d1
    have HD2 := Lib.hid d2
    have HD3 := Lib.hid d3
    clear d0 d1 d2 d3
    unfold put4 at HB6 HD0 HD1 HD2 HD3
    go_wp2_with fail
    refine bodyPost_ret (v := .tuple #[.agg #[.int .i64 0, .int .i64 0, .int .u64 0, .string ⟨#[]⟩], .int .i64 (0), .int .i64 (4)]) (by simp [results, Try.results40, go_sem, HD0.out, HD1.out, HD2.out, HD3.out]) rfl ?_
    exact HF.out _ HB6.out
  · have hnz : ¬ ((b.length - k : Nat) : Int) < 4 := by omega
    rw [if_neg hn] at hF
    have hTl : ((b.drop k).take 4).length = 4 := by rw [List.length_take, hLen]; omega
    have hTb : ∀ x ∈ (b.drop k).take 4, x < 256 := fun x hx => hbd x (List.mem_of_mem_take hx)
    have HTi : Hid (∀ j (hj : j < 4), ∃ hk : k + j < b.length, ((b.drop k).take 4)[j]? = some b[k + j]) := Lib.hid (fun j hj => ⟨by omega, by rw [List.getElem?_take_of_lt hj, List.getElem?_drop, List.getElem?_eq_getElem]⟩)
    generalize hT : (b.drop k).take 4 = T at *
    have HF : Hid (∀ w', Below w.heap.size w w' → R8Post b w (.returned (.tuple #[.agg #[.int .i64 (a : Int), .int .i64 5, .int .u64 (unl T : Int), .string ⟨#[]⟩], .int .i64 ((k + 4 : Nat) : Int), .int .i64 0])) w') := Lib.hid (fun w' h => by unfold R8Post; rw [hF]; exact ⟨rfl, h⟩)
    have HTb := Lib.hid hTb
    have HTl := Lib.hid hTl
    have xe : IntKind.i64.wrap ((k : Int) + 4) = ((k + 4 : Nat) : Int) := by rw [IntWalk.i64_in _ (by omega)]; omega
    have xd : IntKind.i64.wrap (((k + 4 : Nat) : Int) - 1) = (k : Int) + 3 := by rw [IntWalk.i64_in _ (by omega)]; omega
    have HX : Hid (∀ V, Below w.heap.size w V → ∀ j (h : j < b.length), V.cell? ⟨g, o + j, none⟩ = some (.int .u8 (b[j] : Int))) := Lib.hid (fun V hV j hj => by obtain ⟨q', c', e, _, hx⟩ := HK.out; cases e; obtain ⟨g', o', e', hc⟩ := hx j hj; cases e'; exact cell_later hV hc)
    clear hF hT hTb hTl
    go_enter Try.func40, Try.ntmps40
    go_wp2_with fail
    refine (HRd.out _ (HK.out.keep (below_alloc _ _))).mono ?_
    rintro en w1 ⟨rfl, hb1⟩
    have HB1 := Lib.hid (below_after (below_alloc w (.cells #[.int .i64 0, .int .i64 0, .int .u64 0, .string ⟨#[]⟩] 81)) hb1)
    have HZ1 := Lib.hid ((F4.new w 81 (.int .i64 0) (.int .i64 0) (.int .u64 0) (.string ⟨#[]⟩)).keep hb1)
    clear hb1
    have HS2 := Lib.hid (Rk.first HB1.out HZ1.out (a : Int) 5)
    go_upto_region 7 with fail
    clear HB1 HZ1
    generalize hk8 : w1.heap.size = k8 at *
    generalize w1.alloc (.cells #[.int .i64 (a : Int), .int .i64 5, .int .u64 0, .string ⟨#[]⟩] 81) = w2 at *
    clear hk8
    obtain ⟨c0, c1, c2, c3⟩ := HS2.out.f.cells
    obtain ⟨g0, g1, g2, g3⟩ := HS2.out.f.frozen
    clear h2
    go_upto_region 27 with fail
    clear c0 c1 c2 c3 g0 g1 g2 g3
    go_wp2_with fail
    go_loopg [14] 4 (fun gk i wx => ∃ j : Nat, j = gk ∧ j ≤ 4 ∧ i = .int .i64 ((k : Int) + (j : Int) - 1) ∧ Hid (Rk w wx k8 (.int .i64 (a : Int)) (.int .i64 5) (.int .u64 ((unl (T.drop j) : Nat) : Int)) (.string ⟨#[]⟩)))
    case atStart => exact ⟨4, rfl, Nat.le_refl _, (by first | rfl | (congr 1; omega)), (by rw [List.drop_of_length_le (by rw [HTl.out]; exact Nat.le_refl _)]; exact HS2)⟩
    case round =>
      obtain ⟨j, rfl, hj, rfl, HR⟩ := hrel
      cases j with
      | zero =>
        have hkz : ¬ (k : Int) ≤ (k : Int) + ((0 : Nat) : Int) - 1 := by omega
        have HR0 : Hid (Rk w wr k8 (.int .i64 (a : Int)) (.int .i64 5) (.int .u64 (unl T : Int)) (.string ⟨#[]⟩)) := Lib.hid (by have h := HR.out; rwa [List.drop_zero] at h)
        obtain ⟨c0, c1, c2, c3⟩ := HR0.out.f.cells
        generalize unl T = n2 at *
        obtain ⟨z0, z1, z2, z3⟩ := HR0.out.z.cells
        obtain ⟨y0, y1, y2, y3⟩ := HR0.out.z.frozen
        have HB6 := Lib.hid (below_put4 HR0.out.bl (Nat.le_refl _) (.int .i64 (a : Int)) (.int .i64 5) (.int .u64 (n2 : Int)) (.string ⟨#[]⟩))
        obtain ⟨d0, d1, d2, d3⟩ := (HR0.out.z.put (.int .i64 (a : Int)) (.int .i64 5) (.int .u64 (n2 : Int)) (.string ⟨#[]⟩)).cells
        have HD0 := Lib.hid d0
        have HD1 := Lib.hid d1
        have HD2 := Lib.hid d2
        have HD3 := Lib.hid d3
        clear d0 d1 d2 d3
        unfold put4 at HB6 HD0 HD1 HD2 HD3
        go_wp2_with fail
        refine bodyPost_ret (v := .tuple #[.agg #[.int .i64 (a : Int), .int .i64 5, .int .u64 (n2 : Int), .string ⟨#[]⟩], .int .i64 (((k + 4 : Nat) : Int)), .int .i64 (0)]) (by simp [results, Try.results40, go_sem, HD0.out, HD1.out, HD2.out, HD3.out]) rfl ?_
        exact HF.out _ HB6.out
      | succ j =>
        have ei : (k : Int) + ((j + 1 : Nat) : Int) - 1 = ((k + j : Nat) : Int) := by omega
        rw [ei]
        have hkz : (k : Int) ≤ ((k + j : Nat) : Int) := by omega
        have hkz2 : ((k + j : Nat) : Int) < (b.length : Int) := by omega
        have hq0 : 0 ≤ (k : Int) + (j : Int) := by omega
        have hq1 : (k : Int) + (j : Int) < (b.length : Int) := by omega
        have hq2 : ((k : Int) + (j : Int)).toNat = k + j := by omega
        have hqc : ((k + j : Nat) : Int) = (k : Int) + (j : Int) := by omega
        obtain ⟨hkj, hTj⟩ := HTi.out j (by omega)
        have hx := HX.out wr HR.out.bl (k + j) hkj
        have HXx := Lib.hid (fun V hV => HX.out V hV (k + j) hkj)
        have hdr : T.drop j = b[k + j] :: T.drop (j + 1) := by obtain ⟨h1, h2⟩ := List.getElem?_eq_some_iff.1 hTj; rw [List.drop_eq_getElem_cons h1, h2]
        have hun : unl (T.drop j) = b[k + j] + 256 * unl (T.drop (j + 1)) := by rw [hdr]; rfl
        have hx8 := hb _ (List.getElem_mem hkj)
        have hub := unl_lt (T.drop (j + 1)) (fun x hx => HTb.out x (List.mem_of_mem_drop hx))
        rw [List.length_drop, HTl.out] at hub
        have hu7 : unl (T.drop (j + 1)) < 72057594037927936 := Nat.lt_of_lt_of_le hub (by have := Nat.pow_le_pow_right (n := 256) (by omega) (show 4 - (j + 1) ≤ 7 by omega); rwa [show (256 : Nat) ^ 7 = 72057594037927936 from by decide] at this)
        have HUn := Lib.hid hun
        generalize hu1 : unl (T.drop j) = u1 at *
        have HU1 := Lib.hid hu1
        generalize unl (T.drop (j + 1)) = u0 at *
        generalize b[k + j] = x at *
        have xc : IntKind.u64.wrap (x : Int) = (x : Int) := IntWalk.u64_in _ (by omega)
        have xm : IntKind.u64.wrap (256 * (u0 : Int)) = 256 * (u0 : Int) := IntWalk.u64_in _ (by omega)
        have xa : IntKind.u64.wrap (256 * (u0 : Int) + (x : Int)) = (u1 : Int) := by rw [IntWalk.u64_in _ (by omega)]; have := HUn.out; omega
        have xdec : IntKind.i64.wrap (((k + j : Nat) : Int) - 1) = (k : Int) + (j : Int) - 1 := by rw [IntWalk.i64_in _ (by omega)]; omega
        clear hun hdr hub hTj hu1 ei hu7
        have HR1 := Lib.hid (HR.out.keep (Below.refl _ _).drew)
        go_upto_region 30 with fail
        have HXd := Lib.hid (HXx.out _ HR1.out.bl)
        clear hx
        refine wp_region_held_drew (S := fun W' => W'.cell? ⟨g, o + (k + j), none⟩ = some (.int .u8 (x : Int))) (by kernel_rfl) HXd.out (fun hHeld => ?_)
        generalize wr.drew = w5 at *
        obtain ⟨c0, c1, c2, c3⟩ := HR1.out.f.cells
        obtain ⟨g0, g1, g2, g3⟩ := HR1.out.f.frozen
        have HR2 := Lib.hid (HR1.out.set2 (.int .u64 (u1 : Int)))
        have HXe := Lib.hid (HXx.out _ HR2.out.bl)
        refine wpAnyH_take (i := 0) (oi := { dst := some 119, op := Op.fieldAddr 81 (Operand.tmp 8) 2, type := 0, pos := "ref.go:114", after := #[], guard := none }) (v := ?_) rfl (by kernel_rfl) (by kernel_rfl) (by kernel_rfl) (fun _ _ _ h => h) (Or.inl ⟨by rfl, ?_⟩) (by with_reducible assumption) ?_
        rotate_left
        focus (intro wS hSw; (try dsimp only at hSw); go_simp <;> with_reducible rfl)
        try go_frame
        refine wpAnyH_take (i := 3) (oi := { dst := some 122, op := Op.move (Operand.tmp 0), type := 62, pos := "ref.go:114", after := #[], guard := none }) (v := ?_) rfl (by kernel_rfl) (by kernel_rfl) (by kernel_rfl) (fun _ _ _ h => h) (Or.inl ⟨by rfl, ?_⟩) (by with_reducible assumption) ?_
        rotate_left
        focus (intro wS hSw; (try dsimp only at hSw); go_simp <;> with_reducible rfl)
        try go_frame
        refine wpAnyH_take (i := 4) (oi := { dst := some 123, op := Op.move (Operand.tmp 14), type := 3, pos := "ref.go:114", after := #[], guard := none }) (v := ?_) rfl (by kernel_rfl) (by kernel_rfl) (by kernel_rfl) (fun _ _ _ h => h) (Or.inl ⟨by rfl, ?_⟩) (by with_reducible assumption) ?_
        rotate_left
        focus (intro wS hSw; (try dsimp only at hSw); go_simp <;> with_reducible rfl)
        try go_frame
        refine wpAnyH_take (i := 5) (oi := { dst := some 124, op := Op.indexAddr 62 (Operand.tmp 122) (Operand.tmp 123), type := 0, pos := "ref.go:114", after := #[{ on := 3, ground := Ground.data }, { on := 4, ground := Ground.data }], guard := none }) (v := ?_) rfl (by kernel_rfl) (by kernel_rfl) (by kernel_rfl) (fun _ _ _ h => h) (Or.inl ⟨by rfl, ?_⟩) (by with_reducible assumption) ?_
        rotate_left
        focus (intro wS hSw; (try dsimp only at hSw); go_simp <;> with_reducible rfl)
        try go_frame
        refine wpAnyH_take (i := 6) (oi := { dst := some 125, op := Op.load 5 (Operand.tmp 124), type := 5, pos := "ref.go:114", after := #[{ on := 5, ground := Ground.data }], guard := none }) (v := ?_) rfl (by kernel_rfl) (by kernel_rfl) (by kernel_rfl) (fun _ _ _ h => h) (Or.inl ⟨by rfl, ?_⟩) (by with_reducible assumption) ?_
        rotate_left
        focus (intro wS hSw; (try dsimp only at hSw); go_simp <;> with_reducible rfl)
        try go_frame
        refine wpAnyH_take (i := 7) (oi := { dst := some 126, op := Op.convert 5 36 (Operand.tmp 125), type := 36, pos := "ref.go:114", after := #[{ on := 6, ground := Ground.data }], guard := none }) (v := ?_) rfl (by kernel_rfl) (by kernel_rfl) (by kernel_rfl) (fun _ _ _ h => h) (Or.inl ⟨by rfl, ?_⟩) (by with_reducible assumption) ?_
        rotate_left
        focus (intro wS hSw; (try dsimp only at hSw); go_simp <;> with_reducible rfl)
        try go_frame
        refine wpAnyH_ready (rs := [1]) (by kernel_rfl) (by simp) ?_
        refine AllReadyH.cons (i := 1) (o := { dst := some 120, op := Op.load 36 (Operand.tmp 119), type := 36, pos := "ref.go:114", after := #[{ on := 0, ground := Ground.data }], guard := none }) rfl (fun K hK => ?_) AllReadyH.nil
        go_simp
        refine hK.out _ _ HXd.out (fun hHeld => ?_)
        clear hK K
        try go_frame
        refine wpAnyH_take (i := 2) (oi := { dst := some 121, op := Op.binOp BinOp.mul 36 (Operand.const (Value.int IntKind.u64 256)) (Operand.tmp 120) 36, type := 36, pos := "ref.go:114", after := #[{ on := 1, ground := Ground.data }], guard := none }) (v := ?_) rfl (by kernel_rfl) (by kernel_rfl) (by kernel_rfl) (fun _ _ _ h => h) (Or.inl ⟨by rfl, ?_⟩) (by with_reducible assumption) ?_
        rotate_left
        focus (intro wS hSw; (try dsimp only at hSw); go_simp <;> with_reducible rfl)
        try go_frame
        refine wpAnyH_take (i := 8) (oi := { dst := some 127, op := Op.binOp BinOp.add 36 (Operand.tmp 121) (Operand.tmp 126) 36, type := 36, pos := "ref.go:114", after := #[{ on := 2, ground := Ground.data }, { on := 7, ground := Ground.data }], guard := none }) (v := ?_) rfl (by kernel_rfl) (by kernel_rfl) (by kernel_rfl) (fun _ _ _ h => h) (Or.inl ⟨by rfl, ?_⟩) (by with_reducible assumption) ?_
        rotate_left
        focus (intro wS hSw; (try dsimp only at hSw); go_simp <;> with_reducible rfl)
        try go_frame
        refine wpAnyH_take (i := 9) (oi := { dst := some 128, op := Op.fieldAddr 81 (Operand.tmp 8) 2, type := 0, pos := "ref.go:114", after := #[{ on := 0, ground := Ground.phase }, { on := 1, ground := Ground.phase }, { on := 2, ground := Ground.phase }, { on := 3, ground := Ground.phase }, { on := 4, ground := Ground.phase }, { on := 5, ground := Ground.phase }, { on := 6, ground := Ground.phase }, { on := 7, ground := Ground.phase }, { on := 8, ground := Ground.phase }], guard := none }) (v := ?_) rfl (by kernel_rfl) (by kernel_rfl) (by kernel_rfl) (fun _ _ _ h => h) (Or.inl ⟨by rfl, ?_⟩) (by with_reducible assumption) ?_
        rotate_left
        focus (intro wS hSw; (try dsimp only at hSw); go_simp <;> with_reducible rfl)
        try go_frame
        refine wpAnyH_ready (rs := [10]) (by kernel_rfl) (by simp) ?_
        refine AllReadyH.cons (i := 10) (o := { dst := none, op := Op.store 36 (Operand.tmp 128) (Operand.tmp 127), type := 0, pos := "ref.go:114", after := #[{ on := 9, ground := Ground.data }, { on := 8, ground := Ground.data }, { on := 0, ground := Ground.phase }, { on := 1, ground := Ground.phase }, { on := 2, ground := Ground.phase }, { on := 3, ground := Ground.phase }, { on := 4, ground := Ground.phase }, { on := 5, ground := Ground.phase }, { on := 6, ground := Ground.phase }, { on := 7, ground := Ground.phase }, { on := 8, ground := Ground.phase }], guard := none }) rfl (fun K hK => ?_) AllReadyH.nil
        go_simp
        refine hK.out _ _ HXe.out (fun hHeld => ?_)
        clear hK K
        try go_frame
        refine wpAnyH_done (by kernel_rfl) ?_ _
        clear c0 c1 c2 c3 g0 g1 g2 g3
        go_wp2_with fail
        go_roundg j
        case measure => omega
        case rel => exact ⟨j, rfl, by omega, rfl, by rw [HU1.out]; exact HR2⟩
end Go.Proofs.Ytcbgknlklpandaa
