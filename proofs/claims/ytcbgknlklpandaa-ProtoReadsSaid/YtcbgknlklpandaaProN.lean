/- Walks of the document's fields: Bytes, Write. -/
import Derived.Test.YtcbgknlklpandaaProM
namespace Go.Proofs.Ytcbgknlklpandaa
open Go.RowKit Go.Sort

theorem F4.frowD {W W1 : World} {B0 B n : Nat} {v : Value} {v0 v1 v2 v3 : Value} {xs : List Value} (h : F4 W B 81 v0 v1 v2 v3) (hg : W.grownBy W1 v.ownBlock) (ho : W.ownsRow B0 5 1 v n xs) : F4 W1 B 81 v0 v1 v2 v3 := by
  refine (hg.block B h.lt ?_).trans h
  rcases ho.2 with ⟨rfl, _⟩ | ⟨g, cap, cur, rfl, _, hgb, _⟩
  · simp [Value.ownBlock]
  · intro e'
    obtain rfl : B = g := by simpa [Value.ownBlock] using e'
    have := (show W.heap[B]? = _ from h).symm.trans hgb
    simp at this
set_option maxRecDepth 100000 in
set_option maxHeartbeats 4000000 in
theorem rbytes8_any {f : Fd} (hc : chk f = 0) (hn : f.n < 18446744073709551616) (hbl : f.b.length ≤ 1000) (hb : ∀ x ∈ f.b, x < 256) (w : World) : Calls Try.prog 78 #[.agg #[.int .i64 f.num, .int .i64 f.kind, .int .u64 (f.n : Int), .string (bst f.b)]] w (ByPost 5 (fby f) w) := by
  have hmx : Try.prog.follows .mixedOrders = true := by kernel_rfl
  obtain ⟨i0, hi, hz0, hz1, hz2⟩ := info_parts info8
  obtain ⟨⟨n1, n2⟩, hkd, h3, h4, h5⟩ := chk_ok hc
  have HB := Lib.hid (below_alloc w (.cells #[.int .i64 f.num, .int .i64 f.kind, .int .u64 (f.n : Int), .string (bst f.b)] 81))
  have HF := Lib.hid (F4.new w 81 (.int .i64 f.num) (.int .i64 f.kind) (.int .u64 (f.n : Int)) (.string (bst f.b)))
  have hkey : key f < 18446744073709551616 := by unfold key; omega
  have hkn : (key f : Int) = 8 * f.num + f.kind := by unfold key; omega
  have HFb : Hid (fby f = nb (key f) ++ pay f) := Lib.hid rfl
  have HPy : Hid (pay f = if f.kind = 0 then nb f.n else if f.kind = 2 then nb f.b.length ++ f.b else low f.n (wid f.kind)) := Lib.hid rfl
  generalize fby f = Z at *
  generalize pay f = Y at *
  generalize hkk : key f = kk at *
  clear hkk
  obtain ⟨num, kind, n, b⟩ := f
  dsimp only at *
  have hk10 := nb_len10 hkey
  have HN10 := Lib.hid (nb_len10 hn)
  have x1 : 8 * num + kind = (kk : Int) := by omega
  have x2 : IntKind.u64.wrap num = num := IntWalk.u64_in _ (by omega)
  have x3 : IntKind.u64.wrap (8 * num) = 8 * num := IntWalk.u64_in _ (by omega)
  have x6 : IntKind.u64.wrap kind = kind := IntWalk.u64_in _ (by omega)
  have x4 : IntKind.u64.wrap (8 * num + kind) = (kk : Int) := by rw [IntWalk.u64_in _ (by omega)]; omega
  have x5 : IntKind.u64.wrap (kk : Int) = (kk : Int) := IntWalk.u64_in _ (by omega)
  have HRk := Lib.hid (fun V => rbytes_any kk kk (Nat.le_refl _) hkey V)
  generalize nb kk = K at *
  clear hkn hc
  by_cases k0 : kind = 0
  · subst k0
    have HZ : Hid (Z = K ++ nb n) := Lib.hid (by rw [HFb.out, HPy.out, if_pos rfl])
    have HR2 := Lib.hid (fun V => rbytes_any n n (Nat.le_refl _) hn V)
    have HXl : Hid ((nb n).length ≤ 10) := HN10
    generalize nb n = X at *
    clear h3 h4 h5 HFb HPy
    go_enter Try.func78, Try.ntmps78
    obtain ⟨c0, c1, c2, c3⟩ := HF.out.cells
    go_wp2_with fail
    refine (HRk.out _).mono ?_
    rintro en w1 ⟨u, rfl, hou, hb1⟩
    have HB1 := Lib.hid (below_after HB.out hb1)
    have HO1 : Hid (w1.ownsRow w.heap.size 5 1 u K.length (kcl .u8 K)) := Lib.hid (own_base hou HB.out.size)
    have HF1 := Lib.hid (HF.out.keep hb1)
    clear hb1 hou c0 c1 c2 c3
    obtain ⟨c0, c1, c2, c3⟩ := HF1.out.cells
    go_wp2_with fail
    refine (HR2.out _).mono ?_
    rintro en w2 ⟨u2, rfl, hou, hb2⟩
    have HB2 := Lib.hid (below_after HB1.out hb2)
    have HO2 := Lib.hid (own_keepB hb2 HO1.out)
    have HX := Lib.hid (kl_src (kl_own rfl hou))
    have HF2 := Lib.hid (HF1.out.keep hb2)
    have hsz := HB2.out.size
    clear hb2 hou c0 c1 c2 c3
    have hXl := HXl.out
    go_wp2_with (at_builtin; refine wpList_append_srcO rfl (.tmp 17) (.tmp 20) 62 rfl w.heap.size 5 i0 (.int .u8 0) 1 1 Try.underlying62 hi hz0 hz1 hz2 rfl (by decide) _ K.length (kcl .u8 K) rfl HO2.out _ X.length (kcl .u8 X) rfl HX.out (by rw [kcl_len, Nat.mul_one]) (kcl_one _ _) (by unfold maxLen; omega) (by omega) hsz ?_; intro v3 w3 ho2 hg2; (have HFi : Hid (w3.ownsRow w.heap.size 5 1 v3 (K ++ X).length (kcl .u8 (K ++ X)) ∧ Below w.heap.size w w3) := Lib.hid ⟨by rw [kcl_app, List.length_append]; exact ho2, HB2.out.grown hg2 HB2.out.size (fun k e => (own_block HO2.out e).1)⟩); clear ho2 hg2)
    go_ret
    exact ⟨_, rfl, by rw [HZ.out]; exact HFi.out.1, HFi.out.2⟩
  · by_cases k1 : kind = 1
    · subst k1
      have HZ : Hid (Z = K ++ low n 8) := Lib.hid (by rw [HFb.out, HPy.out, if_neg (by decide), if_neg (by decide)]; rfl)
      have HR2 := Lib.hid (fun V => rlow_any n 8 (by omega) hn V)
      have HXl : Hid ((low n 8).length ≤ 10) := Lib.hid (by rw [low_len]; omega)
      generalize low n 8 = X at *
      clear h3 h4 h5 HFb HPy
      go_enter Try.func78, Try.ntmps78
      obtain ⟨c0, c1, c2, c3⟩ := HF.out.cells
      go_wp2_with fail
      refine (HRk.out _).mono ?_
      rintro en w1 ⟨u, rfl, hou, hb1⟩
      have HB1 := Lib.hid (below_after HB.out hb1)
      have HO1 : Hid (w1.ownsRow w.heap.size 5 1 u K.length (kcl .u8 K)) := Lib.hid (own_base hou HB.out.size)
      have HF1 := Lib.hid (HF.out.keep hb1)
      clear hb1 hou c0 c1 c2 c3
      obtain ⟨c0, c1, c2, c3⟩ := HF1.out.cells
      go_wp2_with fail
      refine (HR2.out _).mono ?_
      rintro en w2 ⟨u2, rfl, hou, hb2⟩
      have HB2 := Lib.hid (below_after HB1.out hb2)
      have HO2 := Lib.hid (own_keepB hb2 HO1.out)
      have HX := Lib.hid (kl_src (kl_own rfl hou))
      have HF2 := Lib.hid (HF1.out.keep hb2)
      have hsz := HB2.out.size
      clear hb2 hou c0 c1 c2 c3
      have hXl := HXl.out
      go_wp2_with (at_builtin; refine wpList_append_srcO rfl (.tmp 24) (.tmp 27) 62 rfl w.heap.size 5 i0 (.int .u8 0) 1 1 Try.underlying62 hi hz0 hz1 hz2 rfl (by decide) _ K.length (kcl .u8 K) rfl HO2.out _ X.length (kcl .u8 X) rfl HX.out (by rw [kcl_len, Nat.mul_one]) (kcl_one _ _) (by unfold maxLen; omega) (by omega) hsz ?_; intro v3 w3 ho2 hg2; (have HFi : Hid (w3.ownsRow w.heap.size 5 1 v3 (K ++ X).length (kcl .u8 (K ++ X)) ∧ Below w.heap.size w w3) := Lib.hid ⟨by rw [kcl_app, List.length_append]; exact ho2, HB2.out.grown hg2 HB2.out.size (fun k e => (own_block HO2.out e).1)⟩); clear ho2 hg2)
      go_ret
      exact ⟨_, rfl, by rw [HZ.out]; exact HFi.out.1, HFi.out.2⟩
    · by_cases k5 : kind = 5
      · subst k5
        have HZ : Hid (Z = K ++ low n 4) := Lib.hid (by rw [HFb.out, HPy.out, if_neg (by decide), if_neg (by decide)]; rfl)
        have HR2 := Lib.hid (fun V => rlow_any n 4 (by omega) hn V)
        have HXl : Hid ((low n 4).length ≤ 10) := Lib.hid (by rw [low_len]; omega)
        generalize low n 4 = X at *
        clear h3 h4 h5 HFb HPy
        go_enter Try.func78, Try.ntmps78
        obtain ⟨c0, c1, c2, c3⟩ := HF.out.cells
        go_wp2_with fail
        refine (HRk.out _).mono ?_
        rintro en w1 ⟨u, rfl, hou, hb1⟩
        have HB1 := Lib.hid (below_after HB.out hb1)
        have HO1 : Hid (w1.ownsRow w.heap.size 5 1 u K.length (kcl .u8 K)) := Lib.hid (own_base hou HB.out.size)
        have HF1 := Lib.hid (HF.out.keep hb1)
        clear hb1 hou c0 c1 c2 c3
        obtain ⟨c0, c1, c2, c3⟩ := HF1.out.cells
        go_wp2_with fail
        refine (HR2.out _).mono ?_
        rintro en w2 ⟨u2, rfl, hou, hb2⟩
        have HB2 := Lib.hid (below_after HB1.out hb2)
        have HO2 := Lib.hid (own_keepB hb2 HO1.out)
        have HX := Lib.hid (kl_src (kl_own rfl hou))
        have HF2 := Lib.hid (HF1.out.keep hb2)
        have hsz := HB2.out.size
        clear hb2 hou c0 c1 c2 c3
        have hXl := HXl.out
        go_wp2_with (at_builtin; refine wpList_append_srcO rfl (.tmp 31) (.tmp 34) 62 rfl w.heap.size 5 i0 (.int .u8 0) 1 1 Try.underlying62 hi hz0 hz1 hz2 rfl (by decide) _ K.length (kcl .u8 K) rfl HO2.out _ X.length (kcl .u8 X) rfl HX.out (by rw [kcl_len, Nat.mul_one]) (kcl_one _ _) (by unfold maxLen; omega) (by omega) hsz ?_; intro v3 w3 ho2 hg2; (have HFi : Hid (w3.ownsRow w.heap.size 5 1 v3 (K ++ X).length (kcl .u8 (K ++ X)) ∧ Below w.heap.size w w3) := Lib.hid ⟨by rw [kcl_app, List.length_append]; exact ho2, HB2.out.grown hg2 HB2.out.size (fun k e => (own_block HO2.out e).1)⟩); clear ho2 hg2)
        go_ret
        exact ⟨_, rfl, by rw [HZ.out]; exact HFi.out.1, HFi.out.2⟩
      · obtain rfl : kind = 2 := by omega
        have hn0 : n = 0 := h3 rfl
        subst hn0
        have HZ : Hid (Z = (K ++ nb b.length) ++ b) := Lib.hid (by rw [HFb.out, HPy.out, if_neg (by decide), if_pos rfl, List.append_assoc])
        have HR2 := Lib.hid (fun V => rbytes_any b.length b.length (Nat.le_refl _) (by omega) V)
        have HXl : Hid ((nb b.length).length ≤ 10) := Lib.hid (nb_len10 (by omega))
        have HBs := Lib.hid (bst_size b)
        have x7 : IntKind.u64.wrap (b.length : Int) = (b.length : Int) := IntWalk.u64_in _ (by omega)
        have hbs := bst_size b
        generalize nb b.length = X at *
        clear h3 h4 h5 HFb HPy
        go_enter Try.func78, Try.ntmps78
        obtain ⟨c0, c1, c2, c3⟩ := HF.out.cells
        go_wp2_with fail
        refine (HRk.out _).mono ?_
        rintro en w1 ⟨u, rfl, hou, hb1⟩
        have HB1 := Lib.hid (below_after HB.out hb1)
        have HO1 : Hid (w1.ownsRow w.heap.size 5 1 u K.length (kcl .u8 K)) := Lib.hid (own_base hou HB.out.size)
        have HF1 := Lib.hid (HF.out.keep hb1)
        clear hb1 hou c0 c1 c2 c3
        obtain ⟨c0, c1, c2, c3⟩ := HF1.out.cells
        go_wp2_with fail
        refine (HR2.out _).mono ?_
        rintro en w2 ⟨u2, rfl, hou, hb2⟩
        have HB2 := Lib.hid (below_after HB1.out hb2)
        have HO2 := Lib.hid (own_keepB hb2 HO1.out)
        have HX := Lib.hid (kl_src (kl_own rfl hou))
        have HF2 := Lib.hid (HF1.out.keep hb2)
        have hsz := HB2.out.size
        clear hb2 hou c0 c1 c2 c3
        have hXl := HXl.out
        go_upto_region 10 with (at_builtin; refine wpList_append_srcO rfl (.tmp 36) (.tmp 41) 62 rfl w.heap.size 5 i0 (.int .u8 0) 1 1 Try.underlying62 hi hz0 hz1 hz2 rfl (by decide) _ K.length (kcl .u8 K) rfl HO2.out _ X.length (kcl .u8 X) rfl HX.out (by rw [kcl_len, Nat.mul_one]) (kcl_one _ _) (by unfold maxLen; omega) (by omega) hsz ?_; intro v3 w3 ho2 hg2; (have HS3 : Hid (w3.ownsRow w.heap.size 5 1 v3 (K ++ X).length (kcl .u8 (K ++ X)) ∧ Below w.heap.size w w3) := Lib.hid ⟨by rw [kcl_app, List.length_append]; exact ho2, HB2.out.grown hg2 HB2.out.size (fun k e => (own_block HO2.out e).1)⟩); have HF3 := Lib.hid (F4.frowD HF2.out hg2 HO2.out); clear ho2 hg2)
        have hPX : (K ++ X).length ≤ 20 := by rw [List.length_append]; omega
        generalize K ++ X = PX at *
        clear hsz HF1 HO1 HB1 HX HF HB HF2 HB2 HO2 hbs
        have hcv := conv_tsb w3 b
        have HO4 := Lib.hid (own_keepB (tsb_below w3 (bst b)) HS3.out.1)
        have HB4 := Lib.hid (below_after HS3.out.2 (tsb_below w3 (bst b)))
        have HX4 := Lib.hid (tsb_src w3 b hb (grownCap w3 b.length 0 5))
        have hsz4 := HB4.out.size
        obtain ⟨c0, c1, c2, c3⟩ := HF3.out.cells
        generalize grownCap w3 b.length 0 5 = gc at *
        generalize Lib.bytesWorld w3 5 (bst b) = w4 at *
        go_wp2_with (at_builtin; refine wpList_append_srcO rfl (.tmp 43) (.tmp 46) 62 rfl w.heap.size 5 i0 (.int .u8 0) 1 1 Try.underlying62 hi hz0 hz1 hz2 rfl (by decide) _ PX.length (kcl .u8 PX) rfl HO4.out _ b.length (kcl .u8 b) rfl HX4.out (by rw [kcl_len, Nat.mul_one]) (kcl_one _ _) (by unfold maxLen; omega) (by omega) hsz4 ?_; intro v5 w5 ho2 hg2; (have HFi : Hid (w5.ownsRow w.heap.size 5 1 v5 (PX ++ b).length (kcl .u8 (PX ++ b)) ∧ Below w.heap.size w w5) := Lib.hid ⟨by rw [kcl_app, List.length_append]; exact ho2, HB4.out.grown hg2 HB4.out.size (fun k e => (own_block HO4.out e).1)⟩); clear ho2 hg2)
        go_ret
        exact ⟨_, rfl, by rw [HZ.out]; exact HFi.out.1, HFi.out.2⟩
end Go.Proofs.Ytcbgknlklpandaa
