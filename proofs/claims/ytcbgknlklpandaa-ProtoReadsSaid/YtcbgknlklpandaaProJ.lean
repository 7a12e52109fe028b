/- Walks of proto: the bytes of a field. -/
import Derived.Test.YtcbgknlklpandaaProI
import Derived.Test.YtcbgknlklpandaaVarK
namespace Go.Proofs.Ytcbgknlklpandaa
open Go.RowKit Go.Sort

def AdPost8 (W0 : World) (P : List Nat) (f : Fd) (e : Ending) (w' : World) : Prop := ∃ u, e = .returned u ∧ w'.ownsRow W0.heap.size 5 1 u (P ++ fby f).length (kcl .u8 (P ++ fby f)) ∧ Below W0.heap.size W0 w'
/-- A row of bytes that grows is no block of a field. -/
theorem F4.frow {W W1 : World} {B0 B n : Nat} {v : Value} {v0 v1 v2 v3 : Value} {xs : List Value} (h : F4 W B 77 v0 v1 v2 v3) (hg : W.grownBy W1 v.ownBlock) (ho : W.ownsRow B0 5 1 v n xs) : F4 W1 B 77 v0 v1 v2 v3 := by
  refine (hg.block B h.lt ?_).trans h
  rcases ho.2 with ⟨rfl, _⟩ | ⟨g, cap, cur, rfl, _, hgb, _⟩
  · simp [Value.ownBlock]
  · intro e'
    obtain rfl : B = g := by simpa [Value.ownBlock] using e'
    have := (show W.heap[B]? = _ from h).symm.trans hgb
    simp at this
theorem bys_two (a b : Nat) : bys [a, b] = nb a ++ nb b := by simp [bys]
theorem bys_one (a : Nat) : bys [a] = nb a := by simp [bys]
set_option maxRecDepth 100000 in
set_option maxHeartbeats 4000000 in
theorem padd_any {W0 w : World} {P : List Nat} {v : Value} {f : Fd} {q : Option Addr} {c : Nat} (hB : Below W0.heap.size W0 w) (ho : w.ownsRow W0.heap.size 5 1 v P.length (kcl .u8 P)) (hP : P.length ≤ 100000)
    (hK : KL .u8 W0 (.slice q f.b.length c) f.b) (hl : f.b.length ≤ 1000) (hn : f.n < 18446744073709551616) (hc : chk f = 0) :
    Calls Try.prog 76 #[v, .agg #[.int .i64 f.num, .int .i64 f.kind, .int .u64 (f.n : Int), .slice q f.b.length c]] w (AdPost8 W0 P f) := by
  have hmx : Try.prog.follows .mixedOrders = true := by kernel_rfl
  obtain ⟨i0, hi, hz0, hz1, hz2⟩ := info_parts info8
  obtain ⟨⟨n1, n2⟩, hkd, h3, h4, h5⟩ := chk_ok hc
  have HO := Lib.hid (World.ownsRow.alloc (w := w) ho (.cells #[.int .i64 f.num, .int .i64 f.kind, .int .u64 (f.n : Int), .slice q f.b.length c] 77))
  have HB := Lib.hid (below_after hB (below_alloc w (.cells #[.int .i64 f.num, .int .i64 f.kind, .int .u64 (f.n : Int), .slice q f.b.length c] 77)))
  have HF := Lib.hid (F4.new w 77 (.int .i64 f.num) (.int .i64 f.kind) (.int .u64 (f.n : Int)) (.slice q f.b.length c))
  have HK := Lib.hid hK
  have hkey : key f < 18446744073709551616 := by unfold key; omega
  have hkn : (key f : Int) = 8 * f.num + f.kind := by unfold key; omega
  have HFb : Hid (fby f = nb (key f) ++ pay f) := Lib.hid rfl
  have HPy : Hid (pay f = if f.kind = 0 then nb f.n else if f.kind = 2 then nb f.b.length ++ f.b else low f.n (wid f.kind)) := Lib.hid rfl
  unfold AdPost8
  generalize fby f = Z at *
  generalize pay f = Y at *
  generalize hkk : key f = kk at *
  clear hkk
  obtain ⟨num, kind, n, b⟩ := f
  dsimp only at *
  have HK10 := Lib.hid (nb_len10 hkey)
  have HN10 := Lib.hid (nb_len10 hn)
  have x1 : 8 * num + kind = (kk : Int) := by omega
  have x2 : IntKind.i64.wrap (8 * num) = 8 * num := IntWalk.i64_in _ (by omega)
  have x3 : IntKind.i64.wrap (8 * num + kind) = (kk : Int) := by rw [IntWalk.i64_in _ (by omega)]; omega
  have x4 : IntKind.i64.wrap (kk : Int) = (kk : Int) := IntWalk.i64_in _ (by omega)
  have x5 : IntKind.u64.wrap (kk : Int) = (kk : Int) := IntWalk.u64_in _ (by omega)
  clear hkn ho hB hK hc
  by_cases k0 : kind = 0
  · subst k0
    have HY : Hid (P ++ Z = P ++ bys [kk, n]) := Lib.hid (by rw [HFb.out, HPy.out, if_pos rfl, bys_two])
    have HLn := Lib.hid (bys_len [kk, n] (by intro x hx; simp at hx; omega)).1
    have HBy := Lib.hid (fun V => bytes_any (kl_lit .u64 V 36 [kk, n] (cs := #[.int .u64 (kk : Int), .int .u64 (n : Int)]) rfl (by show 2 ≤ 1000; omega) (n := 2) rfl) (by show 2 ≤ 1000; omega) (by intro x hx; simp at hx; omega))
    generalize bys [kk, n] = X at *
    clear h3 h4 h5 HFb HPy
    go_enter Try.func76, Try.ntmps76
    go_upto_region 4 with fail
    generalize w.alloc (.cells #[.int .i64 num, .int .i64 0, .int .u64 (n : Int), .slice q b.length c] 77) = V at *
    obtain ⟨c0, c1, c2, c3⟩ := HF.out.cells
    go_wp2_with fail
    refine (HBy.out _).mono ?_
    rintro en w1 ⟨u, rfl, hou, hb1⟩
    have hb1 := below_after (below_alloc V _) hb1
    have HO1 := Lib.hid (own_keepB hb1 HO.out)
    have HB1 := Lib.hid (below_after HB.out hb1)
    have HX := Lib.hid (kl_src (kl_own rfl hou))
    have hX := HLn.out
    simp only [List.length_cons, List.length_nil] at hX
    have hsz := HB1.out.size
    clear hb1 hou c0 c1 c2 c3
    go_wp2_with (at_builtin; refine wpList_append_srcO rfl (.tmp 18) (.tmp 23) 62 rfl W0.heap.size 5 i0 (.int .u8 0) 1 1 Try.underlying62 hi hz0 hz1 hz2 rfl (by decide) _ P.length (kcl .u8 P) rfl HO1.out _ X.length (kcl .u8 X) rfl HX.out (by rw [kcl_len, Nat.mul_one]) (kcl_one _ _) (by unfold maxLen; omega) (by omega) hsz ?_; intro v2 w2 ho2 hg2; (have HFi : Hid (w2.ownsRow W0.heap.size 5 1 v2 (P ++ X).length (kcl .u8 (P ++ X)) ∧ Below W0.heap.size W0 w2) := Lib.hid ⟨by rw [kcl_app, List.length_append]; exact ho2, HB1.out.grown hg2 HB1.out.size (fun k e => (own_block HO1.out e).1)⟩); clear ho2 hg2)
    go_ret
    exact ⟨_, rfl, by rw [HY.out]; exact HFi.out.1, HFi.out.2⟩
  · by_cases k2 : kind = 2
    · subst k2
      have hn0 : n = 0 := h3 rfl
      subst hn0
      have HY : Hid (P ++ Z = (P ++ bys [kk, b.length]) ++ b) := Lib.hid (by rw [HFb.out, HPy.out, if_neg (by decide), if_pos rfl, bys_two]; simp)
      have HLn := Lib.hid (bys_len [kk, b.length] (by intro x hx; simp at hx; omega)).1
      have HBy := Lib.hid (fun V => bytes_any (kl_lit .u64 V 36 [kk, b.length] (cs := #[.int .u64 (kk : Int), .int .u64 (b.length : Int)]) rfl (by show 2 ≤ 1000; omega) (n := 2) rfl) (by show 2 ≤ 1000; omega) (by intro x hx; simp at hx; omega))
      have x6 : IntKind.u64.wrap (b.length : Int) = (b.length : Int) := IntWalk.u64_in _ (by omega)
      generalize bys [kk, b.length] = X at *
      clear h3 h4 h5 HFb HPy
      go_enter Try.func76, Try.ntmps76
      go_upto_region 6 with fail
      generalize w.alloc (.cells #[.int .i64 num, .int .i64 2, .int .u64 0, .slice q b.length c] 77) = V at *
      obtain ⟨c0, c1, c2, c3⟩ := HF.out.cells
      go_wp2_with fail
      refine (HBy.out _).mono ?_
      rintro en w1 ⟨u, rfl, hou, hb1⟩
      have hb1 := below_after (below_alloc V _) hb1
      have HO1 := Lib.hid (own_keepB hb1 HO.out)
      have HB1 := Lib.hid (below_after HB.out hb1)
      have HX := Lib.hid (kl_src (kl_own rfl hou))
      have HF1 := Lib.hid (HF.out.keep hb1)
      have hX := HLn.out
      simp only [List.length_cons, List.length_nil] at hX
      have hsz := HB1.out.size
      clear hb1 hou c0 c1 c2 c3 x6
      go_upto_region 7 with (at_builtin; refine wpList_append_srcO rfl (.tmp 27) (.tmp 34) 62 rfl W0.heap.size 5 i0 (.int .u8 0) 1 1 Try.underlying62 hi hz0 hz1 hz2 rfl (by decide) _ P.length (kcl .u8 P) rfl HO1.out _ X.length (kcl .u8 X) rfl HX.out (by rw [kcl_len, Nat.mul_one]) (kcl_one _ _) (by unfold maxLen; omega) (by omega) hsz ?_; intro v2 w2 ho2 hg2; have HF2 := Lib.hid (F4.frow HF1.out hg2 HO1.out); (have HS2 : Hid (w2.ownsRow W0.heap.size 5 1 v2 (P ++ X).length (kcl .u8 (P ++ X)) ∧ Below W0.heap.size W0 w2) := Lib.hid ⟨by rw [kcl_app, List.length_append]; exact ho2, HB1.out.grown hg2 HB1.out.size (fun k e => (own_block HO1.out e).1)⟩); clear ho2 hg2)
      have hPX : (P ++ X).length ≤ 100020 := by rw [List.length_append]; omega
      have HKb := Lib.hid (kl_src (HK.out.keep HS2.out.2))
      obtain ⟨c0, c1, c2, c3⟩ := HF2.out.cells
      have hsz2 := HS2.out.2.size
      have HO2 := Lib.hid HS2.out.1
      have HB2 := Lib.hid HS2.out.2
      generalize P ++ X = PX at *
      clear HS2 HF2
      generalize w2 = w5 at *
      clear hsz HF1 HO1 HB1 HX HF HO HB
      go_wp2_with (at_builtin; refine wpList_append_srcO rfl (.tmp 36) (.tmp 38) 62 rfl W0.heap.size 5 i0 (.int .u8 0) 1 1 Try.underlying62 hi hz0 hz1 hz2 rfl (by decide) _ PX.length (kcl .u8 PX) rfl HO2.out _ b.length (kcl .u8 b) rfl HKb.out (by rw [kcl_len, Nat.mul_one]) (kcl_one _ _) (by unfold maxLen; omega) (by omega) hsz2 ?_; intro v2 w2 ho2 hg2; (have HFi : Hid (w2.ownsRow W0.heap.size 5 1 v2 (PX ++ b).length (kcl .u8 (PX ++ b)) ∧ Below W0.heap.size W0 w2) := Lib.hid ⟨by rw [kcl_app, List.length_append]; exact ho2, HB2.out.grown hg2 HB2.out.size (fun k e => (own_block HO2.out e).1)⟩); clear ho2 hg2)
      go_ret
      exact ⟨_, rfl, by rw [HY.out]; exact HFi.out.1, HFi.out.2⟩
    · have HW : Hid (P ++ Z = (P ++ bys [kk]) ++ low n (wid kind)) := Lib.hid (by rw [HFb.out, HPy.out, if_neg k0, if_neg k2, bys_one]; simp)
      have HLn := Lib.hid (bys_len [kk] (by intro x hx; simp at hx; omega)).1
      have HBy := Lib.hid (fun V => bytes_any (kl_lit .u64 V 36 [kk] (cs := #[.int .u64 (kk : Int)]) rfl (by show 1 ≤ 1000; omega) (n := 1) rfl) (by show 1 ≤ 1000; omega) (by intro x hx; simp at hx; omega))
      have HWi := Lib.hid (fun V => pwidth_any kind V)
      have hwm : wid kind ≤ 8 := by unfold wid; split <;> omega
      generalize wid kind = m at *
      generalize bys [kk] = X at *
      clear h3 h4 h5 HFb HPy
      go_enter Try.func76, Try.ntmps76
      go_upto_region 8 with fail
      generalize w.alloc (.cells #[.int .i64 num, .int .i64 kind, .int .u64 (n : Int), .slice q b.length c] 77) = V at *
      go_wp2_with fail
      refine (HBy.out _).mono ?_
      rintro en w1 ⟨u, rfl, hou, hb1⟩
      have hb1 := below_after (below_alloc V _) hb1
      have HO1 := Lib.hid (own_keepB hb1 HO.out)
      have HB1 := Lib.hid (below_after HB.out hb1)
      have HX := Lib.hid (kl_src (kl_own rfl hou))
      have HF1 := Lib.hid (HF.out.keep hb1)
      have hX := HLn.out
      simp only [List.length_cons, List.length_nil] at hX
      have hsz := HB1.out.size
      have hV : w.heap.size < V.heap.size := HF.out.lt
      clear hb1 hou
      go_upto_region 9 with (at_builtin; refine wpList_append_srcO rfl (.tmp 40) (.tmp 43) 62 rfl W0.heap.size 5 i0 (.int .u8 0) 1 1 Try.underlying62 hi hz0 hz1 hz2 rfl (by decide) _ P.length (kcl .u8 P) rfl HO1.out _ X.length (kcl .u8 X) rfl HX.out (by rw [kcl_len, Nat.mul_one]) (kcl_one _ _) (by unfold maxLen; omega) (by omega) hsz ?_; intro v2 w2 ho2 hg2; have HF2 := Lib.hid (F4.frow HF1.out hg2 HO1.out); (have HS2 : Hid (w2.ownsRow W0.heap.size 5 1 v2 (P ++ X).length (kcl .u8 (P ++ X)) ∧ Below W0.heap.size W0 w2) := Lib.hid ⟨by rw [kcl_app, List.length_append]; exact ho2, HB1.out.grown hg2 HB1.out.size (fun k e => (own_block HO1.out e).1)⟩); clear ho2 hg2)
      have hPX : (P ++ X).length ≤ 100020 := by rw [List.length_append]; omega
      obtain ⟨c0, c1, c2, c3⟩ := HF2.out.cells
      generalize P ++ X = PX at *
      generalize w2 = w5 at *
      clear hsz HF1 HO1 HB1 HX HF HO HB
      go_wp2_with (go_at_call 108; refine (HWi.out _).mono ?_; rintro en wz ⟨rfl, hwz⟩; subst hwz)
      clear c0 c1 c2 c3
      go_loopg [0, 48] m (fun gk v i wx => ∃ k : Nat, k + gk = m ∧ i = .int .i64 (k : Int) ∧ Hid (wx.ownsRow W0.heap.size 5 1 v (PX ++ low n k).length (kcl .u8 (PX ++ low n k)) ∧ Below W0.heap.size W0 wx ∧ F4 wx w.heap.size 77 (.int .i64 num) (.int .i64 kind) (.int .u64 (n : Int)) (.slice q b.length c)))
      case atStart => exact ⟨0, by omega, rfl, Lib.hid ⟨by rw [show low n 0 = [] from rfl, List.append_nil]; exact HS2.out.1, HS2.out.2, HF2.out⟩⟩
      case round =>
        obtain ⟨k, hkg, rfl, HS⟩ := hrel
        cases gk with
        | zero =>
          obtain rfl : k = m := by omega
          have hkz : ¬ (k : Int) < (k : Int) := by omega
          go_wp2_with fail
          go_ret
          have h : wr.ownsRow W0.heap.size 5 1 u0 (P ++ Z).length (kcl .u8 (P ++ Z)) := by rw [HW.out]; exact HS.out.1
          rw [List.length_append] at h
          exact ⟨u0, rfl, h, HS.out.2.1⟩
        | succ gr =>
          have hkz : (k : Int) < (m : Int) := by omega
          obtain ⟨c0, c1, c2, c3⟩ := HS.out.2.2.cells
          obtain ⟨t, ht⟩ : ∃ t, t = 8 * k := ⟨_, rfl⟩
          have xt : (8 : Int) * (k : Int) = (t : Int) := by omega
          have xt2 : IntKind.i64.wrap (t : Int) = (t : Int) := IntWalk.i64_in _ (by omega)
          have ht63 : t ≤ 63 := by omega
          have HT := Lib.hid ht
          clear ht
          have hls : (low n (k + 1)) = low n k ++ [n / 256 ^ k % 256] := low_snoc k n
          have x9 : (n : Int) / 2 ^ t % 256 = ((n / 256 ^ k % 256 : Nat) : Int) := by
            have e : (2 : Nat) ^ t = 256 ^ k := by rw [HT.out, Nat.pow_mul]
            have e2 : ((2 ^ t : Nat) : Int) = (2 : Int) ^ t := by rw [Int.natCast_pow]; rfl
            rw [← e2, e, Int.natCast_emod, Int.natCast_ediv]; rfl
          have hkl : (PX ++ low n k).length ≤ 100040 := by rw [List.length_append, low_len]; omega
          generalize n / 256 ^ k % 256 = y at *
          have HLs : Hid (PX ++ low n (k + 1) = (PX ++ low n k) ++ [y]) := Lib.hid (by rw [hls, List.append_assoc])
          clear hls
          generalize hR1 : PX ++ low n (k + 1) = R1 at *
          have HR1 := Lib.hid hR1
          clear hR1
          generalize PX ++ low n k = R at *
          have HO1 : Hid ((wr.alloc (.cells #[.int .u8 (y : Int)] 5)).ownsRow W0.heap.size 5 1 u0 R.length (kcl .u8 R)) := Lib.hid (World.ownsRow.alloc (w := wr) HS.out.1 _)
          have HB1 := Lib.hid (below_after HS.out.2.1 (below_alloc wr (.cells #[.int .u8 (y : Int)] 5)))
          have HF1 := Lib.hid (HS.out.2.2.keep (below_alloc wr (.cells #[.int .u8 (y : Int)] 5)))
          have hsz := HB1.out.size
          go_wp2_with (at_builtin; refine wpList_append_srcO rfl (.tmp 51) (.tmp 58) 62 rfl W0.heap.size 5 i0 (.int .u8 0) 1 1 Try.underlying62 hi hz0 hz1 hz2 rfl (by decide) _ R.length (kcl .u8 R) rfl HO1.out _ 1 (kcl .u8 [y]) rfl (new_srcK _ _ _ _) (by rfl) (kcl_one _ _) (by unfold maxLen; omega) (by omega) hsz ?_; intro v2 w2 ho2 hg2; (have HF3 : Hid (w2.ownsRow W0.heap.size 5 1 v2 R1.length (kcl .u8 R1) ∧ Below W0.heap.size W0 w2 ∧ F4 w2 w.heap.size 77 (.int .i64 num) (.int .i64 kind) (.int .u64 (n : Int)) (.slice q b.length c)) := Lib.hid ⟨by rw [HLs.out, kcl_app, List.length_append]; exact ho2, HB1.out.grown hg2 HB1.out.size (fun k e => (own_block HO1.out e).1), F4.frow HF1.out hg2 HO1.out⟩); clear ho2 hg2)
          go_roundg gr
          case measure => omega
          case rel => exact ⟨k + 1, by omega, by go_num, by rw [HR1.out]; exact HF3⟩
end Go.Proofs.Ytcbgknlklpandaa
