/- The law ProtoJoins. -/
import Derived.Test.YtcbgknlklpandaaProWL
namespace Go.Proofs.Ytcbgknlklpandaa
open Go.RowKit Go.Sort

def OoPost (L : List Fd) (w : World) (e : Ending) (w' : World) : Prop := ∃ u X, e = .returned u ∧ w'.ownsRow w.heap.size 77 4 u X.length (fcells X) ∧ XOw w' w.heap.size X ∧ X.map (·.1) = L ∧ Below w.heap.size w w'
set_option maxRecDepth 100000 in
set_option maxHeartbeats 4000000 in
theorem ponly_own {w : World} {v : Value} {L : List Fd} (hF : FL w v L) (_hl : L.length ≤ 1000) (hbl : ∀ f ∈ L, f.b.length ≤ 1000) (num : Int) : Calls Try.prog 44 #[v, .int .i64 num] w (OoPost (ofN num L) w) := by
  have hmx : Try.prog.follows .mixedOrders = true := by kernel_rfl
  obtain ⟨i0, hi, hz0, hz1, hz2⟩ := info_parts infoF
  obtain ⟨q, c, rfl, hlc, hx⟩ := hF
  have HX := Lib.hid hx
  have HBl := Lib.hid hbl
  have HPo : Hid (∀ u w' X, w'.ownsRow w.heap.size 77 4 u X.length (fcells X) → XOw w' w.heap.size X → X.map (·.1) = ofN num L → Below w.heap.size w w' → OoPost (ofN num L) w (.returned u) w') := Lib.hid (fun u w' X ho hX he hb => ⟨u, X, rfl, ho, hX, he, hb⟩)
  clear hx hbl
  go_enter Try.func44, Try.ntmps44
  go_wp2_with fail
  go_loopg [5, 10] L.length (fun gk v i wx => ∃ (k : Nat) (X : List (Fd × Value)), k + gk = L.length ∧ i = .int .i64 (k : Int) ∧ X.length ≤ k ∧ Hid (X.map (·.1) = ofN num (L.take k)) ∧ Hid (XOw wx w.heap.size X) ∧ Hid (wx.ownsRow w.heap.size 77 4 v X.length (fcells X) ∧ Below w.heap.size w wx))
  case atStart => exact ⟨0, [], by omega, rfl, Nat.le_refl _, Lib.hid rfl, Lib.hid (fun x hx => by cases hx), Lib.hid ⟨World.ownsRow_nil _ _ _ _, Below.refl _ _⟩⟩
  case round =>
    obtain ⟨k, X, hkg, rfl, hXk, HE, HK, HS⟩ := hrel
    cases gk with
    | zero =>
      obtain rfl : k = L.length := by omega
      have hkz : ¬ (L.length : Int) < (L.length : Int) := by omega
      have HFi := Lib.hid (HPo.out u5 wr X HS.out.1 HK.out (by have h := HE.out; rwa [List.take_length] at h) HS.out.2)
      clear HPo HE HS HK
      go_wp2_with fail
      go_ret
      exact HFi.out
    | succ gr =>
      have hkz : (k : Int) < (L.length : Int) := by omega
      have hkl : k < L.length := by omega
      obtain ⟨g, o, qb, cb, rfl, c0, c1, c2, c3, hk⟩ := HX.out k hkl
      have c0 := cell_later HS.out.2 c0
      have c1 := cell_later HS.out.2 c1
      have c2 := cell_later HS.out.2 c2
      have c3 := cell_later HS.out.2 c3
      have HTk : Hid (L.take (k + 1) = L.take k ++ [L[k]]) := Lib.hid (List.take_succ_eq_append_getElem hkl)
      have HOw := Lib.hid (fun V (hV : Below w.heap.size w V) => pown_any (f := L[k]) (q := qb) (c := cb) (hk.keep hV) (Nat.le_trans (HBl.out _ (List.getElem_mem hkl)) (by omega)))
      unfold OwPost8 at HOw
      clear hk
      generalize hP1 : L.take (k + 1) = P1 at *
      have HP1 := Lib.hid hP1
      clear hP1
      generalize L[k] = f at *
      generalize L.take k = P at *
      have HBa := Lib.hid (below_after HS.out.2 (below_alloc wr (.cells #[.int .i64 f.num, .int .i64 f.kind, .int .u64 (f.n : Int), .slice qb f.b.length cb] 77)))
      have HFa := Lib.hid (F4.new wr 77 (.int .i64 f.num) (.int .i64 f.kind) (.int .u64 (f.n : Int)) (.slice qb f.b.length cb))
      by_cases hn : f.num = num
      · have HE1 : Hid (∀ v : Value, (X ++ [(f, v)]).map (·.1) = ofN num P1) := Lib.hid (fun v => by rw [HTk.out, ofN_yes hn, List.map_append, HE.out]; rfl)
        have HKa := Lib.hid (HK.out.keep (below_alloc wr (.cells #[.int .i64 f.num, .int .i64 f.kind, .int .u64 (f.n : Int), .slice qb f.b.length cb] 77)))
        have HOa := Lib.hid (World.ownsRow.alloc (w := wr) HS.out.1 (.cells #[.int .i64 f.num, .int .i64 f.kind, .int .u64 (f.n : Int), .slice qb f.b.length cb] 77))
        subst hn
        clear HTk HE HPo
        go_upto_region 5 with fail
        generalize wr.alloc (.cells #[.int .i64 f.num, .int .i64 f.kind, .int .u64 (f.n : Int), .slice qb f.b.length cb] 77) = V at *
        clear c0 c1 c2 c3
        have hFV := HFa.out
        obtain ⟨c0, c1, c2, c3⟩ := hFV.cells
        clear hFV
        go_wp2_with fail
        refine (HOw.out _ HBa.out).mono ?_
        rintro en w1 ⟨q1, cc1, rfl, ho1, hb1⟩
        have HOn : Hid (w1.ownsRow w.heap.size 5 1 (.slice q1 f.b.length cc1) f.b.length (kcl .u8 f.b)) := Lib.hid (own_base ho1 HBa.out.size)
        have HK1 := Lib.hid ((HKa.out.keep hb1).keep (below_alloc w1 (.cells #[.int .i64 f.num, .int .i64 f.kind, .int .u64 (f.n : Int), .slice q1 f.b.length cc1] 77)))
        have HO1 := Lib.hid (World.ownsRow.alloc (w := w1) (own_keepB hb1 HOa.out) (.cells #[.int .i64 f.num, .int .i64 f.kind, .int .u64 (f.n : Int), .slice q1 f.b.length cc1] 77))
        have HB1 := Lib.hid (below_after (below_after HBa.out hb1) (below_alloc w1 (.cells #[.int .i64 f.num, .int .i64 f.kind, .int .u64 (f.n : Int), .slice q1 f.b.length cc1] 77)))
        have HX2 : Hid (XOw (w1.alloc (.cells #[.int .i64 f.num, .int .i64 f.kind, .int .u64 (f.n : Int), .slice q1 f.b.length cc1] 77)) w.heap.size (X ++ [(f, Value.slice q1 f.b.length cc1)])) := Lib.hid (fun x hx => by
          rcases List.mem_append.1 hx with hx | hx
          · exact HK1.out x hx
          · rw [List.mem_singleton] at hx
            subst hx
            exact ⟨q1, cc1, rfl, own_keepB (below_alloc _ _) HOn.out⟩)
        have hsz := HB1.out.size
        have hXl : X.length ≤ 1000 := by omega
        clear ho1 hb1 HK1 HOn HKa HOa HS HK c0 c1 c2 c3
        have HOne : Hid (∀ u ∈ ([.int .i64 f.num, .int .i64 f.kind, .int .u64 (f.n : Int), .slice q1 f.b.length cc1] : List Value), u.oneCell' = true) := Lib.hid (by intro u hu; simp at hu; rcases hu with rfl | rfl | rfl | rfl <;> rfl)
        go_wp2_with (at_builtin; refine wpList_append_srcO rfl (.tmp 18) (.tmp 21) 60 rfl w.heap.size 77 i0 (.agg #[.int .i64 0, .int .i64 0, .int .u64 0, .slice none 0 0]) 4 48 Try.underlying60 hi hz0 hz1 hz2 rfl (by decide) _ X.length (fcells X) rfl HO1.out _ 1 ([.int .i64 f.num, .int .i64 f.kind, .int .u64 (f.n : Int), .slice q1 f.b.length cc1]) rfl (new_src4 _ _ _ _ _ _) (by rfl) HOne.out (by unfold maxLen; omega) (by omega) hsz ?_; intro v2 w2 ho2 hg2; (have HF3 : Hid (w2.ownsRow w.heap.size 77 4 v2 (X ++ [(f, Value.slice q1 f.b.length cc1)]).length (fcells (X ++ [(f, Value.slice q1 f.b.length cc1)])) ∧ Below w.heap.size w w2) := Lib.hid ⟨by rw [fcells_snoc, List.length_append]; exact ho2, HB1.out.grown hg2 HB1.out.size (fun k e => (own_block HO1.out e).1)⟩); have HX3 := Lib.hid (HX2.out.grown hg2 HO1.out); clear ho2 hg2)
        go_roundg gr
        case measure => omega
        case rel => exact ⟨k + 1, _, by omega, by go_num, by rw [List.length_append]; simp; omega, by rw [HP1.out]; exact Lib.hid (HE1.out _), HX3, HF3⟩
      · have HE1 : Hid (X.map (·.1) = ofN num P1) := Lib.hid (by rw [HTk.out, ofN_no hn, HE.out])
        have HKa := Lib.hid (HK.out.keep (below_alloc wr (.cells #[.int .i64 f.num, .int .i64 f.kind, .int .u64 (f.n : Int), .slice qb f.b.length cb] 77)))
        have HOa := Lib.hid (World.ownsRow.alloc (w := wr) HS.out.1 (.cells #[.int .i64 f.num, .int .i64 f.kind, .int .u64 (f.n : Int), .slice qb f.b.length cb] 77))
        clear HTk HE HPo
        go_wp2_with fail
        go_roundg gr
        case measure => omega
        case rel => exact ⟨k + 1, X, by omega, by go_num, by omega, by rw [HP1.out]; exact HE1, HKa, Lib.hid ⟨HOa.out, HBa.out⟩⟩
theorem ofN_app (num : Int) (A B : List Fd) : ofN num (A ++ B) = ofN num A ++ ofN num B := List.filter_append ..
theorem fcells_app (X Y : List (Fd × Value)) : fcells (X ++ Y) = fcells X ++ fcells Y := by simp [fcells]
theorem fcells_len (X : List (Fd × Value)) : (fcells X).length = X.length * 4 := flat_len8 (enc := celF) (k := 4) (fun _ => rfl) X
/-- The cells of a slice of fields. -/
theorem fl_src {W : World} {v : Value} {L : List Fd} (h : FL W v L) : ∃ X : List (Fd × Value), X.map (·.1) = L ∧ X.length = L.length ∧ SrcO W v L.length (fcells X) ∧ XOK W X := by
  obtain ⟨q, c, rfl, hc, hx⟩ := h
  have each : ∀ i, i < L.length → ∃ y : Fd × Value, y.1 = L.getD i fdZ ∧ (∃ qb cb, y.2 = .slice qb y.1.b.length cb ∧ KL .u8 W y.2 y.1.b) ∧ ∃ g o, q = some ⟨g, o, none⟩ ∧ ∀ j u, (celF y)[j]? = some u → W.cell? ⟨g, o + i * 4 + j, none⟩ = some u := by
    intro i hi
    obtain ⟨g, o, qb, cb, e, c0, c1, c2, c3, hk⟩ := hx i hi
    have e1 : L.getD i fdZ = L[i] := by rw [List.getD_eq_getElem?_getD, List.getElem?_eq_getElem hi]; rfl
    refine ⟨(L[i], .slice qb L[i].b.length cb), e1.symm, ⟨qb, cb, rfl, hk⟩, g, o, e, fun j u hj => ?_⟩
    match j, hj with
    | 0, hj => simp [celF] at hj; subst hj; exact c0
    | 1, hj => simp [celF] at hj; subst hj; exact c1
    | 2, hj => simp [celF] at hj; subst hj; exact c2
    | 3, hj => simp [celF] at hj; subst hj; exact c3
  let F : Nat → Fd × Value := fun i => if h : i < L.length then (each i h).choose else (fdZ, .slice none 0 0)
  have hF : ∀ i (hi : i < L.length), F i = (each i hi).choose := fun i hi => by simp only [F, dif_pos hi]
  refine ⟨(List.range L.length).map F, ?_, by simp, ⟨q, c, rfl, fun h0 => ?_⟩, fun y hy => ?_⟩
  · apply List.ext_getElem
    · simp
    · intro i h1 h2
      have hi : i < L.length := h2
      simp only [List.getElem_map, List.getElem_range]
      rw [hF i hi, (each i hi).choose_spec.1, List.getD_eq_getElem?_getD, List.getElem?_eq_getElem hi]
      rfl
  · obtain ⟨g, o, qb, cb, rfl, _⟩ := hx 0 (by omega)
    refine ⟨g, o, rfl, fun j u hj => ?_⟩
    have hjl := (List.getElem?_eq_some_iff.1 hj).1
    rw [fcells_len] at hjl
    simp at hjl
    have hi : j / 4 < L.length := by omega
    have hat := flat_at8 (enc := celF) (k := 4) (fun _ => rfl) ((List.range L.length).map F) (j / 4) (j % 4) (by simpa using hi) (by omega)
    rw [show j / 4 * 4 + j % 4 = j from by omega] at hat
    have hj' : (celF (((List.range L.length).map F)[j / 4]'(by simpa using hi)))[j % 4]? = some u := by rw [← hat]; exact hj
    simp only [List.getElem_map, List.getElem_range] at hj'
    rw [hF _ hi] at hj'
    obtain ⟨g', o', e, hc⟩ := (each (j / 4) hi).choose_spec.2.2
    injection e with e
    injection e with e1 e2 _
    subst e1 e2
    have := hc _ _ hj'
    rw [add_at]
    rw [show o + j = o + j / 4 * 4 + j % 4 from by omega]
    exact this
  · obtain ⟨i, hi, rfl⟩ := List.mem_map.1 hy
    rw [List.mem_range] at hi
    rw [hF i hi]
    obtain ⟨qb, cb, e, hk⟩ := (each i hi).choose_spec.2.1
    exact ⟨qb, cb, e, hk⟩
theorem XOK.app {W : World} {X Y : List (Fd × Value)} (h : XOK W X) (k : XOK W Y) : XOK W (X ++ Y) := fun x hx => by
  rcases List.mem_append.1 hx with hx | hx
  · exact h x hx
  · exact k x hx
theorem own_srcF {W : World} {B n : Nat} {T : TypeId} {v : Value} {xs : List Value} (h : W.ownsRow B T 4 v n xs) : SrcO W v n xs := by
  rcases h.2 with ⟨rfl, hz⟩ | ⟨g, c, cur, e, _⟩
  · exact ⟨none, 0, by rw [hz], fun h0 => absurd hz h0⟩
  · subst e
    exact ⟨_, c, rfl, fun _ => ⟨g, 0, rfl, fun j u hj => h.cells rfl _ _ hj⟩⟩
theorem SrcO.keep8 {W W1 : World} {v : Value} {n : Nat} {ys : List Value} (h : SrcO W v n ys) (hb : Below W.heap.size W W1) : SrcO W1 v n ys := by
  obtain ⟨q, c, e, hx⟩ := h
  refine ⟨q, c, e, fun h0 => ?_⟩
  obtain ⟨g, o, e2, hc⟩ := hx h0
  exact ⟨g, o, e2, fun j u hj => cell_later hb (hc j u hj)⟩
set_option maxRecDepth 100000 in
set_option maxHeartbeats 4000000 in
theorem joinsLaw_yes {w : World} {va vb : Value} {L0 M0 : List Fd} (hF : FL w va L0) (hG : FL w vb M0) (hL : ∀ f ∈ L0, f.n < 18446744073709551616 ∧ ∀ x ∈ f.b, x < 256) (hM : ∀ f ∈ M0, f.n < 18446744073709551616 ∧ ∀ x ∈ f.b, x < 256) (num : Int) :
    Calls Try.prog 9 #[va, vb, .int .i64 num] w fun e w' => e = .returned (.bool true) ∧ Below w.heap.size w w' := by
  have hmx : Try.prog.follows .mixedOrders = true := by kernel_rfl
  obtain ⟨i0, hi, hz0, hz1, hz2⟩ := info_parts info8
  have HC1 := Lib.hid (lcut_any hF)
  have HC2 := Lib.hid (fun V (hV : Below w.heap.size w V) => lcut_any (w := V) (v := vb) (L := M0) (hG.keep hV))
  have hA := cutL_in hL
  have hB := cutL_in hM
  have hAl := cutL_len L0
  have hBl := cutL_len M0
  unfold CuPost at HC1 HC2
  rw [show (L0.take 20).map cutF = cutL L0 from rfl] at HC1
  rw [show (M0.take 20).map cutF = cutL M0 from rfl] at HC2
  generalize cutL L0 = A at *
  generalize cutL M0 = Bm at *
  have HA := Lib.hid hA
  have HBb := Lib.hid hB
  have HFA : Hid (FB A) := Lib.hid (fun f hf => (HA.out f hf).2.1)
  have HFB : Hid (FB Bm) := Lib.hid (fun f hf => (HBb.out f hf).2.1)
  have HA2 : Hid (∀ f ∈ A, FdB 1000 f) := Lib.hid (fun f hf => ⟨(HA.out f hf).1, (HA.out f hf).2.1, Nat.le_trans (HA.out f hf).2.2 (by omega)⟩)
  have HB2' : Hid (∀ f ∈ Bm, FdB 1000 f) := Lib.hid (fun f hf => ⟨(HBb.out f hf).1, (HBb.out f hf).2.1, Nat.le_trans (HBb.out f hf).2.2 (by omega)⟩)
  have HBoA := Lib.hid (fun i (_ : i ≤ A.length) (h : ∀ f ∈ A.take i, chk f = 0) => wr_bounds hA hAl i h)
  have HBoB := Lib.hid (fun i (_ : i ≤ Bm.length) (h : ∀ f ∈ Bm.take i, chk f = 0) => wr_bounds hB hBl i h)
  clear hF hG hL hM hA hB
  obtain ⟨iF, hF, hF0, hF1, hF2⟩ := info_parts infoF
  go_enter Try.func9, Try.ntmps9
  go_wp2_with fail
  refine HC1.out.mono ?_
  rintro en w1 ⟨u1, rfl, hf1, hb1⟩
  have HF1 := Lib.hid hf1
  have HB1 := Lib.hid hb1
  clear hf1 hb1 HC1
  go_wp2_with fail
  refine (HC2.out _ HB1.out).mono ?_
  rintro en w2 ⟨u2, rfl, hf2, hb2⟩
  have HG2 := Lib.hid hf2
  have HF2 := Lib.hid (HF1.out.keep hb2)
  have HB2 := Lib.hid (below_after HB1.out hb2)
  clear hf2 hb2 HC2 HF1 HB1
  go_wp2_with fail
  refine (pwrite_any HF2.out (by omega) HA2.out HBoA.out).mono ?_
  rintro en w3 ⟨u3, rfl, ho3, hb3⟩
  have HU3 := Lib.hid (kl_own rfl ho3)
  have HF3 := Lib.hid (HF2.out.keep hb3)
  have HG3 := Lib.hid (HG2.out.keep hb3)
  have HB3 := Lib.hid (below_after HB2.out hb3)
  clear ho3 hb3 HF2 HG2 HB2
  go_wp2_with fail
  refine (pwrite_any HG3.out (by omega) HB2'.out HBoB.out).mono ?_
  rintro en w4 ⟨u4, rfl, ho4, hb4⟩
  have HV4 := Lib.hid (kl_own rfl ho4)
  have HU4 := Lib.hid (HU3.out.keep hb4)
  have HF4 := Lib.hid (HF3.out.keep hb4)
  have HG4 := Lib.hid (HG3.out.keep hb4)
  have HB4 := Lib.hid (below_after HB3.out hb4)
  clear ho4 hb4 HF3 HG3 HB3 HU3
  by_cases he : wrE A = 0 ∧ wrE Bm = 0
  · obtain ⟨e1, e2⟩ := he
    have HCa : Hid (∀ f ∈ A, chk f = 0) := Lib.hid (wrE_ok e1)
    have HCb : Hid (∀ f ∈ Bm, chk f = 0) := Lib.hid (wrE_ok e2)
    have hOA : wrO A = wrB A := by unfold wrO; rw [if_pos e1]
    have hOB : wrO Bm = wrB Bm := by unfold wrO; rw [if_pos e2]
    have hlA := (wrB_len (l := A) (fun f hf => ⟨HCa.out f hf, (HA.out f hf).1, (HA.out f hf).2.2⟩)).1
    have hlB := (wrB_len (l := Bm) (fun f hf => ⟨HCb.out f hf, (HBb.out f hf).1, (HBb.out f hf).2.2⟩)).1
    have HAl : Hid (alD (wrB A ++ wrB Bm) = (A ++ Bm, 0, 0)) := Lib.hid (by
      rw [← wrB_app]
      exact alD_wr (fun f hf => by
        rcases List.mem_append.1 hf with hf | hf
        · exact ⟨HCa.out f hf, (HA.out f hf).1, (HA.out f hf).2.2⟩
        · exact ⟨HCb.out f hf, (HBb.out f hf).1, (HBb.out f hf).2.2⟩))
    have HLt : Hid (∀ x ∈ wrB A ++ wrB Bm, x < 256) := Lib.hid (fun x hx => by
      rcases List.mem_append.1 hx with hx | hx
      · exact wrB_lt HFA.out x hx
      · exact wrB_lt HFB.out x hx)
    rw [hOA] at HU4
    rw [hOB] at HV4
    rw [e1, e2]
    generalize wrB A = P at *
    generalize wrB Bm = R at *
    have hP : P.length ≤ 1400 := by omega
    have hR : R.length ≤ 1400 := by omega
    clear hOA hOB e1 e2 hlA hlB HBoA HBoB
    obtain ⟨XA, hXA, hXAl, hsA, hkA⟩ := fl_src HF4.out
    obtain ⟨XB, hXB, hXBl, hsB, hkB⟩ := fl_src HG4.out
    have HXA := Lib.hid hXA
    have HXB := Lib.hid hXB
    have hla : XA.length ≤ 20 := by omega
    have hlb : XB.length ≤ 20 := by omega
    have HsA : Hid (SrcO w4 u1 XA.length (fcells XA)) := Lib.hid (by rw [hXAl]; exact hsA)
    have HsB : Hid (SrcO w4 u2 XB.length (fcells XB)) := Lib.hid (by rw [hXBl]; exact hsB)
    have HkA := Lib.hid hkA
    have HkB := Lib.hid hkB
    have HfA := Lib.hid (fcells_one hkA)
    have HfB := Lib.hid (fcells_one hkB)
    have hAl2 : A.length ≤ 20 := hAl
    clear hXA hXB hXAl hXBl hsA hsB hkA hkB
    obtain ⟨q1, c1, rfl, _, _⟩ := HF4.out
    obtain ⟨q2, c2, rfl, _, _⟩ := HG4.out
    obtain ⟨q3, c3, rfl, _, _⟩ := HU4.out
    obtain ⟨q4, c4, rfl, _, _⟩ := HV4.out
    generalize hAB : A ++ Bm = AB at *
    have HAB := Lib.hid hAB
    clear hAB
    have HO0 : Hid ((w4.alloc (.cells #[] 77)).ownsRow w4.heap.size 77 4 (.slice (some ⟨w4.heap.size, 0, none⟩) 0 0) 0 []) := Lib.hid (own_zeroI (Nat.le_refl _) (heap_alloc_new w4 _))
    have HB0 := Lib.hid (below_alloc w4 (.cells #[] 77))
    have HsA0 := Lib.hid (HsA.out.keep8 HB0.out)
    have hsz0 := HB0.out.size
    go_upto_region 7 with (first
      | (at_builtin; refine wpList_append_srcO rfl (.tmp 37) (.tmp 38) 60 rfl w4.heap.size 77 iF (.agg #[.int .i64 0, .int .i64 0, .int .u64 0, .slice none 0 0]) 4 48 Try.underlying60 hF hF0 hF1 hF2 rfl (by decide) _ 0 [] rfl HO0.out _ XA.length (fcells XA) rfl HsA0.out (fcells_len _) HfA.out (by unfold maxLen; omega) (by omega) hsz0 ?_; intro v5 w5 ho2 hg2; (have HO5 : Hid (w5.ownsRow w4.heap.size 77 4 v5 XA.length (fcells XA)) := Lib.hid (by simpa using ho2)); (have HB5 : Hid (Below w4.heap.size w4 w5) := Lib.hid (HB0.out.grown hg2 HB0.out.size (fun k e => (own_block HO0.out e).1))); (have HsB5 := Lib.hid (HsB.out.keep8 HB5.out)); (have hsz5 := HB5.out.size); clear ho2 hg2)
      | (at_builtin; refine wpList_append_srcO rfl (.tmp 39) (.tmp 40) 60 rfl w4.heap.size 77 iF (.agg #[.int .i64 0, .int .i64 0, .int .u64 0, .slice none 0 0]) 4 48 Try.underlying60 hF hF0 hF1 hF2 rfl (by decide) _ XA.length (fcells XA) rfl HO5.out _ XB.length (fcells XB) rfl HsB5.out (fcells_len _) HfB.out (by unfold maxLen; omega) (by omega) hsz5 ?_; intro v6 w6 ho2 hg2; (have HO6 : Hid (w6.ownsRow w4.heap.size 77 4 v6 (XA ++ XB).length (fcells (XA ++ XB))) := Lib.hid (by rw [fcells_app, List.length_append]; exact ho2)); (have HB6 : Hid (Below w4.heap.size w4 w6) := Lib.hid (HB5.out.grown hg2 HB5.out.size (fun k e => (own_block HO5.out e).1))); clear ho2 hg2))
    have HXm : Hid ((XA ++ XB).map (·.1) = AB) := Lib.hid (by rw [List.map_append, HXA.out, HXB.out, HAB.out])
    have HFo := Lib.hid (own_fl HO6.out ((HkA.out.app HkB.out).keep HB6.out))
    rw [HXm.out] at HFo
    have HF6 := Lib.hid (HF4.out.keep HB6.out)
    have HG6 := Lib.hid (HG4.out.keep HB6.out)
    have HU6 := Lib.hid (HU4.out.keep HB6.out)
    have HV6 := Lib.hid (HV4.out.keep HB6.out)
    have HBw6 := Lib.hid (below_after HB4.out HB6.out)
    obtain ⟨q6, c6, rfl, _, _⟩ := HFo.out
    clear HO0 HB0 HsA0 hsz0 HO5 HB5 HsB5 hsz5 HO6 HB6 HsA HsB HkA HkB HfA HfB HXA HXB HXm HF4 HG4 HU4 HV4 HB4 hla hlb
    have HO7 : Hid ((w6.alloc (.cells #[] 5)).ownsRow w6.heap.size 5 1 (.slice (some ⟨w6.heap.size, 0, none⟩) 0 0) 0 (kcl .u8 [])) := Lib.hid (own_zeroI (Nat.le_refl _) (heap_alloc_new w6 _))
    have HB7 := Lib.hid (below_alloc w6 (.cells #[] 5))
    have HsP := Lib.hid (kl_src (HU6.out.keep HB7.out))
    have hsz7 := HB7.out.size
    go_wp2_with (first
      | (at_builtin; refine wpList_append_srcO rfl (.tmp 43) (.tmp 44) 62 rfl w6.heap.size 5 i0 (.int .u8 0) 1 1 Try.underlying62 hi hz0 hz1 hz2 rfl (by decide) _ 0 (kcl .u8 []) rfl HO7.out _ P.length (kcl .u8 P) rfl HsP.out (by rw [kcl_len, Nat.mul_one]) (kcl_one _ _) (by unfold maxLen; omega) (by omega) hsz7 ?_; intro v8 w8 ho2 hg2; (have HO8 : Hid (w8.ownsRow w6.heap.size 5 1 v8 P.length (kcl .u8 P)) := Lib.hid (by simpa [kcl] using ho2)); (have HB8 : Hid (Below w6.heap.size w6 w8) := Lib.hid (HB7.out.grown hg2 HB7.out.size (fun k e => (own_block HO7.out e).1))); (have HsR8 := Lib.hid (kl_src (HV6.out.keep HB8.out))); (have hsz8 := HB8.out.size); clear ho2 hg2)
      | (at_builtin; refine wpList_append_srcO rfl (.tmp 45) (.tmp 46) 62 rfl w6.heap.size 5 i0 (.int .u8 0) 1 1 Try.underlying62 hi hz0 hz1 hz2 rfl (by decide) _ P.length (kcl .u8 P) rfl HO8.out _ R.length (kcl .u8 R) rfl HsR8.out (by rw [kcl_len, Nat.mul_one]) (kcl_one _ _) (by unfold maxLen; omega) (by omega) hsz8 ?_; intro v9 w9 ho2 hg2; (have HO9 : Hid (w9.ownsRow w6.heap.size 5 1 v9 (P ++ R).length (kcl .u8 (P ++ R))) := Lib.hid (by rw [kcl_app, List.length_append]; exact ho2)); (have HB9 : Hid (Below w6.heap.size w6 w9) := Lib.hid (HB8.out.grown hg2 HB8.out.size (fun k e => (own_block HO8.out e).1))); clear ho2 hg2))
    have HK9 := Lib.hid (kl_own rfl HO9.out)
    have hPR : (P ++ R).length ≤ 10000 := by rw [List.length_append]; omega
    have HF9 := Lib.hid (HF6.out.keep HB9.out)
    have HG9 := Lib.hid (HG6.out.keep HB9.out)
    have HFo9 := Lib.hid (HFo.out.keep HB9.out)
    have HBw9 := Lib.hid (below_after HBw6.out HB9.out)
    clear HO7 HB7 HsP hsz7 HO8 HB8 HsR8 hsz8 HO9 HB9 HF6 HG6 HFo HBw6 HU6 HV6
    refine (pall_any HK9.out HLt.out hPR).mono ?_
    rintro en wa ⟨ua, rfl, hfa, hba⟩
    rw [HAl.out] at hfa ⊢
    have HMa := Lib.hid hfa
    have HFa := Lib.hid (HF9.out.keep hba)
    have HGa := Lib.hid (HG9.out.keep hba)
    have HFoa := Lib.hid (HFo9.out.keep hba)
    have HBwa := Lib.hid (below_after HBw9.out hba)
    obtain ⟨qa, ca, rfl, _, _⟩ := hfa
    clear hba HK9 HF9 HG9 HFo9 HBw9 hPR HLt HAl
    dsimp only
    go_wp2_with fail
    refine (ponly_own HFa.out (by omega) (fun f hf => Nat.le_trans (HA.out f hf).2.2 (by omega)) num).mono ?_
    rintro en wb ⟨ub, Xa, rfl, hob, hxb, hmb, hbb⟩
    have HOb := Lib.hid hob
    have HXb := Lib.hid hxb
    have HMb := Lib.hid hmb
    have HBb1 := Lib.hid hbb
    have HGb := Lib.hid (HGa.out.keep hbb)
    have HXal : Xa.length ≤ 20 := by have := congrArg List.length hmb; have h2 := ofN_len num A; simp at this; omega
    clear hob hxb hmb hbb HFa HGa
    go_wp2_with fail
    refine (ponly_own HGb.out (by omega) (fun f hf => Nat.le_trans (HBb.out f hf).2.2 (by omega)) num).mono ?_
    rintro en wc ⟨uc, Xb, rfl, hoc, hxc, hmc, hbc⟩
    have HOc := Lib.hid (own_keepB hbc HOb.out)
    have HXc := Lib.hid (HXb.out.keep hbc)
    have HMc := Lib.hid hmc
    have HYc := Lib.hid hxc
    have HsXb := Lib.hid (own_srcF hoc)
    have HfXb := Lib.hid (fcells_one hxc.ok)
    have HBc := Lib.hid (below_after HBb1.out hbc)
    have hszc := HBc.out.size
    have HXbl : Xb.length ≤ 20 := by have := congrArg List.length hmc; have h2 := ofN_len num Bm; simp at this; omega
    clear hoc hxc hmc hbc HGb HOb HXb HBb1
    go_wp2_with (first
      | (at_builtin; refine wpList_append_srcO rfl (.tmp 54) (.tmp 57) 60 rfl wa.heap.size 77 iF (.agg #[.int .i64 0, .int .i64 0, .int .u64 0, .slice none 0 0]) 4 48 Try.underlying60 hF hF0 hF1 hF2 rfl (by decide) _ Xa.length (fcells Xa) rfl HOc.out _ Xb.length (fcells Xb) rfl HsXb.out (fcells_len _) HfXb.out (by unfold maxLen; omega) (by omega) hszc ?_; intro vd wd ho2 hg2; (have HOd : Hid (wd.ownsRow wa.heap.size 77 4 vd (Xa ++ Xb).length (fcells (Xa ++ Xb))) := Lib.hid (by rw [fcells_app, List.length_append]; exact ho2)); (have HBd : Hid (Below wa.heap.size wa wd) := Lib.hid (HBc.out.grown hg2 HBc.out.size (fun k e => (own_block HOc.out e).1))); (have HXd := Lib.hid (fun (X : List (Fd × Value)) (h : XOw wc wb.heap.size X) => h.grown hg2 HOc.out)); (have HXe := Lib.hid (fun (X : List (Fd × Value)) (h : XOw wc wa.heap.size X) => h.grown hg2 HOc.out)); clear ho2 hg2)
      | fail)
    have HXY : Hid (XOK wd (Xa ++ Xb)) := Lib.hid ((HXe.out _ HXc.out).ok.app (HXd.out _ HYc.out).ok)
    have HMs : Hid ((Xa ++ Xb).map (·.1) = ofN num AB) := Lib.hid (by rw [List.map_append, HMb.out, HMc.out, ← HAB.out, ofN_app])
    have HFs := Lib.hid (own_fl HOd.out HXY.out)
    rw [HMs.out] at HFs
    have HMd := Lib.hid (HMa.out.keep HBd.out)
    have HFod := Lib.hid (HFoa.out.keep HBd.out)
    have HBwd := Lib.hid (below_after HBwa.out HBd.out)
    have HFAB : Hid (FB AB) := Lib.hid (fun f hf => by
      rw [← HAB.out] at hf
      rcases List.mem_append.1 hf with hf | hf
      · exact HFA.out f hf
      · exact HFB.out f hf)
    have HFOn : Hid (FB (ofN num AB)) := Lib.hid (fun f hf => HFAB.out f (ofN_in hf))
    have HFL1 : Hid (∀ f ∈ AB, f.b.length ≤ 1000) := Lib.hid (fun f hf => by
      rw [← HAB.out] at hf
      rcases List.mem_append.1 hf with hf | hf
      · exact Nat.le_trans (HA.out f hf).2.2 (by omega)
      · exact Nat.le_trans (HBb.out f hf).2.2 (by omega))
    have hABl : AB.length ≤ 1000 := by rw [← HAB.out, List.length_append]; omega
    have hOnl : (ofN num AB).length ≤ 1000 := Nat.le_trans (ofN_len _ _) hABl
    obtain ⟨qs, cs, rfl, _, _⟩ := HFs.out
    clear HXY HMs HOd HXd HXe HBd HMa HFoa HBwa HOc HXc HYc HsXb HfXb HBc hszc HMb HMc
    refine (known8_yes _).mono ?_
    rintro en w10 ⟨rfl, hb10⟩
    have HM10 := Lib.hid (HMd.out.keep hb10)
    have HFo10 := Lib.hid (HFod.out.keep hb10)
    have HFs10 := Lib.hid (HFs.out.keep hb10)
    have HB10 := Lib.hid (below_after HBwd.out hb10)
    clear hb10 HMd HFod HFs HBwd
    go_wp2_with fail
    refine (psame_any hABl HM10.out HFo10.out HFAB.out HFAB.out).mono ?_
    rintro en w11 ⟨r11, rfl, hr11, hb11⟩
    obtain rfl : r11 = true := hr11.2 rfl
    have HFo11 := Lib.hid (HFo10.out.keep hb11)
    have HFs11 := Lib.hid (HFs10.out.keep hb11)
    have HB11 := Lib.hid (below_after HB10.out hb11)
    clear hr11 hb11 HM10 HFo10 HFs10 HB10
    go_wp2_with fail
    refine (ponly_any HFo11.out hABl HFL1.out num).mono ?_
    rintro en w12 ⟨u12, rfl, hf12, hb12⟩
    have HO12 := Lib.hid hf12
    have HFs12 := Lib.hid (HFs11.out.keep hb12)
    have HB12 := Lib.hid (below_after HB11.out hb12)
    obtain ⟨q12, c12, rfl, _, _⟩ := hf12
    clear hb12 HFo11 HFs11 HB11
    go_wp2_with fail
    refine (psame_any hOnl HO12.out HFs12.out HFOn.out HFOn.out).mono ?_
    rintro en w13 ⟨r13, rfl, hr13, hb13⟩
    obtain rfl : r13 = true := hr13.2 rfl
    have HB13 := Lib.hid (below_after HB12.out hb13)
    clear hr13 hb13
    go_wp2_with fail
    go_ret
    exact ⟨rfl, HB13.out⟩
  · clear HBoA HBoB
    by_cases e1 : wrE A = 0
    · have e2 : ¬ (wrE Bm : Int) = 0 := by
        intro h
        exact he ⟨e1, by omega⟩
      rw [e1]
      generalize wrE Bm = eb at *
      clear he e1
      obtain ⟨q3, c3, rfl, _, _⟩ := HU4.out
      obtain ⟨q4, c4, rfl, _, _⟩ := HV4.out
      go_wp2_with fail
      refine (known8_yes _).mono ?_
      rintro en w10 ⟨rfl, hb10⟩
      have HB10 := Lib.hid (below_after HB4.out hb10)
      clear hb10
      go_wp2_with fail
      go_ret
      exact ⟨rfl, HB10.out⟩
    · have e2 : ¬ (wrE A : Int) = 0 := by omega
      generalize wrE A = ea at *
      generalize wrE Bm = eb at *
      clear he e1
      obtain ⟨q3, c3, rfl, _, _⟩ := HU4.out
      obtain ⟨q4, c4, rfl, _, _⟩ := HV4.out
      go_wp2_with fail
      refine (known8_yes _).mono ?_
      rintro en w10 ⟨rfl, hb10⟩
      have HB10 := Lib.hid (below_after HB4.out hb10)
      clear hb10
      go_wp2_with fail
      go_ret
      exact ⟨rfl, HB10.out⟩
end Go.Proofs.Ytcbgknlklpandaa
