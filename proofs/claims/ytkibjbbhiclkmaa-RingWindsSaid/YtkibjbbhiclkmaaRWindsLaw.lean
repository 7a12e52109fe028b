/- The walk of RingWinds. -/
import Derived.Test.YtkibjbbhiclkmaaBesEq
import Derived.Test.YtkibjbbhiclkmaaKnown3
import Derived.Test.YtkibjbbhiclkmaaCut3
namespace Go.Proofs.Ytkibjbbhiclkmaa
open Go.RowKit Go.Sort

/-- The boxes, the ring as it came in, and as the document's points. -/
structure WnS (w W : World) (p a b : Int × Int) (u r : Value) (M : List (Int × Int)) : Prop where
  three : ThreeP w W p a b
  l : PL W u M
  k : PL W r M
theorem WnS.later {w W w1 : World} {p a b : Int × Int} {u r : Value} {M : List (Int × Int)} (h : WnS w W p a b u r M) (hb : Below W.heap.size W w1) : WnS w w1 p a b u r M :=
  ⟨h.three.later hb, h.l.keep hb, h.k.keep hb⟩
theorem rmay_ok (x y : Int) (w : World) : Calls Try.prog 16 #[.agg #[.int .i64 x, .int .i64 y]] w fun e w' => e = .returned (.bool (okp x y)) ∧ Below w.heap.size w w' := may_any x y w
theorem win_may {L : List (Int × Int)} {p : Int × Int} (h : winOk L p = true) : okL L = true ∧ okp p.1 p.2 = true := by
  unfold winOk at h
  simp only [Bool.and_eq_true] at h
  exact ⟨h.1.2, h.1.1⟩
theorem win_yes {L : List (Int × Int)} {p : Int × Int} (h : winOk L p = true) : winN L p = sm (rwE L p) L.length := by
  obtain ⟨hok, hp⟩ := win_may h
  have hd := wind_doc hok hp
  exact hd.2 (hd.1.1 h)
theorem win_zero {L : List (Int × Int)} {p : Int × Int} (h : winOk L p = false) : winN L p = 0 := by
  cases hm : (okp p.1 p.2 && okL L)
  · exact (wind_no hm).1
  · simp only [Bool.and_eq_true] at hm
    refine wind_on hm.2 hm.1 ?_
    have hd := (wind_doc hm.2 hm.1).1
    rw [h] at hd
    refine Classical.byContradiction fun hx => ?_
    have := hd.2 hx
    cases this

theorem ne_pt24 (ax ay bx b_y : Int) (w : World) : Sem.run Try.prog (binOp .neq 24 (.agg #[.int .i64 ax, .int .i64 ay]) (.agg #[.int .i64 bx, .int .i64 b_y])) w = .ok (.bool (!eqB ax ay bx b_y)) w := by
  have u3 := Try.underlying3
  have hS : Try.prog.underlying 24 = some (.struct (Try.prog.fieldsOf 24)) := by kernel_rfl
  have hp : Try.prog.stoodInHeld 24 = false := by kernel_rfl
  rw [run_neq_struct, show (10000 : Nat) = 9999 + 1 from rfl, run_equalIn_agg w 9999 24 _ _ hS hp]
  simp only [Program.fieldsOf, Try.underlying24]
  unfold eqB
  go_simp
  by_cases h1 : ax = bx <;> by_cases h2 : ay = b_y <;> simp [h1, h2]
theorem may_parts {L : List (Int × Int)} {a b : Int × Int} (h : besMay L a b = true) : okL L = true ∧ okp a.1 a.2 = true ∧ okp b.1 b.2 = true ∧ (a.1 ≠ b.1 ∨ a.2 ≠ b.2) := by
  unfold besMay ok2 eqB at h
  simp only [Bool.and_eq_true, Bool.not_eq_true', decide_eq_false_iff_not] at h
  exact ⟨h.2, h.1.2.1, h.1.2.2, by omega⟩
theorem rbes_same {w : World} {v : Value} {L : List (Int × Int)} {a b : Int × Int} (hI : PL w v L) (hL : L.length ≤ 50) (hm : besMay L a b = true) :
    Calls Try.prog 21 #[v, .agg #[.int .i64 a.1, .int .i64 a.2], .agg #[.int .i64 b.1, .int .i64 b.2]] w fun e w' => e = .returned (.tuple #[.int .i64 (besN L a b), .bool (besOk L a b)]) ∧ Below w.heap.size w w' := by
  obtain ⟨hok, ha, hb, hab⟩ := may_parts hm
  obtain ⟨d1, d2, d3⟩ := bes_doc hok ha hb hab
  refine (rbeside_any a b hI hL hok ha hb).mono ?_
  rintro e w' ⟨h, hb'⟩
  refine ⟨?_, hb'⟩
  rcases h with ⟨hx, rfl⟩ | ⟨hx, rfl⟩
  · have : besOk L a b = false := by
      cases hv : besOk L a b
      · rfl
      · exact absurd hx (d1.1 hv)
    rw [this, d3 hx]
  · rw [d1.2 hx, d2 hx]

set_option maxRecDepth 100000 in
set_option maxHeartbeats 4000000 in
theorem ringWinds_walk (v : Value) (L : List (Int × Int)) (p a b : Int × Int) (w : World) (hn : L.length ≤ 9223372036854775807) (hI : PL w v L) :
    Calls Try.prog 3 #[v, .agg #[.int .i64 p.1, .int .i64 p.2], .agg #[.int .i64 a.1, .int .i64 a.2], .agg #[.int .i64 b.1, .int .i64 b.2]] w fun e w' => e = .returned (.bool true) ∧ Below w.heap.size w w' := by
  have HT : Hid (ThreeP w (((w.alloc (.cells #[.int .i64 p.1, .int .i64 p.2] 24)).alloc (.cells #[.int .i64 a.1, .int .i64 a.2] 24)).alloc (.cells #[.int .i64 b.1, .int .i64 b.2] 24)) p a b) :=
    Lib.hid ⟨by go_simp, by go_simp, by go_simp, by go_simp, by go_simp, by go_simp, (b2 _ _ _).trans ((b1 _ _).mono (by simp <;> omega))⟩
  have hcut := cut3_any (hI.keep HT.out.below) hn
  have hml : (L.take 40).length ≤ 40 := by rw [List.length_take]; omega
  generalize L.take 40 = M at *
  have HM := Lib.hid hcut
  clear hcut hI hn
  have hmx : Try.prog.follows .mixedOrders = true := by kernel_rfl
  go_enter Try.func3, Try.ntmps3
  go_wp2_with fail
  refine HM.out.mono ?_
  rintro e w' ⟨u, rfl, hu, rfl⟩
  have HU := Lib.hid hu
  clear hu HM
  go_wp2_with fail
  refine (ofs_pl HU.out (by omega)).mono ?_
  rintro e w1 ⟨r, rfl, hr, hb1⟩
  have HS1 : Hid (WnS w w1 p a b u r M) := Lib.hid ⟨HT.out.later hb1, HU.out.keep hb1, hr⟩
  clear hr hb1 HT HU
  obtain ⟨c0, c1, c2, c3, c4, c5, _⟩ := HS1.out.three
  go_wp2_with fail
  refine (winding_any _ M p _ (by omega) HS1.out.l).mono ?_
  rintro e w2 ⟨rfl, hb2⟩
  have HS2 := Lib.hid (HS1.out.later hb2)
  clear hb2 c0 c1 c2 c3 c4 c5 HS1
  go_upto_region 4 with fail
  go_cut [12] (fun s wx => s = .bool (winOk M p) ∧ Hid (WnS w wx p a b u r M))
  case first =>
    obtain ⟨c0, c1, c2, c3, c4, c5, _⟩ := HS2.out.three
    cases hok : okL M
    · have HV := Lib.hid (wind_no (L := M) (p := p) (by rw [hok, Bool.and_false]))
      have HK := Lib.hid hok
      clear hok
      go_wp2_with fail
      refine (rall_pl HS2.out.k (by omega)).mono ?_
      rintro e w3 ⟨rfl, hb3⟩
      rw [HK.out]
      have HS3 := Lib.hid (HS2.out.later hb3)
      clear hb3
      go_wp2_with fail
      go_meet
      exact ⟨by rw [HV.out.2], HS3⟩
    · have HK := Lib.hid hok
      cases hp : okp p.1 p.2
      · have HV := Lib.hid (wind_no (L := M) (p := p) (by rw [hp, Bool.false_and]))
        have HP := Lib.hid hp
        clear hok hp
        go_wp2_with fail
        refine (rall_pl HS2.out.k (by omega)).mono ?_
        rintro e w3 ⟨rfl, hb3⟩
        rw [HK.out]
        have HS3 := Lib.hid (HS2.out.later hb3)
        clear hb3 c0 c1 c2 c3 c4 c5
        obtain ⟨c0, c1, c2, c3, c4, c5, _⟩ := HS3.out.three
        go_wp2_with fail
        refine (of_any p.1 p.2 _).mono ?_
        rintro e w4 ⟨rfl, hb4⟩
        have HS4 := Lib.hid (HS3.out.later hb4)
        clear hb4
        go_wp2_with fail
        refine (rmay_ok p.1 p.2 _).mono ?_
        rintro e w5 ⟨rfl, hb5⟩
        rw [HP.out]
        have HS5 := Lib.hid (HS4.out.later hb5)
        clear hb5 c0 c1 c2 c3 c4 c5
        go_wp2_with fail
        go_meet
        exact ⟨by rw [HV.out.2], HS5⟩
      · have HP := Lib.hid hp
        have HD := Lib.hid (wind_doc hok hp).1
        clear hok hp
        go_wp2_with fail
        refine (rall_pl HS2.out.k (by omega)).mono ?_
        rintro e w3 ⟨rfl, hb3⟩
        rw [HK.out]
        have HS3 := Lib.hid (HS2.out.later hb3)
        clear hb3 c0 c1 c2 c3 c4 c5
        obtain ⟨c0, c1, c2, c3, c4, c5, _⟩ := HS3.out.three
        go_wp2_with fail
        refine (of_any p.1 p.2 _).mono ?_
        rintro e w4 ⟨rfl, hb4⟩
        have HS4 := Lib.hid (HS3.out.later hb4)
        clear hb4
        go_wp2_with fail
        refine (rmay_ok p.1 p.2 _).mono ?_
        rintro e w5 ⟨rfl, hb5⟩
        rw [HP.out]
        have HS5 := Lib.hid (HS4.out.later hb5)
        clear hb5 c0 c1 c2 c3 c4 c5
        obtain ⟨c0, c1, c2, c3, c4, c5, _⟩ := HS5.out.three
        go_wp2_with fail
        refine (of_any p.1 p.2 _).mono ?_
        rintro e w6 ⟨rfl, hb6⟩
        have HS6 := Lib.hid (HS5.out.later hb6)
        clear hb6
        go_wp2_with fail
        refine (rons_any p HS6.out.k (by omega) HK.out HP.out).mono ?_
        rintro e w7 ⟨on, rfl, hon, hb7⟩
        have HS7 := Lib.hid (HS6.out.later hb7)
        have HE : Hid (winOk M p = !on) := Lib.hid (by
          rw [Bool.eq_iff_iff, HD.out, ← hon]
          cases on <;> simp)
        clear hb7 hon c0 c1 c2 c3 c4 c5
        go_wp2_with fail
        go_meet
        exact ⟨by rw [HE.out], HS7⟩
  case rest =>
    obtain ⟨rfl, HS3⟩ := hcut
    have HV0 := Lib.hid (fun h : winOk M p = false => win_zero h)
    have HV1 := Lib.hid (fun h : winOk M p = true => win_yes h)
    have HK := Lib.hid (fun h : winOk M p = true => win_may h)
    generalize winOk M p = wk at *
    generalize winN M p = wn at *
    go_upto_if 41 with fail
    go_cut [13] (fun s wx => s = .int .i64 wn ∧ Hid (WnS w wx p a b u r M))
    case first =>
      cases wk
      · have HZ := Lib.hid (HV0.out rfl)
        clear HV0 HV1 HK
        go_wp2_with fail
        go_meet
        exact ⟨by rw [HZ.out], HS3⟩
      · have HZ := Lib.hid (HV1.out rfl)
        have HQ := Lib.hid (HK.out rfl)
        clear HV0 HV1 HK
        obtain ⟨c0, c1, c2, c3, c4, c5, _⟩ := HS3.out.three
        go_wp2_with fail
        refine (of_any p.1 p.2 _).mono ?_
        rintro e w4 ⟨rfl, hb4⟩
        have HS4 := Lib.hid (HS3.out.later hb4)
        clear hb4 c0 c1 c2 c3 c4 c5
        go_wp2_with fail
        refine (rwind_any p HS4.out.k (by omega) HQ.out.1 HQ.out.2).mono ?_
        rintro e w5 ⟨rfl, hb5⟩
        have HS5 := Lib.hid (HS4.out.later hb5)
        clear hb5
        go_wp2_with fail
        go_meet
        exact ⟨by rw [HZ.out], HS5⟩
    case rest =>
      obtain ⟨rfl, HS4⟩ := hcut
      clear HS2 HS3
      obtain ⟨c0, c1, c2, c3, c4, c5, _⟩ := HS4.out.three
      go_wp2_with fail
      refine (beside_any _ M a b _ (by omega) HS4.out.l).mono ?_
      rintro e w5 ⟨rfl, hb5⟩
      have HS5 := Lib.hid (HS4.out.later hb5)
      clear hb5 c0 c1 c2 c3 c4 c5 HS4
      go_upto_region 12 with fail
      go_cut [77] (fun s wx => s = .bool (besMay M a b) ∧ Hid (WnS w wx p a b u r M))
      case first =>
        have hq := ne_pt24 a.1 a.2 b.1 b.2
        obtain ⟨c0, c1, c2, c3, c4, c5, _⟩ := HS5.out.three
        have HM : Hid (besMay M a b = (!eqB a.1 a.2 b.1 b.2 && (okp a.1 a.2 && okp b.1 b.2) && okL M)) := Lib.hid rfl
        generalize besMay M a b = bm at *
        generalize eqB a.1 a.2 b.1 b.2 = eb at *
        cases eb
        · have KM := Lib.hid (fun W h => rall_pl (w := W) (v := r) (L := M) h (by omega))
          have KA := Lib.hid (rmay_ok a.1 a.2)
          have KB := Lib.hid (rmay_ok b.1 b.2)
          generalize okL M = om at *
          generalize okp a.1 a.2 = oa at *
          generalize okp b.1 b.2 = ob at *
          cases om
          · go_wp2_with fail
            refine (KM.out _ HS5.out.k).mono ?_
            rintro e w6 ⟨rfl, hb6⟩
            have HS6 := Lib.hid (HS5.out.later hb6)
            clear hb6
            go_wp2_with fail
            go_meet
            exact ⟨by rw [HM.out]; simp, HS6⟩
          · cases oa
            · go_wp2_with fail
              refine (KM.out _ HS5.out.k).mono ?_
              rintro e w6 ⟨rfl, hb6⟩
              have HS6 := Lib.hid (HS5.out.later hb6)
              clear hb6 c0 c1 c2 c3 c4 c5
              obtain ⟨c0, c1, c2, c3, c4, c5, _⟩ := HS6.out.three
              go_wp2_with fail
              refine (of_any a.1 a.2 _).mono ?_
              rintro e w7 ⟨rfl, hb7⟩
              have HS7 := Lib.hid (HS6.out.later hb7)
              clear hb7
              go_wp2_with fail
              refine (KA.out _).mono ?_
              rintro e w8 ⟨rfl, hb8⟩
              have HS8 := Lib.hid (HS7.out.later hb8)
              clear hb8 c0 c1 c2 c3 c4 c5
              go_wp2_with fail
              go_meet
              exact ⟨by rw [HM.out]; simp, HS8⟩
            · go_wp2_with fail
              refine (KM.out _ HS5.out.k).mono ?_
              rintro e w6 ⟨rfl, hb6⟩
              have HS6 := Lib.hid (HS5.out.later hb6)
              clear hb6 c0 c1 c2 c3 c4 c5
              obtain ⟨c0, c1, c2, c3, c4, c5, _⟩ := HS6.out.three
              go_wp2_with fail
              refine (of_any a.1 a.2 _).mono ?_
              rintro e w7 ⟨rfl, hb7⟩
              have HS7 := Lib.hid (HS6.out.later hb7)
              clear hb7
              go_wp2_with fail
              refine (KA.out _).mono ?_
              rintro e w8 ⟨rfl, hb8⟩
              have HS8 := Lib.hid (HS7.out.later hb8)
              clear hb8 c0 c1 c2 c3 c4 c5
              obtain ⟨c0, c1, c2, c3, c4, c5, _⟩ := HS8.out.three
              go_wp2_with fail
              refine (of_any b.1 b.2 _).mono ?_
              rintro e w9 ⟨rfl, hb9⟩
              have HS9 := Lib.hid (HS8.out.later hb9)
              clear hb9
              go_wp2_with fail
              refine (KB.out _).mono ?_
              rintro e w10 ⟨rfl, hb10⟩
              have HS10 := Lib.hid (HS9.out.later hb10)
              clear hb10 c0 c1 c2 c3 c4 c5
              go_wp2_with fail
              go_meet
              exact ⟨by rw [HM.out]; simp, HS10⟩
        · go_wp2_with fail
          go_meet
          exact ⟨by rw [HM.out]; simp, HS5⟩
      case rest =>
      obtain ⟨rfl, HS6⟩ := hcut
      clear HS5
      have HN := Lib.hid (fun h : besMay M a b = false => bes_no h)
      have HY := Lib.hid (fun (h : besMay M a b = true) (W : World) (hW : PL W r M) => rbes_same hW (by omega) h)
      generalize besMay M a b = bm at *
      generalize besN M a b = bn at *
      generalize besOk M a b = bo at *
      go_upto_if 77 with fail
      go_cut [13, 16] (fun s t wx => s = .int .i64 bn ∧ t = .bool bo ∧ Hid (WnS w wx p a b u r M))
      case first =>
        cases bm
        · have HZ := Lib.hid (HN.out rfl)
          clear HN HY
          go_wp2_with fail
          go_meet
          exact ⟨by rw [HZ.out.1], by rw [HZ.out.2], HS6⟩
        · have KY := Lib.hid (HY.out rfl)
          clear HN HY
          obtain ⟨c0, c1, c2, c3, c4, c5, _⟩ := HS6.out.three
          have r2 := fun d os => cell_regrown c2 d os
          have r3 := fun d os => cell_regrown c3 d os
          have r4 := fun d os => cell_regrown c4 d os
          have r5 := fun d os => cell_regrown c5 d os
          have KZ : Hid (∀ (d : Nat) (os : Array Obj), Calls Try.prog 21 #[r, .agg #[.int .i64 a.1, .int .i64 a.2], .agg #[.int .i64 b.1, .int .i64 b.2]] (grow (redrawn wc d) os) fun e w'' => e = .returned (.tuple #[.int .i64 bn, .bool bo]) ∧ ∃ p : Regrown, w'' = grow (redrawn wc p.d) p.os) :=
            Lib.hid (fun d os => Calls.regrown_of (KY.out _ (HS6.out.k.keep (below_regrown wc d os))))
          have KA : Hid (∀ (d : Nat) (os : Array Obj), Calls Try.prog 17 #[.agg #[.int .i64 a.1, .int .i64 a.2]] (grow (redrawn wc d) os) fun e w'' => e = .returned (.agg #[.int .i64 a.1, .int .i64 a.2]) ∧ ∃ p : Regrown, w'' = grow (redrawn wc p.d) p.os) :=
            Lib.hid (fun d os => Calls.regrown_of (of_any a.1 a.2 _))
          have KB : Hid (∀ (d : Nat) (os : Array Obj), Calls Try.prog 17 #[.agg #[.int .i64 b.1, .int .i64 b.2]] (grow (redrawn wc d) os) fun e w'' => e = .returned (.agg #[.int .i64 b.1, .int .i64 b.2]) ∧ ∃ p : Regrown, w'' = grow (redrawn wc p.d) p.os) :=
            Lib.hid (fun d os => Calls.regrown_of (of_any b.1 b.2 _))
          clear c0 c1 c2 c3 c4 c5 KY
          go_wp2_with fail
          refine wp_region_quiet_below (by assumption) (by kernel_rfl) ?_
          repeat (go_big_quiet_step (first | (go_at_call 17; first | with_reducible exact KA.out _ _ | with_reducible exact KB.out _ _) | (go_at_call 21; with_reducible exact KZ.out _ _)))
          refine wpQuiet_nil ?_
          rintro _ ⟨pg, rfl⟩
          have HS7 := Lib.hid (HS6.out.later (below_regrown _ pg.d pg.os))
          go_wp2_with fail
          go_meet
          exact ⟨rfl, rfl, HS7⟩
      case rest =>
        obtain ⟨rfl, rfl, HS6⟩ := hcut
        go_wp2_with fail
        refine (known3_yes _).mono ?_
        rintro e w7 ⟨rfl, hb7⟩
        have HS7 := Lib.hid (HS6.out.later hb7)
        clear hb7
        go_wp2_with fail
        go_ret
        exact ⟨by simp, HS7.out.three.below⟩
end Go.Proofs.Ytkibjbbhiclkmaa
