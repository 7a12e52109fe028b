/- The walk of RingAreas. -/
import Derived.Test.YtmhmccicnebhaaaSimEq
import Derived.Test.YtmhmccicnebhaaaKnown3
namespace Go.Proofs.Ytmhmccicnebhaaa
open Go.RowKit

theorem PL.take {W : World} {p : Option Addr} {cap : Nat} {L : List (Int × Int)} (h : PL W (.slice p L.length cap) L) (m : Nat) : PL W (.slice p (L.take m).length cap) (L.take m) := by
  obtain ⟨p', cap', e, hc, hi⟩ := h
  injection e with e1 _ e3
  subst e1; subst e3
  have hl : (L.take m).length = min m L.length := List.length_take
  refine ⟨_, _, rfl, by omega, fun i h => ?_⟩
  obtain ⟨b, off, hp, hb, c0, c1⟩ := hi i (by omega)
  rw [List.getElem_take]
  exact ⟨b, off, hp, hb, c0, c1⟩
theorem cut3_any {w : World} {v : Value} {L : List (Int × Int)} (hI : PL w v L) (hn : L.length ≤ 9223372036854775807) : Calls Try.prog 27 #[v] w fun e w' => ∃ u, e = .returned u ∧ PL w u (L.take 40) ∧ w = w' := by
  have HI := Lib.hid hI
  obtain ⟨p, cap, rfl, hc, hi⟩ := hI
  clear hi
  have hcut := Lib.hid (HI.out.take 40)
  have HC : Hid (PL w (.slice p (min (L.length : Int) 40).toNat cap) (L.take 40)) := Lib.hid (by
    have e : (min (L.length : Int) 40).toNat = (L.take 40).length := by rw [List.length_take]; omega
    rw [e]; exact hcut.out)
  clear hcut
  go_enter Try.func27, Try.ntmps27
  go_wp2_with fail
  all_goals
    go_ret
    exact ⟨_, rfl, HC.out, rfl⟩
theorem sm_up (f : (Int × Int) × (Int × Int) → Int) (L : List (Int × Int)) : sumE f (upto (edA L) L.length) = sm (fun i => f (edA L i)) L.length := sumE_upto f (edA L) L.length
/-- The document's doubled area. -/
def docA (L : List (Int × Int)) : Int := if L.length < 3 then 0 else if okL L then sm (raE L) L.length else 0
theorem area_doc (L : List (Int × Int)) : areaV L = docA L := by
  unfold areaV docA
  by_cases h : L.length < 3
  · rw [if_pos h, if_pos h]
  · rw [if_neg h, if_neg h]
    cases hok : okL L
    · rfl
    · simp only [if_true]
      rw [sm_up]
      have e : sm (fun i => arE (ptA L 0) (edA L i)) L.length = sm (fun i => crI (ptA L 0).1 (ptA L 0).2 (ptA L i).1 (ptA L i).2 (ptA L ((i + 1) % L.length)).1 (ptA L ((i + 1) % L.length)).2) L.length := by
        apply sm_congr
        intro i hi
        unfold arE edA
        exact crV_ok (by unfold ok3; simp [okL_pt hok])
      rw [e]
      exact area_sum (ptA L) (ptA L 0) L.length

set_option maxRecDepth 100000 in
set_option maxHeartbeats 4000000 in
theorem ringAreas_walk (v : Value) (L : List (Int × Int)) (w : World) (hn : L.length ≤ 9223372036854775807) (hI : PL w v L) :
    Calls Try.prog 8 #[v] w fun e w' => e = .returned (.bool true) ∧ Below w.heap.size w w' := by
  have hcut := cut3_any hI hn
  have hml : (L.take 40).length ≤ 40 := by rw [List.length_take]; omega
  generalize L.take 40 = M at *
  have HM := Lib.hid hcut
  clear hcut hI hn
  go_enter Try.func8, Try.ntmps8
  go_wp2_with fail
  refine HM.out.mono ?_
  rintro e w' ⟨u, rfl, hu, rfl⟩
  have HU := Lib.hid hu
  clear hu HM
  go_wp2_with fail
  refine (ofs_pl HU.out (by omega)).mono ?_
  rintro e w1 ⟨r, rfl, hr, hb1⟩
  have HR := Lib.hid hr
  have HB1 := Lib.hid hb1
  have HU1 := Lib.hid (HU.out.keep hb1)
  obtain ⟨p, cap, rfl, hc, _⟩ := hr
  have HD := Lib.hid (area_doc M)
  have HS := Lib.hid (sim_iff M)
  clear hb1
  have tail : ∀ (W : World), Hid (Below w.heap.size w W) → Hid (PL W u M) → Hid (PL W (.slice p M.length cap) M) → True := fun _ _ _ _ => trivial
  clear tail
  cases g1 : decide (3 ≤ (M.length : Int))
  · have HA : Hid (docA M = 0) := Lib.hid (by
      have h3 : ¬ 3 ≤ (M.length : Int) := of_decide_eq_false g1
      unfold docA
      rw [if_pos (by omega)])
    go_wp2_with fail
    refine (known3_yes _).mono ?_
    rintro e w4 ⟨rfl, hb4⟩
    have HU4 := Lib.hid (HU1.out.keep hb4)
    have HR4 := Lib.hid (HR.out.keep hb4)
    have HB4 := Lib.hid (HB1.out.trans (hb4.mono HB1.out.size))
    clear hb4
    go_wp2_with fail
    refine (area_any _ M _ (by omega) HU4.out).mono ?_
    rintro e w5 ⟨rfl, hb5⟩
    rw [HD.out, HA.out]
    have HU5 := Lib.hid (HU4.out.keep hb5)
    have HR5 := Lib.hid (HR4.out.keep hb5)
    have HB5 := Lib.hid (HB4.out.trans (hb5.mono HB4.out.size))
    clear hb5
    go_wp2_with fail
    refine (simple_any _ M _ (by omega) HU5.out).mono ?_
    rintro e w6 ⟨rfl, hb6⟩
    have HR6 := Lib.hid (HR5.out.keep hb6)
    have HB6 := Lib.hid (HB5.out.trans (hb6.mono HB5.out.size))
    clear hb6
    go_wp2_with fail
    refine (rsimple_any HR6.out (by omega)).mono ?_
    rintro e w7 ⟨b, rfl, hbi, hb7⟩
    obtain rfl : b = simB M := by rw [Bool.eq_iff_iff]; exact hbi.trans HS.out.symm
    have HB7 := Lib.hid (HB6.out.trans (hb7.mono HB6.out.size))
    clear hb7 hbi
    generalize simB M = sb at *
    go_wp2_with fail
    go_ret
    exact ⟨ret_bool (by simp), HB7.out⟩
  · cases hok : okL M
    · have HA : Hid (docA M = 0) := Lib.hid (by unfold docA; rw [hok]; simp)
      have HK := Lib.hid hok
      clear hok
      go_wp2_with fail
      refine (rall_pl HR.out (by omega)).mono ?_
      rintro e w2 ⟨rfl, hb2⟩
      rw [HK.out]
      have HU2 := Lib.hid (HU1.out.keep hb2)
      have HR2 := Lib.hid (HR.out.keep hb2)
      have HB2 := Lib.hid (HB1.out.trans (hb2.mono HB1.out.size))
      clear hb2
      go_wp2_with fail
      refine (known3_yes _).mono ?_
      rintro e w4 ⟨rfl, hb4⟩
      have HU4 := Lib.hid (HU2.out.keep hb4)
      have HR4 := Lib.hid (HR2.out.keep hb4)
      have HB4 := Lib.hid (HB2.out.trans (hb4.mono HB2.out.size))
      clear hb4
      go_wp2_with fail
      refine (area_any _ M _ (by omega) HU4.out).mono ?_
      rintro e w5 ⟨rfl, hb5⟩
      rw [HD.out, HA.out]
      have HU5 := Lib.hid (HU4.out.keep hb5)
      have HR5 := Lib.hid (HR4.out.keep hb5)
      have HB5 := Lib.hid (HB4.out.trans (hb5.mono HB4.out.size))
      clear hb5
      go_wp2_with fail
      refine (simple_any _ M _ (by omega) HU5.out).mono ?_
      rintro e w6 ⟨rfl, hb6⟩
      have HR6 := Lib.hid (HR5.out.keep hb6)
      have HB6 := Lib.hid (HB5.out.trans (hb6.mono HB5.out.size))
      clear hb6
      go_wp2_with fail
      refine (rsimple_any HR6.out (by omega)).mono ?_
      rintro e w7 ⟨b, rfl, hbi, hb7⟩
      obtain rfl : b = simB M := by rw [Bool.eq_iff_iff]; exact hbi.trans HS.out.symm
      have HB7 := Lib.hid (HB6.out.trans (hb7.mono HB6.out.size))
      clear hb7 hbi
      generalize simB M = sb at *
      go_wp2_with fail
      go_ret
      exact ⟨ret_bool (by simp), HB7.out⟩
    · have HA : Hid (docA M = sm (raE M) M.length) := Lib.hid (by
        have h3 : 3 ≤ (M.length : Int) := of_decide_eq_true g1
        unfold docA
        rw [hok, if_neg (by omega)]
        rfl)
      have HK := Lib.hid hok
      clear hok
      go_wp2_with fail
      refine (rall_pl HR.out (by omega)).mono ?_
      rintro e w2 ⟨rfl, hb2⟩
      rw [HK.out]
      have HU2 := Lib.hid (HU1.out.keep hb2)
      have HR2 := Lib.hid (HR.out.keep hb2)
      have HB2 := Lib.hid (HB1.out.trans (hb2.mono HB1.out.size))
      clear hb2
      go_wp2_with fail
      refine (rarea_any HR2.out (by omega) HK.out).mono ?_
      rintro e w3 ⟨rfl, hb3⟩
      have HU3 := Lib.hid (HU2.out.keep hb3)
      have HR3 := Lib.hid (HR2.out.keep hb3)
      have HB3 := Lib.hid (HB2.out.trans (hb3.mono HB2.out.size))
      clear hb3
      generalize sm (raE M) M.length = am at *
      go_wp2_with fail
      refine (known3_yes _).mono ?_
      rintro e w4 ⟨rfl, hb4⟩
      have HU4 := Lib.hid (HU3.out.keep hb4)
      have HR4 := Lib.hid (HR3.out.keep hb4)
      have HB4 := Lib.hid (HB3.out.trans (hb4.mono HB3.out.size))
      clear hb4
      go_wp2_with fail
      refine (area_any _ M _ (by omega) HU4.out).mono ?_
      rintro e w5 ⟨rfl, hb5⟩
      rw [HD.out, HA.out]
      have HU5 := Lib.hid (HU4.out.keep hb5)
      have HR5 := Lib.hid (HR4.out.keep hb5)
      have HB5 := Lib.hid (HB4.out.trans (hb5.mono HB4.out.size))
      clear hb5
      go_wp2_with fail
      refine (simple_any _ M _ (by omega) HU5.out).mono ?_
      rintro e w6 ⟨rfl, hb6⟩
      have HR6 := Lib.hid (HR5.out.keep hb6)
      have HB6 := Lib.hid (HB5.out.trans (hb6.mono HB5.out.size))
      clear hb6
      go_wp2_with fail
      refine (rsimple_any HR6.out (by omega)).mono ?_
      rintro e w7 ⟨b, rfl, hbi, hb7⟩
      obtain rfl : b = simB M := by rw [Bool.eq_iff_iff]; exact hbi.trans HS.out.symm
      have HB7 := Lib.hid (HB6.out.trans (hb7.mono HB6.out.size))
      clear hb7 hbi
      generalize simB M = sb at *
      go_wp2_with fail
      go_ret
      exact ⟨ret_bool (by simp), HB7.out⟩
end Go.Proofs.Ytmhmccicnebhaaa
