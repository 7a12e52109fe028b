/- The law's Cut, and the doubled area as the document reckons it. -/
import Derived.Test.YtkibjbbhiclkmaaRefArea
import Derived.Test.YtkibjbbhiclkmaaKnown3
namespace Go.Proofs.Ytkibjbbhiclkmaa
open Go.RowKit

theorem PL.take {W : World} {p : Option Addr} {cap : Nat} {L : List (Int × Int)} (h : PL W (.slice p L.length cap) L) (m : Nat) : PL W (.slice p (L.take m).length cap) (L.take m) := by
  obtain ⟨p', cap', e, hc, hi⟩ := h
  injection e with e1 _ e3
  subst e1; subst e3
  have hl : (L.take m).length = min m L.length := List.length_take
  refine ⟨_, _, rfl, by omega, fun i h => ?_⟩
  obtain ⟨b, off, hp, hb, c0, c1⟩ := hi i (by omega)
  rw [List.getElem_take]
  exact ⟨b, off, hp, hb, c0, c1⟩
theorem cut3_any {w : World} {v : Value} {L : List (Int × Int)} (hI : PL w v L) (hn : L.length ≤ 9223372036854775807) : Calls Try.prog 12 #[v] w fun e w' => ∃ u, e = .returned u ∧ PL w u (L.take 40) ∧ w = w' := by
  have HI := Lib.hid hI
  obtain ⟨p, cap, rfl, hc, hi⟩ := hI
  clear hi
  have hcut := Lib.hid (HI.out.take 40)
  have HC : Hid (PL w (.slice p (min (L.length : Int) 40).toNat cap) (L.take 40)) := Lib.hid (by
    have e : (min (L.length : Int) 40).toNat = (L.take 40).length := by rw [List.length_take]; omega
    rw [e]; exact hcut.out)
  clear hcut
  go_enter Try.func12, Try.ntmps12
  go_wp2_with fail
  all_goals
    go_ret
    exact ⟨_, rfl, HC.out, rfl⟩
theorem sm_up (f : (Int × Int) × (Int × Int) → Int) (L : List (Int × Int)) : sumE f (upto (edA L) L.length) = sm (fun i => f (edA L i)) L.length := sumE_upto f (edA L) L.length
/-- The document's doubled area. -/
def docA (L : List (Int × Int)) : Int := if L.length < 3 then 0 else if okL L then sm (raE L) L.length else 0
theorem area_doc (L : List (Int × Int)) : areaV L = docA L := by
  unfold areaV docA
  by_cases h : L.length < 3
  · rw [if_pos h, if_pos h]
  · rw [if_neg h, if_neg h]
    cases hok : okL L
    · rfl
    · simp only [if_true]
      rw [sm_up]
      have e : sm (fun i => arE (ptA L 0) (edA L i)) L.length = sm (fun i => crI (ptA L 0).1 (ptA L 0).2 (ptA L i).1 (ptA L i).2 (ptA L ((i + 1) % L.length)).1 (ptA L ((i + 1) % L.length)).2) L.length := by
        apply sm_congr
        intro i hi
        unfold arE edA
        exact crV_ok (by unfold ok3; simp [okL_pt hok])
      rw [e]
      exact area_sum (ptA L) (ptA L 0) L.length
end Go.Proofs.Ytkibjbbhiclkmaa
