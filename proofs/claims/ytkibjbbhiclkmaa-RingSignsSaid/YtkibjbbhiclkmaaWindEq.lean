/- How often the code's ring goes round a point is the document's. -/
import Derived.Test.YtkibjbbhiclkmaaRefOns
import Derived.Test.YtkibjbbhiclkmaaWinding
namespace Go.Proofs.Ytkibjbbhiclkmaa

theorem ok3_pt {L : List (Int × Int)} {p : Int × Int} (hok : okL L = true) (hp : okp p.1 p.2 = true) (i k : Nat) : ok3 (ptA L i).1 (ptA L i).2 (ptA L k).1 (ptA L k).2 p.1 p.2 = true := by
  unfold ok3; rw [okL_pt hok, okL_pt hok, hp]; rfl
theorem any_on {L : List (Int × Int)} {p : Int × Int} (hok : okL L = true) (hp : okp p.1 p.2 = true) :
    anyE (fun a b => onV a.1 a.2 b.1 b.2 p.1 p.2) L = true ↔ ∃ i, i < L.length ∧ onE L p i = true := by
  unfold anyE upto
  rw [List.any_eq_true]
  constructor
  · rintro ⟨x, hx, h⟩
    rw [List.mem_map] at hx
    obtain ⟨i, hi, rfl⟩ := hx
    refine ⟨i, List.mem_range.1 hi, ?_⟩
    unfold onE
    rw [onI_B, ← onV_B (ok3_pt hok hp _ _)]
    exact h
  · rintro ⟨i, hi, h⟩
    refine ⟨edA L i, List.mem_map.2 ⟨i, List.mem_range.2 hi, rfl⟩, ?_⟩
    unfold onE at h
    rw [onI_B, ← onV_B (ok3_pt hok hp _ _)] at h
    exact h
theorem wind_doc {L : List (Int × Int)} {p : Int × Int} (hok : okL L = true) (hp : okp p.1 p.2 = true) :
    (winOk L p = true ↔ ¬ ∃ i, i < L.length ∧ onE L p i = true) ∧ ((¬ ∃ i, i < L.length ∧ onE L p i = true) → winN L p = sm (rwE L p) L.length) := by
  have ha := any_on hok hp
  constructor
  · unfold winOk arB
    rw [hok, hp, Bool.true_and, Bool.true_and, Bool.not_eq_true', ← ha, Bool.not_eq_true]
  · intro hn
    unfold winN
    rw [hok, hp]
    simp only [Bool.and_self, if_true]
    unfold arN
    rw [if_neg (fun h => hn (ha.1 h)), sumE_upto]
    refine sm_round_eq _ _ (fun i => qF (decide (p.1 < (ptA L i).1)) (decide (p.2 < (ptA L i).2))) L.length (fun i hi => ?_)
    have hon : ¬ onP (ptA L i).1 (ptA L i).2 (ptA L ((i + 1) % L.length)).1 (ptA L ((i + 1) % L.length)).2 p.1 p.2 := by
      intro h
      apply hn
      refine ⟨i, hi, ?_⟩
      unfold onE
      rw [onI_B, onB_iff]; exact h
    have hw := win_hv (ptA L i).1 (ptA L i).2 (ptA L ((i + 1) % L.length)).1 (ptA L ((i + 1) % L.length)).2 p.1 p.2 hon
    unfold hwE edA rwE rabV
    dsimp only
    rw [crV_ok (ok3_pt hok hp _ _)]
    exact hw
theorem wind_no {L : List (Int × Int)} {p : Int × Int} (h : (okp p.1 p.2 && okL L) = false) : winN L p = 0 ∧ winOk L p = false := by
  unfold winN winOk
  rw [h]
  exact ⟨rfl, rfl⟩
theorem wind_on {L : List (Int × Int)} {p : Int × Int} (hok : okL L = true) (hp : okp p.1 p.2 = true) (h : ∃ i, i < L.length ∧ onE L p i = true) : winN L p = 0 := by
  unfold winN arN
  rw [hok, hp, (any_on hok hp).2 h]
  rfl
end Go.Proofs.Ytkibjbbhiclkmaa
