/- How often the code's ring goes round the point beside a segment is the document's. -/
import Derived.Test.YtkibjbbhiclkmaaRefBes2
import Derived.Test.YtkibjbbhiclkmaaBeside
import Derived.Test.YtkibjbbhiclkmaaWindEq
namespace Go.Proofs.Ytkibjbbhiclkmaa
open Go.RowKit

theorem w64_in {x : Int} (h : -9223372036854775808 ≤ x ∧ x ≤ 9223372036854775807) : wrap64 x = x := IntWalk.wrap64_in x h
theorem w2_in {x : Int} (h : -16777216 ≤ x ∧ x ≤ 16777216) : w2 x = 2 * x := w64_in (by omega)
theorem cr_2 {p q a : Int × Int} (hp : okp p.1 p.2 = true) (hq : okp q.1 q.2 = true) (ha : okp a.1 a.2 = true) : crV p.1 p.2 q.1 q.2 a.1 a.2 = crI p.1 p.2 q.1 q.2 a.1 a.2 := crV_ok (by unfold ok3; rw [hp, hq, ha]; rfl)
theorem ar2_I {a b p q : Int × Int} (hp : okp p.1 p.2 = true) (hq : okp q.1 q.2 = true) (ha : okp a.1 a.2 = true) (hb : okp b.1 b.2 = true) :
    ar2 a b p q = crI p.1 p.2 q.1 q.2 a.1 a.2 + crI p.1 p.2 q.1 q.2 b.1 b.2 := by unfold ar2; rw [cr_2 hp hq ha, cr_2 hp hq hb]
theorem hs_rb {a b p q : Int × Int} (hp : okp p.1 p.2 = true) (hq : okp q.1 q.2 = true) (ha : okp a.1 a.2 = true) (hb : okp b.1 b.2 = true) :
    hsB (a.1 + b.1) (a.2 + b.2) a b p q = rbH a b p q := by
  have kp := okp_yes hp
  have kq := okp_yes hq
  have h := has_ref p.1 p.2 q.1 q.2 a.1 a.2 b.1 b.2
  have e1 : hsB (a.1 + b.1) (a.2 + b.2) a b p q = true ↔ hasP p.1 p.2 q.1 q.2 a.1 a.2 b.1 b.2 := by
    unfold hsB btw hasP betP
    rw [w2_in (by omega), w2_in (by omega), w2_in (by omega), w2_in (by omega), ar2_I hp hq ha hb, cr_2 hp hq ha]
    simp only [Bool.and_eq_true, decide_eq_true_eq, beq_iff_eq, Bool.not_eq_true', beq_eq_false_iff_ne]
    generalize crI p.1 p.2 q.1 q.2 a.1 a.2 = u
    generalize crI p.1 p.2 q.1 q.2 b.1 b.2 = v
    omega
  have e2 : rbH a b p q = true ↔ ((2 * q.1 - 2 * p.1) * (b.2 - a.2) ≠ (2 * q.2 - 2 * p.2) * (b.1 - a.1) ∧ onP (2 * p.1) (2 * p.2) (2 * q.1) (2 * q.2) (a.1 + b.1) (a.2 + b.2)) := by
    unfold rbH
    rw [onI_B]
    simp only [Bool.and_eq_true, onB_iff, Bool.not_eq_true', beq_eq_false_iff_ne, ne_eq]
  rw [Bool.eq_iff_iff, e1, e2]
  exact h
theorem ab_gt {a b p : Int × Int} (hp : okp p.1 p.2 = true) : abB (a.2 + b.2) a b p = gtB (2 * p.2) (a.2 + b.2) (b.1 - a.1) := by
  have kp := okp_yes hp
  unfold abB gtB
  rw [w2_in (by omega), Bool.eq_iff_iff]
  simp
  omega
theorem lf_lf {a b p q : Int × Int} (hp : okp p.1 p.2 = true) (hq : okp q.1 q.2 = true) (ha : okp a.1 a.2 = true) (hb : okp b.1 b.2 = true) :
    lfB a b p q = lfI p.1 p.2 q.1 q.2 a.1 a.2 b.1 b.2 := by
  have kp := okp_yes hp
  have kq := okp_yes hq
  have ka := okp_yes ha
  have kb := okp_yes hb
  have m1 := mul_in (q.1 - p.1) (b.1 - a.1) 33554432 33554432 (by omega) (by omega)
  have m2 := mul_in (q.2 - p.2) (b.2 - a.2) 33554432 33554432 (by omega) (by omega)
  unfold lfB lfI alV
  rw [ar2_I hp hq ha hb, w64_in (x := q.1 - p.1) (by omega), w64_in (x := q.2 - p.2) (by omega), w64_in (x := b.1 - a.1) (by omega), w64_in (x := b.2 - a.2) (by omega), w64_in (x := (q.1 - p.1) * (b.1 - a.1)) (by omega), w64_in (x := (q.2 - p.2) * (b.2 - a.2)) (by omega), w64_in (by omega)]
  rfl

theorem bes_any {L : List (Int × Int)} {a b : Int × Int} (hok : okL L = true) (ha : okp a.1 a.2 = true) (hb : okp b.1 b.2 = true) :
    anyE (hsB (a.1 + b.1) (a.2 + b.2) a b) L = true ↔ ∃ i, i < L.length ∧ rhE L a b i = true := by
  unfold anyE upto
  rw [List.any_eq_true]
  constructor
  · rintro ⟨x, hx, h⟩
    rw [List.mem_map] at hx
    obtain ⟨i, hi, rfl⟩ := hx
    refine ⟨i, List.mem_range.1 hi, ?_⟩
    unfold rhE nxA
    rw [← hs_rb (okL_pt hok _) (okL_pt hok _) ha hb]
    exact h
  · rintro ⟨i, hi, h⟩
    refine ⟨edA L i, List.mem_map.2 ⟨i, List.mem_range.2 hi, rfl⟩, ?_⟩
    unfold rhE nxA at h
    rw [← hs_rb (okL_pt hok _) (okL_pt hok _) ha hb] at h
    exact h
theorem bes_doc {L : List (Int × Int)} {a b : Int × Int} (hok : okL L = true) (ha : okp a.1 a.2 = true) (hb : okp b.1 b.2 = true) (hab : a.1 ≠ b.1 ∨ a.2 ≠ b.2) :
    (besOk L a b = true ↔ ¬ ∃ i, i < L.length ∧ rhE L a b i = true) ∧ ((¬ ∃ i, i < L.length ∧ rhE L a b i = true) → besN L a b = sm (rbE L a b) L.length) ∧ ((∃ i, i < L.length ∧ rhE L a b i = true) → besN L a b = 0) := by
  have hy := bes_any hok ha hb
  have hm : besMay L a b = true := by
    unfold besMay ok2 eqB
    rw [hok, ha, hb]
    simp
    omega
  refine ⟨?_, fun hn => ?_, fun hx => ?_⟩
  · rw [(bes_yes hm).2]
    unfold arB
    rw [Bool.not_eq_true', ← hy, Bool.not_eq_true]
  · rw [(bes_yes hm).1]
    unfold arN
    rw [if_neg (fun h => hn (hy.1 h)), sumE_upto]
    refine sm_round_eq _ _ (fun i => qF (gtB (2 * (ptA L i).1) (a.1 + b.1) (a.2 - b.2)) (gtB (2 * (ptA L i).2) (a.2 + b.2) (b.1 - a.1))) L.length (fun i hi => ?_)
    have hh : ¬ hasP (ptA L i).1 (ptA L i).2 (nxA L i).1 (nxA L i).2 a.1 a.2 b.1 b.2 := by
      intro h
      apply hn
      refine ⟨i, hi, ?_⟩
      unfold rhE rbH
      rw [has_ref] at h
      rw [onI_B]
      simp only [Bool.and_eq_true, onB_iff, Bool.not_eq_true', beq_eq_false_iff_ne, ne_eq]
      exact h
    have hw := bes_hv (ptA L i).1 (ptA L i).2 (nxA L i).1 (nxA L i).2 a.1 a.2 b.1 b.2 hab hh
    unfold hwE edA rbE rablV d2 midp
    dsimp only
    rw [ab_gt (okL_pt hok _), ab_gt (okL_pt hok _), lf_lf (okL_pt hok _) (okL_pt hok _) ha hb]
    exact hw
  · rw [(bes_yes hm).1]
    unfold arN
    rw [if_pos (hy.2 hx)]
end Go.Proofs.Ytkibjbbhiclkmaa
