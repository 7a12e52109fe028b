/- The cuts of a segment by one line, and by many lines, are those of the document, for any two points and any lines (20 of each at most, as the statement says; P2.2, P2.3): SegCuts returns true at every input.
   Conditions: none. -/
import Derived.Test.YtmhmccicnebhaaaNums
import Derived.Test.YtmhmccicnebhaaaSegCutsLaw
namespace Go.Proofs.Ytmhmccicnebhaaa
open Go.ChangeShapes Go.WideShapes Go.ChangeAt Go.RowKit

set_option maxRecDepth 100000 in
theorem segCuts_lifted (os : Os) (started : os.Started) (H : Type) (enc : TypeId × Value → H) :
    ReturnsInHanded {} Try.checked os 4 .any (Rows.segCutsSpec.pre6 enc Try.prog Try.f4 Rows.segCutsRow.domain false) (Rows.segCutsSpec.post enc Try.prog Try.f4 false true false false) := by
  refine returnsInHanded_of_change (C := Try.checked) Try.own started (by kernel_rfl) Try.func4
    (ChangeSpec.witness6 (enc := enc) (C := Try.checked) false ⟨#[], #[.agg #[.int .i64 0, .int .i64 0], .agg #[.int .i64 0, .int .i64 0], .int .i64 0, .slice none 0 0, .slice none 0 0], []⟩ 8 (by kernel_rfl) (by kernel_rfl) (by kernel_rfl) (by kernel_rfl)) ?_
  intro W base args ds gs before hval0 hW _ _
  have hval : ∀ (j : Nat) t v, Try.f4.params[j]? = some t → args[j]? = some v → Value.okWide Try.prog W .any base t v := hval0
  have hW' := hW
  obtain ⟨p, q, hA0, hV, rfl, _, _⟩ := hW
  have hA : DataW.TrodAll enc Try.prog W 0 (fun _ => true) true Try.f4.params.toList args.toList ds p := hA0
  rw [Try.params4] at hA hval
  obtain ⟨v0, vs0, d0, ds0, p0, z0, hargs, rfl, rfl, h0, r0⟩ := trodAll_cons hA
  obtain ⟨v1, vs1, d1, ds1, p1, z1, rfl, rfl, rfl, h1, r1⟩ := trodAll_cons r0
  obtain ⟨v2, vs2, d2, ds2, p2, z2, rfl, rfl, rfl, h2, r2⟩ := trodAll_cons r1
  obtain ⟨v3, vs3, d3, ds3, p3, z3, rfl, rfl, rfl, h3, r3⟩ := trodAll_cons r2
  obtain ⟨v4, vs4, d4, ds4, p4, z4, rfl, rfl, rfl, h4, r4⟩ := trodAll_cons r3
  obtain ⟨rfl, rfl, rfl⟩ := trodAll_nil r4
  obtain rfl : args = #[v0, v1, v2, v3, v4] := by cases args; simp_all
  obtain ⟨x0, y0, rfl, _, _⟩ := open_pt (hval 0 23 v0 rfl rfl) h0
  obtain ⟨x1, y1, rfl, _, _⟩ := open_pt (hval 1 23 v1 rfl rfl) h1
  obtain ⟨x2, rfl, _, _, _⟩ := open_int Try.underlying3 (hval 2 3 v2 rfl rfl) h2
  obtain ⟨q3, xs3, c3, rfl, l3, m3, I3⟩ := open_nums (hval 3 36 v3 rfl rfl) h3
  unfold maxLen at m3
  obtain ⟨q4, xs4, c4, rfl, l4, m4, I4⟩ := open_nums (hval 4 36 v4 rfl rfl) h4
  unfold maxLen at m4
  refine (segcuts_walk x0 y0 x1 y1 x2 q3 q4 xs3 xs4 c3 c4 W l3 l4 (by omega) (by omega) (Lib.hid I3) (Lib.hid I4)).mono fun e W' ⟨he, hb⟩ => ?_
  subst he
  exact ⟨_, rfl, law_post rfl (by kernel_rfl) (by rw [Try.params4]; intro t ht; (have ht' : t ∈ [23, 23, 3, 36, 36] := ht); simp only [List.mem_cons, List.not_mem_nil, or_false] at ht'; (rcases ht' with rfl | rfl | rfl | rfl | rfl <;> exact ⟨by kernel_rfl, of_decide_eq_true (by kernel_rfl)⟩)) hW' rfl hb⟩

theorem segCuts_holds : Rows.SegCutsSaid :=
  OpenClaim.holds_of_wide 4 Try.f4 rfl rfl rfl rfl rfl rfl rfl ⟨rfl, rfl, rfl, rfl, rfl⟩ rfl rfl rfl rfl rfl (by kernel_rfl) Try.func4 (by kernel_rfl)
    (of_decide_eq_true (by kernel_rfl)) (by unfold Func.isWrapper; rw [if_neg (of_decide_eq_false (by kernel_rfl))]; exact ⟨rfl, rfl⟩)
    (fun os started H enc _ => segCuts_lifted os started H enc)
end Go.Proofs.Ytmhmccicnebhaaa
