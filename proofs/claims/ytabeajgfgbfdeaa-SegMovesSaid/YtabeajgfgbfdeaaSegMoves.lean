/- Class and Cuts go with the move (P2.1, P2.3): SegMoves returns true at every input.
   Conditions: none. -/
import Derived.Test.YtabeajgfgbfdeaaNums
import Derived.Test.YtabeajgfgbfdeaaMvW
namespace Go.Proofs.Ytabeajgfgbfdeaa
open Go.ChangeShapes Go.WideShapes Go.ChangeAt Go.RowKit

set_option maxRecDepth 100000 in
theorem segMoves_lifted (os : Os) (started : os.Started) (H : Type) (enc : TypeId × Value → H) :
    ReturnsInHanded {} Try.checked os 7 .any (Rows.segMovesSpec.pre6 enc Try.prog Try.f7 Rows.segMovesRow.domain false) (Rows.segMovesSpec.post enc Try.prog Try.f7 false true false false) := by
  refine returnsInHanded_of_change (C := Try.checked) Try.own started (by kernel_rfl) Try.func7
    (ChangeSpec.witness6 (enc := enc) (C := Try.checked) false ⟨#[], #[.agg #[.int .i64 0, .int .i64 0], .agg #[.int .i64 0, .int .i64 0], .agg #[.int .i64 0, .int .i64 0], .agg #[.int .i64 0, .int .i64 0], .agg #[.int .i64 0, .int .i64 0], .slice none 0 0, .slice none 0 0], []⟩ 8 (by kernel_rfl) (by kernel_rfl) (by kernel_rfl) (by kernel_rfl)) ?_
  intro W base args ds gs before hval0 hW _ _
  have hval : ∀ (j : Nat) t v, Try.f7.params[j]? = some t → args[j]? = some v → Value.okWide Try.prog W .any base t v := hval0
  have hW' := hW
  obtain ⟨p, q, hA0, hV, rfl, _, _⟩ := hW
  have hA : DataW.TrodAll enc Try.prog W 0 (fun _ => true) true Try.f7.params.toList args.toList ds p := hA0
  rw [Try.params7] at hA hval
  obtain ⟨v0, vs0, d0, ds0, p0, z0, hargs, rfl, rfl, h0, r0⟩ := trodAll_cons hA
  obtain ⟨v1, vs1, d1, ds1, p1, z1, rfl, rfl, rfl, h1, r1⟩ := trodAll_cons r0
  obtain ⟨v2, vs2, d2, ds2, p2, z2, rfl, rfl, rfl, h2, r2⟩ := trodAll_cons r1
  obtain ⟨v3, vs3, d3, ds3, p3, z3, rfl, rfl, rfl, h3, r3⟩ := trodAll_cons r2
  obtain ⟨v4, vs4, d4, ds4, p4, z4, rfl, rfl, rfl, h4, r4⟩ := trodAll_cons r3
  obtain ⟨v5, vs5, d5, ds5, p5, z5, rfl, rfl, rfl, h5, r5⟩ := trodAll_cons r4
  obtain ⟨v6, vs6, d6, ds6, p6, z6, rfl, rfl, rfl, h6, r6⟩ := trodAll_cons r5
  obtain ⟨rfl, rfl, rfl⟩ := trodAll_nil r6
  obtain rfl : args = #[v0, v1, v2, v3, v4, v5, v6] := by cases args; simp_all
  obtain ⟨x0, y0, rfl, _, _⟩ := open_pt (hval 0 23 v0 rfl rfl) h0
  obtain ⟨x1, y1, rfl, _, _⟩ := open_pt (hval 1 23 v1 rfl rfl) h1
  obtain ⟨x2, y2, rfl, _, _⟩ := open_pt (hval 2 23 v2 rfl rfl) h2
  obtain ⟨x3, y3, rfl, _, _⟩ := open_pt (hval 3 23 v3 rfl rfl) h3
  obtain ⟨x4, y4, rfl, _, _⟩ := open_pt (hval 4 23 v4 rfl rfl) h4
  obtain ⟨q5, xs5, c5, rfl, l5, m5, I5⟩ := open_nums (hval 5 36 v5 rfl rfl) h5
  unfold maxLen at m5
  obtain ⟨q6, xs6, c6, rfl, l6, m6, I6⟩ := open_nums (hval 6 36 v6 rfl rfl) h6
  unfold maxLen at m6
  refine (mvs_walk x0 y0 x1 y1 x2 y2 x3 y3 x4 y4 q5 q6 xs5 xs6 c5 c6 W l5 l6 (by omega) (by omega) (Lib.hid I5) (Lib.hid I6)).mono fun e W' ⟨he, hb⟩ => ?_
  subst he
  exact ⟨_, rfl, law_post rfl (by kernel_rfl) (by rw [Try.params7]; intro t ht; (have ht' : t ∈ [23, 23, 23, 23, 23, 36, 36] := ht); simp only [List.mem_cons, List.not_mem_nil, or_false] at ht'; (rcases ht' with rfl | rfl | rfl | rfl | rfl | rfl | rfl <;> exact ⟨by kernel_rfl, of_decide_eq_true (by kernel_rfl)⟩)) hW' rfl hb⟩

theorem segMoves_holds : Rows.SegMovesSaid :=
  OpenClaim.holds_of_wide 7 Try.f7 rfl rfl rfl rfl rfl rfl rfl ⟨rfl, rfl, rfl, rfl, rfl⟩ rfl rfl rfl rfl rfl (by kernel_rfl) Try.func7 (by kernel_rfl)
    (of_decide_eq_true (by kernel_rfl)) (by unfold Func.isWrapper; rw [if_neg (of_decide_eq_false (by kernel_rfl))]; exact ⟨rfl, rfl⟩)
    (fun os started H enc _ => segMoves_lifted os started H enc)
end Go.Proofs.Ytabeajgfgbfdeaa
