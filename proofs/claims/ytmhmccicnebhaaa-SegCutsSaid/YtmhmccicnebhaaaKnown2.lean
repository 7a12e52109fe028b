/- The chapter's example of layer 2. -/
import Derived.Test.YtmhmccicnebhaaaCuts
import Derived.Test.YtmhmccicnebhaaaCutSym
namespace Go.Proofs.Ytmhmccicnebhaaa
open Go.RowKit

theorem ex_raw : rawL (0, 0) (5, 3) [2, 4] [1] = [(2, 1), (4, 2), (2, 1)] := by decide
theorem ex_is : IsCuts (0, 0) (5, 3) [2, 4] [1] [(2, 1), (4, 2)] := by
  refine ⟨by decide, fun p => ?_⟩
  rw [ex_raw]
  simp only [List.mem_cons, List.not_mem_nil, or_false]
  constructor
  · rintro (h | h)
    · exact .inl h
    · exact .inr (.inl h)
  · rintro (h | h | h)
    · exact .inl h
    · exact .inr h
    · exact .inl h
theorem ex_cuts {L : List (Int × Int)} (h : CutsV (0, 0) (5, 3) [2, 4] [1] L) : L = [(2, 1), (4, 2)] := cuts_same (h.yes (by decide)) ex_is
theorem ex1 : clsV 0 0 4 4 0 4 4 0 = 3 ∧ errV 0 0 4 4 0 4 4 0 = 0 := by decide
theorem ex2 : clsV 0 0 4 0 2 0 2 3 = 2 ∧ errV 0 0 4 0 2 0 2 3 = 0 := by decide

set_option maxHeartbeats 1000000 in
theorem known2_yes (w : World) : Calls Try.prog 18 #[] w fun e w' => e = .returned (.bool true) ∧ Below w.heap.size w w' := by
  go_enter Try.func18, Try.ntmps18
  go_wp2_with fail
  refine (class_any _ _ _ _ _ _ _ _ _).mono ?_
  rintro e w1 ⟨rfl, hb1⟩
  rw [ex1.1, ex1.2]
  go_wp2_with fail
  refine (class_any _ _ _ _ _ _ _ _ _).mono ?_
  rintro e w2 ⟨rfl, hb2⟩
  rw [ex2.1, ex2.2]
  have hB2 := hb1.trans (hb2.mono hb1.size)
  clear hb1 hb2
  go_wp2_with fail
  refine (cuts_any 0 0 5 3 (some ⟨w2.heap.size, 0, none⟩) (some ⟨w2.heap.size + 1, 0, none⟩) [2, 4] [1] 2 1 _ (by decide) (by decide) (Lib.hid ?k1) (Lib.hid ?k2)).mono ?_
  case k1 =>
    intro i hi
    match i, hi with
    | 0, _ => exact ⟨_, _, rfl, by go_simp⟩
    | 1, _ => exact ⟨_, _, rfl, by go_simp⟩
  case k2 =>
    intro i hi
    match i, hi with
    | 0, _ => exact ⟨_, _, rfl, by go_simp⟩
  rintro e w3 ⟨v, L, rfl, hC, hown, hb3⟩
  obtain rfl := ex_cuts hC
  obtain ⟨p, cap, rfl, hcap, hr⟩ := own_row hown
  obtain ⟨g, rfl, _, _, c0, c1⟩ := hr 0 (by decide)
  obtain ⟨g', hg, _, _, c2, c3⟩ := hr 1 (by decide)
  obtain rfl : g = g' := by injection hg with hg; injection hg
  have HB : Hid (Below w.heap.size w w3) := Lib.hid ((hB2.trans ((b2 w2 _ _).mono hB2.size)).trans (hb3.mono (by have := hB2.size; simp; omega)))
  simp at c0 c1 c2 c3
  clear hr hown hC hb3 hB2 hg
  go_wp2
  go_ret
  exact ⟨rfl, HB.out⟩
end Go.Proofs.Ytmhmccicnebhaaa
