/- The box of any points holds all of them, and touches them on all four sides (P1.2): ExactBoxes returns true at every input.
   Conditions: none. -/
import Derived.Test.YtoojifpgdmhmcaaRow
import Derived.Test.YtoojifpgdmhmcaaBoxesLaw
import Derived.Deep.Slices
namespace Go.Proofs.Ytoojifpgdmhmcaa
open Go.ChangeShapes Go.WideShapes Go.ChangeAt Go.RowKit Go.Joins Go.Deep

theorem add_pt (b off n : Nat) : Addr.add ⟨b, off, none⟩ n = ⟨b, off + n, none⟩ := by
  unfold Addr.add
  split
  · rename_i h; subst h; rfl
  · rfl
theorem spot_none {W : World} {a : Addr} {v : Value} (h : W.cell? a = some v) : a = ⟨a.block, a.off, none⟩ := by
  obtain ⟨b, o, s⟩ := a
  have hs : s = none := by simpa using World.cell?_spot h
  rw [hs]

/-- Points that came in, in a slice. -/
theorem open_pts {H : Type} {enc : TypeId × Value → H} {W : World} {base b0 : Nat} {spare : Nat → Bool} {held : Bool} {r : Reach} {v : Value} {d : DataW H} {p : List MemPlace}
    (hv : Value.okWide Try.prog W r b0 40 v) (h : DataW.Trod enc Try.prog W base spare held 40 v d p) :
    v = .slice none 0 0 ∨ ∃ a len cap, v = .slice (some a) len cap ∧ len ≤ cap ∧ cap ≤ maxLen ∧ (0 < len → ∃ (b off : Nat) (f g : Nat → Int), a = ⟨b, off, none⟩ ∧ Sl W b off len f g) := by
  obtain ⟨a0, len, cap, rfl⟩ := okWide_slice Try.underlying40 hv
  obtain ⟨fuel, hf⟩ := h
  rcases open_slice Try.underlying40 hf with ⟨hcs, _⟩ | ⟨a, len', cap', m, n, D, Pl, hcs, _, hl, hm, hmm, _, hi⟩
  · left
    simpa [Value.cells] using hcs
  · right
    simp [Value.cells] at hcs
    obtain ⟨rfl, rfl, rfl⟩ := hcs
    refine ⟨a, len, cap, rfl, hl, hm, fun h0 => ?_⟩
    have hml : len ≤ m := by rw [hmm]; split <;> omega
    rw [Try.cells23] at hi
    have each : ∀ i, i < len → ∃ x y : Int, W.cell? (a.add (i * 2)) = some (.int .i64 x) ∧ W.cell? ((a.add (i * 2)).add 1) = some (.int .i64 y) := by
      intro i hlt
      obtain ⟨cs', hc, ht⟩ := hi i (by omega)
      obtain ⟨_, hlen, hat⟩ := World.cells?_some hc
      obtain ⟨y0, y1, n', _, _, t0, t1⟩ := trod_struct2 Try.underlying23 ht
      match cs', hlen with
      | [e0, e1], _ =>
        have k0 := hat 0 (by omega)
        have k1 := hat 1 (by omega)
        obtain ⟨x, ex, _, _⟩ := DataW.trod_int Try.underlying3 t0
        obtain ⟨y, ey, _, _⟩ := DataW.trod_int Try.underlying3 t1
        have ex' : e0 = .int .i64 x := by simpa [show Try.prog.cellsOf 3 = 1 from by kernel_rfl] using ex
        have ey' : e1 = .int .i64 y := by simpa [show Try.prog.cellsOf 3 = 1 from by kernel_rfl] using ey
        refine ⟨x, y, ?_, ?_⟩
        · have : (a.add (i * 2)).add 0 = a.add (i * 2) := by simp [Addr.add]
          rw [this] at k0
          rw [k0, ex']; rfl
        · rw [k1, ey']; rfl
    obtain ⟨x0, _, hx0, _⟩ := each 0 h0
    have hxa : W.cell? a = some (.int .i64 x0) := by simpa [Addr.add] using hx0
    have ha := spot_none hxa
    have hbl := World.block_lt_of_cell? W a hxa
    have each' : ∀ i, i < len → ∃ x y : Int, W.cell? ⟨a.block, a.off + i * 2, none⟩ = some (.int .i64 x) ∧ W.cell? ⟨a.block, a.off + i * 2 + 1, none⟩ = some (.int .i64 y) := by
      intro i hlt
      obtain ⟨x, y, h1, h2⟩ := each i hlt
      rw [ha] at h1 h2
      rw [add_pt] at h1
      rw [add_pt, add_pt] at h2
      exact ⟨x, y, h1, h2⟩
    refine ⟨a.block, a.off, fun i => if h : i < len then (each' i h).choose else 0, fun i => if h : i < len then (each' i h).choose_spec.choose else 0, ha, hbl, fun i hlt => ?_⟩
    have hs := (each' i hlt).choose_spec.choose_spec
    simp only [dif_pos hlt]
    exact hs

set_option maxRecDepth 100000 in
theorem exactBoxes_lifted (os : Os) (started : os.Started) (H : Type) (enc : TypeId × Value → H) :
    ReturnsInHanded {} Try.checked os 5 .any (Rows.exactBoxesSpec.pre6 enc Try.prog Try.f5 Rows.exactBoxesRow.domain false) (Rows.exactBoxesSpec.post enc Try.prog Try.f5 false true false false) := by
  refine returnsInHanded_of_change (C := Try.checked) Try.own started (by kernel_rfl) Try.func5
    (ChangeSpec.witness6 (enc := enc) (C := Try.checked) false ⟨#[], #[.slice none 0 0], []⟩ 8 (by kernel_rfl) (by kernel_rfl) (by kernel_rfl) (by kernel_rfl)) ?_
  intro W base args ds gs before hval0 hW _ _
  have hval : ∀ (j : Nat) t v, Try.f5.params[j]? = some t → args[j]? = some v → Value.okWide Try.prog W .any base t v := hval0
  have hW' := hW
  obtain ⟨p, q, hA0, hV, rfl, _, _⟩ := hW
  have hA : DataW.TrodAll enc Try.prog W 0 (fun _ => true) true Try.f5.params.toList args.toList ds p := hA0
  rw [Try.params5] at hA hval
  obtain ⟨v0, d0, rfl, rfl, h0⟩ := trodAll_one hA
  have key : Calls Try.prog 5 #[v0] W fun e w' => e = .returned (.bool true) ∧ Below W.heap.size W w' := by
    rcases open_pts (hval 0 40 v0 rfl rfl) h0 with rfl | ⟨a, len, cap, rfl, hl, hm, hs⟩
    · exact boxes_nil W
    · rcases Nat.eq_zero_or_pos len with rfl | hpos
      · exact boxes_zero a cap W
      · obtain ⟨b, off, f, g, rfl, hS⟩ := hs hpos
        exact boxes_some b off len cap _ f g W hl (by unfold maxLen at hm; omega) hpos (Lib.hid hS) (Lib.hid rfl)
  refine key.mono fun e W' ⟨he, hb⟩ => ?_
  subst he
  exact ⟨_, rfl, law_post rfl (by kernel_rfl) (by rw [Try.params5]; intro t ht; simp at ht; subst ht; exact ⟨by kernel_rfl, of_decide_eq_true (by kernel_rfl)⟩) hW' rfl hb⟩

theorem exactBoxes_holds : Rows.ExactBoxesSaid :=
  OpenClaim.holds_of_wide 5 Try.f5 rfl rfl rfl rfl rfl rfl rfl ⟨rfl, rfl, rfl, rfl, rfl⟩ rfl rfl rfl rfl rfl (by kernel_rfl) Try.func5 (by kernel_rfl)
    (of_decide_eq_true (by kernel_rfl)) (by unfold Func.isWrapper; rw [if_neg (of_decide_eq_false (by kernel_rfl))]; exact ⟨rfl, rfl⟩)
    (fun os started H enc _ => exactBoxes_lifted os started H enc)
end Go.Proofs.Ytoojifpgdmhmcaa
