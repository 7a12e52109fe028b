/- Layer 6: the chapter's example. -/
import Derived.Test.YtenfaejdnphngaaRowsPr
namespace Go.Proofs.Ytenfaejdnphngaa
open Go.RowKit

def kL : List B4 := [(0, 0, 2, 2), (2, 2, 3, 3), (5, 0, 6, 1)]
theorem kL_pairs : mpairs kL kL.length = [(0, 1)] := by decide
theorem kL_at (i : Nat) : (i < kL.length ∧ metB (2, 2, 2, 2) (bxA kL i) = true) ↔ i = 0 ∨ i = 1 := by
  match i with
  | 0 => exact ⟨fun _ => .inl rfl, fun _ => by decide⟩
  | 1 => exact ⟨fun _ => .inr rfl, fun _ => by decide⟩
  | 2 => exact ⟨fun h => absurd h.2 (by decide), fun h => by omega⟩
  | i + 3 => exact ⟨fun h => absurd h.1 (by simp [kL]), fun h => by omega⟩
/-- What the example asks of New, Pairs, At and Len. -/
theorem known6_new {W : World} {g : Nat} (hrow : BxRow W g kL) (hg : g < W.heap.size) :
    Calls Try.prog 19 #[.slice (some ⟨g, 0, none⟩) 3 3] W (fun e w' => ∃ xb B R, e = .returned (.pointer (some ⟨xb, 0, none⟩)) ∧ IxL w' B xb R kL ∧ B ≤ w'.heap.size ∧ Below W.heap.size W w') := by
  refine (new_any (cap := 3) kL (by decide) hrow hg).mono ?_
  rintro e w' ⟨xb, R, h1, h2, h3, h4⟩
  exact ⟨xb, _, R, h1, h3, h4.size, h4⟩
theorem known6_pairs {V : World} {B xb : Nat} {R : Nat → Rl} (h : IxL V B xb R kL) (hB : B ≤ V.heap.size) (X : World) (hX : Below V.heap.size V X) :
    Calls Try.prog 22 #[.pointer (some ⟨xb, 0, none⟩)] X (fun e w' => ∃ g c, e = .returned (.slice (some ⟨g, 0, none⟩) 1 c) ∧ (w'.cell? ⟨g, 0, none⟩ = some (.int .i64 0) ∧ w'.cell? ⟨g, 1, none⟩ = some (.int .i64 1)) ∧ Below X.heap.size X w') := by
  have h2 := h.keep hX (ExtR.refl _ _) hB
  refine (pairs_any h2 (meets_few h2 (by decide)) (Nat.le_trans hB hX.size) (by decide)).mono ?_
  rintro e w' ⟨u, h3, h4, h5⟩
  rw [kL_pairs] at h4
  rcases id h4.2 with ⟨_, hz⟩ | ⟨g, c, cur, e1, _⟩
  · cases hz
  · subst e1
    exact ⟨g, c, h3, ⟨h4.cellAt 0 (by decide), h4.cellAt 1 (by decide)⟩, h5⟩
theorem known6_at {V : World} {B xb : Nat} {R : Nat → Rl} (h : IxL V B xb R kL) (hB : B ≤ V.heap.size) (X : World) (hX : Below V.heap.size V X) :
    Calls Try.prog 27 #[.pointer (some ⟨xb, 0, none⟩), .agg #[.int .i64 2, .int .i64 2]] X (fun e w' => ∃ q c, e = .returned (.slice q 2 c) ∧ Below X.heap.size X w') := by
  have h2 := h.keep hX (ExtR.refl _ _) hB
  refine (at_few h2 (Nat.le_trans hB hX.size) (by decide) 2 2 (by decide)).mono ?_
  rintro e w' ⟨u, Y, M, h3, h4, h5, h6, h7⟩
  have hY : Y = [0, 1] := by
    refine rise_uniq h4.1 (by decide) (fun y => ?_)
    rw [h4.2 y, List.mem_map]
    constructor
    · rintro ⟨i, hi, rfl⟩
      rcases (kL_at i).1 ((h5 i).1 hi) with rfl | rfl <;> simp
    · intro hy
      simp only [List.mem_cons, List.not_mem_nil, or_false] at hy
      rcases hy with rfl | rfl
      · exact ⟨0, (h5 0).2 ((kL_at 0).2 (.inl rfl)), rfl⟩
      · exact ⟨1, (h5 1).2 ((kL_at 1).2 (.inr rfl)), rfl⟩
  subst hY
  obtain ⟨q, c, e1, _, _⟩ := h6
  exact ⟨q, c, by rw [h3, e1]; rfl, h7⟩
theorem known6_len {V : World} {B xb : Nat} {R : Nat → Rl} (h : IxL V B xb R kL) (hB : B ≤ V.heap.size) (X : World) (hX : Below V.heap.size V X) :
    Calls Try.prog 21 #[.pointer (some ⟨xb, 0, none⟩)] X (fun e w' => e = .returned (.int .i64 3) ∧ w' = X) := len_ix (h.keep hX (ExtR.refl _ _) hB)
theorem kL_row (W : World) (T : TypeId) {g : Nat} (hg : g = W.heap.size) : BxRow (W.alloc (.cells #[.int .i64 0, .int .i64 0, .int .i64 2, .int .i64 2, .int .i64 2, .int .i64 2, .int .i64 3, .int .i64 3, .int .i64 5, .int .i64 0, .int .i64 6, .int .i64 1] T)) g kL := by
  subst hg
  intro i hi
  match i, hi with
  | 0, _ => exact ⟨(show World.cell? _ ⟨W.heap.size, 0, none⟩ = some (.int .i64 0) from by go_simp), (show World.cell? _ ⟨W.heap.size, 1, none⟩ = some (.int .i64 0) from by go_simp), (show World.cell? _ ⟨W.heap.size, 2, none⟩ = some (.int .i64 2) from by go_simp), (show World.cell? _ ⟨W.heap.size, 3, none⟩ = some (.int .i64 2) from by go_simp)⟩
  | 1, _ => exact ⟨(show World.cell? _ ⟨W.heap.size, 4, none⟩ = some (.int .i64 2) from by go_simp), (show World.cell? _ ⟨W.heap.size, 5, none⟩ = some (.int .i64 2) from by go_simp), (show World.cell? _ ⟨W.heap.size, 6, none⟩ = some (.int .i64 3) from by go_simp), (show World.cell? _ ⟨W.heap.size, 7, none⟩ = some (.int .i64 3) from by go_simp)⟩
  | 2, _ => exact ⟨(show World.cell? _ ⟨W.heap.size, 8, none⟩ = some (.int .i64 5) from by go_simp), (show World.cell? _ ⟨W.heap.size, 9, none⟩ = some (.int .i64 0) from by go_simp), (show World.cell? _ ⟨W.heap.size, 10, none⟩ = some (.int .i64 6) from by go_simp), (show World.cell? _ ⟨W.heap.size, 11, none⟩ = some (.int .i64 1) from by go_simp)⟩
set_option maxRecDepth 100000 in
set_option maxHeartbeats 4000000 in
theorem known6_yes (w : World) : Calls Try.prog 14 #[] w fun e w' => e = .returned (.bool true) ∧ Below w.heap.size w w' := by
  have hmx : Try.prog.follows .mixedOrders = true := by kernel_rfl
  go_enter Try.func14, Try.ntmps14
  go_upto_region 3 with (go_at_call 19; refine (known6_new (kL_row _ _ (by simp)) (by simp)).mono ?_; rintro e w1 ⟨xb, B, R, rfl, hix, hB, hb1⟩; have HX := Lib.hid hix; have HB1 := Lib.hid hb1; have hp2 := cell_later hb1 (v := .int .i64 2) (a := ⟨w.heap.size, 2, none⟩) (by go_simp); have hp3 := cell_later hb1 (v := .int .i64 2) (a := ⟨w.heap.size, 3, none⟩) (by go_simp); have HBW : Hid (Below w.heap.size w w1) := Lib.hid (below_after (below_after (below_alloc _ _) (below_alloc _ _)) hb1); clear hix hb1)
  clear HB1
  obtain ⟨V, rfl⟩ : ∃ V, V = w1 := ⟨_, rfl⟩
  have HPs := Lib.hid (known6_pairs HX.out hB)
  have HAt := Lib.hid (known6_at HX.out hB)
  have HLn := Lib.hid (known6_len HX.out hB)
  clear HX hB
  have HSt : Hid ((fun X : World => Below V.heap.size V X ∧ X.cell? ⟨w.heap.size, 2, none⟩ = some (.int .i64 2) ∧ X.cell? ⟨w.heap.size, 3, none⟩ = some (.int .i64 2)) V.drew) := Lib.hid ⟨below_drewW V, hp2, hp3⟩
  clear hp2 hp3
  refine wp_region_held_drew (S := (fun X : World => Below V.heap.size V X ∧ X.cell? ⟨w.heap.size, 2, none⟩ = some (.int .i64 2) ∧ X.cell? ⟨w.heap.size, 3, none⟩ = some (.int .i64 2))) (by kernel_rfl) HSt.out (fun hHeld => ?_)
  refine wpAnyH_take (i := 0) (oi := { dst := some 29, op := Op.move (Operand.tmp 2), type := 44, pos := "law.go:17", after := #[], guard := none }) (v := ?_) rfl (by kernel_rfl) (by kernel_rfl) (by kernel_rfl) (fun _ _ _ h => h) (Or.inl ⟨by rfl, ?_⟩) (by with_reducible assumption) ?_
  rotate_left
  focus (intro wS hSw; (try dsimp only at hSw); go_simp <;> with_reducible rfl)
  try go_frame
  refine wpAnyH_take (i := 2) (oi := { dst := some 31, op := Op.move (Operand.tmp 2), type := 44, pos := "law.go:17", after := #[], guard := none }) (v := ?_) rfl (by kernel_rfl) (by kernel_rfl) (by kernel_rfl) (fun _ _ _ h => h) (Or.inl ⟨by rfl, ?_⟩) (by with_reducible assumption) ?_
  rotate_left
  focus (intro wS hSw; (try dsimp only at hSw); go_simp <;> with_reducible rfl)
  try go_frame
  refine wpAnyH_take (i := 3) (oi := { dst := some 32, op := Op.indexAddr 84 (Operand.tmp 1) (Operand.const (Value.int IntKind.i64 1)), type := 0, pos := "law.go:17", after := #[], guard := none }) (v := ?_) rfl (by kernel_rfl) (by kernel_rfl) (by kernel_rfl) (fun _ _ _ h => h) (Or.inl ⟨by rfl, ?_⟩) (by with_reducible assumption) ?_
  rotate_left
  focus (intro wS hSw; (try dsimp only at hSw); go_simp <;> with_reducible rfl)
  try go_frame
  -- load
  refine wpAnyH_take (i := 4) (oi := { dst := some 33, op := Op.load 23 (Operand.tmp 32), type := 23, pos := "law.go:17", after := #[{ on := 3, ground := Ground.data }], guard := none }) (v := ?_) rfl (by kernel_rfl) (by kernel_rfl) (by kernel_rfl) (fun _ _ _ h => h) (Or.inl ⟨by rfl, ?_⟩) (by with_reducible assumption) ?_
  rotate_left
  focus (intro wS hSw; (try dsimp only at hSw); go_simp <;> with_reducible rfl)
  try go_frame
  refine wpAnyH_ready (rs := [1]) (by kernel_rfl) (by simp) ?_
  refine AllReadyH.cons (i := 1) (o := { dst := some 30, op := Op.call { callee := Callee.value (Operand.func 22), args := #[Operand.tmp 29], argTypes := #[44] }, type := 49, pos := "law.go:17", after := #[{ on := 0, ground := Ground.data }], guard := none }) rfl (fun K hK => ?_) AllReadyH.nil
  go_simp
  go_at_call 22
  refine (HPs.out _ HSt.out.1).mono ?_
  rintro e w2 ⟨pg, pc, rfl, hpp, hb2⟩
  have HPp := Lib.hid hpp
  have HB2 := Lib.hid hb2
  refine hK.out _ _ ⟨below_after HSt.out.1 hb2, cell_later hb2 HSt.out.2.1, cell_later hb2 HSt.out.2.2⟩ (fun hHeld => ?_)
  clear hK K
  try go_frame
  clear hb2 hpp
  refine wpAnyH_ready (rs := [5]) (by kernel_rfl) (by simp) ?_
  refine AllReadyH.cons (i := 5) (o := { dst := some 34, op := Op.call { callee := Callee.value (Operand.func 27), args := #[Operand.tmp 31, Operand.tmp 33], argTypes := #[44, 23] }, type := 48, pos := "law.go:17", after := #[{ on := 2, ground := Ground.data }, { on := 4, ground := Ground.data }, { on := 1, ground := Ground.chain }], guard := none }) rfl (fun K hK => ?_) AllReadyH.nil
  go_simp
  go_at_call 27
  refine (HAt.out _ (below_after HSt.out.1 HB2.out)).mono ?_
  rintro e w3 ⟨aq, ac, rfl, hb3⟩
  have HB3 := Lib.hid hb3
  have p0 := cell_later hb3 HPp.out.1
  have p1 := cell_later hb3 HPp.out.2
  refine hK.out _ _ ⟨below_after (below_after HSt.out.1 HB2.out) hb3, cell_later hb3 (cell_later HB2.out HSt.out.2.1), cell_later hb3 (cell_later HB2.out HSt.out.2.2)⟩ (fun hHeld => ?_)
  clear hK K
  try go_frame
  clear hb3
  refine wpAnyH_take (i := 6) (oi := { dst := some 3, op := Op.assign (Operand.tmp 30), type := 49, pos := "law.go:17", after := #[{ on := 1, ground := Ground.data }, { on := 5, ground := Ground.chain }, { on := 0, ground := Ground.phase }, { on := 1, ground := Ground.phase }, { on := 2, ground := Ground.textOnly Departure.lateStores }, { on := 3, ground := Ground.textOnly Departure.lateStores }, { on := 4, ground := Ground.textOnly Departure.lateStores }, { on := 5, ground := Ground.textOnly Departure.lateStoresUnsure }], guard := none }) (v := ?_) rfl (by kernel_rfl) (by kernel_rfl) (by kernel_rfl) (fun _ _ _ h => h) (Or.inl ⟨by rfl, ?_⟩) (by with_reducible assumption) ?_
  rotate_left
  focus (intro wS hSw; (try dsimp only at hSw); go_simp <;> with_reducible rfl)
  try go_frame
  refine wpAnyH_take (i := 7) (oi := { dst := some 4, op := Op.assign (Operand.tmp 34), type := 48, pos := "law.go:17", after := #[{ on := 5, ground := Ground.data }, { on := 6, ground := Ground.chain }, { on := 0, ground := Ground.phase }, { on := 1, ground := Ground.phase }, { on := 2, ground := Ground.phase }, { on := 3, ground := Ground.phase }, { on := 4, ground := Ground.phase }, { on := 5, ground := Ground.phase }, { on := 6, ground := Ground.phase }], guard := none }) (v := ?_) rfl (by kernel_rfl) (by kernel_rfl) (by kernel_rfl) (fun _ _ _ h => h) (Or.inl ⟨by rfl, ?_⟩) (by with_reducible assumption) ?_
  rotate_left
  focus (intro wS hSw; (try dsimp only at hSw); go_simp <;> with_reducible rfl)
  try go_frame
  refine wpAnyH_done (by kernel_rfl) ?_ _
  have HBf : Hid (Below w.heap.size w w3) := Lib.hid (below_after (below_after HBW.out (below_after HSt.out.1 HB2.out)) HB3.out)
  have HLn3 := Lib.hid (HLn.out w3 (below_after (below_after HSt.out.1 HB2.out) HB3.out))
  clear HB2 HB3 HPp HSt HPs HAt HBW HLn
  have heq : ∀ W, Sem.run Try.prog (Op.equalIn 10000 52 (.agg #[.int .i64 0, .int .i64 1]) (.agg #[.int .i64 0, .int .i64 1])) W = .ok true W := fun W => equal_A (a := (0, 1)) (b := (0, 1)) Try.underlying52 W
  go_wp2_with (go_at_call 21; refine HLn3.out.mono ?_; rintro e w4 ⟨rfl, rfl⟩)
  go_ret
  exact ⟨by simp, HBf.out⟩
end Go.Proofs.Ytenfaejdnphngaa
