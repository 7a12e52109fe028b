/- Walks of the index: sparse. -/
import Derived.Test.YtenfaejdnphngaaRowsG
namespace Go.Proofs.Ytenfaejdnphngaa
open Go.RowKit

theorem div_mono {x y p : Int} (h : x ≤ y) (hp : 0 < p) : x / p ≤ y / p := Int.ediv_le_ediv hp h
/-- What the fields of a right box are, whatever their size. -/
theorem fld_in {b : B4} (h : rgtB b = true) (s : I2) : ∀ l m : I2, l = fld s (b.1, b.2.1) → m = fld s (b.2.2.1, b.2.2.2) → -1073741824 ≤ l.1 ∧ l.1 ≤ m.1 ∧ m.1 ≤ 1073741824 ∧ -1073741824 ≤ l.2 ∧ l.2 ≤ m.2 ∧ m.2 ≤ 1073741824 := by
  rintro l m rfl rfl
  have hr := rgt_in h
  have p1 : (0 : Int) < 2 ^ s.1.toNat := Int.pow_pos (by omega)
  have p2 : (0 : Int) < 2 ^ s.2.toNat := Int.pow_pos (by omega)
  have d1 := div_in (x := b.1) (by omega) p1
  have d2 := div_in (x := b.2.2.1) (by omega) p1
  have d3 := div_in (x := b.2.1) (by omega) p2
  have d4 := div_in (x := b.2.2.2) (by omega) p2
  exact ⟨d1.1, div_mono (by omega) p1, d2.2, d3.1, div_mono (by omega) p2, d4.2⟩
theorem mulF_in {a b : Int} (h1 : 1 ≤ a) (h2 : a ≤ 2147483649) (h3 : 1 ≤ b) (h4 : b ≤ 2147483649) : 1 ≤ a * b ∧ a * b ≤ 4611686022722355201 := by
  have e1 : 1 * 1 ≤ a * b := Int.mul_le_mul h1 h3 (by omega) (by omega)
  have e2 : a * b ≤ 2147483649 * 2147483649 := Int.mul_le_mul h2 h4 (by omega) (by omega)
  omega
def SpPost (w : World) (n : Nat) (en : Ending) (w' : World) : Prop := ∃ r : Bool, en = .returned (.bool r) ∧ (n < 16 → r = true) ∧ Below w.heap.size w w'
set_option maxRecDepth 100000 in
set_option maxHeartbeats 4000000 in
theorem sparse_any {w : World} {gb n c : Nat} {p : Option Addr} (s : I2) (b : B4) (hb : rgtB b = true) (h1 : 0 ≤ s.1) (h2 : 0 ≤ s.2) (h3 : s.1 ≤ 60) (h4 : s.2 ≤ 60) (hn : n ≤ 1000) (d0 : w.cell? ⟨gb, 0, none⟩ = some (.int .i64 s.1)) (d1 : w.cell? ⟨gb, 1, none⟩ = some (.int .i64 s.2)) (d2 : w.cell? ⟨gb, 2, none⟩ = some (.slice p n c)) :
    Calls Try.prog 66 #[.pointer (some ⟨gb, 0, none⟩), encB b] w (SpPost w n) := by
  have hmx : Try.prog.follows .mixedOrders = true := by kernel_rfl
  have HF1 := Lib.hid (fun W => field_any s (b.1, b.2.1) h1 h2 h3 h4 W)
  have HF2 := Lib.hid (fun W => field_any s (b.2.2.1, b.2.2.2) h1 h2 h3 h4 W)
  have HFin : Hid (∀ en w', (∃ r : Bool, en = .returned (.bool r) ∧ (n < 16 → r = true) ∧ Below w.heap.size w w') → SpPost w n en w') := Lib.hid (fun _ _ h => h)
  generalize SpPost w n = TP at *
  have hfi := fld_in hb s
  generalize fld s (b.1, b.2.1) = l at *
  generalize fld s (b.2.2.1, b.2.2.2) = m at *
  have HFI := Lib.hid (hfi l m rfl rfl)
  clear hfi hb
  obtain ⟨l1, l2⟩ := l
  obtain ⟨m1, m2⟩ := m
  obtain ⟨x, y, u, v⟩ := b
  obtain ⟨s1, s2⟩ := s
  clear h1 h2 h3 h4
  have HN := Lib.hid (bx_new w (x, y, u, v) 25)
  have HB0 : Hid (Below w.heap.size w (w.alloc (.cells #[.int .i64 x, .int .i64 y, .int .i64 u, .int .i64 v] 25))) := Lib.hid (below_alloc _ _)
  have s0 := cell_later HB0.out d0
  have s1' := cell_later HB0.out d1
  have HD2 := Lib.hid (cell_later HB0.out d2)
  clear d0 d1 d2
  unfold encB enc2 at *
  simp only at HF1 HF2 HFI s0 s1'
  go_enter Try.func66, Try.ntmps66
  go_upto_region 1 with fail
  generalize w.alloc (.cells #[.int .i64 x, .int .i64 y, .int .i64 u, .int .i64 v] 25) = V at *
  obtain ⟨c0, c1, c2, c3⟩ := HN.out
  simp only [Nat.zero_add] at c0 c1 c2 c3
  have H6 : Hid (∀ W : World, Below V.heap.size V W → W.cell? ⟨gb, 0, none⟩ = some (.int .i64 s1) ∧ W.cell? ⟨gb, 1, none⟩ = some (.int .i64 s2) ∧ W.cell? ⟨w.heap.size, 0, none⟩ = some (.int .i64 x) ∧ W.cell? ⟨w.heap.size, 1, none⟩ = some (.int .i64 y) ∧ W.cell? ⟨w.heap.size, 2, none⟩ = some (.int .i64 u) ∧ W.cell? ⟨w.heap.size, 3, none⟩ = some (.int .i64 v) ∧ Below V.heap.size V W) := Lib.hid (fun W h => ⟨cell_later h s0, cell_later h s1', cell_later h c0, cell_later h c1, cell_later h c2, cell_later h c3, h⟩)
  have H6n : Hid (∀ W W1 : World, (W.cell? ⟨gb, 0, none⟩ = some (.int .i64 s1) ∧ W.cell? ⟨gb, 1, none⟩ = some (.int .i64 s2) ∧ W.cell? ⟨w.heap.size, 0, none⟩ = some (.int .i64 x) ∧ W.cell? ⟨w.heap.size, 1, none⟩ = some (.int .i64 y) ∧ W.cell? ⟨w.heap.size, 2, none⟩ = some (.int .i64 u) ∧ W.cell? ⟨w.heap.size, 3, none⟩ = some (.int .i64 v) ∧ Below V.heap.size V W) → Below W.heap.size W W1 → W1.cell? ⟨gb, 0, none⟩ = some (.int .i64 s1) ∧ W1.cell? ⟨gb, 1, none⟩ = some (.int .i64 s2) ∧ W1.cell? ⟨w.heap.size, 0, none⟩ = some (.int .i64 x) ∧ W1.cell? ⟨w.heap.size, 1, none⟩ = some (.int .i64 y) ∧ W1.cell? ⟨w.heap.size, 2, none⟩ = some (.int .i64 u) ∧ W1.cell? ⟨w.heap.size, 3, none⟩ = some (.int .i64 v) ∧ Below V.heap.size V W1) := Lib.hid (fun W W1 h k => H6.out W1 (below_after h.2.2.2.2.2.2 k))
  have H6c : Hid (∀ (W : World) (k : Nat) (p q : Int), (W.cell? ⟨gb, 0, none⟩ = some (.int .i64 s1) ∧ W.cell? ⟨gb, 1, none⟩ = some (.int .i64 s2) ∧ W.cell? ⟨w.heap.size, 0, none⟩ = some (.int .i64 x) ∧ W.cell? ⟨w.heap.size, 1, none⟩ = some (.int .i64 y) ∧ W.cell? ⟨w.heap.size, 2, none⟩ = some (.int .i64 u) ∧ W.cell? ⟨w.heap.size, 3, none⟩ = some (.int .i64 v) ∧ Below V.heap.size V W) → V.heap.size ≤ k → (Put W k p q).cell? ⟨gb, 0, none⟩ = some (.int .i64 s1) ∧ (Put W k p q).cell? ⟨gb, 1, none⟩ = some (.int .i64 s2) ∧ (Put W k p q).cell? ⟨w.heap.size, 0, none⟩ = some (.int .i64 x) ∧ (Put W k p q).cell? ⟨w.heap.size, 1, none⟩ = some (.int .i64 y) ∧ (Put W k p q).cell? ⟨w.heap.size, 2, none⟩ = some (.int .i64 u) ∧ (Put W k p q).cell? ⟨w.heap.size, 3, none⟩ = some (.int .i64 v) ∧ Below V.heap.size V (Put W k p q)) := Lib.hid (fun W k p q h hk => H6.out _ (Put.below p q h.2.2.2.2.2.2 hk))
  have hD := H6.out _ ((Below.refl V.heap.size V).drew)
  have hU0 : V.heap.size ≤ V.drew.heap.size := Nat.le_refl _
  clear c0 c1 c2 c3 s0 s1' HN
  go_cut [5, 6] (fun l h W => ∃ kl kh, l = .pointer (some ⟨kl, 0, none⟩) ∧ h = .pointer (some ⟨kh, 0, none⟩) ∧ Hid (P2At W kl (l1, l2)) ∧ Hid (P2At W kh (m1, m2)) ∧ V.heap.size ≤ kl ∧ V.heap.size ≤ kh ∧ Hid (Below V.heap.size V W))
  case first =>
    refine wp_region_held_drew (S := (fun W : World => W.cell? ⟨gb, 0, none⟩ = some (.int .i64 s1) ∧ W.cell? ⟨gb, 1, none⟩ = some (.int .i64 s2) ∧ W.cell? ⟨w.heap.size, 0, none⟩ = some (.int .i64 x) ∧ W.cell? ⟨w.heap.size, 1, none⟩ = some (.int .i64 y) ∧ W.cell? ⟨w.heap.size, 2, none⟩ = some (.int .i64 u) ∧ W.cell? ⟨w.heap.size, 3, none⟩ = some (.int .i64 v) ∧ Below V.heap.size V W)) (by kernel_rfl) hD (fun hHeld => ?_)
    generalize hU0e : V.drew = U0 at *
    clear hU0e
    refine wpAnyH_take (i := 0) (oi := { dst := some 8, op := Op.move (Operand.tmp 0), type := 89, pos := "grid.go:75", after := #[], guard := none }) (v := ?_) rfl (by kernel_rfl) (by kernel_rfl) (by kernel_rfl) (fun _ _ _ h => h) (Or.inl ⟨by rfl, ?_⟩) (by with_reducible assumption) ?_
    rotate_left
    focus (intro wS hSw; (try dsimp only at hSw); go_simp <;> with_reducible rfl)
    try go_frame
    refine wpAnyH_take (i := 1) (oi := { dst := some 9, op := Op.nilCheck (Operand.tmp 8), type := 0, pos := "grid.go:75", after := #[{ on := 0, ground := Ground.data }], guard := none }) (v := ?_) rfl (by kernel_rfl) (by kernel_rfl) (by kernel_rfl) (fun _ _ _ h => h) (Or.inl ⟨by rfl, ?_⟩) (by with_reducible assumption) ?_
    rotate_left
    focus (intro wS hSw; (try dsimp only at hSw); go_simp <;> with_reducible rfl)
    try go_frame
    refine wpAnyH_take (i := 2) (oi := { dst := some 10, op := Op.fieldAddr 105 (Operand.tmp 9) 0, type := 0, pos := "grid.go:75", after := #[{ on := 1, ground := Ground.data }], guard := none }) (v := ?_) rfl (by kernel_rfl) (by kernel_rfl) (by kernel_rfl) (fun _ _ _ h => h) (Or.inl ⟨by rfl, ?_⟩) (by with_reducible assumption) ?_
    rotate_left
    focus (intro wS hSw; (try dsimp only at hSw); go_simp <;> with_reducible rfl)
    try go_frame
    refine wpAnyH_take (i := 3) (oi := { dst := some 11, op := Op.load 91 (Operand.tmp 10), type := 91, pos := "grid.go:75", after := #[{ on := 2, ground := Ground.data }], guard := none }) (v := ?_) rfl (by kernel_rfl) (by kernel_rfl) (by kernel_rfl) (fun _ _ _ h => h) (Or.inl ⟨by rfl, ?_⟩) (by with_reducible assumption) ?_
    rotate_left
    focus (intro wS hSw; (try dsimp only at hSw); go_simp <;> with_reducible rfl)
    try go_frame
    refine wpAnyH_take (i := 4) (oi := { dst := some 12, op := Op.fieldAddr 25 (Operand.tmp 3) 0, type := 0, pos := "grid.go:75", after := #[], guard := none }) (v := ?_) rfl (by kernel_rfl) (by kernel_rfl) (by kernel_rfl) (fun _ _ _ h => h) (Or.inl ⟨by rfl, ?_⟩) (by with_reducible assumption) ?_
    rotate_left
    focus (intro wS hSw; (try dsimp only at hSw); go_simp <;> with_reducible rfl)
    try go_frame
    refine wpAnyH_take (i := 5) (oi := { dst := some 13, op := Op.load 23 (Operand.tmp 12), type := 23, pos := "grid.go:75", after := #[{ on := 4, ground := Ground.data }], guard := none }) (v := ?_) rfl (by kernel_rfl) (by kernel_rfl) (by kernel_rfl) (fun _ _ _ h => h) (Or.inl ⟨by rfl, ?_⟩) (by with_reducible assumption) ?_
    rotate_left
    focus (intro wS hSw; (try dsimp only at hSw); go_simp <;> with_reducible rfl)
    try go_frame
    refine wpAnyH_take (i := 7) (oi := { dst := some 15, op := Op.move (Operand.tmp 0), type := 89, pos := "grid.go:75", after := #[], guard := none }) (v := ?_) rfl (by kernel_rfl) (by kernel_rfl) (by kernel_rfl) (fun _ _ _ h => h) (Or.inl ⟨by rfl, ?_⟩) (by with_reducible assumption) ?_
    rotate_left
    focus (intro wS hSw; (try dsimp only at hSw); go_simp <;> with_reducible rfl)
    try go_frame
    refine wpAnyH_take (i := 8) (oi := { dst := some 16, op := Op.nilCheck (Operand.tmp 15), type := 0, pos := "grid.go:75", after := #[{ on := 7, ground := Ground.data }], guard := none }) (v := ?_) rfl (by kernel_rfl) (by kernel_rfl) (by kernel_rfl) (fun _ _ _ h => h) (Or.inl ⟨by rfl, ?_⟩) (by with_reducible assumption) ?_
    rotate_left
    focus (intro wS hSw; (try dsimp only at hSw); go_simp <;> with_reducible rfl)
    try go_frame
    refine wpAnyH_take (i := 9) (oi := { dst := some 17, op := Op.fieldAddr 105 (Operand.tmp 16) 0, type := 0, pos := "grid.go:75", after := #[{ on := 8, ground := Ground.data }], guard := none }) (v := ?_) rfl (by kernel_rfl) (by kernel_rfl) (by kernel_rfl) (fun _ _ _ h => h) (Or.inl ⟨by rfl, ?_⟩) (by with_reducible assumption) ?_
    rotate_left
    focus (intro wS hSw; (try dsimp only at hSw); go_simp <;> with_reducible rfl)
    try go_frame
    refine wpAnyH_take (i := 10) (oi := { dst := some 18, op := Op.load 91 (Operand.tmp 17), type := 91, pos := "grid.go:75", after := #[{ on := 9, ground := Ground.data }], guard := none }) (v := ?_) rfl (by kernel_rfl) (by kernel_rfl) (by kernel_rfl) (fun _ _ _ h => h) (Or.inl ⟨by rfl, ?_⟩) (by with_reducible assumption) ?_
    rotate_left
    focus (intro wS hSw; (try dsimp only at hSw); go_simp <;> with_reducible rfl)
    try go_frame
    refine wpAnyH_take (i := 11) (oi := { dst := some 19, op := Op.fieldAddr 25 (Operand.tmp 3) 1, type := 0, pos := "grid.go:75", after := #[], guard := none }) (v := ?_) rfl (by kernel_rfl) (by kernel_rfl) (by kernel_rfl) (fun _ _ _ h => h) (Or.inl ⟨by rfl, ?_⟩) (by with_reducible assumption) ?_
    rotate_left
    focus (intro wS hSw; (try dsimp only at hSw); go_simp <;> with_reducible rfl)
    try go_frame
    refine wpAnyH_take (i := 12) (oi := { dst := some 20, op := Op.load 23 (Operand.tmp 19), type := 23, pos := "grid.go:75", after := #[{ on := 11, ground := Ground.data }], guard := none }) (v := ?_) rfl (by kernel_rfl) (by kernel_rfl) (by kernel_rfl) (fun _ _ _ h => h) (Or.inl ⟨by rfl, ?_⟩) (by with_reducible assumption) ?_
    rotate_left
    focus (intro wS hSw; (try dsimp only at hSw); go_simp <;> with_reducible rfl)
    try go_frame
    refine wpAnyH_ready (rs := [6, 14, 15]) (by kernel_rfl) (by simp) ?_
    refine AllReadyH.cons (i := 6) (o := { dst := some 14, op := Op.call { callee := Callee.value (Operand.func 68), args := #[Operand.tmp 11, Operand.tmp 13], argTypes := #[91, 23] }, type := 110, pos := "grid.go:75", after := #[{ on := 3, ground := Ground.data }, { on := 5, ground := Ground.data }], guard := none }) rfl (fun K hK => ?_) (AllReadyH.cons (i := 14) (o := { dst := some 5, op := Op.alloc 110, type := 0, pos := "grid.go:75", after := #[], guard := none }) rfl (fun K hK => ?_) (AllReadyH.cons (i := 15) (o := { dst := some 6, op := Op.alloc 110, type := 0, pos := "grid.go:75", after := #[], guard := none }) rfl (fun K hK => ?_) AllReadyH.nil))
    · go_simp
      go_at_call 68
      refine Calls.mono (HF1.out _) ?_
      rintro e x1 ⟨rfl, hb1⟩
      have hS1 := H6n.out _ _ (by with_reducible assumption) hb1
      have hU1 : V.heap.size ≤ x1.heap.size := Nat.le_trans (by first | assumption | omega | (simp; omega)) hb1.size
      refine hK.out _ _ (by with_reducible assumption) (fun hHeld => ?_)
      clear hK K
      try go_frame
      refine wpAnyH_ready (rs := [13, 14, 15]) (by kernel_rfl) (by simp) ?_
      refine AllReadyH.cons (i := 13) (o := { dst := some 21, op := Op.call { callee := Callee.value (Operand.func 68), args := #[Operand.tmp 18, Operand.tmp 20], argTypes := #[91, 23] }, type := 110, pos := "grid.go:75", after := #[{ on := 10, ground := Ground.data }, { on := 12, ground := Ground.data }, { on := 6, ground := Ground.chain }], guard := none }) rfl (fun K hK => ?_) (AllReadyH.cons (i := 14) (o := { dst := some 5, op := Op.alloc 110, type := 0, pos := "grid.go:75", after := #[], guard := none }) rfl (fun K hK => ?_) (AllReadyH.cons (i := 15) (o := { dst := some 6, op := Op.alloc 110, type := 0, pos := "grid.go:75", after := #[], guard := none }) rfl (fun K hK => ?_) AllReadyH.nil))
      · go_simp
        go_at_call 68
        refine Calls.mono (HF2.out _) ?_
        rintro e x2 ⟨rfl, hb2⟩
        have hS2 := H6n.out _ _ (by with_reducible assumption) hb2
        have hU2 : V.heap.size ≤ x2.heap.size := Nat.le_trans (by first | assumption | omega | (simp; omega)) hb2.size
        refine hK.out _ _ (by with_reducible assumption) (fun hHeld => ?_)
        clear hK K
        try go_frame
        refine wpAnyH_ready (rs := [14, 15]) (by kernel_rfl) (by simp) ?_
        refine AllReadyH.cons (i := 14) (o := { dst := some 5, op := Op.alloc 110, type := 0, pos := "grid.go:75", after := #[], guard := none }) rfl (fun K hK => ?_) (AllReadyH.cons (i := 15) (o := { dst := some 6, op := Op.alloc 110, type := 0, pos := "grid.go:75", after := #[], guard := none }) rfl (fun K hK => ?_) AllReadyH.nil)
        · go_simp
          have hS3 := H6n.out _ _ (by with_reducible assumption) (below_alloc x2 (.cells #[.int .i64 0, .int .i64 0] 110))
          have f5_3 : Fr (x2.alloc (.cells #[.int .i64 0, .int .i64 0] 110)) (V.heap.size) true (x2.heap.size) := by simpa using Fr.new x2 (V.heap.size) _ (by first | assumption | (simp; omega))
          refine hK.out _ _ (by with_reducible assumption) (fun hHeld => ?_)
          clear hK K
          try go_frame
          refine wpAnyH_ready (rs := [15]) (by kernel_rfl) (by simp) ?_
          refine AllReadyH.cons (i := 15) (o := { dst := some 6, op := Op.alloc 110, type := 0, pos := "grid.go:75", after := #[], guard := none }) rfl (fun K hK => ?_) AllReadyH.nil
          go_simp
          have hS4 := H6n.out _ _ (by with_reducible assumption) (below_alloc (x2.alloc (.cells #[.int .i64 0, .int .i64 0] 110)) (.cells #[.int .i64 0, .int .i64 0] 110))
          have f6_4 : Fr ((x2.alloc (.cells #[.int .i64 0, .int .i64 0] 110)).alloc (.cells #[.int .i64 0, .int .i64 0] 110)) (V.heap.size) true (x2.heap.size + 1) := by simpa using Fr.new (x2.alloc (.cells #[.int .i64 0, .int .i64 0] 110)) (V.heap.size) _ (by first | assumption | (simp; omega))
          have f5_4 := Fr.keep (below_alloc (x2.alloc (.cells #[.int .i64 0, .int .i64 0] 110)) (.cells #[.int .i64 0, .int .i64 0] 110)) f5_3
          refine hK.out _ _ (by with_reducible assumption) (fun hHeld => ?_)
          clear hK K
          try go_frame
          have hne : (x2.heap.size) ≠ (x2.heap.size + 1) := by first | omega | (simp; done) | (simp; omega)
          obtain ⟨_, p0, p1, p2, p3⟩ := f5_4 rfl
          generalize ((x2.alloc (.cells #[.int .i64 0, .int .i64 0] 110)).alloc (.cells #[.int .i64 0, .int .i64 0] 110)) = W9 at *
          refine wpAnyH_ready (rs := [16]) (by kernel_rfl) (by simp) ?_
          refine AllReadyH.cons (i := 16) (o := { dst := none, op := Op.store 110 (Operand.tmp 5) (Operand.tmp 14), type := 0, pos := "grid.go:75", after := #[{ on := 14, ground := Ground.data }, { on := 6, ground := Ground.data }, { on := 13, ground := Ground.chain }, { on := 0, ground := Ground.phase }, { on := 1, ground := Ground.phase }, { on := 2, ground := Ground.phase }, { on := 3, ground := Ground.phase }, { on := 4, ground := Ground.phase }, { on := 5, ground := Ground.phase }, { on := 6, ground := Ground.phase }, { on := 7, ground := Ground.textOnly Departure.lateStores }, { on := 8, ground := Ground.textOnly Departure.lateStores }, { on := 9, ground := Ground.textOnly Departure.lateStores }, { on := 10, ground := Ground.textOnly Departure.lateStores }, { on := 11, ground := Ground.textOnly Departure.lateStores }, { on := 12, ground := Ground.textOnly Departure.lateStores }, { on := 13, ground := Ground.textOnly Departure.lateStoresUnsure }, { on := 14, ground := Ground.phase }, { on := 15, ground := Ground.phase }], guard := none }) rfl (fun K hK => ?_) AllReadyH.nil
          go_simp
          have hS := H6c.out _ ((x2.heap.size)) l1 l2 (by with_reducible assumption) (f5_4 rfl).1
          refine hK.out _ _ hS (fun hHeld => ?_)
          clear hK K
          try go_frame
          have g6 := Fr.put l1 l2 f6_4 (Ne.symm hne)
          have g5 := Put.own l1 l2 f5_4
          clear p0 p1 p2 p3 hS
          change wpAnyH _ _ _ _ _ _ _ _ (Put W9 ((x2.heap.size)) l1 l2)
          have hHeld2 := H6.out _ (show Below _ _ (Put W9 ((x2.heap.size)) l1 l2) from hHeld.2.2.2.2.2.2)
          clear hHeld
          generalize Put W9 ((x2.heap.size)) l1 l2 = W10 at *
          obtain ⟨_, p0, p1, p2, p3⟩ := g6 rfl
          refine wpAnyH_ready (rs := [17]) (by kernel_rfl) (by simp) ?_
          refine AllReadyH.cons (i := 17) (o := { dst := none, op := Op.store 110 (Operand.tmp 6) (Operand.tmp 21), type := 0, pos := "grid.go:75", after := #[{ on := 15, ground := Ground.data }, { on := 13, ground := Ground.data }, { on := 16, ground := Ground.chain }, { on := 0, ground := Ground.phase }, { on := 1, ground := Ground.phase }, { on := 2, ground := Ground.phase }, { on := 3, ground := Ground.phase }, { on := 4, ground := Ground.phase }, { on := 5, ground := Ground.phase }, { on := 6, ground := Ground.phase }, { on := 7, ground := Ground.phase }, { on := 8, ground := Ground.phase }, { on := 9, ground := Ground.phase }, { on := 10, ground := Ground.phase }, { on := 11, ground := Ground.phase }, { on := 12, ground := Ground.phase }, { on := 13, ground := Ground.phase }, { on := 14, ground := Ground.phase }, { on := 15, ground := Ground.phase }, { on := 16, ground := Ground.phase }], guard := none }) rfl (fun K hK => ?_) AllReadyH.nil
          go_simp
          have hS := H6c.out _ ((x2.heap.size + 1)) m1 m2 (by with_reducible assumption) (g6 rfl).1
          refine hK.out _ _ hS (fun hHeld => ?_)
          clear hK K
          try go_frame
          have q6 := Put.own m1 m2 g6
          have q50 := (Put.other W10 ((x2.heap.size + 1)) m1 m2 hne (o := 0)).trans g5.1
          have q51 := (Put.other W10 ((x2.heap.size + 1)) m1 m2 hne (o := 1)).trans g5.2
          refine wpAnyH_done (by kernel_rfl) ?_ _
          go_wp2_with fail
          go_meet
          exact ⟨((x2.heap.size)), ((x2.heap.size + 1)), rfl, rfl, Lib.hid ⟨q50, q51⟩, Lib.hid ⟨q6.1, q6.2⟩, (f5_4 rfl).1, (f6_4 rfl).1, Lib.hid hHeld.2.2.2.2.2.2⟩
        · go_simp
          have hS3 := H6n.out _ _ (by with_reducible assumption) (below_alloc x2 (.cells #[.int .i64 0, .int .i64 0] 110))
          have f6_3 : Fr (x2.alloc (.cells #[.int .i64 0, .int .i64 0] 110)) (V.heap.size) true (x2.heap.size) := by simpa using Fr.new x2 (V.heap.size) _ (by first | assumption | (simp; omega))
          refine hK.out _ _ (by with_reducible assumption) (fun hHeld => ?_)
          clear hK K
          try go_frame
          refine wpAnyH_ready (rs := [14]) (by kernel_rfl) (by simp) ?_
          refine AllReadyH.cons (i := 14) (o := { dst := some 5, op := Op.alloc 110, type := 0, pos := "grid.go:75", after := #[], guard := none }) rfl (fun K hK => ?_) AllReadyH.nil
          go_simp
          have hS4 := H6n.out _ _ (by with_reducible assumption) (below_alloc (x2.alloc (.cells #[.int .i64 0, .int .i64 0] 110)) (.cells #[.int .i64 0, .int .i64 0] 110))
          have f5_4 : Fr ((x2.alloc (.cells #[.int .i64 0, .int .i64 0] 110)).alloc (.cells #[.int .i64 0, .int .i64 0] 110)) (V.heap.size) true (x2.heap.size + 1) := by simpa using Fr.new (x2.alloc (.cells #[.int .i64 0, .int .i64 0] 110)) (V.heap.size) _ (by first | assumption | (simp; omega))
          have f6_4 := Fr.keep (below_alloc (x2.alloc (.cells #[.int .i64 0, .int .i64 0] 110)) (.cells #[.int .i64 0, .int .i64 0] 110)) f6_3
          refine hK.out _ _ (by with_reducible assumption) (fun hHeld => ?_)
          clear hK K
          try go_frame
          have hne : (x2.heap.size + 1) ≠ (x2.heap.size) := by first | omega | (simp; done) | (simp; omega)
          obtain ⟨_, p0, p1, p2, p3⟩ := f5_4 rfl
          generalize ((x2.alloc (.cells #[.int .i64 0, .int .i64 0] 110)).alloc (.cells #[.int .i64 0, .int .i64 0] 110)) = W9 at *
          refine wpAnyH_ready (rs := [16]) (by kernel_rfl) (by simp) ?_
          refine AllReadyH.cons (i := 16) (o := { dst := none, op := Op.store 110 (Operand.tmp 5) (Operand.tmp 14), type := 0, pos := "grid.go:75", after := #[{ on := 14, ground := Ground.data }, { on := 6, ground := Ground.data }, { on := 13, ground := Ground.chain }, { on := 0, ground := Ground.phase }, { on := 1, ground := Ground.phase }, { on := 2, ground := Ground.phase }, { on := 3, ground := Ground.phase }, { on := 4, ground := Ground.phase }, { on := 5, ground := Ground.phase }, { on := 6, ground := Ground.phase }, { on := 7, ground := Ground.textOnly Departure.lateStores }, { on := 8, ground := Ground.textOnly Departure.lateStores }, { on := 9, ground := Ground.textOnly Departure.lateStores }, { on := 10, ground := Ground.textOnly Departure.lateStores }, { on := 11, ground := Ground.textOnly Departure.lateStores }, { on := 12, ground := Ground.textOnly Departure.lateStores }, { on := 13, ground := Ground.textOnly Departure.lateStoresUnsure }, { on := 14, ground := Ground.phase }, { on := 15, ground := Ground.phase }], guard := none }) rfl (fun K hK => ?_) AllReadyH.nil
          go_simp
          have hS := H6c.out _ ((x2.heap.size + 1)) l1 l2 (by with_reducible assumption) (f5_4 rfl).1
          refine hK.out _ _ hS (fun hHeld => ?_)
          clear hK K
          try go_frame
          have g6 := Fr.put l1 l2 f6_4 (Ne.symm hne)
          have g5 := Put.own l1 l2 f5_4
          clear p0 p1 p2 p3 hS
          change wpAnyH _ _ _ _ _ _ _ _ (Put W9 ((x2.heap.size + 1)) l1 l2)
          have hHeld2 := H6.out _ (show Below _ _ (Put W9 ((x2.heap.size + 1)) l1 l2) from hHeld.2.2.2.2.2.2)
          clear hHeld
          generalize Put W9 ((x2.heap.size + 1)) l1 l2 = W10 at *
          obtain ⟨_, p0, p1, p2, p3⟩ := g6 rfl
          refine wpAnyH_ready (rs := [17]) (by kernel_rfl) (by simp) ?_
          refine AllReadyH.cons (i := 17) (o := { dst := none, op := Op.store 110 (Operand.tmp 6) (Operand.tmp 21), type := 0, pos := "grid.go:75", after := #[{ on := 15, ground := Ground.data }, { on := 13, ground := Ground.data }, { on := 16, ground := Ground.chain }, { on := 0, ground := Ground.phase }, { on := 1, ground := Ground.phase }, { on := 2, ground := Ground.phase }, { on := 3, ground := Ground.phase }, { on := 4, ground := Ground.phase }, { on := 5, ground := Ground.phase }, { on := 6, ground := Ground.phase }, { on := 7, ground := Ground.phase }, { on := 8, ground := Ground.phase }, { on := 9, ground := Ground.phase }, { on := 10, ground := Ground.phase }, { on := 11, ground := Ground.phase }, { on := 12, ground := Ground.phase }, { on := 13, ground := Ground.phase }, { on := 14, ground := Ground.phase }, { on := 15, ground := Ground.phase }, { on := 16, ground := Ground.phase }], guard := none }) rfl (fun K hK => ?_) AllReadyH.nil
          go_simp
          have hS := H6c.out _ ((x2.heap.size)) m1 m2 (by with_reducible assumption) (g6 rfl).1
          refine hK.out _ _ hS (fun hHeld => ?_)
          clear hK K
          try go_frame
          have q6 := Put.own m1 m2 g6
          have q50 := (Put.other W10 ((x2.heap.size)) m1 m2 hne (o := 0)).trans g5.1
          have q51 := (Put.other W10 ((x2.heap.size)) m1 m2 hne (o := 1)).trans g5.2
          refine wpAnyH_done (by kernel_rfl) ?_ _
          go_wp2_with fail
          go_meet
          exact ⟨((x2.heap.size + 1)), ((x2.heap.size)), rfl, rfl, Lib.hid ⟨q50, q51⟩, Lib.hid ⟨q6.1, q6.2⟩, (f5_4 rfl).1, (f6_4 rfl).1, Lib.hid hHeld.2.2.2.2.2.2⟩
      · go_simp
        have hS2 := H6n.out _ _ (by with_reducible assumption) (below_alloc x1 (.cells #[.int .i64 0, .int .i64 0] 110))
        have f5_2 : Fr (x1.alloc (.cells #[.int .i64 0, .int .i64 0] 110)) (V.heap.size) true (x1.heap.size) := by simpa using Fr.new x1 (V.heap.size) _ (by first | assumption | (simp; omega))
        refine hK.out _ _ (by with_reducible assumption) (fun hHeld => ?_)
        clear hK K
        try go_frame
        refine wpAnyH_ready (rs := [13, 15]) (by kernel_rfl) (by simp) ?_
        refine AllReadyH.cons (i := 13) (o := { dst := some 21, op := Op.call { callee := Callee.value (Operand.func 68), args := #[Operand.tmp 18, Operand.tmp 20], argTypes := #[91, 23] }, type := 110, pos := "grid.go:75", after := #[{ on := 10, ground := Ground.data }, { on := 12, ground := Ground.data }, { on := 6, ground := Ground.chain }], guard := none }) rfl (fun K hK => ?_) (AllReadyH.cons (i := 15) (o := { dst := some 6, op := Op.alloc 110, type := 0, pos := "grid.go:75", after := #[], guard := none }) rfl (fun K hK => ?_) AllReadyH.nil)
        · go_simp
          go_at_call 68
          refine Calls.mono (HF2.out _) ?_
          rintro e x3 ⟨rfl, hb3⟩
          have hS3 := H6n.out _ _ (by with_reducible assumption) hb3
          have hU3 : V.heap.size ≤ x3.heap.size := Nat.le_trans (by first | assumption | omega | (simp; omega)) hb3.size
          have f5_3 := Fr.keep hb3 f5_2
          have hlk5_3 : (x1.heap.size) < x3.heap.size := Fr.lt f5_3 rfl
          refine hK.out _ _ (by with_reducible assumption) (fun hHeld => ?_)
          clear hK K
          try go_frame
          refine wpAnyH_ready (rs := [15]) (by kernel_rfl) (by simp) ?_
          refine AllReadyH.cons (i := 15) (o := { dst := some 6, op := Op.alloc 110, type := 0, pos := "grid.go:75", after := #[], guard := none }) rfl (fun K hK => ?_) AllReadyH.nil
          go_simp
          have hS4 := H6n.out _ _ (by with_reducible assumption) (below_alloc x3 (.cells #[.int .i64 0, .int .i64 0] 110))
          have f6_4 : Fr (x3.alloc (.cells #[.int .i64 0, .int .i64 0] 110)) (V.heap.size) true (x3.heap.size) := by simpa using Fr.new x3 (V.heap.size) _ (by first | assumption | (simp; omega))
          have f5_4 := Fr.keep (below_alloc x3 (.cells #[.int .i64 0, .int .i64 0] 110)) f5_3
          refine hK.out _ _ (by with_reducible assumption) (fun hHeld => ?_)
          clear hK K
          try go_frame
          have hne : (x1.heap.size) ≠ (x3.heap.size) := by first | omega | (simp; done) | (simp; omega)
          obtain ⟨_, p0, p1, p2, p3⟩ := f5_4 rfl
          generalize (x3.alloc (.cells #[.int .i64 0, .int .i64 0] 110)) = W9 at *
          refine wpAnyH_ready (rs := [16]) (by kernel_rfl) (by simp) ?_
          refine AllReadyH.cons (i := 16) (o := { dst := none, op := Op.store 110 (Operand.tmp 5) (Operand.tmp 14), type := 0, pos := "grid.go:75", after := #[{ on := 14, ground := Ground.data }, { on := 6, ground := Ground.data }, { on := 13, ground := Ground.chain }, { on := 0, ground := Ground.phase }, { on := 1, ground := Ground.phase }, { on := 2, ground := Ground.phase }, { on := 3, ground := Ground.phase }, { on := 4, ground := Ground.phase }, { on := 5, ground := Ground.phase }, { on := 6, ground := Ground.phase }, { on := 7, ground := Ground.textOnly Departure.lateStores }, { on := 8, ground := Ground.textOnly Departure.lateStores }, { on := 9, ground := Ground.textOnly Departure.lateStores }, { on := 10, ground := Ground.textOnly Departure.lateStores }, { on := 11, ground := Ground.textOnly Departure.lateStores }, { on := 12, ground := Ground.textOnly Departure.lateStores }, { on := 13, ground := Ground.textOnly Departure.lateStoresUnsure }, { on := 14, ground := Ground.phase }, { on := 15, ground := Ground.phase }], guard := none }) rfl (fun K hK => ?_) AllReadyH.nil
          go_simp
          have hS := H6c.out _ ((x1.heap.size)) l1 l2 (by with_reducible assumption) (f5_4 rfl).1
          refine hK.out _ _ hS (fun hHeld => ?_)
          clear hK K
          try go_frame
          have g6 := Fr.put l1 l2 f6_4 (Ne.symm hne)
          have g5 := Put.own l1 l2 f5_4
          clear p0 p1 p2 p3 hS
          change wpAnyH _ _ _ _ _ _ _ _ (Put W9 ((x1.heap.size)) l1 l2)
          have hHeld2 := H6.out _ (show Below _ _ (Put W9 ((x1.heap.size)) l1 l2) from hHeld.2.2.2.2.2.2)
          clear hHeld
          generalize Put W9 ((x1.heap.size)) l1 l2 = W10 at *
          obtain ⟨_, p0, p1, p2, p3⟩ := g6 rfl
          refine wpAnyH_ready (rs := [17]) (by kernel_rfl) (by simp) ?_
          refine AllReadyH.cons (i := 17) (o := { dst := none, op := Op.store 110 (Operand.tmp 6) (Operand.tmp 21), type := 0, pos := "grid.go:75", after := #[{ on := 15, ground := Ground.data }, { on := 13, ground := Ground.data }, { on := 16, ground := Ground.chain }, { on := 0, ground := Ground.phase }, { on := 1, ground := Ground.phase }, { on := 2, ground := Ground.phase }, { on := 3, ground := Ground.phase }, { on := 4, ground := Ground.phase }, { on := 5, ground := Ground.phase }, { on := 6, ground := Ground.phase }, { on := 7, ground := Ground.phase }, { on := 8, ground := Ground.phase }, { on := 9, ground := Ground.phase }, { on := 10, ground := Ground.phase }, { on := 11, ground := Ground.phase }, { on := 12, ground := Ground.phase }, { on := 13, ground := Ground.phase }, { on := 14, ground := Ground.phase }, { on := 15, ground := Ground.phase }, { on := 16, ground := Ground.phase }], guard := none }) rfl (fun K hK => ?_) AllReadyH.nil
          go_simp
          have hS := H6c.out _ ((x3.heap.size)) m1 m2 (by with_reducible assumption) (g6 rfl).1
          refine hK.out _ _ hS (fun hHeld => ?_)
          clear hK K
          try go_frame
          have q6 := Put.own m1 m2 g6
          have q50 := (Put.other W10 ((x3.heap.size)) m1 m2 hne (o := 0)).trans g5.1
          have q51 := (Put.other W10 ((x3.heap.size)) m1 m2 hne (o := 1)).trans g5.2
          refine wpAnyH_done (by kernel_rfl) ?_ _
          go_wp2_with fail
          go_meet
          exact ⟨((x1.heap.size)), ((x3.heap.size)), rfl, rfl, Lib.hid ⟨q50, q51⟩, Lib.hid ⟨q6.1, q6.2⟩, (f5_4 rfl).1, (f6_4 rfl).1, Lib.hid hHeld.2.2.2.2.2.2⟩
        · go_simp
          have hS3 := H6n.out _ _ (by with_reducible assumption) (below_alloc (x1.alloc (.cells #[.int .i64 0, .int .i64 0] 110)) (.cells #[.int .i64 0, .int .i64 0] 110))
          have f6_3 : Fr ((x1.alloc (.cells #[.int .i64 0, .int .i64 0] 110)).alloc (.cells #[.int .i64 0, .int .i64 0] 110)) (V.heap.size) true (x1.heap.size + 1) := by simpa using Fr.new (x1.alloc (.cells #[.int .i64 0, .int .i64 0] 110)) (V.heap.size) _ (by first | assumption | (simp; omega))
          have f5_3 := Fr.keep (below_alloc (x1.alloc (.cells #[.int .i64 0, .int .i64 0] 110)) (.cells #[.int .i64 0, .int .i64 0] 110)) f5_2
          refine hK.out _ _ (by with_reducible assumption) (fun hHeld => ?_)
          clear hK K
          try go_frame
          refine wpAnyH_ready (rs := [13]) (by kernel_rfl) (by simp) ?_
          refine AllReadyH.cons (i := 13) (o := { dst := some 21, op := Op.call { callee := Callee.value (Operand.func 68), args := #[Operand.tmp 18, Operand.tmp 20], argTypes := #[91, 23] }, type := 110, pos := "grid.go:75", after := #[{ on := 10, ground := Ground.data }, { on := 12, ground := Ground.data }, { on := 6, ground := Ground.chain }], guard := none }) rfl (fun K hK => ?_) AllReadyH.nil
          go_simp
          go_at_call 68
          refine Calls.mono (HF2.out _) ?_
          rintro e x4 ⟨rfl, hb4⟩
          have hS4 := H6n.out _ _ (by with_reducible assumption) hb4
          have hU4 : V.heap.size ≤ x4.heap.size := Nat.le_trans (by first | assumption | omega | (simp; omega)) hb4.size
          have f5_4 := Fr.keep hb4 f5_3
          have f6_4 := Fr.keep hb4 f6_3
          have hlk5_4 : (x1.heap.size) < x4.heap.size := Fr.lt f5_4 rfl
          have hlk6_4 : (x1.heap.size + 1) < x4.heap.size := Fr.lt f6_4 rfl
          refine hK.out _ _ (by with_reducible assumption) (fun hHeld => ?_)
          clear hK K
          try go_frame
          have hne : (x1.heap.size) ≠ (x1.heap.size + 1) := by first | omega | (simp; done) | (simp; omega)
          obtain ⟨_, p0, p1, p2, p3⟩ := f5_4 rfl
          refine wpAnyH_ready (rs := [16]) (by kernel_rfl) (by simp) ?_
          refine AllReadyH.cons (i := 16) (o := { dst := none, op := Op.store 110 (Operand.tmp 5) (Operand.tmp 14), type := 0, pos := "grid.go:75", after := #[{ on := 14, ground := Ground.data }, { on := 6, ground := Ground.data }, { on := 13, ground := Ground.chain }, { on := 0, ground := Ground.phase }, { on := 1, ground := Ground.phase }, { on := 2, ground := Ground.phase }, { on := 3, ground := Ground.phase }, { on := 4, ground := Ground.phase }, { on := 5, ground := Ground.phase }, { on := 6, ground := Ground.phase }, { on := 7, ground := Ground.textOnly Departure.lateStores }, { on := 8, ground := Ground.textOnly Departure.lateStores }, { on := 9, ground := Ground.textOnly Departure.lateStores }, { on := 10, ground := Ground.textOnly Departure.lateStores }, { on := 11, ground := Ground.textOnly Departure.lateStores }, { on := 12, ground := Ground.textOnly Departure.lateStores }, { on := 13, ground := Ground.textOnly Departure.lateStoresUnsure }, { on := 14, ground := Ground.phase }, { on := 15, ground := Ground.phase }], guard := none }) rfl (fun K hK => ?_) AllReadyH.nil
          go_simp
          have hS := H6c.out _ ((x1.heap.size)) l1 l2 (by with_reducible assumption) (f5_4 rfl).1
          refine hK.out _ _ hS (fun hHeld => ?_)
          clear hK K
          try go_frame
          have g6 := Fr.put l1 l2 f6_4 (Ne.symm hne)
          have g5 := Put.own l1 l2 f5_4
          clear p0 p1 p2 p3 hS
          change wpAnyH _ _ _ _ _ _ _ _ (Put x4 ((x1.heap.size)) l1 l2)
          have hHeld2 := H6.out _ (show Below _ _ (Put x4 ((x1.heap.size)) l1 l2) from hHeld.2.2.2.2.2.2)
          clear hHeld
          generalize Put x4 ((x1.heap.size)) l1 l2 = W10 at *
          obtain ⟨_, p0, p1, p2, p3⟩ := g6 rfl
          refine wpAnyH_ready (rs := [17]) (by kernel_rfl) (by simp) ?_
          refine AllReadyH.cons (i := 17) (o := { dst := none, op := Op.store 110 (Operand.tmp 6) (Operand.tmp 21), type := 0, pos := "grid.go:75", after := #[{ on := 15, ground := Ground.data }, { on := 13, ground := Ground.data }, { on := 16, ground := Ground.chain }, { on := 0, ground := Ground.phase }, { on := 1, ground := Ground.phase }, { on := 2, ground := Ground.phase }, { on := 3, ground := Ground.phase }, { on := 4, ground := Ground.phase }, { on := 5, ground := Ground.phase }, { on := 6, ground := Ground.phase }, { on := 7, ground := Ground.phase }, { on := 8, ground := Ground.phase }, { on := 9, ground := Ground.phase }, { on := 10, ground := Ground.phase }, { on := 11, ground := Ground.phase }, { on := 12, ground := Ground.phase }, { on := 13, ground := Ground.phase }, { on := 14, ground := Ground.phase }, { on := 15, ground := Ground.phase }, { on := 16, ground := Ground.phase }], guard := none }) rfl (fun K hK => ?_) AllReadyH.nil
          go_simp
          have hS := H6c.out _ ((x1.heap.size + 1)) m1 m2 (by with_reducible assumption) (g6 rfl).1
          refine hK.out _ _ hS (fun hHeld => ?_)
          clear hK K
          try go_frame
          have q6 := Put.own m1 m2 g6
          have q50 := (Put.other W10 ((x1.heap.size + 1)) m1 m2 hne (o := 0)).trans g5.1
          have q51 := (Put.other W10 ((x1.heap.size + 1)) m1 m2 hne (o := 1)).trans g5.2
          refine wpAnyH_done (by kernel_rfl) ?_ _
          go_wp2_with fail
          go_meet
          exact ⟨((x1.heap.size)), ((x1.heap.size + 1)), rfl, rfl, Lib.hid ⟨q50, q51⟩, Lib.hid ⟨q6.1, q6.2⟩, (f5_4 rfl).1, (f6_4 rfl).1, Lib.hid hHeld.2.2.2.2.2.2⟩
      · go_simp
        have hS2 := H6n.out _ _ (by with_reducible assumption) (below_alloc x1 (.cells #[.int .i64 0, .int .i64 0] 110))
        have f6_2 : Fr (x1.alloc (.cells #[.int .i64 0, .int .i64 0] 110)) (V.heap.size) true (x1.heap.size) := by simpa using Fr.new x1 (V.heap.size) _ (by first | assumption | (simp; omega))
        refine hK.out _ _ (by with_reducible assumption) (fun hHeld => ?_)
        clear hK K
        try go_frame
        refine wpAnyH_ready (rs := [13, 14]) (by kernel_rfl) (by simp) ?_
        refine AllReadyH.cons (i := 13) (o := { dst := some 21, op := Op.call { callee := Callee.value (Operand.func 68), args := #[Operand.tmp 18, Operand.tmp 20], argTypes := #[91, 23] }, type := 110, pos := "grid.go:75", after := #[{ on := 10, ground := Ground.data }, { on := 12, ground := Ground.data }, { on := 6, ground := Ground.chain }], guard := none }) rfl (fun K hK => ?_) (AllReadyH.cons (i := 14) (o := { dst := some 5, op := Op.alloc 110, type := 0, pos := "grid.go:75", after := #[], guard := none }) rfl (fun K hK => ?_) AllReadyH.nil)
        · go_simp
          go_at_call 68
          refine Calls.mono (HF2.out _) ?_
          rintro e x3 ⟨rfl, hb3⟩
          have hS3 := H6n.out _ _ (by with_reducible assumption) hb3
          have hU3 : V.heap.size ≤ x3.heap.size := Nat.le_trans (by first | assumption | omega | (simp; omega)) hb3.size
          have f6_3 := Fr.keep hb3 f6_2
          have hlk6_3 : (x1.heap.size) < x3.heap.size := Fr.lt f6_3 rfl
          refine hK.out _ _ (by with_reducible assumption) (fun hHeld => ?_)
          clear hK K
          try go_frame
          refine wpAnyH_ready (rs := [14]) (by kernel_rfl) (by simp) ?_
          refine AllReadyH.cons (i := 14) (o := { dst := some 5, op := Op.alloc 110, type := 0, pos := "grid.go:75", after := #[], guard := none }) rfl (fun K hK => ?_) AllReadyH.nil
          go_simp
          have hS4 := H6n.out _ _ (by with_reducible assumption) (below_alloc x3 (.cells #[.int .i64 0, .int .i64 0] 110))
          have f5_4 : Fr (x3.alloc (.cells #[.int .i64 0, .int .i64 0] 110)) (V.heap.size) true (x3.heap.size) := by simpa using Fr.new x3 (V.heap.size) _ (by first | assumption | (simp; omega))
          have f6_4 := Fr.keep (below_alloc x3 (.cells #[.int .i64 0, .int .i64 0] 110)) f6_3
          refine hK.out _ _ (by with_reducible assumption) (fun hHeld => ?_)
          clear hK K
          try go_frame
          have hne : (x3.heap.size) ≠ (x1.heap.size) := by first | omega | (simp; done) | (simp; omega)
          obtain ⟨_, p0, p1, p2, p3⟩ := f5_4 rfl
          generalize (x3.alloc (.cells #[.int .i64 0, .int .i64 0] 110)) = W9 at *
          refine wpAnyH_ready (rs := [16]) (by kernel_rfl) (by simp) ?_
          refine AllReadyH.cons (i := 16) (o := { dst := none, op := Op.store 110 (Operand.tmp 5) (Operand.tmp 14), type := 0, pos := "grid.go:75", after := #[{ on := 14, ground := Ground.data }, { on := 6, ground := Ground.data }, { on := 13, ground := Ground.chain }, { on := 0, ground := Ground.phase }, { on := 1, ground := Ground.phase }, { on := 2, ground := Ground.phase }, { on := 3, ground := Ground.phase }, { on := 4, ground := Ground.phase }, { on := 5, ground := Ground.phase }, { on := 6, ground := Ground.phase }, { on := 7, ground := Ground.textOnly Departure.lateStores }, { on := 8, ground := Ground.textOnly Departure.lateStores }, { on := 9, ground := Ground.textOnly Departure.lateStores }, { on := 10, ground := Ground.textOnly Departure.lateStores }, { on := 11, ground := Ground.textOnly Departure.lateStores }, { on := 12, ground := Ground.textOnly Departure.lateStores }, { on := 13, ground := Ground.textOnly Departure.lateStoresUnsure }, { on := 14, ground := Ground.phase }, { on := 15, ground := Ground.phase }], guard := none }) rfl (fun K hK => ?_) AllReadyH.nil
          go_simp
          have hS := H6c.out _ ((x3.heap.size)) l1 l2 (by with_reducible assumption) (f5_4 rfl).1
          refine hK.out _ _ hS (fun hHeld => ?_)
          clear hK K
          try go_frame
          have g6 := Fr.put l1 l2 f6_4 (Ne.symm hne)
          have g5 := Put.own l1 l2 f5_4
          clear p0 p1 p2 p3 hS
          change wpAnyH _ _ _ _ _ _ _ _ (Put W9 ((x3.heap.size)) l1 l2)
          have hHeld2 := H6.out _ (show Below _ _ (Put W9 ((x3.heap.size)) l1 l2) from hHeld.2.2.2.2.2.2)
          clear hHeld
          generalize Put W9 ((x3.heap.size)) l1 l2 = W10 at *
          obtain ⟨_, p0, p1, p2, p3⟩ := g6 rfl
          refine wpAnyH_ready (rs := [17]) (by kernel_rfl) (by simp) ?_
          refine AllReadyH.cons (i := 17) (o := { dst := none, op := Op.store 110 (Operand.tmp 6) (Operand.tmp 21), type := 0, pos := "grid.go:75", after := #[{ on := 15, ground := Ground.data }, { on := 13, ground := Ground.data }, { on := 16, ground := Ground.chain }, { on := 0, ground := Ground.phase }, { on := 1, ground := Ground.phase }, { on := 2, ground := Ground.phase }, { on := 3, ground := Ground.phase }, { on := 4, ground := Ground.phase }, { on := 5, ground := Ground.phase }, { on := 6, ground := Ground.phase }, { on := 7, ground := Ground.phase }, { on := 8, ground := Ground.phase }, { on := 9, ground := Ground.phase }, { on := 10, ground := Ground.phase }, { on := 11, ground := Ground.phase }, { on := 12, ground := Ground.phase }, { on := 13, ground := Ground.phase }, { on := 14, ground := Ground.phase }, { on := 15, ground := Ground.phase }, { on := 16, ground := Ground.phase }], guard := none }) rfl (fun K hK => ?_) AllReadyH.nil
          go_simp
          have hS := H6c.out _ ((x1.heap.size)) m1 m2 (by with_reducible assumption) (g6 rfl).1
          refine hK.out _ _ hS (fun hHeld => ?_)
          clear hK K
          try go_frame
          have q6 := Put.own m1 m2 g6
          have q50 := (Put.other W10 ((x1.heap.size)) m1 m2 hne (o := 0)).trans g5.1
          have q51 := (Put.other W10 ((x1.heap.size)) m1 m2 hne (o := 1)).trans g5.2
          refine wpAnyH_done (by kernel_rfl) ?_ _
          go_wp2_with fail
          go_meet
          exact ⟨((x3.heap.size)), ((x1.heap.size)), rfl, rfl, Lib.hid ⟨q50, q51⟩, Lib.hid ⟨q6.1, q6.2⟩, (f5_4 rfl).1, (f6_4 rfl).1, Lib.hid hHeld.2.2.2.2.2.2⟩
        · go_simp
          have hS3 := H6n.out _ _ (by with_reducible assumption) (below_alloc (x1.alloc (.cells #[.int .i64 0, .int .i64 0] 110)) (.cells #[.int .i64 0, .int .i64 0] 110))
          have f5_3 : Fr ((x1.alloc (.cells #[.int .i64 0, .int .i64 0] 110)).alloc (.cells #[.int .i64 0, .int .i64 0] 110)) (V.heap.size) true (x1.heap.size + 1) := by simpa using Fr.new (x1.alloc (.cells #[.int .i64 0, .int .i64 0] 110)) (V.heap.size) _ (by first | assumption | (simp; omega))
          have f6_3 := Fr.keep (below_alloc (x1.alloc (.cells #[.int .i64 0, .int .i64 0] 110)) (.cells #[.int .i64 0, .int .i64 0] 110)) f6_2
          refine hK.out _ _ (by with_reducible assumption) (fun hHeld => ?_)
          clear hK K
          try go_frame
          refine wpAnyH_ready (rs := [13]) (by kernel_rfl) (by simp) ?_
          refine AllReadyH.cons (i := 13) (o := { dst := some 21, op := Op.call { callee := Callee.value (Operand.func 68), args := #[Operand.tmp 18, Operand.tmp 20], argTypes := #[91, 23] }, type := 110, pos := "grid.go:75", after := #[{ on := 10, ground := Ground.data }, { on := 12, ground := Ground.data }, { on := 6, ground := Ground.chain }], guard := none }) rfl (fun K hK => ?_) AllReadyH.nil
          go_simp
          go_at_call 68
          refine Calls.mono (HF2.out _) ?_
          rintro e x4 ⟨rfl, hb4⟩
          have hS4 := H6n.out _ _ (by with_reducible assumption) hb4
          have hU4 : V.heap.size ≤ x4.heap.size := Nat.le_trans (by first | assumption | omega | (simp; omega)) hb4.size
          have f5_4 := Fr.keep hb4 f5_3
          have f6_4 := Fr.keep hb4 f6_3
          have hlk5_4 : (x1.heap.size + 1) < x4.heap.size := Fr.lt f5_4 rfl
          have hlk6_4 : (x1.heap.size) < x4.heap.size := Fr.lt f6_4 rfl
          refine hK.out _ _ (by with_reducible assumption) (fun hHeld => ?_)
          clear hK K
          try go_frame
          have hne : (x1.heap.size + 1) ≠ (x1.heap.size) := by first | omega | (simp; done) | (simp; omega)
          obtain ⟨_, p0, p1, p2, p3⟩ := f5_4 rfl
          refine wpAnyH_ready (rs := [16]) (by kernel_rfl) (by simp) ?_
          refine AllReadyH.cons (i := 16) (o := { dst := none, op := Op.store 110 (Operand.tmp 5) (Operand.tmp 14), type := 0, pos := "grid.go:75", after := #[{ on := 14, ground := Ground.data }, { on := 6, ground := Ground.data }, { on := 13, ground := Ground.chain }, { on := 0, ground := Ground.phase }, { on := 1, ground := Ground.phase }, { on := 2, ground := Ground.phase }, { on := 3, ground := Ground.phase }, { on := 4, ground := Ground.phase }, { on := 5, ground := Ground.phase }, { on := 6, ground := Ground.phase }, { on := 7, ground := Ground.textOnly Departure.lateStores }, { on := 8, ground := Ground.textOnly Departure.lateStores }, { on := 9, ground := Ground.textOnly Departure.lateStores }, { on := 10, ground := Ground.textOnly Departure.lateStores }, { on := 11, ground := Ground.textOnly Departure.lateStores }, { on := 12, ground := Ground.textOnly Departure.lateStores }, { on := 13, ground := Ground.textOnly Departure.lateStoresUnsure }, { on := 14, ground := Ground.phase }, { on := 15, ground := Ground.phase }], guard := none }) rfl (fun K hK => ?_) AllReadyH.nil
          go_simp
          have hS := H6c.out _ ((x1.heap.size + 1)) l1 l2 (by with_reducible assumption) (f5_4 rfl).1
          refine hK.out _ _ hS (fun hHeld => ?_)
          clear hK K
          try go_frame
          have g6 := Fr.put l1 l2 f6_4 (Ne.symm hne)
          have g5 := Put.own l1 l2 f5_4
          clear p0 p1 p2 p3 hS
          change wpAnyH _ _ _ _ _ _ _ _ (Put x4 ((x1.heap.size + 1)) l1 l2)
          have hHeld2 := H6.out _ (show Below _ _ (Put x4 ((x1.heap.size + 1)) l1 l2) from hHeld.2.2.2.2.2.2)
          clear hHeld
          generalize Put x4 ((x1.heap.size + 1)) l1 l2 = W10 at *
          obtain ⟨_, p0, p1, p2, p3⟩ := g6 rfl
          refine wpAnyH_ready (rs := [17]) (by kernel_rfl) (by simp) ?_
          refine AllReadyH.cons (i := 17) (o := { dst := none, op := Op.store 110 (Operand.tmp 6) (Operand.tmp 21), type := 0, pos := "grid.go:75", after := #[{ on := 15, ground := Ground.data }, { on := 13, ground := Ground.data }, { on := 16, ground := Ground.chain }, { on := 0, ground := Ground.phase }, { on := 1, ground := Ground.phase }, { on := 2, ground := Ground.phase }, { on := 3, ground := Ground.phase }, { on := 4, ground := Ground.phase }, { on := 5, ground := Ground.phase }, { on := 6, ground := Ground.phase }, { on := 7, ground := Ground.phase }, { on := 8, ground := Ground.phase }, { on := 9, ground := Ground.phase }, { on := 10, ground := Ground.phase }, { on := 11, ground := Ground.phase }, { on := 12, ground := Ground.phase }, { on := 13, ground := Ground.phase }, { on := 14, ground := Ground.phase }, { on := 15, ground := Ground.phase }, { on := 16, ground := Ground.phase }], guard := none }) rfl (fun K hK => ?_) AllReadyH.nil
          go_simp
          have hS := H6c.out _ ((x1.heap.size)) m1 m2 (by with_reducible assumption) (g6 rfl).1
          refine hK.out _ _ hS (fun hHeld => ?_)
          clear hK K
          try go_frame
          have q6 := Put.own m1 m2 g6
          have q50 := (Put.other W10 ((x1.heap.size)) m1 m2 hne (o := 0)).trans g5.1
          have q51 := (Put.other W10 ((x1.heap.size)) m1 m2 hne (o := 1)).trans g5.2
          refine wpAnyH_done (by kernel_rfl) ?_ _
          go_wp2_with fail
          go_meet
          exact ⟨((x1.heap.size + 1)), ((x1.heap.size)), rfl, rfl, Lib.hid ⟨q50, q51⟩, Lib.hid ⟨q6.1, q6.2⟩, (f5_4 rfl).1, (f6_4 rfl).1, Lib.hid hHeld.2.2.2.2.2.2⟩
    · go_simp
      have hS1 := H6n.out _ _ (by with_reducible assumption) (below_alloc U0 (.cells #[.int .i64 0, .int .i64 0] 110))
      have f5_1 : Fr (U0.alloc (.cells #[.int .i64 0, .int .i64 0] 110)) (V.heap.size) true (U0.heap.size) := by simpa using Fr.new U0 (V.heap.size) _ (by first | assumption | (simp; omega))
      refine hK.out _ _ (by with_reducible assumption) (fun hHeld => ?_)
      clear hK K
      try go_frame
      refine wpAnyH_ready (rs := [6, 15]) (by kernel_rfl) (by simp) ?_
      refine AllReadyH.cons (i := 6) (o := { dst := some 14, op := Op.call { callee := Callee.value (Operand.func 68), args := #[Operand.tmp 11, Operand.tmp 13], argTypes := #[91, 23] }, type := 110, pos := "grid.go:75", after := #[{ on := 3, ground := Ground.data }, { on := 5, ground := Ground.data }], guard := none }) rfl (fun K hK => ?_) (AllReadyH.cons (i := 15) (o := { dst := some 6, op := Op.alloc 110, type := 0, pos := "grid.go:75", after := #[], guard := none }) rfl (fun K hK => ?_) AllReadyH.nil)
      · go_simp
        go_at_call 68
        refine Calls.mono (HF1.out _) ?_
        rintro e x2 ⟨rfl, hb2⟩
        have hS2 := H6n.out _ _ (by with_reducible assumption) hb2
        have hU2 : V.heap.size ≤ x2.heap.size := Nat.le_trans (by first | assumption | omega | (simp; omega)) hb2.size
        have f5_2 := Fr.keep hb2 f5_1
        have hlk5_2 : (U0.heap.size) < x2.heap.size := Fr.lt f5_2 rfl
        refine hK.out _ _ (by with_reducible assumption) (fun hHeld => ?_)
        clear hK K
        try go_frame
        refine wpAnyH_ready (rs := [13, 15]) (by kernel_rfl) (by simp) ?_
        refine AllReadyH.cons (i := 13) (o := { dst := some 21, op := Op.call { callee := Callee.value (Operand.func 68), args := #[Operand.tmp 18, Operand.tmp 20], argTypes := #[91, 23] }, type := 110, pos := "grid.go:75", after := #[{ on := 10, ground := Ground.data }, { on := 12, ground := Ground.data }, { on := 6, ground := Ground.chain }], guard := none }) rfl (fun K hK => ?_) (AllReadyH.cons (i := 15) (o := { dst := some 6, op := Op.alloc 110, type := 0, pos := "grid.go:75", after := #[], guard := none }) rfl (fun K hK => ?_) AllReadyH.nil)
        · go_simp
          go_at_call 68
          refine Calls.mono (HF2.out _) ?_
          rintro e x3 ⟨rfl, hb3⟩
          have hS3 := H6n.out _ _ (by with_reducible assumption) hb3
          have hU3 : V.heap.size ≤ x3.heap.size := Nat.le_trans (by first | assumption | omega | (simp; omega)) hb3.size
          have f5_3 := Fr.keep hb3 f5_2
          have hlk5_3 : (U0.heap.size) < x3.heap.size := Fr.lt f5_3 rfl
          refine hK.out _ _ (by with_reducible assumption) (fun hHeld => ?_)
          clear hK K
          try go_frame
          refine wpAnyH_ready (rs := [15]) (by kernel_rfl) (by simp) ?_
          refine AllReadyH.cons (i := 15) (o := { dst := some 6, op := Op.alloc 110, type := 0, pos := "grid.go:75", after := #[], guard := none }) rfl (fun K hK => ?_) AllReadyH.nil
          go_simp
          have hS4 := H6n.out _ _ (by with_reducible assumption) (below_alloc x3 (.cells #[.int .i64 0, .int .i64 0] 110))
          have f6_4 : Fr (x3.alloc (.cells #[.int .i64 0, .int .i64 0] 110)) (V.heap.size) true (x3.heap.size) := by simpa using Fr.new x3 (V.heap.size) _ (by first | assumption | (simp; omega))
          have f5_4 := Fr.keep (below_alloc x3 (.cells #[.int .i64 0, .int .i64 0] 110)) f5_3
          refine hK.out _ _ (by with_reducible assumption) (fun hHeld => ?_)
          clear hK K
          try go_frame
          have hne : (U0.heap.size) ≠ (x3.heap.size) := by first | omega | (simp; done) | (simp; omega)
          obtain ⟨_, p0, p1, p2, p3⟩ := f5_4 rfl
          generalize (x3.alloc (.cells #[.int .i64 0, .int .i64 0] 110)) = W9 at *
          refine wpAnyH_ready (rs := [16]) (by kernel_rfl) (by simp) ?_
          refine AllReadyH.cons (i := 16) (o := { dst := none, op := Op.store 110 (Operand.tmp 5) (Operand.tmp 14), type := 0, pos := "grid.go:75", after := #[{ on := 14, ground := Ground.data }, { on := 6, ground := Ground.data }, { on := 13, ground := Ground.chain }, { on := 0, ground := Ground.phase }, { on := 1, ground := Ground.phase }, { on := 2, ground := Ground.phase }, { on := 3, ground := Ground.phase }, { on := 4, ground := Ground.phase }, { on := 5, ground := Ground.phase }, { on := 6, ground := Ground.phase }, { on := 7, ground := Ground.textOnly Departure.lateStores }, { on := 8, ground := Ground.textOnly Departure.lateStores }, { on := 9, ground := Ground.textOnly Departure.lateStores }, { on := 10, ground := Ground.textOnly Departure.lateStores }, { on := 11, ground := Ground.textOnly Departure.lateStores }, { on := 12, ground := Ground.textOnly Departure.lateStores }, { on := 13, ground := Ground.textOnly Departure.lateStoresUnsure }, { on := 14, ground := Ground.phase }, { on := 15, ground := Ground.phase }], guard := none }) rfl (fun K hK => ?_) AllReadyH.nil
          go_simp
          have hS := H6c.out _ ((U0.heap.size)) l1 l2 (by with_reducible assumption) (f5_4 rfl).1
          refine hK.out _ _ hS (fun hHeld => ?_)
          clear hK K
          try go_frame
          have g6 := Fr.put l1 l2 f6_4 (Ne.symm hne)
          have g5 := Put.own l1 l2 f5_4
          clear p0 p1 p2 p3 hS
          change wpAnyH _ _ _ _ _ _ _ _ (Put W9 ((U0.heap.size)) l1 l2)
          have hHeld2 := H6.out _ (show Below _ _ (Put W9 ((U0.heap.size)) l1 l2) from hHeld.2.2.2.2.2.2)
          clear hHeld
          generalize Put W9 ((U0.heap.size)) l1 l2 = W10 at *
          obtain ⟨_, p0, p1, p2, p3⟩ := g6 rfl
          refine wpAnyH_ready (rs := [17]) (by kernel_rfl) (by simp) ?_
          refine AllReadyH.cons (i := 17) (o := { dst := none, op := Op.store 110 (Operand.tmp 6) (Operand.tmp 21), type := 0, pos := "grid.go:75", after := #[{ on := 15, ground := Ground.data }, { on := 13, ground := Ground.data }, { on := 16, ground := Ground.chain }, { on := 0, ground := Ground.phase }, { on := 1, ground := Ground.phase }, { on := 2, ground := Ground.phase }, { on := 3, ground := Ground.phase }, { on := 4, ground := Ground.phase }, { on := 5, ground := Ground.phase }, { on := 6, ground := Ground.phase }, { on := 7, ground := Ground.phase }, { on := 8, ground := Ground.phase }, { on := 9, ground := Ground.phase }, { on := 10, ground := Ground.phase }, { on := 11, ground := Ground.phase }, { on := 12, ground := Ground.phase }, { on := 13, ground := Ground.phase }, { on := 14, ground := Ground.phase }, { on := 15, ground := Ground.phase }, { on := 16, ground := Ground.phase }], guard := none }) rfl (fun K hK => ?_) AllReadyH.nil
          go_simp
          have hS := H6c.out _ ((x3.heap.size)) m1 m2 (by with_reducible assumption) (g6 rfl).1
          refine hK.out _ _ hS (fun hHeld => ?_)
          clear hK K
          try go_frame
          have q6 := Put.own m1 m2 g6
          have q50 := (Put.other W10 ((x3.heap.size)) m1 m2 hne (o := 0)).trans g5.1
          have q51 := (Put.other W10 ((x3.heap.size)) m1 m2 hne (o := 1)).trans g5.2
          refine wpAnyH_done (by kernel_rfl) ?_ _
          go_wp2_with fail
          go_meet
          exact ⟨((U0.heap.size)), ((x3.heap.size)), rfl, rfl, Lib.hid ⟨q50, q51⟩, Lib.hid ⟨q6.1, q6.2⟩, (f5_4 rfl).1, (f6_4 rfl).1, Lib.hid hHeld.2.2.2.2.2.2⟩
        · go_simp
          have hS3 := H6n.out _ _ (by with_reducible assumption) (below_alloc x2 (.cells #[.int .i64 0, .int .i64 0] 110))
          have f6_3 : Fr (x2.alloc (.cells #[.int .i64 0, .int .i64 0] 110)) (V.heap.size) true (x2.heap.size) := by simpa using Fr.new x2 (V.heap.size) _ (by first | assumption | (simp; omega))
          have f5_3 := Fr.keep (below_alloc x2 (.cells #[.int .i64 0, .int .i64 0] 110)) f5_2
          refine hK.out _ _ (by with_reducible assumption) (fun hHeld => ?_)
          clear hK K
          try go_frame
          refine wpAnyH_ready (rs := [13]) (by kernel_rfl) (by simp) ?_
          refine AllReadyH.cons (i := 13) (o := { dst := some 21, op := Op.call { callee := Callee.value (Operand.func 68), args := #[Operand.tmp 18, Operand.tmp 20], argTypes := #[91, 23] }, type := 110, pos := "grid.go:75", after := #[{ on := 10, ground := Ground.data }, { on := 12, ground := Ground.data }, { on := 6, ground := Ground.chain }], guard := none }) rfl (fun K hK => ?_) AllReadyH.nil
          go_simp
          go_at_call 68
          refine Calls.mono (HF2.out _) ?_
          rintro e x4 ⟨rfl, hb4⟩
          have hS4 := H6n.out _ _ (by with_reducible assumption) hb4
          have hU4 : V.heap.size ≤ x4.heap.size := Nat.le_trans (by first | assumption | omega | (simp; omega)) hb4.size
          have f5_4 := Fr.keep hb4 f5_3
          have f6_4 := Fr.keep hb4 f6_3
          have hlk5_4 : (U0.heap.size) < x4.heap.size := Fr.lt f5_4 rfl
          have hlk6_4 : (x2.heap.size) < x4.heap.size := Fr.lt f6_4 rfl
          refine hK.out _ _ (by with_reducible assumption) (fun hHeld => ?_)
          clear hK K
          try go_frame
          have hne : (U0.heap.size) ≠ (x2.heap.size) := by first | omega | (simp; done) | (simp; omega)
          obtain ⟨_, p0, p1, p2, p3⟩ := f5_4 rfl
          refine wpAnyH_ready (rs := [16]) (by kernel_rfl) (by simp) ?_
          refine AllReadyH.cons (i := 16) (o := { dst := none, op := Op.store 110 (Operand.tmp 5) (Operand.tmp 14), type := 0, pos := "grid.go:75", after := #[{ on := 14, ground := Ground.data }, { on := 6, ground := Ground.data }, { on := 13, ground := Ground.chain }, { on := 0, ground := Ground.phase }, { on := 1, ground := Ground.phase }, { on := 2, ground := Ground.phase }, { on := 3, ground := Ground.phase }, { on := 4, ground := Ground.phase }, { on := 5, ground := Ground.phase }, { on := 6, ground := Ground.phase }, { on := 7, ground := Ground.textOnly Departure.lateStores }, { on := 8, ground := Ground.textOnly Departure.lateStores }, { on := 9, ground := Ground.textOnly Departure.lateStores }, { on := 10, ground := Ground.textOnly Departure.lateStores }, { on := 11, ground := Ground.textOnly Departure.lateStores }, { on := 12, ground := Ground.textOnly Departure.lateStores }, { on := 13, ground := Ground.textOnly Departure.lateStoresUnsure }, { on := 14, ground := Ground.phase }, { on := 15, ground := Ground.phase }], guard := none }) rfl (fun K hK => ?_) AllReadyH.nil
          go_simp
          have hS := H6c.out _ ((U0.heap.size)) l1 l2 (by with_reducible assumption) (f5_4 rfl).1
          refine hK.out _ _ hS (fun hHeld => ?_)
          clear hK K
          try go_frame
          have g6 := Fr.put l1 l2 f6_4 (Ne.symm hne)
          have g5 := Put.own l1 l2 f5_4
          clear p0 p1 p2 p3 hS
          change wpAnyH _ _ _ _ _ _ _ _ (Put x4 ((U0.heap.size)) l1 l2)
          have hHeld2 := H6.out _ (show Below _ _ (Put x4 ((U0.heap.size)) l1 l2) from hHeld.2.2.2.2.2.2)
          clear hHeld
          generalize Put x4 ((U0.heap.size)) l1 l2 = W10 at *
          obtain ⟨_, p0, p1, p2, p3⟩ := g6 rfl
          refine wpAnyH_ready (rs := [17]) (by kernel_rfl) (by simp) ?_
          refine AllReadyH.cons (i := 17) (o := { dst := none, op := Op.store 110 (Operand.tmp 6) (Operand.tmp 21), type := 0, pos := "grid.go:75", after := #[{ on := 15, ground := Ground.data }, { on := 13, ground := Ground.data }, { on := 16, ground := Ground.chain }, { on := 0, ground := Ground.phase }, { on := 1, ground := Ground.phase }, { on := 2, ground := Ground.phase }, { on := 3, ground := Ground.phase }, { on := 4, ground := Ground.phase }, { on := 5, ground := Ground.phase }, { on := 6, ground := Ground.phase }, { on := 7, ground := Ground.phase }, { on := 8, ground := Ground.phase }, { on := 9, ground := Ground.phase }, { on := 10, ground := Ground.phase }, { on := 11, ground := Ground.phase }, { on := 12, ground := Ground.phase }, { on := 13, ground := Ground.phase }, { on := 14, ground := Ground.phase }, { on := 15, ground := Ground.phase }, { on := 16, ground := Ground.phase }], guard := none }) rfl (fun K hK => ?_) AllReadyH.nil
          go_simp
          have hS := H6c.out _ ((x2.heap.size)) m1 m2 (by with_reducible assumption) (g6 rfl).1
          refine hK.out _ _ hS (fun hHeld => ?_)
          clear hK K
          try go_frame
          have q6 := Put.own m1 m2 g6
          have q50 := (Put.other W10 ((x2.heap.size)) m1 m2 hne (o := 0)).trans g5.1
          have q51 := (Put.other W10 ((x2.heap.size)) m1 m2 hne (o := 1)).trans g5.2
          refine wpAnyH_done (by kernel_rfl) ?_ _
          go_wp2_with fail
          go_meet
          exact ⟨((U0.heap.size)), ((x2.heap.size)), rfl, rfl, Lib.hid ⟨q50, q51⟩, Lib.hid ⟨q6.1, q6.2⟩, (f5_4 rfl).1, (f6_4 rfl).1, Lib.hid hHeld.2.2.2.2.2.2⟩
      · go_simp
        have hS2 := H6n.out _ _ (by with_reducible assumption) (below_alloc (U0.alloc (.cells #[.int .i64 0, .int .i64 0] 110)) (.cells #[.int .i64 0, .int .i64 0] 110))
        have f6_2 : Fr ((U0.alloc (.cells #[.int .i64 0, .int .i64 0] 110)).alloc (.cells #[.int .i64 0, .int .i64 0] 110)) (V.heap.size) true (U0.heap.size + 1) := by simpa using Fr.new (U0.alloc (.cells #[.int .i64 0, .int .i64 0] 110)) (V.heap.size) _ (by first | assumption | (simp; omega))
        have f5_2 := Fr.keep (below_alloc (U0.alloc (.cells #[.int .i64 0, .int .i64 0] 110)) (.cells #[.int .i64 0, .int .i64 0] 110)) f5_1
        refine hK.out _ _ (by with_reducible assumption) (fun hHeld => ?_)
        clear hK K
        try go_frame
        refine wpAnyH_ready (rs := [6]) (by kernel_rfl) (by simp) ?_
        refine AllReadyH.cons (i := 6) (o := { dst := some 14, op := Op.call { callee := Callee.value (Operand.func 68), args := #[Operand.tmp 11, Operand.tmp 13], argTypes := #[91, 23] }, type := 110, pos := "grid.go:75", after := #[{ on := 3, ground := Ground.data }, { on := 5, ground := Ground.data }], guard := none }) rfl (fun K hK => ?_) AllReadyH.nil
        go_simp
        go_at_call 68
        refine Calls.mono (HF1.out _) ?_
        rintro e x3 ⟨rfl, hb3⟩
        have hS3 := H6n.out _ _ (by with_reducible assumption) hb3
        have hU3 : V.heap.size ≤ x3.heap.size := Nat.le_trans (by first | assumption | omega | (simp; omega)) hb3.size
        have f5_3 := Fr.keep hb3 f5_2
        have f6_3 := Fr.keep hb3 f6_2
        have hlk5_3 : (U0.heap.size) < x3.heap.size := Fr.lt f5_3 rfl
        have hlk6_3 : (U0.heap.size + 1) < x3.heap.size := Fr.lt f6_3 rfl
        refine hK.out _ _ (by with_reducible assumption) (fun hHeld => ?_)
        clear hK K
        try go_frame
        refine wpAnyH_ready (rs := [13]) (by kernel_rfl) (by simp) ?_
        refine AllReadyH.cons (i := 13) (o := { dst := some 21, op := Op.call { callee := Callee.value (Operand.func 68), args := #[Operand.tmp 18, Operand.tmp 20], argTypes := #[91, 23] }, type := 110, pos := "grid.go:75", after := #[{ on := 10, ground := Ground.data }, { on := 12, ground := Ground.data }, { on := 6, ground := Ground.chain }], guard := none }) rfl (fun K hK => ?_) AllReadyH.nil
        go_simp
        go_at_call 68
        refine Calls.mono (HF2.out _) ?_
        rintro e x4 ⟨rfl, hb4⟩
        have hS4 := H6n.out _ _ (by with_reducible assumption) hb4
        have hU4 : V.heap.size ≤ x4.heap.size := Nat.le_trans (by first | assumption | omega | (simp; omega)) hb4.size
        have f5_4 := Fr.keep hb4 f5_3
        have f6_4 := Fr.keep hb4 f6_3
        have hlk5_4 : (U0.heap.size) < x4.heap.size := Fr.lt f5_4 rfl
        have hlk6_4 : (U0.heap.size + 1) < x4.heap.size := Fr.lt f6_4 rfl
        refine hK.out _ _ (by with_reducible assumption) (fun hHeld => ?_)
        clear hK K
        try go_frame
        have hne : (U0.heap.size) ≠ (U0.heap.size + 1) := by first | omega | (simp; done) | (simp; omega)
        obtain ⟨_, p0, p1, p2, p3⟩ := f5_4 rfl
        refine wpAnyH_ready (rs := [16]) (by kernel_rfl) (by simp) ?_
        refine AllReadyH.cons (i := 16) (o := { dst := none, op := Op.store 110 (Operand.tmp 5) (Operand.tmp 14), type := 0, pos := "grid.go:75", after := #[{ on := 14, ground := Ground.data }, { on := 6, ground := Ground.data }, { on := 13, ground := Ground.chain }, { on := 0, ground := Ground.phase }, { on := 1, ground := Ground.phase }, { on := 2, ground := Ground.phase }, { on := 3, ground := Ground.phase }, { on := 4, ground := Ground.phase }, { on := 5, ground := Ground.phase }, { on := 6, ground := Ground.phase }, { on := 7, ground := Ground.textOnly Departure.lateStores }, { on := 8, ground := Ground.textOnly Departure.lateStores }, { on := 9, ground := Ground.textOnly Departure.lateStores }, { on := 10, ground := Ground.textOnly Departure.lateStores }, { on := 11, ground := Ground.textOnly Departure.lateStores }, { on := 12, ground := Ground.textOnly Departure.lateStores }, { on := 13, ground := Ground.textOnly Departure.lateStoresUnsure }, { on := 14, ground := Ground.phase }, { on := 15, ground := Ground.phase }], guard := none }) rfl (fun K hK => ?_) AllReadyH.nil
        go_simp
        have hS := H6c.out _ ((U0.heap.size)) l1 l2 (by with_reducible assumption) (f5_4 rfl).1
        refine hK.out _ _ hS (fun hHeld => ?_)
        clear hK K
        try go_frame
        have g6 := Fr.put l1 l2 f6_4 (Ne.symm hne)
        have g5 := Put.own l1 l2 f5_4
        clear p0 p1 p2 p3 hS
        change wpAnyH _ _ _ _ _ _ _ _ (Put x4 ((U0.heap.size)) l1 l2)
        have hHeld2 := H6.out _ (show Below _ _ (Put x4 ((U0.heap.size)) l1 l2) from hHeld.2.2.2.2.2.2)
        clear hHeld
        generalize Put x4 ((U0.heap.size)) l1 l2 = W10 at *
        obtain ⟨_, p0, p1, p2, p3⟩ := g6 rfl
        refine wpAnyH_ready (rs := [17]) (by kernel_rfl) (by simp) ?_
        refine AllReadyH.cons (i := 17) (o := { dst := none, op := Op.store 110 (Operand.tmp 6) (Operand.tmp 21), type := 0, pos := "grid.go:75", after := #[{ on := 15, ground := Ground.data }, { on := 13, ground := Ground.data }, { on := 16, ground := Ground.chain }, { on := 0, ground := Ground.phase }, { on := 1, ground := Ground.phase }, { on := 2, ground := Ground.phase }, { on := 3, ground := Ground.phase }, { on := 4, ground := Ground.phase }, { on := 5, ground := Ground.phase }, { on := 6, ground := Ground.phase }, { on := 7, ground := Ground.phase }, { on := 8, ground := Ground.phase }, { on := 9, ground := Ground.phase }, { on := 10, ground := Ground.phase }, { on := 11, ground := Ground.phase }, { on := 12, ground := Ground.phase }, { on := 13, ground := Ground.phase }, { on := 14, ground := Ground.phase }, { on := 15, ground := Ground.phase }, { on := 16, ground := Ground.phase }], guard := none }) rfl (fun K hK => ?_) AllReadyH.nil
        go_simp
        have hS := H6c.out _ ((U0.heap.size + 1)) m1 m2 (by with_reducible assumption) (g6 rfl).1
        refine hK.out _ _ hS (fun hHeld => ?_)
        clear hK K
        try go_frame
        have q6 := Put.own m1 m2 g6
        have q50 := (Put.other W10 ((U0.heap.size + 1)) m1 m2 hne (o := 0)).trans g5.1
        have q51 := (Put.other W10 ((U0.heap.size + 1)) m1 m2 hne (o := 1)).trans g5.2
        refine wpAnyH_done (by kernel_rfl) ?_ _
        go_wp2_with fail
        go_meet
        exact ⟨((U0.heap.size)), ((U0.heap.size + 1)), rfl, rfl, Lib.hid ⟨q50, q51⟩, Lib.hid ⟨q6.1, q6.2⟩, (f5_4 rfl).1, (f6_4 rfl).1, Lib.hid hHeld.2.2.2.2.2.2⟩
    · go_simp
      have hS1 := H6n.out _ _ (by with_reducible assumption) (below_alloc U0 (.cells #[.int .i64 0, .int .i64 0] 110))
      have f6_1 : Fr (U0.alloc (.cells #[.int .i64 0, .int .i64 0] 110)) (V.heap.size) true (U0.heap.size) := by simpa using Fr.new U0 (V.heap.size) _ (by first | assumption | (simp; omega))
      refine hK.out _ _ (by with_reducible assumption) (fun hHeld => ?_)
      clear hK K
      try go_frame
      refine wpAnyH_ready (rs := [6, 14]) (by kernel_rfl) (by simp) ?_
      refine AllReadyH.cons (i := 6) (o := { dst := some 14, op := Op.call { callee := Callee.value (Operand.func 68), args := #[Operand.tmp 11, Operand.tmp 13], argTypes := #[91, 23] }, type := 110, pos := "grid.go:75", after := #[{ on := 3, ground := Ground.data }, { on := 5, ground := Ground.data }], guard := none }) rfl (fun K hK => ?_) (AllReadyH.cons (i := 14) (o := { dst := some 5, op := Op.alloc 110, type := 0, pos := "grid.go:75", after := #[], guard := none }) rfl (fun K hK => ?_) AllReadyH.nil)
      · go_simp
        go_at_call 68
        refine Calls.mono (HF1.out _) ?_
        rintro e x2 ⟨rfl, hb2⟩
        have hS2 := H6n.out _ _ (by with_reducible assumption) hb2
        have hU2 : V.heap.size ≤ x2.heap.size := Nat.le_trans (by first | assumption | omega | (simp; omega)) hb2.size
        have f6_2 := Fr.keep hb2 f6_1
        have hlk6_2 : (U0.heap.size) < x2.heap.size := Fr.lt f6_2 rfl
        refine hK.out _ _ (by with_reducible assumption) (fun hHeld => ?_)
        clear hK K
        try go_frame
        refine wpAnyH_ready (rs := [13, 14]) (by kernel_rfl) (by simp) ?_
        refine AllReadyH.cons (i := 13) (o := { dst := some 21, op := Op.call { callee := Callee.value (Operand.func 68), args := #[Operand.tmp 18, Operand.tmp 20], argTypes := #[91, 23] }, type := 110, pos := "grid.go:75", after := #[{ on := 10, ground := Ground.data }, { on := 12, ground := Ground.data }, { on := 6, ground := Ground.chain }], guard := none }) rfl (fun K hK => ?_) (AllReadyH.cons (i := 14) (o := { dst := some 5, op := Op.alloc 110, type := 0, pos := "grid.go:75", after := #[], guard := none }) rfl (fun K hK => ?_) AllReadyH.nil)
        · go_simp
          go_at_call 68
          refine Calls.mono (HF2.out _) ?_
          rintro e x3 ⟨rfl, hb3⟩
          have hS3 := H6n.out _ _ (by with_reducible assumption) hb3
          have hU3 : V.heap.size ≤ x3.heap.size := Nat.le_trans (by first | assumption | omega | (simp; omega)) hb3.size
          have f6_3 := Fr.keep hb3 f6_2
          have hlk6_3 : (U0.heap.size) < x3.heap.size := Fr.lt f6_3 rfl
          refine hK.out _ _ (by with_reducible assumption) (fun hHeld => ?_)
          clear hK K
          try go_frame
          refine wpAnyH_ready (rs := [14]) (by kernel_rfl) (by simp) ?_
          refine AllReadyH.cons (i := 14) (o := { dst := some 5, op := Op.alloc 110, type := 0, pos := "grid.go:75", after := #[], guard := none }) rfl (fun K hK => ?_) AllReadyH.nil
          go_simp
          have hS4 := H6n.out _ _ (by with_reducible assumption) (below_alloc x3 (.cells #[.int .i64 0, .int .i64 0] 110))
          have f5_4 : Fr (x3.alloc (.cells #[.int .i64 0, .int .i64 0] 110)) (V.heap.size) true (x3.heap.size) := by simpa using Fr.new x3 (V.heap.size) _ (by first | assumption | (simp; omega))
          have f6_4 := Fr.keep (below_alloc x3 (.cells #[.int .i64 0, .int .i64 0] 110)) f6_3
          refine hK.out _ _ (by with_reducible assumption) (fun hHeld => ?_)
          clear hK K
          try go_frame
          have hne : (x3.heap.size) ≠ (U0.heap.size) := by first | omega | (simp; done) | (simp; omega)
          obtain ⟨_, p0, p1, p2, p3⟩ := f5_4 rfl
          generalize (x3.alloc (.cells #[.int .i64 0, .int .i64 0] 110)) = W9 at *
          refine wpAnyH_ready (rs := [16]) (by kernel_rfl) (by simp) ?_
          refine AllReadyH.cons (i := 16) (o := { dst := none, op := Op.store 110 (Operand.tmp 5) (Operand.tmp 14), type := 0, pos := "grid.go:75", after := #[{ on := 14, ground := Ground.data }, { on := 6, ground := Ground.data }, { on := 13, ground := Ground.chain }, { on := 0, ground := Ground.phase }, { on := 1, ground := Ground.phase }, { on := 2, ground := Ground.phase }, { on := 3, ground := Ground.phase }, { on := 4, ground := Ground.phase }, { on := 5, ground := Ground.phase }, { on := 6, ground := Ground.phase }, { on := 7, ground := Ground.textOnly Departure.lateStores }, { on := 8, ground := Ground.textOnly Departure.lateStores }, { on := 9, ground := Ground.textOnly Departure.lateStores }, { on := 10, ground := Ground.textOnly Departure.lateStores }, { on := 11, ground := Ground.textOnly Departure.lateStores }, { on := 12, ground := Ground.textOnly Departure.lateStores }, { on := 13, ground := Ground.textOnly Departure.lateStoresUnsure }, { on := 14, ground := Ground.phase }, { on := 15, ground := Ground.phase }], guard := none }) rfl (fun K hK => ?_) AllReadyH.nil
          go_simp
          have hS := H6c.out _ ((x3.heap.size)) l1 l2 (by with_reducible assumption) (f5_4 rfl).1
          refine hK.out _ _ hS (fun hHeld => ?_)
          clear hK K
          try go_frame
          have g6 := Fr.put l1 l2 f6_4 (Ne.symm hne)
          have g5 := Put.own l1 l2 f5_4
          clear p0 p1 p2 p3 hS
          change wpAnyH _ _ _ _ _ _ _ _ (Put W9 ((x3.heap.size)) l1 l2)
          have hHeld2 := H6.out _ (show Below _ _ (Put W9 ((x3.heap.size)) l1 l2) from hHeld.2.2.2.2.2.2)
          clear hHeld
          generalize Put W9 ((x3.heap.size)) l1 l2 = W10 at *
          obtain ⟨_, p0, p1, p2, p3⟩ := g6 rfl
          refine wpAnyH_ready (rs := [17]) (by kernel_rfl) (by simp) ?_
          refine AllReadyH.cons (i := 17) (o := { dst := none, op := Op.store 110 (Operand.tmp 6) (Operand.tmp 21), type := 0, pos := "grid.go:75", after := #[{ on := 15, ground := Ground.data }, { on := 13, ground := Ground.data }, { on := 16, ground := Ground.chain }, { on := 0, ground := Ground.phase }, { on := 1, ground := Ground.phase }, { on := 2, ground := Ground.phase }, { on := 3, ground := Ground.phase }, { on := 4, ground := Ground.phase }, { on := 5, ground := Ground.phase }, { on := 6, ground := Ground.phase }, { on := 7, ground := Ground.phase }, { on := 8, ground := Ground.phase }, { on := 9, ground := Ground.phase }, { on := 10, ground := Ground.phase }, { on := 11, ground := Ground.phase }, { on := 12, ground := Ground.phase }, { on := 13, ground := Ground.phase }, { on := 14, ground := Ground.phase }, { on := 15, ground := Ground.phase }, { on := 16, ground := Ground.phase }], guard := none }) rfl (fun K hK => ?_) AllReadyH.nil
          go_simp
          have hS := H6c.out _ ((U0.heap.size)) m1 m2 (by with_reducible assumption) (g6 rfl).1
          refine hK.out _ _ hS (fun hHeld => ?_)
          clear hK K
          try go_frame
          have q6 := Put.own m1 m2 g6
          have q50 := (Put.other W10 ((U0.heap.size)) m1 m2 hne (o := 0)).trans g5.1
          have q51 := (Put.other W10 ((U0.heap.size)) m1 m2 hne (o := 1)).trans g5.2
          refine wpAnyH_done (by kernel_rfl) ?_ _
          go_wp2_with fail
          go_meet
          exact ⟨((x3.heap.size)), ((U0.heap.size)), rfl, rfl, Lib.hid ⟨q50, q51⟩, Lib.hid ⟨q6.1, q6.2⟩, (f5_4 rfl).1, (f6_4 rfl).1, Lib.hid hHeld.2.2.2.2.2.2⟩
        · go_simp
          have hS3 := H6n.out _ _ (by with_reducible assumption) (below_alloc x2 (.cells #[.int .i64 0, .int .i64 0] 110))
          have f5_3 : Fr (x2.alloc (.cells #[.int .i64 0, .int .i64 0] 110)) (V.heap.size) true (x2.heap.size) := by simpa using Fr.new x2 (V.heap.size) _ (by first | assumption | (simp; omega))
          have f6_3 := Fr.keep (below_alloc x2 (.cells #[.int .i64 0, .int .i64 0] 110)) f6_2
          refine hK.out _ _ (by with_reducible assumption) (fun hHeld => ?_)
          clear hK K
          try go_frame
          refine wpAnyH_ready (rs := [13]) (by kernel_rfl) (by simp) ?_
          refine AllReadyH.cons (i := 13) (o := { dst := some 21, op := Op.call { callee := Callee.value (Operand.func 68), args := #[Operand.tmp 18, Operand.tmp 20], argTypes := #[91, 23] }, type := 110, pos := "grid.go:75", after := #[{ on := 10, ground := Ground.data }, { on := 12, ground := Ground.data }, { on := 6, ground := Ground.chain }], guard := none }) rfl (fun K hK => ?_) AllReadyH.nil
          go_simp
          go_at_call 68
          refine Calls.mono (HF2.out _) ?_
          rintro e x4 ⟨rfl, hb4⟩
          have hS4 := H6n.out _ _ (by with_reducible assumption) hb4
          have hU4 : V.heap.size ≤ x4.heap.size := Nat.le_trans (by first | assumption | omega | (simp; omega)) hb4.size
          have f5_4 := Fr.keep hb4 f5_3
          have f6_4 := Fr.keep hb4 f6_3
          have hlk5_4 : (x2.heap.size) < x4.heap.size := Fr.lt f5_4 rfl
          have hlk6_4 : (U0.heap.size) < x4.heap.size := Fr.lt f6_4 rfl
          refine hK.out _ _ (by with_reducible assumption) (fun hHeld => ?_)
          clear hK K
          try go_frame
          have hne : (x2.heap.size) ≠ (U0.heap.size) := by first | omega | (simp; done) | (simp; omega)
          obtain ⟨_, p0, p1, p2, p3⟩ := f5_4 rfl
          refine wpAnyH_ready (rs := [16]) (by kernel_rfl) (by simp) ?_
          refine AllReadyH.cons (i := 16) (o := { dst := none, op := Op.store 110 (Operand.tmp 5) (Operand.tmp 14), type := 0, pos := "grid.go:75", after := #[{ on := 14, ground := Ground.data }, { on := 6, ground := Ground.data }, { on := 13, ground := Ground.chain }, { on := 0, ground := Ground.phase }, { on := 1, ground := Ground.phase }, { on := 2, ground := Ground.phase }, { on := 3, ground := Ground.phase }, { on := 4, ground := Ground.phase }, { on := 5, ground := Ground.phase }, { on := 6, ground := Ground.phase }, { on := 7, ground := Ground.textOnly Departure.lateStores }, { on := 8, ground := Ground.textOnly Departure.lateStores }, { on := 9, ground := Ground.textOnly Departure.lateStores }, { on := 10, ground := Ground.textOnly Departure.lateStores }, { on := 11, ground := Ground.textOnly Departure.lateStores }, { on := 12, ground := Ground.textOnly Departure.lateStores }, { on := 13, ground := Ground.textOnly Departure.lateStoresUnsure }, { on := 14, ground := Ground.phase }, { on := 15, ground := Ground.phase }], guard := none }) rfl (fun K hK => ?_) AllReadyH.nil
          go_simp
          have hS := H6c.out _ ((x2.heap.size)) l1 l2 (by with_reducible assumption) (f5_4 rfl).1
          refine hK.out _ _ hS (fun hHeld => ?_)
          clear hK K
          try go_frame
          have g6 := Fr.put l1 l2 f6_4 (Ne.symm hne)
          have g5 := Put.own l1 l2 f5_4
          clear p0 p1 p2 p3 hS
          change wpAnyH _ _ _ _ _ _ _ _ (Put x4 ((x2.heap.size)) l1 l2)
          have hHeld2 := H6.out _ (show Below _ _ (Put x4 ((x2.heap.size)) l1 l2) from hHeld.2.2.2.2.2.2)
          clear hHeld
          generalize Put x4 ((x2.heap.size)) l1 l2 = W10 at *
          obtain ⟨_, p0, p1, p2, p3⟩ := g6 rfl
          refine wpAnyH_ready (rs := [17]) (by kernel_rfl) (by simp) ?_
          refine AllReadyH.cons (i := 17) (o := { dst := none, op := Op.store 110 (Operand.tmp 6) (Operand.tmp 21), type := 0, pos := "grid.go:75", after := #[{ on := 15, ground := Ground.data }, { on := 13, ground := Ground.data }, { on := 16, ground := Ground.chain }, { on := 0, ground := Ground.phase }, { on := 1, ground := Ground.phase }, { on := 2, ground := Ground.phase }, { on := 3, ground := Ground.phase }, { on := 4, ground := Ground.phase }, { on := 5, ground := Ground.phase }, { on := 6, ground := Ground.phase }, { on := 7, ground := Ground.phase }, { on := 8, ground := Ground.phase }, { on := 9, ground := Ground.phase }, { on := 10, ground := Ground.phase }, { on := 11, ground := Ground.phase }, { on := 12, ground := Ground.phase }, { on := 13, ground := Ground.phase }, { on := 14, ground := Ground.phase }, { on := 15, ground := Ground.phase }, { on := 16, ground := Ground.phase }], guard := none }) rfl (fun K hK => ?_) AllReadyH.nil
          go_simp
          have hS := H6c.out _ ((U0.heap.size)) m1 m2 (by with_reducible assumption) (g6 rfl).1
          refine hK.out _ _ hS (fun hHeld => ?_)
          clear hK K
          try go_frame
          have q6 := Put.own m1 m2 g6
          have q50 := (Put.other W10 ((U0.heap.size)) m1 m2 hne (o := 0)).trans g5.1
          have q51 := (Put.other W10 ((U0.heap.size)) m1 m2 hne (o := 1)).trans g5.2
          refine wpAnyH_done (by kernel_rfl) ?_ _
          go_wp2_with fail
          go_meet
          exact ⟨((x2.heap.size)), ((U0.heap.size)), rfl, rfl, Lib.hid ⟨q50, q51⟩, Lib.hid ⟨q6.1, q6.2⟩, (f5_4 rfl).1, (f6_4 rfl).1, Lib.hid hHeld.2.2.2.2.2.2⟩
      · go_simp
        have hS2 := H6n.out _ _ (by with_reducible assumption) (below_alloc (U0.alloc (.cells #[.int .i64 0, .int .i64 0] 110)) (.cells #[.int .i64 0, .int .i64 0] 110))
        have f5_2 : Fr ((U0.alloc (.cells #[.int .i64 0, .int .i64 0] 110)).alloc (.cells #[.int .i64 0, .int .i64 0] 110)) (V.heap.size) true (U0.heap.size + 1) := by simpa using Fr.new (U0.alloc (.cells #[.int .i64 0, .int .i64 0] 110)) (V.heap.size) _ (by first | assumption | (simp; omega))
        have f6_2 := Fr.keep (below_alloc (U0.alloc (.cells #[.int .i64 0, .int .i64 0] 110)) (.cells #[.int .i64 0, .int .i64 0] 110)) f6_1
        refine hK.out _ _ (by with_reducible assumption) (fun hHeld => ?_)
        clear hK K
        try go_frame
        refine wpAnyH_ready (rs := [6]) (by kernel_rfl) (by simp) ?_
        refine AllReadyH.cons (i := 6) (o := { dst := some 14, op := Op.call { callee := Callee.value (Operand.func 68), args := #[Operand.tmp 11, Operand.tmp 13], argTypes := #[91, 23] }, type := 110, pos := "grid.go:75", after := #[{ on := 3, ground := Ground.data }, { on := 5, ground := Ground.data }], guard := none }) rfl (fun K hK => ?_) AllReadyH.nil
        go_simp
        go_at_call 68
        refine Calls.mono (HF1.out _) ?_
        rintro e x3 ⟨rfl, hb3⟩
        have hS3 := H6n.out _ _ (by with_reducible assumption) hb3
        have hU3 : V.heap.size ≤ x3.heap.size := Nat.le_trans (by first | assumption | omega | (simp; omega)) hb3.size
        have f5_3 := Fr.keep hb3 f5_2
        have f6_3 := Fr.keep hb3 f6_2
        have hlk5_3 : (U0.heap.size + 1) < x3.heap.size := Fr.lt f5_3 rfl
        have hlk6_3 : (U0.heap.size) < x3.heap.size := Fr.lt f6_3 rfl
        refine hK.out _ _ (by with_reducible assumption) (fun hHeld => ?_)
        clear hK K
        try go_frame
        refine wpAnyH_ready (rs := [13]) (by kernel_rfl) (by simp) ?_
        refine AllReadyH.cons (i := 13) (o := { dst := some 21, op := Op.call { callee := Callee.value (Operand.func 68), args := #[Operand.tmp 18, Operand.tmp 20], argTypes := #[91, 23] }, type := 110, pos := "grid.go:75", after := #[{ on := 10, ground := Ground.data }, { on := 12, ground := Ground.data }, { on := 6, ground := Ground.chain }], guard := none }) rfl (fun K hK => ?_) AllReadyH.nil
        go_simp
        go_at_call 68
        refine Calls.mono (HF2.out _) ?_
        rintro e x4 ⟨rfl, hb4⟩
        have hS4 := H6n.out _ _ (by with_reducible assumption) hb4
        have hU4 : V.heap.size ≤ x4.heap.size := Nat.le_trans (by first | assumption | omega | (simp; omega)) hb4.size
        have f5_4 := Fr.keep hb4 f5_3
        have f6_4 := Fr.keep hb4 f6_3
        have hlk5_4 : (U0.heap.size + 1) < x4.heap.size := Fr.lt f5_4 rfl
        have hlk6_4 : (U0.heap.size) < x4.heap.size := Fr.lt f6_4 rfl
        refine hK.out _ _ (by with_reducible assumption) (fun hHeld => ?_)
        clear hK K
        try go_frame
        have hne : (U0.heap.size + 1) ≠ (U0.heap.size) := by first | omega | (simp; done) | (simp; omega)
        obtain ⟨_, p0, p1, p2, p3⟩ := f5_4 rfl
        refine wpAnyH_ready (rs := [16]) (by kernel_rfl) (by simp) ?_
        refine AllReadyH.cons (i := 16) (o := { dst := none, op := Op.store 110 (Operand.tmp 5) (Operand.tmp 14), type := 0, pos := "grid.go:75", after := #[{ on := 14, ground := Ground.data }, { on := 6, ground := Ground.data }, { on := 13, ground := Ground.chain }, { on := 0, ground := Ground.phase }, { on := 1, ground := Ground.phase }, { on := 2, ground := Ground.phase }, { on := 3, ground := Ground.phase }, { on := 4, ground := Ground.phase }, { on := 5, ground := Ground.phase }, { on := 6, ground := Ground.phase }, { on := 7, ground := Ground.textOnly Departure.lateStores }, { on := 8, ground := Ground.textOnly Departure.lateStores }, { on := 9, ground := Ground.textOnly Departure.lateStores }, { on := 10, ground := Ground.textOnly Departure.lateStores }, { on := 11, ground := Ground.textOnly Departure.lateStores }, { on := 12, ground := Ground.textOnly Departure.lateStores }, { on := 13, ground := Ground.textOnly Departure.lateStoresUnsure }, { on := 14, ground := Ground.phase }, { on := 15, ground := Ground.phase }], guard := none }) rfl (fun K hK => ?_) AllReadyH.nil
        go_simp
        have hS := H6c.out _ ((U0.heap.size + 1)) l1 l2 (by with_reducible assumption) (f5_4 rfl).1
        refine hK.out _ _ hS (fun hHeld => ?_)
        clear hK K
        try go_frame
        have g6 := Fr.put l1 l2 f6_4 (Ne.symm hne)
        have g5 := Put.own l1 l2 f5_4
        clear p0 p1 p2 p3 hS
        change wpAnyH _ _ _ _ _ _ _ _ (Put x4 ((U0.heap.size + 1)) l1 l2)
        have hHeld2 := H6.out _ (show Below _ _ (Put x4 ((U0.heap.size + 1)) l1 l2) from hHeld.2.2.2.2.2.2)
        clear hHeld
        generalize Put x4 ((U0.heap.size + 1)) l1 l2 = W10 at *
        obtain ⟨_, p0, p1, p2, p3⟩ := g6 rfl
        refine wpAnyH_ready (rs := [17]) (by kernel_rfl) (by simp) ?_
        refine AllReadyH.cons (i := 17) (o := { dst := none, op := Op.store 110 (Operand.tmp 6) (Operand.tmp 21), type := 0, pos := "grid.go:75", after := #[{ on := 15, ground := Ground.data }, { on := 13, ground := Ground.data }, { on := 16, ground := Ground.chain }, { on := 0, ground := Ground.phase }, { on := 1, ground := Ground.phase }, { on := 2, ground := Ground.phase }, { on := 3, ground := Ground.phase }, { on := 4, ground := Ground.phase }, { on := 5, ground := Ground.phase }, { on := 6, ground := Ground.phase }, { on := 7, ground := Ground.phase }, { on := 8, ground := Ground.phase }, { on := 9, ground := Ground.phase }, { on := 10, ground := Ground.phase }, { on := 11, ground := Ground.phase }, { on := 12, ground := Ground.phase }, { on := 13, ground := Ground.phase }, { on := 14, ground := Ground.phase }, { on := 15, ground := Ground.phase }, { on := 16, ground := Ground.phase }], guard := none }) rfl (fun K hK => ?_) AllReadyH.nil
        go_simp
        have hS := H6c.out _ ((U0.heap.size)) m1 m2 (by with_reducible assumption) (g6 rfl).1
        refine hK.out _ _ hS (fun hHeld => ?_)
        clear hK K
        try go_frame
        have q6 := Put.own m1 m2 g6
        have q50 := (Put.other W10 ((U0.heap.size)) m1 m2 hne (o := 0)).trans g5.1
        have q51 := (Put.other W10 ((U0.heap.size)) m1 m2 hne (o := 1)).trans g5.2
        refine wpAnyH_done (by kernel_rfl) ?_ _
        go_wp2_with fail
        go_meet
        exact ⟨((U0.heap.size + 1)), ((U0.heap.size)), rfl, rfl, Lib.hid ⟨q50, q51⟩, Lib.hid ⟨q6.1, q6.2⟩, (f5_4 rfl).1, (f6_4 rfl).1, Lib.hid hHeld.2.2.2.2.2.2⟩
  case rest =>
    obtain ⟨kl, kh, rfl, rfl, HL, HH, hl, hh, HBc⟩ := hcut
    have HBw := Lib.hid (below_after HB0.out HBc.out)
    have g2 := cell_later HBc.out HD2.out
    obtain ⟨p0, p1⟩ := HL.out
    obtain ⟨r0, r1⟩ := HH.out
    obtain ⟨i1, i2, i3, i4, i5, i6⟩ := HFI.out
    have x1 : IntKind.i64.wrap (m1 - l1) = m1 - l1 := IntWalk.i64_in _ (by omega)
    have x2 : IntKind.i64.wrap (m1 - l1 + 1) = m1 - l1 + 1 := IntWalk.i64_in _ (by omega)
    have x3 : IntKind.i64.wrap (m2 - l2) = m2 - l2 := IntWalk.i64_in _ (by omega)
    have x4 : IntKind.i64.wrap (m2 - l2 + 1) = m2 - l2 + 1 := IntWalk.i64_in _ (by omega)
    have hm := mulF_in (a := m1 - l1 + 1) (b := m2 - l2 + 1) (by omega) (by omega) (by omega) (by omega)
    have x5 : IntKind.i64.wrap ((m1 - l1 + 1) * (m2 - l2 + 1)) = (m1 - l1 + 1) * (m2 - l2 + 1) := IntWalk.i64_in _ (by omega)
    go_wp2_with fail
    exact HFin.out _ _ ⟨_, rfl, fun hn => decide_eq_true (by have := hm.1; omega), HBw.out⟩
end Go.Proofs.Ytenfaejdnphngaa
