/- Walks of bits.Len, doublings, sizeOf, field, touched. -/
import Derived.Test.YtenfaejdnphngaaRowsA
import Derived.Test.YtenfaejdnphngaaInv
import Derived.Test.YtenfaejdnphngaaBits
import Derived.Maps.RangeWalk
namespace Go.Proofs.Ytenfaejdnphngaa
open Go.RowKit

theorem len_any (x : Int) (w : World) (h0 : 0 ≤ x) (h1 : x ≤ 67108864) :
    Calls Try.prog 69 #[.int .u64 x] w fun e w' => e = .returned (.int .i64 (Lib.bitLen x.toNat)) ∧ w' = w := by
  go_enter Try.func69, Try.ntmps69
  go_wp2_with (go_at_call 56; refine (len64_any x _ h0 h1).mono ?_; rintro e w' ⟨rfl, rfl⟩)
  go_ret
  exact ⟨rfl, rfl⟩
def dblV (n : Int) : Int := ((Lib.bitLen n.toNat : Int) + 2) / 3 * 3
theorem dblV_in (n : Int) (h0 : 0 ≤ n) (h1 : n ≤ 67108864) : 0 ≤ dblV n ∧ dblV n ≤ 27 := by
  have := blen_le n h0 h1
  unfold dblV
  omega
set_option maxHeartbeats 1000000 in
theorem dbl_any (n : Int) (w : World) (h0 : 0 ≤ n) (h1 : n ≤ 67108864) : Calls Try.prog 59 #[.int .i64 n] w fun e w' => e = .returned (.int .i64 (dblV n)) ∧ w' = w := by
  have HL := Lib.hid (fun W => len_any n W h0 h1)
  have hb := blen_le n h0 h1
  have xn : IntKind.u64.wrap n = n := by
    have : IntKind.u64.wrap n = n % 18446744073709551616 := rfl
    rw [this]; omega
  have HV : Hid (dblV n = ((Lib.bitLen n.toNat : Int) + 2) / 3 * 3) := Lib.hid rfl
  generalize dblV n = d at *
  generalize Lib.bitLen n.toNat = l at *
  have x1 : IntKind.i64.wrap ((l : Int) + 3) = (l : Int) + 3 := IntWalk.i64_in _ (by omega)
  have x2 : IntKind.i64.wrap ((l : Int) + 3 - 1) = (l : Int) + 2 := by rw [IntWalk.i64_in _ (by omega)]; omega
  have x3 : ((l : Int) + 2).tdiv 3 = ((l : Int) + 2) / 3 := Int.tdiv_eq_ediv_of_nonneg (by omega)
  have x4 : IntKind.i64.wrap (((l : Int) + 2) / 3) = ((l : Int) + 2) / 3 := IntWalk.i64_in _ (by omega)
  have x5 : IntKind.i64.wrap (((l : Int) + 2) / 3 * 3) = ((l : Int) + 2) / 3 * 3 := IntWalk.i64_in _ (by omega)
  clear hb
  go_enter Try.func59, Try.ntmps59
  go_wp2_with fail
  go_at_call 69
  refine (HL.out _).mono ?_
  rintro e w' ⟨rfl, rfl⟩
  go_wp2_with fail
  go_ret
  exact ⟨ret_int HV.out.symm, rfl⟩
def enc2 (s : Int × Int) : Value := .agg #[.int .i64 s.1, .int .i64 s.2]
def szB (b : B4) : Int × Int := (dblV (b.2.2.1 - b.1), dblV (b.2.2.2 - b.2.1))
theorem rgt_in {b : B4} (h : rgtB b = true) : -16777216 ≤ b.1 ∧ b.1 ≤ b.2.2.1 ∧ b.2.2.1 ≤ 16777216 ∧ -16777216 ≤ b.2.1 ∧ b.2.1 ≤ b.2.2.2 ∧ b.2.2.2 ≤ 16777216 := by
  unfold rgtB risB ok2 okp at h
  simp only [Bool.and_eq_true, decide_eq_true_eq] at h
  obtain ⟨⟨⟨h1, h2⟩, h3, h4⟩, h5, h6⟩ := h
  have := bnd_yes h1
  have := bnd_yes h2
  have := bnd_yes h3
  have := bnd_yes h4
  omega
theorem szB_in {b : B4} (h : rgtB b = true) : 0 ≤ (szB b).1 ∧ (szB b).1 ≤ 27 ∧ 0 ≤ (szB b).2 ∧ (szB b).2 ≤ 27 := by
  have := rgt_in h
  have h1 := dblV_in (b.2.2.1 - b.1) (by omega) (by omega)
  have h2 := dblV_in (b.2.2.2 - b.2.1) (by omega) (by omega)
  exact ⟨h1.1, h1.2, h2.1, h2.2⟩
set_option maxRecDepth 100000 in
set_option maxHeartbeats 2000000 in
theorem sizeof_any (b : B4) (hb : rgtB b = true) (w : World) : Calls Try.prog 48 #[encB b] w fun e w' => e = .returned (enc2 (szB b)) ∧ Below w.heap.size w w' := by
  have hmx : Try.prog.follows .mixedOrders = true := by kernel_rfl
  have hin := rgt_in hb
  clear hb
  have HZ : Hid (szB b = (dblV (b.2.2.1 - b.1), dblV (b.2.2.2 - b.2.1))) := Lib.hid rfl
  generalize szB b = sz at *
  obtain ⟨x, y, u, v⟩ := b
  obtain ⟨sx, sy⟩ := sz
  obtain ⟨h1, h2, h3, h4, h5, h6⟩ := hin
  simp only at h1 h2 h3 h4 h5 h6 HZ
  have xa : IntKind.i64.wrap (u - x) = u - x := IntWalk.i64_in _ (by omega)
  have xb : IntKind.i64.wrap (v - y) = v - y := IntWalk.i64_in _ (by omega)
  have HDx := Lib.hid (fun W => dbl_any (u - x) W (by omega) (by omega))
  have HDy := Lib.hid (fun W => dbl_any (v - y) W (by omega) (by omega))
  generalize dblV (u - x) = dx at *
  generalize dblV (v - y) = dy at *
  obtain ⟨rfl, rfl⟩ : sx = dx ∧ sy = dy := by have := HZ.out; injection this with e1 e2; exact ⟨e1, e2⟩
  have HB : Hid (∀ A B : Obj, Below w.heap.size w ((w.alloc A).alloc B)) := Lib.hid (fun A B => below_after (below_alloc _ _) (below_alloc _ _))
  have HN := Lib.hid ((bx_new w (x, y, u, v) 25).keep (below_alloc _ (.cells #[.int .i64 0, .int .i64 0] 91)))
  clear h1 h2 h3 h4 h5 h6 HZ
  unfold encB enc2
  go_enter Try.func48, Try.ntmps48
  go_upto_region 1 with fail
  obtain ⟨c0, c1, c2, c3⟩ := HN.out
  simp only [Nat.zero_add] at c0 c1 c2 c3
  clear HN
  go_region_held3 (fun W => W.cell? ⟨w.heap.size, 0, none⟩ = some (.int .i64 x) ∧ W.cell? ⟨w.heap.size, 1, none⟩ = some (.int .i64 y) ∧ W.cell? ⟨w.heap.size, 2, none⟩ = some (.int .i64 u) ∧ W.cell? ⟨w.heap.size, 3, none⟩ = some (.int .i64 v)) (first | (with_reducible assumption) | exact ⟨c0, c1, c2, c3⟩ | go_keep) (first | (go_at_call 59; with_reducible refine Calls.mono (HDx.out _) ?_; rintro e w1 ⟨rfl, rfl⟩) | (go_at_call 59; with_reducible refine Calls.mono (HDy.out _) ?_; rintro e w2 ⟨rfl, rfl⟩))
  all_goals
    go_wp2_with fail
    exact bodyPost_ret (v := .agg #[.int .i64 sx, .int .i64 sy]) (by simp [results, Try.results48, go_sem]) rfl ⟨rfl, (HB.out _ _).drew⟩
def fld (s p : Int × Int) : Int × Int := (p.1 / 2 ^ s.1.toNat, p.2 / 2 ^ s.2.toNat)
set_option maxRecDepth 100000 in
set_option maxHeartbeats 2000000 in
theorem field_any (s p : Int × Int) (h1 : 0 ≤ s.1) (h2 : 0 ≤ s.2) (h3 : s.1 ≤ 60) (h4 : s.2 ≤ 60) (w : World) : Calls Try.prog 68 #[enc2 s, .agg #[.int .i64 p.1, .int .i64 p.2]] w fun e w' => e = .returned (enc2 (fld s p)) ∧ Below w.heap.size w w' := by
  have hmx : Try.prog.follows .mixedOrders = true := by kernel_rfl
  obtain ⟨s1, s2⟩ := s
  obtain ⟨x, y⟩ := p
  simp only at h1 h2 h3 h4
  have HB : Hid (∀ A B C : Obj, Below w.heap.size w (((w.alloc A).alloc B).alloc C)) := Lib.hid (fun A B C => below_after (below_after (below_alloc _ _) (below_alloc _ _)) (below_alloc _ _))
  unfold enc2 fld
  go_enter Try.func68, Try.ntmps68
  go_upto_region 1 with fail
  go_region
  go_wp2_with fail
  exact bodyPost_ret (v := .agg #[.int .i64 (x / 2 ^ s1.toNat), .int .i64 (y / 2 ^ s2.toNat)]) (by simp [results, Try.results68, go_sem]) rfl ⟨rfl, (HB.out _ _ _).drew⟩
/-- Two numbers in a block of their own. -/
def P2At (W : World) (k : Nat) (s : Int × Int) : Prop := W.cell? ⟨k, 0, none⟩ = some (.int .i64 s.1) ∧ W.cell? ⟨k, 1, none⟩ = some (.int .i64 s.2)
theorem P2At.keep {W W1 : World} {k : Nat} {s : Int × Int} (h : P2At W k s) (b : Below W.heap.size W W1) : P2At W1 k s := ⟨cell_later b h.1, cell_later b h.2⟩
def ToPost (w : World) (s : Int × Int) (b : B4) (en : Ending) (w' : World) : Prop :=
  ∃ kl kh, en = .returned (.func (.func 70) #[] #[.pointer (some ⟨kl, 0, none⟩), .pointer (some ⟨kh, 0, none⟩)]) ∧ P2At w' kl (fld s (b.1, b.2.1)) ∧ P2At w' kh (fld s (b.2.2.1, b.2.2.2)) ∧ w.heap.size ≤ kl ∧ w.heap.size ≤ kh ∧ Below w.heap.size w w'
set_option maxRecDepth 100000 in
set_option maxHeartbeats 4000000 in
theorem touched_any (s : Int × Int) (b : B4) (h1 : 0 ≤ s.1) (h2 : 0 ≤ s.2) (h3 : s.1 ≤ 60) (h4 : s.2 ≤ 60) (w : World) : Calls Try.prog 60 #[enc2 s, encB b] w (ToPost w s b) := by
  have hmx : Try.prog.follows .mixedOrders = true := by kernel_rfl
  have HF1 := Lib.hid (fun W => field_any s (b.1, b.2.1) h1 h2 h3 h4 W)
  have HF2 := Lib.hid (fun W => field_any s (b.2.2.1, b.2.2.2) h1 h2 h3 h4 W)
  have HFin : Hid (∀ en w', (∃ kl kh, en = .returned (.func (.func 70) #[] #[.pointer (some ⟨kl, 0, none⟩), .pointer (some ⟨kh, 0, none⟩)]) ∧ P2At w' kl (fld s (b.1, b.2.1)) ∧ P2At w' kh (fld s (b.2.2.1, b.2.2.2)) ∧ w.heap.size ≤ kl ∧ w.heap.size ≤ kh ∧ Below w.heap.size w w') → ToPost w s b en w') := Lib.hid (fun _ _ h => h)
  generalize ToPost w s b = TP at *
  generalize fld s (b.1, b.2.1) = l at *
  generalize fld s (b.2.2.1, b.2.2.2) = m at *
  obtain ⟨l1, l2⟩ := l
  obtain ⟨m1, m2⟩ := m
  obtain ⟨x, y, u, v⟩ := b
  obtain ⟨s1, s2⟩ := s
  clear h1 h2 h3 h4
  have HN := Lib.hid ((bx_new (w.alloc (.cells #[.int .i64 s1, .int .i64 s2] 91)) (x, y, u, v) 25))
  have HS : Hid (P2At ((w.alloc (.cells #[.int .i64 s1, .int .i64 s2] 91)).alloc (.cells #[.int .i64 x, .int .i64 y, .int .i64 u, .int .i64 v] 25)) w.heap.size (s1, s2)) := Lib.hid (by constructor <;> go_simp)
  have HB0 : Hid (Below w.heap.size w ((w.alloc (.cells #[.int .i64 s1, .int .i64 s2] 91)).alloc (.cells #[.int .i64 x, .int .i64 y, .int .i64 u, .int .i64 v] 25))) := Lib.hid (below_after (below_alloc _ _) (below_alloc _ _))
  unfold encB enc2 at *
  simp only at HF1 HF2
  go_enter Try.func60, Try.ntmps60
  go_upto_region 1 with fail
  simp only [World.size_alloc] at HN
  generalize (w.alloc (.cells #[.int .i64 s1, .int .i64 s2] 91)).alloc (.cells #[.int .i64 x, .int .i64 y, .int .i64 u, .int .i64 v] 25) = V at *
  obtain ⟨c0, c1, c2, c3⟩ := HN.out
  obtain ⟨s0, s1'⟩ := HS.out
  simp only [Nat.zero_add] at c0 c1 c2 c3 s0 s1'
  have H6 : Hid (∀ W : World, Below V.heap.size V W → W.cell? ⟨w.heap.size, 0, none⟩ = some (.int .i64 s1) ∧ W.cell? ⟨w.heap.size, 1, none⟩ = some (.int .i64 s2) ∧ W.cell? ⟨w.heap.size + 1, 0, none⟩ = some (.int .i64 x) ∧ W.cell? ⟨w.heap.size + 1, 1, none⟩ = some (.int .i64 y) ∧ W.cell? ⟨w.heap.size + 1, 2, none⟩ = some (.int .i64 u) ∧ W.cell? ⟨w.heap.size + 1, 3, none⟩ = some (.int .i64 v) ∧ Below V.heap.size V W) := Lib.hid (fun W h => ⟨cell_later h s0, cell_later h s1', cell_later h c0, cell_later h c1, cell_later h c2, cell_later h c3, h⟩)
  have H6n : Hid (∀ W W1 : World, (W.cell? ⟨w.heap.size, 0, none⟩ = some (.int .i64 s1) ∧ W.cell? ⟨w.heap.size, 1, none⟩ = some (.int .i64 s2) ∧ W.cell? ⟨w.heap.size + 1, 0, none⟩ = some (.int .i64 x) ∧ W.cell? ⟨w.heap.size + 1, 1, none⟩ = some (.int .i64 y) ∧ W.cell? ⟨w.heap.size + 1, 2, none⟩ = some (.int .i64 u) ∧ W.cell? ⟨w.heap.size + 1, 3, none⟩ = some (.int .i64 v) ∧ Below V.heap.size V W) → Below W.heap.size W W1 → W1.cell? ⟨w.heap.size, 0, none⟩ = some (.int .i64 s1) ∧ W1.cell? ⟨w.heap.size, 1, none⟩ = some (.int .i64 s2) ∧ W1.cell? ⟨w.heap.size + 1, 0, none⟩ = some (.int .i64 x) ∧ W1.cell? ⟨w.heap.size + 1, 1, none⟩ = some (.int .i64 y) ∧ W1.cell? ⟨w.heap.size + 1, 2, none⟩ = some (.int .i64 u) ∧ W1.cell? ⟨w.heap.size + 1, 3, none⟩ = some (.int .i64 v) ∧ Below V.heap.size V W1) := Lib.hid (fun W W1 h k => H6.out W1 (below_after h.2.2.2.2.2.2 k))
  have H6c : Hid (∀ (W : World) (k : Nat) (p q : Int), (W.cell? ⟨w.heap.size, 0, none⟩ = some (.int .i64 s1) ∧ W.cell? ⟨w.heap.size, 1, none⟩ = some (.int .i64 s2) ∧ W.cell? ⟨w.heap.size + 1, 0, none⟩ = some (.int .i64 x) ∧ W.cell? ⟨w.heap.size + 1, 1, none⟩ = some (.int .i64 y) ∧ W.cell? ⟨w.heap.size + 1, 2, none⟩ = some (.int .i64 u) ∧ W.cell? ⟨w.heap.size + 1, 3, none⟩ = some (.int .i64 v) ∧ Below V.heap.size V W) → V.heap.size ≤ k → (Put W k p q).cell? ⟨w.heap.size, 0, none⟩ = some (.int .i64 s1) ∧ (Put W k p q).cell? ⟨w.heap.size, 1, none⟩ = some (.int .i64 s2) ∧ (Put W k p q).cell? ⟨w.heap.size + 1, 0, none⟩ = some (.int .i64 x) ∧ (Put W k p q).cell? ⟨w.heap.size + 1, 1, none⟩ = some (.int .i64 y) ∧ (Put W k p q).cell? ⟨w.heap.size + 1, 2, none⟩ = some (.int .i64 u) ∧ (Put W k p q).cell? ⟨w.heap.size + 1, 3, none⟩ = some (.int .i64 v) ∧ Below V.heap.size V (Put W k p q)) := Lib.hid (fun W k p q h hk => H6.out _ (Put.below p q h.2.2.2.2.2.2 hk))
  have hD := H6.out _ ((Below.refl V.heap.size V).drew)
  have hU0 : V.heap.size ≤ V.drew.heap.size := Nat.le_refl _
  clear c0 c1 c2 c3 s0 s1' HN HS
  go_cut [5, 6] (fun l h W => ∃ kl kh, l = .pointer (some ⟨kl, 0, none⟩) ∧ h = .pointer (some ⟨kh, 0, none⟩) ∧ Hid (P2At W kl (l1, l2)) ∧ Hid (P2At W kh (m1, m2)) ∧ V.heap.size ≤ kl ∧ V.heap.size ≤ kh ∧ Hid (Below V.heap.size V W))
  case first =>
    refine wp_region_held_drew (S := (fun W : World => W.cell? ⟨w.heap.size, 0, none⟩ = some (.int .i64 s1) ∧ W.cell? ⟨w.heap.size, 1, none⟩ = some (.int .i64 s2) ∧ W.cell? ⟨w.heap.size + 1, 0, none⟩ = some (.int .i64 x) ∧ W.cell? ⟨w.heap.size + 1, 1, none⟩ = some (.int .i64 y) ∧ W.cell? ⟨w.heap.size + 1, 2, none⟩ = some (.int .i64 u) ∧ W.cell? ⟨w.heap.size + 1, 3, none⟩ = some (.int .i64 v) ∧ Below V.heap.size V W)) (by kernel_rfl) hD (fun hHeld => ?_)
    generalize hU0e : V.drew = U0 at *
    clear hU0e
    refine wpAnyH_take (i := 0) (oi := { dst := some 7, op := Op.load 91 (Operand.tmp 2), type := 91, pos := "grid.go:51", after := #[], guard := none }) (v := ?_) rfl (by kernel_rfl) (by kernel_rfl) (by kernel_rfl) (fun _ _ _ h => h) (Or.inl ⟨by rfl, ?_⟩) (by with_reducible assumption) ?_
    rotate_left
    focus (intro wS hSw; (try dsimp only at hSw); go_simp <;> with_reducible rfl)
    try go_frame
    refine wpAnyH_take (i := 1) (oi := { dst := some 8, op := Op.fieldAddr 25 (Operand.tmp 3) 0, type := 0, pos := "grid.go:51", after := #[], guard := none }) (v := ?_) rfl (by kernel_rfl) (by kernel_rfl) (by kernel_rfl) (fun _ _ _ h => h) (Or.inl ⟨by rfl, ?_⟩) (by with_reducible assumption) ?_
    rotate_left
    focus (intro wS hSw; (try dsimp only at hSw); go_simp <;> with_reducible rfl)
    try go_frame
    refine wpAnyH_take (i := 2) (oi := { dst := some 9, op := Op.load 23 (Operand.tmp 8), type := 23, pos := "grid.go:51", after := #[{ on := 1, ground := Ground.data }], guard := none }) (v := ?_) rfl (by kernel_rfl) (by kernel_rfl) (by kernel_rfl) (fun _ _ _ h => h) (Or.inl ⟨by rfl, ?_⟩) (by with_reducible assumption) ?_
    rotate_left
    focus (intro wS hSw; (try dsimp only at hSw); go_simp <;> with_reducible rfl)
    try go_frame
    refine wpAnyH_take (i := 4) (oi := { dst := some 11, op := Op.load 91 (Operand.tmp 2), type := 91, pos := "grid.go:51", after := #[], guard := none }) (v := ?_) rfl (by kernel_rfl) (by kernel_rfl) (by kernel_rfl) (fun _ _ _ h => h) (Or.inl ⟨by rfl, ?_⟩) (by with_reducible assumption) ?_
    rotate_left
    focus (intro wS hSw; (try dsimp only at hSw); go_simp <;> with_reducible rfl)
    try go_frame
    refine wpAnyH_take (i := 5) (oi := { dst := some 12, op := Op.fieldAddr 25 (Operand.tmp 3) 1, type := 0, pos := "grid.go:51", after := #[], guard := none }) (v := ?_) rfl (by kernel_rfl) (by kernel_rfl) (by kernel_rfl) (fun _ _ _ h => h) (Or.inl ⟨by rfl, ?_⟩) (by with_reducible assumption) ?_
    rotate_left
    focus (intro wS hSw; (try dsimp only at hSw); go_simp <;> with_reducible rfl)
    try go_frame
    refine wpAnyH_take (i := 6) (oi := { dst := some 13, op := Op.load 23 (Operand.tmp 12), type := 23, pos := "grid.go:51", after := #[{ on := 5, ground := Ground.data }], guard := none }) (v := ?_) rfl (by kernel_rfl) (by kernel_rfl) (by kernel_rfl) (fun _ _ _ h => h) (Or.inl ⟨by rfl, ?_⟩) (by with_reducible assumption) ?_
    rotate_left
    focus (intro wS hSw; (try dsimp only at hSw); go_simp <;> with_reducible rfl)
    try go_frame
    refine wpAnyH_ready (rs := [3, 8, 9]) (by kernel_rfl) (by simp) ?_
    refine AllReadyH.cons (i := 3) (o := { dst := some 10, op := Op.call { callee := Callee.value (Operand.func 68), args := #[Operand.tmp 7, Operand.tmp 9], argTypes := #[91, 23] }, type := 110, pos := "grid.go:51", after := #[{ on := 0, ground := Ground.data }, { on := 2, ground := Ground.data }], guard := none }) rfl (fun K hK => ?_) (AllReadyH.cons (i := 8) (o := { dst := some 5, op := Op.alloc 110, type := 0, pos := "grid.go:51", after := #[], guard := none }) rfl (fun K hK => ?_) (AllReadyH.cons (i := 9) (o := { dst := some 6, op := Op.alloc 110, type := 0, pos := "grid.go:51", after := #[], guard := none }) rfl (fun K hK => ?_) AllReadyH.nil))
    · go_simp
      go_at_call 68
      refine Calls.mono (HF1.out _) ?_
      rintro e x1 ⟨rfl, hb1⟩
      have hS1 := H6n.out _ _ (by with_reducible assumption) hb1
      have hU1 : V.heap.size ≤ x1.heap.size := Nat.le_trans (by first | assumption | omega | (simp; omega)) hb1.size
      refine hK.out _ _ (by with_reducible assumption) (fun hHeld => ?_)
      clear hK K
      try go_frame
      refine wpAnyH_ready (rs := [7, 8, 9]) (by kernel_rfl) (by simp) ?_
      refine AllReadyH.cons (i := 7) (o := { dst := some 14, op := Op.call { callee := Callee.value (Operand.func 68), args := #[Operand.tmp 11, Operand.tmp 13], argTypes := #[91, 23] }, type := 110, pos := "grid.go:51", after := #[{ on := 4, ground := Ground.data }, { on := 6, ground := Ground.data }, { on := 3, ground := Ground.chain }], guard := none }) rfl (fun K hK => ?_) (AllReadyH.cons (i := 8) (o := { dst := some 5, op := Op.alloc 110, type := 0, pos := "grid.go:51", after := #[], guard := none }) rfl (fun K hK => ?_) (AllReadyH.cons (i := 9) (o := { dst := some 6, op := Op.alloc 110, type := 0, pos := "grid.go:51", after := #[], guard := none }) rfl (fun K hK => ?_) AllReadyH.nil))
      · go_simp
        go_at_call 68
        refine Calls.mono (HF2.out _) ?_
        rintro e x2 ⟨rfl, hb2⟩
        have hS2 := H6n.out _ _ (by with_reducible assumption) hb2
        have hU2 : V.heap.size ≤ x2.heap.size := Nat.le_trans (by first | assumption | omega | (simp; omega)) hb2.size
        refine hK.out _ _ (by with_reducible assumption) (fun hHeld => ?_)
        clear hK K
        try go_frame
        refine wpAnyH_ready (rs := [8, 9]) (by kernel_rfl) (by simp) ?_
        refine AllReadyH.cons (i := 8) (o := { dst := some 5, op := Op.alloc 110, type := 0, pos := "grid.go:51", after := #[], guard := none }) rfl (fun K hK => ?_) (AllReadyH.cons (i := 9) (o := { dst := some 6, op := Op.alloc 110, type := 0, pos := "grid.go:51", after := #[], guard := none }) rfl (fun K hK => ?_) AllReadyH.nil)
        · go_simp
          have hS3 := H6n.out _ _ (by with_reducible assumption) (below_alloc x2 (.cells #[.int .i64 0, .int .i64 0] 110))
          have f5_3 : Fr (x2.alloc (.cells #[.int .i64 0, .int .i64 0] 110)) (V.heap.size) true (x2.heap.size) := by simpa using Fr.new x2 (V.heap.size) _ (by first | assumption | (simp; omega))
          refine hK.out _ _ (by with_reducible assumption) (fun hHeld => ?_)
          clear hK K
          try go_frame
          refine wpAnyH_ready (rs := [9]) (by kernel_rfl) (by simp) ?_
          refine AllReadyH.cons (i := 9) (o := { dst := some 6, op := Op.alloc 110, type := 0, pos := "grid.go:51", after := #[], guard := none }) rfl (fun K hK => ?_) AllReadyH.nil
          go_simp
          have hS4 := H6n.out _ _ (by with_reducible assumption) (below_alloc (x2.alloc (.cells #[.int .i64 0, .int .i64 0] 110)) (.cells #[.int .i64 0, .int .i64 0] 110))
          have f6_4 : Fr ((x2.alloc (.cells #[.int .i64 0, .int .i64 0] 110)).alloc (.cells #[.int .i64 0, .int .i64 0] 110)) (V.heap.size) true (x2.heap.size + 1) := by simpa using Fr.new (x2.alloc (.cells #[.int .i64 0, .int .i64 0] 110)) (V.heap.size) _ (by first | assumption | (simp; omega))
          have f5_4 := Fr.keep (below_alloc (x2.alloc (.cells #[.int .i64 0, .int .i64 0] 110)) (.cells #[.int .i64 0, .int .i64 0] 110)) f5_3
          refine hK.out _ _ (by with_reducible assumption) (fun hHeld => ?_)
          clear hK K
          try go_frame
          have hne : (x2.heap.size) ≠ (x2.heap.size + 1) := by first | omega | (simp; done) | (simp; omega)
          obtain ⟨_, p0, p1, p2, p3⟩ := f5_4 rfl
          generalize ((x2.alloc (.cells #[.int .i64 0, .int .i64 0] 110)).alloc (.cells #[.int .i64 0, .int .i64 0] 110)) = W9 at *
          refine wpAnyH_ready (rs := [10]) (by kernel_rfl) (by simp) ?_
          refine AllReadyH.cons (i := 10) (o := { dst := none, op := Op.store 110 (Operand.tmp 5) (Operand.tmp 10), type := 0, pos := "grid.go:51", after := #[{ on := 8, ground := Ground.data }, { on := 3, ground := Ground.data }, { on := 7, ground := Ground.chain }, { on := 0, ground := Ground.phase }, { on := 1, ground := Ground.phase }, { on := 2, ground := Ground.phase }, { on := 3, ground := Ground.phase }, { on := 4, ground := Ground.textOnly Departure.lateStores }, { on := 5, ground := Ground.textOnly Departure.lateStores }, { on := 6, ground := Ground.textOnly Departure.lateStores }, { on := 7, ground := Ground.textOnly Departure.lateStoresUnsure }, { on := 8, ground := Ground.phase }, { on := 9, ground := Ground.phase }], guard := none }) rfl (fun K hK => ?_) AllReadyH.nil
          go_simp
          have hS := H6c.out _ ((x2.heap.size)) l1 l2 (by with_reducible assumption) (f5_4 rfl).1
          refine hK.out _ _ hS (fun hHeld => ?_)
          clear hK K
          try go_frame
          have g6 := Fr.put l1 l2 f6_4 (Ne.symm hne)
          have g5 := Put.own l1 l2 f5_4
          clear p0 p1 p2 p3 hS
          change wpAnyH _ _ _ _ _ _ _ _ (Put W9 ((x2.heap.size)) l1 l2)
          have hHeld2 := H6.out _ (show Below _ _ (Put W9 ((x2.heap.size)) l1 l2) from hHeld.2.2.2.2.2.2)
          clear hHeld
          generalize Put W9 ((x2.heap.size)) l1 l2 = W10 at *
          obtain ⟨_, p0, p1, p2, p3⟩ := g6 rfl
          refine wpAnyH_ready (rs := [11]) (by kernel_rfl) (by simp) ?_
          refine AllReadyH.cons (i := 11) (o := { dst := none, op := Op.store 110 (Operand.tmp 6) (Operand.tmp 14), type := 0, pos := "grid.go:51", after := #[{ on := 9, ground := Ground.data }, { on := 7, ground := Ground.data }, { on := 10, ground := Ground.chain }, { on := 0, ground := Ground.phase }, { on := 1, ground := Ground.phase }, { on := 2, ground := Ground.phase }, { on := 3, ground := Ground.phase }, { on := 4, ground := Ground.phase }, { on := 5, ground := Ground.phase }, { on := 6, ground := Ground.phase }, { on := 7, ground := Ground.phase }, { on := 8, ground := Ground.phase }, { on := 9, ground := Ground.phase }, { on := 10, ground := Ground.phase }], guard := none }) rfl (fun K hK => ?_) AllReadyH.nil
          go_simp
          have hS := H6c.out _ ((x2.heap.size + 1)) m1 m2 (by with_reducible assumption) (g6 rfl).1
          refine hK.out _ _ hS (fun hHeld => ?_)
          clear hK K
          try go_frame
          have q6 := Put.own m1 m2 g6
          have q50 := (Put.other W10 ((x2.heap.size + 1)) m1 m2 hne (o := 0)).trans g5.1
          have q51 := (Put.other W10 ((x2.heap.size + 1)) m1 m2 hne (o := 1)).trans g5.2
          refine wpAnyH_done (by kernel_rfl) ?_ _
          go_wp2_with fail
          go_meet
          exact ⟨((x2.heap.size)), ((x2.heap.size + 1)), rfl, rfl, Lib.hid ⟨q50, q51⟩, Lib.hid ⟨q6.1, q6.2⟩, (f5_4 rfl).1, (f6_4 rfl).1, Lib.hid hHeld.2.2.2.2.2.2⟩
        · go_simp
          have hS3 := H6n.out _ _ (by with_reducible assumption) (below_alloc x2 (.cells #[.int .i64 0, .int .i64 0] 110))
          have f6_3 : Fr (x2.alloc (.cells #[.int .i64 0, .int .i64 0] 110)) (V.heap.size) true (x2.heap.size) := by simpa using Fr.new x2 (V.heap.size) _ (by first | assumption | (simp; omega))
          refine hK.out _ _ (by with_reducible assumption) (fun hHeld => ?_)
          clear hK K
          try go_frame
          refine wpAnyH_ready (rs := [8]) (by kernel_rfl) (by simp) ?_
          refine AllReadyH.cons (i := 8) (o := { dst := some 5, op := Op.alloc 110, type := 0, pos := "grid.go:51", after := #[], guard := none }) rfl (fun K hK => ?_) AllReadyH.nil
          go_simp
          have hS4 := H6n.out _ _ (by with_reducible assumption) (below_alloc (x2.alloc (.cells #[.int .i64 0, .int .i64 0] 110)) (.cells #[.int .i64 0, .int .i64 0] 110))
          have f5_4 : Fr ((x2.alloc (.cells #[.int .i64 0, .int .i64 0] 110)).alloc (.cells #[.int .i64 0, .int .i64 0] 110)) (V.heap.size) true (x2.heap.size + 1) := by simpa using Fr.new (x2.alloc (.cells #[.int .i64 0, .int .i64 0] 110)) (V.heap.size) _ (by first | assumption | (simp; omega))
          have f6_4 := Fr.keep (below_alloc (x2.alloc (.cells #[.int .i64 0, .int .i64 0] 110)) (.cells #[.int .i64 0, .int .i64 0] 110)) f6_3
          refine hK.out _ _ (by with_reducible assumption) (fun hHeld => ?_)
          clear hK K
          try go_frame
          have hne : (x2.heap.size + 1) ≠ (x2.heap.size) := by first | omega | (simp; done) | (simp; omega)
          obtain ⟨_, p0, p1, p2, p3⟩ := f5_4 rfl
          generalize ((x2.alloc (.cells #[.int .i64 0, .int .i64 0] 110)).alloc (.cells #[.int .i64 0, .int .i64 0] 110)) = W9 at *
          refine wpAnyH_ready (rs := [10]) (by kernel_rfl) (by simp) ?_
          refine AllReadyH.cons (i := 10) (o := { dst := none, op := Op.store 110 (Operand.tmp 5) (Operand.tmp 10), type := 0, pos := "grid.go:51", after := #[{ on := 8, ground := Ground.data }, { on := 3, ground := Ground.data }, { on := 7, ground := Ground.chain }, { on := 0, ground := Ground.phase }, { on := 1, ground := Ground.phase }, { on := 2, ground := Ground.phase }, { on := 3, ground := Ground.phase }, { on := 4, ground := Ground.textOnly Departure.lateStores }, { on := 5, ground := Ground.textOnly Departure.lateStores }, { on := 6, ground := Ground.textOnly Departure.lateStores }, { on := 7, ground := Ground.textOnly Departure.lateStoresUnsure }, { on := 8, ground := Ground.phase }, { on := 9, ground := Ground.phase }], guard := none }) rfl (fun K hK => ?_) AllReadyH.nil
          go_simp
          have hS := H6c.out _ ((x2.heap.size + 1)) l1 l2 (by with_reducible assumption) (f5_4 rfl).1
          refine hK.out _ _ hS (fun hHeld => ?_)
          clear hK K
          try go_frame
          have g6 := Fr.put l1 l2 f6_4 (Ne.symm hne)
          have g5 := Put.own l1 l2 f5_4
          clear p0 p1 p2 p3 hS
          change wpAnyH _ _ _ _ _ _ _ _ (Put W9 ((x2.heap.size + 1)) l1 l2)
          have hHeld2 := H6.out _ (show Below _ _ (Put W9 ((x2.heap.size + 1)) l1 l2) from hHeld.2.2.2.2.2.2)
          clear hHeld
          generalize Put W9 ((x2.heap.size + 1)) l1 l2 = W10 at *
          obtain ⟨_, p0, p1, p2, p3⟩ := g6 rfl
          refine wpAnyH_ready (rs := [11]) (by kernel_rfl) (by simp) ?_
          refine AllReadyH.cons (i := 11) (o := { dst := none, op := Op.store 110 (Operand.tmp 6) (Operand.tmp 14), type := 0, pos := "grid.go:51", after := #[{ on := 9, ground := Ground.data }, { on := 7, ground := Ground.data }, { on := 10, ground := Ground.chain }, { on := 0, ground := Ground.phase }, { on := 1, ground := Ground.phase }, { on := 2, ground := Ground.phase }, { on := 3, ground := Ground.phase }, { on := 4, ground := Ground.phase }, { on := 5, ground := Ground.phase }, { on := 6, ground := Ground.phase }, { on := 7, ground := Ground.phase }, { on := 8, ground := Ground.phase }, { on := 9, ground := Ground.phase }, { on := 10, ground := Ground.phase }], guard := none }) rfl (fun K hK => ?_) AllReadyH.nil
          go_simp
          have hS := H6c.out _ ((x2.heap.size)) m1 m2 (by with_reducible assumption) (g6 rfl).1
          refine hK.out _ _ hS (fun hHeld => ?_)
          clear hK K
          try go_frame
          have q6 := Put.own m1 m2 g6
          have q50 := (Put.other W10 ((x2.heap.size)) m1 m2 hne (o := 0)).trans g5.1
          have q51 := (Put.other W10 ((x2.heap.size)) m1 m2 hne (o := 1)).trans g5.2
          refine wpAnyH_done (by kernel_rfl) ?_ _
          go_wp2_with fail
          go_meet
          exact ⟨((x2.heap.size + 1)), ((x2.heap.size)), rfl, rfl, Lib.hid ⟨q50, q51⟩, Lib.hid ⟨q6.1, q6.2⟩, (f5_4 rfl).1, (f6_4 rfl).1, Lib.hid hHeld.2.2.2.2.2.2⟩
      · go_simp
        have hS2 := H6n.out _ _ (by with_reducible assumption) (below_alloc x1 (.cells #[.int .i64 0, .int .i64 0] 110))
        have f5_2 : Fr (x1.alloc (.cells #[.int .i64 0, .int .i64 0] 110)) (V.heap.size) true (x1.heap.size) := by simpa using Fr.new x1 (V.heap.size) _ (by first | assumption | (simp; omega))
        refine hK.out _ _ (by with_reducible assumption) (fun hHeld => ?_)
        clear hK K
        try go_frame
        refine wpAnyH_ready (rs := [7, 9]) (by kernel_rfl) (by simp) ?_
        refine AllReadyH.cons (i := 7) (o := { dst := some 14, op := Op.call { callee := Callee.value (Operand.func 68), args := #[Operand.tmp 11, Operand.tmp 13], argTypes := #[91, 23] }, type := 110, pos := "grid.go:51", after := #[{ on := 4, ground := Ground.data }, { on := 6, ground := Ground.data }, { on := 3, ground := Ground.chain }], guard := none }) rfl (fun K hK => ?_) (AllReadyH.cons (i := 9) (o := { dst := some 6, op := Op.alloc 110, type := 0, pos := "grid.go:51", after := #[], guard := none }) rfl (fun K hK => ?_) AllReadyH.nil)
        · go_simp
          go_at_call 68
          refine Calls.mono (HF2.out _) ?_
          rintro e x3 ⟨rfl, hb3⟩
          have hS3 := H6n.out _ _ (by with_reducible assumption) hb3
          have hU3 : V.heap.size ≤ x3.heap.size := Nat.le_trans (by first | assumption | omega | (simp; omega)) hb3.size
          have f5_3 := Fr.keep hb3 f5_2
          have hlk5_3 : (x1.heap.size) < x3.heap.size := Fr.lt f5_3 rfl
          refine hK.out _ _ (by with_reducible assumption) (fun hHeld => ?_)
          clear hK K
          try go_frame
          refine wpAnyH_ready (rs := [9]) (by kernel_rfl) (by simp) ?_
          refine AllReadyH.cons (i := 9) (o := { dst := some 6, op := Op.alloc 110, type := 0, pos := "grid.go:51", after := #[], guard := none }) rfl (fun K hK => ?_) AllReadyH.nil
          go_simp
          have hS4 := H6n.out _ _ (by with_reducible assumption) (below_alloc x3 (.cells #[.int .i64 0, .int .i64 0] 110))
          have f6_4 : Fr (x3.alloc (.cells #[.int .i64 0, .int .i64 0] 110)) (V.heap.size) true (x3.heap.size) := by simpa using Fr.new x3 (V.heap.size) _ (by first | assumption | (simp; omega))
          have f5_4 := Fr.keep (below_alloc x3 (.cells #[.int .i64 0, .int .i64 0] 110)) f5_3
          refine hK.out _ _ (by with_reducible assumption) (fun hHeld => ?_)
          clear hK K
          try go_frame
          have hne : (x1.heap.size) ≠ (x3.heap.size) := by first | omega | (simp; done) | (simp; omega)
          obtain ⟨_, p0, p1, p2, p3⟩ := f5_4 rfl
          generalize (x3.alloc (.cells #[.int .i64 0, .int .i64 0] 110)) = W9 at *
          refine wpAnyH_ready (rs := [10]) (by kernel_rfl) (by simp) ?_
          refine AllReadyH.cons (i := 10) (o := { dst := none, op := Op.store 110 (Operand.tmp 5) (Operand.tmp 10), type := 0, pos := "grid.go:51", after := #[{ on := 8, ground := Ground.data }, { on := 3, ground := Ground.data }, { on := 7, ground := Ground.chain }, { on := 0, ground := Ground.phase }, { on := 1, ground := Ground.phase }, { on := 2, ground := Ground.phase }, { on := 3, ground := Ground.phase }, { on := 4, ground := Ground.textOnly Departure.lateStores }, { on := 5, ground := Ground.textOnly Departure.lateStores }, { on := 6, ground := Ground.textOnly Departure.lateStores }, { on := 7, ground := Ground.textOnly Departure.lateStoresUnsure }, { on := 8, ground := Ground.phase }, { on := 9, ground := Ground.phase }], guard := none }) rfl (fun K hK => ?_) AllReadyH.nil
          go_simp
          have hS := H6c.out _ ((x1.heap.size)) l1 l2 (by with_reducible assumption) (f5_4 rfl).1
          refine hK.out _ _ hS (fun hHeld => ?_)
          clear hK K
          try go_frame
          have g6 := Fr.put l1 l2 f6_4 (Ne.symm hne)
          have g5 := Put.own l1 l2 f5_4
          clear p0 p1 p2 p3 hS
          change wpAnyH _ _ _ _ _ _ _ _ (Put W9 ((x1.heap.size)) l1 l2)
          have hHeld2 := H6.out _ (show Below _ _ (Put W9 ((x1.heap.size)) l1 l2) from hHeld.2.2.2.2.2.2)
          clear hHeld
          generalize Put W9 ((x1.heap.size)) l1 l2 = W10 at *
          obtain ⟨_, p0, p1, p2, p3⟩ := g6 rfl
          refine wpAnyH_ready (rs := [11]) (by kernel_rfl) (by simp) ?_
          refine AllReadyH.cons (i := 11) (o := { dst := none, op := Op.store 110 (Operand.tmp 6) (Operand.tmp 14), type := 0, pos := "grid.go:51", after := #[{ on := 9, ground := Ground.data }, { on := 7, ground := Ground.data }, { on := 10, ground := Ground.chain }, { on := 0, ground := Ground.phase }, { on := 1, ground := Ground.phase }, { on := 2, ground := Ground.phase }, { on := 3, ground := Ground.phase }, { on := 4, ground := Ground.phase }, { on := 5, ground := Ground.phase }, { on := 6, ground := Ground.phase }, { on := 7, ground := Ground.phase }, { on := 8, ground := Ground.phase }, { on := 9, ground := Ground.phase }, { on := 10, ground := Ground.phase }], guard := none }) rfl (fun K hK => ?_) AllReadyH.nil
          go_simp
          have hS := H6c.out _ ((x3.heap.size)) m1 m2 (by with_reducible assumption) (g6 rfl).1
          refine hK.out _ _ hS (fun hHeld => ?_)
          clear hK K
          try go_frame
          have q6 := Put.own m1 m2 g6
          have q50 := (Put.other W10 ((x3.heap.size)) m1 m2 hne (o := 0)).trans g5.1
          have q51 := (Put.other W10 ((x3.heap.size)) m1 m2 hne (o := 1)).trans g5.2
          refine wpAnyH_done (by kernel_rfl) ?_ _
          go_wp2_with fail
          go_meet
          exact ⟨((x1.heap.size)), ((x3.heap.size)), rfl, rfl, Lib.hid ⟨q50, q51⟩, Lib.hid ⟨q6.1, q6.2⟩, (f5_4 rfl).1, (f6_4 rfl).1, Lib.hid hHeld.2.2.2.2.2.2⟩
        · go_simp
          have hS3 := H6n.out _ _ (by with_reducible assumption) (below_alloc (x1.alloc (.cells #[.int .i64 0, .int .i64 0] 110)) (.cells #[.int .i64 0, .int .i64 0] 110))
          have f6_3 : Fr ((x1.alloc (.cells #[.int .i64 0, .int .i64 0] 110)).alloc (.cells #[.int .i64 0, .int .i64 0] 110)) (V.heap.size) true (x1.heap.size + 1) := by simpa using Fr.new (x1.alloc (.cells #[.int .i64 0, .int .i64 0] 110)) (V.heap.size) _ (by first | assumption | (simp; omega))
          have f5_3 := Fr.keep (below_alloc (x1.alloc (.cells #[.int .i64 0, .int .i64 0] 110)) (.cells #[.int .i64 0, .int .i64 0] 110)) f5_2
          refine hK.out _ _ (by with_reducible assumption) (fun hHeld => ?_)
          clear hK K
          try go_frame
          refine wpAnyH_ready (rs := [7]) (by kernel_rfl) (by simp) ?_
          refine AllReadyH.cons (i := 7) (o := { dst := some 14, op := Op.call { callee := Callee.value (Operand.func 68), args := #[Operand.tmp 11, Operand.tmp 13], argTypes := #[91, 23] }, type := 110, pos := "grid.go:51", after := #[{ on := 4, ground := Ground.data }, { on := 6, ground := Ground.data }, { on := 3, ground := Ground.chain }], guard := none }) rfl (fun K hK => ?_) AllReadyH.nil
          go_simp
          go_at_call 68
          refine Calls.mono (HF2.out _) ?_
          rintro e x4 ⟨rfl, hb4⟩
          have hS4 := H6n.out _ _ (by with_reducible assumption) hb4
          have hU4 : V.heap.size ≤ x4.heap.size := Nat.le_trans (by first | assumption | omega | (simp; omega)) hb4.size
          have f5_4 := Fr.keep hb4 f5_3
          have f6_4 := Fr.keep hb4 f6_3
          have hlk5_4 : (x1.heap.size) < x4.heap.size := Fr.lt f5_4 rfl
          have hlk6_4 : (x1.heap.size + 1) < x4.heap.size := Fr.lt f6_4 rfl
          refine hK.out _ _ (by with_reducible assumption) (fun hHeld => ?_)
          clear hK K
          try go_frame
          have hne : (x1.heap.size) ≠ (x1.heap.size + 1) := by first | omega | (simp; done) | (simp; omega)
          obtain ⟨_, p0, p1, p2, p3⟩ := f5_4 rfl
          refine wpAnyH_ready (rs := [10]) (by kernel_rfl) (by simp) ?_
          refine AllReadyH.cons (i := 10) (o := { dst := none, op := Op.store 110 (Operand.tmp 5) (Operand.tmp 10), type := 0, pos := "grid.go:51", after := #[{ on := 8, ground := Ground.data }, { on := 3, ground := Ground.data }, { on := 7, ground := Ground.chain }, { on := 0, ground := Ground.phase }, { on := 1, ground := Ground.phase }, { on := 2, ground := Ground.phase }, { on := 3, ground := Ground.phase }, { on := 4, ground := Ground.textOnly Departure.lateStores }, { on := 5, ground := Ground.textOnly Departure.lateStores }, { on := 6, ground := Ground.textOnly Departure.lateStores }, { on := 7, ground := Ground.textOnly Departure.lateStoresUnsure }, { on := 8, ground := Ground.phase }, { on := 9, ground := Ground.phase }], guard := none }) rfl (fun K hK => ?_) AllReadyH.nil
          go_simp
          have hS := H6c.out _ ((x1.heap.size)) l1 l2 (by with_reducible assumption) (f5_4 rfl).1
          refine hK.out _ _ hS (fun hHeld => ?_)
          clear hK K
          try go_frame
          have g6 := Fr.put l1 l2 f6_4 (Ne.symm hne)
          have g5 := Put.own l1 l2 f5_4
          clear p0 p1 p2 p3 hS
          change wpAnyH _ _ _ _ _ _ _ _ (Put x4 ((x1.heap.size)) l1 l2)
          have hHeld2 := H6.out _ (show Below _ _ (Put x4 ((x1.heap.size)) l1 l2) from hHeld.2.2.2.2.2.2)
          clear hHeld
          generalize Put x4 ((x1.heap.size)) l1 l2 = W10 at *
          obtain ⟨_, p0, p1, p2, p3⟩ := g6 rfl
          refine wpAnyH_ready (rs := [11]) (by kernel_rfl) (by simp) ?_
          refine AllReadyH.cons (i := 11) (o := { dst := none, op := Op.store 110 (Operand.tmp 6) (Operand.tmp 14), type := 0, pos := "grid.go:51", after := #[{ on := 9, ground := Ground.data }, { on := 7, ground := Ground.data }, { on := 10, ground := Ground.chain }, { on := 0, ground := Ground.phase }, { on := 1, ground := Ground.phase }, { on := 2, ground := Ground.phase }, { on := 3, ground := Ground.phase }, { on := 4, ground := Ground.phase }, { on := 5, ground := Ground.phase }, { on := 6, ground := Ground.phase }, { on := 7, ground := Ground.phase }, { on := 8, ground := Ground.phase }, { on := 9, ground := Ground.phase }, { on := 10, ground := Ground.phase }], guard := none }) rfl (fun K hK => ?_) AllReadyH.nil
          go_simp
          have hS := H6c.out _ ((x1.heap.size + 1)) m1 m2 (by with_reducible assumption) (g6 rfl).1
          refine hK.out _ _ hS (fun hHeld => ?_)
          clear hK K
          try go_frame
          have q6 := Put.own m1 m2 g6
          have q50 := (Put.other W10 ((x1.heap.size + 1)) m1 m2 hne (o := 0)).trans g5.1
          have q51 := (Put.other W10 ((x1.heap.size + 1)) m1 m2 hne (o := 1)).trans g5.2
          refine wpAnyH_done (by kernel_rfl) ?_ _
          go_wp2_with fail
          go_meet
          exact ⟨((x1.heap.size)), ((x1.heap.size + 1)), rfl, rfl, Lib.hid ⟨q50, q51⟩, Lib.hid ⟨q6.1, q6.2⟩, (f5_4 rfl).1, (f6_4 rfl).1, Lib.hid hHeld.2.2.2.2.2.2⟩
      · go_simp
        have hS2 := H6n.out _ _ (by with_reducible assumption) (below_alloc x1 (.cells #[.int .i64 0, .int .i64 0] 110))
        have f6_2 : Fr (x1.alloc (.cells #[.int .i64 0, .int .i64 0] 110)) (V.heap.size) true (x1.heap.size) := by simpa using Fr.new x1 (V.heap.size) _ (by first | assumption | (simp; omega))
        refine hK.out _ _ (by with_reducible assumption) (fun hHeld => ?_)
        clear hK K
        try go_frame
        refine wpAnyH_ready (rs := [7, 8]) (by kernel_rfl) (by simp) ?_
        refine AllReadyH.cons (i := 7) (o := { dst := some 14, op := Op.call { callee := Callee.value (Operand.func 68), args := #[Operand.tmp 11, Operand.tmp 13], argTypes := #[91, 23] }, type := 110, pos := "grid.go:51", after := #[{ on := 4, ground := Ground.data }, { on := 6, ground := Ground.data }, { on := 3, ground := Ground.chain }], guard := none }) rfl (fun K hK => ?_) (AllReadyH.cons (i := 8) (o := { dst := some 5, op := Op.alloc 110, type := 0, pos := "grid.go:51", after := #[], guard := none }) rfl (fun K hK => ?_) AllReadyH.nil)
        · go_simp
          go_at_call 68
          refine Calls.mono (HF2.out _) ?_
          rintro e x3 ⟨rfl, hb3⟩
          have hS3 := H6n.out _ _ (by with_reducible assumption) hb3
          have hU3 : V.heap.size ≤ x3.heap.size := Nat.le_trans (by first | assumption | omega | (simp; omega)) hb3.size
          have f6_3 := Fr.keep hb3 f6_2
          have hlk6_3 : (x1.heap.size) < x3.heap.size := Fr.lt f6_3 rfl
          refine hK.out _ _ (by with_reducible assumption) (fun hHeld => ?_)
          clear hK K
          try go_frame
          refine wpAnyH_ready (rs := [8]) (by kernel_rfl) (by simp) ?_
          refine AllReadyH.cons (i := 8) (o := { dst := some 5, op := Op.alloc 110, type := 0, pos := "grid.go:51", after := #[], guard := none }) rfl (fun K hK => ?_) AllReadyH.nil
          go_simp
          have hS4 := H6n.out _ _ (by with_reducible assumption) (below_alloc x3 (.cells #[.int .i64 0, .int .i64 0] 110))
          have f5_4 : Fr (x3.alloc (.cells #[.int .i64 0, .int .i64 0] 110)) (V.heap.size) true (x3.heap.size) := by simpa using Fr.new x3 (V.heap.size) _ (by first | assumption | (simp; omega))
          have f6_4 := Fr.keep (below_alloc x3 (.cells #[.int .i64 0, .int .i64 0] 110)) f6_3
          refine hK.out _ _ (by with_reducible assumption) (fun hHeld => ?_)
          clear hK K
          try go_frame
          have hne : (x3.heap.size) ≠ (x1.heap.size) := by first | omega | (simp; done) | (simp; omega)
          obtain ⟨_, p0, p1, p2, p3⟩ := f5_4 rfl
          generalize (x3.alloc (.cells #[.int .i64 0, .int .i64 0] 110)) = W9 at *
          refine wpAnyH_ready (rs := [10]) (by kernel_rfl) (by simp) ?_
          refine AllReadyH.cons (i := 10) (o := { dst := none, op := Op.store 110 (Operand.tmp 5) (Operand.tmp 10), type := 0, pos := "grid.go:51", after := #[{ on := 8, ground := Ground.data }, { on := 3, ground := Ground.data }, { on := 7, ground := Ground.chain }, { on := 0, ground := Ground.phase }, { on := 1, ground := Ground.phase }, { on := 2, ground := Ground.phase }, { on := 3, ground := Ground.phase }, { on := 4, ground := Ground.textOnly Departure.lateStores }, { on := 5, ground := Ground.textOnly Departure.lateStores }, { on := 6, ground := Ground.textOnly Departure.lateStores }, { on := 7, ground := Ground.textOnly Departure.lateStoresUnsure }, { on := 8, ground := Ground.phase }, { on := 9, ground := Ground.phase }], guard := none }) rfl (fun K hK => ?_) AllReadyH.nil
          go_simp
          have hS := H6c.out _ ((x3.heap.size)) l1 l2 (by with_reducible assumption) (f5_4 rfl).1
          refine hK.out _ _ hS (fun hHeld => ?_)
          clear hK K
          try go_frame
          have g6 := Fr.put l1 l2 f6_4 (Ne.symm hne)
          have g5 := Put.own l1 l2 f5_4
          clear p0 p1 p2 p3 hS
          change wpAnyH _ _ _ _ _ _ _ _ (Put W9 ((x3.heap.size)) l1 l2)
          have hHeld2 := H6.out _ (show Below _ _ (Put W9 ((x3.heap.size)) l1 l2) from hHeld.2.2.2.2.2.2)
          clear hHeld
          generalize Put W9 ((x3.heap.size)) l1 l2 = W10 at *
          obtain ⟨_, p0, p1, p2, p3⟩ := g6 rfl
          refine wpAnyH_ready (rs := [11]) (by kernel_rfl) (by simp) ?_
          refine AllReadyH.cons (i := 11) (o := { dst := none, op := Op.store 110 (Operand.tmp 6) (Operand.tmp 14), type := 0, pos := "grid.go:51", after := #[{ on := 9, ground := Ground.data }, { on := 7, ground := Ground.data }, { on := 10, ground := Ground.chain }, { on := 0, ground := Ground.phase }, { on := 1, ground := Ground.phase }, { on := 2, ground := Ground.phase }, { on := 3, ground := Ground.phase }, { on := 4, ground := Ground.phase }, { on := 5, ground := Ground.phase }, { on := 6, ground := Ground.phase }, { on := 7, ground := Ground.phase }, { on := 8, ground := Ground.phase }, { on := 9, ground := Ground.phase }, { on := 10, ground := Ground.phase }], guard := none }) rfl (fun K hK => ?_) AllReadyH.nil
          go_simp
          have hS := H6c.out _ ((x1.heap.size)) m1 m2 (by with_reducible assumption) (g6 rfl).1
          refine hK.out _ _ hS (fun hHeld => ?_)
          clear hK K
          try go_frame
          have q6 := Put.own m1 m2 g6
          have q50 := (Put.other W10 ((x1.heap.size)) m1 m2 hne (o := 0)).trans g5.1
          have q51 := (Put.other W10 ((x1.heap.size)) m1 m2 hne (o := 1)).trans g5.2
          refine wpAnyH_done (by kernel_rfl) ?_ _
          go_wp2_with fail
          go_meet
          exact ⟨((x3.heap.size)), ((x1.heap.size)), rfl, rfl, Lib.hid ⟨q50, q51⟩, Lib.hid ⟨q6.1, q6.2⟩, (f5_4 rfl).1, (f6_4 rfl).1, Lib.hid hHeld.2.2.2.2.2.2⟩
        · go_simp
          have hS3 := H6n.out _ _ (by with_reducible assumption) (below_alloc (x1.alloc (.cells #[.int .i64 0, .int .i64 0] 110)) (.cells #[.int .i64 0, .int .i64 0] 110))
          have f5_3 : Fr ((x1.alloc (.cells #[.int .i64 0, .int .i64 0] 110)).alloc (.cells #[.int .i64 0, .int .i64 0] 110)) (V.heap.size) true (x1.heap.size + 1) := by simpa using Fr.new (x1.alloc (.cells #[.int .i64 0, .int .i64 0] 110)) (V.heap.size) _ (by first | assumption | (simp; omega))
          have f6_3 := Fr.keep (below_alloc (x1.alloc (.cells #[.int .i64 0, .int .i64 0] 110)) (.cells #[.int .i64 0, .int .i64 0] 110)) f6_2
          refine hK.out _ _ (by with_reducible assumption) (fun hHeld => ?_)
          clear hK K
          try go_frame
          refine wpAnyH_ready (rs := [7]) (by kernel_rfl) (by simp) ?_
          refine AllReadyH.cons (i := 7) (o := { dst := some 14, op := Op.call { callee := Callee.value (Operand.func 68), args := #[Operand.tmp 11, Operand.tmp 13], argTypes := #[91, 23] }, type := 110, pos := "grid.go:51", after := #[{ on := 4, ground := Ground.data }, { on := 6, ground := Ground.data }, { on := 3, ground := Ground.chain }], guard := none }) rfl (fun K hK => ?_) AllReadyH.nil
          go_simp
          go_at_call 68
          refine Calls.mono (HF2.out _) ?_
          rintro e x4 ⟨rfl, hb4⟩
          have hS4 := H6n.out _ _ (by with_reducible assumption) hb4
          have hU4 : V.heap.size ≤ x4.heap.size := Nat.le_trans (by first | assumption | omega | (simp; omega)) hb4.size
          have f5_4 := Fr.keep hb4 f5_3
          have f6_4 := Fr.keep hb4 f6_3
          have hlk5_4 : (x1.heap.size + 1) < x4.heap.size := Fr.lt f5_4 rfl
          have hlk6_4 : (x1.heap.size) < x4.heap.size := Fr.lt f6_4 rfl
          refine hK.out _ _ (by with_reducible assumption) (fun hHeld => ?_)
          clear hK K
          try go_frame
          have hne : (x1.heap.size + 1) ≠ (x1.heap.size) := by first | omega | (simp; done) | (simp; omega)
          obtain ⟨_, p0, p1, p2, p3⟩ := f5_4 rfl
          refine wpAnyH_ready (rs := [10]) (by kernel_rfl) (by simp) ?_
          refine AllReadyH.cons (i := 10) (o := { dst := none, op := Op.store 110 (Operand.tmp 5) (Operand.tmp 10), type := 0, pos := "grid.go:51", after := #[{ on := 8, ground := Ground.data }, { on := 3, ground := Ground.data }, { on := 7, ground := Ground.chain }, { on := 0, ground := Ground.phase }, { on := 1, ground := Ground.phase }, { on := 2, ground := Ground.phase }, { on := 3, ground := Ground.phase }, { on := 4, ground := Ground.textOnly Departure.lateStores }, { on := 5, ground := Ground.textOnly Departure.lateStores }, { on := 6, ground := Ground.textOnly Departure.lateStores }, { on := 7, ground := Ground.textOnly Departure.lateStoresUnsure }, { on := 8, ground := Ground.phase }, { on := 9, ground := Ground.phase }], guard := none }) rfl (fun K hK => ?_) AllReadyH.nil
          go_simp
          have hS := H6c.out _ ((x1.heap.size + 1)) l1 l2 (by with_reducible assumption) (f5_4 rfl).1
          refine hK.out _ _ hS (fun hHeld => ?_)
          clear hK K
          try go_frame
          have g6 := Fr.put l1 l2 f6_4 (Ne.symm hne)
          have g5 := Put.own l1 l2 f5_4
          clear p0 p1 p2 p3 hS
          change wpAnyH _ _ _ _ _ _ _ _ (Put x4 ((x1.heap.size + 1)) l1 l2)
          have hHeld2 := H6.out _ (show Below _ _ (Put x4 ((x1.heap.size + 1)) l1 l2) from hHeld.2.2.2.2.2.2)
          clear hHeld
          generalize Put x4 ((x1.heap.size + 1)) l1 l2 = W10 at *
          obtain ⟨_, p0, p1, p2, p3⟩ := g6 rfl
          refine wpAnyH_ready (rs := [11]) (by kernel_rfl) (by simp) ?_
          refine AllReadyH.cons (i := 11) (o := { dst := none, op := Op.store 110 (Operand.tmp 6) (Operand.tmp 14), type := 0, pos := "grid.go:51", after := #[{ on := 9, ground := Ground.data }, { on := 7, ground := Ground.data }, { on := 10, ground := Ground.chain }, { on := 0, ground := Ground.phase }, { on := 1, ground := Ground.phase }, { on := 2, ground := Ground.phase }, { on := 3, ground := Ground.phase }, { on := 4, ground := Ground.phase }, { on := 5, ground := Ground.phase }, { on := 6, ground := Ground.phase }, { on := 7, ground := Ground.phase }, { on := 8, ground := Ground.phase }, { on := 9, ground := Ground.phase }, { on := 10, ground := Ground.phase }], guard := none }) rfl (fun K hK => ?_) AllReadyH.nil
          go_simp
          have hS := H6c.out _ ((x1.heap.size)) m1 m2 (by with_reducible assumption) (g6 rfl).1
          refine hK.out _ _ hS (fun hHeld => ?_)
          clear hK K
          try go_frame
          have q6 := Put.own m1 m2 g6
          have q50 := (Put.other W10 ((x1.heap.size)) m1 m2 hne (o := 0)).trans g5.1
          have q51 := (Put.other W10 ((x1.heap.size)) m1 m2 hne (o := 1)).trans g5.2
          refine wpAnyH_done (by kernel_rfl) ?_ _
          go_wp2_with fail
          go_meet
          exact ⟨((x1.heap.size + 1)), ((x1.heap.size)), rfl, rfl, Lib.hid ⟨q50, q51⟩, Lib.hid ⟨q6.1, q6.2⟩, (f5_4 rfl).1, (f6_4 rfl).1, Lib.hid hHeld.2.2.2.2.2.2⟩
    · go_simp
      have hS1 := H6n.out _ _ (by with_reducible assumption) (below_alloc U0 (.cells #[.int .i64 0, .int .i64 0] 110))
      have f5_1 : Fr (U0.alloc (.cells #[.int .i64 0, .int .i64 0] 110)) (V.heap.size) true (U0.heap.size) := by simpa using Fr.new U0 (V.heap.size) _ (by first | assumption | (simp; omega))
      refine hK.out _ _ (by with_reducible assumption) (fun hHeld => ?_)
      clear hK K
      try go_frame
      refine wpAnyH_ready (rs := [3, 9]) (by kernel_rfl) (by simp) ?_
      refine AllReadyH.cons (i := 3) (o := { dst := some 10, op := Op.call { callee := Callee.value (Operand.func 68), args := #[Operand.tmp 7, Operand.tmp 9], argTypes := #[91, 23] }, type := 110, pos := "grid.go:51", after := #[{ on := 0, ground := Ground.data }, { on := 2, ground := Ground.data }], guard := none }) rfl (fun K hK => ?_) (AllReadyH.cons (i := 9) (o := { dst := some 6, op := Op.alloc 110, type := 0, pos := "grid.go:51", after := #[], guard := none }) rfl (fun K hK => ?_) AllReadyH.nil)
      · go_simp
        go_at_call 68
        refine Calls.mono (HF1.out _) ?_
        rintro e x2 ⟨rfl, hb2⟩
        have hS2 := H6n.out _ _ (by with_reducible assumption) hb2
        have hU2 : V.heap.size ≤ x2.heap.size := Nat.le_trans (by first | assumption | omega | (simp; omega)) hb2.size
        have f5_2 := Fr.keep hb2 f5_1
        have hlk5_2 : (U0.heap.size) < x2.heap.size := Fr.lt f5_2 rfl
        refine hK.out _ _ (by with_reducible assumption) (fun hHeld => ?_)
        clear hK K
        try go_frame
        refine wpAnyH_ready (rs := [7, 9]) (by kernel_rfl) (by simp) ?_
        refine AllReadyH.cons (i := 7) (o := { dst := some 14, op := Op.call { callee := Callee.value (Operand.func 68), args := #[Operand.tmp 11, Operand.tmp 13], argTypes := #[91, 23] }, type := 110, pos := "grid.go:51", after := #[{ on := 4, ground := Ground.data }, { on := 6, ground := Ground.data }, { on := 3, ground := Ground.chain }], guard := none }) rfl (fun K hK => ?_) (AllReadyH.cons (i := 9) (o := { dst := some 6, op := Op.alloc 110, type := 0, pos := "grid.go:51", after := #[], guard := none }) rfl (fun K hK => ?_) AllReadyH.nil)
        · go_simp
          go_at_call 68
          refine Calls.mono (HF2.out _) ?_
          rintro e x3 ⟨rfl, hb3⟩
          have hS3 := H6n.out _ _ (by with_reducible assumption) hb3
          have hU3 : V.heap.size ≤ x3.heap.size := Nat.le_trans (by first | assumption | omega | (simp; omega)) hb3.size
          have f5_3 := Fr.keep hb3 f5_2
          have hlk5_3 : (U0.heap.size) < x3.heap.size := Fr.lt f5_3 rfl
          refine hK.out _ _ (by with_reducible assumption) (fun hHeld => ?_)
          clear hK K
          try go_frame
          refine wpAnyH_ready (rs := [9]) (by kernel_rfl) (by simp) ?_
          refine AllReadyH.cons (i := 9) (o := { dst := some 6, op := Op.alloc 110, type := 0, pos := "grid.go:51", after := #[], guard := none }) rfl (fun K hK => ?_) AllReadyH.nil
          go_simp
          have hS4 := H6n.out _ _ (by with_reducible assumption) (below_alloc x3 (.cells #[.int .i64 0, .int .i64 0] 110))
          have f6_4 : Fr (x3.alloc (.cells #[.int .i64 0, .int .i64 0] 110)) (V.heap.size) true (x3.heap.size) := by simpa using Fr.new x3 (V.heap.size) _ (by first | assumption | (simp; omega))
          have f5_4 := Fr.keep (below_alloc x3 (.cells #[.int .i64 0, .int .i64 0] 110)) f5_3
          refine hK.out _ _ (by with_reducible assumption) (fun hHeld => ?_)
          clear hK K
          try go_frame
          have hne : (U0.heap.size) ≠ (x3.heap.size) := by first | omega | (simp; done) | (simp; omega)
          obtain ⟨_, p0, p1, p2, p3⟩ := f5_4 rfl
          generalize (x3.alloc (.cells #[.int .i64 0, .int .i64 0] 110)) = W9 at *
          refine wpAnyH_ready (rs := [10]) (by kernel_rfl) (by simp) ?_
          refine AllReadyH.cons (i := 10) (o := { dst := none, op := Op.store 110 (Operand.tmp 5) (Operand.tmp 10), type := 0, pos := "grid.go:51", after := #[{ on := 8, ground := Ground.data }, { on := 3, ground := Ground.data }, { on := 7, ground := Ground.chain }, { on := 0, ground := Ground.phase }, { on := 1, ground := Ground.phase }, { on := 2, ground := Ground.phase }, { on := 3, ground := Ground.phase }, { on := 4, ground := Ground.textOnly Departure.lateStores }, { on := 5, ground := Ground.textOnly Departure.lateStores }, { on := 6, ground := Ground.textOnly Departure.lateStores }, { on := 7, ground := Ground.textOnly Departure.lateStoresUnsure }, { on := 8, ground := Ground.phase }, { on := 9, ground := Ground.phase }], guard := none }) rfl (fun K hK => ?_) AllReadyH.nil
          go_simp
          have hS := H6c.out _ ((U0.heap.size)) l1 l2 (by with_reducible assumption) (f5_4 rfl).1
          refine hK.out _ _ hS (fun hHeld => ?_)
          clear hK K
          try go_frame
          have g6 := Fr.put l1 l2 f6_4 (Ne.symm hne)
          have g5 := Put.own l1 l2 f5_4
          clear p0 p1 p2 p3 hS
          change wpAnyH _ _ _ _ _ _ _ _ (Put W9 ((U0.heap.size)) l1 l2)
          have hHeld2 := H6.out _ (show Below _ _ (Put W9 ((U0.heap.size)) l1 l2) from hHeld.2.2.2.2.2.2)
          clear hHeld
          generalize Put W9 ((U0.heap.size)) l1 l2 = W10 at *
          obtain ⟨_, p0, p1, p2, p3⟩ := g6 rfl
          refine wpAnyH_ready (rs := [11]) (by kernel_rfl) (by simp) ?_
          refine AllReadyH.cons (i := 11) (o := { dst := none, op := Op.store 110 (Operand.tmp 6) (Operand.tmp 14), type := 0, pos := "grid.go:51", after := #[{ on := 9, ground := Ground.data }, { on := 7, ground := Ground.data }, { on := 10, ground := Ground.chain }, { on := 0, ground := Ground.phase }, { on := 1, ground := Ground.phase }, { on := 2, ground := Ground.phase }, { on := 3, ground := Ground.phase }, { on := 4, ground := Ground.phase }, { on := 5, ground := Ground.phase }, { on := 6, ground := Ground.phase }, { on := 7, ground := Ground.phase }, { on := 8, ground := Ground.phase }, { on := 9, ground := Ground.phase }, { on := 10, ground := Ground.phase }], guard := none }) rfl (fun K hK => ?_) AllReadyH.nil
          go_simp
          have hS := H6c.out _ ((x3.heap.size)) m1 m2 (by with_reducible assumption) (g6 rfl).1
          refine hK.out _ _ hS (fun hHeld => ?_)
          clear hK K
          try go_frame
          have q6 := Put.own m1 m2 g6
          have q50 := (Put.other W10 ((x3.heap.size)) m1 m2 hne (o := 0)).trans g5.1
          have q51 := (Put.other W10 ((x3.heap.size)) m1 m2 hne (o := 1)).trans g5.2
          refine wpAnyH_done (by kernel_rfl) ?_ _
          go_wp2_with fail
          go_meet
          exact ⟨((U0.heap.size)), ((x3.heap.size)), rfl, rfl, Lib.hid ⟨q50, q51⟩, Lib.hid ⟨q6.1, q6.2⟩, (f5_4 rfl).1, (f6_4 rfl).1, Lib.hid hHeld.2.2.2.2.2.2⟩
        · go_simp
          have hS3 := H6n.out _ _ (by with_reducible assumption) (below_alloc x2 (.cells #[.int .i64 0, .int .i64 0] 110))
          have f6_3 : Fr (x2.alloc (.cells #[.int .i64 0, .int .i64 0] 110)) (V.heap.size) true (x2.heap.size) := by simpa using Fr.new x2 (V.heap.size) _ (by first | assumption | (simp; omega))
          have f5_3 := Fr.keep (below_alloc x2 (.cells #[.int .i64 0, .int .i64 0] 110)) f5_2
          refine hK.out _ _ (by with_reducible assumption) (fun hHeld => ?_)
          clear hK K
          try go_frame
          refine wpAnyH_ready (rs := [7]) (by kernel_rfl) (by simp) ?_
          refine AllReadyH.cons (i := 7) (o := { dst := some 14, op := Op.call { callee := Callee.value (Operand.func 68), args := #[Operand.tmp 11, Operand.tmp 13], argTypes := #[91, 23] }, type := 110, pos := "grid.go:51", after := #[{ on := 4, ground := Ground.data }, { on := 6, ground := Ground.data }, { on := 3, ground := Ground.chain }], guard := none }) rfl (fun K hK => ?_) AllReadyH.nil
          go_simp
          go_at_call 68
          refine Calls.mono (HF2.out _) ?_
          rintro e x4 ⟨rfl, hb4⟩
          have hS4 := H6n.out _ _ (by with_reducible assumption) hb4
          have hU4 : V.heap.size ≤ x4.heap.size := Nat.le_trans (by first | assumption | omega | (simp; omega)) hb4.size
          have f5_4 := Fr.keep hb4 f5_3
          have f6_4 := Fr.keep hb4 f6_3
          have hlk5_4 : (U0.heap.size) < x4.heap.size := Fr.lt f5_4 rfl
          have hlk6_4 : (x2.heap.size) < x4.heap.size := Fr.lt f6_4 rfl
          refine hK.out _ _ (by with_reducible assumption) (fun hHeld => ?_)
          clear hK K
          try go_frame
          have hne : (U0.heap.size) ≠ (x2.heap.size) := by first | omega | (simp; done) | (simp; omega)
          obtain ⟨_, p0, p1, p2, p3⟩ := f5_4 rfl
          refine wpAnyH_ready (rs := [10]) (by kernel_rfl) (by simp) ?_
          refine AllReadyH.cons (i := 10) (o := { dst := none, op := Op.store 110 (Operand.tmp 5) (Operand.tmp 10), type := 0, pos := "grid.go:51", after := #[{ on := 8, ground := Ground.data }, { on := 3, ground := Ground.data }, { on := 7, ground := Ground.chain }, { on := 0, ground := Ground.phase }, { on := 1, ground := Ground.phase }, { on := 2, ground := Ground.phase }, { on := 3, ground := Ground.phase }, { on := 4, ground := Ground.textOnly Departure.lateStores }, { on := 5, ground := Ground.textOnly Departure.lateStores }, { on := 6, ground := Ground.textOnly Departure.lateStores }, { on := 7, ground := Ground.textOnly Departure.lateStoresUnsure }, { on := 8, ground := Ground.phase }, { on := 9, ground := Ground.phase }], guard := none }) rfl (fun K hK => ?_) AllReadyH.nil
          go_simp
          have hS := H6c.out _ ((U0.heap.size)) l1 l2 (by with_reducible assumption) (f5_4 rfl).1
          refine hK.out _ _ hS (fun hHeld => ?_)
          clear hK K
          try go_frame
          have g6 := Fr.put l1 l2 f6_4 (Ne.symm hne)
          have g5 := Put.own l1 l2 f5_4
          clear p0 p1 p2 p3 hS
          change wpAnyH _ _ _ _ _ _ _ _ (Put x4 ((U0.heap.size)) l1 l2)
          have hHeld2 := H6.out _ (show Below _ _ (Put x4 ((U0.heap.size)) l1 l2) from hHeld.2.2.2.2.2.2)
          clear hHeld
          generalize Put x4 ((U0.heap.size)) l1 l2 = W10 at *
          obtain ⟨_, p0, p1, p2, p3⟩ := g6 rfl
          refine wpAnyH_ready (rs := [11]) (by kernel_rfl) (by simp) ?_
          refine AllReadyH.cons (i := 11) (o := { dst := none, op := Op.store 110 (Operand.tmp 6) (Operand.tmp 14), type := 0, pos := "grid.go:51", after := #[{ on := 9, ground := Ground.data }, { on := 7, ground := Ground.data }, { on := 10, ground := Ground.chain }, { on := 0, ground := Ground.phase }, { on := 1, ground := Ground.phase }, { on := 2, ground := Ground.phase }, { on := 3, ground := Ground.phase }, { on := 4, ground := Ground.phase }, { on := 5, ground := Ground.phase }, { on := 6, ground := Ground.phase }, { on := 7, ground := Ground.phase }, { on := 8, ground := Ground.phase }, { on := 9, ground := Ground.phase }, { on := 10, ground := Ground.phase }], guard := none }) rfl (fun K hK => ?_) AllReadyH.nil
          go_simp
          have hS := H6c.out _ ((x2.heap.size)) m1 m2 (by with_reducible assumption) (g6 rfl).1
          refine hK.out _ _ hS (fun hHeld => ?_)
          clear hK K
          try go_frame
          have q6 := Put.own m1 m2 g6
          have q50 := (Put.other W10 ((x2.heap.size)) m1 m2 hne (o := 0)).trans g5.1
          have q51 := (Put.other W10 ((x2.heap.size)) m1 m2 hne (o := 1)).trans g5.2
          refine wpAnyH_done (by kernel_rfl) ?_ _
          go_wp2_with fail
          go_meet
          exact ⟨((U0.heap.size)), ((x2.heap.size)), rfl, rfl, Lib.hid ⟨q50, q51⟩, Lib.hid ⟨q6.1, q6.2⟩, (f5_4 rfl).1, (f6_4 rfl).1, Lib.hid hHeld.2.2.2.2.2.2⟩
      · go_simp
        have hS2 := H6n.out _ _ (by with_reducible assumption) (below_alloc (U0.alloc (.cells #[.int .i64 0, .int .i64 0] 110)) (.cells #[.int .i64 0, .int .i64 0] 110))
        have f6_2 : Fr ((U0.alloc (.cells #[.int .i64 0, .int .i64 0] 110)).alloc (.cells #[.int .i64 0, .int .i64 0] 110)) (V.heap.size) true (U0.heap.size + 1) := by simpa using Fr.new (U0.alloc (.cells #[.int .i64 0, .int .i64 0] 110)) (V.heap.size) _ (by first | assumption | (simp; omega))
        have f5_2 := Fr.keep (below_alloc (U0.alloc (.cells #[.int .i64 0, .int .i64 0] 110)) (.cells #[.int .i64 0, .int .i64 0] 110)) f5_1
        refine hK.out _ _ (by with_reducible assumption) (fun hHeld => ?_)
        clear hK K
        try go_frame
        refine wpAnyH_ready (rs := [3]) (by kernel_rfl) (by simp) ?_
        refine AllReadyH.cons (i := 3) (o := { dst := some 10, op := Op.call { callee := Callee.value (Operand.func 68), args := #[Operand.tmp 7, Operand.tmp 9], argTypes := #[91, 23] }, type := 110, pos := "grid.go:51", after := #[{ on := 0, ground := Ground.data }, { on := 2, ground := Ground.data }], guard := none }) rfl (fun K hK => ?_) AllReadyH.nil
        go_simp
        go_at_call 68
        refine Calls.mono (HF1.out _) ?_
        rintro e x3 ⟨rfl, hb3⟩
        have hS3 := H6n.out _ _ (by with_reducible assumption) hb3
        have hU3 : V.heap.size ≤ x3.heap.size := Nat.le_trans (by first | assumption | omega | (simp; omega)) hb3.size
        have f5_3 := Fr.keep hb3 f5_2
        have f6_3 := Fr.keep hb3 f6_2
        have hlk5_3 : (U0.heap.size) < x3.heap.size := Fr.lt f5_3 rfl
        have hlk6_3 : (U0.heap.size + 1) < x3.heap.size := Fr.lt f6_3 rfl
        refine hK.out _ _ (by with_reducible assumption) (fun hHeld => ?_)
        clear hK K
        try go_frame
        refine wpAnyH_ready (rs := [7]) (by kernel_rfl) (by simp) ?_
        refine AllReadyH.cons (i := 7) (o := { dst := some 14, op := Op.call { callee := Callee.value (Operand.func 68), args := #[Operand.tmp 11, Operand.tmp 13], argTypes := #[91, 23] }, type := 110, pos := "grid.go:51", after := #[{ on := 4, ground := Ground.data }, { on := 6, ground := Ground.data }, { on := 3, ground := Ground.chain }], guard := none }) rfl (fun K hK => ?_) AllReadyH.nil
        go_simp
        go_at_call 68
        refine Calls.mono (HF2.out _) ?_
        rintro e x4 ⟨rfl, hb4⟩
        have hS4 := H6n.out _ _ (by with_reducible assumption) hb4
        have hU4 : V.heap.size ≤ x4.heap.size := Nat.le_trans (by first | assumption | omega | (simp; omega)) hb4.size
        have f5_4 := Fr.keep hb4 f5_3
        have f6_4 := Fr.keep hb4 f6_3
        have hlk5_4 : (U0.heap.size) < x4.heap.size := Fr.lt f5_4 rfl
        have hlk6_4 : (U0.heap.size + 1) < x4.heap.size := Fr.lt f6_4 rfl
        refine hK.out _ _ (by with_reducible assumption) (fun hHeld => ?_)
        clear hK K
        try go_frame
        have hne : (U0.heap.size) ≠ (U0.heap.size + 1) := by first | omega | (simp; done) | (simp; omega)
        obtain ⟨_, p0, p1, p2, p3⟩ := f5_4 rfl
        refine wpAnyH_ready (rs := [10]) (by kernel_rfl) (by simp) ?_
        refine AllReadyH.cons (i := 10) (o := { dst := none, op := Op.store 110 (Operand.tmp 5) (Operand.tmp 10), type := 0, pos := "grid.go:51", after := #[{ on := 8, ground := Ground.data }, { on := 3, ground := Ground.data }, { on := 7, ground := Ground.chain }, { on := 0, ground := Ground.phase }, { on := 1, ground := Ground.phase }, { on := 2, ground := Ground.phase }, { on := 3, ground := Ground.phase }, { on := 4, ground := Ground.textOnly Departure.lateStores }, { on := 5, ground := Ground.textOnly Departure.lateStores }, { on := 6, ground := Ground.textOnly Departure.lateStores }, { on := 7, ground := Ground.textOnly Departure.lateStoresUnsure }, { on := 8, ground := Ground.phase }, { on := 9, ground := Ground.phase }], guard := none }) rfl (fun K hK => ?_) AllReadyH.nil
        go_simp
        have hS := H6c.out _ ((U0.heap.size)) l1 l2 (by with_reducible assumption) (f5_4 rfl).1
        refine hK.out _ _ hS (fun hHeld => ?_)
        clear hK K
        try go_frame
        have g6 := Fr.put l1 l2 f6_4 (Ne.symm hne)
        have g5 := Put.own l1 l2 f5_4
        clear p0 p1 p2 p3 hS
        change wpAnyH _ _ _ _ _ _ _ _ (Put x4 ((U0.heap.size)) l1 l2)
        have hHeld2 := H6.out _ (show Below _ _ (Put x4 ((U0.heap.size)) l1 l2) from hHeld.2.2.2.2.2.2)
        clear hHeld
        generalize Put x4 ((U0.heap.size)) l1 l2 = W10 at *
        obtain ⟨_, p0, p1, p2, p3⟩ := g6 rfl
        refine wpAnyH_ready (rs := [11]) (by kernel_rfl) (by simp) ?_
        refine AllReadyH.cons (i := 11) (o := { dst := none, op := Op.store 110 (Operand.tmp 6) (Operand.tmp 14), type := 0, pos := "grid.go:51", after := #[{ on := 9, ground := Ground.data }, { on := 7, ground := Ground.data }, { on := 10, ground := Ground.chain }, { on := 0, ground := Ground.phase }, { on := 1, ground := Ground.phase }, { on := 2, ground := Ground.phase }, { on := 3, ground := Ground.phase }, { on := 4, ground := Ground.phase }, { on := 5, ground := Ground.phase }, { on := 6, ground := Ground.phase }, { on := 7, ground := Ground.phase }, { on := 8, ground := Ground.phase }, { on := 9, ground := Ground.phase }, { on := 10, ground := Ground.phase }], guard := none }) rfl (fun K hK => ?_) AllReadyH.nil
        go_simp
        have hS := H6c.out _ ((U0.heap.size + 1)) m1 m2 (by with_reducible assumption) (g6 rfl).1
        refine hK.out _ _ hS (fun hHeld => ?_)
        clear hK K
        try go_frame
        have q6 := Put.own m1 m2 g6
        have q50 := (Put.other W10 ((U0.heap.size + 1)) m1 m2 hne (o := 0)).trans g5.1
        have q51 := (Put.other W10 ((U0.heap.size + 1)) m1 m2 hne (o := 1)).trans g5.2
        refine wpAnyH_done (by kernel_rfl) ?_ _
        go_wp2_with fail
        go_meet
        exact ⟨((U0.heap.size)), ((U0.heap.size + 1)), rfl, rfl, Lib.hid ⟨q50, q51⟩, Lib.hid ⟨q6.1, q6.2⟩, (f5_4 rfl).1, (f6_4 rfl).1, Lib.hid hHeld.2.2.2.2.2.2⟩
    · go_simp
      have hS1 := H6n.out _ _ (by with_reducible assumption) (below_alloc U0 (.cells #[.int .i64 0, .int .i64 0] 110))
      have f6_1 : Fr (U0.alloc (.cells #[.int .i64 0, .int .i64 0] 110)) (V.heap.size) true (U0.heap.size) := by simpa using Fr.new U0 (V.heap.size) _ (by first | assumption | (simp; omega))
      refine hK.out _ _ (by with_reducible assumption) (fun hHeld => ?_)
      clear hK K
      try go_frame
      refine wpAnyH_ready (rs := [3, 8]) (by kernel_rfl) (by simp) ?_
      refine AllReadyH.cons (i := 3) (o := { dst := some 10, op := Op.call { callee := Callee.value (Operand.func 68), args := #[Operand.tmp 7, Operand.tmp 9], argTypes := #[91, 23] }, type := 110, pos := "grid.go:51", after := #[{ on := 0, ground := Ground.data }, { on := 2, ground := Ground.data }], guard := none }) rfl (fun K hK => ?_) (AllReadyH.cons (i := 8) (o := { dst := some 5, op := Op.alloc 110, type := 0, pos := "grid.go:51", after := #[], guard := none }) rfl (fun K hK => ?_) AllReadyH.nil)
      · go_simp
        go_at_call 68
        refine Calls.mono (HF1.out _) ?_
        rintro e x2 ⟨rfl, hb2⟩
        have hS2 := H6n.out _ _ (by with_reducible assumption) hb2
        have hU2 : V.heap.size ≤ x2.heap.size := Nat.le_trans (by first | assumption | omega | (simp; omega)) hb2.size
        have f6_2 := Fr.keep hb2 f6_1
        have hlk6_2 : (U0.heap.size) < x2.heap.size := Fr.lt f6_2 rfl
        refine hK.out _ _ (by with_reducible assumption) (fun hHeld => ?_)
        clear hK K
        try go_frame
        refine wpAnyH_ready (rs := [7, 8]) (by kernel_rfl) (by simp) ?_
        refine AllReadyH.cons (i := 7) (o := { dst := some 14, op := Op.call { callee := Callee.value (Operand.func 68), args := #[Operand.tmp 11, Operand.tmp 13], argTypes := #[91, 23] }, type := 110, pos := "grid.go:51", after := #[{ on := 4, ground := Ground.data }, { on := 6, ground := Ground.data }, { on := 3, ground := Ground.chain }], guard := none }) rfl (fun K hK => ?_) (AllReadyH.cons (i := 8) (o := { dst := some 5, op := Op.alloc 110, type := 0, pos := "grid.go:51", after := #[], guard := none }) rfl (fun K hK => ?_) AllReadyH.nil)
        · go_simp
          go_at_call 68
          refine Calls.mono (HF2.out _) ?_
          rintro e x3 ⟨rfl, hb3⟩
          have hS3 := H6n.out _ _ (by with_reducible assumption) hb3
          have hU3 : V.heap.size ≤ x3.heap.size := Nat.le_trans (by first | assumption | omega | (simp; omega)) hb3.size
          have f6_3 := Fr.keep hb3 f6_2
          have hlk6_3 : (U0.heap.size) < x3.heap.size := Fr.lt f6_3 rfl
          refine hK.out _ _ (by with_reducible assumption) (fun hHeld => ?_)
          clear hK K
          try go_frame
          refine wpAnyH_ready (rs := [8]) (by kernel_rfl) (by simp) ?_
          refine AllReadyH.cons (i := 8) (o := { dst := some 5, op := Op.alloc 110, type := 0, pos := "grid.go:51", after := #[], guard := none }) rfl (fun K hK => ?_) AllReadyH.nil
          go_simp
          have hS4 := H6n.out _ _ (by with_reducible assumption) (below_alloc x3 (.cells #[.int .i64 0, .int .i64 0] 110))
          have f5_4 : Fr (x3.alloc (.cells #[.int .i64 0, .int .i64 0] 110)) (V.heap.size) true (x3.heap.size) := by simpa using Fr.new x3 (V.heap.size) _ (by first | assumption | (simp; omega))
          have f6_4 := Fr.keep (below_alloc x3 (.cells #[.int .i64 0, .int .i64 0] 110)) f6_3
          refine hK.out _ _ (by with_reducible assumption) (fun hHeld => ?_)
          clear hK K
          try go_frame
          have hne : (x3.heap.size) ≠ (U0.heap.size) := by first | omega | (simp; done) | (simp; omega)
          obtain ⟨_, p0, p1, p2, p3⟩ := f5_4 rfl
          generalize (x3.alloc (.cells #[.int .i64 0, .int .i64 0] 110)) = W9 at *
          refine wpAnyH_ready (rs := [10]) (by kernel_rfl) (by simp) ?_
          refine AllReadyH.cons (i := 10) (o := { dst := none, op := Op.store 110 (Operand.tmp 5) (Operand.tmp 10), type := 0, pos := "grid.go:51", after := #[{ on := 8, ground := Ground.data }, { on := 3, ground := Ground.data }, { on := 7, ground := Ground.chain }, { on := 0, ground := Ground.phase }, { on := 1, ground := Ground.phase }, { on := 2, ground := Ground.phase }, { on := 3, ground := Ground.phase }, { on := 4, ground := Ground.textOnly Departure.lateStores }, { on := 5, ground := Ground.textOnly Departure.lateStores }, { on := 6, ground := Ground.textOnly Departure.lateStores }, { on := 7, ground := Ground.textOnly Departure.lateStoresUnsure }, { on := 8, ground := Ground.phase }, { on := 9, ground := Ground.phase }], guard := none }) rfl (fun K hK => ?_) AllReadyH.nil
          go_simp
          have hS := H6c.out _ ((x3.heap.size)) l1 l2 (by with_reducible assumption) (f5_4 rfl).1
          refine hK.out _ _ hS (fun hHeld => ?_)
          clear hK K
          try go_frame
          have g6 := Fr.put l1 l2 f6_4 (Ne.symm hne)
          have g5 := Put.own l1 l2 f5_4
          clear p0 p1 p2 p3 hS
          change wpAnyH _ _ _ _ _ _ _ _ (Put W9 ((x3.heap.size)) l1 l2)
          have hHeld2 := H6.out _ (show Below _ _ (Put W9 ((x3.heap.size)) l1 l2) from hHeld.2.2.2.2.2.2)
          clear hHeld
          generalize Put W9 ((x3.heap.size)) l1 l2 = W10 at *
          obtain ⟨_, p0, p1, p2, p3⟩ := g6 rfl
          refine wpAnyH_ready (rs := [11]) (by kernel_rfl) (by simp) ?_
          refine AllReadyH.cons (i := 11) (o := { dst := none, op := Op.store 110 (Operand.tmp 6) (Operand.tmp 14), type := 0, pos := "grid.go:51", after := #[{ on := 9, ground := Ground.data }, { on := 7, ground := Ground.data }, { on := 10, ground := Ground.chain }, { on := 0, ground := Ground.phase }, { on := 1, ground := Ground.phase }, { on := 2, ground := Ground.phase }, { on := 3, ground := Ground.phase }, { on := 4, ground := Ground.phase }, { on := 5, ground := Ground.phase }, { on := 6, ground := Ground.phase }, { on := 7, ground := Ground.phase }, { on := 8, ground := Ground.phase }, { on := 9, ground := Ground.phase }, { on := 10, ground := Ground.phase }], guard := none }) rfl (fun K hK => ?_) AllReadyH.nil
          go_simp
          have hS := H6c.out _ ((U0.heap.size)) m1 m2 (by with_reducible assumption) (g6 rfl).1
          refine hK.out _ _ hS (fun hHeld => ?_)
          clear hK K
          try go_frame
          have q6 := Put.own m1 m2 g6
          have q50 := (Put.other W10 ((U0.heap.size)) m1 m2 hne (o := 0)).trans g5.1
          have q51 := (Put.other W10 ((U0.heap.size)) m1 m2 hne (o := 1)).trans g5.2
          refine wpAnyH_done (by kernel_rfl) ?_ _
          go_wp2_with fail
          go_meet
          exact ⟨((x3.heap.size)), ((U0.heap.size)), rfl, rfl, Lib.hid ⟨q50, q51⟩, Lib.hid ⟨q6.1, q6.2⟩, (f5_4 rfl).1, (f6_4 rfl).1, Lib.hid hHeld.2.2.2.2.2.2⟩
        · go_simp
          have hS3 := H6n.out _ _ (by with_reducible assumption) (below_alloc x2 (.cells #[.int .i64 0, .int .i64 0] 110))
          have f5_3 : Fr (x2.alloc (.cells #[.int .i64 0, .int .i64 0] 110)) (V.heap.size) true (x2.heap.size) := by simpa using Fr.new x2 (V.heap.size) _ (by first | assumption | (simp; omega))
          have f6_3 := Fr.keep (below_alloc x2 (.cells #[.int .i64 0, .int .i64 0] 110)) f6_2
          refine hK.out _ _ (by with_reducible assumption) (fun hHeld => ?_)
          clear hK K
          try go_frame
          refine wpAnyH_ready (rs := [7]) (by kernel_rfl) (by simp) ?_
          refine AllReadyH.cons (i := 7) (o := { dst := some 14, op := Op.call { callee := Callee.value (Operand.func 68), args := #[Operand.tmp 11, Operand.tmp 13], argTypes := #[91, 23] }, type := 110, pos := "grid.go:51", after := #[{ on := 4, ground := Ground.data }, { on := 6, ground := Ground.data }, { on := 3, ground := Ground.chain }], guard := none }) rfl (fun K hK => ?_) AllReadyH.nil
          go_simp
          go_at_call 68
          refine Calls.mono (HF2.out _) ?_
          rintro e x4 ⟨rfl, hb4⟩
          have hS4 := H6n.out _ _ (by with_reducible assumption) hb4
          have hU4 : V.heap.size ≤ x4.heap.size := Nat.le_trans (by first | assumption | omega | (simp; omega)) hb4.size
          have f5_4 := Fr.keep hb4 f5_3
          have f6_4 := Fr.keep hb4 f6_3
          have hlk5_4 : (x2.heap.size) < x4.heap.size := Fr.lt f5_4 rfl
          have hlk6_4 : (U0.heap.size) < x4.heap.size := Fr.lt f6_4 rfl
          refine hK.out _ _ (by with_reducible assumption) (fun hHeld => ?_)
          clear hK K
          try go_frame
          have hne : (x2.heap.size) ≠ (U0.heap.size) := by first | omega | (simp; done) | (simp; omega)
          obtain ⟨_, p0, p1, p2, p3⟩ := f5_4 rfl
          refine wpAnyH_ready (rs := [10]) (by kernel_rfl) (by simp) ?_
          refine AllReadyH.cons (i := 10) (o := { dst := none, op := Op.store 110 (Operand.tmp 5) (Operand.tmp 10), type := 0, pos := "grid.go:51", after := #[{ on := 8, ground := Ground.data }, { on := 3, ground := Ground.data }, { on := 7, ground := Ground.chain }, { on := 0, ground := Ground.phase }, { on := 1, ground := Ground.phase }, { on := 2, ground := Ground.phase }, { on := 3, ground := Ground.phase }, { on := 4, ground := Ground.textOnly Departure.lateStores }, { on := 5, ground := Ground.textOnly Departure.lateStores }, { on := 6, ground := Ground.textOnly Departure.lateStores }, { on := 7, ground := Ground.textOnly Departure.lateStoresUnsure }, { on := 8, ground := Ground.phase }, { on := 9, ground := Ground.phase }], guard := none }) rfl (fun K hK => ?_) AllReadyH.nil
          go_simp
          have hS := H6c.out _ ((x2.heap.size)) l1 l2 (by with_reducible assumption) (f5_4 rfl).1
          refine hK.out _ _ hS (fun hHeld => ?_)
          clear hK K
          try go_frame
          have g6 := Fr.put l1 l2 f6_4 (Ne.symm hne)
          have g5 := Put.own l1 l2 f5_4
          clear p0 p1 p2 p3 hS
          change wpAnyH _ _ _ _ _ _ _ _ (Put x4 ((x2.heap.size)) l1 l2)
          have hHeld2 := H6.out _ (show Below _ _ (Put x4 ((x2.heap.size)) l1 l2) from hHeld.2.2.2.2.2.2)
          clear hHeld
          generalize Put x4 ((x2.heap.size)) l1 l2 = W10 at *
          obtain ⟨_, p0, p1, p2, p3⟩ := g6 rfl
          refine wpAnyH_ready (rs := [11]) (by kernel_rfl) (by simp) ?_
          refine AllReadyH.cons (i := 11) (o := { dst := none, op := Op.store 110 (Operand.tmp 6) (Operand.tmp 14), type := 0, pos := "grid.go:51", after := #[{ on := 9, ground := Ground.data }, { on := 7, ground := Ground.data }, { on := 10, ground := Ground.chain }, { on := 0, ground := Ground.phase }, { on := 1, ground := Ground.phase }, { on := 2, ground := Ground.phase }, { on := 3, ground := Ground.phase }, { on := 4, ground := Ground.phase }, { on := 5, ground := Ground.phase }, { on := 6, ground := Ground.phase }, { on := 7, ground := Ground.phase }, { on := 8, ground := Ground.phase }, { on := 9, ground := Ground.phase }, { on := 10, ground := Ground.phase }], guard := none }) rfl (fun K hK => ?_) AllReadyH.nil
          go_simp
          have hS := H6c.out _ ((U0.heap.size)) m1 m2 (by with_reducible assumption) (g6 rfl).1
          refine hK.out _ _ hS (fun hHeld => ?_)
          clear hK K
          try go_frame
          have q6 := Put.own m1 m2 g6
          have q50 := (Put.other W10 ((U0.heap.size)) m1 m2 hne (o := 0)).trans g5.1
          have q51 := (Put.other W10 ((U0.heap.size)) m1 m2 hne (o := 1)).trans g5.2
          refine wpAnyH_done (by kernel_rfl) ?_ _
          go_wp2_with fail
          go_meet
          exact ⟨((x2.heap.size)), ((U0.heap.size)), rfl, rfl, Lib.hid ⟨q50, q51⟩, Lib.hid ⟨q6.1, q6.2⟩, (f5_4 rfl).1, (f6_4 rfl).1, Lib.hid hHeld.2.2.2.2.2.2⟩
      · go_simp
        have hS2 := H6n.out _ _ (by with_reducible assumption) (below_alloc (U0.alloc (.cells #[.int .i64 0, .int .i64 0] 110)) (.cells #[.int .i64 0, .int .i64 0] 110))
        have f5_2 : Fr ((U0.alloc (.cells #[.int .i64 0, .int .i64 0] 110)).alloc (.cells #[.int .i64 0, .int .i64 0] 110)) (V.heap.size) true (U0.heap.size + 1) := by simpa using Fr.new (U0.alloc (.cells #[.int .i64 0, .int .i64 0] 110)) (V.heap.size) _ (by first | assumption | (simp; omega))
        have f6_2 := Fr.keep (below_alloc (U0.alloc (.cells #[.int .i64 0, .int .i64 0] 110)) (.cells #[.int .i64 0, .int .i64 0] 110)) f6_1
        refine hK.out _ _ (by with_reducible assumption) (fun hHeld => ?_)
        clear hK K
        try go_frame
        refine wpAnyH_ready (rs := [3]) (by kernel_rfl) (by simp) ?_
        refine AllReadyH.cons (i := 3) (o := { dst := some 10, op := Op.call { callee := Callee.value (Operand.func 68), args := #[Operand.tmp 7, Operand.tmp 9], argTypes := #[91, 23] }, type := 110, pos := "grid.go:51", after := #[{ on := 0, ground := Ground.data }, { on := 2, ground := Ground.data }], guard := none }) rfl (fun K hK => ?_) AllReadyH.nil
        go_simp
        go_at_call 68
        refine Calls.mono (HF1.out _) ?_
        rintro e x3 ⟨rfl, hb3⟩
        have hS3 := H6n.out _ _ (by with_reducible assumption) hb3
        have hU3 : V.heap.size ≤ x3.heap.size := Nat.le_trans (by first | assumption | omega | (simp; omega)) hb3.size
        have f5_3 := Fr.keep hb3 f5_2
        have f6_3 := Fr.keep hb3 f6_2
        have hlk5_3 : (U0.heap.size + 1) < x3.heap.size := Fr.lt f5_3 rfl
        have hlk6_3 : (U0.heap.size) < x3.heap.size := Fr.lt f6_3 rfl
        refine hK.out _ _ (by with_reducible assumption) (fun hHeld => ?_)
        clear hK K
        try go_frame
        refine wpAnyH_ready (rs := [7]) (by kernel_rfl) (by simp) ?_
        refine AllReadyH.cons (i := 7) (o := { dst := some 14, op := Op.call { callee := Callee.value (Operand.func 68), args := #[Operand.tmp 11, Operand.tmp 13], argTypes := #[91, 23] }, type := 110, pos := "grid.go:51", after := #[{ on := 4, ground := Ground.data }, { on := 6, ground := Ground.data }, { on := 3, ground := Ground.chain }], guard := none }) rfl (fun K hK => ?_) AllReadyH.nil
        go_simp
        go_at_call 68
        refine Calls.mono (HF2.out _) ?_
        rintro e x4 ⟨rfl, hb4⟩
        have hS4 := H6n.out _ _ (by with_reducible assumption) hb4
        have hU4 : V.heap.size ≤ x4.heap.size := Nat.le_trans (by first | assumption | omega | (simp; omega)) hb4.size
        have f5_4 := Fr.keep hb4 f5_3
        have f6_4 := Fr.keep hb4 f6_3
        have hlk5_4 : (U0.heap.size + 1) < x4.heap.size := Fr.lt f5_4 rfl
        have hlk6_4 : (U0.heap.size) < x4.heap.size := Fr.lt f6_4 rfl
        refine hK.out _ _ (by with_reducible assumption) (fun hHeld => ?_)
        clear hK K
        try go_frame
        have hne : (U0.heap.size + 1) ≠ (U0.heap.size) := by first | omega | (simp; done) | (simp; omega)
        obtain ⟨_, p0, p1, p2, p3⟩ := f5_4 rfl
        refine wpAnyH_ready (rs := [10]) (by kernel_rfl) (by simp) ?_
        refine AllReadyH.cons (i := 10) (o := { dst := none, op := Op.store 110 (Operand.tmp 5) (Operand.tmp 10), type := 0, pos := "grid.go:51", after := #[{ on := 8, ground := Ground.data }, { on := 3, ground := Ground.data }, { on := 7, ground := Ground.chain }, { on := 0, ground := Ground.phase }, { on := 1, ground := Ground.phase }, { on := 2, ground := Ground.phase }, { on := 3, ground := Ground.phase }, { on := 4, ground := Ground.textOnly Departure.lateStores }, { on := 5, ground := Ground.textOnly Departure.lateStores }, { on := 6, ground := Ground.textOnly Departure.lateStores }, { on := 7, ground := Ground.textOnly Departure.lateStoresUnsure }, { on := 8, ground := Ground.phase }, { on := 9, ground := Ground.phase }], guard := none }) rfl (fun K hK => ?_) AllReadyH.nil
        go_simp
        have hS := H6c.out _ ((U0.heap.size + 1)) l1 l2 (by with_reducible assumption) (f5_4 rfl).1
        refine hK.out _ _ hS (fun hHeld => ?_)
        clear hK K
        try go_frame
        have g6 := Fr.put l1 l2 f6_4 (Ne.symm hne)
        have g5 := Put.own l1 l2 f5_4
        clear p0 p1 p2 p3 hS
        change wpAnyH _ _ _ _ _ _ _ _ (Put x4 ((U0.heap.size + 1)) l1 l2)
        have hHeld2 := H6.out _ (show Below _ _ (Put x4 ((U0.heap.size + 1)) l1 l2) from hHeld.2.2.2.2.2.2)
        clear hHeld
        generalize Put x4 ((U0.heap.size + 1)) l1 l2 = W10 at *
        obtain ⟨_, p0, p1, p2, p3⟩ := g6 rfl
        refine wpAnyH_ready (rs := [11]) (by kernel_rfl) (by simp) ?_
        refine AllReadyH.cons (i := 11) (o := { dst := none, op := Op.store 110 (Operand.tmp 6) (Operand.tmp 14), type := 0, pos := "grid.go:51", after := #[{ on := 9, ground := Ground.data }, { on := 7, ground := Ground.data }, { on := 10, ground := Ground.chain }, { on := 0, ground := Ground.phase }, { on := 1, ground := Ground.phase }, { on := 2, ground := Ground.phase }, { on := 3, ground := Ground.phase }, { on := 4, ground := Ground.phase }, { on := 5, ground := Ground.phase }, { on := 6, ground := Ground.phase }, { on := 7, ground := Ground.phase }, { on := 8, ground := Ground.phase }, { on := 9, ground := Ground.phase }, { on := 10, ground := Ground.phase }], guard := none }) rfl (fun K hK => ?_) AllReadyH.nil
        go_simp
        have hS := H6c.out _ ((U0.heap.size)) m1 m2 (by with_reducible assumption) (g6 rfl).1
        refine hK.out _ _ hS (fun hHeld => ?_)
        clear hK K
        try go_frame
        have q6 := Put.own m1 m2 g6
        have q50 := (Put.other W10 ((U0.heap.size)) m1 m2 hne (o := 0)).trans g5.1
        have q51 := (Put.other W10 ((U0.heap.size)) m1 m2 hne (o := 1)).trans g5.2
        refine wpAnyH_done (by kernel_rfl) ?_ _
        go_wp2_with fail
        go_meet
        exact ⟨((U0.heap.size + 1)), ((U0.heap.size)), rfl, rfl, Lib.hid ⟨q50, q51⟩, Lib.hid ⟨q6.1, q6.2⟩, (f5_4 rfl).1, (f6_4 rfl).1, Lib.hid hHeld.2.2.2.2.2.2⟩
  case rest =>
    obtain ⟨kl, kh, rfl, rfl, HL, HH, hl, hh, HBc⟩ := hcut
    have hsz := HB0.out.size
    have HBw := Lib.hid (below_after HB0.out HBc.out)
    have hl2 : w.heap.size ≤ kl := by omega
    have hh2 : w.heap.size ≤ kh := by omega
    go_wp2_with fail
    exact HFin.out _ _ ⟨kl, kh, rfl, HL.out, HH.out, hl2, hh2, HBw.out⟩
end Go.Proofs.Ytenfaejdnphngaa
