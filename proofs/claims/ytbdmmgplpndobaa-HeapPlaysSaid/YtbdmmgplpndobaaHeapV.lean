/- Walks of the heap: Top. -/
import Derived.Test.YtbdmmgplpndobaaHeapU
import Derived.Test.YtbdmmgplpndobaaHeapK
namespace Go.Proofs.Ytbdmmgplpndobaa
open Go.RowKit Go.Sort Go.Deep

theorem HpI.row {W : World} {B hb g mb : Nat} {P : List Pile} {cnt : Int} (h : HpI W B hb g mb P cnt) : ∃ q c, W.cell? ⟨hb, 0, none⟩ = some (.slice q P.length c) ∧
    (0 < P.length → ∃ k, q = some ⟨k, 0, none⟩ ∧ W.cell? ⟨k, 0, none⟩ = some (.int .i64 (pA P 0).1.1) ∧ W.cell? ⟨k, 1, none⟩ = some (.int .i64 (pA P 0).1.2.1) ∧ W.cell? ⟨k, 2, none⟩ = some (.int .i64 (pA P 0).1.2.2)) := by
  rcases h.st with ⟨rfl, rfl, rfl, hz⟩ | ⟨cap, ps, H, G⟩
  · exact ⟨none, 0, hz.c0, fun h => absurd h (by simp)⟩
  · refine ⟨_, cap, H.c0, fun h0 => ⟨g, rfl, ?_⟩⟩
    obtain ⟨a0, a1, a2, _⟩ := H.pile h0
    rw [pA_at h0]
    exact ⟨by simpa using a0, by simpa using a1, by simpa using a2⟩
set_option maxRecDepth 100000 in
set_option maxHeartbeats 4000000 in
theorem htop_any {W : World} {B hb g mb : Nat} {P : List Pile} {cnt : Int} (h : HpI W B hb g mb P cnt) :
    Calls Try.prog 13 #[.pointer (some ⟨hb, 0, none⟩)] W fun en w' => en = .returned (.tuple #[encE3 (pA P 0).1, .bool (decide (0 < P.length))]) ∧ Below W.heap.size W w' := by
  have hmx : Try.prog.follows .mixedOrders = true := by kernel_rfl
  obtain ⟨q, c, c0, hr⟩ := h.row
  have c0a := fun o => cell_later (below_alloc W o) c0
  by_cases h0 : 0 < P.length
  · have hne : ((P.length : Int) == 0) = false := by simp; intro e; subst e; simp at h0
    have hne2 : (P.length == 0) = false := by simp; intro e; subst e; simp at h0
    have hlt : (0 : Int) < (P.length : Int) := by omega
    obtain ⟨k, rfl, a0, a1, a2⟩ := hr h0
    have r0 := fun o => cell_later (below_alloc W o) a0
    have r1 := fun o => cell_later (below_alloc W o) a1
    have r2 := fun o => cell_later (below_alloc W o) a2
    have hk := World.block_lt_of_cell? W _ a0
    rw [show decide (0 < P.length) = true from by simpa using h0]
    generalize (pA P 0).1 = e at *
    obtain ⟨e1, e2, e3⟩ := e
    clear h hr
    go_enter Try.func13, Try.ntmps13
    go_wp2_with fail
    exact bodyPost_ret (v := .tuple #[.agg #[.int .i64 e1, .int .i64 e2, .int .i64 e3], .bool true]) (by simp [results, Try.results13, go_sem]) rfl ⟨rfl, below_alloc _ _⟩
  · obtain rfl : P = [] := List.eq_nil_of_length_eq_zero (by omega)
    clear h hr
    go_enter Try.func13, Try.ntmps13
    go_wp2_with fail
    exact bodyPost_ret (v := .tuple #[.agg #[.int .i64 0, .int .i64 0, .int .i64 0], .bool false]) (by simp [results, Try.results13, go_sem]) rfl ⟨rfl, below_alloc _ _⟩
theorem htop_nil (W : World) :
    Calls Try.prog 13 #[.pointer none] W fun en w' => en = .returned (.tuple #[encE3 (0, 0, 0), .bool false]) ∧ Below W.heap.size W w' := by
  go_enter Try.func13, Try.ntmps13
  go_wp2_with fail
  exact bodyPost_ret (v := .tuple #[.agg #[.int .i64 0, .int .i64 0, .int .i64 0], .bool false]) (by simp [results, Try.results13, go_sem]) rfl ⟨rfl, below_alloc _ _⟩
theorem hpush_nil (W : World) (v : Value) : Calls Try.prog 12 #[.pointer none, v] W fun en w' => en = .returned (.int .i64 0) ∧ w' = W := by
  go_enter Try.func12, Try.ntmps12
  go_wp2_with fail
  go_ret
  exact ⟨rfl, rfl⟩
theorem hdrop_nil (W : World) (v : Value) : Calls Try.prog 10 #[.pointer none, v] W fun en w' => en = .returned (.int .i64 0) ∧ w' = W := by
  go_enter Try.func10, Try.ntmps10
  go_wp2_with fail
  go_ret
  exact ⟨rfl, rfl⟩
theorem hlen_nil (W : World) : Calls Try.prog 14 #[.pointer none] W fun en w' => en = .returned (.int .i64 0) ∧ w' = W := by
  go_enter Try.func14, Try.ntmps14
  go_wp2_with fail
  go_ret
  exact ⟨rfl, rfl⟩
theorem hall_nil (W : World) : Calls Try.prog 16 #[.pointer none] W fun en w' => en = .returned (.slice none 0 0) ∧ w' = W := by
  go_enter Try.func16, Try.ntmps16
  go_wp2_with fail
  go_ret
  exact ⟨rfl, rfl⟩
/-- A block that was made, and stays. -/
def E3B (W : World) (k : Nat) (e : E3) : Prop := W.cell? ⟨k, 0, none⟩ = some (.int .i64 e.1) ∧ W.cell? ⟨k, 1, none⟩ = some (.int .i64 e.2.1) ∧ W.cell? ⟨k, 2, none⟩ = some (.int .i64 e.2.2) ∧ ∀ o, W.frozen? ⟨k, o, none⟩ = false
theorem E3B.keep {W W1 : World} {k : Nat} {e : E3} (h : E3B W k e) (hb : Below W.heap.size W W1) : E3B W1 k e :=
  ⟨cell_later hb h.1, cell_later hb h.2.1, cell_later hb h.2.2.1, fun o => (World.frozen?_of_block (a := ⟨k, o, none⟩) (hb.block k (World.block_lt_of_cell? W _ h.1))).trans (h.2.2.2 o)⟩
theorem E3B.frm {hb g mb : Nat} {W W1 : World} {k : Nat} {e : E3} (h : E3B W k e) (hf : Frm hb g mb W W1) (h1 : k ≠ hb) (h2 : k ≠ g) (h3 : k ≠ mb) : E3B W1 k e :=
  ⟨hf.cell h.1 h1 h2 h3, hf.cell h.2.1 h1 h2 h3, hf.cell h.2.2.1 h1 h2 h3, fun o => (World.frozen?_of_block (a := ⟨k, o, none⟩) (hf.block k (World.block_lt_of_cell? W _ h.1) h1 h2 h3)).trans (h.2.2.2 o)⟩
theorem e3b_new (W : World) (e : E3) : E3B (W.alloc (.cells #[.int .i64 e.1, .int .i64 e.2.1, .int .i64 e.2.2] 31)) W.heap.size e := by
  refine ⟨?_, ?_, ?_, fun o => ?_⟩ <;> go_simp
theorem e3b_put0 {w : World} {k : Nat} {e0 : E3} (h : E3B w k e0) (e : E3) : E3B (((w.setCell ⟨k, 0, none⟩ (.int .i64 e.1)).setCell ⟨k, 1, none⟩ (.int .i64 e.2.1)).setCell ⟨k, 2, none⟩ (.int .i64 e.2.2)) k e := by
  obtain ⟨c0, c1, c2, f⟩ := h
  have n : ∀ a b : Nat, a ≠ b → (⟨k, a, none⟩ : Addr) ≠ ⟨k, b, none⟩ := fun a b h e => by injection e with _ e2; exact h e2
  refine ⟨?_, ?_, ?_, fun o => by simpa using f o⟩
  · rw [World.cell?_setCell_other _ _ _ _ (n _ _ (by decide)), World.cell?_setCell_other _ _ _ _ (n _ _ (by decide)), World.cell?_setCell_same _ _ _ c0]
  · rw [World.cell?_setCell_other _ _ _ _ (n _ _ (by decide)), World.cell?_setCell_same _ _ _ (by rw [World.cell?_setCell_other _ _ _ _ (n _ _ (by decide))]; exact c1)]
  · rw [World.cell?_setCell_same _ _ _ (by rw [World.cell?_setCell_other _ _ _ _ (n _ _ (by decide)), World.cell?_setCell_other _ _ _ _ (n _ _ (by decide))]; exact c2)]
theorem e3b_put {w : World} {k : Nat} {e0 : E3} (h : E3B w k e0) (e : E3) (X : Obj) : E3B ((((w.setCell ⟨k, 0, none⟩ (.int .i64 e.1)).setCell ⟨k, 1, none⟩ (.int .i64 e.2.1)).setCell ⟨k, 2, none⟩ (.int .i64 e.2.2)).alloc X) k e :=
  (e3b_put0 h e).keep (below_alloc _ _)
theorem below_put3 {w0 w : World} {k : Nat} (hb : Below w0.heap.size w0 w) (hk : w0.heap.size ≤ k) (x y z : Value) (X : Obj) : Below w0.heap.size w0 ((((w.setCell ⟨k, 0, none⟩ x).setCell ⟨k, 1, none⟩ y).setCell ⟨k, 2, none⟩ z).alloc X) := by
  have h1 := ((hb.setCell (p := ⟨k, 0, none⟩) hk x).setCell (p := ⟨k, 1, none⟩) hk y).setCell (p := ⟨k, 2, none⟩) hk z
  exact h1.alloc h1.size X
theorem blk_put3 {w : World} {k j : Nat} (h : j ≠ k) (x y z : Value) : (((w.setCell ⟨k, 0, none⟩ x).setCell ⟨k, 1, none⟩ y).setCell ⟨k, 2, none⟩ z).heap[j]? = w.heap[j]? := by
  rw [blk_setCell_other _ _ _ _ h, blk_setCell_other _ _ _ _ h, blk_setCell_other _ _ _ _ h]
theorem frm_put3 {w0 w : World} {hb g mb k : Nat} (h : Frm hb g mb w0 w) (hk : w0.heap.size ≤ k) (x y z : Value) : Frm hb g mb w0 (((w.setCell ⟨k, 0, none⟩ x).setCell ⟨k, 1, none⟩ y).setCell ⟨k, 2, none⟩ z) :=
  ⟨h.os, h.tape, h.output, by have := h.size; simp; omega, fun j hj h1 h2 h3 => (blk_put3 (by omega) x y z).trans (h.block j hj h1 h2 h3)⟩
theorem HpI.of {W W1 : World} {B hb g mb : Nat} {P : List Pile} {cnt : Int} (h : HpI W B hb g mb P cnt) (e : ∀ j, j = hb ∨ j = g ∨ j = mb → W1.heap[j]? = W.heap[j]?) : HpI W1 B hb g mb P cnt := by
  refine ⟨?_, h.pos, h.sum⟩
  have e1 := e hb (.inl rfl)
  have e2 := e g (.inr (.inl rfl))
  have e3 := e mb (.inr (.inr rfl))
  have hc : ∀ o v, W.cell? ⟨hb, o, none⟩ = some v → W1.cell? ⟨hb, o, none⟩ = some v := fun o v hv => (World.cell?_of_block (w := W) (a := ⟨hb, o, none⟩) e1).trans hv
  have hf : ∀ o, W1.frozen? ⟨hb, o, none⟩ = W.frozen? ⟨hb, o, none⟩ := fun o => World.frozen?_of_block (w := W) (a := ⟨hb, o, none⟩) e1
  rcases h.st with ⟨h1, h2, h3, hz⟩ | ⟨cap, ps, H, G⟩
  · exact .inl ⟨h1, h2, h3, hc _ _ hz.c0, hc _ _ hz.c1, hc _ _ hz.c2, (hf 0).trans hz.f0, (hf 1).trans hz.f1, (hf 2).trans hz.f2, hz.hB⟩
  · exact .inr ⟨cap, ps, ⟨hc _ _ H.c0, hc _ _ H.c1, hc _ _ H.c2, (hf 0).trans H.f0, (hf 1).trans H.f1, (hf 2).trans H.f2, own_of H.own e2, H.map.of e3, H.gh, H.mh, H.mg, H.hB, H.mB⟩, G⟩
theorem hpop_nil (W : World) :
    Calls Try.prog 8 #[.pointer none] W fun en w' => en = .returned (.tuple #[encE3 (0, 0, 0), .bool false]) ∧ Below W.heap.size W w' := by
  go_enter Try.func8, Try.ntmps8
  go_wp2_with fail
  go_at_call 13
  refine (htop_nil _).mono ?_
  rintro e w1 ⟨rfl, hb1⟩
  obtain ⟨_, _, _, f0⟩ := ((e3b_new W (0, 0, 0)).keep hb1).keep (below_alloc w1 (.cells #[.int .i64 0, .int .i64 0, .int .i64 0] 31))
  obtain ⟨c0, c1, c2, _⟩ := (e3b_new W (0, 0, 0)).keep hb1
  have HE := Lib.hid (e3b_put ((e3b_new W (0, 0, 0)).keep hb1) (0, 0, 0) (.cells #[.int .i64 0, .int .i64 0, .int .i64 0] 31))
  have HZ := Lib.hid (below_put3 (below_after (below_alloc W (.cells #[.int .i64 0, .int .i64 0, .int .i64 0] 31)) hb1) (Nat.le_refl _) (.int .i64 0) (.int .i64 0) (.int .i64 0) (.cells #[.int .i64 0, .int .i64 0, .int .i64 0] 31))
  have hk := World.block_lt_of_cell? w1 _ c0
  clear hb1
  unfold encE3
  go_wp2_with fail
  obtain ⟨d0, d1, d2, _⟩ := HE.out
  exact bodyPost_ret (v := .tuple #[.agg #[.int .i64 0, .int .i64 0, .int .i64 0], .bool false]) (by simp [results, Try.results8, go_sem, d0, d1, d2]) rfl ⟨rfl, HZ.out⟩
def PoPost (W : World) (B hb g mb : Nat) (P : List Pile) (cnt : Int) (en : Ending) (w' : World) : Prop :=
  (P = [] ∧ en = .returned (.tuple #[encE3 (0, 0, 0), .bool false]) ∧ Below W.heap.size W w') ∨
  (0 < P.length ∧ en = .returned (.tuple #[encE3 (pA P 0).1, .bool true]) ∧ Frm hb g mb W w' ∧ HpI w' B hb g mb (takF P 0) (cnt - 1))
set_option maxRecDepth 100000 in
set_option maxHeartbeats 4000000 in
theorem hpop_any {W : World} {B hb g mb : Nat} {P : List Pile} {cnt : Int} (h : HpI W B hb g mb P cnt) (hc : cnt ≤ 1000000) :
    Calls Try.prog 8 #[.pointer (some ⟨hb, 0, none⟩)] W (PoPost W B hb g mb P cnt) := by
  have hmx : Try.prog.follows .mixedOrders = true := by kernel_rfl
  have H0 := Lib.hid (h.keep (below_alloc W (.cells #[.int .i64 0, .int .i64 0, .int .i64 0] 31)))
  have hlt := h.lts
  have HT := Lib.hid (htop_any H0.out)
  by_cases h0 : 0 < P.length
  · have hd : decide (0 < P.length) = true := by simpa using h0
    rw [hd] at HT
    have HK := Lib.hid (fun (V : World) (hV : HpI V B hb g mb P cnt) => ltake_n hV h0 hc)
    have HP : Hid (∀ en w', 0 < P.length ∧ en = .returned (.tuple #[encE3 (pA P 0).1, .bool true]) ∧ Frm hb g mb W w' ∧ HpI w' B hb g mb (takF P 0) (cnt - 1) → PoPost W B hb g mb P cnt en w') := Lib.hid (fun _ _ h => .inr h)
    have H0l := Lib.hid h0
    generalize (pA P 0).1 = e at *
    generalize takF P 0 = R at *
    obtain ⟨e1, e2, e3⟩ := e
    clear h hd h0
    unfold encE3 at *
    go_enter Try.func8, Try.ntmps8
    go_wp2_with fail
    go_at_call 13
    refine HT.out.mono ?_
    rintro en w1 ⟨rfl, hb1⟩
    have H1 := Lib.hid (H0.out.keep hb1)
    have HE := Lib.hid ((e3b_new W (0, 0, 0)).keep hb1)
    have HB := Lib.hid (below_after (below_alloc W (.cells #[.int .i64 0, .int .i64 0, .int .i64 0] 31)) hb1)
    have hs1 := hb1.size
    have hk1 : W.heap.size < w1.heap.size := by simp at hs1; omega
    clear hb1 H0 HT hs1
    go_upto_region 3 with fail
    have HN := Lib.hid ((e3b_new w1 (e1, e2, e3)).keep (Below.refl _ _).drew)
    have HE1 := Lib.hid ((HE.out.keep (below_alloc w1 (.cells #[.int .i64 e1, .int .i64 e2, .int .i64 e3] 31))).keep (Below.refl _ _).drew)
    have H2 := Lib.hid ((H1.out.keep (below_alloc w1 (.cells #[.int .i64 e1, .int .i64 e2, .int .i64 e3] 31))).keep (Below.refl _ _).drew)
    have HF : Hid (Frm hb g mb W ((w1.alloc (.cells #[.int .i64 e1, .int .i64 e2, .int .i64 e3] 31)).drew)) := Lib.hid (Frm.below (below_after HB.out (below_alloc w1 _)).drew)
    obtain ⟨b0, b1, b2, _⟩ := e3b_new w1 (e1, e2, e3)
    generalize w1.alloc (.cells #[.int .i64 e1, .int .i64 e2, .int .i64 e3] 31) = V1 at *
    have KA := Lib.hid (HK.out _ H2.out)
    clear HK H1 HE HB
    go_region_with (go_at_call 38; refine (KA.out).mono ?_; rintro en w2 ⟨rfl, hf2, h2⟩; have HF2 := Lib.hid (HF.out.trans hf2); have H3 := Lib.hid h2; have HN2 := Lib.hid (HN.out.frm hf2 (by omega) (by omega) (by omega)); have HE2 := Lib.hid (HE1.out.frm hf2 (by omega) (by omega) (by omega)); clear hf2 h2 b0 b1 b2)
    obtain ⟨b0, b1, b2, _⟩ := HN2.out
    obtain ⟨c0, c1, c2, f0⟩ := HE2.out
    have HE3 := Lib.hid (e3b_put0 HE2.out (e1, e2, e3))
    have HF3 := Lib.hid (frm_put3 HF2.out (Nat.le_refl _) (.int .i64 e1) (.int .i64 e2) (.int .i64 e3))
    have H4 := Lib.hid (H3.out.of (fun j hj => blk_put3 (w := w2) (k := W.heap.size) (j := j) (by omega) (.int .i64 e1) (.int .i64 e2) (.int .i64 e3)))
    go_wp2_with fail
    obtain ⟨d0, d1, d2, _⟩ := HE3.out
    exact bodyPost_ret (v := .tuple #[.agg #[.int .i64 e1, .int .i64 e2, .int .i64 e3], .bool true]) (by simp [results, Try.results8, go_sem, d0, d1, d2]) rfl (HP.out _ _ ⟨H0l.out, rfl, HF3.out, H4.out⟩)
  · obtain rfl : P = [] := List.eq_nil_of_length_eq_zero (by omega)
    rw [show decide (0 < ([] : List Pile).length) = false from rfl, show (pA [] 0).1 = (0, 0, 0) from rfl] at HT
    go_enter Try.func8, Try.ntmps8
    go_wp2_with fail
    go_at_call 13
    refine HT.out.mono ?_
    rintro e w1 ⟨rfl, hb1⟩
    obtain ⟨_, _, _, f0⟩ := ((e3b_new W (0, 0, 0)).keep hb1).keep (below_alloc w1 (.cells #[.int .i64 0, .int .i64 0, .int .i64 0] 31))
    obtain ⟨c0, c1, c2, _⟩ := (e3b_new W (0, 0, 0)).keep hb1
    have HE := Lib.hid (e3b_put ((e3b_new W (0, 0, 0)).keep hb1) (0, 0, 0) (.cells #[.int .i64 0, .int .i64 0, .int .i64 0] 31))
    have HZ := Lib.hid (below_put3 (below_after (below_alloc W (.cells #[.int .i64 0, .int .i64 0, .int .i64 0] 31)) hb1) (Nat.le_refl _) (.int .i64 0) (.int .i64 0) (.int .i64 0) (.cells #[.int .i64 0, .int .i64 0, .int .i64 0] 31))
    have hk := World.block_lt_of_cell? w1 _ c0
    clear hb1 h H0 HT
    unfold encE3
    go_wp2_with fail
    obtain ⟨d0, d1, d2, _⟩ := HE.out
    exact bodyPost_ret (v := .tuple #[.agg #[.int .i64 0, .int .i64 0, .int .i64 0], .bool false]) (by simp [results, Try.results8, go_sem, d0, d1, d2]) rfl (.inl ⟨rfl, rfl, HZ.out⟩)
end Go.Proofs.Ytbdmmgplpndobaa
