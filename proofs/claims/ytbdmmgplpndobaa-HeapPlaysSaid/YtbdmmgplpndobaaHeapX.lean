/- Walks of the heap's list: swap, rise, sink. -/
import Derived.Test.YtbdmmgplpndobaaHeapW
namespace Go.Proofs.Ytbdmmgplpndobaa
open Go.RowKit Go.Sort Go.Deep

theorem Frm.cell {hb g mb : Nat} {W W1 : World} (hf : Frm hb g mb W W1) {k o : Nat} {v : Value} (h : W.cell? ⟨k, o, none⟩ = some v) (h1 : k ≠ hb) (h2 : k ≠ g) (h3 : k ≠ mb) : W1.cell? ⟨k, o, none⟩ = some v := by
  have hk := World.block_lt_of_cell? W ⟨k, o, none⟩ h
  have := hf.block k hk h1 h2 h3
  rw [World.cell?_of_block (w := W) (a := ⟨k, o, none⟩) this]; exact h
/-- A pile in a block of its own. -/
def PlB (W : World) (k : Nat) (p : Pile) : Prop := W.cell? ⟨k, 0, none⟩ = some (.int .i64 p.1.1) ∧ W.cell? ⟨k, 1, none⟩ = some (.int .i64 p.1.2.1) ∧ W.cell? ⟨k, 2, none⟩ = some (.int .i64 p.1.2.2) ∧ W.cell? ⟨k, 3, none⟩ = some (.int .i64 p.2)
def encPo (p : Pile) (T : TypeId) : Obj := .cells #[.int .i64 p.1.1, .int .i64 p.1.2.1, .int .i64 p.1.2.2, .int .i64 p.2] T
theorem plb_old (W : World) (p : Pile) (T : TypeId) {o : Obj} : PlB ((W.alloc (encPo p T)).alloc o).drew W.heap.size p := by
  unfold PlB encPo
  refine ⟨?_, ?_, ?_, ?_⟩ <;> go_simp
theorem plb_new (W : World) (p : Pile) (T : TypeId) {o : Obj} : PlB ((W.alloc o).alloc (encPo p T)).drew (W.heap.size + 1) p := by
  unfold PlB encPo
  refine ⟨?_, ?_, ?_, ?_⟩ <;> go_simp
set_option maxRecDepth 100000 in
set_option maxHeartbeats 2000000 in
theorem lswap_any {W : World} {B hb g mb cap : Nat} {P : List Pile} {cnt : Int} {ps : List (E3 × Int)} (h : HpG W B hb g mb cap P cnt ps) {a b : Nat} (ha : a < P.length) (hbl : b < P.length) :
    Calls Try.prog 76 #[.pointer (some ⟨hb, 0, none⟩), .int .i64 (a : Int), .int .i64 (b : Int)] W (PutPost W B hb g mb cap ((P.set a P[b]).set b P[a]) cnt (updM (updM ps P[b].1 (a : Int)) P[a].1 (b : Int))) := by
  have hmx : Try.prog.follows .mixedOrders = true := by kernel_rfl
  have H0 := Lib.hid h
  have c0 := h.c0
  obtain ⟨a0, a1, a2, a3⟩ := h.pile ha
  obtain ⟨b0, b1, b2, b3⟩ := h.pile hbl
  have x1 : (a : Int) < (P.length : Int) := by omega
  have x2 : (b : Int) < (P.length : Int) := by omega
  have hx := h.hlt
  have hgl := h.glt.2
  have hml := h.map.lt
  clear h
  generalize P[a] = p at *
  generalize P[b] = r at *
  obtain ⟨⟨p1, p2, p3⟩, p4⟩ := p
  obtain ⟨⟨r1, r2, r3⟩, r4⟩ := r
  go_enter Try.func76, Try.ntmps76
  go_upto_region 0 with fail
  go_cut [6, 7] (fun s t wx => ∃ k1 k2 : Nat, s = .pointer (some ⟨k1, 0, none⟩) ∧ t = .pointer (some ⟨k2, 0, none⟩) ∧ W.heap.size ≤ k1 ∧ W.heap.size ≤ k2 ∧ Hid (PlB wx k1 ((p1, p2, p3), p4)) ∧ Hid (PlB wx k2 ((r1, r2, r3), r4)) ∧ Hid (Below W.heap.size W wx))
  case first =>
    clear H0
    go_region
    all_goals
      go_wp2_with fail
      go_meet
      first
        | exact ⟨_, _, rfl, rfl, by omega, by omega, Lib.hid (plb_old W ((p1, p2, p3), p4) _), Lib.hid (plb_new W ((r1, r2, r3), r4) _), Lib.hid (below_after (below_alloc _ _) (below_alloc _ _)).drew⟩
        | exact ⟨_, _, rfl, rfl, by omega, by omega, Lib.hid (plb_new W ((p1, p2, p3), p4) _), Lib.hid (plb_old W ((r1, r2, r3), r4) _), Lib.hid (below_after (below_alloc _ _) (below_alloc _ _)).drew⟩
  case rest =>
    obtain ⟨k1, k2, rfl, rfl, l1, l2, H1, H2, HB⟩ := hcut
    obtain ⟨W2, hW2⟩ : ∃ W, W = wc := ⟨_, rfl⟩
    subst hW2
    have HG := Lib.hid (H0.out.keep HB.out)
    have HFb : Hid (Frm hb g mb W W2) := Lib.hid (Frm.below HB.out)
    have hgh : k1 ≠ hb ∧ k1 ≠ g ∧ k1 ≠ mb := ⟨by omega, by omega, by omega⟩
    have HGH := Lib.hid hgh
    clear H0 HB c0 a0 a1 a2 a3 b0 b1 b2 b3 hgh
    obtain ⟨d0, d1, d2, d3⟩ := H2.out
    have KP := Lib.hid (lput_any HG.out ha ((r1, r2, r3), r4))
    go_wp2_with fail
    go_at_call 73
    refine Calls.mono KP.out ?_
    rintro e w1 ⟨rfl, hg1, hf1⟩
    have HG1 := Lib.hid hg1
    have HF1 := Lib.hid (HFb.out.trans hf1)
    obtain ⟨e0', e1', e2', e3'⟩ := H1.out
    have e0 := hf1.cell e0' HGH.out.1 HGH.out.2.1 HGH.out.2.2
    have e1 := hf1.cell e1' HGH.out.1 HGH.out.2.1 HGH.out.2.2
    have e2 := hf1.cell e2' HGH.out.1 HGH.out.2.1 HGH.out.2.2
    have e3 := hf1.cell e3' HGH.out.1 HGH.out.2.1 HGH.out.2.2
    have KP2 := Lib.hid (lput_any HG1.out (i := b) (by rw [List.length_set]; exact hbl) ((p1, p2, p3), p4))
    clear hg1 hf1 e0' e1' e2' e3' d0 d1 d2 d3 H1 H2 KP HG HFb
    go_wp2_with fail
    go_at_call 73
    refine Calls.mono KP2.out ?_
    rintro e w2 ⟨rfl, hg2, hf2⟩
    have HG2 := Lib.hid hg2
    have HF2 := Lib.hid (HF1.out.trans hf2)
    clear hg2 hf2
    go_wp2_with fail
    exact bodyPost_ret (v := .tuple #[]) (by simp [results, go_sem]) rfl ⟨rfl, HG2.out, HF2.out⟩
end Go.Proofs.Ytbdmmgplpndobaa
