/- Walks of the heap's list: less, put, swap. -/
import Derived.Test.YtbdmmgplpndobaaHeapS
namespace Go.Proofs.Ytbdmmgplpndobaa
open Go.RowKit Go.Sort Go.Deep

set_option maxRecDepth 100000 in
set_option maxHeartbeats 2000000 in
theorem lless_any {W : World} {B hb g mb cap : Nat} {P : List Pile} {cnt : Int} {ps : List (E3 × Int)} (h : HpG W B hb g mb cap P cnt ps) {a b : Nat} (ha : a < P.length) (hbl : b < P.length) :
    Calls Try.prog 75 #[.pointer (some ⟨hb, 0, none⟩), .int .i64 (a : Int), .int .i64 (b : Int)] W fun e w' => e = .returned (.bool (ltE P[a].1 P[b].1)) ∧ Below W.heap.size W w' := by
  have hmx : Try.prog.follows .mixedOrders = true := by kernel_rfl
  have c0 := h.c0
  obtain ⟨a0, a1, a2, _⟩ := h.pile ha
  obtain ⟨b0, b1, b2, _⟩ := h.pile hbl
  have x1 : (a : Int) < (P.length : Int) := by omega
  have x2 : (b : Int) < (P.length : Int) := by omega
  clear h
  generalize P[a].1 = p at *
  generalize P[b].1 = r at *
  obtain ⟨p1, p2, p3⟩ := p
  obtain ⟨r1, r2, r3⟩ := r
  have KC : Hid (∀ (d : Nat) (os : Array Obj), Calls Try.prog 17 #[.agg #[.int .i64 p1, .int .i64 p2, .int .i64 p3], .agg #[.int .i64 r1, .int .i64 r2, .int .i64 r3]] (grow (redrawn W d) os) fun e w'' => e = .returned (.bool (ltE (p1, p2, p3) (r1, r2, r3))) ∧ ∃ p : Regrown, w'' = grow (redrawn W p.d) p.os) :=
    Lib.hid (fun d os => Calls.regrown_of (hless_any (p1, p2, p3) (r1, r2, r3) _))
  generalize ltE (p1, p2, p3) (r1, r2, r3) = l at *
  have r0 := fun d os => cell_regrown c0 d os
  have q0 := fun d os => cell_regrown a0 d os
  have q1 := fun d os => cell_regrown a1 d os
  have q2 := fun d os => cell_regrown a2 d os
  have s0 := fun d os => cell_regrown b0 d os
  have s1 := fun d os => cell_regrown b1 d os
  have s2 := fun d os => cell_regrown b2 d os
  clear c0 a0 a1 a2 b0 b1 b2
  go_enter Try.func75, Try.ntmps75
  go_wp2_with fail
  refine wp_region_quiet_below (by assumption) (by kernel_rfl) ?_
  repeat (go_big_quiet_step (with_reducible exact KC.out _ _))
  refine wpQuiet_nil ?_
  rintro _ ⟨pg, rfl⟩
  have hb9 := Lib.hid (below_regrown W pg.d pg.os)
  clear r0 q0 q1 q2 s0 s1 s2 KC
  generalize grow (redrawn W pg.d) pg.os = W2 at *
  go_wp2_with fail
  go_ret
  exact ⟨rfl, hb9.out⟩
theorem frmG (hb g mb : Nat) (W : World) (o : Nat) (v : Value) : Frm hb g mb W (W.setCell ⟨g, o, none⟩ v) := Frm.setCell W _ v (.inr (.inl rfl))
/-- Behind four stores: a pile more. -/
theorem HpG.stored {W : World} {B hb g mb cap : Nat} {P : List Pile} {cnt : Int} {ps : List (E3 × Int)} (h : HpG W B hb g mb cap P cnt ps) (i : Nat) (p : Pile) :
    HpG ((((W.setCell ⟨g, i * 4, none⟩ (.int .i64 p.1.1)).setCell ⟨g, i * 4 + 1, none⟩ (.int .i64 p.1.2.1)).setCell ⟨g, i * 4 + 2, none⟩ (.int .i64 p.1.2.2)).setCell ⟨g, i * 4 + 3, none⟩ (.int .i64 p.2)) B hb g mb cap (P.set i p) cnt ps ∧
      Frm hb g mb W ((((W.setCell ⟨g, i * 4, none⟩ (.int .i64 p.1.1)).setCell ⟨g, i * 4 + 1, none⟩ (.int .i64 p.1.2.1)).setCell ⟨g, i * 4 + 2, none⟩ (.int .i64 p.1.2.2)).setCell ⟨g, i * 4 + 3, none⟩ (.int .i64 p.2)) := by
  have hne : ∀ o o', (⟨hb, o, none⟩ : Addr) ≠ ⟨g, o', none⟩ := fun o o' e => by injection e with e1; exact h.gh e1.symm
  have hcell : ∀ o v, W.cell? ⟨hb, o, none⟩ = some v → ((((W.setCell ⟨g, i * 4, none⟩ (.int .i64 p.1.1)).setCell ⟨g, i * 4 + 1, none⟩ (.int .i64 p.1.2.1)).setCell ⟨g, i * 4 + 2, none⟩ (.int .i64 p.1.2.2)).setCell ⟨g, i * 4 + 3, none⟩ (.int .i64 p.2)).cell? ⟨hb, o, none⟩ = some v := fun o v hv => by
    rw [World.cell?_setCell_other _ _ _ _ (Ne.symm (hne _ _)), World.cell?_setCell_other _ _ _ _ (Ne.symm (hne _ _)), World.cell?_setCell_other _ _ _ _ (Ne.symm (hne _ _)), World.cell?_setCell_other _ _ _ _ (Ne.symm (hne _ _))]
    exact hv
  have hmap : ((((W.setCell ⟨g, i * 4, none⟩ (.int .i64 p.1.1)).setCell ⟨g, i * 4 + 1, none⟩ (.int .i64 p.1.2.1)).setCell ⟨g, i * 4 + 2, none⟩ (.int .i64 p.1.2.2)).setCell ⟨g, i * 4 + 3, none⟩ (.int .i64 p.2)).heap[mb]? = W.heap[mb]? := by
    rw [blk_setCell_other _ _ _ _ h.mg, blk_setCell_other _ _ _ _ h.mg, blk_setCell_other _ _ _ _ h.mg, blk_setCell_other _ _ _ _ h.mg]
  constructor
  · refine ⟨by rw [List.length_set]; exact hcell _ _ h.c0, hcell _ _ h.c1, hcell _ _ h.c2, by simpa using h.f0, by simpa using h.f1, by simpa using h.f2, ?_, h.map.of hmap, h.gh, h.mh, h.mg, h.hB, h.mB⟩
    rw [List.length_set, pcl_set]
    exact own_set (own_set (own_set (own_set h.own _ _) _ _) _ _) _ _
  · exact (((frmG hb g mb W _ _).trans (frmG hb g mb _ _ _)).trans (frmG hb g mb _ _ _)).trans (frmG hb g mb _ _ _)
/-- Behind a store into the map. -/
theorem HpG.mapped {W W1 : World} {B hb g mb cap : Nat} {P : List Pile} {cnt : Int} {ps ps1 : List (E3 × Int)} (h : HpG W B hb g mb cap P cnt ps) (hm : MapI W1 mb ps1) (hg : W.grownBy W1 (some mb)) : HpG W1 B hb g mb cap P cnt ps1 :=
  have hfr : ∀ o, W1.frozen? ⟨hb, o, none⟩ = W.frozen? ⟨hb, o, none⟩ := fun o => World.frozen?_of_block (hg.block hb h.hlt (fun e => h.mh (by cases e; rfl)))
  have ne : some hb ≠ some mb := fun e => h.mh (by cases e; rfl)
  ⟨hg.cell h.c0 ne, hg.cell h.c1 ne, hg.cell h.c2 ne, (hfr 0).trans h.f0, (hfr 1).trans h.f1, (hfr 2).trans h.f2, h.own.kept hg (Or.inr (by simp [Value.ownBlock]; exact fun e => h.mg e.symm)), hm, h.gh, h.mh, h.mg, h.hB, h.mB⟩
def PutPost (W : World) (B hb g mb cap : Nat) (P : List Pile) (cnt : Int) (ps : List (E3 × Int)) (e : Ending) (w' : World) : Prop :=
  e = .returned (.tuple #[]) ∧ HpG w' B hb g mb cap P cnt ps ∧ Frm hb g mb W w'
set_option maxRecDepth 100000 in
set_option maxHeartbeats 2000000 in
theorem lput_any {W : World} {B hb g mb cap : Nat} {P : List Pile} {cnt : Int} {ps : List (E3 × Int)} (h : HpG W B hb g mb cap P cnt ps) {i : Nat} (hi : i < P.length) (p : Pile) :
    Calls Try.prog 73 #[.pointer (some ⟨hb, 0, none⟩), .int .i64 (i : Int), .agg #[.int .i64 p.1.1, .int .i64 p.1.2.1, .int .i64 p.1.2.2, .int .i64 p.2]] W (PutPost W B hb g mb cap (P.set i p) cnt (updM ps p.1 (i : Int))) := by
  obtain ⟨⟨p1, p2, p3⟩, p4⟩ := p
  have H0 := Lib.hid (h.keep (below_alloc W (.cells #[.int .i64 p1, .int .i64 p2, .int .i64 p3, .int .i64 p4] 89)))
  have hx := h.hlt
  have hgl := h.glt.2
  have hml := h.map.lt
  have HF0 : Hid (Frm hb g mb W (W.alloc (.cells #[.int .i64 p1, .int .i64 p2, .int .i64 p3, .int .i64 p4] 89))) := Lib.hid (Frm.below (below_alloc _ _))
  clear h
  have hmx : Try.prog.follows .mixedOrders = true := by kernel_rfl
  have HS := Lib.hid (fun (V : World) (hV : HpG V B hb g mb cap P cnt ps) => hV.stored i ((p1, p2, p3), p4))
  have hi' : (i : Int) < (P.length : Int) := by omega
  go_enter Try.func73, Try.ntmps73
  go_upto_region 1 with fail
  generalize hW1 : W.alloc (.cells #[.int .i64 p1, .int .i64 p2, .int .i64 p3, .int .i64 p4] 89) = W1 at *
  have hbx : W1.cell? ⟨W.heap.size, 0, none⟩ = some (.int .i64 p1) ∧ W1.cell? ⟨W.heap.size, 1, none⟩ = some (.int .i64 p2) ∧ W1.cell? ⟨W.heap.size, 2, none⟩ = some (.int .i64 p3) ∧ W1.cell? ⟨W.heap.size, 3, none⟩ = some (.int .i64 p4) := by
    subst hW1; refine ⟨?_, ?_, ?_, ?_⟩ <;> go_simp
  clear hW1
  go_cut [] (fun wx => Hid (HpG wx B hb g mb cap (P.set i ((p1, p2, p3), p4)) cnt ps) ∧ Hid (Frm hb g mb W1 wx) ∧ Hid (wx.cell? ⟨W.heap.size, 0, none⟩ = some (.int .i64 p1) ∧ wx.cell? ⟨W.heap.size, 1, none⟩ = some (.int .i64 p2) ∧ wx.cell? ⟨W.heap.size, 2, none⟩ = some (.int .i64 p3)))
  case first =>
    have c0 := H0.out.c0
    obtain ⟨a0, a1, a2, a3⟩ := H0.out.pile hi
    have f0 := H0.out.soft (i * 4)
    have f1 := H0.out.soft (i * 4 + 1)
    have f2 := H0.out.soft (i * 4 + 2)
    have f3 := H0.out.soft (i * 4 + 3)
    obtain ⟨b0, b1, b2, b3⟩ := hbx
    have HR := HS.out W1.drew (H0.out.keep (Below.refl _ _).drew)
    have HR1 := Lib.hid HR.1
    have HR2 : Hid (Frm hb g mb W1 _) := Lib.hid ((Frm.below (Below.refl _ _).drew).trans HR.2)
    have HBx : Hid (∀ o v, W1.cell? ⟨W.heap.size, o, none⟩ = some v → ((((W1.drew.setCell ⟨g, i * 4, none⟩ (.int .i64 p1)).setCell ⟨g, i * 4 + 1, none⟩ (.int .i64 p2)).setCell ⟨g, i * 4 + 2, none⟩ (.int .i64 p3)).setCell ⟨g, i * 4 + 3, none⟩ (.int .i64 p4)).cell? ⟨W.heap.size, o, none⟩ = some v) := Lib.hid (fun o v hv => by
      have hne : ∀ o o', (⟨g, o', none⟩ : Addr) ≠ ⟨W.heap.size, o, none⟩ := fun o o' e => by injection e with e1; omega
      rw [World.cell?_setCell_other _ _ _ _ (hne _ _), World.cell?_setCell_other _ _ _ _ (hne _ _), World.cell?_setCell_other _ _ _ _ (hne _ _), World.cell?_setCell_other _ _ _ _ (hne _ _)]
      exact hv)
    have HB0 := Lib.hid b0
    have HB1 := Lib.hid b1
    have HB2 := Lib.hid b2
    clear HR HS H0
    generalize P[i] = pi at *
    go_region
    go_wp2_with fail
    go_meet
    exact ⟨HR1, HR2, Lib.hid ⟨HBx.out _ _ HB0.out, HBx.out _ _ HB1.out, HBx.out _ _ HB2.out⟩⟩
  case rest =>
    obtain ⟨H1, HF1, HX⟩ := hcut
    obtain ⟨W2, hW2⟩ : ∃ W, W = wc := ⟨_, rfl⟩
    subst hW2
    obtain ⟨b0, b1, b2⟩ := HX.out
    have c1 := H1.out.c1
    obtain ⟨W3, hrun, hm, hgr⟩ := run_upd (W := W2.drew) (H1.out.keep (Below.refl _ _).drew).map (p1, p2, p3) (i : Int)
    have HM := Lib.hid ((H1.out.keep (Below.refl _ _).drew).mapped hm hgr)
    have HF3 : Hid (Frm hb g mb W2 W3) := Lib.hid ((Frm.below (Below.refl _ _).drew).trans (Frm.grown hgr (.inr (.inr rfl))))
    simp only [encE3] at hrun
    clear hm hgr H1 HX HS H0
    go_wp2_with fail
    go_region
    go_wp2_with fail
    exact bodyPost_ret (v := .tuple #[]) (by simp [results, go_sem]) rfl ⟨rfl, HM.out, (HF0.out.trans HF1.out).trans HF3.out⟩
end Go.Proofs.Ytbdmmgplpndobaa
