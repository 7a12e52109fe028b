/- Walks of the heap's list: add, on the zero heap. -/
import Derived.Test.YtbdmmgplpndobaaHeapA
namespace Go.Proofs.Ytbdmmgplpndobaa
open Go.RowKit Go.Sort Go.Deep

theorem HpZ.keep {W W1 : World} {B hb : Nat} {cnt : Int} (h : HpZ W B hb cnt) (k : Below W.heap.size W W1) : HpZ W1 B hb cnt :=
  have hl := World.block_lt_of_cell? W _ h.c0
  have hfr : ∀ o, W1.frozen? ⟨hb, o, none⟩ = W.frozen? ⟨hb, o, none⟩ := fun _ => World.frozen?_of_block (k.block hb hl)
  ⟨cell_later k h.c0, cell_later k h.c1, cell_later k h.c2, (hfr 0).trans h.f0, (hfr 1).trans h.f1, (hfr 2).trans h.f2, h.hB⟩
theorem HpZ.count {W : World} {B hb : Nat} {cnt : Int} (h : HpZ W B hb cnt) (c : Int) : HpZ (W.setCell ⟨hb, 2, none⟩ (.int .i64 c)) B hb c := by
  refine ⟨?_, ?_, World.cell?_setCell_same _ _ _ h.c2, by simpa using h.f0, by simpa using h.f1, by simpa using h.f2, h.hB⟩
  · rw [World.cell?_setCell_other _ _ _ _ (by intro e; injection e with _ e2; cases e2)]; exact h.c0
  · rw [World.cell?_setCell_other _ _ _ _ (by intro e; injection e with _ e2; cases e2)]; exact h.c1
/-- Behind the map's making. -/
theorem HpZ.mapped {W : World} {B hb : Nat} {cnt : Int} (h : HpZ W B hb cnt) : HpN ((W.setCell ⟨hb, 1, none⟩ (.map (some W.heap.size))).alloc (.map #[] 0)) B hb W.heap.size (.slice none 0 0) [] cnt [] := by
  have hl := World.block_lt_of_cell? W _ h.c0
  have hB := h.hB
  simp only at hl
  have hsz : (W.setCell ⟨hb, 1, none⟩ (.map (some W.heap.size))).heap.size = W.heap.size := World.size_setCell _ _ _
  have K := below_alloc (W.setCell ⟨hb, 1, none⟩ (.map (some W.heap.size))) (.map #[] 0)
  have hfr : ∀ o, ((W.setCell ⟨hb, 1, none⟩ (.map (some W.heap.size))).alloc (.map #[] 0)).frozen? ⟨hb, o, none⟩ = (W.setCell ⟨hb, 1, none⟩ (.map (some W.heap.size))).frozen? ⟨hb, o, none⟩ := fun _ => World.frozen?_of_block (K.block hb (by omega))
  refine ⟨cell_later K ?_, cell_later K (World.cell?_setCell_same _ _ _ h.c1), cell_later K ?_, (hfr 0).trans (by simpa using h.f0), (hfr 1).trans (by simpa using h.f1), (hfr 2).trans (by simpa using h.f2), World.ownsRow_nil _ _ _ _, ⟨⟨#[], 0, ?_, .nil⟩, List.Pairwise.nil⟩, by simp [Value.ownBlock], by simp [Value.ownBlock], by omega, hB, by omega⟩
  · rw [World.cell?_setCell_other _ _ _ _ (by intro e; injection e with _ e2; cases e2)]; exact h.c0
  · rw [World.cell?_setCell_other _ _ _ _ (by intro e; injection e with _ e2; cases e2)]; exact h.c2
  · have := heap_alloc_new (W.setCell ⟨hb, 1, none⟩ (.map (some W.heap.size))) (.map #[] 0)
    rw [hsz] at this
    exact this
set_option maxRecDepth 100000 in
set_option maxHeartbeats 4000000 in
theorem ladd_z {W : World} {B hb : Nat} {cnt : Int} (h : HpZ W B hb cnt) (hc : 0 ≤ cnt ∧ cnt ≤ 1000000) (e : E3) :
    Calls Try.prog 39 #[.pointer (some ⟨hb, 0, none⟩), encE3 e] W (AdPost W B hb hb hb [] cnt e) := by
  have hmx : Try.prog.follows .mixedOrders = true := by kernel_rfl
  have hmm := @run_makeMap Try.prog
  obtain ⟨iP, hiP, hp0, hp1, hp2⟩ := info_parts infoPl
  obtain ⟨e1, e2, e3⟩ := e
  have H0 := Lib.hid (h.keep (below_alloc W (.cells #[.int .i64 e1, .int .i64 e2, .int .i64 e3] 31)))
  have HF0 : Hid (Frm hb hb hb W (W.alloc (.cells #[.int .i64 e1, .int .i64 e2, .int .i64 e3] 31))) := Lib.hid (Frm.below (below_alloc _ _))
  have hWh : hb < W.heap.size := World.block_lt_of_cell? W _ h.c0
  clear h
  unfold encE3
  go_enter Try.func39, Try.ntmps39
  go_upto_region 1 with fail
  generalize hW1 : W.alloc (.cells #[.int .i64 e1, .int .i64 e2, .int .i64 e3] 31) = W1 at *
  have hbx : W1.cell? ⟨W.heap.size, 0, none⟩ = some (.int .i64 e1) ∧ W1.cell? ⟨W.heap.size, 1, none⟩ = some (.int .i64 e2) ∧ W1.cell? ⟨W.heap.size, 2, none⟩ = some (.int .i64 e3) := by
    subst hW1; refine ⟨?_, ?_, ?_⟩ <;> go_simp
  clear hW1
  generalize hbxe : W.heap.size = bx at *
  have hbx3 : W.heap.size ≤ bx := by omega
  have c2 := H0.out.c2
  have f2 := H0.out.f2
  have H1 := Lib.hid (H0.out.count (cnt + 1))
  have HF1 := Lib.hid (HF0.out.trans (frmH hb hb hb W1 2 (.int .i64 (cnt + 1))))
  have hbl : bx < W1.heap.size := World.block_lt_of_cell? W1 _ hbx.1
  have HBX : Hid ((W1.setCell ⟨hb, 2, none⟩ (.int .i64 (cnt + 1))).cell? ⟨bx, 0, none⟩ = some (.int .i64 e1) ∧ (W1.setCell ⟨hb, 2, none⟩ (.int .i64 (cnt + 1))).cell? ⟨bx, 1, none⟩ = some (.int .i64 e2) ∧ (W1.setCell ⟨hb, 2, none⟩ (.int .i64 (cnt + 1))).cell? ⟨bx, 2, none⟩ = some (.int .i64 e3)) := Lib.hid (by
    have hne : ∀ o, (⟨hb, 2, none⟩ : Addr) ≠ ⟨bx, o, none⟩ := fun o e => by injection e with e1; omega
    rw [World.cell?_setCell_other _ _ _ _ (hne _), World.cell?_setCell_other _ _ _ _ (hne _), World.cell?_setCell_other _ _ _ _ (hne _)]
    exact hbx)
  clear hbx H0 HF0
  go_upto_region 2 with fail
  generalize W1.setCell ⟨hb, 2, none⟩ (.int .i64 (cnt + 1)) = V at *
  clear c2 f2 hbl
  obtain ⟨b0, b1, b2⟩ := HBX.out
  have c1 := H1.out.c1
  have hlk := run_look_nil V.drew (e1, e2, e3)
  simp only [encE3] at hlk
  have H2 := Lib.hid (H1.out.keep (Below.refl _ _).drew)
  have HF2 : Hid (Frm hb hb hb W V.drew) := Lib.hid (HF1.out.trans (Frm.below (Below.refl _ _).drew))
  have HBX2 : Hid (V.drew.cell? ⟨bx, 0, none⟩ = some (.int .i64 e1) ∧ V.drew.cell? ⟨bx, 1, none⟩ = some (.int .i64 e2) ∧ V.drew.cell? ⟨bx, 2, none⟩ = some (.int .i64 e3)) := Lib.hid HBX.out
  go_wp2_with fail
  go_region
  clear hlk b0 b1 b2 c1 H1 HF1 HBX
  generalize V.drew = V2 at *
  have c1 := H2.out.c1
  have f1 := H2.out.f1
  have hmn := fun W => map_nil_eq none W
  simp only [Option.isNone_none] at hmn
  have HN := Lib.hid H2.out.mapped
  have hV2 : bx < V2.heap.size := World.block_lt_of_cell? V2 _ HBX2.out.1
  have HBX : Hid (((V2.setCell ⟨hb, 1, none⟩ (.map (some V2.heap.size))).alloc (.map #[] 0)).cell? ⟨bx, 0, none⟩ = some (.int .i64 e1) ∧ ((V2.setCell ⟨hb, 1, none⟩ (.map (some V2.heap.size))).alloc (.map #[] 0)).cell? ⟨bx, 1, none⟩ = some (.int .i64 e2) ∧ ((V2.setCell ⟨hb, 1, none⟩ (.map (some V2.heap.size))).alloc (.map #[] 0)).cell? ⟨bx, 2, none⟩ = some (.int .i64 e3)) := Lib.hid (by
    have hne : ∀ o, (⟨hb, 1, none⟩ : Addr) ≠ ⟨bx, o, none⟩ := fun o e => by injection e with e1; omega
    refine ⟨cell_later (below_alloc _ _) ?_, cell_later (below_alloc _ _) ?_, cell_later (below_alloc _ _) ?_⟩ <;> rw [World.cell?_setCell_other _ _ _ _ (hne _)]
    · exact HBX2.out.1
    · exact HBX2.out.2.1
    · exact HBX2.out.2.2)
  have HF3 := Lib.hid (HF2.out.trans ((frmH hb hb hb V2 1 (.map (some V2.heap.size))).trans (Frm.below (below_alloc _ (.map #[] 0)))))
  have c1a := cell_later (below_alloc V2 (.map #[] 0)) c1
  have hbl := World.block_lt_of_cell? V2 _ c1
  clear HBX2 H2
  have hsz := HF2.out.size
  clear HF2
  go_upto_region 7 with fail
  generalize (V2.setCell ⟨hb, 1, none⟩ (.map (some V2.heap.size))).alloc (.map #[] 0) = V9 at *
  have hWm : W.heap.size ≤ V2.heap.size := hsz
  clear c1a hbl c1 f1 hV2 hmn hsz
  generalize V2.heap.size = mb at *
  have HF2 := HF3
  clear HF3
  have HG : Hid (Gd [] []) := Lib.hid (fun e v => by simp [lkE, lkM])
  have HQ : Hid (lkE [] (e1, e2, e3) = none) := Lib.hid rfl
  have c1 := HN.out.c1
  have d0 := HN.out.c0
  have df := HN.out.f0
  have HOw := Lib.hid HN.out.own
  have hBV : B ≤ V9.heap.size := by
    have h1 := World.block_lt_of_cell? V9 _ d0
    have h2 := HN.out.hB
    simp at h1; omega
  have hn1 : some hb ≠ (none : Option Nat) := by simp
  have hn2 : some bx ≠ (none : Option Nat) := by simp
  go_cut [6] (fun s wx => s = .int .i64 (0 : Int) ∧ wx = V9)
  case first =>
    go_wp2_with fail
    go_meet
    exact ⟨by first | rfl | simp, rfl⟩
  case rest =>
    obtain ⟨rfl, hw⟩ := hcut
    have hw' := hw.symm; clear hw; subst hw'
    go_upto_region 8 with fail
    go_cut [] (fun wx => ∃ g' cap', (g' = hb ∨ W.heap.size ≤ g') ∧ Hid (HpG wx B hb g' mb cap' ([] ++ [((e1, e2, e3), 1)]) (cnt + 1) []) ∧ Hid (Frm hb hb hb W wx) ∧ Hid (wx.cell? ⟨bx, 0, none⟩ = some (.int .i64 e1) ∧ wx.cell? ⟨bx, 1, none⟩ = some (.int .i64 e2) ∧ wx.cell? ⟨bx, 2, none⟩ = some (.int .i64 e3)))
    case first =>
      obtain ⟨b0, b1, b2⟩ := HBX.out
      have al0 := fun o => cell_later (below_alloc V9 o) d0
      have al1 := fun o => cell_later (below_alloc V9 o) b0
      have al2 := fun o => cell_later (below_alloc V9 o) b1
      have al3 := fun o => cell_later (below_alloc V9 o) b2
      go_region_law ((refine step_append_at (by rfl) (.tmp 53) (.tmp 56) 23 (by rfl) B 89 iP (.agg #[.int .i64 0, .int .i64 0, .int .i64 0, .int .i64 0]) 4 32 Try.underlying23 hiP hp0 hp1 hp2 (by rfl) (by decide) (.slice none 0 0) 0 [] (by rfl) (World.ownsRow.alloc (w := V9.drew) HOw.out _) _ 1 1 (encPl ((e1, e2, e3), 1)) (by rfl) (by rfl) (pile_new _ ((e1, e2, e3), 1) _) (encPl_one _) (by unfold maxLen; omega) (by omega) (by first | exact hBV | (simp; done) | (simp; omega)) ?_); intro v2 wB hoB hgB hvB; obtain ⟨g2, cp2, rfl⟩ := own_form hoB; have hS6 := keepA (keepA (w1 := V9.drew) ⟨d0, b0, b1, b2, df, grown_drew V9 _⟩ (World.grownBy_alloc _ _ _) hn1 hn2) hgB hn1 hn2; obtain ⟨k0, k1, k2, k3, k4, k5⟩ := hS6; have HHo := Lib.hid hoB; have HHb : Hid ((Value.slice (some ⟨g2, 0, none⟩) (0 + 1) cp2).ownBlock = (none : Option Nat) ∨ ∃ k, (Value.slice (some ⟨g2, 0, none⟩) (0 + 1) cp2).ownBlock = some k ∧ V9.heap.size ≤ k) := Lib.hid (by rcases hvB with h | h; exact .inl h; exact .inr ⟨_, h, by simp⟩); clear hoB hvB)
      all_goals
        go_wp2_with fail
        go_meet
        obtain ⟨g', cap', hv, hg', HG9⟩ := HN.out.more (p := ((e1, e2, e3), 1)) k5 HHo.out HHb.out
        have hs := HF2.out.size
        have hg2 : g' = hb ∨ W.heap.size ≤ g' := by rcases hg' with e | e; cases e; exact .inr (by omega)
        have hnb : ∀ o, (⟨hb, 0, none⟩ : Addr) ≠ ⟨bx, o, none⟩ := fun o e => by injection e with e1; omega
        exact ⟨g', cap', hg2, Lib.hid HG9, Lib.hid ((HF2.out.trans (Frm.grownR k5 (fun k e => by cases e))).trans (frmH hb hb hb wB 0 _)), Lib.hid ⟨by rw [World.cell?_setCell_other _ _ _ _ (hnb _)]; exact k1, by rw [World.cell?_setCell_other _ _ _ _ (hnb _)]; exact k2, by rw [World.cell?_setCell_other _ _ _ _ (hnb _)]; exact k3⟩⟩
    case rest =>
      obtain ⟨g', cap', hg', H4, HF4, HB4⟩ := hcut
      obtain ⟨V4, hV4⟩ : ∃ V, V = wc := ⟨_, rfl⟩
      subst hV4
      clear HBX HN HF2 d0 df HOw hn1 hn2 c1
      have HGm : Hid (Gd ([] ++ [((e1, e2, e3), 1)]) (updM [] (e1, e2, e3) 0)) := Lib.hid (HG.out.more (p := ((e1, e2, e3), 1)) HQ.out)
      have c1 := H4.out.c1
      obtain ⟨b0, b1, b2⟩ := HB4.out
      obtain ⟨W3, hrun, hm, hgr⟩ := run_upd (W := V4.drew) (H4.out.keep (Below.refl _ _).drew).map (e1, e2, e3) (0 : Int)
      have HM := Lib.hid ((H4.out.keep (Below.refl _ _).drew).mapped hm hgr)
      have HF5 : Hid (Frm hb g' mb V4 W3) := Lib.hid ((Frm.below (Below.refl _ _).drew).trans (Frm.grown hgr (.inr (.inr rfl))))
      simp only [encE3] at hrun
      clear hm hgr H4
      have HRi : Hid (Calls Try.prog 58 #[.pointer (some ⟨hb, 0, none⟩), .int .i64 0] W3 _) := Lib.hid (lrise_any HM.out HGm.out (i := 0) (by simp) (by simp))
      go_wp2_with fail
      go_region
      go_wp2_with fail
      refine HRi.out.mono ?_
      rintro en w6 ⟨rfl, ps6, hG6, hg6, hF6⟩
      go_wp2_with fail
      exact bodyPost_ret (v := .tuple #[]) (by simp [results, go_sem]) rfl ⟨rfl, HF4.out.via (HF5.out.trans hF6) hg' (.inr hWm), g', mb, cap', ps6, _, hg', .inr hWm, hG6, hg6, .inl ⟨fun i hi => by simp at hi, rfl⟩⟩
end Go.Proofs.Ytbdmmgplpndobaa
