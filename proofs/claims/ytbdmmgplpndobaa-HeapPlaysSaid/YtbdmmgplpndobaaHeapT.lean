/- Walks of the heap's list: take. -/
import Derived.Test.YtbdmmgplpndobaaHeapR
namespace Go.Proofs.Ytbdmmgplpndobaa
open Go.RowKit Go.Sort Go.Deep

theorem pcl_tick : ∀ (P : List Pile) (i : Nat) (t : Int), i < P.length → pcl (P.set i ((pA P i).1, t)) = (pcl P).set (i * 4 + 3) (.int .i64 t)
  | [], i, t, h => absurd h (by simp)
  | q :: P, 0, t, _ => by rw [List.set_cons_zero, pcl_cons, pcl_cons]; rfl
  | q :: P, i + 1, t, h => by
    have ih := pcl_tick P i t (by simpa using h)
    have e : (i + 1) * 4 + 3 = i * 4 + 3 + 1 + 1 + 1 + 1 := by omega
    rw [List.set_cons_succ, pcl_cons, pcl_cons, e]
    have hp : pA (q :: P) (i + 1) = pA P i := rfl
    rw [hp, ih]
    rfl
theorem HpG.tick {W : World} {B hb g mb cap : Nat} {P : List Pile} {cnt : Int} {ps : List (E3 × Int)} (h : HpG W B hb g mb cap P cnt ps) {i : Nat} (hi : i < P.length) (t : Int) :
    HpG (W.setCell ⟨g, i * 4 + 3, none⟩ (.int .i64 t)) B hb g mb cap (P.set i ((pA P i).1, t)) cnt ps := by
  have hne : ∀ o o', (⟨g, o', none⟩ : Addr) ≠ ⟨hb, o, none⟩ := fun o o' e => by injection e with e1; exact h.gh e1
  refine ⟨?_, ?_, ?_, by simpa using h.f0, by simpa using h.f1, by simpa using h.f2, ?_, h.map.of (blk_setCell_other _ _ _ _ h.mg), h.gh, h.mh, h.mg, h.hB, h.mB⟩
  · rw [World.cell?_setCell_other _ _ _ _ (hne _ _), List.length_set]; exact h.c0
  · rw [World.cell?_setCell_other _ _ _ _ (hne _ _)]; exact h.c1
  · rw [World.cell?_setCell_other _ _ _ _ (hne _ _)]; exact h.c2
  · rw [List.length_set, pcl_tick P i t hi]
    exact own_set h.own _ _
theorem Gd.tick {P : List Pile} {ps : List (E3 × Int)} (h : Gd P ps) {i : Nat} (hi : i < P.length) (t : Int) : Gd (P.set i ((pA P i).1, t)) ps := by
  intro e v
  rw [h e v, List.length_set]
  have hk : ∀ j, (pA (P.set i ((pA P i).1, t)) j).1 = (pA P j).1 := fun j => by
    rw [pA_set _ hi]
    split
    · rename_i c; rw [c]
    · rfl
  constructor
  · rintro ⟨j, hj, he, rfl⟩; exact ⟨j, hj, by rw [hk]; exact he, rfl⟩
  · rintro ⟨j, hj, he, rfl⟩; exact ⟨j, hj, by rw [hk] at he; exact he, rfl⟩
/-- One entry less in a pile: the last of a pile takes it away. -/
def takF (P : List Pile) (i : Nat) : List Pile := if (pA P i).2 - 1 = 0 then remF (P.set i ((pA P i).1, (pA P i).2 - 1)) i else P.set i ((pA P i).1, (pA P i).2 - 1)
def TkPost (W : World) (B hb g mb cap : Nat) (P : List Pile) (cnt : Int) (e : E3) (en : Ending) (w' : World) : Prop :=
  (∃ ps, en = .returned (.bool false) ∧ (∀ i, i < P.length → (pA P i).1 ≠ e) ∧ HpG w' B hb g mb cap P cnt ps ∧ Gd P ps ∧ Frm hb g mb W w') ∨
  (∃ i ps, i < P.length ∧ (pA P i).1 = e ∧ en = .returned (.bool true) ∧ HpG w' B hb g mb cap (takF P i) (cnt - 1) ps ∧ Gd (takF P i) ps ∧ Frm hb g mb W w')
set_option maxRecDepth 100000 in
set_option maxHeartbeats 4000000 in
theorem ltake_any {W : World} {B hb g mb cap : Nat} {P : List Pile} {cnt : Int} {ps : List (E3 × Int)} (h : HpG W B hb g mb cap P cnt ps) (hg : Gd P ps) (hn : P.length ≤ 1000000) (hc : 0 ≤ cnt ∧ cnt ≤ 1000000)
    (ht : ∀ i, i < P.length → 0 ≤ (pA P i).2 ∧ (pA P i).2 ≤ 1000000) (e : E3) :
    Calls Try.prog 38 #[.pointer (some ⟨hb, 0, none⟩), encE3 e] W (TkPost W B hb g mb cap P cnt e) := by
  have hmx : Try.prog.follows .mixedOrders = true := by kernel_rfl
  obtain ⟨e1, e2, e3⟩ := e
  have H0 := Lib.hid (h.keep (below_alloc W (.cells #[.int .i64 e1, .int .i64 e2, .int .i64 e3] 31)))
  have HF0 : Hid (Frm hb g mb W (W.alloc (.cells #[.int .i64 e1, .int .i64 e2, .int .i64 e3] 31))) := Lib.hid (Frm.below (below_alloc _ _))
  have HG := Lib.hid hg
  have HT := Lib.hid ht
  clear h hg ht
  unfold encE3
  go_enter Try.func38, Try.ntmps38
  go_upto_region 1 with fail
  generalize hW1 : W.alloc (.cells #[.int .i64 e1, .int .i64 e2, .int .i64 e3] 31) = W1 at *
  have hbx : W1.cell? ⟨W.heap.size, 0, none⟩ = some (.int .i64 e1) ∧ W1.cell? ⟨W.heap.size, 1, none⟩ = some (.int .i64 e2) ∧ W1.cell? ⟨W.heap.size, 2, none⟩ = some (.int .i64 e3) := by
    subst hW1; refine ⟨?_, ?_, ?_⟩ <;> go_simp
  clear hW1
  obtain ⟨b0, b1, b2⟩ := hbx
  have c1 := H0.out.c1
  have hlk := run_look (W := W1.drew) (H0.out.keep (Below.refl _ _).drew).map (e1, e2, e3)
  simp only [encE3] at hlk
  have H1 := Lib.hid (H0.out.keep (Below.refl _ _).drew)
  have HF1 : Hid (Frm hb g mb W W1.drew) := Lib.hid (HF0.out.trans (Frm.below (Below.refl _ _).drew))
  clear H0 HF0
  cases hq : lkE ps (e1, e2, e3) with
  | none =>
    rw [hq] at hlk
    simp only [Option.getD_none, Option.isSome_none] at hlk
    have HNo : Hid (∀ i, i < P.length → (pA P i).1 ≠ (e1, e2, e3)) := Lib.hid (fun i hi c => by
      have := HG.out.at hi
      rw [c, hq] at this; cases this)
    clear hq
    go_wp2_with fail
    go_region
    go_wp2_with fail
    go_ret
    exact .inl ⟨ps, rfl, HNo.out, H1.out, HG.out, HF1.out⟩
  | some v =>
    obtain ⟨i, hi, hie, rfl⟩ := (HG.out _ _).1 hq
    rw [hq] at hlk
    simp only [Option.getD_some, Option.isSome_some] at hlk
    have HIE := Lib.hid hie
    obtain ⟨t0, t1⟩ := HT.out i hi
    clear hq hie
    go_wp2_with fail
    go_region
    generalize hW2 : W1.drew = W2 at *
    clear hlk b0 b1 b2 c1 hW2
    have c0 := H1.out.c0
    have c2 := H1.out.c2
    have f2 := H1.out.f2
    obtain ⟨_, _, _, a3⟩ := H1.out.pile hi
    have f3 := H1.out.soft (i * 4 + 3)
    rw [← pA_at hi] at a3
    have hne := H1.out.gh
    have hne2 : ¬ hb = g := fun c => hne c.symm
    have x1 : (i : Int) < (P.length : Int) := by omega
    have HH : Hid (HpG ((W2.setCell ⟨hb, 2, none⟩ (.int .i64 (cnt - 1))).setCell ⟨g, i * 4 + 3, none⟩ (.int .i64 ((pA P i).2 - 1))) B hb g mb cap (P.set i ((pA P i).1, (pA P i).2 - 1)) (cnt - 1) ps) := Lib.hid ((H1.out.count (cnt - 1)).tick hi _)
    have HF2 : Hid (Frm hb g mb W ((W2.setCell ⟨hb, 2, none⟩ (.int .i64 (cnt - 1))).setCell ⟨g, i * 4 + 3, none⟩ (.int .i64 ((pA P i).2 - 1)))) := Lib.hid ((HF1.out.trans (frmH hb g mb _ _ _)).trans (frmG hb g mb _ _ _))
    have HG2 := Lib.hid (HG.out.tick hi ((pA P i).2 - 1))
    have HTk : Hid (takF P i = if (pA P i).2 - 1 = 0 then remF (P.set i ((pA P i).1, (pA P i).2 - 1)) i else P.set i ((pA P i).1, (pA P i).2 - 1)) := Lib.hid rfl
    have HK := Lib.hid (lremove_any HH.out HG2.out (i := i) (by rw [List.length_set]; exact hi) (by rw [List.length_set]; exact hn))
    clear H1 HF1 HT
    generalize (pA P i).2 = t at *
    by_cases hz : t - 1 = 0
    · have HE : Hid (takF P i = remF (P.set i ((pA P i).1, t - 1)) i) := Lib.hid (by rw [HTk.out, if_pos hz])
      have hz2 : (t - 1 == 0) = true := by simp [hz]
      have HZ := Lib.hid hz
      clear hz HTk
      go_wp2_with fail
      go_at_call 57
      refine Calls.mono HK.out ?_
      rintro e w3 ⟨rfl, ps3, hg3, hgd3, hf3⟩
      have H4 := Lib.hid hg3
      have HG4 := Lib.hid hgd3
      have HF4 := Lib.hid (HF2.out.trans hf3)
      clear hg3 hgd3 hf3
      go_wp2_with fail
      go_ret
      exact .inr ⟨i, ps3, hi, HIE.out, rfl, by rw [HE.out]; exact H4.out, by rw [HE.out]; exact HG4.out, HF4.out⟩
    · have HE : Hid (takF P i = P.set i ((pA P i).1, t - 1)) := Lib.hid (by rw [HTk.out, if_neg hz])
      have hz2 : (t - 1 == 0) = false := by simp [hz]
      have HZ := Lib.hid hz
      clear hz HTk
      go_wp2_with fail
      go_ret
      exact .inr ⟨i, ps, hi, HIE.out, rfl, by rw [HE.out]; exact HH.out, by rw [HE.out]; exact HG2.out, HF2.out⟩
end Go.Proofs.Ytbdmmgplpndobaa
