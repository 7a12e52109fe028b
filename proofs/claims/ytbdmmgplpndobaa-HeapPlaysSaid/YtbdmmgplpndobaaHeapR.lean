/- Walks of the heap's list: remove. -/
import Derived.Test.YtbdmmgplpndobaaHeapY
namespace Go.Proofs.Ytbdmmgplpndobaa
open Go.RowKit Go.Sort Go.Deep

theorem own_of {W W1 : World} {base g n c size : Nat} {T : TypeId} {xs : List Value} (h : W.ownsRow base T size (.slice (some ⟨g, 0, none⟩) n c) n xs) (e : W1.heap[g]? = W.heap[g]?) : W1.ownsRow base T size (.slice (some ⟨g, 0, none⟩) n c) n xs := by
  obtain ⟨hl, h⟩ := h
  refine ⟨hl, ?_⟩
  rcases h with ⟨e1, _⟩ | ⟨g1, c1, cur, e1, hg, hh, r⟩
  · cases e1
  · cases e1; exact .inr ⟨g, c, cur, rfl, hg, e.trans hh, r⟩
theorem own_upto {W : World} {base g n c size m : Nat} {T : TypeId} {xs : List Value} (h : W.ownsRow base T size (.slice (some ⟨g, 0, none⟩) n c) n xs) (hm : m ≤ n) : W.ownsRow base T size (.slice (some ⟨g, 0, none⟩) m c) m (xs.take (m * size)) := by
  obtain ⟨hl, h⟩ := h
  have hms : m * size ≤ n * size := Nat.mul_le_mul_right _ hm
  refine ⟨by rw [List.length_take]; omega, ?_⟩
  rcases h with ⟨e1, _⟩ | ⟨g1, c1, cur, e1, hg, hh, h1, h2, h3, h4⟩
  · cases e1
  · cases e1
    refine .inr ⟨g, c, cur, rfl, hg, hh, by omega, h2, h3, ?_⟩
    rw [← h4, List.take_take, Nat.min_eq_left hms]
theorem pcl_take (P : List Pile) (m : Nat) : pcl (P.take m) = (pcl P).take (m * 4) := by
  by_cases h : m ≤ P.length
  · have e : pcl P = pcl (P.take m) ++ pcl (P.drop m) := by rw [← pcl_app, List.take_append_drop]
    rw [e, List.take_left' (by rw [pcl_len, List.length_take]; omega)]
  · rw [List.take_of_length_le (by omega), List.take_of_length_le (by rw [pcl_len]; omega)]
/-- A store into one of the heap's own three cells. -/
theorem HpG.cut {W : World} {B hb g mb cap : Nat} {P : List Pile} {cnt : Int} {ps : List (E3 × Int)} (h : HpG W B hb g mb cap P cnt ps) {m : Nat} (hm : m ≤ P.length) :
    HpG (W.setCell ⟨hb, 0, none⟩ (.slice (some ⟨g, 0, none⟩) m cap)) B hb g mb cap (P.take m) cnt ps := by
  have hl : (P.take m).length = m := by rw [List.length_take]; omega
  refine ⟨by rw [hl, World.cell?_setCell_same _ _ _ h.c0], ?_, ?_, by simpa using h.f0, by simpa using h.f1, by simpa using h.f2, ?_, h.map.of (blk_setCell_other _ _ _ _ h.mh), h.gh, h.mh, h.mg, h.hB, h.mB⟩
  · rw [World.cell?_setCell_other _ _ _ _ (by intro e; injection e with _ e2; cases e2)]; exact h.c1
  · rw [World.cell?_setCell_other _ _ _ _ (by intro e; injection e with _ e2; cases e2)]; exact h.c2
  · rw [hl, pcl_take]
    exact own_of (own_upto h.own hm) (blk_setCell_other _ _ _ _ h.gh)
theorem HpG.count {W : World} {B hb g mb cap : Nat} {P : List Pile} {cnt : Int} {ps : List (E3 × Int)} (h : HpG W B hb g mb cap P cnt ps) (c : Int) :
    HpG (W.setCell ⟨hb, 2, none⟩ (.int .i64 c)) B hb g mb cap P c ps := by
  refine ⟨?_, ?_, by rw [World.cell?_setCell_same _ _ _ h.c2], by simpa using h.f0, by simpa using h.f1, by simpa using h.f2, own_of h.own (blk_setCell_other _ _ _ _ h.gh), h.map.of (blk_setCell_other _ _ _ _ h.mh), h.gh, h.mh, h.mg, h.hB, h.mB⟩
  · rw [World.cell?_setCell_other _ _ _ _ (by intro e; injection e with _ e2; cases e2)]; exact h.c0
  · rw [World.cell?_setCell_other _ _ _ _ (by intro e; injection e with _ e2; cases e2)]; exact h.c1
theorem frmH (hb g mb : Nat) (W : World) (o : Nat) (v : Value) : Frm hb g mb W (W.setCell ⟨hb, o, none⟩ v) := Frm.setCell W _ v (.inl rfl)
theorem pA_take {P : List Pile} {m i : Nat} (h : i < m) : pA (P.take m) i = pA P i := by
  unfold pA
  rw [List.getD_eq_getElem?_getD, List.getD_eq_getElem?_getD, List.getElem?_take, if_pos h]
theorem Gd.pop {P : List Pile} {ps : List (E3 × Int)} (h : Gd P ps) (hn : ndk ps) {n : Nat} (hl : P.length = n + 1) : Gd (P.take n) (delM ps (pA P n).1) := by
  intro e v
  have htl : (P.take n).length = n := by rw [List.length_take]; omega
  rw [lkE_del hn, htl]
  by_cases he : e = (pA P n).1
  · subst he
    rw [if_pos rfl]
    constructor
    · intro hc; cases hc
    · rintro ⟨i, hi, he, rfl⟩
      rw [pA_take hi] at he
      have := h.inj (by omega) (by omega) he
      omega
  · rw [if_neg he, h e v]
    constructor
    · rintro ⟨i, hi, hie, rfl⟩
      have : i ≠ n := fun c => he (by rw [← hie, c])
      exact ⟨i, by omega, by rw [pA_take (by omega)]; exact hie, rfl⟩
    · rintro ⟨i, hi, hie, rfl⟩
      rw [pA_take hi] at hie
      exact ⟨i, by omega, hie, rfl⟩
theorem Gd.moved {P : List Pile} {ps : List (E3 × Int)} (h : Gd P ps) (hn : ndk ps) {n i : Nat} (hl : P.length = n + 1) (hi : i < n) : Gd ((P.take n).set i (pA P n)) (updM (delM ps (pA P i).1) (pA P n).1 (i : Int)) := by
  intro e v
  have htl : (P.take n).length = n := by rw [List.length_take]; omega
  rw [lkE_upd, lkE_del hn, List.length_set, htl]
  by_cases he : e = (pA P n).1
  · subst he
    rw [if_pos rfl]
    constructor
    · intro hv
      injection hv with hv
      exact ⟨i, hi, by rw [pA_set _ (by omega), if_pos rfl], hv.symm⟩
    · rintro ⟨j, hj, hje, rfl⟩
      rw [pA_set _ (by omega)] at hje
      split at hje
      · rename_i c; rw [c]
      · rw [pA_take hj] at hje
        have := h.inj (by omega) (by omega) hje
        omega
  · rw [if_neg he]
    by_cases he2 : e = (pA P i).1
    · subst he2
      rw [if_pos rfl]
      constructor
      · intro hc; cases hc
      · rintro ⟨j, hj, hje, rfl⟩
        rw [pA_set _ (by omega)] at hje
        split at hje
        · exact absurd hje.symm he
        · rename_i c
          rw [pA_take hj] at hje
          have := h.inj (by omega) (by omega) hje
          omega
    · rw [if_neg he2, h e v]
      constructor
      · rintro ⟨j, hj, hje, rfl⟩
        have h1 : j ≠ n := fun c => he (by rw [← hje, c])
        have h2 : j ≠ i := fun c => he2 (by rw [← hje, c])
        exact ⟨j, by omega, by rw [pA_set _ (by omega), if_neg h2, pA_take (by omega)]; exact hje, rfl⟩
      · rintro ⟨j, hj, hje, rfl⟩
        rw [pA_set _ (by omega)] at hje
        split at hje
        · exact absurd hje.symm he
        · rw [pA_take hj] at hje
          exact ⟨j, by omega, hje, rfl⟩
/-- A pile taken away: the last one comes there, rises, sinks. -/
def remF (P : List Pile) (i : Nat) : List Pile :=
  let n := P.length - 1
  if i = n then P.take n else
    let Q := riseF (i + 1) ((P.take n).set i (pA P n)) i
    sinkF (Q.length + 1 - i) Q i
set_option maxRecDepth 100000 in
set_option maxHeartbeats 4000000 in
theorem lremove_any {W : World} {B hb g mb cap : Nat} {P : List Pile} {cnt : Int} {ps : List (E3 × Int)} (h : HpG W B hb g mb cap P cnt ps) (hg : Gd P ps) {i : Nat} (hi : i < P.length) (hn : P.length ≤ 1000000) :
    Calls Try.prog 57 #[.pointer (some ⟨hb, 0, none⟩), .int .i64 (i : Int)] W (MvPost W B hb g mb cap (remF P i) cnt) := by
  have hmx : Try.prog.follows .mixedOrders = true := by kernel_rfl
  obtain ⟨n, hl⟩ : ∃ n, P.length = n + 1 := ⟨P.length - 1, by omega⟩
  have H0 := Lib.hid h
  have HG0 := Lib.hid hg
  have HL := Lib.hid hl
  have c0 := h.c0
  rw [hl] at c0
  clear hg
  go_enter Try.func57, Try.ntmps57
  go_upto_region 1 with fail
  go_cut [] (fun wx => Hid (HpG wx B hb g mb cap P cnt (delM ps (pA P i).1)) ∧ Hid (Frm hb g mb W wx))
  case first =>
    have c1 := h.c1
    obtain ⟨a0, a1, a2, a3⟩ := h.pile hi
    rw [← pA_at hi] at a0 a1 a2
    obtain ⟨W3, hrun, hm, hgr⟩ := run_del (W := W.drew) (h.keep (Below.refl _ _).drew).map (pA P i).1
    have HM := Lib.hid ((h.keep (Below.refl _ _).drew).mapped hm hgr)
    have HF3 : Hid (Frm hb g mb W W3) := Lib.hid ((Frm.below (Below.refl _ _).drew).trans (Frm.grown hgr (.inr (.inr rfl))))
    simp only [encE3] at hrun
    have x1 : (i : Int) < ((n + 1 : Nat) : Int) := by omega
    clear hm hgr h H0 HG0 hl a3
    generalize (pA P i).1 = q at *
    obtain ⟨q1, q2, q3⟩ := q
    go_wp2_with fail
    go_region
    go_wp2_with fail
    go_meet
    exact ⟨HM, HF3⟩
  case rest =>
    obtain ⟨H1, HF1⟩ := hcut
    obtain ⟨W2, hW2⟩ : ∃ W, W = wc := ⟨_, rfl⟩
    subst hW2
    have d0 := H1.out.c0
    rw [hl] at d0
    have f0 := H1.out.f0
    obtain ⟨a0, a1, a2, a3⟩ := H1.out.pile (i := n) (by omega)
    rw [← pA_at (by omega)] at a0 a1 a2 a3
    have hcap := H1.out.le.1
    have hx := H1.out.hlt
    have hcap2 : (n : Int) ≤ (cap : Int) := by omega
    have x2 : (n : Int) < (n : Int) + 1 := by omega
    have HC : Hid (∀ o, HpG ((W2.setCell ⟨hb, 0, none⟩ (.slice (some ⟨g, 0, none⟩) n cap)).alloc o) B hb g mb cap (P.take n) cnt (delM ps (pA P i).1) ∧ Frm hb g mb W ((W2.setCell ⟨hb, 0, none⟩ (.slice (some ⟨g, 0, none⟩) n cap)).alloc o)) := Lib.hid (fun o =>
      ⟨(H1.out.cut (by omega)).keep (below_alloc _ _), (HF1.out.trans (frmH hb g mb _ _ _)).trans (Frm.below (below_alloc _ _))⟩)
    have HBx : Hid (∀ (p : Pile) v, ((W2.setCell ⟨hb, 0, none⟩ v).alloc (encPo p 89)).cell? ⟨W2.heap.size, 0, none⟩ = some (.int .i64 p.1.1) ∧ ((W2.setCell ⟨hb, 0, none⟩ v).alloc (encPo p 89)).cell? ⟨W2.heap.size, 1, none⟩ = some (.int .i64 p.1.2.1) ∧ ((W2.setCell ⟨hb, 0, none⟩ v).alloc (encPo p 89)).cell? ⟨W2.heap.size, 2, none⟩ = some (.int .i64 p.1.2.2) ∧ ((W2.setCell ⟨hb, 0, none⟩ v).alloc (encPo p 89)).cell? ⟨W2.heap.size, 3, none⟩ = some (.int .i64 p.2)) := Lib.hid (fun p v => by
      unfold encPo
      refine ⟨?_, ?_, ?_, ?_⟩ <;> go_simp)
    have HN := Lib.hid H0.out.map.nd
    clear H1 c0 h H0
    by_cases hin : i = n
    · subst hin
      have HE : Hid (remF P i = P.take i) := Lib.hid (by unfold remF; simp [HL.out])
      have HG := Lib.hid (HG0.out.pop HN.out HL.out)
      generalize pA P i = pi at *
      obtain ⟨⟨p1, p2, p3⟩, p4⟩ := pi
      go_wp2_with fail
      exact bodyPost_ret (v := .tuple #[]) (by simp [results, go_sem]) rfl ⟨rfl, _, by rw [HE.out]; exact (HC.out _).1, by rw [HE.out]; exact HG.out, (HC.out _).2⟩
    · have hil : i < n := by omega
      have hz : ((i : Int) == (n : Int)) = false := by simp; omega
      have HE : Hid (∀ Q, riseF (i + 1) ((P.take n).set i (pA P n)) i = Q → remF P i = sinkF (Q.length + 1 - i) Q i) := Lib.hid (fun Q hQ => by unfold remF; simp [HL.out, hin, hQ])
      have HG := Lib.hid (HG0.out.moved HN.out HL.out hil)
      have htl : (P.take n).length = n := by rw [List.length_take]; omega
      have HPut := Lib.hid (fun o => lput_any (HC.out o).1 (i := i) (by rw [htl]; exact hil) (pA P n))
      generalize pA P n = pi at *
      obtain ⟨⟨p1, p2, p3⟩, p4⟩ := pi
      have hbx := HBx.out ((p1, p2, p3), p4) (.slice (some ⟨g, 0, none⟩) n cap)
      unfold encPo at hbx
      obtain ⟨e0, e1, e2, e3⟩ := hbx
      go_wp2_with fail
      go_at_call 73
      refine Calls.mono (HPut.out _) ?_
      rintro e w1 ⟨rfl, hg1, hf1⟩
      have H2 := Lib.hid hg1
      have HF2 := Lib.hid ((HC.out _).2.trans hf1)
      clear hg1 hf1 e0 e1 e2 e3 HPut a0 a1 a2 a3 d0 f0
      have hsl : ((P.take n).set i ((p1, p2, p3), p4)).length = n := by rw [List.length_set]; exact htl
      have HK := Lib.hid (lrise_any H2.out HG.out (i := i) (by rw [hsl]; exact hil) (by omega))
      have hrl := riseF_len (i + 1) ((P.take n).set i ((p1, p2, p3), p4)) i
      generalize hQ : riseF (i + 1) ((P.take n).set i ((p1, p2, p3), p4)) i = Q at *
      have HE2 := Lib.hid (HE.out Q rfl)
      clear HE
      have hQl : Q.length = n := by rw [hrl]; exact hsl
      have HQl := Lib.hid hQl
      have hQ2 : i < Q.length := by omega
      have hQ3 : Q.length ≤ 1000000 := by omega
      clear hrl hQl hsl htl
      go_wp2_with fail
      go_at_call 58
      refine Calls.mono HK.out ?_
      rintro e w2 ⟨rfl, ps2, hg2, hgd2, hf2⟩
      have H3 := Lib.hid hg2
      have HG3 := Lib.hid hgd2
      have HF3 := Lib.hid (HF2.out.trans hf2)
      clear hg2 hgd2 hf2 HK H2 HG HF2
      have HK2 := Lib.hid (lsink_any H3.out HG3.out hQ2 hQ3)
      go_wp2_with fail
      go_at_call 74
      refine Calls.mono HK2.out ?_
      rintro e w3 ⟨rfl, ps3, hg3, hgd3, hf3⟩
      have H4 := Lib.hid hg3
      have HG4 := Lib.hid hgd3
      have HF4 := Lib.hid (HF3.out.trans hf3)
      clear hg3 hgd3 hf3
      go_wp2_with fail
      exact bodyPost_ret (v := .tuple #[]) (by simp [results, go_sem]) rfl ⟨rfl, ps3, by rw [HE2.out]; exact H4.out, by rw [HE2.out]; exact HG4.out, HF4.out⟩
end Go.Proofs.Ytbdmmgplpndobaa
