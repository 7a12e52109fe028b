/- The walk of Cuts. -/
import Derived.Test.YtmhmccicnebhaaaAllCuts
import Derived.WalkMore
import Derived.Deep.LoopGhost
namespace Go.Proofs.Ytmhmccicnebhaaa
open Go.RowKit

/-- A row of points that is owned, nil or not: where its points lie. -/
theorem own_row {W : World} {base : Nat} {T : TypeId} {v : Value} {L : List (Int × Int)} (h : W.ownsRow base T 2 v L.length (cells L)) :
    ∃ (p : Option Addr) (cap : Nat), v = .slice p L.length cap ∧ L.length ≤ cap ∧ ∀ i (hi : i < L.length), ∃ g, p = some ⟨g, 0, none⟩ ∧ base ≤ g ∧ g < W.heap.size ∧ W.cell? ⟨g, i * 2, none⟩ = some (.int .i64 L[i].1) ∧ W.cell? ⟨g, i * 2 + 1, none⟩ = some (.int .i64 L[i].2) := by
  by_cases hz : L = []
  · subst hz
    rcases h.2 with ⟨rfl, _⟩ | ⟨g, cap, cur, rfl, _⟩
    · exact ⟨none, 0, rfl, Nat.le_refl _, fun i hi => absurd hi (by simp)⟩
    · exact ⟨_, cap, rfl, by simp, fun i hi => absurd hi (by simp)⟩
  · obtain ⟨g, cap, rfl, hg, hgl, hc, _, hcell⟩ := own_cells h hz
    exact ⟨_, cap, rfl, hc, fun i hi => ⟨g, rfl, hg, hgl, hcell i hi⟩⟩

def CutsV (a b : Int × Int) (xs ys : List Int) (L : List (Int × Int)) : Prop := L.Pairwise (fun p q => dist a p < dist a q) ∧ ∀ p, p ∈ L ↔ p ∈ rawV a b xs ys
theorem CutsV.yes {a b : Int × Int} {xs ys : List Int} {L : List (Int × Int)} (hok : ok2 a.1 a.2 b.1 b.2 = true) (h : CutsV a b xs ys L) : IsCuts a b xs ys L :=
  ⟨h.1, fun p => by rw [h.2 p, rawV_ok hok]⟩
theorem CutsV.no {a b : Int × Int} {xs ys : List Int} {L : List (Int × Int)} (hok : ok2 a.1 a.2 b.1 b.2 = false) (h : CutsV a b xs ys L) : L = [] := by
  apply List.eq_nil_iff_forall_not_mem.2
  intro p hp
  have := (h.2 p).1 hp
  rw [rawV_no hok] at this
  cases this
theorem CutsV.len {a b : Int × Int} {xs ys : List Int} {L : List (Int × Int)} (h : CutsV a b xs ys L) : L.length ≤ xs.length + ys.length := by
  have hnd : L.Nodup := h.1.imp (fun {p q} k e => by subst e; omega)
  have h1 := hnd.length_le_of_subset (l₂ := rawV a b xs ys) (fun p hp => (h.2 p).1 hp)
  have h2 : (rawV a b xs ys).length ≤ xs.length + ys.length := by
    unfold rawV
    rw [List.length_append]
    have := List.length_filterMap_le (xCutV a b) xs
    have := List.length_filterMap_le (yCutV a b) ys
    omega
  omega

def CutsPost (a b : Int × Int) (xs ys : List Int) (w : World) (e : Ending) (w' : World) : Prop :=
  ∃ (v : Value) (L : List (Int × Int)), e = .returned v ∧ CutsV a b xs ys L ∧ w'.ownsRow w.heap.size 23 2 v L.length (cells L) ∧ Below w.heap.size w w'

/-- While they are gone through. -/
structure CS (w W1 wr : World) (n : Nat) (v : Value) (L : List (Int × Int)) (h : Int × Int) : Prop where
  own : wr.ownsRow W1.heap.size 23 2 v L.length (cells L)
  below : Below w.heap.size w wr
  size : W1.heap.size ≤ wr.heap.size
  old : ∀ g, n < g → g < W1.heap.size → wr.heap[g]? = W1.heap[g]?
  box : Ow wr w.heap.size n h.1 h.2
theorem CS.later {w W1 wr w' : World} {n : Nat} {v : Value} {L : List (Int × Int)} {h : Int × Int} (c : CS w W1 wr n v L h) (_hw : w.heap.size ≤ W1.heap.size) (hb : Below wr.heap.size wr w') : CS w W1 w' n v L h :=
  ⟨ownk hb c.own, c.below.trans (hb.mono c.below.size), Nat.le_trans c.size hb.size, fun g h1 h2 => (hb.block g (Nat.lt_of_lt_of_le h2 c.size)).trans (c.old g h1 h2), c.box.keep hb⟩
theorem CS.more {w W1 wr w' : World} {n : Nat} {v v' : Value} {L : List (Int × Int)} {h p : Int × Int} (c : CS w W1 wr n v L h) (hw : w.heap.size ≤ W1.heap.size) (hn : n < W1.heap.size)
    (ho : w'.ownsRow W1.heap.size 23 2 v' (L.length + 1) (cells L ++ [.int .i64 p.1, .int .i64 p.2])) (hg : wr.grownBy w' v.ownBlock) : CS w W1 w' n v' (L ++ [p]) h := by
  have hrow : ∀ q, v.ownBlock = some q → W1.heap.size ≤ q := fun q hq => (own_block c.own hq).1
  have hb : Below W1.heap.size wr w' := (Below.refl _ _).grown hg c.size (fun q hq => hrow q hq)
  refine ⟨by rw [cells_append, cells_one, List.length_append]; exact ho, c.below.trans (hb.mono hw), Nat.le_trans c.size hb.size, fun g h1 h2 => (hb.block g h2).trans (c.old g h1 h2), ?_⟩
  obtain ⟨b0, b1, b2, b3, b4⟩ := c.box
  exact ⟨b0, (hb.cell (p := ⟨n, 0, none⟩) hn).trans b1, (hb.cell (p := ⟨n, 1, none⟩) hn).trans b2, (hb.frozen (p := ⟨n, 0, none⟩) hn).trans b3, (hb.frozen (p := ⟨n, 1, none⟩) hn).trans b4⟩
theorem Put.block {W : World} {k g : Nat} (x y : Int) (h : g ≠ k) : (Put W k x y).heap[g]? = W.heap[g]? := by
  unfold Put
  rw [Below.heap_setCell _ _ _ _ h, Below.heap_setCell _ _ _ _ h]
theorem Put.size (W : World) (k : Nat) (x y : Int) : (Put W k x y).heap.size = W.heap.size := by unfold Put; simp [World.setCell]
theorem CS.put {w W1 wr : World} {n : Nat} {v : Value} {L : List (Int × Int)} {h : Int × Int} (c : CS w W1 wr n v L h) (hn : n < W1.heap.size) (p : Int × Int) : CS w W1 (Put wr n p.1 p.2) n v L p := by
  have hw := c.box.1
  refine ⟨?_, Put.below _ _ c.below hw, by rw [Put.size]; exact c.size, fun g h1 h2 => (Put.block _ _ (by omega)).trans (c.old g h1 h2), c.box.put _ _⟩
  unfold Put
  exact ownsRow_setCell_below (ownsRow_setCell_below c.own hn _) hn _

set_option maxRecDepth 100000 in
set_option maxHeartbeats 2000000 in
theorem cuts_any (ax ay bx b_y : Int) (p q : Option Addr) (xs ys : List Int) (cp cq : Nat) (w : World) (hx : xs.length ≤ 1000000) (hy : ys.length ≤ 1000000) (HX : Hid (Ints w p xs)) (HY : Hid (Ints w q ys)) :
    Calls Try.prog 23 #[.agg #[.int .i64 ax, .int .i64 ay], .agg #[.int .i64 bx, .int .i64 b_y], .slice p xs.length cp, .slice q ys.length cq] w (CutsPost (ax, ay) (bx, b_y) xs ys w) := by
  obtain ⟨i0, hi, hz0, hz1, hz2⟩ := info_parts info_pt
  go_enter Try.func23, Try.ntmps23
  go_wp2
  go_step3
  go_wp2
  go_step3
  go_wp2_with fail
  have hB3 := b3 w (.cells #[.int .i64 ax, .int .i64 ay] 23) (.cells #[.int .i64 bx, .int .i64 b_y] 23) (.cells #[.int .i64 ax, .int .i64 ay] 23)
  refine (allcuts_any ax ay bx b_y p q xs ys cp cq _ hx hy (Lib.hid (HX.out.keep hB3)) (Lib.hid (HY.out.keep hB3))).mono ?_
  rintro e W1 ⟨vS, M, rfl, hperm, hpw, hown, hbel⟩
  have hsz : w.heap.size + 1 + 1 < W1.heap.size := by have := hbel.size; simp at this; omega
  have hbox : Ow W1 w.heap.size (w.heap.size + 1 + 1) ax ay := Ow.keep hbel ⟨by omega, by go_simp, by go_simp, by go_simp, by go_simp⟩
  have hB1 : Below w.heap.size w W1 := hB3.trans (hbel.mono (by simp <;> omega))
  obtain ⟨pS, cS, rfl, hcS, hrow⟩ := own_row hown
  have HR := Lib.hid hrow
  have HM : Hid ((∀ r, r ∈ M ↔ r ∈ rawV (ax, ay) (bx, b_y) xs ys) ∧ M.Pairwise (fun p q => dist (ax, ay) p ≤ dist (ax, ay) q)) := Lib.hid ⟨fun r => hperm.mem_iff, hpw⟩
  have hlM : M.length ≤ 2000000 := by
    rw [hperm.length_eq]
    unfold rawV
    rw [List.length_append]
    have := List.length_filterMap_le (xCutV (ax, ay) (bx, b_y)) xs
    have := List.length_filterMap_le (yCutV (ax, ay) (bx, b_y)) ys
    omega
  have H0 : Hid (CS w W1 W1 (w.heap.size + 1 + 1) (.slice none 0 0) [] (ax, ay)) := Lib.hid ⟨⟨rfl, .inl ⟨rfl, rfl⟩⟩, hB1, Nat.le_refl _, fun _ _ _ => rfl, hbox⟩
  have hW1 := hB1.size
  clear hperm hpw hown hbel hB3 hB1 hbox hrow
  go_wp2
  go_loopw [9, 20] (fun v i wr => ∃ (k : Nat) (L : List (Int × Int)) (h : Int × Int), k ≤ M.length ∧ i = .int .i64 k ∧ CS w W1 wr (w.heap.size + 1 + 1) v L h ∧ Half (ax, ay) (M.take k) L h ∧ L.length ≤ k) (fun _ i _ => M.length - (intOf i).toNat)
  case atStart => exact ⟨0, [], (ax, ay), by omega, rfl, H0.out, Half.start _, by simp⟩
  case round =>
    obtain ⟨k, L, z, hk, rfl, hC, hH, hLk⟩ := hrel
    have HC := Lib.hid hC
    have HH := Lib.hid hH
    clear hC hH
    by_cases hlt : k < M.length
    · obtain ⟨g, rfl, hg, hg1, c0, c1⟩ := HR.out k hlt
      have hgw := HC.out.old g (by have := hg; simp at this; omega) hg1
      have d0 : wr.cell? ⟨g, k * 2, none⟩ = some (.int .i64 M[k].1) := (World.cell?_of_block hgw).trans c0
      have d1 : wr.cell? ⟨g, k * 2 + 1, none⟩ = some (.int .i64 M[k].2) := (World.cell?_of_block hgw).trans c1
      have HO : Hid (Ow (wr.alloc (.cells #[.int .i64 M[k].1, .int .i64 M[k].2] 23)) w.heap.size (w.heap.size + 1 + 1) z.1 z.2) := Lib.hid (HC.out.box.keep (b1 _ _))
      obtain ⟨hlo, o0, o1, o2, o3⟩ := HC.out.box
      have q1 := eq_pt M[k].1 M[k].2 z.1 z.2
      have hwz : w.heap.size + 1 + 1 < wr.heap.size := by have := HC.out.size; omega
      have hgz : g < wr.heap.size := by have := HC.out.size; omega
      have HT : Hid (M.take (k + 1) = M.take k ++ [M[k]]) := Lib.hid (List.take_succ_eq_append_getElem hlt)
      have hmem : M[k] ∈ M := List.getElem_mem _
      have HStep : Hid ((M[k] = z → Half (ax, ay) (M.take k ++ [M[k]]) L z) ∧ (M[k] ≠ z → Half (ax, ay) (M.take k ++ [M[k]]) (L ++ [M[k]]) M[k])) := by
        refine Lib.hid ?_
        have hr := (HM.out.1 M[k]).1 hmem
        have hok := (rawV_okp hr).1
        refine HH.out.step (b := (bx, b_y)) (xs := xs) (ys := ys) (fun s hs => ?_) (by rw [← rawV_ok hok]; exact hr)
        obtain ⟨j, hj, rfl⟩ := List.getElem_of_mem hs
        rw [List.length_take] at hj
        rw [List.getElem_take]
        exact ⟨by rw [← rawV_ok hok]; exact (HM.out.1 _).1 (List.getElem_mem _), List.pairwise_iff_getElem.1 HM.out.2 j k (by omega) hlt (by omega)⟩
      have HE := Lib.hid (eqB_iff M[k].1 M[k].2 z.1 z.2)
      clear c0 c1 hgw hmem hlo
      generalize M[k] = m at *
      cases he : eqB m.1 m.2 z.1 z.2
      · rw [he] at q1
        have HNe : Hid (m ≠ z) := Lib.hid (fun k => by have := HE.out.2 ⟨by rw [k], by rw [k]⟩; rw [he] at this; cases this)
        clear he
        have HC2 : Hid (CS w W1 ((wr.alloc (.cells #[.int .i64 m.1, .int .i64 m.2] 23)).alloc (.cells #[.int .i64 m.1, .int .i64 m.2] 23)) (w.heap.size + 1 + 1) u9 L z) := Lib.hid (HC.out.later hW1 (b2 _ _ _))
        have hob : Hid (∀ q, u9.ownBlock = some q → q < wr.heap.size) := Lib.hid (fun q hq => (own_block HC.out.own hq).2)
        have hsz2 := HC.out.size
        go_wp2_with (at_builtin; refine wpList_append_own _ rfl (.tmp 27) (.tmp 29) 40 rfl W1.heap.size 23 i0 (.agg #[.int .i64 0, .int .i64 0]) 2 16 Try.underlying40 hi hz0 hz1 hz2 rfl (by decide) _ L.length (cells L) rfl HC2.out.own ⟨wr.heap.size + 1, 0, none⟩ 1 1 [.int .i64 m.1, .int .i64 m.2] rfl rfl ?c1 ?c2 ?c3 ?c4 ?c5 ?_)
        case c1 =>
          intro j u hj
          match j, hj with
          | 0, hj => simp at hj; subst hj; go_simp
          | 1, hj => simp at hj; subst hj; go_simp
        case c2 => intro u hu; simp at hu; rcases hu with rfl | rfl <;> rfl
        case c3 => unfold maxLen; omega
        case c4 => omega
        case c5 => simp; omega
        intro v' w2 hown' hgrow _
        have HC3 := Lib.hid (HC2.out.more hW1 hsz (p := m) hown' hgrow)
        have hblk : w2.heap[wr.heap.size]? = ((wr.alloc (.cells #[.int .i64 m.1, .int .i64 m.2] 23)).alloc (.cells #[.int .i64 m.1, .int .i64 m.2] 23)).heap[wr.heap.size]? :=
          hgrow.block _ (by simp <;> omega) (fun e => by have := hob.out _ e.symm; omega)
        have e0 : w2.cell? ⟨wr.heap.size, 0, none⟩ = some (.int .i64 m.1) := (World.cell?_of_block hblk).trans (by go_simp)
        have e1 : w2.cell? ⟨wr.heap.size, 1, none⟩ = some (.int .i64 m.2) := (World.cell?_of_block hblk).trans (by go_simp)
        clear hown' hgrow hblk o0 o1 o2 o3 d0 d1
        have HC4 := Lib.hid (HC3.out.put hsz m)
        obtain ⟨_, o0, o1, o2, o3⟩ := HC3.out.box
        go_wp2
        go_roundw
        case rel => exact ⟨k + 1, L ++ [m], m, by omega, by go_num, HC4.out, by rw [HT.out]; exact HStep.out.2 HNe.out, by simp; omega⟩
        case measure => simp [intOf]; omega
      · rw [he] at q1
        have HEq : Hid (m = z) := Lib.hid (by have := HE.out.1 he; exact Prod.ext this.1 this.2)
        have HC2 : Hid (CS w W1 (wr.alloc (.cells #[.int .i64 m.1, .int .i64 m.2] 23)) (w.heap.size + 1 + 1) u9 L z) := Lib.hid (HC.out.later hW1 (b1 _ _))
        clear he
        go_wp2
        go_roundw
        case rel => exact ⟨k + 1, L, z, by omega, by go_num, HC2.out, by rw [HT.out]; exact HStep.out.1 HEq.out, by omega⟩
        case measure => simp [intOf]; omega
    · obtain rfl : k = M.length := by omega
      have HL : Hid (CutsV (ax, ay) (bx, b_y) xs ys L) := by
        refine Lib.hid ?_
        have hh := HH.out
        rw [List.take_length] at hh
        exact ⟨hh.1, fun r => (hh.2.1 r).trans (HM.out.1 r)⟩
      go_wp2
      try rw [Exit.noGoto_ret]
      go_ret
      exact ⟨u9, L, rfl, HL.out, own_base HC.out.own hW1, HC.out.below⟩
end Go.Proofs.Ytmhmccicnebhaaa
