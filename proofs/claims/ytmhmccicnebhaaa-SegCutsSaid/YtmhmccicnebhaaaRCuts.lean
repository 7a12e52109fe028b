/- The walk of the document's cuts. -/
import Derived.Test.YtmhmccicnebhaaaPut
import Derived.Test.YtmhmccicnebhaaaDd
import Derived.Test.YtmhmccicnebhaaaCuts
import Derived.BigQuiet
import Derived.Deep.QuietTactic
namespace Go.Proofs.Ytmhmccicnebhaaa
open Go.RowKit

theorem rat_any (x y u v c : Int) (w : World) (h : ok2 x y u v = true) :
    Calls Try.prog 24 #[.int .i64 x, .int .i64 y, .int .i64 u, .int .i64 v, .int .i64 c] w fun e w' => e = .returned (.tuple #[.int .i64 (if cutB x u c then cutI x y u v c else 0), .bool (cutB x u c)]) ∧ w' = w := by
  unfold ok2 at h
  rw [Bool.and_eq_true] at h
  cases hc : cutB x u c
  · refine (at_no x y u v c w (fun k => by rw [(cutB_iff _ _ _).2 k] at hc; cases hc)).mono ?_
    rintro e w' ⟨rfl, rfl⟩
    exact ⟨rfl, rfl⟩
  · refine (at_yes x y u v c w ((cutB_iff _ _ _).1 hc) h.1 h.2).mono ?_
    rintro e w' ⟨rfl, rfl⟩
    exact ⟨rfl, rfl⟩
theorem rabs_any (n : Int) (w : World) (h1 : -4611686018427387904 ≤ n) (h2 : n ≤ 4611686018427387904) : Calls Try.prog 63 #[.int .i64 n] w fun e w' => e = .returned (.int .i64 (n.natAbs : Int)) ∧ w' = w :=
  (abs_any n w h1 h2).mono fun _ _ ⟨h, k⟩ => ⟨h, k.symm⟩
theorem rneq_pt (ax ay bx b_y : Int) (w : World) : Sem.run Try.prog (binOp .neq 28 (.agg #[.int .i64 ax, .int .i64 ay]) (.agg #[.int .i64 bx, .int .i64 b_y])) w = .ok (.bool (!eqB ax ay bx b_y)) w := by
  have u3 := Try.underlying3
  have hS : Try.prog.underlying 28 = some (.struct (Try.prog.fieldsOf 28)) := by kernel_rfl
  have hp : Try.prog.stoodInHeld 28 = false := by kernel_rfl
  rw [run_neq_struct, show (10000 : Nat) = 9999 + 1 from rfl, run_equalIn_agg w 9999 28 _ _ hS hp]
  simp only [Program.fieldsOf, Try.underlying28]
  unfold eqB
  go_simp
  by_cases h1 : ax = bx <;> by_cases h2 : ay = b_y <;> simp [h1, h2]
theorem info_P : (Try.prog.info? 28).map (fun i => (i.zero, i.size, i.bytes)) = some (some (.agg #[.int .i64 0, .int .i64 0]), 2, 16) := by kernel_rfl

/-- The cuts so far: in order, each where its line says. -/
structure RI (W0 wr : World) (a b : Int × Int) (v : Value) (L : List Ct) (S : List (Int × Int)) : Prop where
  own : wr.ownsRow W0.heap.size 83 4 v L.length (ctc L)
  below : Below W0.heap.size W0 wr
  perm : (L.map (·.1)).Perm S
  rise : L.Pairwise (fun p q => dist a p.1 ≤ dist a q.1)
  ways : ∀ c ∈ L, way a b c.2.1 c.2.2 c.1
  inn : ∀ c ∈ L, ctIn c
theorem RI.len {W0 wr : World} {a b : Int × Int} {v : Value} {L : List Ct} {S : List (Int × Int)} (h : RI W0 wr a b v L S) : L.length = S.length := by
  have := h.perm.length_eq; simpa using this
theorem RI.later {W0 wr w1 : World} {a b : Int × Int} {v : Value} {L : List Ct} {S : List (Int × Int)} (h : RI W0 wr a b v L S) (hb : Below wr.heap.size wr w1) : RI W0 w1 a b v L S :=
  ⟨ownk hb h.own, h.below.trans (hb.mono h.below.size), h.perm, h.rise, h.ways, h.inn⟩
theorem RI.more {W0 wr w1 : World} {a b : Int × Int} {v v' : Value} {L : List Ct} {S : List (Int × Int)} {c : Ct} {k : Nat} (h : RI W0 wr a b v L S) (hw : way a b c.2.1 c.2.2 c.1) (hin : ctIn c) (hA : PutAt L c k)
    (ho : w1.ownsRow wr.heap.size 83 4 v' (L.length + 1) (ctc (L.take k ++ c :: L.drop k))) (hb : Below wr.heap.size wr w1) : RI W0 w1 a b v' (L.take k ++ c :: L.drop k) (S ++ [c.1]) := by
  obtain ⟨hk, h1, h2⟩ := hA
  have hpm := put_perm L c k
  have hl : (L.take k ++ c :: L.drop k).length = L.length + 1 := by rw [hpm.length_eq]; rfl
  have hmem : ∀ d, d ∈ L.take k ++ c :: L.drop k → d = c ∨ d ∈ L := fun d hd => by
    have := hpm.mem_iff.1 hd
    rw [List.mem_cons] at this; exact this
  refine ⟨by rw [hl]; exact own_base ho h.below.size, h.below.trans (hb.mono h.below.size), ?_, ?_, ?_, ?_⟩
  · refine (hpm.map _).trans ?_
    rw [List.map_cons]
    exact (h.perm.cons _).trans (List.perm_append_comm (l₁ := [c.1]) (l₂ := S))
  · refine put_rise (fun d : Ct => dist a d.1) hk h.rise (fun j hj hkj => ?_) (fun hj h0 => ?_)
    · have hlt := h1 j hj hkj
      unfold ctLt at hlt
      exact (mid_dist (way_mid hw (h.ways _ (List.getElem_mem hj)) (Int.le_of_lt hlt)).1).1
    · have hlt := h2 hj h0
      unfold ctLt at hlt
      exact (mid_dist (way_mid (h.ways _ (List.getElem_mem hj)) hw (Int.not_lt.1 hlt)).1).1
  · intro d hd
    rcases hmem d hd with rfl | hd
    · exact hw
    · exact h.ways d hd
  · intro d hd
    rcases hmem d hd with rfl | hd
    · exact hin
    · exact h.inn d hd
theorem RI.start (W0 : World) (a b : Int × Int) : RI W0 W0 a b (.slice none 0 0) [] [] :=
  ⟨⟨rfl, .inl ⟨rfl, rfl⟩⟩, Below.refl _ _, List.Perm.refl _, .nil, (fun _ h => (by cases h)), (fun _ h => (by cases h))⟩
theorem rat_no (x y u v c : Int) (w : World) (h : ok2 x y u v = true) (hc : cutB x u c = false) :
    Calls Try.prog 24 #[.int .i64 x, .int .i64 y, .int .i64 u, .int .i64 v, .int .i64 c] w fun e w' => e = .returned (.tuple #[.int .i64 0, .bool false]) ∧ w' = w := by
  have := rat_any x y u v c w h
  rw [hc] at this; exact this
theorem rat_yes (x y u v c : Int) (w : World) (h : ok2 x y u v = true) (hc : cutB x u c = true) :
    Calls Try.prog 24 #[.int .i64 x, .int .i64 y, .int .i64 u, .int .i64 v, .int .i64 c] w fun e w' => e = .returned (.tuple #[.int .i64 (cutI x y u v c), .bool true]) ∧ w' = w := by
  have := rat_any x y u v c w h
  rw [hc] at this; exact this
theorem keep5 {w W w1 : World} {a0 a1 a2 a3 a4 : Addr} {v0 v1 v2 v3 v4 : Value} (hb : Below W.heap.size W w1) (h : W.cell? a0 = some v0 ∧ W.cell? a1 = some v1 ∧ W.cell? a2 = some v2 ∧ W.cell? a3 = some v3 ∧ W.cell? a4 = some v4 ∧ Below w.heap.size w W) :
    w1.cell? a0 = some v0 ∧ w1.cell? a1 = some v1 ∧ w1.cell? a2 = some v2 ∧ w1.cell? a3 = some v3 ∧ w1.cell? a4 = some v4 ∧ Below w.heap.size w w1 := by
  obtain ⟨h0, h1, h2, h3, h4, hB⟩ := h
  exact ⟨cell_later hb h0, cell_later hb h1, cell_later hb h2, cell_later hb h3, cell_later hb h4, hB.trans (hb.mono hB.size)⟩
theorem keep5d {w W : World} {a0 a1 a2 a3 a4 : Addr} {v0 v1 v2 v3 v4 : Value} (h : W.cell? a0 = some v0 ∧ W.cell? a1 = some v1 ∧ W.cell? a2 = some v2 ∧ W.cell? a3 = some v3 ∧ W.cell? a4 = some v4 ∧ Below w.heap.size w W) :
    W.drew.cell? a0 = some v0 ∧ W.drew.cell? a1 = some v1 ∧ W.drew.cell? a2 = some v2 ∧ W.drew.cell? a3 = some v3 ∧ W.drew.cell? a4 = some v4 ∧ Below w.heap.size w W.drew := ⟨h.1, h.2.1, h.2.2.1, h.2.2.2.1, h.2.2.2.2.1, h.2.2.2.2.2.drew⟩
theorem RI.more5 {W0 wq W w1 : World} {a b : Int × Int} {v v' : Value} {L : List Ct} {S : List (Int × Int)} {c : Ct} {k : Nat} {a0 a1 a2 a3 a4 : Addr} {v0 v1 v2 v3 v4 : Value} (h : RI W0 wq a b v L S)
    (hS : W.cell? a0 = some v0 ∧ W.cell? a1 = some v1 ∧ W.cell? a2 = some v2 ∧ W.cell? a3 = some v3 ∧ W.cell? a4 = some v4 ∧ Below wq.heap.size wq W) (hw : way a b c.2.1 c.2.2 c.1) (hin : ctIn c) (hA : PutAt L c k)
    (ho : w1.ownsRow W.heap.size 83 4 v' (L.length + 1) (ctc (L.take k ++ c :: L.drop k))) (hb : Below W.heap.size W w1) : RI W0 w1 a b v' (L.take k ++ c :: L.drop k) (S ++ [c.1]) :=
  (h.later hS.2.2.2.2.2).more hw hin hA ho hb
/-- A cut by an upright line, as it is put. -/
def xCt (a b : Int × Int) (c : Int) : Ct := ((c, cutI a.1 a.2 b.1 b.2 c), ((c - a.1).natAbs : Int), ((b.1 - a.1).natAbs : Int))
def yCt (a b : Int × Int) (c : Int) : Ct := ((cutI a.2 a.1 b.2 b.1 c, c), ((c - a.2).natAbs : Int), ((b.2 - a.2).natAbs : Int))
theorem xCt_ok {a b : Int × Int} {c : Int} (h : cutB a.1 b.1 c = true) (hok : ok2 a.1 a.2 b.1 b.2 = true) : way a b (xCt a b c).2.1 (xCt a b c).2.2 (xCt a b c).1 ∧ ctIn (xCt a b c) ∧ (-16777216 ≤ c ∧ c ≤ 16777216) ∧ (-16777216 ≤ cutI a.1 a.2 b.1 b.2 c ∧ cutI a.1 a.2 b.1 b.2 c ≤ 16777216) := by
  have h0 : xCut a b c = some (c, cutI a.1 a.2 b.1 b.2 c) := by unfold xCut; rw [h]; rfl
  obtain ⟨N, D, hw, _, _, hn, hd⟩ := xCut_way h0
  obtain ⟨h1, h2, h3, h4⟩ := ok2_in hok
  have hb := (cutB_iff _ _ _).1 h
  have hin := cutI_in hok h
  subst hn hd
  refine ⟨hw, ?_, by omega, hin⟩
  unfold ctIn xCt
  simp only []
  omega
theorem yCt_ok {a b : Int × Int} {c : Int} (h : cutB a.2 b.2 c = true) (hok : ok2 a.1 a.2 b.1 b.2 = true) : way a b (yCt a b c).2.1 (yCt a b c).2.2 (yCt a b c).1 ∧ ctIn (yCt a b c) ∧ (-16777216 ≤ c ∧ c ≤ 16777216) ∧ (-16777216 ≤ cutI a.2 a.1 b.2 b.1 c ∧ cutI a.2 a.1 b.2 b.1 c ≤ 16777216) := by
  have h0 : yCut a b c = some (cutI a.2 a.1 b.2 b.1 c, c) := by unfold yCut; rw [h]; rfl
  obtain ⟨N, D, hw, _, _, hn, hd⟩ := yCut_way h0
  obtain ⟨h1, h2, h3, h4⟩ := ok2_in hok
  have hb := (cutB_iff _ _ _).1 h
  have hin := cutI_in (by rw [ok2_yx]; exact hok) h
  subst hn hd
  refine ⟨hw, ?_, by omega, hin⟩
  unfold ctIn yCt
  simp only []
  omega
/-- A row of the document's points that a call owns. -/
def AR (W0 wr : World) (v : Value) (L : List (Int × Int)) : Prop := wr.ownsRow W0.heap.size 28 2 v L.length (cells L) ∧ Below W0.heap.size W0 wr
theorem AR.later {W0 wr w1 : World} {v : Value} {L : List (Int × Int)} (h : AR W0 wr v L) (hb : Below wr.heap.size wr w1) : AR W0 w1 v L := ⟨ownk hb h.1, h.2.trans (hb.mono h.2.size)⟩
theorem AR.next {W0 wr w2 : World} {v v' : Value} {L : List (Int × Int)} {p : Int × Int} (h : AR W0 wr v L) (ho : w2.ownsRow W0.heap.size 28 2 v' (L.length + 1) (cells L ++ [.int .i64 p.1, .int .i64 p.2])) (hg : wr.grownBy w2 v.ownBlock) : AR W0 w2 v' (L ++ [p]) :=
  ⟨by rw [cells_append, cells_one, List.length_append]; exact ho, h.2.trans ((Below.refl _ _).grown hg h.2.size (fun q hq => (own_block h.1 hq).1))⟩
theorem AR.start (W : World) (x y : Int) : AR W (W.alloc (.cells #[.int .i64 x, .int .i64 y] 28)) (.slice (some ⟨W.heap.size, 0, none⟩) 1 1) [(x, y)] :=
  ⟨⟨rfl, .inr ⟨W.heap.size, 1, _, rfl, Nat.le_refl _, heap_alloc_new W _, Nat.le_refl _, by unfold maxLen; omega, rfl, rfl⟩⟩, b1 _ _⟩
theorem pt_news (W : World) (x y : Int) (T : TypeId) : ∀ j u, ([.int .i64 x, .int .i64 y] : List Value)[j]? = some u → (W.alloc (.cells #[.int .i64 x, .int .i64 y] T)).cell? ((⟨W.heap.size, 0, none⟩ : Addr).add j) = some u := by
  intro j u hj
  match j, hj with
  | 0, hj => simp at hj; subst hj; go_simp
  | 1, hj => simp at hj; subst hj; go_simp
theorem pt_ones (x y : Int) : ∀ u ∈ ([.int .i64 x, .int .i64 y] : List Value), u.oneCell' = true := by
  intro u hu; simp at hu; rcases hu with rfl | rfl <;> rfl
def RPost (a b : Int × Int) (xs ys : List Int) (w : World) (e : Ending) (w' : World) : Prop :=
  ∃ (v : Value) (L : List (Int × Int)), e = .returned v ∧ IsCuts a b xs ys L ∧ SrcV w' v L.length (cells L) ∧ Below w.heap.size w w'

set_option maxRecDepth 100000 in
set_option maxHeartbeats 4000000 in
theorem rcuts_any (ax ay bx b_y : Int) (p q : Option Addr) (xs ys : List Int) (cp cq : Nat) (w : World) (hok : ok2 ax ay bx b_y = true) (hx : xs.length ≤ 40) (hy : ys.length ≤ 40) (HX : Hid (Ints w p xs)) (HY : Hid (Ints w q ys)) :
    Calls Try.prog 25 #[.agg #[.int .i64 ax, .int .i64 ay], .agg #[.int .i64 bx, .int .i64 b_y], .slice p xs.length cp, .slice q ys.length cq] w (RPost (ax, ay) (bx, b_y) xs ys w) := by
  have hAB : (bnd ax && bnd ay) = true ∧ (bnd bx && bnd b_y) = true := by unfold ok2 okp at hok; rw [Bool.and_eq_true] at hok; exact hok
  have Ha := Lib.hid hAB.1
  have Hb := Lib.hid hAB.2
  have Hok := Lib.hid hok
  obtain ⟨i1, i2, i3, i4⟩ := ok2_in hok
  clear hAB hok
  have hI : (fun W : World => W.cell? ⟨w.heap.size, 0, none⟩ = some (.int .i64 ax) ∧ W.cell? ⟨w.heap.size, 1, none⟩ = some (.int .i64 ay) ∧ W.cell? ⟨w.heap.size + 1, 0, none⟩ = some (.int .i64 bx) ∧ W.cell? ⟨w.heap.size + 1, 1, none⟩ = some (.int .i64 b_y) ∧ Below w.heap.size w W)
      ((w.alloc (.cells #[.int .i64 ax, .int .i64 ay] 28)).alloc (.cells #[.int .i64 bx, .int .i64 b_y] 28)) :=
    ⟨by go_simp, by go_simp, by go_simp, by go_simp, b2 _ _ _⟩
  go_enter Try.func25, Try.ntmps25
  go_wp2_with fail
  refine (may_any _ _ _).mono ?_
  rintro e w1 ⟨rfl, hb1⟩
  rw [Ha.out]
  have hS1 := keep4 hb1 hI
  clear hI hb1
  go_wp2_with fail
  refine (may_any _ _ _).mono ?_
  rintro e W0 ⟨rfl, hb2⟩
  rw [Hb.out]
  have hS2 := keep4 hb2 hS1
  clear hb2 hS1
  have HS := Lib.hid hS2
  clear hS2
  go_wp2_with fail
  go_loopw [9, 10] (fun v i wr => ∃ (k : Nat) (L : List Ct), k ≤ xs.length ∧ i = .int .i64 k ∧ RI W0 wr (ax, ay) (bx, b_y) v L ((xs.take k).filterMap (xCut (ax, ay) (bx, b_y)))) (fun _ i _ => xs.length - (intOf i).toNat)
  case atStart => exact ⟨0, [], by omega, rfl, RI.start _ _ _⟩
  case round =>
    obtain ⟨k, L, hk, rfl, hA⟩ := hrel
    have HA := Lib.hid hA
    clear hA
    by_cases hlt : k < xs.length
    · obtain ⟨b, off, rfl, hc⟩ := HX.out k hlt
      have hSw := keep4 HA.out.below HS.out
      have c0 := cell_later hSw.2.2.2.2 hc
      obtain ⟨d0, d1, d2, d3, hBw⟩ := hSw
      have HT := Lib.hid (take_fm (xCut (ax, ay) (bx, b_y)) xs k hlt)
      clear hc
      cases hB : cutB ax bx xs[k]
      · have KA := Lib.hid (fun W => rat_no ax ay bx b_y xs[k] W Hok.out hB)
        have HN : Hid (xCut (ax, ay) (bx, b_y) xs[k] = none) := Lib.hid (by unfold xCut; rw [show cutB ax bx xs[k] = false from hB]; rfl)
        go_wp2_with fail
        go_quiet ((go_at_call 24; exact Calls.quiet_of_same (KA.out _)))
        go_wp2
        go_roundw
        case rel => exact ⟨k + 1, L, by omega, by go_num, by rw [HT.out, HN.out]; simp only [Option.toList_none, List.append_nil]; exact HA.out.later (below_drewN (Below.refl _ _) _)⟩
        case measure => simp [intOf]; omega
      · have KA := Lib.hid (fun W => rat_yes ax ay bx b_y xs[k] W Hok.out hB)
        have HN : Hid (xCut (ax, ay) (bx, b_y) xs[k] = some (xCt (ax, ay) (bx, b_y) xs[k]).1) := Lib.hid (by unfold xCut xCt; rw [show cutB ax bx xs[k] = true from hB]; rfl)
        obtain ⟨hw, hin, hb1, hb2⟩ := xCt_ok (a := (ax, ay)) (b := (bx, b_y)) hB Hok.out
        have HW := Lib.hid hw
        have HIn := Lib.hid hin
        have hlen : L.length ≤ 80 := by have := HA.out.len; have := List.length_filterMap_le (xCut (ax, ay) (bx, b_y)) (xs.take k); have := List.length_take_le k xs; omega
        simp only [] at hb2
        clear hw hin
        go_wp2_with fail
        go_quiet ((go_at_call 24; exact Calls.quiet_of_same (KA.out _)))
        have HA1 := Lib.hid (HA.out.later (below_drewN (Below.refl wr.heap.size wr) nq))
        have hS9 : (wr.drewN nq).cell? ⟨w.heap.size, 0, none⟩ = some (.int .i64 ax) ∧ (wr.drewN nq).cell? ⟨w.heap.size, 1, none⟩ = some (.int .i64 ay) ∧ (wr.drewN nq).cell? ⟨w.heap.size + 1, 0, none⟩ = some (.int .i64 bx) ∧ (wr.drewN nq).cell? ⟨w.heap.size + 1, 1, none⟩ = some (.int .i64 b_y) ∧ (wr.drewN nq).cell? ⟨b, off + k, none⟩ = some (.int .i64 xs[k]) ∧ Below (wr.drewN nq).heap.size (wr.drewN nq) (wr.drewN nq) := ⟨d0, d1, d2, d3, c0, Below.refl _ _⟩
        clear c0 d0 d1 d2 d3 hBw HA KA
        generalize wr.drewN nq = wq at *
        have k1 := rabs_any (xs[k] - ax)
        have K1 := Lib.hid (fun W => k1 W (by omega) (by omega))
        have k2 := rabs_any (bx - ax)
        have K2 := Lib.hid (fun W => k2 W (by omega) (by omega))
        have KP : Hid (∀ W : World, (W.cell? ⟨w.heap.size, 0, none⟩ = some (.int .i64 ax) ∧ W.cell? ⟨w.heap.size, 1, none⟩ = some (.int .i64 ay) ∧ W.cell? ⟨w.heap.size + 1, 0, none⟩ = some (.int .i64 bx) ∧ W.cell? ⟨w.heap.size + 1, 1, none⟩ = some (.int .i64 b_y) ∧ W.cell? ⟨b, off + k, none⟩ = some (.int .i64 xs[k]) ∧ Below wq.heap.size wq W) →
            Calls Try.prog 62 #[u9, .agg #[.int .i64 xs[k], .int .i64 (cutI ax ay bx b_y xs[k]), .int .i64 ((xs[k] - ax).natAbs : Int), .int .i64 ((bx - ax).natAbs : Int)]] W (PutPost L (xCt (ax, ay) (bx, b_y) xs[k]) W)) :=
          Lib.hid fun W hW => put_any u9 L (xCt (ax, ay) (bx, b_y) xs[k]) W W0.heap.size (ownk hW.2.2.2.2.2 HA1.out.own) (by omega) (Lib.hid HA1.out.inn) HIn.out
        have x1 : IntKind.i64.wrap (xs[k] - ax) = xs[k] - ax := IntWalk.i64_in _ (by omega)
        have x2 : IntKind.i64.wrap (bx - ax) = bx - ax := IntWalk.i64_in _ (by omega)
        clear k1 k2
        go_wp2_with fail
        go_region_held3 (fun W => W.cell? ⟨w.heap.size, 0, none⟩ = some (.int .i64 ax) ∧ W.cell? ⟨w.heap.size, 1, none⟩ = some (.int .i64 ay) ∧ W.cell? ⟨w.heap.size + 1, 0, none⟩ = some (.int .i64 bx) ∧ W.cell? ⟨w.heap.size + 1, 1, none⟩ = some (.int .i64 b_y) ∧ W.cell? ⟨b, off + k, none⟩ = some (.int .i64 xs[k]) ∧ Below wq.heap.size wq W) (repeat (first | (with_reducible assumption) | (with_reducible refine keep5d ?_))) (first | (go_at_call 63; (first | (with_reducible refine (K1.out _).mono ?_) | (with_reducible refine (K2.out _).mono ?_)); rintro e w' ⟨rfl, rfl⟩) | (go_at_call 62; (with_reducible refine (KP.out _ (by with_reducible assumption)).mono ?_); rintro e wP ⟨vP, kP, rfl, hPA, hoP, hbP⟩; have hSP := keep5 hbP (by with_reducible assumption); have HF := Lib.hid (RI.more5 HA1.out (by with_reducible assumption) HW.out HIn.out hPA hoP hbP)))
        all_goals
          clear hPA hoP hbP
          go_wp2
          go_roundw
          case rel => exact ⟨k + 1, _, by omega, by go_num, by rw [HT.out, HN.out]; exact HF.out⟩
          case measure => simp [intOf]; omega
    · obtain rfl : k = xs.length := by omega
      rw [List.take_length] at HA
      have HSX : Hid ((xs.filterMap (xCut (ax, ay) (bx, b_y))).length ≤ 40) := Lib.hid (Nat.le_trans (List.length_filterMap_le _ _) hx)
      have HR : Hid (rawL (ax, ay) (bx, b_y) xs ys = xs.filterMap (xCut (ax, ay) (bx, b_y)) ++ ys.filterMap (yCut (ax, ay) (bx, b_y))) := Lib.hid rfl
      have Hok2 : Hid (ok2 ay ax b_y bx = true) := Lib.hid (by rw [show ok2 ay ax b_y bx = ok2 ax ay bx b_y from ok2_yx (ax, ay) (bx, b_y)]; exact Hok.out)
      generalize xs.filterMap (xCut (ax, ay) (bx, b_y)) = SX at HA HSX HR
      go_wp2_with fail
      go_loopw [9, 13] (fun v i wr => ∃ (k : Nat) (L : List Ct), k ≤ ys.length ∧ i = .int .i64 k ∧ RI W0 wr (ax, ay) (bx, b_y) v L (SX ++ (ys.take k).filterMap (yCut (ax, ay) (bx, b_y)))) (fun _ i _ => ys.length - (intOf i).toNat)
      case atStart => exact ⟨0, L, by omega, rfl, by simpa using HA.out⟩
      case round =>
        clear HA
        obtain ⟨k, L, hk, rfl, hA⟩ := hrel
        have HA := Lib.hid hA
        clear hA
        by_cases hlt : k < ys.length
        · obtain ⟨b, off, rfl, hc⟩ := HY.out k hlt
          have hSw := keep4 HA.out.below HS.out
          have c0 := cell_later hSw.2.2.2.2 hc
          obtain ⟨d0, d1, d2, d3, hBw⟩ := hSw
          have HT := Lib.hid (take_fm (yCut (ax, ay) (bx, b_y)) ys k hlt)
          clear hc
          cases hB : cutB ay b_y ys[k]
          · have KA := Lib.hid (fun W => rat_no ay ax b_y bx ys[k] W Hok2.out hB)
            have HN : Hid (yCut (ax, ay) (bx, b_y) ys[k] = none) := Lib.hid (by unfold yCut; rw [show cutB ay b_y ys[k] = false from hB]; rfl)
            go_wp2_with fail
            go_quiet ((go_at_call 24; exact Calls.quiet_of_same (KA.out _)))
            go_wp2
            go_roundw
            case rel => exact ⟨k + 1, L, by omega, by go_num, by rw [HT.out, HN.out]; simp only [Option.toList_none, List.append_nil]; exact HA.out.later (below_drewN (Below.refl _ _) _)⟩
            case measure => simp [intOf]; omega
          · have KA := Lib.hid (fun W => rat_yes ay ax b_y bx ys[k] W Hok2.out hB)
            have HN : Hid (yCut (ax, ay) (bx, b_y) ys[k] = some (yCt (ax, ay) (bx, b_y) ys[k]).1) := Lib.hid (by unfold yCut yCt; rw [show cutB ay b_y ys[k] = true from hB]; rfl)
            obtain ⟨hw, hin, hb1, hb2⟩ := yCt_ok (a := (ax, ay)) (b := (bx, b_y)) hB Hok.out
            have HW := Lib.hid hw
            have HIn := Lib.hid hin
            have hlen : L.length ≤ 80 := by have := HA.out.len; rw [List.length_append] at this; have := HSX.out; have := List.length_filterMap_le (yCut (ax, ay) (bx, b_y)) (ys.take k); have := List.length_take_le k ys; omega
            simp only [] at hb2
            clear hw hin
            go_wp2_with fail
            go_quiet ((go_at_call 24; exact Calls.quiet_of_same (KA.out _)))
            have HA1 := Lib.hid (HA.out.later (below_drewN (Below.refl wr.heap.size wr) nq))
            have hS9 : (wr.drewN nq).cell? ⟨w.heap.size, 0, none⟩ = some (.int .i64 ax) ∧ (wr.drewN nq).cell? ⟨w.heap.size, 1, none⟩ = some (.int .i64 ay) ∧ (wr.drewN nq).cell? ⟨w.heap.size + 1, 0, none⟩ = some (.int .i64 bx) ∧ (wr.drewN nq).cell? ⟨w.heap.size + 1, 1, none⟩ = some (.int .i64 b_y) ∧ (wr.drewN nq).cell? ⟨b, off + k, none⟩ = some (.int .i64 ys[k]) ∧ Below (wr.drewN nq).heap.size (wr.drewN nq) (wr.drewN nq) := ⟨d0, d1, d2, d3, c0, Below.refl _ _⟩
            clear c0 d0 d1 d2 d3 hBw HA KA
            generalize wr.drewN nq = wq at *
            have k1 := rabs_any (ys[k] - ay)
            have K1 := Lib.hid (fun W => k1 W (by omega) (by omega))
            have k2 := rabs_any (b_y - ay)
            have K2 := Lib.hid (fun W => k2 W (by omega) (by omega))
            have KP : Hid (∀ W : World, (W.cell? ⟨w.heap.size, 0, none⟩ = some (.int .i64 ax) ∧ W.cell? ⟨w.heap.size, 1, none⟩ = some (.int .i64 ay) ∧ W.cell? ⟨w.heap.size + 1, 0, none⟩ = some (.int .i64 bx) ∧ W.cell? ⟨w.heap.size + 1, 1, none⟩ = some (.int .i64 b_y) ∧ W.cell? ⟨b, off + k, none⟩ = some (.int .i64 ys[k]) ∧ Below wq.heap.size wq W) →
                Calls Try.prog 62 #[u9, .agg #[.int .i64 (cutI ay ax b_y bx ys[k]), .int .i64 ys[k], .int .i64 ((ys[k] - ay).natAbs : Int), .int .i64 ((b_y - ay).natAbs : Int)]] W (PutPost L (yCt (ax, ay) (bx, b_y) ys[k]) W)) :=
              Lib.hid fun W hW => put_any u9 L (yCt (ax, ay) (bx, b_y) ys[k]) W W0.heap.size (ownk hW.2.2.2.2.2 HA1.out.own) (by omega) (Lib.hid HA1.out.inn) HIn.out
            have x1 : IntKind.i64.wrap (ys[k] - ay) = ys[k] - ay := IntWalk.i64_in _ (by omega)
            have x2 : IntKind.i64.wrap (b_y - ay) = b_y - ay := IntWalk.i64_in _ (by omega)
            clear k1 k2
            go_wp2_with fail
            go_region_held3 (fun W => W.cell? ⟨w.heap.size, 0, none⟩ = some (.int .i64 ax) ∧ W.cell? ⟨w.heap.size, 1, none⟩ = some (.int .i64 ay) ∧ W.cell? ⟨w.heap.size + 1, 0, none⟩ = some (.int .i64 bx) ∧ W.cell? ⟨w.heap.size + 1, 1, none⟩ = some (.int .i64 b_y) ∧ W.cell? ⟨b, off + k, none⟩ = some (.int .i64 ys[k]) ∧ Below wq.heap.size wq W) (repeat (first | (with_reducible assumption) | (with_reducible refine keep5d ?_))) (first | (go_at_call 63; (first | (with_reducible refine (K1.out _).mono ?_) | (with_reducible refine (K2.out _).mono ?_)); rintro e w' ⟨rfl, rfl⟩) | (go_at_call 62; (with_reducible refine (KP.out _ (by with_reducible assumption)).mono ?_); rintro e wP ⟨vP, kP, rfl, hPA, hoP, hbP⟩; have hSP := keep5 hbP (by with_reducible assumption); have HF := Lib.hid (RI.more5 HA1.out (by with_reducible assumption) HW.out HIn.out hPA hoP hbP)))
            all_goals
              clear hPA hoP hbP
              go_wp2
              go_roundw
              case rel => exact ⟨k + 1, _, by omega, by go_num, by rw [HT.out, HN.out]; have := HF.out; rw [List.append_assoc] at this; exact this⟩
              case measure => simp [intOf]; omega
        · obtain rfl : k = ys.length := by omega
          rw [List.take_length, ← HR.out] at HA
          obtain ⟨i0, hi, hz0, hz1, hz2⟩ := info_parts info_P
          obtain ⟨pL, cL, rfl, _, _, _, _, hrow⟩ := own_cts HA.out.own
          have hn80 : L.length ≤ 80 := by
            have h1 := HA.out.len
            rw [HR.out, List.length_append] at h1
            have := HSX.out
            have := List.length_filterMap_le (yCut (ax, ay) (bx, b_y)) ys
            omega
          have HROW := Lib.hid hrow
          have hSr := keep4 HA.out.below HS.out
          have HSr := Lib.hid hSr
          obtain ⟨d0, d1, d2, d3, hBw⟩ := hSr
          have HP1 : Hid (∀ M : List (Int × Int), M = L.map (·.1) → M.Pairwise (fun p q => dist (ax, ay) p ≤ dist (ax, ay) q) ∧ ∀ p, p ∈ M ↔ p ∈ rawL (ax, ay) (bx, b_y) xs ys) := Lib.hid (fun M hM => by
            subst hM
            exact ⟨List.pairwise_map.2 HA.out.rise, fun p => HA.out.perm.mem_iff⟩)
          have HBw := Lib.hid hBw
          obtain ⟨W1, hW1⟩ : ∃ W, W = wr := ⟨_, rfl⟩
          subst hW1
          have HA0 : Hid (AR W1 (W1.alloc (.cells #[.int .i64 ax, .int .i64 ay] 28)) (.slice (some ⟨W1.heap.size, 0, none⟩) 1 1) [(ax, ay)]) := Lib.hid (AR.start W1 ax ay)
          clear hrow hBw HR HSX HA
          go_wp2_with fail
          go_loopw [16, 17] (fun v i wr => ∃ k : Nat, k ≤ L.length ∧ i = .int .i64 k ∧ AR W1 wr v ((ax, ay) :: (L.map (·.1)).take k)) (fun _ i _ => L.length - (intOf i).toNat)
          case atStart => exact ⟨0, by omega, rfl, HA0.out⟩
          case round =>
            clear HA0 d0 d1 d2 d3
            obtain ⟨k, hk, rfl, hA⟩ := hrel
            have HA := Lib.hid hA
            clear hA
            by_cases hlt : k < L.length
            · obtain ⟨g, rfl, _, hgl, e0, e1, _, _⟩ := HROW.out k hlt
              have c0 := cell_later HA.out.2 e0
              have c1 := cell_later HA.out.2 e1
              have HT : Hid ((L.map (·.1)).take (k + 1) = (L.map (·.1)).take k ++ [L[k].1]) := Lib.hid (by rw [List.take_succ_eq_append_getElem (by simpa using hlt), List.getElem_map])
              have hlA : ((ax, ay) :: (L.map (·.1)).take k).length = k + 1 := by simp; omega
              generalize hm : L[k].1 = m at *
              generalize hLA : (ax, ay) :: (L.map (·.1)).take k = LA at *
              have HLA := Lib.hid hLA
              have HA2 := Lib.hid (HA.out.later (b1 wr (.cells #[.int .i64 m.1, .int .i64 m.2] 28)))
              have hsz := HA.out.2.size
              clear e0 e1 hm hLA
              go_wp2_with (at_builtin; refine wpList_append_own _ rfl (.tmp 128) (.tmp 134) 30 rfl W1.heap.size 28 i0 (.agg #[.int .i64 0, .int .i64 0]) 2 16 Try.underlying30 hi hz0 hz1 hz2 rfl (by decide) _ (LA.length) (cells LA) rfl HA2.out.1 ⟨wr.heap.size, 0, none⟩ 1 1 [.int .i64 m.1, .int .i64 m.2] rfl rfl (pt_news _ _ _ _) (pt_ones _ _) (by unfold maxLen; omega) (by omega) (by simp; omega) ?_)
              intro v' w2 hown' hgrow _
              have HA3 := Lib.hid (HA2.out.next (p := m) (by rw [hlA]; exact hown') hgrow)
              clear hown' hgrow
              go_wp2
              go_roundw
              case rel => exact ⟨k + 1, by omega, by go_num, by rw [HT.out, ← List.cons_append, HLA.out]; exact HA3.out⟩
              case measure => simp [intOf]; omega
            · obtain rfl : k = L.length := by omega
              rw [List.take_of_length_le (by simp)] at HA
              have HP2 := Lib.hid (HP1.out _ rfl)
              have hlP : (L.map (·.1)).length ≤ 80 := by simpa using hn80
              generalize L.map (·.1) = P at *
              have hlA : ((ax, ay) :: P).length ≤ 81 := by simp; omega
              have hSA := keep4 HA.out.2 HSr.out
              obtain ⟨d0, d1, d2, d3, hBA⟩ := hSA
              have HA2 := Lib.hid (HA.out.later (b1 wr (.cells #[.int .i64 bx, .int .i64 b_y] 28)))
              have HBA := Lib.hid hBA
              have hsz := HA.out.2.size
              clear HP1 hBA HROW HA
              go_wp2_with (at_builtin; refine wpList_append_own _ rfl (.tmp 136) (.tmp 138) 30 rfl W1.heap.size 28 i0 (.agg #[.int .i64 0, .int .i64 0]) 2 16 Try.underlying30 hi hz0 hz1 hz2 rfl (by decide) _ (((ax, ay) :: P).length) (cells ((ax, ay) :: P)) rfl HA2.out.1 ⟨wr.heap.size, 0, none⟩ 1 1 [.int .i64 bx, .int .i64 b_y] rfl rfl (pt_news _ _ _ _) (pt_ones _ _) (by unfold maxLen; omega) (by omega) (by simp; omega) ?_)
              intro v' W2 hown' hgrow _
              have HA3 := Lib.hid (HA2.out.next (p := (bx, b_y)) hown' hgrow)
              have hb12 : Below W1.heap.size W1 W2 := HA3.out.2
              have hS2 := keep4 hb12 HSr.out
              have HS2 := Lib.hid hS2
              obtain ⟨d0, d1, d2, d3, _⟩ := hS2
              clear hown' hgrow HA2 hb12
              obtain ⟨pA, cA, rfl, _, hrow⟩ := own_row HA3.out.1
              have HROW := Lib.hid hrow
              have hNA : ((ax, ay) :: P ++ [(bx, b_y)]).length ≤ P.length + 2 ∧ P.length + 2 ≤ ((ax, ay) :: P ++ [(bx, b_y)]).length := by simp
              have HB0 : Hid (AR W2 (W2.alloc (.cells #[.int .i64 ax, .int .i64 ay] 28)) (.slice (some ⟨W2.heap.size, 0, none⟩) 1 1) [(ax, ay)]) := Lib.hid (AR.start W2 ax ay)
              clear hrow
              generalize hAL : (ax, ay) :: P ++ [(bx, b_y)] = AL at *
              have HAL := Lib.hid hAL
              clear hAL
              go_wp2_with fail
              go_loopw [18, 19] (fun v i wr => ∃ k : Nat, k + 1 ≤ AL.length ∧ i = .int .i64 ((k + 1 : Nat) : Int) ∧ AR W2 wr v (dd [(ax, ay)] ((P ++ [(bx, b_y)]).take k))) (fun _ i _ => AL.length - (intOf i).toNat)
              case atStart => exact ⟨0, by omega, rfl, HB0.out⟩
              case round =>
                clear HB0 d0 d1 d2 d3
                obtain ⟨k, hk, rfl, hA⟩ := hrel
                have HA := Lib.hid hA
                clear hA
                by_cases hlt : k + 1 < AL.length
                · obtain ⟨g, rfl, _, hgl, e0, e1⟩ := HROW.out (k + 1) hlt
                  have c0 := cell_later HA.out.2 e0
                  have c1 := cell_later HA.out.2 e1
                  have HT : Hid (dd [(ax, ay)] ((P ++ [(bx, b_y)]).take (k + 1)) = dstep (dd [(ax, ay)] ((P ++ [(bx, b_y)]).take k)) AL[k + 1]) := by
                    refine Lib.hid ?_
                    have hl : k < (P ++ [(bx, b_y)]).length := by simp; omega
                    rw [List.take_succ_eq_append_getElem hl, dd_snoc]
                    congr 1
                    have := HAL.out
                    subst this
                    simp
                  have hdl := dd_len [(ax, ay)] ((P ++ [(bx, b_y)]).take k)
                  have hO1 : 1 ≤ (dd [(ax, ay)] ((P ++ [(bx, b_y)]).take k)).length := hdl.1
                  have hO2 : (dd [(ax, ay)] ((P ++ [(bx, b_y)]).take k)).length ≤ 90 := by
                    have := hdl.2
                    rw [List.length_take] at this
                    simp at this
                    omega
                  clear hdl e0 e1
                  generalize dd [(ax, ay)] ((P ++ [(bx, b_y)]).take k) = O at *
                  obtain ⟨pO, cO, rfl, _, hr⟩ := own_row HA.out.1
                  obtain ⟨gO, rfl, _, hgO, f0, f1⟩ := hr (O.length - 1) (by omega)
                  have HLast : Hid (lastP O = O[O.length - 1]) := Lib.hid (by unfold lastP; rw [List.getD_eq_getElem?_getD, List.getElem?_eq_getElem (by omega)]; rfl)
                  have x1 : IntKind.i64.wrap ((O.length : Int) - 1) = (O.length : Int) - 1 := IntWalk.i64_in _ (by omega)
                  have x2 : ((O.length : Int) - 1).toNat = O.length - 1 := by omega
                  have x3 : 0 ≤ (O.length : Int) - 1 := by omega
                  have x4 : (O.length : Int) - 1 < (O.length : Int) := by omega
                  have q1 := rneq_pt AL[k + 1].1 AL[k + 1].2 O[O.length - 1].1 O[O.length - 1].2
                  have HE := Lib.hid (eqB_iff AL[k + 1].1 AL[k + 1].2 O[O.length - 1].1 O[O.length - 1].2)
                  clear hr
                  generalize AL[k + 1] = m at *
                  generalize O[O.length - 1] = z at *
                  cases he : eqB m.1 m.2 z.1 z.2
                  · rw [he] at q1
                    simp only [Bool.not_false] at q1
                    have HD : Hid (dstep O m = O ++ [m]) := Lib.hid (by
                      unfold dstep
                      rw [HLast.out, if_neg]
                      intro k
                      have := HE.out.2 ⟨by rw [k], by rw [k]⟩
                      rw [he] at this; cases this)
                    clear he
                    go_wp2_with fail
                    go_quiet (fail)
                    have HA1 := Lib.hid (HA.out.later (below_drewN (Below.refl wr.heap.size wr) nq))
                    have c0' : (wr.drewN nq).cell? ⟨g, (k + 1) * 2, none⟩ = some (.int .i64 m.1) := c0
                    have c1' : (wr.drewN nq).cell? ⟨g, (k + 1) * 2 + 1, none⟩ = some (.int .i64 m.2) := c1
                    clear c0 c1 f0 f1 q1 HA x1 x2 x3 x4
                    generalize wr.drewN nq = wq at *
                    have HA2 := Lib.hid (HA1.out.later (b1 wq (.cells #[.int .i64 m.1, .int .i64 m.2] 28)))
                    have hsz := HA1.out.2.size
                    go_wp2_with (at_builtin; refine wpList_append_own _ rfl (.tmp 159) (.tmp 164) 30 rfl W2.heap.size 28 i0 (.agg #[.int .i64 0, .int .i64 0]) 2 16 Try.underlying30 hi hz0 hz1 hz2 rfl (by decide) _ (O.length) (cells O) rfl HA2.out.1 ⟨wq.heap.size, 0, none⟩ 1 1 [.int .i64 m.1, .int .i64 m.2] rfl rfl (pt_news _ _ _ _) (pt_ones _ _) (by unfold maxLen; omega) (by omega) (by simp; omega) ?_)
                    intro v' w3 hown' hgrow _
                    have HA3 := Lib.hid (HA2.out.next (p := m) hown' hgrow)
                    clear hown' hgrow
                    go_wp2
                    go_roundw
                    case rel => exact ⟨k + 1, by omega, by go_num, by rw [HT.out, HD.out]; exact HA3.out⟩
                    case measure => simp [intOf]; omega
                  · rw [he] at q1
                    simp only [Bool.not_true] at q1
                    have HD : Hid (dstep O m = O) := Lib.hid (by
                      unfold dstep
                      have := HE.out.1 he
                      rw [HLast.out, if_pos (Prod.ext this.1 this.2)])
                    clear he
                    go_wp2_with fail
                    go_quiet (fail)
                    have HA1 := Lib.hid (HA.out.later (below_drewN (Below.refl wr.heap.size wr) nq))
                    go_wp2
                    go_roundw
                    case rel => exact ⟨k + 1, by omega, by go_num, by rw [HT.out, HD.out]; exact HA1.out⟩
                    case measure => simp [intOf]; omega
                · have hkP : k = (P ++ [(bx, b_y)]).length := by simp; omega
                  rw [List.take_of_length_le (by omega)] at HA
                  obtain ⟨M, hM, hcase⟩ := dd_cuts HP2.out.1 HP2.out.2
                  have HM := Lib.hid hM
                  have HBE : Hid (Below w.heap.size w wr) := Lib.hid ((HBw.out.trans (HA3.out.2.mono HBw.out.size)).trans (HA.out.2.mono (Nat.le_trans HBw.out.size HA3.out.2.size)))
                  clear hM
                  rcases hcase with ⟨rfl, h3⟩ | ⟨hne, hO⟩
                  · generalize dd [(ax, ay)] (P ++ [(bx, b_y)]) = O at *
                    obtain ⟨pO, cO, rfl, _, _⟩ := own_row HA.out.1
                    go_wp2_with fail
                    try rw [Exit.noGoto_ret]
                    go_ret
                    exact ⟨_, [], rfl, HM.out, ⟨none, 0, rfl, fun h => absurd rfl h⟩, HBE.out⟩
                  · rw [hO] at HA
                    obtain ⟨pO, cO, rfl, hcap, hr⟩ := own_row HA.out.1
                    have hl : ((ax, ay) :: (M ++ [(bx, b_y)])).length = M.length + 2 := by simp
                    have hMl : 1 ≤ M.length := List.length_pos_iff.2 hne
                    obtain ⟨gO, rfl, _, _, _, _⟩ := hr 0 (by omega)
                    have HSrc : Hid (∀ c, SrcV wr (.slice (some ⟨gO, 2, none⟩) M.length c) M.length (cells M)) := Lib.hid fun c => by
                      refine ⟨_, _, rfl, fun _ => ⟨gO, 2, rfl, fun j u hj => ?_⟩⟩
                      have hc := HA.out.1.cells (g := gO) rfl
                      have hjl : j < (cells M).length := (List.getElem?_eq_some_iff.1 hj).1
                      have := hc (2 + j) u (by rw [cells_cons, cells_append, show 2 + j = j + 1 + 1 from by omega, List.getElem?_cons_succ, List.getElem?_cons_succ, List.getElem?_append_left hjl]; exact hj)
                      rw [add_at] at this ⊢
                      rw [Nat.zero_add] at this
                      exact this
                    have hM90 : M.length ≤ 100 := by
                      have h1 := (dd_len [(ax, ay)] (P ++ [(bx, b_y)])).2
                      rw [hO] at h1
                      simp at h1
                      omega
                    rw [hl] at hcap ⊢
                    have y1 : IntKind.i64.wrap (((M.length + 2 : Nat) : Int) - 1) = ((M.length + 1 : Nat) : Int) := by rw [IntWalk.i64_in _ (by omega)]; omega
                    clear hr hO HA
                    go_wp2_with fail
                    try rw [Exit.noGoto_ret]
                    go_ret
                    exact ⟨_, M, rfl, HM.out, by have := HSrc.out (cO - 1); rw [show M.length + 2 - 1 - 1 = M.length from by omega]; exact this, HBE.out⟩
end Go.Proofs.Ytmhmccicnebhaaa
