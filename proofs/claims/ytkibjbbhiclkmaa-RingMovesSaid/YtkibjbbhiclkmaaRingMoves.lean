/- Moved, a ring goes round the moved point as it did, also beside a moved segment, and has its area; scaled by 2 or 3 its area grows by 4 or 9, and it goes round as it did, for any points (40 at most, numbers up to 2^20, as the statement says; P3.3, P3.4): RingMoves returns true at every input.
   Conditions: none. -/
import Derived.Test.YtkibjbbhiclkmaaRingSym
import Derived.Test.YtkibjbbhiclkmaaSimEq
import Derived.Test.YtkibjbbhiclkmaaMoved
import Derived.Deep.RegionHeld3
import Derived.Test.YtkibjbbhiclkmaaRow
import Derived.Test.YtkibjbbhiclkmaaOpenPts
namespace Go.Proofs.Ytkibjbbhiclkmaa

theorem mvp_tr (t : Int × Int) : mvp t = tr 1 t.1 t.2 := funext fun p => by unfold mvp tr; congr 1 <;> omega
theorem scp_tr (c : Int) : scp c = tr c 0 0 := funext fun p => by unfold scp tr; rw [Int.mul_comm p.1, Int.mul_comm p.2]; simp
theorem b20_ok {p : Int × Int} (h : b20 p) : okp p.1 p.2 = true := by
  unfold b20 at h
  unfold okp bnd
  simp only [Bool.and_eq_true, decide_eq_true_eq]
  omega
theorem b20_mv {t p : Int × Int} (h : b20 p) (ht : b20 t) : okp (mvp t p).1 (mvp t p).2 = true := by
  unfold b20 at h ht
  unfold okp bnd mvp
  simp only [Bool.and_eq_true, decide_eq_true_eq]
  omega
theorem b20_sc {c : Int} {p : Int × Int} (h : b20 p) (hc : c = 2 ∨ c = 3) : okp (scp c p).1 (scp c p).2 = true := by
  unfold b20 at h
  unfold okp bnd scp
  simp only [Bool.and_eq_true, decide_eq_true_eq]
  rcases hc with rfl | rfl <;> omega
theorem okL_of {L : List (Int × Int)} (h : ∀ i, i < L.length → okp (ptA L i).1 (ptA L i).2 = true) : okL L = true := by
  unfold okL
  rw [List.all_eq_true]
  intro p hp
  obtain ⟨i, hi, rfl⟩ := List.mem_iff_getElem.1 hp
  have := h i hi
  rw [ptA_at hi] at this
  exact this
theorem okL_map {T : Int × Int → Int × Int} {L : List (Int × Int)} (h : ∀ i, i < L.length → okp (T (ptA L i)).1 (T (ptA L i)).2 = true) : okL (L.map T) = true :=
  okL_of fun i hi => by
    rw [List.length_map] at hi
    rw [pt_map T L hi]; exact h i hi
theorem areaI {L : List (Int × Int)} (hok : okL L = true) : areaV L = if L.length < 3 then 0 else sm (fun i => crI (ptA L 0).1 (ptA L 0).2 (ptA L i).1 (ptA L i).2 (nxA L i).1 (nxA L i).2) L.length := by
  unfold areaV
  rw [hok]
  simp only [if_true]
  rw [sm_up]
  congr 1
  apply sm_congr
  intro i hi
  unfold arE edA nxA
  exact crV_ok (by unfold ok3; simp [okL_pt hok])
theorem areaV_in (L : List (Int × Int)) (hL : L.length ≤ 40) : -90071992547409920 ≤ areaV L ∧ areaV L ≤ 90071992547409920 := by
  unfold areaV
  split
  · omega
  · split
    · rw [sm_up]
      have := sm_in (fun i => arE (ptA L 0) (edA L i)) 2251799813685248 (fun i => crV_in _ _ _ _ _ _) L.length
      omega
    · omega
theorem area_tr {k u v : Int} {L : List (Int × Int)} (h1 : okL L = true) (h2 : okL (L.map (tr k u v)) = true) : areaV (L.map (tr k u v)) = k * k * areaV L := by
  rw [areaI h1, areaI h2, List.length_map]
  by_cases h : L.length < 3
  · rw [if_pos h, if_pos h]; simp
  · rw [if_neg h, if_neg h, ← sm_mul]
    apply sm_congr
    intro i hi
    rw [pt_map _ L hi, nx_map _ L hi, pt_map _ L (show 0 < L.length by omega), tr_cr]
theorem win_tr {k u v : Int} (hk : few k) {L : List (Int × Int)} {p : Int × Int} (h1 : okL L = true) (h2 : okL (L.map (tr k u v)) = true) (h3 : okp p.1 p.2 = true) (h4 : okp (tr k u v p).1 (tr k u v p).2 = true) :
    winN (L.map (tr k u v)) (tr k u v p) = winN L p ∧ winOk (L.map (tr k u v)) (tr k u v p) = winOk L p := by
  obtain ⟨a1, a2⟩ := wind_doc h1 h3
  obtain ⟨b1, b2⟩ := wind_doc h2 h4
  have a3 := wind_on (L := L) h1 h3
  have b3 := wind_on (L := L.map (tr k u v)) h2 h4
  rw [onE_ex] at a1 a2 a3 b1 b2 b3
  have e := eex_map (tr k u v) (fun a b => onI a.1 a.2 b.1 b.2 (tr k u v p).1 (tr k u v p).2) (fun a b => onI a.1 a.2 b.1 b.2 p.1 p.2) (fun a b => tr_onI hk a b p) L
  rw [e] at b1 b2 b3
  refine ⟨?_, by rw [Bool.eq_iff_iff, a1, b1]⟩
  by_cases hx : eex (fun a b => onI a.1 a.2 b.1 b.2 p.1 p.2) L
  · rw [a3 hx, b3 hx]
  · rw [a2 hx, b2 hx, rwE_es, rwE_es]
    exact esum_map (tr k u v) _ _ (fun a b => tr_rab hk a b p) L
theorem bes_tr (u v : Int) {L : List (Int × Int)} {a b : Int × Int} (h1 : okL L = true) (h2 : okL (L.map (tr 1 u v)) = true) (h3 : okp a.1 a.2 = true) (h4 : okp (tr 1 u v a).1 (tr 1 u v a).2 = true) (h5 : okp b.1 b.2 = true) (h6 : okp (tr 1 u v b).1 (tr 1 u v b).2 = true) :
    besN (L.map (tr 1 u v)) (tr 1 u v a) (tr 1 u v b) = besN L a b ∧ besOk (L.map (tr 1 u v)) (tr 1 u v a) (tr 1 u v b) = besOk L a b := by
  by_cases hab : a.1 = b.1 ∧ a.2 = b.2
  · have m1 : besMay L a b = false := by unfold besMay eqB; simp [hab]
    have m2 : besMay (L.map (tr 1 u v)) (tr 1 u v a) (tr 1 u v b) = false := by unfold besMay; rw [tr_eqB (Or.inl rfl)]; unfold eqB; simp [hab]
    rw [(bes_no m1).1, (bes_no m1).2, (bes_no m2).1, (bes_no m2).2]
    exact ⟨rfl, rfl⟩
  · obtain ⟨a1, a2, a3⟩ := bes_doc h1 h3 h5 (a := a) (b := b) (by omega)
    obtain ⟨b1, b2, b3⟩ := bes_doc h2 h4 h6 (a := tr 1 u v a) (b := tr 1 u v b) (by unfold tr; dsimp only; omega)
    rw [rhE_ex] at a1 a2 a3 b1 b2 b3
    have e := eex_map (tr 1 u v) (rbH (tr 1 u v a) (tr 1 u v b)) (rbH a b) (fun p q => tr_rbH u v a b p q) L
    rw [e] at b1 b2 b3
    refine ⟨?_, by rw [Bool.eq_iff_iff, a1, b1]⟩
    by_cases hx : eex (rbH a b) L
    · rw [a3 hx, b3 hx]
    · rw [a2 hx, b2 hx, rbE_es, rbE_es]
      exact esum_map (tr 1 u v) _ _ (fun p q => tr_rabl u v a b p q) L
theorem sim_tr {k u v : Int} (hk : few k) {L : List (Int × Int)} (h1 : okL L = true) (h2 : okL (L.map (tr k u v)) = true) : simB (L.map (tr k u v)) = simB L := by
  rw [Bool.eq_iff_iff, sim_iff, sim_iff]
  unfold rsimP
  rw [h1, h2, List.length_map]
  refine and_congr_right fun h3 => and_congr_right fun _ => and_congr ?_ ?_
  · refine forall_congr' fun i => forall_congr' fun hi => forall_congr' fun j => forall_congr' fun hj => ?_
    rw [pt_map _ L hi, pt_map _ L (show j < L.length by omega)]
    refine not_congr ?_
    unfold tr
    constructor
    · intro h
      injection h with e1 e2
      exact Prod.ext (by rcases hk with rfl | rfl | rfl <;> omega) (by rcases hk with rfl | rfl | rfl <;> omega)
    · intro h; rw [h]
  · refine forall_congr' fun i => forall_congr' fun hi => forall_congr' fun j => forall_congr' fun hj => ?_
    have hn : ∀ x, (x + 1) % L.length < L.length := fun x => Nat.mod_lt _ (by omega)
    unfold clsE
    rw [List.length_map, pt_map _ L hi, pt_map _ L (show j < L.length by omega), pt_map _ L (hn i), pt_map _ L (hn j), tr_cls hk]
end Go.Proofs.Ytkibjbbhiclkmaa

namespace Go.Proofs.Ytkibjbbhiclkmaa
open Go.RowKit Go.Sort

theorem FourP.size {w W : World} {a b p e : Int × Int} (h : FourP w W a b p e) : w.heap.size + 4 ≤ W.heap.size := World.block_lt_of_cell? W ⟨w.heap.size + 1 + 1 + 1, 0, none⟩ h.e0
/-- The cells of four boxed points, in worlds behind w1. -/
def FourC (w w1 W : World) (a b p e : Int × Int) : Prop :=
  W.cell? ⟨w.heap.size, 0, none⟩ = some (.int .i64 a.1) ∧ W.cell? ⟨w.heap.size, 1, none⟩ = some (.int .i64 a.2) ∧ W.cell? ⟨w.heap.size + 1, 0, none⟩ = some (.int .i64 b.1) ∧ W.cell? ⟨w.heap.size + 1, 1, none⟩ = some (.int .i64 b.2) ∧
  W.cell? ⟨w.heap.size + 1 + 1, 0, none⟩ = some (.int .i64 p.1) ∧ W.cell? ⟨w.heap.size + 1 + 1, 1, none⟩ = some (.int .i64 p.2) ∧ W.cell? ⟨w.heap.size + 1 + 1 + 1, 0, none⟩ = some (.int .i64 e.1) ∧ W.cell? ⟨w.heap.size + 1 + 1 + 1, 1, none⟩ = some (.int .i64 e.2) ∧ Below w1.heap.size w1 W
theorem FourC.of {w w1 W : World} {a b p e : Int × Int} (h : FourP w w1 a b p e) (hb : Below w1.heap.size w1 W) : FourC w w1 W a b p e := by
  have k := h.later hb
  exact ⟨k.a0, k.a1, k.b0, k.b1, k.p0, k.p1, k.e0, k.e1, hb⟩
theorem FourC.below {w w1 W : World} {a b p e : Int × Int} (h : FourC w w1 W a b p e) : Below w1.heap.size w1 W := h.2.2.2.2.2.2.2.2
theorem FourC.drew {w w1 W : World} {a b p e : Int × Int} (k : FourP w w1 a b p e) (h : FourC w w1 W a b p e) : FourC w w1 W.drew a b p e := .of k h.below.drew
theorem FourC.alloc {w w1 W : World} {a b p e : Int × Int} (k : FourP w w1 a b p e) (h : FourC w w1 W a b p e) (o : Obj) : FourC w w1 (W.alloc o) a b p e := .of k (h.below.alloc h.below.size _)
theorem FourC.grown {w w1 W W' : World} {a b p e : Int × Int} {row : Option Nat} (k : FourP w w1 a b p e) (h : FourC w w1 W a b p e) (hg : W.grownBy W' row) (hr : ∀ q, row = some q → w1.heap.size ≤ q) : FourC w w1 W' a b p e :=
  .of k (h.below.grown hg h.below.size (fun q hq => hr q hq))
/-- A slice of nothing, in a block of its own. -/
theorem own_zero {W : World} {base k : Nat} {T : TypeId} (hb : base ≤ k) (h : W.heap[k]? = some (.cells #[] T)) : W.ownsRow base T 2 (.slice (some ⟨k, 0, none⟩) 0 0) 0 [] :=
  ⟨rfl, .inr ⟨k, 0, _, rfl, hb, h, Nat.le_refl _, by unfold maxLen; omega, rfl, rfl⟩⟩
def cel4 (a b p e : Int × Int) : List Value := [.int .i64 a.1, .int .i64 a.2, .int .i64 b.1, .int .i64 b.2, .int .i64 p.1, .int .i64 p.2, .int .i64 e.1, .int .i64 e.2]
theorem own_four {W : World} {base k : Nat} {T : TypeId} {a b p e : Int × Int} (hb : base ≤ k) (h : W.heap[k]? = some (.cells #[.int .i64 a.1, .int .i64 a.2, .int .i64 b.1, .int .i64 b.2, .int .i64 p.1, .int .i64 p.2, .int .i64 e.1, .int .i64 e.2] T)) : W.ownsRow base T 2 (.slice (some ⟨k, 0, none⟩) 4 4) 4 (cel4 a b p e) :=
  ⟨rfl, .inr ⟨k, 4, _, rfl, hb, h, Nat.le_refl _, by unfold maxLen; omega, rfl, rfl⟩⟩
theorem SrcV.alloc {W : World} {v : Value} {n : Nat} {ys : List Value} (h : SrcV W v n ys) (o : Obj) : SrcV (W.alloc o) v n ys := h.keep (b1 _ _)
theorem SrcV.drew {W : World} {v : Value} {n : Nat} {ys : List Value} (h : SrcV W v n ys) : SrcV W.drew v n ys := h
def ptsL (L : List (Int × Int)) : List Value := pts (fun i => (ptA L i).1) (fun i => (ptA L i).2) L.length
theorem pl_srcV {W : World} {v : Value} {L : List (Int × Int)} (h : PL W v L) : SrcV W v L.length (ptsL L) := by
  obtain ⟨q, c, rfl, hc, hi⟩ := h
  refine ⟨q, c, rfl, fun h0 => ?_⟩
  obtain ⟨b, off, rfl, _, _, _⟩ := hi 0 (by omega)
  refine ⟨b, off, rfl, fun j u hj => ?_⟩
  obtain ⟨i, hin, hx⟩ := pts_get hj
  obtain ⟨b', off', e, hbl, c0, c1⟩ := hi i hin
  obtain ⟨rfl, rfl⟩ : b' = b ∧ off' = off := by injection e with e; injection e with e1 e2; exact ⟨e1.symm, e2.symm⟩
  rw [ptA_at hin] at hx
  rw [add_at]
  rcases hx with ⟨rfl, rfl⟩ | ⟨rfl, rfl⟩
  · exact c0
  · rw [← Nat.add_assoc]; exact c1
theorem ptsL_cells {L : List (Int × Int)} : ∀ u ∈ ptsL L, u.oneCell' = true := by
  intro u hu
  obtain ⟨j, hj⟩ := List.mem_iff_getElem?.1 hu
  obtain ⟨i, _, ⟨_, rfl⟩ | ⟨_, rfl⟩⟩ := pts_get hj <;> rfl
theorem cel4_cells {a b p e : Int × Int} : ∀ u ∈ cel4 a b p e, u.oneCell' = true := by
  intro u hu
  unfold cel4 at hu
  simp at hu
  rcases hu with rfl | rfl | rfl | rfl | rfl | rfl | rfl | rfl <;> rfl
theorem ptsL_four (L : List (Int × Int)) (a b p e : Int × Int) : [] ++ ptsL L ++ cel4 a b p e = ptsL (L ++ [a, b, p, e]) := by
  have h : ∀ (L : List (Int × Int)) (x : Int × Int), ptsL (L ++ [x]) = ptsL L ++ [.int .i64 x.1, .int .i64 x.2] := by
    intro L x
    unfold ptsL
    rw [List.length_append, List.length_singleton, pts_succ]
    have e1 : ptA (L ++ [x]) L.length = x := by rw [ptA_at (by simp)]; simp
    have e2 : ∀ i, i < L.length → ptA (L ++ [x]) i = ptA L i := fun i hi => by rw [ptA_at (by simp; omega), ptA_at hi, List.getElem_append_left hi]
    rw [e1]
    congr 1
    unfold pts
    rw [List.flatMap_def, List.flatMap_def]
    congr 1
    apply List.map_congr_left
    intro i hi
    dsimp only
    rw [e2 i (List.mem_range.1 hi)]
  rw [show L ++ [a, b, p, e] = L ++ [a] ++ [b] ++ [p] ++ [e] from by simp, h, h, h, h]
  simp [cel4]
theorem some_b20 {M : List (Int × Int)} {a b p e : Int × Int} (h : ∀ j, j < (M ++ [a, b, p, e]).length → b20 (ptA (M ++ [a, b, p, e]) j)) : (∀ i, i < M.length → b20 (ptA M i)) ∧ b20 a ∧ b20 b ∧ b20 p ∧ b20 e := by
  have hl : (M ++ [a, b, p, e]).length = M.length + 4 := by simp
  have hx : ∀ k, k < 4 → ptA (M ++ [a, b, p, e]) (M.length + k) = [a, b, p, e].getD k (0, 0) := by
    intro k hk
    unfold ptA
    rw [List.getD_eq_getElem?_getD, List.getD_eq_getElem?_getD, List.getElem?_append_right (by omega), Nat.add_sub_cancel_left]
  refine ⟨fun i hi => ?_, ?_, ?_, ?_, ?_⟩
  · have := h i (by omega)
    rw [ptA_at (show i < (M ++ [a, b, p, e]).length by omega), List.getElem_append_left hi, ← ptA_at hi] at this
    exact this
  · have := h (M.length + 0) (by omega); rw [hx 0 (by omega)] at this; exact this
  · have := h (M.length + 1) (by omega); rw [hx 1 (by omega)] at this; exact this
  · have := h (M.length + 2) (by omega); rw [hx 2 (by omega)] at this; exact this
  · have := h (M.length + 3) (by omega); rw [hx 3 (by omega)] at this; exact this
set_option maxRecDepth 100000 in
set_option maxHeartbeats 1000000 in
theorem lmoved_any (p t : Int × Int) (w : World) (hp : b20 p) (ht : b20 t) : Calls Try.prog 37 #[.agg #[.int .i64 p.1, .int .i64 p.2], .agg #[.int .i64 t.1, .int .i64 t.2]] w
    fun e w' => e = .returned (.agg #[.int .i64 (mvp t p).1, .int .i64 (mvp t p).2]) ∧ Below w.heap.size w w' := by
  unfold b20 at hp ht
  have x1 : IntKind.i64.wrap (p.1 + t.1) = p.1 + t.1 := IntWalk.i64_in _ (by omega)
  have x2 : IntKind.i64.wrap (p.2 + t.2) = p.2 + t.2 := IntWalk.i64_in _ (by omega)
  clear hp ht
  unfold mvp
  dsimp only
  go_enter Try.func37, Try.ntmps37
  go_wp2
  exact bodyPost_ret (v := .agg #[.int .i64 (p.1 + t.1), .int .i64 (p.2 + t.2)]) (by simp [results, Try.results37, go_sem, *]) rfl ⟨rfl, b3 _ _ _ _⟩
/-- What Moved, Scaled and the law's numbers come to. -/
structure MvF (M : List (Int × Int)) (p a b t : Int × Int) (d : Int) : Prop where
  w1 : winN (M.map (mvp t)) (mvp t p) = winN M p ∧ winOk (M.map (mvp t)) (mvp t p) = winOk M p
  w2 : winN (M.map (scp d)) (d * p.1, d * p.2) = winN M p ∧ winOk (M.map (scp d)) (d * p.1, d * p.2) = winOk M p
  b1 : besN (M.map (mvp t)) (mvp t a) (mvp t b) = besN M a b ∧ besOk (M.map (mvp t)) (mvp t a) (mvp t b) = besOk M a b
  a1 : areaV (M.map (mvp t)) = areaV M
  a2 : areaV (M.map (scp d)) = d * d * areaV M
  s1 : simB (M.map (mvp t)) = simB M
  s2 : simB (M.map (scp d)) = simB M
  x1 : IntKind.i64.wrap (d * d) = d * d
  x2 : IntKind.i64.wrap (d * d * areaV M) = d * d * areaV M
  x3 : IntKind.i64.wrap (d * p.1) = d * p.1
  x4 : IntKind.i64.wrap (d * p.2) = d * p.2
theorem mvF {M : List (Int × Int)} {p a b t : Int × Int} {d : Int} (hd : d = 2 ∨ d = 3) (hM : M.length ≤ 40) (h : ∀ i, i < M.length → b20 (ptA M i)) (hp : b20 p) (ha : b20 a) (hb : b20 b) (ht : b20 t) : MvF M p a b t d := by
  have ok := okL_of fun i hi => b20_ok (h i hi)
  have ok1 : okL (M.map (mvp t)) = true := okL_map fun i hi => b20_mv (h i hi) ht
  have ok2 : okL (M.map (scp d)) = true := okL_map fun i hi => b20_sc (h i hi) hd
  have p1 := b20_mv hp ht
  have a1 := b20_mv ha ht
  have b1 := b20_mv hb ht
  have p2 := b20_sc hp hd
  have hk : few d := by rcases hd with rfl | rfl; exact Or.inr (Or.inl rfl); exact Or.inr (Or.inr rfl)
  have e2 : (d * p.1, d * p.2) = scp d p := by unfold scp; rw [Int.mul_comm p.1, Int.mul_comm p.2]
  have hA := areaV_in M hM
  have hpb := hp
  unfold b20 at hpb
  rw [mvp_tr] at ok1 p1 a1 b1
  rw [scp_tr] at ok2 p2 e2
  refine ⟨?_, ?_, ?_, ?_, ?_, ?_, ?_, ?_, ?_, ?_, ?_⟩
  · rw [mvp_tr]; exact win_tr (Or.inl rfl) ok ok1 (b20_ok hp) p1
  · rw [e2, scp_tr]; exact win_tr hk ok ok2 (b20_ok hp) p2
  · rw [mvp_tr]; exact bes_tr _ _ ok ok1 (b20_ok ha) a1 (b20_ok hb) b1
  · rw [mvp_tr, area_tr ok ok1]; omega
  · rw [scp_tr, area_tr ok ok2]
  · rw [mvp_tr]; exact sim_tr (Or.inl rfl) ok ok1
  · rw [scp_tr]; exact sim_tr hk ok ok2
  · exact IntWalk.i64_in _ (by rcases hd with rfl | rfl <;> omega)
  · exact IntWalk.i64_in _ (by rcases hd with rfl | rfl <;> omega)
  · exact IntWalk.i64_in _ (by rcases hd with rfl | rfl <;> omega)
  · exact IntWalk.i64_in _ (by rcases hd with rfl | rfl <;> omega)
/-- What the law's list of points is. -/
def SomeS (w : World) (a b p e : Int × Int) (u : Value) (M : List (Int × Int)) (s : Value) (W : World) : Prop := FourP w W a b p e ∧ PL W u M ∧ PL W s (M ++ [a, b, p, e])
theorem SomeS.later {w W w1 : World} {a b p e : Int × Int} {u s : Value} {M : List (Int × Int)} (h : SomeS w a b p e u M s W) (hb : Below W.heap.size W w1) : SomeS w a b p e u M s w1 := ⟨h.1.later hb, h.2.1.keep hb, h.2.2.keep hb⟩
theorem some_of {w w1 W : World} {a b p e : Int × Int} {u v2 : Value} {M : List (Int × Int)} (h1 : FourP w w1 a b p e) (h2 : PL w1 u M) (hb : Below w1.heap.size w1 W) (ho : W.ownsRow w1.heap.size 24 2 v2 (0 + M.length + 4) ([] ++ ptsL M ++ cel4 a b p e)) : SomeS w a b p e u M v2 W := by
  refine ⟨h1.later hb, h2.keep hb, ?_⟩
  rw [ptsL_four] at ho
  have e : 0 + M.length + 4 = (M ++ [a, b, p, e]).length := by simp
  rw [e] at ho
  exact pl_own ho

set_option maxRecDepth 100000 in
set_option maxHeartbeats 4000000 in
theorem ringMoves_walk (v : Value) (L : List (Int × Int)) (p a b t : Int × Int) (c : Int) (w : World) (hn : L.length ≤ 9223372036854775807) (hI : PL w v L) :
    Calls Try.prog 7 #[v, .agg #[.int .i64 p.1, .int .i64 p.2], .agg #[.int .i64 a.1, .int .i64 a.2], .agg #[.int .i64 b.1, .int .i64 b.2], .agg #[.int .i64 t.1, .int .i64 t.2], .int .i64 c] w fun e w' => e = .returned (.bool true) ∧ Below w.heap.size w w' := by
  have hmx : Try.prog.follows .mixedOrders = true := by kernel_rfl
  obtain ⟨i0, hi, hz0, hz1, hz2⟩ := info_parts infoAP
  have HT : Hid (FourP w ((((w.alloc (.cells #[.int .i64 p.1, .int .i64 p.2] 24)).alloc (.cells #[.int .i64 a.1, .int .i64 a.2] 24)).alloc (.cells #[.int .i64 b.1, .int .i64 b.2] 24)).alloc (.cells #[.int .i64 t.1, .int .i64 t.2] 24)) p a b t) :=
    Lib.hid ⟨by go_simp, by go_simp, by go_simp, by go_simp, by go_simp, by go_simp, by go_simp, by go_simp, (b2 _ _ _).trans ((b2 _ _ _).mono (by simp <;> omega))⟩
  have hcut := cut3_any (hI.keep HT.out.below) hn
  have hml : (L.take 40).length ≤ 40 := by rw [List.length_take]; omega
  generalize L.take 40 = M at *
  have HM := Lib.hid hcut
  clear hcut hI hn
  go_enter Try.func7, Try.ntmps7
  go_wp2_with fail
  refine HM.out.mono ?_
  rintro e w' ⟨u, rfl, hu, rfl⟩
  have HU := Lib.hid hu
  clear hu HM
  have hd : wrap64 (2 + wrap64 ((IntKind.u64.wrap c).tmod 2)) = 2 ∨ wrap64 (2 + wrap64 ((IntKind.u64.wrap c).tmod 2)) = 3 := by
    have h0 : 0 ≤ IntKind.u64.wrap c := by rw [IntKind.wrap_u64]; omega
    rw [Int.tmod_eq_emod_of_nonneg h0]
    generalize IntKind.u64.wrap c = z
    unfold wrap64
    omega
  go_upto_region 3 with fail
  generalize wrap64 (2 + wrap64 ((IntKind.u64.wrap c).tmod 2)) = d at *
  generalize IntKind.u64.wrap c = z at *
  have HD := Lib.hid hd
  clear hd
  have hS4 := FourC.of HT.out (Below.refl _ _)
  have HSr := Lib.hid (pl_srcV HU.out)
  have hz4 := HT.out.size
  unfold FourC at hS4
  generalize (((w.alloc (.cells #[.int .i64 p.1, .int .i64 p.2] 24)).alloc (.cells #[.int .i64 a.1, .int .i64 a.2] 24)).alloc (.cells #[.int .i64 b.1, .int .i64 b.2] 24)).alloc (.cells #[.int .i64 t.1, .int .i64 t.2] 24) = w1 at *
  have HK := HT.out
  go_cut [13] (fun s wx => Hid (SomeS w p a b t u M s wx))
  case first =>
    go_region_held3 (fun W => W.cell? ⟨w.heap.size, 0, none⟩ = some (.int .i64 p.1) ∧ W.cell? ⟨w.heap.size, 1, none⟩ = some (.int .i64 p.2) ∧ W.cell? ⟨w.heap.size + 1, 0, none⟩ = some (.int .i64 a.1) ∧ W.cell? ⟨w.heap.size + 1, 1, none⟩ = some (.int .i64 a.2) ∧ W.cell? ⟨w.heap.size + 1 + 1, 0, none⟩ = some (.int .i64 b.1) ∧ W.cell? ⟨w.heap.size + 1 + 1, 1, none⟩ = some (.int .i64 b.2) ∧ W.cell? ⟨w.heap.size + 1 + 1 + 1, 0, none⟩ = some (.int .i64 t.1) ∧ W.cell? ⟨w.heap.size + 1 + 1 + 1, 1, none⟩ = some (.int .i64 t.2) ∧ Below w1.heap.size w1 W) (first | assumption | exact FourC.drew HK hS4 | exact FourC.alloc HK (by assumption) _) (first | ((refine step_append_srcV (by rfl) (.tmp 34) (.tmp 35) 22 (by rfl) w1.heap.size 24 i0 (.agg #[.int .i64 0, .int .i64 0]) 2 16 Try.underlying22 hi hz0 hz1 hz2 (by rfl) (by decide) _ 0 [] (by rfl) (own_zero (by first | omega | (simp <;> omega)) (by repeat (first | (exact hp_new (by first | rfl | (simp; done))) | (refine hp_alloc ?_)))) u M.length (ptsL M) (by rfl) (by first | exact HSr.out.drew.alloc _ | exact (HSr.out.drew.alloc _).alloc _) (pts_length _ _ _) ptsL_cells (by unfold maxLen; omega) (by omega) (by first | omega | (simp <;> omega)) ?_); intro v1 wB ho1 hgB; have hS6 := FourC.grown HK (by assumption) hgB (by intro q hq; simp only [Value.ownBlock, Option.some.injEq] at hq; subst hq; first | omega | (simp <;> omega))) | ((refine step_append_srcV (by rfl) (.tmp 36) (.tmp 41) 22 (by rfl) w1.heap.size 24 i0 (.agg #[.int .i64 0, .int .i64 0]) 2 16 Try.underlying22 hi hz0 hz1 hz2 (by rfl) (by decide) v1 (0 + M.length) ([] ++ ptsL M) (by rfl) (by first | exact ho1 | exact ho1.alloc _) _ 4 (cel4 p a b t) (by rfl) (own_srcV (base := 0) (own_four (Nat.zero_le _) (by repeat (first | (exact hp_new (by first | rfl | (simp; done))) | (refine hp_grown hgB ?_ (by simp only [Value.ownBlock, ne_eq, Option.some.injEq]; simp <;> omega)) | (refine hp_alloc ?_))))) (by rfl) cel4_cells (by unfold maxLen; omega) (by omega) (by have := hgB.size; simp at this ⊢; omega) ?_); intro v2 wC ho2 hgC; have hS7 := FourC.grown HK (by assumption) hgC (fun q hq => (own_block ho1 hq).1)))
    all_goals
      have HF := Lib.hid (some_of HK HU.out (FourC.below hS7) ho2)
      clear hS7 ho2 hgC
      go_wp2_with fail
      go_meet
      exact HF
  case rest =>
    have HS := hcut
    have hsl : (M ++ [p, a, b, t]).length = M.length + 4 := by simp
    have hs44 : (M ++ [p, a, b, t]).length ≤ 44 := by omega
    have HSL := Lib.hid hsl
    clear hcut hsl hS4 HSr HK HU HT hz4 hi hz0 hz1 hz2
    obtain ⟨q, cap, rfl, hcap, _⟩ := HS.out.2.2
    generalize hSd : M ++ [p, a, b, t] = S at *
    have HSd := Lib.hid hSd
    clear hSd
    go_wp2_with fail
    go_loopg [14] S.length (fun gk i wx => ∃ k : Nat, k + gk = S.length ∧ i = .int .i64 (k : Int) ∧ Hid (FourP w wx p a b t ∧ PL wx u M ∧ PL wx (.slice q S.length cap) S) ∧ Hid (∀ j, j < k → b20 (ptA S j)))
    case atStart => exact ⟨0, by omega, rfl, Lib.hid (by have h := HS.out; unfold SomeS at h; rw [HSd.out] at h; exact h), Lib.hid (fun j h => by omega)⟩
    case round =>
      obtain ⟨k, hkg, rfl, HB, HN⟩ := hrel
      cases gk with
      | zero =>
        have hkz : ¬ ((k : Int) < (S.length : Int)) := by omega
        have hk : k = S.length := by omega
        have HF : Hid (∀ j, j < S.length → b20 (ptA S j)) := Lib.hid (by rw [← hk]; exact HN.out)
        clear hk HN
        have HE : Hid (∀ i, i < M.length → b20 (ptA M i)) := Lib.hid (by have h := HF.out; rw [← HSd.out] at h; exact (some_b20 h).1)
        have HE2 : Hid (b20 p ∧ b20 a ∧ b20 b ∧ b20 t) := Lib.hid (by have h := HF.out; rw [← HSd.out] at h; exact (some_b20 h).2)
        have HV := Lib.hid (mvF HD.out hml HE.out HE2.out.1 HE2.out.2.1 HE2.out.2.2.1 HE2.out.2.2.2)
        clear HF HSd HSL HS
        obtain ⟨c0, c1, c2, c3, c4, c5, c6, c7, _⟩ := HB.out.1
        go_wp2_with fail
        refine (moved_any t HB.out.2.1 (by omega) HE.out HE2.out.2.2.2).mono ?_
        rintro e w2 ⟨u2, rfl, hu2, hb2⟩
        have HF2 := Lib.hid (HB.out.1.later hb2)
        have HU2 := Lib.hid (HB.out.2.1.keep hb2)
        have HN2 := Lib.hid hu2
        clear hu2 hb2 c0 c1 c2 c3 c4 c5 c6 c7 HB
        go_wp2_with fail
        refine (scaled_any d HU2.out (by omega) HE.out HD.out).mono ?_
        rintro e w3 ⟨u3, rfl, hu3, hb3⟩
        have HF3 := Lib.hid (HF2.out.later hb3)
        have HU3 := Lib.hid (HU2.out.keep hb3)
        have HN3 := Lib.hid (HN2.out.keep hb3)
        have HM3 := Lib.hid hu3
        clear hu3 hb3 HF2 HU2 HN2
        obtain ⟨q1, k1, rfl, _, _⟩ := HU3.out
        obtain ⟨q2, k2, e2, _, _⟩ := HN3.out
        rw [List.length_map] at e2
        subst e2
        obtain ⟨q3, k3, e3, _, _⟩ := HM3.out
        rw [List.length_map] at e3
        subst e3
        obtain ⟨c0, c1, c2, c3, c4, c5, c6, c7, _⟩ := HF3.out
        go_wp2_with fail
        refine (winding_any _ M p _ (by omega) HU3.out).mono ?_
        rintro e w4 ⟨rfl, hb4⟩
        have HF4 := Lib.hid (HF3.out.later hb4)
        have HU4 := Lib.hid (HU3.out.keep hb4)
        have HN4 := Lib.hid (HN3.out.keep hb4)
        have HM4 := Lib.hid (HM3.out.keep hb4)
        clear hb4 c0 c1 c2 c3 c4 c5 c6 c7 HF3 HU3 HN3 HM3
        obtain ⟨c0, c1, c2, c3, c4, c5, c6, c7, _⟩ := HF4.out
        go_wp2_with fail
        refine (lmoved_any p t _ HE2.out.1 HE2.out.2.2.2).mono ?_
        rintro e w5 ⟨rfl, hb5⟩
        have HF5 := Lib.hid (HF4.out.later hb5)
        have HU5 := Lib.hid (HU4.out.keep hb5)
        have HN5 := Lib.hid (HN4.out.keep hb5)
        have HM5 := Lib.hid (HM4.out.keep hb5)
        clear hb5 c0 c1 c2 c3 c4 c5 c6 c7 HF4 HU4 HN4 HM4
        go_wp2_with fail
        refine (winding_any _ (M.map (mvp t)) (mvp t p) _ (by rw [List.length_map]; omega) HN5.out).mono ?_
        rintro e w6 ⟨rfl, hb6⟩
        rw [HV.out.w1.1, HV.out.w1.2]
        have HF6 := Lib.hid (HF5.out.later hb6)
        have HU6 := Lib.hid (HU5.out.keep hb6)
        have HN6 := Lib.hid (HN5.out.keep hb6)
        have HM6 := Lib.hid (HM5.out.keep hb6)
        clear hb6 HF5 HU5 HN5 HM5
        obtain ⟨c0, c1, c2, c3, c4, c5, c6, c7, _⟩ := HF6.out
        have x3 := HV.out.x3
        have x4 := HV.out.x4
        go_wp2_with fail
        refine (winding_any _ (M.map (scp d)) (d * p.1, d * p.2) _ (by rw [List.length_map]; omega) HM6.out).mono ?_
        rintro e w7 ⟨rfl, hb7⟩
        rw [HV.out.w2.1, HV.out.w2.2]
        have HF7 := Lib.hid (HF6.out.later hb7)
        have HU7 := Lib.hid (HU6.out.keep hb7)
        have HN7 := Lib.hid (HN6.out.keep hb7)
        have HM7 := Lib.hid (HM6.out.keep hb7)
        clear hb7 c0 c1 c2 c3 c4 c5 c6 c7 x3 x4 HF6 HU6 HN6 HM6
        obtain ⟨c0, c1, c2, c3, c4, c5, c6, c7, _⟩ := HF7.out
        go_wp2_with fail
        refine (beside_any _ M a b _ (by omega) HU7.out).mono ?_
        rintro e w8 ⟨rfl, hb8⟩
        have HF8 := Lib.hid (HF7.out.later hb8)
        have HU8 := Lib.hid (HU7.out.keep hb8)
        have HN8 := Lib.hid (HN7.out.keep hb8)
        have HM8 := Lib.hid (HM7.out.keep hb8)
        clear hb8 c0 c1 c2 c3 c4 c5 c6 c7 HF7 HU7 HN7 HM7
        generalize winN M p = wn at *
        generalize winOk M p = wo at *
        obtain ⟨c0, c1, c2, c3, c4, c5, c6, c7, _⟩ := HF8.out
        have r2 := fun d os => cell_regrown c2 d os
        have r3 := fun d os => cell_regrown c3 d os
        have r4 := fun d os => cell_regrown c4 d os
        have r5 := fun d os => cell_regrown c5 d os
        have r6 := fun d os => cell_regrown c6 d os
        have r7 := fun d os => cell_regrown c7 d os
        have KA : Hid (∀ (d : Nat) (os : Array Obj), Calls Try.prog 37 #[.agg #[.int .i64 a.1, .int .i64 a.2], .agg #[.int .i64 t.1, .int .i64 t.2]] (grow (redrawn w8 d) os) fun e w'' => e = .returned (.agg #[.int .i64 (mvp t a).1, .int .i64 (mvp t a).2]) ∧ ∃ p : Regrown, w'' = grow (redrawn w8 p.d) p.os) :=
          Lib.hid (fun d os => Calls.regrown_of (lmoved_any a t _ HE2.out.2.1 HE2.out.2.2.2))
        have KB : Hid (∀ (d : Nat) (os : Array Obj), Calls Try.prog 37 #[.agg #[.int .i64 b.1, .int .i64 b.2], .agg #[.int .i64 t.1, .int .i64 t.2]] (grow (redrawn w8 d) os) fun e w'' => e = .returned (.agg #[.int .i64 (mvp t b).1, .int .i64 (mvp t b).2]) ∧ ∃ p : Regrown, w'' = grow (redrawn w8 p.d) p.os) :=
          Lib.hid (fun d os => Calls.regrown_of (lmoved_any b t _ HE2.out.2.2.1 HE2.out.2.2.2))
        have KC : Hid (∀ (d : Nat) (os : Array Obj), Calls Try.prog 20 #[.slice q2 M.length k2, .agg #[.int .i64 (mvp t a).1, .int .i64 (mvp t a).2], .agg #[.int .i64 (mvp t b).1, .int .i64 (mvp t b).2]] (grow (redrawn w8 d) os) fun e w'' => e = .returned (.tuple #[.int .i64 (besN M a b), .bool (besOk M a b)]) ∧ ∃ p : Regrown, w'' = grow (redrawn w8 p.d) p.os) :=
          Lib.hid (fun d os => Calls.regrown_of (by
            rw [← HV.out.b1.1, ← HV.out.b1.2]
            exact beside_any _ (M.map (mvp t)) (mvp t a) (mvp t b) _ (by rw [List.length_map]; omega) (HN8.out.keep (below_regrown w8 d os))))
        clear c0 c1 c2 c3 c4 c5 c6 c7
        generalize besN M a b = bn at *
        generalize besOk M a b = bo at *
        generalize (mvp t a).1 = xa at *
        generalize (mvp t a).2 = ya at *
        generalize (mvp t b).1 = xb at *
        generalize (mvp t b).2 = yb at *
        go_wp2_with fail
        refine wp_region_quiet_below (by assumption) (by kernel_rfl) ?_
        repeat (go_big_quiet_step (first | (go_at_call 37; first | with_reducible exact KA.out _ _ | with_reducible exact KB.out _ _) | (go_at_call 20; with_reducible exact KC.out _ _)))
        refine wpQuiet_nil ?_
        rintro _ ⟨pg, rfl⟩
        have hb9 := below_regrown w8 pg.d pg.os
        clear r2 r3 r4 r5 r6 r7 KA KB KC
        generalize grow (redrawn w8 pg.d) pg.os = w9 at *
        have HB9 := Lib.hid (HF8.out.below.trans (hb9.mono HF8.out.below.size))
        have HU9 := Lib.hid (HU8.out.keep hb9)
        have HN9 := Lib.hid (HN8.out.keep hb9)
        have HM9 := Lib.hid (HM8.out.keep hb9)
        clear hb9 HF8 HU8 HN8 HM8
        have HA1 := Lib.hid HV.out.a1
        have HA2 := Lib.hid HV.out.a2
        have HS1 := Lib.hid HV.out.s1
        have HS2 := Lib.hid HV.out.s2
        have x1 := HV.out.x1
        have x2 := HV.out.x2
        have y1 := HA2.out
        clear y1 HV
        have KN := Lib.hid (fun W (h : PL W (.slice q2 M.length k2) (M.map (mvp t))) => area_any _ (M.map (mvp t)) W (by rw [List.length_map]; omega) h)
        have KM := Lib.hid (fun W (h : PL W (.slice q3 M.length k3) (M.map (scp d))) => area_any _ (M.map (scp d)) W (by rw [List.length_map]; omega) h)
        have KU := Lib.hid (fun W (h : PL W (.slice q1 M.length k1) M) => area_any _ M W (by omega) h)
        have JN := Lib.hid (fun W (h : PL W (.slice q2 M.length k2) (M.map (mvp t))) => simple_any _ (M.map (mvp t)) W (by rw [List.length_map]; omega) h)
        have JM := Lib.hid (fun W (h : PL W (.slice q3 M.length k3) (M.map (scp d))) => simple_any _ (M.map (scp d)) W (by rw [List.length_map]; omega) h)
        have JU := Lib.hid (fun W (h : PL W (.slice q1 M.length k1) M) => simple_any _ M W (by omega) h)
        rw [HA1.out] at KN
        rw [HA2.out] at KM
        rw [HS1.out] at JN
        rw [HS2.out] at JM
        clear HA1 HA2 HS1 HS2
        generalize areaV M = av at *
        generalize simB M = sb at *
        go_wp2_with fail
        refine (known3_yes _).mono ?_
        rintro e w10 ⟨rfl, hb⟩
        have HB10 := Lib.hid (HB9.out.trans (hb.mono HB9.out.size))
        have HU10 := Lib.hid (HU9.out.keep hb)
        have HN10 := Lib.hid (HN9.out.keep hb)
        have HM10 := Lib.hid (HM9.out.keep hb)
        clear hb HB9 HU9 HN9 HM9
        go_wp2_with fail
        refine (KN.out _ HN10.out).mono ?_
        rintro e w11 ⟨rfl, hb⟩
        have HB11 := Lib.hid (HB10.out.trans (hb.mono HB10.out.size))
        have HU11 := Lib.hid (HU10.out.keep hb)
        have HN11 := Lib.hid (HN10.out.keep hb)
        have HM11 := Lib.hid (HM10.out.keep hb)
        clear hb HB10 HU10 HN10 HM10
        go_wp2_with fail
        refine (KU.out _ HU11.out).mono ?_
        rintro e w12 ⟨rfl, hb⟩
        have HB12 := Lib.hid (HB11.out.trans (hb.mono HB11.out.size))
        have HU12 := Lib.hid (HU11.out.keep hb)
        have HN12 := Lib.hid (HN11.out.keep hb)
        have HM12 := Lib.hid (HM11.out.keep hb)
        clear hb HB11 HU11 HN11 HM11
        go_wp2_with fail
        refine (KM.out _ HM12.out).mono ?_
        rintro e w13 ⟨rfl, hb⟩
        have HB13 := Lib.hid (HB12.out.trans (hb.mono HB12.out.size))
        have HU13 := Lib.hid (HU12.out.keep hb)
        have HN13 := Lib.hid (HN12.out.keep hb)
        have HM13 := Lib.hid (HM12.out.keep hb)
        clear hb HB12 HU12 HN12 HM12
        go_wp2_with fail
        refine (KU.out _ HU13.out).mono ?_
        rintro e w14 ⟨rfl, hb⟩
        have HB14 := Lib.hid (HB13.out.trans (hb.mono HB13.out.size))
        have HU14 := Lib.hid (HU13.out.keep hb)
        have HN14 := Lib.hid (HN13.out.keep hb)
        have HM14 := Lib.hid (HM13.out.keep hb)
        clear hb HB13 HU13 HN13 HM13
        go_wp2_with fail
        refine (JN.out _ HN14.out).mono ?_
        rintro e w15 ⟨rfl, hb⟩
        have HB15 := Lib.hid (HB14.out.trans (hb.mono HB14.out.size))
        have HU15 := Lib.hid (HU14.out.keep hb)
        have HM15 := Lib.hid (HM14.out.keep hb)
        clear hb HB14 HU14 HN14 HM14
        go_wp2_with fail
        refine (JU.out _ HU15.out).mono ?_
        rintro e w16 ⟨rfl, hb⟩
        have HB16 := Lib.hid (HB15.out.trans (hb.mono HB15.out.size))
        have HU16 := Lib.hid (HU15.out.keep hb)
        have HM16 := Lib.hid (HM15.out.keep hb)
        clear hb HB15 HU15 HM15
        go_wp2_with fail
        refine (JM.out _ HM16.out).mono ?_
        rintro e w17 ⟨rfl, hb⟩
        have HB17 := Lib.hid (HB16.out.trans (hb.mono HB16.out.size))
        have HU17 := Lib.hid (HU16.out.keep hb)
        clear hb HB16 HU16 HM16
        go_wp2_with fail
        refine (JU.out _ HU17.out).mono ?_
        rintro e w18 ⟨rfl, hb⟩
        have HB18 := Lib.hid (HB17.out.trans (hb.mono HB17.out.size))
        clear hb HB17 HU17
        go_wp2_with fail
        go_ret
        exact ⟨ret_bool (by simp), HB18.out⟩
      | succ gr =>
        have hkz : (k : Int) < (S.length : Int) := by omega
        have hkn : k < S.length := by omega
        obtain ⟨_, _, e, _, hi⟩ := HB.out.2.2
        injection e with e1 _ e3
        subst e1; subst e3
        obtain ⟨bb, off, rfl, hbl, c0, c1⟩ := hi k hkn
        clear hi
        have HP := Lib.hid (ptA_at hkn)
        generalize hpt : S[k] = pt at *
        obtain ⟨x, y⟩ := pt
        clear hpt
        dsimp only at c0 c1
        have bad : True := trivial
        clear bad
        obtain ⟨m, m', h1, h2, h3, h4, hm⟩ : ∃ m m' : Int, max x y = m ∧ max y x = m ∧ min x y = m' ∧ min y x = m' ∧ ((m = y ∧ m' = x ∧ x ≤ y) ∨ (m = x ∧ m' = y ∧ y ≤ x)) := ⟨max x y, min x y, rfl, by omega, rfl, by omega, by omega⟩
        have HM := Lib.hid hm
        clear hm
        cases g1 : decide (1048576 < m)
        · cases g2 : decide (m' < -1048576)
          · have HX : Hid (b20 (ptA S k)) := Lib.hid (by
              rw [HP.out]
              have := HM.out
              have := of_decide_eq_false g1
              have := of_decide_eq_false g2
              unfold b20
              dsimp only
              omega)
            go_wp2_with fail
            go_region
            go_wp2_with fail
            go_roundg gr
            case measure => omega
            case rel => exact ⟨k + 1, by omega, by go_num, Lib.hid ⟨HB.out.1.later (Below.refl _ _).drew, HB.out.2.1.keep (Below.refl _ _).drew, HB.out.2.2.keep (Below.refl _ _).drew⟩, Lib.hid (fun j hj => by
              by_cases hjk : j < k
              · exact HN.out j hjk
              · obtain rfl : j = k := by omega
                exact HX.out)⟩
          · go_wp2_with fail
            go_region
            go_wp2_with fail
            refine (known3_yes _).mono ?_
            rintro e w7 ⟨rfl, hb7⟩
            have HB7 := Lib.hid (HB.out.1.below.trans (((Below.refl _ _).drew.trans (hb7.mono (Nat.le_refl _))).mono HB.out.1.below.size))
            clear hb7
            go_wp2_with fail
            go_ret
            exact ⟨rfl, HB7.out⟩
        · go_wp2_with fail
          go_region
          go_wp2_with fail
          refine (known3_yes _).mono ?_
          rintro e w7 ⟨rfl, hb7⟩
          have HB7 := Lib.hid (HB.out.1.below.trans (((Below.refl _ _).drew.trans (hb7.mono (Nat.le_refl _))).mono HB.out.1.below.size))
          clear hb7
          go_wp2_with fail
          go_ret
          exact ⟨rfl, HB7.out⟩
end Go.Proofs.Ytkibjbbhiclkmaa

namespace Go.Proofs.Ytkibjbbhiclkmaa
open Go.ChangeShapes Go.WideShapes Go.ChangeAt Go.RowKit

set_option maxRecDepth 100000 in
theorem ringMoves_lifted (os : Os) (started : os.Started) (H : Type) (enc : TypeId × Value → H) :
    ReturnsInHanded {} Try.checked os 7 .any (Rows.ringMovesSpec.pre6 enc Try.prog Try.f7 Rows.ringMovesRow.domain false) (Rows.ringMovesSpec.post enc Try.prog Try.f7 false true false false) := by
  refine returnsInHanded_of_change (C := Try.checked) Try.own started (by kernel_rfl) Try.func7
    (ChangeSpec.witness6 (enc := enc) (C := Try.checked) false ⟨#[], #[.slice none 0 0, .agg #[.int .i64 0, .int .i64 0], .agg #[.int .i64 0, .int .i64 0], .agg #[.int .i64 0, .int .i64 0], .agg #[.int .i64 0, .int .i64 0], .int .i64 0], []⟩ 8 (by kernel_rfl) (by kernel_rfl) (by kernel_rfl) (by kernel_rfl)) ?_
  intro W base args ds gs before hval0 hW _ _
  have hval : ∀ (j : Nat) t v, Try.f7.params[j]? = some t → args[j]? = some v → Value.okWide Try.prog W .any base t v := hval0
  have hW' := hW
  obtain ⟨p, q, hA0, hV, rfl, _, _⟩ := hW
  have hA : DataW.TrodAll enc Try.prog W 0 (fun _ => true) true Try.f7.params.toList args.toList ds p := hA0
  rw [Try.params7] at hA hval
  obtain ⟨v0, vs0, d0, ds0, p0, z0, hargs, rfl, rfl, h0, r0⟩ := trodAll_cons hA
  obtain ⟨v1, vs1, d1, ds1, p1, z1, rfl, rfl, rfl, h1, r1⟩ := trodAll_cons r0
  obtain ⟨v2, vs2, d2, ds2, p2, z2, rfl, rfl, rfl, h2, r2⟩ := trodAll_cons r1
  obtain ⟨v3, vs3, d3, ds3, p3, z3, rfl, rfl, rfl, h3, r3⟩ := trodAll_cons r2
  obtain ⟨v4, vs4, d4, ds4, p4, z4, rfl, rfl, rfl, h4, r4⟩ := trodAll_cons r3
  obtain ⟨v5, vs5, d5, ds5, p5, z5, rfl, rfl, rfl, h5, r5⟩ := trodAll_cons r4
  obtain ⟨rfl, rfl, rfl⟩ := trodAll_nil r5
  obtain rfl : args = #[v0, v1, v2, v3, v4, v5] := by cases args; simp_all
  obtain ⟨L0, I0, n0⟩ := open_pl (hval 0 22 v0 rfl rfl) h0
  obtain ⟨x1, y1, rfl, _, _⟩ := open_pt (hval 1 24 v1 rfl rfl) h1
  obtain ⟨x2, y2, rfl, _, _⟩ := open_pt (hval 2 24 v2 rfl rfl) h2
  obtain ⟨x3, y3, rfl, _, _⟩ := open_pt (hval 3 24 v3 rfl rfl) h3
  obtain ⟨x4, y4, rfl, _, _⟩ := open_pt (hval 4 24 v4 rfl rfl) h4
  obtain ⟨x5, rfl, _, _, _⟩ := open_int Try.underlying3 (hval 5 3 v5 rfl rfl) h5
  refine (ringMoves_walk v0 L0 (x1, y1) (x2, y2) (x3, y3) (x4, y4) x5 W n0 I0).mono fun e W' ⟨he, hb⟩ => ?_
  subst he
  exact ⟨_, rfl, law_post rfl (by kernel_rfl) (by rw [Try.params7]; intro t ht; (have ht' : t ∈ [22, 24, 24, 24, 24, 3] := ht); simp only [List.mem_cons, List.not_mem_nil, or_false] at ht'; (rcases ht' with rfl | rfl | rfl | rfl | rfl | rfl <;> exact ⟨by kernel_rfl, of_decide_eq_true (by kernel_rfl)⟩)) hW' rfl hb⟩

theorem ringMoves_holds : Rows.RingMovesSaid :=
  OpenClaim.holds_of_wide 7 Try.f7 rfl rfl rfl rfl rfl rfl rfl ⟨rfl, rfl, rfl, rfl, rfl⟩ rfl rfl rfl rfl rfl (by kernel_rfl) Try.func7 (by kernel_rfl)
    (of_decide_eq_true (by kernel_rfl)) (by unfold Func.isWrapper; rw [if_neg (of_decide_eq_false (by kernel_rfl))]; exact ⟨rfl, rfl⟩)
    (fun os started H enc _ => ringMoves_lifted os started H enc)
end Go.Proofs.Ytkibjbbhiclkmaa
