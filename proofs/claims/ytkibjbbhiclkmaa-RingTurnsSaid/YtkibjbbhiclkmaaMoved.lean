/- The walks of ring.Moved, ring.Scaled. -/
import Derived.Test.YtkibjbbhiclkmaaOwnRow
import Derived.Laws.AppendOwn
import Derived.Deep.AppendLies
import Derived.Test.YtkibjbbhiclkmaaRefRow
import Derived.Laws.EntriesVeiled
import Derived.Test.YtkibjbbhiclkmaaRefWind
import Derived.Deep.DeepCutAuto
import Derived.BigRegion
import Derived.RegionTactic
import Derived.Deep.LoopGhost
namespace Go.Proofs.Ytkibjbbhiclkmaa
open Go.RowKit

/-- A slice of n things, whose cells are these. -/
def SrcV (W : World) (v : Value) (n : Nat) (ys : List Value) : Prop :=
  ∃ (q : Option Addr) (c : Nat), v = .slice q n c ∧ (n ≠ 0 → ∃ g o, q = some ⟨g, o, none⟩ ∧ ∀ j u, ys[j]? = some u → W.cell? ((⟨g, o, none⟩ : Addr).add j) = some u)
theorem SrcV.keep {W w1 : World} {v : Value} {n : Nat} {ys : List Value} (hb : Below W.heap.size W w1) (h : SrcV W v n ys) : SrcV w1 v n ys := by
  obtain ⟨q, c, rfl, h⟩ := h
  refine ⟨q, c, rfl, fun hn => ?_⟩
  obtain ⟨g, o, rfl, hc⟩ := h hn
  exact ⟨g, o, rfl, fun j u hj => cell_later hb (hc j u hj)⟩
theorem own_srcV {W : World} {base size : Nat} {T : TypeId} {v : Value} {n : Nat} {xs : List Value} (h : W.ownsRow base T size v n xs) : SrcV W v n xs := by
  have h0 := h
  rcases h.2 with ⟨rfl, rfl⟩ | ⟨g, cap, cur, rfl, _⟩
  · exact ⟨none, 0, rfl, fun h => absurd rfl h⟩
  · exact ⟨_, cap, rfl, fun _ => ⟨g, 0, rfl, h0.cells (g := g) rfl⟩⟩
theorem run_append_srcV {P : Program} (w : World) (t ty : TypeId) (base : Nat) (e : TypeId) (i : TypeInfo) (z : Value) (size bytes : Nat) (ht : P.underlying t = some (.slice e)) (hi : P.info? e = some i) (hz : i.zero = some z)
    (hsize : i.size = size) (hby : i.bytes = bytes) (hzs : z.cells.size = size) (hsz : 0 < size) (v : Value) (n : Nat) (xs : List Value) (hown : w.ownsRow base e size v n xs) (x : Value) (m : Nat) (ys : List Value) (hs : SrcV w x m ys) (hl : ys.length = m * size) (h1 : ∀ u ∈ ys, u.oneCell' = true)
    (h63 : n + m ≤ maxLen) (hbytes : (n + m) * bytes ≤ 140737488355328) (hbase : base ≤ w.heap.size) :
    ∃ v' w', (Builtin.append_ #[t, t] ty #[v, x]).run P w = .ok v' w' ∧ w'.ownsRow base e size v' (n + m) (xs ++ ys) ∧ w.grownBy w' v.ownBlock := by
  obtain ⟨q, c, rfl, hq⟩ := hs
  by_cases hL : m = 0
  · subst hL
    have hy : ys = [] := List.eq_nil_of_length_eq_zero (by omega)
    subst hy
    rcases hown.2 with ⟨rfl, rfl⟩ | ⟨g, cap, cur, rfl, hbg, hg, hnc, rest⟩
    · refine ⟨.slice none 0 0, w, ?_, by simpa using hown, ⟨rfl, rfl, rfl, Nat.le_refl _, fun _ _ _ => rfl⟩⟩
      cases q <;> simp [Builtin.append_, run_underlying ht, sizeOf, typeInfo, hi, Builtin.lenOf, Builtin.firstCells, loadCells, loadCellsFrom]
    · refine ⟨.slice (some ⟨g, 0, none⟩) n cap, w, by cases q <;> simp [Builtin.append_, run_underlying ht, sizeOf, typeInfo, hi, Builtin.lenOf, Builtin.firstCells, loadCells, loadCellsFrom, storeCells, hnc], by simpa using hown, ⟨rfl, rfl, rfl, Nat.le_refl _, fun _ _ _ => rfl⟩⟩
  · obtain ⟨g, o, rfl, hc⟩ := hq hL
    obtain ⟨v', w', h1, h2, h3, _⟩ := run_append_own (P := P) w base t ty e i z size bytes ht hi hz hsize hby hzs hsz v n xs hown ⟨g, o, none⟩ m c ys hl hc h1 h63 hbytes hbase
    exact ⟨v', w', h1, h2, h3⟩
/-- At a step of a region that draws its order. -/
theorem step_append_srcV {P : Program} {w : World} {ops : Array Oper} {o : Oper} {a : Act} {K : Act → World → Prop} {Q : Exit → Act → World → Prop} {E : Prop} (hgd : o.guard = none) (s x : Operand) (t : TypeId)
    (ho : o.op = .call { callee := .builtin .append, args := #[s, x], argTypes := #[t, t] })
    (base : Nat) (e : TypeId) (i : TypeInfo) (z : Value) (size bytes : Nat) (ht : P.underlying t = some (.slice e)) (hi : P.info? e = some i) (hz : i.zero = some z)
    (hsize : i.size = size) (hby : i.bytes = bytes) (hzs : z.cells.size = size) (hsz : 0 < size) (v : Value) (n : Nat) (xs : List Value) (hs : a.eval s = v) (hown : w.ownsRow base e size v n xs) (y : Value) (m : Nat) (ys : List Value) (hx : a.eval x = y) (hsrc : SrcV w y m ys) (hl : ys.length = m * size) (h1 : ∀ u ∈ ys, u.oneCell' = true)
    (h63 : n + m ≤ maxLen) (hbytes : (n + m) * bytes ≤ 140737488355328) (hbase : base ≤ w.heap.size)
    (h : ∀ v' w', w'.ownsRow base e size v' (n + m) (xs ++ ys) → w.grownBy w' v.ownBlock → K (a.put o.dst v') w') :
    if Region.wanted o (yielded ops a.tmps) = true then Oper.wp P o a w K Q else E := by
  have hw : Region.wanted o (yielded ops a.tmps) = true := by simp [Region.wanted, hgd]
  rw [if_pos hw]
  obtain ⟨v', w', hr, h2, h3⟩ := run_append_srcV (P := P) w t o.type base e i z size bytes ht hi hz hsize hby hzs hsz v n xs hown y m ys hsrc hl h1 h63 hbytes hbase
  unfold Oper.wp execOp
  simp only [ho, resolve, invoke, builtin, Sem.run_bind, Sem.run_pure, Result.andThen_ok, List.map_toArray, List.map_cons, List.map_nil, hs, hx, hr]
  exact h v' w' h2 h3
/-- At a plain step. -/
theorem wp_append_srcV {P : Program} {w : World} {o : Oper} {a : Act} {K : Act → World → Prop} {Q : Exit → Act → World → Prop} (s x : Operand) (t : TypeId)
    (ho : o.op = .call { callee := .builtin .append, args := #[s, x], argTypes := #[t, t] })
    (base : Nat) (e : TypeId) (i : TypeInfo) (z : Value) (size bytes : Nat) (ht : P.underlying t = some (.slice e)) (hi : P.info? e = some i) (hz : i.zero = some z)
    (hsize : i.size = size) (hby : i.bytes = bytes) (hzs : z.cells.size = size) (hsz : 0 < size) (v : Value) (n : Nat) (xs : List Value) (hs : a.eval s = v) (hown : w.ownsRow base e size v n xs) (y : Value) (m : Nat) (ys : List Value) (hx : a.eval x = y) (hsrc : SrcV w y m ys) (hl : ys.length = m * size) (h1 : ∀ u ∈ ys, u.oneCell' = true)
    (h63 : n + m ≤ maxLen) (hbytes : (n + m) * bytes ≤ 140737488355328) (hbase : base ≤ w.heap.size)
    (h : ∀ v' w', w'.ownsRow base e size v' (n + m) (xs ++ ys) → w.grownBy w' v.ownBlock → K (a.put o.dst v') w') : o.wp P a w K Q := by
  obtain ⟨v', w', hr, h2, h3⟩ := run_append_srcV (P := P) w t o.type base e i z size bytes ht hi hz hsize hby hzs hsz v n xs hown y m ys hsrc hl h1 h63 hbytes hbase
  unfold Oper.wp execOp
  simp only [ho, resolve, invoke, builtin, Sem.run_bind, Sem.run_pure, Result.andThen_ok, List.map_toArray, List.map_cons, List.map_nil, hs, hx, hr]
  exact h v' w' h2 h3
theorem wpList_append_srcV {P : Program} {w : World} {ops : Array Oper} {rest : List Oper} {o : Oper} {a : Act} {Q : Exit → Act → World → Prop} (hgd : o.guard = none) (s x : Operand) (t : TypeId)
    (ho : o.op = .call { callee := .builtin .append, args := #[s, x], argTypes := #[t, t] })
    (base : Nat) (e : TypeId) (i : TypeInfo) (z : Value) (size bytes : Nat) (ht : P.underlying t = some (.slice e)) (hi : P.info? e = some i) (hz : i.zero = some z)
    (hsize : i.size = size) (hby : i.bytes = bytes) (hzs : z.cells.size = size) (hsz : 0 < size) (v : Value) (n : Nat) (xs : List Value) (hs : a.eval s = v) (hown : w.ownsRow base e size v n xs) (y : Value) (m : Nat) (ys : List Value) (hx : a.eval x = y) (hsrc : SrcV w y m ys) (hl : ys.length = m * size) (h1 : ∀ u ∈ ys, u.oneCell' = true)
    (h63 : n + m ≤ maxLen) (hbytes : (n + m) * bytes ≤ 140737488355328) (hbase : base ≤ w.heap.size)
    (h : ∀ v' w', w'.ownsRow base e size v' (n + m) (xs ++ ys) → w.grownBy w' v.ownBlock → wpList P ops Q rest (a.put o.dst v') w') : wpList P ops Q (o :: rest) a w :=
  wpList_plain hgd fun _ hK => wp_append_srcV s x t ho base e i z size bytes ht hi hz hsize hby hzs hsz v n xs hs hown y m ys hx hsrc hl h1 h63 hbytes hbase fun v' w' h2 h3 => hK _ _ (h v' w' h2 h3)
end Go.Proofs.Ytkibjbbhiclkmaa

namespace Go.Proofs.Ytkibjbbhiclkmaa
open Go.RowKit Go.Sort

/-- A block of the call's own that holds n points. -/
structure Rw (W : World) (B k n : Nat) (P : Nat → Int × Int) : Prop where
  base : B ≤ k
  lt : k < W.heap.size
  c0 : ∀ i, i < n → W.cell? ⟨k, i * 2, none⟩ = some (.int .i64 (P i).1)
  c1 : ∀ i, i < n → W.cell? ⟨k, i * 2 + 1, none⟩ = some (.int .i64 (P i).2)
  f0 : ∀ i, i < n → W.frozen? ⟨k, i * 2, none⟩ = false
  f1 : ∀ i, i < n → W.frozen? ⟨k, i * 2 + 1, none⟩ = false
/-- A slice of such a block: nil, or all of it. -/
def OwPL (W : World) (B : Nat) (v : Value) (L : List (Int × Int)) : Prop :=
  (v = .slice none 0 0 ∧ L = []) ∨ ∃ k cap, v = .slice (some ⟨k, 0, none⟩) L.length cap ∧ L.length ≤ cap ∧ cap ≤ maxLen ∧ Rw W B k L.length (ptA L)
theorem Rw.keep {W w1 : World} {B k n : Nat} {P : Nat → Int × Int} (hw : Below W.heap.size W w1) (h : Rw W B k n P) : Rw w1 B k n P :=
  ⟨h.base, Nat.lt_of_lt_of_le h.lt hw.size, fun i hi => cell_later hw (h.c0 i hi), fun i hi => cell_later hw (h.c1 i hi), fun i hi => (hw.frozen (p := ⟨k, i * 2, none⟩) h.lt).trans (h.f0 i hi), fun i hi => (hw.frozen (p := ⟨k, i * 2 + 1, none⟩) h.lt).trans (h.f1 i hi)⟩
theorem Rw.drew {W : World} {B k n : Nat} {P : Nat → Int × Int} (h : Rw W B k n P) : Rw W.drew B k n P := ⟨h.base, h.lt, h.c0, h.c1, h.f0, h.f1⟩
theorem Rw.congr {W : World} {B k n : Nat} {P Q : Nat → Int × Int} (h : Rw W B k n P) (e : ∀ i, i < n → P i = Q i) : Rw W B k n Q :=
  ⟨h.base, h.lt, fun i hi => by rw [← e i hi]; exact h.c0 i hi, fun i hi => by rw [← e i hi]; exact h.c1 i hi, h.f0, h.f1⟩
theorem Rw.pl {W : World} {B k cap : Nat} {L : List (Int × Int)} (h : Rw W B k L.length (ptA L)) (hc : L.length ≤ cap) : PL W (.slice (some ⟨k, 0, none⟩) L.length cap) L :=
  ⟨_, cap, rfl, hc, fun i hi => ⟨k, 0, rfl, h.lt, by rw [Nat.zero_add, ← ptA_at hi]; exact ⟨h.c0 i hi, h.c1 i hi⟩⟩⟩
theorem OwPL.keep {W w1 : World} {B : Nat} {v : Value} {L : List (Int × Int)} (hw : Below W.heap.size W w1) (h : OwPL W B v L) : OwPL w1 B v L := by
  rcases h with h | ⟨k, cap, e, hc, hm, hr⟩
  · exact Or.inl h
  · exact Or.inr ⟨k, cap, e, hc, hm, hr.keep hw⟩
theorem OwPL.pl {W : World} {B : Nat} {v : Value} {L : List (Int × Int)} (h : OwPL W B v L) : PL W v L := by
  rcases h with ⟨rfl, rfl⟩ | ⟨k, cap, rfl, hc, hm, hr⟩
  · exact ⟨none, 0, rfl, by simp, fun i hi => absurd hi (by simp)⟩
  · exact hr.pl hc
/-- One point's number, written. -/
theorem Rw.set0 {W : World} {B k n : Nat} {P : Nat → Int × Int} (h : Rw W B k n P) (i : Nat) (hi : i < n) (x : Int) : Rw (W.setCell ⟨k, i * 2, none⟩ (.int .i64 x)) B k n (fun j => if j = i then (x, (P i).2) else P j) := by
  refine ⟨h.base, by rw [World.size_setCell]; exact h.lt, fun j hj => ?_, fun j hj => ?_, fun j hj => ?_, fun j hj => ?_⟩
  · by_cases e : j = i
    · subst e; rw [if_pos rfl, World.cell?_setCell_same _ _ _ (h.c0 j hj)]
    · rw [if_neg e, World.cell?_setCell_other _ _ _ _ (by intro e'; injection e' with _ e2; omega)]; exact h.c0 j hj
  · rw [World.cell?_setCell_other _ _ _ _ (by intro e'; injection e' with _ e2; omega), h.c1 j hj]
    by_cases e : j = i
    · subst e; rw [if_pos rfl]
    · rw [if_neg e]
  · simpa using h.f0 j hj
  · simpa using h.f1 j hj
theorem Rw.set1 {W : World} {B k n : Nat} {P : Nat → Int × Int} (h : Rw W B k n P) (i : Nat) (hi : i < n) (x : Int) : Rw (W.setCell ⟨k, i * 2 + 1, none⟩ (.int .i64 x)) B k n (fun j => if j = i then ((P i).1, x) else P j) := by
  refine ⟨h.base, by rw [World.size_setCell]; exact h.lt, fun j hj => ?_, fun j hj => ?_, fun j hj => ?_, fun j hj => ?_⟩
  · rw [World.cell?_setCell_other _ _ _ _ (by intro e'; injection e' with _ e2; omega), h.c0 j hj]
    by_cases e : j = i
    · subst e; rw [if_pos rfl]
    · rw [if_neg e]
  · by_cases e : j = i
    · subst e; rw [if_pos rfl, World.cell?_setCell_same _ _ _ (h.c1 j hj)]
    · rw [if_neg e, World.cell?_setCell_other _ _ _ _ (by intro e'; injection e' with _ e2; omega)]; exact h.c1 j hj
  · simpa using h.f0 j hj
  · simpa using h.f1 j hj
theorem own_rw {W : World} {B : Nat} {T : TypeId} {u : Value} {L : List (Int × Int)} (h : W.ownsRow B T 2 u L.length (pts (fun i => (ptA L i).1) (fun i => (ptA L i).2) L.length)) : OwPL W B u L := by
  obtain ⟨_, h1⟩ := h
  rcases h1 with ⟨rfl, h0⟩ | ⟨k, cap, cur, rfl, hB, hc, hn, hm, hz, ht⟩
  · refine Or.inl ⟨rfl, ?_⟩
    cases L with
    | nil => rfl
    | cons a t => simp at h0
  · refine Or.inr ⟨k, cap, rfl, hn, hm, hB, (Array.getElem?_eq_some_iff.1 hc).1, ?_, ?_, ?_, ?_⟩
    · intro i hi
      have e0 := (pts_at (fun i => (ptA L i).1) (fun i => (ptA L i).2) L.length i hi).1
      rw [← ht, List.getElem?_take_of_lt (by omega)] at e0
      have hx' : cur[i * 2]? = some (.int .i64 (ptA L i).1) := by rw [← Array.getElem?_toList]; exact e0
      simp [World.cell?, hc, hx']
    · intro i hi
      have e0 := (pts_at (fun i => (ptA L i).1) (fun i => (ptA L i).2) L.length i hi).2
      rw [← ht, List.getElem?_take_of_lt (by omega)] at e0
      have hx' : cur[i * 2 + 1]? = some (.int .i64 (ptA L i).2) := by rw [← Array.getElem?_toList]; exact e0
      simp [World.cell?, hc, hx']
    · intro i hi; simp [World.frozen?, hc]
    · intro i hi; simp [World.frozen?, hc]

theorem pts_get {f g : Nat → Int} {n j : Nat} {u : Value} (h : (pts f g n)[j]? = some u) : ∃ i, i < n ∧ (j = i * 2 ∧ u = .int .i64 (f i) ∨ j = i * 2 + 1 ∧ u = .int .i64 (g i)) := by
  have hl : j < n * 2 := by
    obtain ⟨k, _⟩ := List.getElem?_eq_some_iff.1 h
    rw [pts_length] at k; exact k
  obtain ⟨h0, h1⟩ := pts_at f g n (j / 2) (by omega)
  refine ⟨j / 2, by omega, ?_⟩
  rcases Nat.mod_two_eq_zero_or_one j with k | k
  · left
    have e : j / 2 * 2 = j := by omega
    rw [e, h] at h0
    injection h0 with h0
    exact ⟨by omega, h0⟩
  · right
    have e : j / 2 * 2 + 1 = j := by omega
    rw [e, h] at h1
    injection h1 with h1
    exact ⟨by omega, h1⟩
theorem infoAP : (Try.prog.info? 24).map (fun i => (i.zero, i.size, i.bytes)) = some (some (.agg #[.int .i64 0, .int .i64 0]), 2, 16) := by kernel_rfl

set_option maxRecDepth 100000 in
set_option maxHeartbeats 2000000 in
theorem clone_any {w : World} {v : Value} {L : List (Int × Int)} (hI : PL w v L) (hL : L.length ≤ 1000000) :
    Calls Try.prog 74 #[v] w fun e w' => ∃ u, e = .returned u ∧ OwPL w' w.heap.size u L ∧ Below w.heap.size w w' := by
  obtain ⟨i0, hi, hz0, hz1, hz2⟩ := info_parts infoAP
  obtain ⟨p, cap, rfl, hc, hcells⟩ := hI
  have qn : ∀ (w : World) (a : Option Addr) (n c n' c' : Nat), (binOp .eql 22 (.slice a n c) (.slice none n' c')).run Try.prog w = .ok (.bool a.isNone) w := fun w a n c n' c' => Lib.run_eql_slice_nil w _ _ a n c n' c' Try.underlying22
  cases p with
  | none =>
    have h0 : L = [] := by
      cases L with
      | nil => rfl
      | cons a t =>
        obtain ⟨b, off, e, _⟩ := hcells 0 (by simp)
        cases e
    subst h0
    clear hcells
    go_enter Try.func74, Try.ntmps74
    go_wp2
    go_ret
    exact ⟨_, rfl, Or.inl ⟨rfl, rfl⟩, Below.refl _ _⟩
  | some a =>
    have HC := Lib.hid hcells
    clear hcells
    go_enter Try.func74, Try.ntmps74
    go_wp2_with (at_builtin; refine wpList_append_own _ rfl _ _ 22 rfl w.heap.size 24 i0 (.agg #[.int .i64 0, .int .i64 0]) 2 16 Try.underlying22 hi hz0 hz1 hz2 rfl (by decide) _ _ _ rfl (World.ownsRow_made w #[] 0 (Nat.le_refl _) (Nat.zero_le _) (by simp)) a L.length cap (pts (fun i => (ptA L i).1) (fun i => (ptA L i).2) L.length) rfl ?qc1 ?qc2 ?qc3 ?qc4 ?qc5 ?qc6 ?_)
    case qc1 => exact pts_length _ _ _
    case qc2 =>
      intro j u hj
      obtain ⟨i, hin, hx⟩ := pts_get hj
      obtain ⟨b, off, e, hbl, c0, c1⟩ := HC.out i hin
      injection e with e
      subst e
      rw [ptA_at hin] at hx
      refine Lib.cell?_alloc_some _ ?_
      rw [add_at]
      rcases hx with ⟨rfl, rfl⟩ | ⟨rfl, rfl⟩
      · exact c0
      · rw [← Nat.add_assoc]; exact c1
    case qc3 =>
      intro u hu
      obtain ⟨j, hj⟩ := List.mem_iff_getElem?.1 hu
      obtain ⟨i, _, ⟨_, rfl⟩ | ⟨_, rfl⟩⟩ := pts_get hj <;> rfl
    case qc4 => unfold maxLen; omega
    case qc5 => omega
    case qc6 => simp
    intro v' w1 hown hgrow hnil
    go_wp2
    go_ret
    refine ⟨v', rfl, own_rw (by simpa using hown), ?_⟩
    exact ((Below.refl _ w).alloc (Nat.le_refl _) _).grown hgrow (by simp) (by intro k hk; simp [Value.ownBlock] at hk; omega)
end Go.Proofs.Ytkibjbbhiclkmaa

namespace Go.Proofs.Ytkibjbbhiclkmaa
open Go.RowKit Go.Sort

/-- Up to 2^20. -/
def b20 (p : Int × Int) : Prop := -1048576 ≤ p.1 ∧ p.1 ≤ 1048576 ∧ -1048576 ≤ p.2 ∧ p.2 ≤ 1048576
def mvp (t p : Int × Int) : Int × Int := (p.1 + t.1, p.2 + t.2)
/-- The first k done. -/
def mixP (T : Int × Int → Int × Int) (L : List (Int × Int)) (k i : Nat) : Int × Int := if i < k then T (ptA L i) else ptA L i
theorem mix_map (T : Int × Int → Int × Int) (L : List (Int × Int)) (i : Nat) (hi : i < L.length) : mixP T L L.length i = ptA (L.map T) i := by
  unfold mixP
  rw [if_pos hi, ptA_at hi, ptA_at (by rw [List.length_map]; exact hi), List.getElem_map]
theorem mix_step (T : Int × Int → Int × Int) (L : List (Int × Int)) (k i : Nat) : (if i = k then T (ptA L k) else mixP T L k i) = mixP T L (k + 1) i := by
  unfold mixP
  by_cases e : i = k
  · subst e; rw [if_pos rfl, if_pos (by omega)]
  · rw [if_neg e]
    by_cases h : i < k
    · rw [if_pos h, if_pos (by omega)]
    · rw [if_neg h, if_neg (by omega)]
def scp (c : Int) (p : Int × Int) : Int × Int := (p.1 * c, p.2 * c)
structure ScS (w W : World) (g n : Nat) (P : Nat → Int × Int) : Prop where
  below : Below w.heap.size w W
  row : Rw W w.heap.size g n P
structure MvS (w W : World) (t : Int × Int) (g n : Nat) (P : Nat → Int × Int) : Prop where
  one : OneP w W t
  row : Rw W (w.heap.size + 1) g n P

theorem OneP.set {w W : World} {t : Int × Int} {g o : Nat} (x : Value) (h : OneP w W t) (hg : w.heap.size + 1 ≤ g) : OneP w (W.setCell ⟨g, o, none⟩ x) t :=
  ⟨(World.cell?_setCell_other _ _ _ _ (by intro e; injection e with e1; omega)).trans h.p0, (World.cell?_setCell_other _ _ _ _ (by intro e; injection e with e1; omega)).trans h.p1, h.below.setCell (p := ⟨g, o, none⟩) (by show w.heap.size ≤ g; omega) _⟩
theorem OneP.drew {w W : World} {t : Int × Int} (h : OneP w W t) : OneP w W.drew t := ⟨h.p0, h.p1, h.below.drew⟩

set_option maxRecDepth 100000 in
set_option maxHeartbeats 2000000 in
theorem moved_any {w : World} {v : Value} {L : List (Int × Int)} (t : Int × Int) (hI : PL w v L) (hL : L.length ≤ 1000) (hs : ∀ i, i < L.length → b20 (ptA L i)) (ht : b20 t) :
    Calls Try.prog 35 #[v, .agg #[.int .i64 t.1, .int .i64 t.2]] w fun e w' => ∃ u, e = .returned u ∧ PL w' u (L.map (mvp t)) ∧ Below w.heap.size w w' := by
  have HI := Lib.hid hI
  have HS := Lib.hid hs
  have HO0 : Hid (OneP w (w.alloc (.cells #[.int .i64 t.1, .int .i64 t.2] 24)) t) := Lib.hid ⟨by go_simp, by go_simp, b1 _ _⟩
  have HT := Lib.hid ht
  clear hI hs ht
  go_enter Try.func35, Try.ntmps35
  go_wp2_with fail
  refine (clone_any (HI.out.keep HO0.out.below) (by omega)).mono ?_
  rintro e w1 ⟨u, rfl, hu, hb1⟩
  have HO1 := Lib.hid (HO0.out.later hb1)
  rcases hu with ⟨rfl, rfl⟩ | ⟨g, cap, rfl, hcap, hmax, hr⟩
  · clear hb1 HI
    go_wp2_with fail
    go_loopg [11] 0 (fun gk i wx => i = .int .i64 0 ∧ wx = w1)
    case atStart => exact ⟨rfl, rfl⟩
    case round =>
      obtain ⟨rfl, rfl⟩ := hrel
      go_wp2_with fail
      go_ret
      exact ⟨_, rfl, ⟨none, 0, rfl, by simp, fun i hi => absurd hi (by simp)⟩, HO1.out.below⟩
  · have HR : Hid (MvS w w1 t g L.length (mixP (mvp t) L 0)) := Lib.hid ⟨HO1.out, by simpa using hr.congr (fun i _ => by unfold mixP; rw [if_neg (by omega)])⟩
    clear hr hb1 HI HO1
    go_wp2_with fail
    go_loopg [11] L.length (fun gk i wx => ∃ k : Nat, k + gk = L.length ∧ i = .int .i64 (k : Int) ∧ Hid (MvS w wx t g L.length (mixP (mvp t) L k)))
    case atStart => exact ⟨0, by omega, rfl, HR⟩
    case round =>
      obtain ⟨k, hkg, rfl, HB⟩ := hrel
      cases gk with
      | zero =>
        have hkz : ¬ ((k : Int) < (L.length : Int)) := by omega
        have hk : k = L.length := by omega
        have HF : Hid (PL wr (.slice (some ⟨g, 0, none⟩) L.length cap) (L.map (mvp t))) := Lib.hid (by
          have h := HB.out.row
          rw [hk] at h
          have h2 : Rw wr (w.heap.size + 1) g (L.map (mvp t)).length (ptA (L.map (mvp t))) := by
            rw [List.length_map]; exact h.congr (fun i hi => mix_map _ L i hi)
          have := h2.pl (cap := cap) (by rw [List.length_map]; exact hcap)
          rw [List.length_map] at this
          exact this)
        clear hk
        go_wp2_with fail
        go_ret
        exact ⟨_, rfl, HF.out, HB.out.one.below⟩
      | succ gr =>
        have hkz : (k : Int) < (L.length : Int) := by omega
        have hkn : k < L.length := by omega
        have c0 := HB.out.row.c0 k hkn
        have f0 := HB.out.row.f0 k hkn
        have d0 := HB.out.one.p0
        have hm : mixP (mvp t) L k k = ptA L k := by unfold mixP; rw [if_neg (by omega)]
        rw [hm] at c0
        have hb := HS.out k hkn
        have hbt := HT.out
        unfold b20 at hb hbt
        have x1 : IntKind.i64.wrap ((ptA L k).1 + t.1) = (ptA L k).1 + t.1 := IntWalk.i64_in _ (by omega)
        have x2 : IntKind.i64.wrap ((ptA L k).2 + t.2) = (ptA L k).2 + t.2 := IntWalk.i64_in _ (by omega)
        have HM := Lib.hid hm
        clear hm hb hbt
        have n0 : g ≠ w.heap.size := by have := HB.out.row.base; omega
        go_upto_region 5 with fail
        go_cut [] from 12 to 34 (fun wx => Hid (MvS w wx t g L.length (fun j => if j = k then ((ptA L k).1 + t.1, (ptA L k).2) else mixP (mvp t) L k j)))
        case first =>
          go_region
          go_wp2_with fail
          go_meet
          have h1 := (HB.out.row.set0 k hkn ((ptA L k).1 + t.1)).drew
          rw [HM.out] at h1
          exact Lib.hid ⟨(HB.out.one.set _ HB.out.row.base).drew, h1⟩
        case rest =>
          have HB1 := hcut
          clear hcut c0 f0 d0
          have c1 := HB1.out.row.c1 k hkn
          have f1 := HB1.out.row.f1 k hkn
          have d1 := HB1.out.one.p1
          rw [if_pos rfl] at c1
          dsimp only at c1
          go_upto_region 6 with fail
          go_region
          have HB2 : Hid (MvS w (wc.setCell ⟨g, k * 2 + 1, none⟩ (.int .i64 ((ptA L k).2 + t.2))).drew t g L.length (mixP (mvp t) L (k + 1))) := by
            have h1 := (HB1.out.row.set1 k hkn ((ptA L k).2 + t.2)).drew
            rw [if_pos rfl] at h1
            exact Lib.hid ⟨(HB1.out.one.set _ HB1.out.row.base).drew, h1.congr (fun i hi => by
              rw [← mix_step]
              by_cases e : i = k
              · rw [if_pos e, if_pos e]; rfl
              · rw [if_neg e, if_neg e, if_neg e])⟩
          clear c1 f1 d1 HB1
          go_wp2_with fail
          go_roundg gr
          case measure => omega
          case rel => exact ⟨k + 1, by omega, by go_num, HB2⟩

set_option maxRecDepth 100000 in
set_option maxHeartbeats 2000000 in
theorem scaled_any {w : World} {v : Value} {L : List (Int × Int)} (c : Int) (hI : PL w v L) (hL : L.length ≤ 1000) (hs : ∀ i, i < L.length → b20 (ptA L i)) (hc : c = 2 ∨ c = 3) :
    Calls Try.prog 36 #[v, .int .i64 c] w fun e w' => ∃ u, e = .returned u ∧ PL w' u (L.map (scp c)) ∧ Below w.heap.size w w' := by
  have HI := Lib.hid hI
  have HS := Lib.hid hs
  clear hI hs
  go_enter Try.func36, Try.ntmps36
  go_wp2_with fail
  refine (clone_any HI.out (by omega)).mono ?_
  rintro e w1 ⟨u, rfl, hu, hb1⟩
  have HO1 := Lib.hid hb1
  rcases hu with ⟨rfl, rfl⟩ | ⟨g, cap, rfl, hcap, hmax, hr⟩
  · clear hb1 HI
    go_wp2_with fail
    go_loopg [11] 0 (fun gk i wx => i = .int .i64 0 ∧ wx = w1)
    case atStart => exact ⟨rfl, rfl⟩
    case round =>
      obtain ⟨rfl, rfl⟩ := hrel
      go_wp2_with fail
      go_ret
      exact ⟨_, rfl, ⟨none, 0, rfl, by simp, fun i hi => absurd hi (by simp)⟩, HO1.out⟩
  · have HR : Hid (ScS w w1 g L.length (mixP (scp c) L 0)) := Lib.hid ⟨HO1.out, by simpa using hr.congr (fun i _ => by unfold mixP; rw [if_neg (by omega)])⟩
    clear hr hb1 HI HO1
    go_wp2_with fail
    go_loopg [11] L.length (fun gk i wx => ∃ k : Nat, k + gk = L.length ∧ i = .int .i64 (k : Int) ∧ Hid (ScS w wx g L.length (mixP (scp c) L k)))
    case atStart => exact ⟨0, by omega, rfl, HR⟩
    case round =>
      obtain ⟨k, hkg, rfl, HB⟩ := hrel
      cases gk with
      | zero =>
        have hkz : ¬ ((k : Int) < (L.length : Int)) := by omega
        have hk : k = L.length := by omega
        have HF : Hid (PL wr (.slice (some ⟨g, 0, none⟩) L.length cap) (L.map (scp c))) := Lib.hid (by
          have h := HB.out.row
          rw [hk] at h
          have h2 : Rw wr w.heap.size g (L.map (scp c)).length (ptA (L.map (scp c))) := by
            rw [List.length_map]; exact h.congr (fun i hi => mix_map _ L i hi)
          have := h2.pl (cap := cap) (by rw [List.length_map]; exact hcap)
          rw [List.length_map] at this
          exact this)
        clear hk
        go_wp2_with fail
        go_ret
        exact ⟨_, rfl, HF.out, HB.out.below⟩
      | succ gr =>
        have hkz : (k : Int) < (L.length : Int) := by omega
        have hkn : k < L.length := by omega
        have c0 := HB.out.row.c0 k hkn
        have f0 := HB.out.row.f0 k hkn
        have hm : mixP (scp c) L k k = ptA L k := by unfold mixP; rw [if_neg (by omega)]
        rw [hm] at c0
        have hb := HS.out k hkn
        unfold b20 at hb
        have x1 : IntKind.i64.wrap ((ptA L k).1 * c) = (ptA L k).1 * c := IntWalk.i64_in _ (by rcases hc with rfl | rfl <;> omega)
        have x2 : IntKind.i64.wrap ((ptA L k).2 * c) = (ptA L k).2 * c := IntWalk.i64_in _ (by rcases hc with rfl | rfl <;> omega)
        have HM := Lib.hid hm
        clear hm hb hc
        go_upto_region 5 with fail
        go_cut [] from 12 to 32 (fun wx => Hid (ScS w wx g L.length (fun j => if j = k then ((ptA L k).1 * c, (ptA L k).2) else mixP (scp c) L k j)))
        case first =>
          go_wp2_with fail
          go_meet
          have h1 := (HB.out.row.set0 k hkn ((ptA L k).1 * c))
          rw [HM.out] at h1
          exact Lib.hid ⟨(HB.out.below.setCell (p := ⟨g, _, none⟩) HB.out.row.base _), h1⟩
        case rest =>
          have HB1 := hcut
          clear hcut c0 f0
          have c1 := HB1.out.row.c1 k hkn
          have f1 := HB1.out.row.f1 k hkn
          rw [if_pos rfl] at c1
          dsimp only at c1
          go_upto_region 6 with fail
          have HB2 : Hid (ScS w (wc.setCell ⟨g, k * 2 + 1, none⟩ (.int .i64 ((ptA L k).2 * c)))  g L.length (mixP (scp c) L (k + 1))) := by
            have h1 := (HB1.out.row.set1 k hkn ((ptA L k).2 * c))
            rw [if_pos rfl] at h1
            exact Lib.hid ⟨(HB1.out.below.setCell (p := ⟨g, _, none⟩) HB1.out.row.base _), h1.congr (fun i hi => by
              rw [← mix_step]
              by_cases e : i = k
              · rw [if_pos e, if_pos e]; rfl
              · rw [if_neg e, if_neg e, if_neg e])⟩
          clear HB1
          go_wp2_with fail
          go_roundg gr
          case measure => omega
          case rel => exact ⟨k + 1, by omega, by go_num, HB2⟩
theorem SrcV.alloc {W : World} {v : Value} {n : Nat} {ys : List Value} (h : SrcV W v n ys) (o : Obj) : SrcV (W.alloc o) v n ys := h.keep (b1 _ _)
theorem SrcV.drew {W : World} {v : Value} {n : Nat} {ys : List Value} (h : SrcV W v n ys) : SrcV W.drew v n ys := h
def ptsL (L : List (Int × Int)) : List Value := pts (fun i => (ptA L i).1) (fun i => (ptA L i).2) L.length
theorem pl_srcV {W : World} {v : Value} {L : List (Int × Int)} (h : PL W v L) : SrcV W v L.length (ptsL L) := by
  obtain ⟨q, c, rfl, hc, hi⟩ := h
  refine ⟨q, c, rfl, fun h0 => ?_⟩
  obtain ⟨b, off, rfl, _, _, _⟩ := hi 0 (by omega)
  refine ⟨b, off, rfl, fun j u hj => ?_⟩
  obtain ⟨i, hin, hx⟩ := pts_get hj
  obtain ⟨b', off', e, hbl, c0, c1⟩ := hi i hin
  obtain ⟨rfl, rfl⟩ : b' = b ∧ off' = off := by injection e with e; injection e with e1 e2; exact ⟨e1.symm, e2.symm⟩
  rw [ptA_at hin] at hx
  rw [add_at]
  rcases hx with ⟨rfl, rfl⟩ | ⟨rfl, rfl⟩
  · exact c0
  · rw [← Nat.add_assoc]; exact c1
theorem ptsL_cells {L : List (Int × Int)} : ∀ u ∈ ptsL L, u.oneCell' = true := by
  intro u hu
  obtain ⟨j, hj⟩ := List.mem_iff_getElem?.1 hu
  obtain ⟨i, _, ⟨_, rfl⟩ | ⟨_, rfl⟩⟩ := pts_get hj <;> rfl
theorem ptsL_app (L M : List (Int × Int)) : ptsL (L ++ M) = ptsL L ++ ptsL M := by
  have key : ∀ (n : Nat), n ≤ M.length → pts (fun i => (ptA (L ++ M) i).1) (fun i => (ptA (L ++ M) i).2) (L.length + n) = ptsL L ++ pts (fun i => (ptA M i).1) (fun i => (ptA M i).2) n := by
    intro n
    induction n with
    | zero =>
      intro _
      unfold ptsL pts
      rw [Nat.add_zero, List.flatMap_def, List.flatMap_def]
      simp only [List.range_zero, List.flatMap_nil, List.append_nil]
      congr 1
      apply List.map_congr_left
      intro i hi
      have hi := List.mem_range.1 hi
      try dsimp only
      rw [ptA_at (by rw [List.length_append]; omega), List.getElem_append_left hi, ← ptA_at hi]
    | succ n ih =>
      intro hn
      rw [← Nat.add_assoc, pts_succ, ih (by omega), pts_succ, List.append_assoc]
      congr 3 <;>
        (rw [ptA_at (by rw [List.length_append]; omega), List.getElem_append_right (by omega), ptA_at (by omega)]; simp)
  have h := key M.length (Nat.le_refl _)
  unfold ptsL at *
  rw [List.length_append]
  exact h
end Go.Proofs.Ytkibjbbhiclkmaa
