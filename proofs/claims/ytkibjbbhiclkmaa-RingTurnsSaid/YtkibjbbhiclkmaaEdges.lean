/- The edges of a ring, given by a function that is ranged over: its contract. -/
import Derived.RangeFuncNested
import Derived.RangeFuncBound
import Derived.RangeFuncCalls
import Derived.RangeFuncLeaves
import Derived.RangeFuncBox
import Derived.Shelf.Abstract
import Derived.Shelf.RegionOpen
import Derived.WalkKit
import Derived.OwnWalkIn
import Derived.TacticsInMore
import Derived.LoopNIn
import Derived.LoopIn
import Derived.BigQuiet
import Derived.Deep.QuietTactic
import Derived.Test.YtkibjbbhiclkmaaRegion
import Derived.Test.YtkibjbbhiclkmaaArea
import Derived.Test.YtkibjbbhiclkmaaOwnRow
namespace Go.Proofs.Ytkibjbbhiclkmaa
open Go.RowKit Go.Shelf
attribute [local go_sem] Oper.semAt_some

/-- A slice of points: what it holds. -/
def PL (W : World) (v : Value) (L : List (Int × Int)) : Prop :=
  ∃ (p : Option Addr) (cap : Nat), v = .slice p L.length cap ∧ L.length ≤ cap ∧ ∀ i (h : i < L.length), ∃ b off, p = some ⟨b, off, none⟩ ∧ b < W.heap.size ∧ W.cell? ⟨b, off + i * 2, none⟩ = some (.int .i64 L[i].1) ∧ W.cell? ⟨b, off + i * 2 + 1, none⟩ = some (.int .i64 L[i].2)
theorem PL.keep {W w1 : World} {v : Value} {L : List (Int × Int)} (hb : Below W.heap.size W w1) (h : PL W v L) : PL w1 v L := by
  obtain ⟨p, cap, rfl, hc, hi⟩ := h
  refine ⟨p, cap, rfl, hc, fun i hl => ?_⟩
  obtain ⟨b, off, rfl, hlt, h0, h1⟩ := hi i hl
  exact ⟨b, off, rfl, Nat.lt_of_lt_of_le hlt hb.size, cell_later hb h0, cell_later hb h1⟩
/-- An edge: from one point to the next. -/
def ptA (L : List (Int × Int)) (i : Nat) : Int × Int := L.getD i (0, 0)
def edA (L : List (Int × Int)) (i : Nat) : (Int × Int) × (Int × Int) := (ptA L i, ptA L ((i + 1) % L.length))
def upto {α : Type} (f : Nat → α) (k : Nat) : List α := (List.range k).map f
theorem upto_succ {α : Type} (f : Nat → α) (k : Nat) : upto f (k + 1) = upto f k ++ [f k] := by simp [upto, List.range_succ]
theorem upto_length {α : Type} (f : Nat → α) (k : Nat) : (upto f k).length = k := by simp [upto]
theorem ptA_at {L : List (Int × Int)} {i : Nat} (h : i < L.length) : ptA L i = L[i] := by unfold ptA; rw [List.getD_eq_getElem?_getD, List.getElem?_eq_getElem h]; rfl
def encE (x : (Int × Int) × (Int × Int)) : Array Value := #[.agg #[.int .i64 x.1.1, .int .i64 x.1.2], .agg #[.int .i64 x.2.1, .int .i64 x.2.2]]
/-- What a round keeps: all below, and the slice's box. -/
def EK (n₀ Bs : Nat) (W W' : World) : Prop := Below n₀ W W' ∧ ∀ x, W.cell? ⟨Bs, 0, none⟩ = some x → W'.cell? ⟨Bs, 0, none⟩ = some x
theorem EK.refl (n₀ Bs : Nat) (W : World) : EK n₀ Bs W W := ⟨Below.refl _ _, fun _ h => h⟩
theorem EK.trans {n₀ Bs : Nat} {A B C : World} (h : EK n₀ Bs A B) (k : EK n₀ Bs B C) : EK n₀ Bs A C := ⟨h.1.trans k.1, fun x hx => k.2 x (h.2 x hx)⟩
theorem EK.putObj {n₀ Bs : Nat} {w : World} (hn : n₀ ≤ w.heap.size) (W : World) (l : Nat) (o o' : Obj) (hl : w.heap.size ≤ l) (h : W.heap[l]? = some o) (hc : o.isCells = false) (hw : o.isWalk = false) : EK n₀ Bs W (W.putObj l o') :=
  ⟨belowK_b hn W l o o' hl h hc hw, fun x hx => cell_kept hx (grownBy_putObj' _ l o') (fun r e => by cases e; exact ⟨o, h, hc⟩)⟩
theorem EK.drewN {n₀ Bs : Nat} {A B : World} (h : EK n₀ Bs A B) (j : Nat) : EK n₀ Bs A (B.drewN j) := ⟨below_drewN h.1 j, h.2⟩
theorem grown_drewN (W : World) (j : Nat) : W.grownBy (W.drewN j) none := ⟨rfl, rfl, rfl, Nat.le_refl _, fun _ _ _ => rfl⟩

set_option maxRecDepth 100000 in
set_option maxHeartbeats 4000000 in
theorem edges1_in (n : Nat) (hn : 1 ≤ n) (l Bs n₀ b off cap : Nat) (L : List (Int × Int)) (hL : L.length ≤ 1000000) (hb : b < n₀) (hne : 0 < L.length) (J Jx : List ((Int × Int) × (Int × Int)) → World → Prop)
    (W : World) (hJ : AbidesFrom W.heap.size J)
    (hY : ∀ pre x W, J pre W → pre.length < L.length → YieldAt Fence.wide (n - 1) Try.prog l (encE x) W fun e W' =>
      (e = .returned (.bool true) ∧ J (pre ++ [x]) W' ∧ EK n₀ Bs W W') ∨ (e = .returned (.bool false) ∧ Jx (pre ++ [x]) W'))
    (hBs : W.cell? ⟨Bs, 0, none⟩ = some (.slice (some ⟨b, off, none⟩) L.length cap))
    (hc : ∀ i (h : i < L.length), W.cell? ⟨b, off + i * 2, none⟩ = some (.int .i64 L[i].1) ∧ W.cell? ⟨b, off + i * 2 + 1, none⟩ = some (.int .i64 L[i].2)) (h0 : J [] W) :
    CallsIn Fence.wide n Try.prog 104 #[.func (.yield l) #[] #[], .pointer (some ⟨Bs, 0, none⟩)] W fun e W' => (∃ v, e = .returned v) ∧
      ((∃ ys, ys = upto (edA L) L.length ∧ J ys W') ∨ (∃ pre, (∃ k, k ≤ L.length ∧ pre = upto (edA L) k) ∧ Jx pre W')) := by
  have hmx : Try.prog.follows .mixedOrders = true := by kernel_rfl
  refine callsIn_of_wp Try.func104 rfl trivial ?_ rfl
  simp only [Try.ntmps104, List.size_toArray, List.length_cons, List.length_nil, Nat.reduceAdd, Nat.reduceSub, Array.replicate_succ, Array.replicate_zero, List.push_toArray, List.append_toArray, List.nil_append, List.cons_append]
  gi_wp2
  gi_loopw [3] (fun i wr => ∃ k : Nat, k + 1 ≤ L.length ∧ i = .int .i64 ((k + 1 : Nat) : Int) ∧ J (upto (edA L) k) wr ∧ EK n₀ Bs W wr)
    (fun i _ => L.length - (intOf i).toNat)
  case atStart => exact ⟨0, hne, rfl, h0, EK.refl _ _ _⟩
  case round =>
    obtain ⟨k, hk, rfl, hJs, hnx⟩ := hrel
    have hB := hnx.2 _ hBs
    by_cases hlt : k + 1 < L.length
    · obtain ⟨c0, c1⟩ := hc k (by omega)
      obtain ⟨d0, d1⟩ := hc (k + 1) hlt
      have c0 := (hnx.1.cell (p := ⟨b, off + k * 2, none⟩) hb).trans c0
      have c1 := (hnx.1.cell (p := ⟨b, off + k * 2 + 1, none⟩) hb).trans c1
      have d0 := (hnx.1.cell (p := ⟨b, off + (k + 1) * 2, none⟩) hb).trans d0
      have d1 := (hnx.1.cell (p := ⟨b, off + (k + 1) * 2 + 1, none⟩) hb).trans d1
      have hE : edA L k = (L[k], L[k + 1]) := by unfold edA; rw [ptA_at (by omega), Nat.mod_eq_of_lt hlt, ptA_at hlt]
      have HY := Lib.hid (fun j => hY _ (L[k], L[k + 1]) (wr.drewN j) (hJ _ _ _ none hJs (grown_drewN wr j) (fun r h => by cases h)) (by rw [upto_length]; omega))
      have HE := Lib.hid hE
      clear hE
      generalize L[k] = p at *
      generalize L[k + 1] = q at *
      have hlt2 : k < L.length := by omega
      have x1 : IntKind.i64.wrap ((k : Int) + 1 - 1) = (k : Int) := by rw [IntWalk.i64_in _ (by omega)]; omega
      have x2 : IntKind.i64.wrap (((k + 1 : Nat) : Int) - 1) = (k : Int) := by rw [IntWalk.i64_in _ (by omega)]; omega
      have x3 : IntKind.i64.wrap (k : Int) = (k : Int) := by rw [IntWalk.i64_in _ (by omega)]
      gi_wp2
      refine region_then (Open.wide _) 10 hmx (by kernel_rfl) (C := fun w' => ∃ n, w' = wr.drewN n) ⟨1, rfl⟩ ?_
      dsimp only [List.take, List.drop]
      repeat (go_big_quiet_step (fail))
      refine wpQuiet_nil ?_
      rintro _ ⟨nq, rfl⟩
      obtain ⟨fn, tmps, assign, body, hy, hR⟩ := HY.out nq
      dsimp only [encE] at hy
      clear x1 x2 x3
      gi_wp2
      refine hR.mono ?_
      rintro e W3 (⟨rfl, hJ3, hk3⟩ | ⟨rfl, hJx3⟩)
      · have HJ3 := Lib.hid hJ3
        have HK3 := Lib.hid ((hnx.drewN nq).trans hk3)
        clear hJ3 hk3 c0 c1 d0 d1 hB hy hR
        gi_wp2
        go_roundw
        case rel => exact ⟨k + 1, by omega, by go_num, by rw [upto_succ, HE.out]; exact HJ3.out, HK3.out⟩
        case measure => simp [intOf]; omega
      · have HJ3 := Lib.hid hJx3
        clear hJx3 c0 c1 d0 d1 hB hy hR
        gi_wp2
        refine bodyPost_ret (results_none rfl _ _ _) rfl ?_
        exact ⟨⟨_, rfl⟩, .inr ⟨_, ⟨k + 1, by omega, (upto_succ _ _).symm⟩, by rw [HE.out]; exact HJ3.out⟩⟩
    · have hk1 : k + 1 = L.length := by omega
      obtain ⟨c0, c1⟩ := hc k (by omega)
      obtain ⟨d0, d1⟩ := hc 0 hne
      have c0 := (hnx.1.cell (p := ⟨b, off + k * 2, none⟩) hb).trans c0
      have c1 := (hnx.1.cell (p := ⟨b, off + k * 2 + 1, none⟩) hb).trans c1
      have d0 := (hnx.1.cell (p := ⟨b, off + 0 * 2, none⟩) hb).trans d0
      have d1 := (hnx.1.cell (p := ⟨b, off + 0 * 2 + 1, none⟩) hb).trans d1
      have hE : edA L k = (L[k], L[0]) := by unfold edA; rw [ptA_at (by omega), hk1, Nat.mod_self, ptA_at hne]
      have HY := Lib.hid (fun j => hY _ (L[k], L[0]) (wr.drewN j) (hJ _ _ _ none hJs (grown_drewN wr j) (fun r h => by cases h)) (by rw [upto_length]; omega))
      have HE := Lib.hid hE
      clear hE
      generalize L[k] = p at *
      generalize L[0] = q at *
      have y1 : IntKind.i64.wrap ((L.length : Int) - 1) = (L.length : Int) - 1 := IntWalk.i64_in _ (by omega)
      have y2 : ((L.length : Int) - 1).toNat = k := by omega
      have y3 : 0 ≤ (L.length : Int) - 1 := by omega
      have y4 : (L.length : Int) - 1 < (L.length : Int) := by omega
      simp only [Nat.zero_mul, Nat.add_zero] at d0 d1
      gi_wp2
      refine region_then (Open.wide _) 10 hmx (by kernel_rfl) (C := fun w' => ∃ n, w' = wr.drewN n) ⟨1, rfl⟩ ?_
      dsimp only [List.take, List.drop]
      repeat (go_big_quiet_step (fail))
      refine wpQuiet_nil ?_
      rintro _ ⟨nq, rfl⟩
      obtain ⟨fn, tmps, assign, body, hy, hR⟩ := HY.out nq
      dsimp only [encE] at hy
      clear y1 y2 y3 y4
      gi_wp2
      refine hR.mono ?_
      rintro e W3 (⟨rfl, hJ3, hk3⟩ | ⟨rfl, hJx3⟩)
      · clear c0 c1 d0 d1 hB hy hR
        gi_wp2
        go_end0
        exact ⟨⟨_, rfl⟩, .inl ⟨_, rfl, by rw [← hk1, upto_succ, HE.out]; exact hJ3⟩⟩
      · clear c0 c1 d0 d1 hB hy hR
        gi_wp2
        go_end0
        exact ⟨⟨_, rfl⟩, .inr ⟨_, ⟨k + 1, by omega, (upto_succ _ _).symm⟩, by rw [HE.out]; exact hJx3⟩⟩

set_option maxRecDepth 100000 in
set_option maxHeartbeats 2000000 in
/-- .. of no points: no edge. -/
theorem edges1_nil_in (n : Nat) (l Bs cap : Nat) (p : Option Addr) (J : List ((Int × Int) × (Int × Int)) → World → Prop) (W : World) (hBs : W.cell? ⟨Bs, 0, none⟩ = some (.slice p 0 cap)) (h0 : J [] W) :
    CallsIn Fence.wide n Try.prog 104 #[.func (.yield l) #[] #[], .pointer (some ⟨Bs, 0, none⟩)] W fun e W' => (∃ v, e = .returned v) ∧ J [] W' := by
  refine callsIn_of_wp Try.func104 rfl trivial ?_ rfl
  simp only [Try.ntmps104, List.size_toArray, List.length_cons, List.length_nil, Nat.reduceAdd, Nat.reduceSub, Array.replicate_succ, Array.replicate_zero, List.push_toArray, List.append_toArray, List.nil_append, List.cons_append]
  gi_wp2
  gi_loopw [3] (fun i wr => i = .int .i64 1 ∧ wr = W) (fun _ _ => 0)
  case atStart => exact ⟨rfl, rfl⟩
  case round =>
    obtain ⟨rfl, rfl⟩ := hrel
    gi_wp2
    go_end0
    exact ⟨⟨_, rfl⟩, h0⟩

set_option maxHeartbeats 1000000 in
/-- edges(l): the slice is boxed; the function captures the box. -/
theorem edges_any (p : Option Addr) (len cap : Nat) (w : World) :
    Calls Try.prog 82 #[.slice p len cap] w fun e w' => e = .returned (.func (.func 104) #[] #[.pointer (some ⟨w.heap.size, 0, none⟩)]) ∧ w' = w.alloc (.cells #[.slice p len cap] 22) := by
  go_enter Try.func82, Try.ntmps82
  go_wp2
  go_ret
  exact ⟨rfl, rfl⟩

/-- **The edges of a ring**: all, from the first point on; or, where a round ends them, the first k of them. -/
theorem edges_stops (n : Nat) (hn : 1 ≤ n) (Bs n₀ : Nat) (v : Value) (L : List (Int × Int)) (hL : L.length ≤ 1000000) (w : World) (hBn : Bs < w.heap.size)
    (hc : w.cell? ⟨Bs, 0, none⟩ = some v) (hI : PL w v L) (hb : ∀ q, v.ownBlock = some q → L ≠ [] → q < n₀) :
    SeqStopsK Fence.wide n Try.prog 104 #[.pointer (some ⟨Bs, 0, none⟩)] encE (EK n₀ Bs) (fun ys => ys = upto (edA L) L.length) (fun pre => ∃ k, k ≤ L.length ∧ pre = upto (edA L) k) L.length w := fun l J Jx W hW hJ _ hY h0 => by
  have hc' := (hW.cell (p := ⟨Bs, 0, none⟩) hBn).trans hc
  obtain ⟨p, cap, rfl, hcap, hi⟩ := hI.keep hW
  by_cases hz : L.length = 0
  · rw [hz] at hc'
    have e : L = [] := List.eq_nil_of_length_eq_zero hz
    subst e
    exact (edges1_nil_in n l Bs cap p J W hc' h0).mono fun e W' ⟨he, hj⟩ => ⟨he, .inl ⟨_, rfl, hj⟩⟩
  · obtain ⟨b, off, rfl, hlt, _, _⟩ := hi 0 (by omega)
    refine edges1_in n hn l Bs n₀ b off cap L hL (hb b rfl (fun e => hz (by rw [e]; rfl))) (by omega) J Jx W hJ hY hc' (fun i hil => ?_) h0
    obtain ⟨b', off', e, _, c0, c1⟩ := hi i hil
    obtain ⟨rfl, rfl⟩ : b' = b ∧ off' = off := by injection e with e; injection e with e1 e2; exact ⟨e1.symm, e2.symm⟩
    exact ⟨c0, c1⟩
end Go.Proofs.Ytkibjbbhiclkmaa
