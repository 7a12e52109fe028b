/- The parts of a message, given by a function that is ranged over: its contract. -/
import Derived.RangeFuncNested
import Derived.RangeFuncBound
import Derived.RangeFuncCalls
import Derived.RangeFuncLeaves
import Derived.RangeFuncBox
import Derived.Shelf.Abstract
import Derived.Shelf.RegionOpen
import Derived.WalkKit
import Derived.OwnWalkIn
import Derived.TacticsInMore
import Derived.LoopNIn
import Derived.LoopIn
import Derived.Test.YtcbgknlklpandaaProR
namespace Go.Proofs.Ytcbgknlklpandaa
open Go.RowKit Go.Shelf Go.Sort
attribute [local go_sem] Oper.semAt_some

/-- A part of bytes: a field, its place, the error. -/
structure Prt (v : Value) (b : List Nat) where
  f : Fd
  q : Option Addr
  c : Nat
  at' : Nat
  e : Nat
  ok : ∀ V, KL .u8 V v b → KL .u8 V (.slice q f.b.length c) f.b
  len : f.b.length ≤ b.length
def encP8 {v : Value} {b : List Nat} (x : Prt v b) : Array Value := #[.agg #[.int .i64 x.f.num, .int .i64 x.f.kind, .int .u64 (x.f.n : Int), .slice x.q x.f.b.length x.c, .int .i64 (x.at' : Int), .int .i64 (x.e : Int)]]
def prS {v : Value} {b : List Nat} (x : Prt v b) : Fd × Nat × Nat := (x.f, x.at', x.e)
/-- All parts from a place on. -/
def prR : Nat → List Nat → Nat → List (Fd × Nat × Nat)
  | 0, _, _ => []
  | g + 1, b, i => if i < b.length then (if (rdF (b.drop i)).2.2 = 0 then ((rdF (b.drop i)).1, i, 0) :: prR g b (i + (rdF (b.drop i)).2.1) else [((rdF (b.drop i)).1, i, (rdF (b.drop i)).2.2)]) else []
def prD (b : List Nat) : List (Fd × Nat × Nat) := prR (b.length + 1) b 0
theorem pr_all : ∀ (g : Nat) (b : List Nat) (i : Nat) (acc : List Fd), (∀ x ∈ prR g b i, x.2.2 = 0) → alR g b i acc = (acc ++ (prR g b i).map (·.1), 0, 0)
  | 0, b, i, acc, _ => by simp [alR, prR]
  | g + 1, b, i, acc, h => by
    rw [alR]
    rw [prR] at h ⊢
    by_cases hi : i < b.length
    · rw [if_pos hi] at h ⊢
      rw [if_pos hi]
      by_cases he : (rdF (b.drop i)).2.2 = 0
      · rw [if_pos he] at h ⊢
        rw [if_pos he, pr_all g b _ _ (fun x hx => h x (List.mem_cons_of_mem _ hx)), List.map_cons, List.append_assoc]
        rfl
      · rw [if_neg he] at h
        exact absurd (h _ List.mem_cons_self) he
    · rw [if_neg hi, if_neg hi]; simp
theorem pr_bad : ∀ (pre : List (Fd × Nat × Nat)) (g : Nat) (b : List Nat) (i : Nat) (acc : List Fd) (f : Fd) (p e : Nat) (t : List (Fd × Nat × Nat)), prR g b i = pre ++ (f, p, e) :: t → (∀ x ∈ pre, x.2.2 = 0) → e ≠ 0 → alR g b i acc = ([], p, e)
  | pre, 0, b, i, acc, f, p, e, t, h, _, _ => by rw [prR] at h; simp at h
  | pre, g + 1, b, i, acc, f, p, e, t, h, h1, h2 => by
    rw [alR]
    rw [prR] at h
    by_cases hi : i < b.length
    · rw [if_pos hi] at h ⊢
      by_cases he : (rdF (b.drop i)).2.2 = 0
      · rw [if_pos he] at h ⊢
        match pre, h, h1 with
        | [], h, _ =>
          rw [List.nil_append] at h
          injection h with h _
          injection h with _ h
          injection h with _ h
          exact absurd h.symm h2
        | y :: pre, h, h1 =>
          rw [List.cons_append] at h
          injection h with _ h
          exact pr_bad pre g b _ _ f p e t h (fun x hx => h1 x (List.mem_cons_of_mem _ hx)) h2
      · rw [if_neg he] at h ⊢
        match pre, h, h1 with
        | [], h, _ =>
          rw [List.nil_append] at h
          injection h with h _
          injection h with _ h
          injection h with h3 h4
          subst h3 h4
          rfl
        | y :: pre, h, h1 =>
          rw [List.cons_append] at h
          injection h with h _
          have := h1 y List.mem_cons_self
          rw [← h] at this
          exact absurd this he
    · rw [if_neg hi] at h; simp at h
/-- What a round keeps: all below, and the slice's box. -/
def EK8 (n₀ Bs : Nat) (W W' : World) : Prop := Below n₀ W W' ∧ ∀ x, W.cell? ⟨Bs, 0, none⟩ = some x → W'.cell? ⟨Bs, 0, none⟩ = some x
theorem EK8.refl (n₀ Bs : Nat) (W : World) : EK8 n₀ Bs W W := ⟨Below.refl _ _, fun _ h => h⟩
theorem EK8.trans {n₀ Bs : Nat} {A B C : World} (h : EK8 n₀ Bs A B) (k : EK8 n₀ Bs B C) : EK8 n₀ Bs A C := ⟨h.1.trans k.1, fun x hx => k.2 x (h.2 x hx)⟩
theorem EK8.putObj {n₀ Bs : Nat} {w : World} (hn : n₀ ≤ w.heap.size) (W : World) (l : Nat) (o o' : Obj) (hl : w.heap.size ≤ l) (h : W.heap[l]? = some o) (hc : o.isCells = false) (hw : o.isWalk = false) : EK8 n₀ Bs W (W.putObj l o') :=
  ⟨belowK_b hn W l o o' hl h hc hw, fun x hx => cell_kept hx (grownBy_putObj' _ l o') (fun r e => by cases e; exact ⟨o, h, hc⟩)⟩
theorem EK8.later {n₀ Bs : Nat} {A B C : World} (h : EK8 n₀ Bs A B) (hn : n₀ ≤ B.heap.size) (hb : Below B.heap.size B C) : EK8 n₀ Bs A C := ⟨h.1.trans (hb.mono hn), fun x hx => cell_later hb (h.2 x hx)⟩
/-- Bytes that lie below. -/
theorem KL.under {n₀ : Nat} {W W' : World} {v : Value} {b : List Nat} (h : KL .u8 W v b) (hn : ∀ q, v.ownBlock = some q → b ≠ [] → q < n₀) (hb : Below n₀ W W') : KL .u8 W' v b := by
  obtain ⟨q, c, rfl, hl, hx⟩ := h
  refine ⟨q, c, rfl, hl, fun i hi => ?_⟩
  obtain ⟨g, o, rfl, hc⟩ := hx i hi
  have hg := hn g rfl (fun e => by subst e; simp at hi)
  exact ⟨g, o, rfl, (hb.cell (p := ⟨g, o + i, none⟩) hg).trans hc⟩
theorem parts_any (q : Option Addr) (n c : Nat) (w : World) :
    Calls Try.prog 79 #[.slice q n c] w fun e w' => e = .returned (.func (.func 111) #[] #[.pointer (some ⟨w.heap.size, 0, none⟩)]) ∧ w' = w.alloc (.cells #[.slice q n c] 62) := by
  go_enter Try.func79, Try.ntmps79
  go_wp2
  go_ret
  exact ⟨rfl, rfl⟩
theorem prd_step {b : List Nat} {i : Nat} (hb : ∀ x ∈ b, x < 256) (h : (rdF (b.drop i)).2.2 = 0) : 0 < (rdF (b.drop i)).2.1 ∧ i + (rdF (b.drop i)).2.1 ≤ b.length ∨ b.length < i := by
  have hr : rdF (b.drop i) = ((rdF (b.drop i)).1, (rdF (b.drop i)).2.1, 0) := by rw [← h]
  obtain ⟨_, k1, k2, _⟩ := rdF_ok (fun x hx => hb x (List.mem_of_mem_drop hx)) hr
  rw [List.length_drop] at k2
  by_cases hi : i ≤ b.length
  · exact .inl ⟨k1, by omega⟩
  · exact .inr (by omega)
set_option maxRecDepth 100000 in
set_option maxHeartbeats 4000000 in
theorem parts1_in (n : Nat) (hn : 1 ≤ n) (l Bs n₀ : Nat) (v : Value) (b : List Nat) (hb : ∀ x ∈ b, x < 256) (hl : b.length ≤ 1000000) (J Jx : List (Prt v b) → World → Prop)
    (W : World) (hn0 : n₀ ≤ W.heap.size) (hJ : AbidesFrom W.heap.size J)
    (hY : ∀ pre x W, J pre W → pre.length < b.length → YieldAt Fence.wide (n - 1) Try.prog l (encP8 x) W fun e W' =>
      (e = .returned (.bool true) ∧ J (pre ++ [x]) W' ∧ EK8 n₀ Bs W W') ∨ (e = .returned (.bool false) ∧ Jx (pre ++ [x]) W'))
    (hBs : W.cell? ⟨Bs, 0, none⟩ = some v) (hK : KL .u8 W v b) (hq : ∀ q, v.ownBlock = some q → b ≠ [] → q < n₀) (h0 : J [] W) :
    CallsIn Fence.wide n Try.prog 111 #[.func (.yield l) #[] #[], .pointer (some ⟨Bs, 0, none⟩)] W fun e W' => (∃ v, e = .returned v) ∧
      ((∃ ys, ys.map prS = prD b ∧ J ys W') ∨ (∃ pre, (∃ t, pre.map prS ++ t = prD b) ∧ Jx pre W')) := by
  have hmx : Try.prog.follows .mixedOrders = true := by kernel_rfl
  obtain ⟨qv, c, rfl, hlc, _⟩ := id hK
  refine callsIn_of_wp Try.func111 rfl trivial ?_ rfl
  simp only [Try.ntmps111, List.size_toArray, List.length_cons, List.length_nil, Nat.reduceAdd, Nat.reduceSub, Array.replicate_succ, Array.replicate_zero, List.push_toArray, List.append_toArray, List.nil_append, List.cons_append]
  gi_wp2
  gi_loopw [3] (fun i wr => ∃ (k gas : Nat) (pre : List (Prt (.slice qv b.length c) b)), k ≤ b.length ∧ b.length < k + gas ∧ i = .int .i64 (k : Int) ∧ pre.length ≤ k ∧ pre.map prS ++ prR gas b k = prD b ∧ J pre wr ∧ EK8 n₀ Bs W wr ∧ W.heap.size ≤ wr.heap.size)
    (fun i _ => b.length + 1 - (intOf i).toNat)
  case atStart => exact ⟨0, b.length + 1, [], Nat.zero_le _, by omega, rfl, Nat.le_refl _, rfl, h0, EK8.refl _ _ _, Nat.le_refl _⟩
  case round =>
    obtain ⟨k, gas, pre, hkb, hgas, rfl, hpk, hE, hJs, hnx, hsz⟩ := hrel
    have hB := hnx.2 _ hBs
    have HE := Lib.hid hE
    have HJs := Lib.hid hJs
    clear hE hJs
    by_cases hlt : k < b.length
    · have hltz : (k : Int) < (b.length : Int) := by omega
      obtain ⟨g, o, rfl, hkc, hKd⟩ := (hK.under hq hnx.1).drop hlt
      have y3 : ¬ k = c := by omega
      have y4 : ¬ c = k := by omega
      have y5 : ¬ c - k = 0 := by omega
      have y6 : (k : Int) ≤ (c : Int) := by omega
      have y7 : (b.length : Int) ≤ (c : Int) := by omega
      have y8 : (k : Int) ≤ (b.length : Int) := by omega
      have HL := Lib.hid (plook_any hKd (fun x hx => hb x (List.mem_of_mem_drop hx)) (by rw [List.length_drop]; omega))
      have hbl := rdF_blen (b := b.drop k) (fun x hx => hb x (List.mem_of_mem_drop hx))
      rw [List.length_drop] at hbl
      have HSt := Lib.hid (prd_step (i := k) hb)
      have HFr : Hid (∀ V, KL .u8 V (.slice (some ⟨g, o, none⟩) b.length c) b → KL .u8 V (.slice (some ⟨g, o + k, none⟩) (b.length - k) (c - k)) (b.drop k)) := Lib.hid (fun V h => h.from2 hkb (by omega) (.inl rfl))
      obtain ⟨gs, rfl⟩ : ∃ gs, gas = gs + 1 := ⟨gas - 1, by omega⟩
      have HP : Hid (pre.map prS ++ (if (rdF (b.drop k)).2.2 = 0 then ((rdF (b.drop k)).1, k, 0) :: prR gs b (k + (rdF (b.drop k)).2.1) else [((rdF (b.drop k)).1, k, (rdF (b.drop k)).2.2)]) = prD b) := Lib.hid (by have h := HE.out; rw [prR, if_pos hlt] at h; exact h)
      unfold LkPost at HL
      generalize rdF (b.drop k) = r at *
      obtain ⟨f, m, e⟩ := r
      dsimp only at *
      clear HE hKd
      gi_wp2_with fail
      refine ⟨trivial, (callsIn_wide.2 HL.out).mono ?_⟩
      rintro en w1 ⟨qf, cf, rfl, hkl, hb1⟩
      have HB1 := Lib.hid (below_after hb1 (below_alloc w1 (.cells #[.int .i64 f.num, .int .i64 f.kind, .int .u64 (f.n : Int), .slice qf f.b.length cf] 77)))
      have HEK := Lib.hid (hnx.later (Nat.le_trans hn0 hsz) HB1.out)
      have hsz1 : W.heap.size ≤ w1.heap.size := Nat.le_trans hsz hb1.size
      have HJ1 := Lib.hid (hJ _ _ _ none HJs.out (grown_below (row := none) HB1.out) (fun r h => by cases h))
      have hY1 := hY pre ⟨f, qf, cf, k, e, fun V hV => hkl V (HFr.out V hV), by omega⟩ (w1.alloc (.cells #[.int .i64 f.num, .int .i64 f.kind, .int .u64 (f.n : Int), .slice qf f.b.length cf] 77)) HJ1.out (by omega)
      obtain ⟨fn, tmps, assign, body, hy, hR⟩ := hY1
      dsimp only [encP8] at hy
      have hB1 : w1.cell? ⟨Bs, 0, none⟩ = some (.slice (some ⟨g, o, none⟩) b.length c) := cell_later hb1 hB
      have hB2 := cell_later (below_alloc w1 (.cells #[.int .i64 f.num, .int .i64 f.kind, .int .u64 (f.n : Int), .slice qf f.b.length cf] 77)) hB1
      have HR := Lib.hid hR
      clear hb1 HL hR HJs hJ hY
      by_cases he : e = 0
      · subst he
        rw [show ((0 : Nat) : Int) = 0 from rfl] at hy
        have HP1 : Hid (pre.map prS ++ (f, k, 0) :: prR gs b (k + m) = prD b) := Lib.hid (by have h := HP.out; rw [if_pos rfl] at h; exact h)
        obtain ⟨m1, m2⟩ : 0 < m ∧ k + m ≤ b.length := by have := HSt.out rfl; omega
        have xk : IntKind.i64.wrap ((k : Int) + (m : Int)) = ((k + m : Nat) : Int) := by rw [IntWalk.i64_in _ (by omega)]; omega
        clear HP HSt
        gi_wp2
        refine HR.out.mono ?_
        rintro e2 W3 (⟨rfl, hJ3, hk3⟩ | ⟨rfl, hJx3⟩)
        · have HJ3 := Lib.hid hJ3
          have HK3 := Lib.hid (HEK.out.trans hk3)
          clear hJ3 hk3 hB hB1 hB2 hy
          gi_wp2
          go_roundw
          case rel => exact ⟨k + m, gs, _, m2, by omega, by go_num, by rw [List.length_append]; simp; omega, by rw [List.map_append, List.append_assoc]; exact HP1.out, HJ3.out, HK3.out, HK3.out.1.size⟩
          case measure => simp [intOf]; omega
        · have HJ3 := Lib.hid hJx3
          clear hJx3 hB hB1 hB2 hy
          gi_wp2
          refine bodyPost_ret (results_none rfl _ _ _) rfl ?_
          exact ⟨⟨_, rfl⟩, .inr ⟨_, ⟨prR gs b (k + m), by rw [List.map_append, List.append_assoc]; exact HP1.out⟩, HJ3.out⟩⟩
      · have HP1 : Hid (pre.map prS ++ [(f, k, e)] = prD b) := Lib.hid (by have h := HP.out; rw [if_neg he] at h; exact h)
        have hez : ¬ (e : Int) = 0 := by omega
        clear HP HSt
        gi_wp2
        refine HR.out.mono ?_
        rintro e2 W3 (⟨rfl, hJ3, hk3⟩ | ⟨rfl, hJx3⟩)
        · have HJ3 := Lib.hid hJ3
          clear hJ3 hk3 hB hB1 hB2 hy
          gi_wp2
          refine bodyPost_ret (results_none rfl _ _ _) rfl ?_
          exact ⟨⟨_, rfl⟩, .inl ⟨_, by rw [List.map_append]; exact HP1.out, HJ3.out⟩⟩
        · have HJ3 := Lib.hid hJx3
          clear hJx3 hB hB1 hB2 hy
          gi_wp2
          refine bodyPost_ret (results_none rfl _ _ _) rfl ?_
          exact ⟨⟨_, rfl⟩, .inr ⟨_, ⟨[], by rw [List.map_append, List.append_nil]; exact HP1.out⟩, HJ3.out⟩⟩
    · have hltz : ¬ (k : Int) < (b.length : Int) := by omega
      have HFin : Hid (∃ ys : List (Prt (.slice qv b.length c) b), ys.map prS = prD b ∧ J ys wr) := Lib.hid ⟨pre, by
        have h := HE.out
        match gas, hgas with
        | 0, _ => rw [prR, List.append_nil] at h; exact h
        | g + 1, _ => rw [prR, if_neg hlt, List.append_nil] at h; exact h, HJs.out⟩
      gi_wp2
      go_end0
      exact ⟨⟨_, rfl⟩, .inl HFin.out⟩
end Go.Proofs.Ytcbgknlklpandaa
