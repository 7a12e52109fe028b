/- The fields that a box touches, given by a function that is ranged over: its contract. -/
import Derived.RangeFuncNested
import Derived.RangeFuncBound
import Derived.RangeFuncCalls
import Derived.RangeFuncLeaves
import Derived.RangeFuncBox
import Derived.Shelf.Abstract
import Derived.Shelf.RegionOpen
import Derived.WalkKit
import Derived.OwnWalkIn
import Derived.TacticsInMore
import Derived.LoopNIn
import Derived.LoopIn
import Derived.BigQuiet
import Derived.Deep.QuietTactic
import Derived.Test.YtenfaejdnphngaaRowsB
namespace Go.Proofs.Ytenfaejdnphngaa
open Go.RowKit Go.Shelf
attribute [local go_sem] Oper.semAt_some

def nR (lo hi : Int) : Nat := (hi - lo + 1).toNat
/-- The fields from lo to hi: i columns, and j fields of the next one. -/
def preR (lo hi : Int × Int) (i j : Nat) : List (Int × Int) :=
  (List.range i).flatMap (fun a : Nat => (List.range (nR lo.2 hi.2)).map (fun b : Nat => (lo.1 + (a : Int), lo.2 + (b : Int)))) ++ (List.range j).map (fun b : Nat => (lo.1 + (i : Int), lo.2 + (b : Int)))
theorem preR_zero (lo hi : Int × Int) : preR lo hi 0 0 = [] := rfl
theorem preR_succ (lo hi : Int × Int) (i j : Nat) : preR lo hi i (j + 1) = preR lo hi i j ++ [(lo.1 + (i : Int), lo.2 + (j : Int))] := by
  unfold preR
  rw [List.range_succ (n := j), List.map_append, List.append_assoc]
  rfl
theorem preR_col (lo hi : Int × Int) (i : Nat) : preR lo hi i (nR lo.2 hi.2) = preR lo hi (i + 1) 0 := by
  unfold preR
  rw [List.range_succ (n := i), List.flatMap_append]
  simp
theorem preR_len (lo hi : Int × Int) (i j : Nat) : (preR lo hi i j).length = i * nR lo.2 hi.2 + j := by
  unfold preR
  rw [List.length_append, List.length_map, List.length_range]
  congr 1
  induction i with
  | zero => simp
  | succ i ih => rw [List.range_succ, List.flatMap_append, List.length_append, ih]; simp; rw [Nat.succ_mul]
def rectR (lo hi : Int × Int) : List (Int × Int) := preR lo hi (nR lo.1 hi.1) 0
theorem mem_rect {lo hi f : Int × Int} : f ∈ rectR lo hi ↔ lo.1 ≤ f.1 ∧ f.1 ≤ hi.1 ∧ lo.2 ≤ f.2 ∧ f.2 ≤ hi.2 := by
  unfold rectR preR nR
  simp only [List.range_zero, List.map_nil, List.append_nil, List.mem_flatMap, List.mem_range, List.mem_map]
  constructor
  · rintro ⟨a, ha, b, hb, rfl⟩
    simp only
    omega
  · rintro ⟨h1, h2, h3, h4⟩
    exact ⟨(f.1 - lo.1).toNat, by omega, (f.2 - lo.2).toNat, by omega, by ext <;> simp only <;> omega⟩
def encF (f : Int × Int) : Array Value := #[.agg #[.int .i64 f.1, .int .i64 f.2]]
/-- What a round keeps: the two blocks of two numbers. -/
def KT (kl kh : Nat) (W W' : World) : Prop := (∀ o x, W.cell? ⟨kl, o, none⟩ = some x → W'.cell? ⟨kl, o, none⟩ = some x) ∧ (∀ o x, W.cell? ⟨kh, o, none⟩ = some x → W'.cell? ⟨kh, o, none⟩ = some x)
theorem KT.refl (kl kh : Nat) (W : World) : KT kl kh W W := ⟨fun _ _ h => h, fun _ _ h => h⟩
theorem KT.trans {kl kh : Nat} {A B C : World} (h : KT kl kh A B) (k : KT kl kh B C) : KT kl kh A C := ⟨fun o x hx => k.1 o x (h.1 o x hx), fun o x hx => k.2 o x (h.2 o x hx)⟩
theorem KT.putObj {kl kh : Nat} (W : World) (l : Nat) (o o' : Obj) (h : W.heap[l]? = some o) (hc : o.isCells = false) : KT kl kh W (W.putObj l o') :=
  ⟨fun _ x hx => cell_kept hx (grownBy_putObj' _ l o') (fun r e => by cases e; exact ⟨o, h, hc⟩), fun _ x hx => cell_kept hx (grownBy_putObj' _ l o') (fun r e => by cases e; exact ⟨o, h, hc⟩)⟩
theorem KT.below {kl kh : Nat} {W W1 : World} (hb : Below W.heap.size W W1) : KT kl kh W W1 := ⟨fun _ _ h => cell_later hb h, fun _ _ h => cell_later hb h⟩

set_option maxRecDepth 100000 in
set_option maxHeartbeats 4000000 in
theorem touch1_in (n : Nat) (hn : 1 ≤ n) (l kl kh : Nat) (lo hi : Int × Int) (b1 : -1073741824 ≤ lo.1 ∧ lo.1 ≤ hi.1 ∧ hi.1 ≤ 1073741824) (b2 : -1073741824 ≤ lo.2 ∧ lo.2 ≤ hi.2 ∧ hi.2 ≤ 1073741824) (J Jx : List (Int × Int) → World → Prop) (W : World)
    (hY : ∀ pre x W, J pre W → pre.length < nR lo.1 hi.1 * nR lo.2 hi.2 → YieldAt Fence.wide (n - 1) Try.prog l (encF x) W fun e W' =>
      (e = .returned (.bool true) ∧ J (pre ++ [x]) W' ∧ KT kl kh W W') ∨ (e = .returned (.bool false) ∧ Jx (pre ++ [x]) W'))
    (hl : P2At W kl lo) (hh : P2At W kh hi) (h0 : J [] W) :
    CallsIn Fence.wide n Try.prog 70 #[.func (.yield l) #[] #[], .pointer (some ⟨kl, 0, none⟩), .pointer (some ⟨kh, 0, none⟩)] W fun e W' => (∃ v, e = .returned v) ∧
      ((∃ ys, ys = rectR lo hi ∧ J ys W') ∨ (∃ pre, True ∧ Jx pre W')) := by
  have HY := Lib.hid hY
  have HL := Lib.hid hl
  have HH := Lib.hid hh
  have N1 : Hid (∀ i : Nat, i ≤ nR lo.1 hi.1 → hi.1 < lo.1 + (i : Int) → i = nR lo.1 hi.1) := Lib.hid (fun i h1 h2 => by unfold nR at *; omega)
  have N1' : Hid (∀ i : Nat, lo.1 + (i : Int) ≤ hi.1 → i < nR lo.1 hi.1) := Lib.hid (fun i h2 => by unfold nR at *; omega)
  have N2 : Hid (∀ i : Nat, i ≤ nR lo.2 hi.2 → hi.2 < lo.2 + (i : Int) → i = nR lo.2 hi.2) := Lib.hid (fun i h1 h2 => by unfold nR at *; omega)
  have N2' : Hid (∀ i : Nat, lo.2 + (i : Int) ≤ hi.2 → i < nR lo.2 hi.2) := Lib.hid (fun i h2 => by unfold nR at *; omega)
  obtain ⟨c0, c1⟩ := hl
  clear hY hh
  refine callsIn_of_wp Try.func70 rfl trivial ?_ rfl
  simp only [Try.ntmps70, List.size_toArray, List.length_cons, List.length_nil, Nat.reduceAdd, Nat.reduceSub, Array.replicate_succ, Array.replicate_zero, List.push_toArray, List.append_toArray, List.nil_append, List.cons_append]
  gi_wp2
  clear c0 c1
  gi_loopw [4] (fun x wr => ∃ i : Nat, i ≤ nR lo.1 hi.1 ∧ x = .int .i64 (lo.1 + (i : Int)) ∧ Hid (J (preR lo hi i 0) wr) ∧ Hid (KT kl kh W wr))
    (fun x _ => nR lo.1 hi.1 - (intOf x - lo.1).toNat)
  case atStart => exact ⟨0, Nat.zero_le _, by simp, Lib.hid h0, Lib.hid (KT.refl _ _ _)⟩
  case round =>
    obtain ⟨i, hi1, rfl, HJ, HK⟩ := hrel
    obtain ⟨d0, d1⟩ : P2At wr kh hi := ⟨HK.out.2 _ _ HH.out.1, HK.out.2 _ _ HH.out.2⟩
    obtain ⟨c0, c1⟩ : P2At wr kl lo := ⟨HK.out.1 _ _ HL.out.1, HK.out.1 _ _ HL.out.2⟩
    by_cases hlt : lo.1 + (i : Int) ≤ hi.1
    · have hi2 := N1'.out i hlt
      have x1 : IntKind.i64.wrap (lo.1 + (i : Int) + 1) = lo.1 + (i : Int) + 1 := IntWalk.i64_in _ (by omega)
      gi_wp2
      clear c0 c1 d0 d1
      gi_loopw [5] (fun y wy => ∃ j : Nat, j ≤ nR lo.2 hi.2 ∧ y = .int .i64 (lo.2 + (j : Int)) ∧ Hid (J (preR lo hi i j) wy) ∧ Hid (KT kl kh W wy))
        (fun y _ => nR lo.2 hi.2 - (intOf y - lo.2).toNat)
      case atStart => exact ⟨0, Nat.zero_le _, by simp, HJ, HK⟩
      case round =>
        obtain ⟨j, hj1, rfl, HJ2, HK2⟩ := hrel
        obtain ⟨d0, d1⟩ : P2At wr kh hi := ⟨HK2.out.2 _ _ HH.out.1, HK2.out.2 _ _ HH.out.2⟩
        by_cases hly : lo.2 + (j : Int) ≤ hi.2
        · have hj2 := N2'.out j hly
          have x2 : IntKind.i64.wrap (lo.2 + (j : Int) + 1) = lo.2 + (j : Int) + 1 := IntWalk.i64_in _ (by omega)
          have HYY := Lib.hid (HY.out (preR lo hi i j) (lo.1 + (i : Int), lo.2 + (j : Int)) wr HJ2.out (by rw [preR_len]; exact Nat.lt_of_lt_of_le (show i * nR lo.2 hi.2 + j < (i + 1) * nR lo.2 hi.2 by rw [Nat.succ_mul]; omega) (Nat.mul_le_mul_right _ hi2)))
          obtain ⟨fn, tmps, assign, body, hy, hR⟩ := HYY.out
          dsimp only [encF] at hy
          gi_wp2
          refine hR.mono ?_
          rintro e W3 (⟨rfl, hJ3, hk3⟩ | ⟨rfl, hJx3⟩)
          · have HJ3 := Lib.hid hJ3
            have HK3 := Lib.hid (HK2.out.trans hk3)
            clear hJ3 hk3 d0 d1 hy hR
            gi_wp2
            go_roundw
            case rel => exact ⟨j + 1, by omega, by push_cast; congr 1; omega, Lib.hid (by rw [preR_succ]; exact HJ3.out), HK3⟩
            case measure => simp [intOf]; omega
          · have HJ3 := Lib.hid hJx3
            clear hJx3 d0 d1 hy hR
            gi_wp2
            refine bodyPost_ret (results_none rfl _ _ _) rfl ?_
            exact ⟨⟨_, rfl⟩, .inr ⟨_, trivial, HJ3.out⟩⟩
        · have hly2 : hi.2 < lo.2 + (j : Int) := by omega
          obtain rfl := N2.out j hj1 hly2
          gi_wp2
          go_roundw
          case rel => exact ⟨i + 1, by omega, by push_cast; congr 1; omega, Lib.hid (by rw [← preR_col]; exact HJ2.out), HK2⟩
          case measure => simp [intOf]; omega
    · have hlt2 : hi.1 < lo.1 + (i : Int) := by omega
      obtain rfl := N1.out i hi1 hlt2
      gi_wp2
      go_end0
      exact ⟨⟨_, rfl⟩, .inl HJ.out⟩
/-- **The fields from lo to hi**, column by column. -/
theorem touch_stops (n : Nat) (hn : 1 ≤ n) (kl kh : Nat) (lo hi : Int × Int) (b1 : -1073741824 ≤ lo.1 ∧ lo.1 ≤ hi.1 ∧ hi.1 ≤ 1073741824) (b2 : -1073741824 ≤ lo.2 ∧ lo.2 ≤ hi.2 ∧ hi.2 ≤ 1073741824) (w : World) (hl : P2At w kl lo) (hh : P2At w kh hi) :
    SeqStopsK Fence.wide n Try.prog 70 #[.pointer (some ⟨kl, 0, none⟩), .pointer (some ⟨kh, 0, none⟩)] encF (KT kl kh) (fun ys => ys = rectR lo hi) (fun _ => True) (nR lo.1 hi.1 * nR lo.2 hi.2) w :=
  fun l J Jx W hW _ _ hY h0 => touch1_in n hn l kl kh lo hi b1 b2 J Jx W hY (hl.keep hW) (hh.keep hW) h0
end Go.Proofs.Ytenfaejdnphngaa
