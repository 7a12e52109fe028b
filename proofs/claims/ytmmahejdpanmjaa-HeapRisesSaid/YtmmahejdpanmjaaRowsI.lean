/- The walk of order.Rows: the numbers of rows in order. -/
import Derived.Test.YtmmahejdpanmjaaCmp
import Derived.Test.YtmmahejdpanmjaaSorted
import Derived.Deep.OwnRows
namespace Go.Proofs.Ytmmahejdpanmjaa
open Go.RowKit Go.Sort Go.Deep

/-- A slice of slices of numbers. -/
def RL (W : World) (v : Value) (R : List (List Int)) : Prop :=
  ∃ q c, v = .slice q R.length c ∧ R.length ≤ c ∧ ∀ i (h : i < R.length), ∃ g o e, q = some ⟨g, o, none⟩ ∧ W.cell? ⟨g, o + i, none⟩ = some e ∧ IL W W.heap.size e R[i]
theorem RL.keep {W w1 : World} {v : Value} {R : List (List Int)} (hb : Below W.heap.size W w1) (h : RL W v R) : RL w1 v R := by
  obtain ⟨q, c, rfl, hc, h⟩ := h
  refine ⟨q, c, rfl, hc, fun i hi => ?_⟩
  obtain ⟨g, o, e, hq, h1, h2⟩ := h i hi
  exact ⟨g, o, e, hq, cell_later hb h1, h2.keep hb⟩
theorem RL.at {W : World} {q : Option Addr} {n c : Nat} {R : List (List Int)} (h : RL W (.slice q n c) R) {i : Nat} (hi : i < R.length) : ∃ g o e, q = some ⟨g, o, none⟩ ∧ W.cell? ⟨g, o + i, none⟩ = some e ∧ IL W W.heap.size e R[i] := by
  obtain ⟨q1, c1, e, _, h⟩ := h
  cases e
  exact h i hi
theorem rowAt_at {R : List (List Int)} {i : Nat} (h : i < R.length) : rowAt R (i : Int) = R[i] := by
  unfold rowAt
  rw [List.getD_eq_getElem?_getD, Int.toNat_natCast, List.getElem?_eq_getElem h]; rfl
set_option maxRecDepth 100000 in
set_option maxHeartbeats 2000000 in
theorem rows1_any {W : World} {k : Nat} {v : Value} {R : List (List Int)} (hR : RL W v R) (h1 : W.cell? ⟨k, 0, none⟩ = some v) (hl : ∀ x ∈ R, x.length ≤ 9223372036854775807) {a b : Nat} (ha : a < R.length) (hb : b < R.length) :
    Calls Try.prog 50 #[.int .i64 (a : Int), .int .i64 (b : Int), .pointer (some ⟨k, 0, none⟩)] W fun e w' => e = .returned (.bool (rlt R a b)) ∧ Below W.heap.size W w' := by
  obtain ⟨q, c, rfl, hc, hx⟩ := id hR
  clear hx
  obtain ⟨g, o, ea, rfl, c1, I1⟩ := hR.at ha
  obtain ⟨g', o', eb, e, c2, I2⟩ := hR.at hb
  cases e
  have HI1 := Lib.hid I1
  have HI2 := Lib.hid I2
  have L1 := hl R[a] (List.getElem_mem _)
  have L2 := hl R[b] (List.getElem_mem _)
  have HP : Hid (rlt R a b = decide (cmpL R[a] R[b] < 0)) := Lib.hid (by unfold rlt; rw [rowAt_at ha, rowAt_at hb])
  have ha' : ((a : Nat) : Int) < ((R.length : Nat) : Int) := by omega
  have hb' : ((b : Nat) : Int) < ((R.length : Nat) : Int) := by omega
  clear hR I1 I2 hl
  generalize R[a] = A at *
  generalize R[b] = B at *
  have HPt := Lib.hid (fun (W1 : World) (hB : Below W.heap.size W W1) => ocmp_any (HI1.out.keep hB) (HI2.out.keep hB) L1 L2)
  rw [HP.out]
  go_enter Try.func50, Try.ntmps50
  go_wp2_with fail
  go_region_held3 (fun W' => W'.cell? ⟨k, 0, none⟩ = some (.slice (some ⟨g, o, none⟩) R.length c) ∧ W'.cell? ⟨g, o + a, none⟩ = some ea ∧ W'.cell? ⟨g, o + b, none⟩ = some eb ∧ Below W.heap.size W W') (first | assumption | exact ⟨h1, c1, c2, Below.refl _ _⟩ | exact ⟨h1, c1, c2, (Below.refl _ _).drew⟩) (first | (go_at_call 10; refine (HPt.out _ (by first | exact Below.refl _ _ | exact (Below.refl _ _).drew | assumption)).mono ?_; rintro e w1 ⟨rfl, hb1⟩; have hS1 : w1.cell? ⟨k, 0, none⟩ = some (.slice (some ⟨g, o, none⟩) R.length c) ∧ w1.cell? ⟨g, o + a, none⟩ = some ea ∧ w1.cell? ⟨g, o + b, none⟩ = some eb ∧ Below W.heap.size W w1 := ⟨cell_later hb1 (by first | exact h1 | assumption), cell_later hb1 (by first | exact c1 | assumption), cell_later hb1 (by first | exact c2 | assumption), by first | exact hb1 | exact below_after (Below.refl _ _).drew hb1⟩))
  go_wp2_with fail
  go_ret
  exact ⟨rfl, by first | exact hS1.2.2.2 | assumption⟩
theorem run_make_nn (n : Nat) (hn : n ≤ 1000000) (w : World) : (Instr.makeSlice 24 (.int .i64 (n : Int)) (.int .i64 (n : Int))).run Try.prog w = .ok (.slice (some ⟨w.heap.size, 0, none⟩) n n) (w.alloc (.cells (madeCells #[.int .i64 0] n) 3)) := by
  obtain ⟨i0, hi, hz0, hz1, hz2⟩ := info_parts infoI
  have h := run_make (P := Try.prog) w 24 3 i0 (.int .i64 0) Try.underlying24 hi hz0 .i64 .i64 (n : Int) (n : Int) (by omega) (Int.le_refl _) (by rw [hz2]; omega) (by omega)
  rw [hz1] at h
  simpa [Value.cells] using h
def RowsPost (R : List (List Int)) (w : World) (e : Ending) (w' : World) : Prop :=
  ∃ u, e = .returned u ∧ w'.ownsRow w.heap.size 3 1 u R.length (icells (srt (rlt R) (nums R.length))) ∧ Below w.heap.size w w'
/-- While the numbers are written. -/
structure NumW (w W : World) (v : Value) (n i : Nat) : Prop where
  row : W.rowIs (w.heap.size + 1) 3 n (fun j => .int .i64 (if j < i then (j : Int) else 0))
  box : W.cell? ⟨w.heap.size, 0, none⟩ = some v
  below : Below w.heap.size w W
theorem NumW.put {w W : World} {v : Value} {n i : Nat} (h : NumW w W v n i) : NumW w (W.setCell ⟨w.heap.size + 1, i, none⟩ (.int .i64 (i : Int))) v n (i + 1) := by
  refine ⟨(h.row.set i _).congr (fun j hj => ?_), ?_, h.below.setCell (p := ⟨w.heap.size + 1, i, none⟩) (by simp) _⟩
  · by_cases e : j = i
    · subst e; simp
    · rw [if_neg e]
      by_cases k : j < i
      · rw [if_pos k, if_pos (by omega)]
      · rw [if_neg k, if_neg (by omega)]
  · rw [World.cell?_setCell_other _ _ _ _ (by intro e; injection e with e1; simp at e1)]; exact h.box
theorem NumW.il {w W : World} {v : Value} {n : Nat} (h : NumW w W v n n) : IL W W.heap.size (.slice (some ⟨w.heap.size + 1, 0, none⟩) n n) (nums n) := by
  refine ⟨_, n, by rw [nums_len], by rw [nums_len]; exact Nat.le_refl _, fun i hi => ⟨_, 0, rfl, ?_, ?_⟩⟩
  · have := h.row.lt; omega
  · rw [nums_at, Nat.zero_add, h.row.cell (by rw [nums_len] at hi; exact hi), if_pos (by rw [nums_len] at hi; exact hi)]
set_option maxRecDepth 100000 in
set_option maxHeartbeats 2000000 in
theorem rows_any {w : World} {v : Value} {R : List (List Int)} (hR : RL w v R) (hn : R.length ≤ 1000) (hl : ∀ x ∈ R, x.length ≤ 9223372036854775807) :
    Calls Try.prog 18 #[v] w (RowsPost R w) := by
  have HR := Lib.hid hR
  have HL := Lib.hid hl
  obtain ⟨q, c, rfl, hc, hx⟩ := hR
  clear hx hl
  have hmk := run_make_nn R.length (by omega) (w.alloc (.cells #[.slice q R.length c] 23))
  rw [World.size_alloc] at hmk
  have H0 : Hid (NumW w ((w.alloc (.cells #[.slice q R.length c] 23)).alloc (.cells (madeCells #[.int .i64 0] R.length) 3)) (.slice q R.length c) R.length 0) := Lib.hid
    ⟨by have := World.rowIs_made (w.alloc (.cells #[.slice q R.length c] 23)) (.int .i64 0) R.length 3
        rw [World.size_alloc] at this
        exact this.congr (fun j _ => by simp), by go_simp, ((Below.refl _ _).alloc (Nat.le_refl _) _).alloc (by rw [World.size_alloc]; omega) _⟩
  go_enter Try.func18, Try.ntmps18
  go_wp2_with fail
  go_loopg [10] R.length (fun gk s wx => ∃ i : Nat, gk = R.length - i ∧ i ≤ R.length ∧ s = .int .i64 (i : Int) ∧ Hid (NumW w wx (.slice q R.length c) R.length i))
  case atStart => exact ⟨0, rfl, by omega, rfl, H0⟩
  case round =>
    clear H0 hmk
    obtain ⟨i, hgk, hi, rfl, HN⟩ := hrel
    by_cases hlt : i < R.length
    · have c1 := HN.out.row.cell hlt
      have f1 := HN.out.row.frozen i
      have HN2 := Lib.hid HN.out.put
      go_wp2_with fail
      go_roundg (R.length - (i + 1))
      case measure => omega
      case rel => exact ⟨i + 1, rfl, by omega, by push_cast; rfl, HN2⟩
    · obtain rfl : i = R.length := by omega
      have HW := Lib.hid HN.out.below
      have HS := Lib.hid (sorted_any 50 #[.pointer (some ⟨w.heap.size, 0, none⟩)] (rlt R) (fun x => 0 ≤ x ∧ x < R.length) HN.out.il (by rw [nums_len]; exact hn) (fun x hx => mem_nums.1 hx)
        (fun args W => by first | rfl | simp [callFunc])
        (fun W x y hb hx hy => by
          obtain ⟨a, rfl⟩ := Int.eq_ofNat_of_zero_le hx.1
          obtain ⟨b, rfl⟩ := Int.eq_ofNat_of_zero_le hy.1
          exact rows1_any (HR.out.keep (below_after HW.out hb)) (cell_later hb HN.out.box) HL.out (by have := hx.2; omega) (by have := hy.2; omega)))
      go_wp2_with (go_at_call 49; refine Calls.mono HS.out ?_; rintro e w1 ⟨u, rfl, ho, hb⟩)
      go_ret
      exact ⟨u, rfl, by have := own_base ho HW.out.size; rw [nums_len] at this; exact this, below_after HW.out hb⟩
end Go.Proofs.Ytmmahejdpanmjaa
