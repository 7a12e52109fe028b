/- The heap's state; compare, Less, less, put. -/
import Derived.Test.YtbdmmgplpndobaaMapE
import Derived.Test.YtbdmmgplpndobaaCmp
import Derived.Deep.OwnRows
namespace Go.Proofs.Ytbdmmgplpndobaa
open Go.RowKit Go.Sort Go.Deep

def cmpE3 (a b : E3) : Int := if a.1 = b.1 then (if a.2.1 = b.2.1 then cmpI a.2.2 b.2.2 else cmpI a.2.1 b.2.1) else cmpI a.1 b.1
def ltE (a b : E3) : Bool := decide (cmpE3 a b < 0)
theorem cmpI_lt {x y : Int} : cmpI x y < 0 ↔ x < y := by unfold cmpI; split <;> (try split) <;> omega
theorem ltE_iff {a b : E3} : ltE a b = true ↔ (a.1 < b.1 ∨ a.1 = b.1 ∧ (a.2.1 < b.2.1 ∨ a.2.1 = b.2.1 ∧ a.2.2 < b.2.2)) := by
  unfold ltE cmpE3
  rw [decide_eq_true_eq]
  by_cases h1 : a.1 = b.1
  · rw [if_pos h1]
    by_cases h2 : a.2.1 = b.2.1
    · rw [if_pos h2, cmpI_lt]; omega
    · rw [if_neg h2, cmpI_lt]; omega
  · rw [if_neg h1, cmpI_lt]; omega
theorem ltE_sto : STO ltE := by
  constructor
  · intro a
    rw [← Bool.not_eq_true, ltE_iff]; omega
  · intro a b c h k
    rw [ltE_iff] at *; omega
  · intro a b h k
    rw [← Bool.not_eq_true, ltE_iff] at *
    obtain ⟨a1, a2, a3⟩ := a
    obtain ⟨b1, b2, b3⟩ := b
    simp only at h k
    have e1 : a1 = b1 := by omega
    have e2 : a2 = b2 := by omega
    have e3 : a3 = b3 := by omega
    rw [e1, e2, e3]
set_option maxRecDepth 100000 in
set_option maxHeartbeats 2000000 in
theorem hcompare_any (a b : E3) (w : World) : Calls Try.prog 42 #[encE3 a, encE3 b] w fun e w' => e = .returned (.int .i64 (cmpE3 a b)) ∧ Below w.heap.size w w' := by
  obtain ⟨a1, a2, a3⟩ := a
  obtain ⟨b1, b2, b3⟩ := b
  have HB : Hid (∀ A B : Obj, Below w.heap.size w ((w.alloc A).alloc B)) := Lib.hid (fun A B => below_after (below_alloc _ _) (below_alloc _ _))
  have HC : Hid (∀ c, (if a1 = b1 then (if a2 = b2 then cmpI a3 b3 else cmpI a2 b2) else cmpI a1 b1) = c → cmpE3 (a1, a2, a3) (b1, b2, b3) = c) := Lib.hid (fun c h => h)
  unfold encE3
  go_enter Try.func42, Try.ntmps42
  by_cases h1 : a1 = b1
  · by_cases h2 : a2 = b2
    · have H := Lib.hid (HC.out (cmpI a3 b3) (by rw [if_pos h1, if_pos h2]))
      clear HC
      have e1 : (a1 == b1) = true := by simp [h1]
      have e2 : (a2 == b2) = true := by simp [h2]
      clear h1 h2
      generalize cmpE3 (a1, a2, a3) (b1, b2, b3) = cv at *
      go_wp2_with (go_at_call 61; refine (cc_any _ _ _).mono ?_; rintro e w1 ⟨rfl, rfl⟩)
      go_ret
      exact ⟨by rw [H.out]; rfl, HB.out _ _⟩
    · have H := Lib.hid (HC.out (cmpI a2 b2) (by rw [if_pos h1, if_neg h2]))
      clear HC
      have e1 : (a1 == b1) = true := by simp [h1]
      have e2 : (a2 == b2) = false := by simp [h2]
      clear h1 h2
      generalize cmpE3 (a1, a2, a3) (b1, b2, b3) = cv at *
      go_wp2_with (go_at_call 61; refine (cc_any _ _ _).mono ?_; rintro e w1 ⟨rfl, rfl⟩)
      go_ret
      exact ⟨by rw [H.out]; rfl, HB.out _ _⟩
  · have H := Lib.hid (HC.out (cmpI a1 b1) (by rw [if_neg h1]))
    clear HC
    have e1 : (a1 == b1) = false := by simp [h1]
    clear h1
    generalize cmpE3 (a1, a2, a3) (b1, b2, b3) = cv at *
    go_wp2_with (go_at_call 61; refine (cc_any _ _ _).mono ?_; rintro e w1 ⟨rfl, rfl⟩)
    go_ret
    exact ⟨by rw [H.out]; rfl, HB.out _ _⟩
set_option maxRecDepth 100000 in
theorem hless_any (a b : E3) (w : World) : Calls Try.prog 17 #[encE3 a, encE3 b] w fun e w' => e = .returned (.bool (ltE a b)) ∧ Below w.heap.size w w' := by
  have HK := Lib.hid (fun W => hcompare_any a b W)
  have HB : Hid (∀ A B : Obj, Below w.heap.size w ((w.alloc A).alloc B)) := Lib.hid (fun A B => below_after (below_alloc _ _) (below_alloc _ _))
  have HL : Hid (ltE a b = decide (cmpE3 a b < 0)) := Lib.hid rfl
  generalize ltE a b = l at *
  generalize cmpE3 a b = c at *
  unfold encE3 at *
  obtain ⟨a1, a2, a3⟩ := a
  obtain ⟨b1, b2, b3⟩ := b
  go_enter Try.func17, Try.ntmps17
  go_wp2_with fail
  go_at_call 42
  refine Calls.mono (HK.out _) ?_
  rintro e w1 ⟨rfl, hb⟩
  have HB1 := Lib.hid (below_after (HB.out _ _) hb)
  clear hb HK
  go_wp2_with fail
  go_ret
  exact ⟨by rw [HL.out]; rfl, HB1.out⟩

abbrev Pile := E3 × Int
def encPl (p : Pile) : List Value := [.int .i64 p.1.1, .int .i64 p.1.2.1, .int .i64 p.1.2.2, .int .i64 p.2]
theorem encPl_one (p : Pile) : ∀ u ∈ encPl p, u.oneCell' = true := by
  intro u hu; simp [encPl] at hu; rcases hu with rfl | rfl | rfl | rfl <;> rfl
def pcl (P : List Pile) : List Value := P.flatMap encPl
theorem pcl_cons (p : Pile) (P : List Pile) : pcl (p :: P) = encPl p ++ pcl P := rfl
theorem pcl_app (P Q : List Pile) : pcl (P ++ Q) = pcl P ++ pcl Q := by simp [pcl]
theorem pcl_len : ∀ P : List Pile, (pcl P).length = P.length * 4
  | [] => rfl
  | p :: P => by rw [pcl_cons, List.length_append, pcl_len P]; simp [encPl]; omega
theorem pcl_at : ∀ (P : List Pile) (i : Nat) (h : i < P.length), (pcl P)[i * 4]? = some (.int .i64 P[i].1.1) ∧ (pcl P)[i * 4 + 1]? = some (.int .i64 P[i].1.2.1) ∧ (pcl P)[i * 4 + 2]? = some (.int .i64 P[i].1.2.2) ∧ (pcl P)[i * 4 + 3]? = some (.int .i64 P[i].2)
  | p :: P, 0, _ => by rw [pcl_cons]; exact ⟨rfl, rfl, rfl, rfl⟩
  | p :: P, i + 1, h => by
    have ih := pcl_at P i (by simpa using h)
    rw [pcl_cons]
    have e : (i + 1) * 4 = i * 4 + 1 + 1 + 1 + 1 := by omega
    rw [e]
    exact ih
theorem pcl_set : ∀ (P : List Pile) (i : Nat) (p : Pile), pcl (P.set i p) = ((((pcl P).set (i * 4) (.int .i64 p.1.1)).set (i * 4 + 1) (.int .i64 p.1.2.1)).set (i * 4 + 2) (.int .i64 p.1.2.2)).set (i * 4 + 3) (.int .i64 p.2)
  | [], i, p => by simp [pcl]
  | q :: P, 0, p => by rw [List.set_cons_zero, pcl_cons, pcl_cons]; rfl
  | q :: P, i + 1, p => by
    rw [List.set_cons_succ, pcl_cons, pcl_cons, pcl_set P i p]
    have e : (i + 1) * 4 = i * 4 + 1 + 1 + 1 + 1 := by omega
    rw [e]
    rfl
theorem own_set {W : World} {base g n c size : Nat} {T : TypeId} {xs : List Value} (h : W.ownsRow base T size (.slice (some ⟨g, 0, none⟩) n c) n xs) (j : Nat) (v : Value) :
    (W.setCell ⟨g, j, none⟩ v).ownsRow base T size (.slice (some ⟨g, 0, none⟩) n c) n (xs.set j v) := by
  obtain ⟨hl, h⟩ := h
  refine ⟨by rw [List.length_set]; exact hl, ?_⟩
  rcases h with ⟨e, _⟩ | ⟨g1, c1, cur, e, hg, hh, h1, h2, h3, h4⟩
  · cases e
  · cases e
    refine .inr ⟨g, c, cur.setIfInBounds j v, rfl, hg, by simp [World.setCell, Array.getElem?_modify, hh], h1, h2, by simpa using h3, ?_⟩
    rw [Array.toList_setIfInBounds, List.take_set, h4]
/-- The heap, behind its first entry: where it stands, and what it holds. -/
structure HpG (W : World) (B hb g mb cap : Nat) (P : List Pile) (cnt : Int) (ps : List (E3 × Int)) : Prop where
  c0 : W.cell? ⟨hb, 0, none⟩ = some (.slice (some ⟨g, 0, none⟩) P.length cap)
  c1 : W.cell? ⟨hb, 1, none⟩ = some (.map (some mb))
  c2 : W.cell? ⟨hb, 2, none⟩ = some (.int .i64 cnt)
  f0 : W.frozen? ⟨hb, 0, none⟩ = false
  f1 : W.frozen? ⟨hb, 1, none⟩ = false
  f2 : W.frozen? ⟨hb, 2, none⟩ = false
  own : W.ownsRow B 89 4 (.slice (some ⟨g, 0, none⟩) P.length cap) P.length (pcl P)
  map : MapI W mb ps
  gh : g ≠ hb
  mh : mb ≠ hb
  mg : mb ≠ g
  hB : B ≤ hb
  mB : B ≤ mb
theorem HpG.hlt {W : World} {B hb g mb cap : Nat} {P : List Pile} {cnt : Int} {ps : List (E3 × Int)} (h : HpG W B hb g mb cap P cnt ps) : hb < W.heap.size := World.block_lt_of_cell? W _ h.c0
theorem HpG.glt {W : World} {B hb g mb cap : Nat} {P : List Pile} {cnt : Int} {ps : List (E3 × Int)} (h : HpG W B hb g mb cap P cnt ps) : B ≤ g ∧ g < W.heap.size := own_block h.own rfl
theorem HpG.keep {W W1 : World} {B hb g mb cap : Nat} {P : List Pile} {cnt : Int} {ps : List (E3 × Int)} (hw : Below W.heap.size W W1) (h : HpG W B hb g mb cap P cnt ps) : HpG W1 B hb g mb cap P cnt ps :=
  ⟨cell_later hw h.c0, cell_later hw h.c1, cell_later hw h.c2, (hw.frozen (p := ⟨hb, 0, none⟩) h.hlt).trans h.f0, (hw.frozen (p := ⟨hb, 1, none⟩) h.hlt).trans h.f1, (hw.frozen (p := ⟨hb, 2, none⟩) h.hlt).trans h.f2, ownk hw h.own, h.map.of (hw.block _ h.map.lt), h.gh, h.mh, h.mg, h.hB, h.mB⟩
theorem HpG.pile {W : World} {B hb g mb cap : Nat} {P : List Pile} {cnt : Int} {ps : List (E3 × Int)} (h : HpG W B hb g mb cap P cnt ps) {i : Nat} (hi : i < P.length) :
    W.cell? ⟨g, i * 4, none⟩ = some (.int .i64 P[i].1.1) ∧ W.cell? ⟨g, i * 4 + 1, none⟩ = some (.int .i64 P[i].1.2.1) ∧ W.cell? ⟨g, i * 4 + 2, none⟩ = some (.int .i64 P[i].1.2.2) ∧ W.cell? ⟨g, i * 4 + 3, none⟩ = some (.int .i64 P[i].2) := by
  obtain ⟨p0, p1, p2, p3⟩ := pcl_at P i hi
  have hc := h.own.cells (g := g) rfl
  have q0 := hc _ _ p0
  have q1 := hc _ _ p1
  have q2 := hc _ _ p2
  have q3 := hc _ _ p3
  rw [add_at, Nat.zero_add] at q0 q1 q2 q3
  exact ⟨q0, q1, q2, q3⟩
theorem HpG.soft {W : World} {B hb g mb cap : Nat} {P : List Pile} {cnt : Int} {ps : List (E3 × Int)} (h : HpG W B hb g mb cap P cnt ps) (o : Nat) : W.frozen? ⟨g, o, none⟩ = false := by
  rcases h.own.2 with ⟨e, _⟩ | ⟨g1, c1, cur, e, hg, hh, _⟩
  · cases e
  · cases e; simp [World.frozen?, hh]
theorem HpG.le {W : World} {B hb g mb cap : Nat} {P : List Pile} {cnt : Int} {ps : List (E3 × Int)} (h : HpG W B hb g mb cap P cnt ps) : P.length ≤ cap ∧ cap ≤ maxLen := by
  rcases h.own.2 with ⟨e, _⟩ | ⟨g1, c1, cur, e, hg, hh, h1, h2, _⟩
  · cases e
  · cases e; exact ⟨h1, h2⟩
/-- Three blocks alone have turned. -/
structure Frm (hb g mb : Nat) (W W' : World) : Prop where
  os : W'.os = W.os
  tape : W'.tape = W.tape
  output : W'.output = W.output
  size : W.heap.size ≤ W'.heap.size
  block : ∀ k, k < W.heap.size → k ≠ hb → k ≠ g → k ≠ mb → W'.heap[k]? = W.heap[k]?
theorem Frm.refl (hb g mb : Nat) (W : World) : Frm hb g mb W W := ⟨rfl, rfl, rfl, Nat.le_refl _, fun _ _ _ _ _ => rfl⟩
theorem Frm.trans {hb g mb : Nat} {W W1 W2 : World} (h : Frm hb g mb W W1) (k : Frm hb g mb W1 W2) : Frm hb g mb W W2 :=
  ⟨k.os.trans h.os, k.tape.trans h.tape, k.output.trans h.output, Nat.le_trans h.size k.size, fun j hj h1 h2 h3 => (k.block j (Nat.lt_of_lt_of_le hj h.size) h1 h2 h3).trans (h.block j hj h1 h2 h3)⟩
theorem Frm.below {hb g mb : Nat} {W W1 : World} (h : Below W.heap.size W W1) : Frm hb g mb W W1 := ⟨h.os, h.tape, h.output, h.size, fun j hj _ _ _ => h.block j hj⟩
theorem Frm.grown {hb g mb q : Nat} {W W1 : World} (h : W.grownBy W1 (some q)) (hq : q = hb ∨ q = g ∨ q = mb) : Frm hb g mb W W1 :=
  ⟨h.os, h.tape, h.output, h.size, fun j hj h1 h2 h3 => h.block j hj (by intro e; cases e; omega)⟩
theorem Frm.setCell {hb g mb : Nat} (W : World) (a : Addr) (v : Value) (hq : a.block = hb ∨ a.block = g ∨ a.block = mb) : Frm hb g mb W (W.setCell a v) :=
  ⟨rfl, rfl, rfl, by rw [World.size_setCell]; exact Nat.le_refl _, fun j _ h1 h2 h3 => blk_setCell_other _ _ _ _ (by omega)⟩
end Go.Proofs.Ytbdmmgplpndobaa
