/- Rows of edges that a call owns, and slices.SortFunc over them by their boxes' least X. -/
import Derived.Test.YtkibjbbhiclkmaaSortE
import Derived.Test.YtkibjbbhiclkmaaRing
import Derived.Shelf.SlSortCmp.WholeK
namespace Go.Proofs.Ytkibjbbhiclkmaa
open Go.RowKit Go.Sort Go.Shelf Go.Lib

section
variable {α : Type} [Inhabited α] {enc : α → List Value} {k : Nat}
omit [Inhabited α] in
theorem flatMap_len (hk : ∀ x, (enc x).length = k) : ∀ l : List α, (l.flatMap enc).length = l.length * k
  | [] => by simp
  | x :: l => by rw [List.flatMap_cons, List.length_append, hk, flatMap_len hk l, List.length_cons, Nat.add_mul]; omega
omit [Inhabited α] in
theorem flatMap_at (hk : ∀ x, (enc x).length = k) : ∀ (l : List α) (i j : Nat) (hi : i < l.length), j < k → (l.flatMap enc)[i * k + j]? = (enc l[i])[j]?
  | [], i, j, hi, _ => absurd hi (by simp)
  | x :: l, 0, j, _, hj => by
    rw [List.flatMap_cons, Nat.zero_mul, Nat.zero_add, List.getElem?_append_left (by rw [hk]; exact hj)]; rfl
  | x :: l, i + 1, j, hi, hj => by
    rw [List.flatMap_cons, List.getElem?_append_right (by rw [hk, Nat.add_mul]; omega), hk, show (i + 1) * k + j - k = i * k + j from by rw [Nat.add_mul]; omega]
    exact flatMap_at hk l i j (by simpa using hi) hj
theorem flatK_list (hk : ∀ x, (enc x).length = k) (h0 : 0 < k) (d : Array α) : (flatK enc k d).toList = d.toList.flatMap enc := by
  apply List.ext_getElem?
  intro t
  by_cases ht : t < d.size * k
  · have e : t / k < d.size := Nat.div_lt_of_lt_mul (by rw [Nat.mul_comm]; exact ht)
    have hm : t % k < k := Nat.mod_lt _ h0
    have c := flatMap_at hk d.toList (t / k) (t % k) (by simpa using e) hm
    rw [show t / k * k + t % k = t from by rw [Nat.mul_comm]; exact Nat.div_add_mod t k] at c
    have hg : (flatK enc k d)[t]! = (enc d[t / k]!)[t % k]! := get_flatK _ _ _ _ ht
    have hs : t < (flatK enc k d).size := by rw [size_flatK]; exact ht
    rw [getElem!_pos _ t hs] at hg
    rw [c, Array.getElem?_toList, Array.getElem?_eq_getElem hs, hg, getElem!_pos d (t / k) e, Array.getElem_toList]
    have hl : t % k < (enc d[t / k]).length := by rw [hk]; exact hm
    rw [List.getElem?_eq_getElem hl, getElem!_pos (enc d[t / k]) (t % k) hl]
  · rw [List.getElem?_eq_none (by simp [size_flatK]; omega), List.getElem?_eq_none (by rw [flatMap_len hk]; simp; omega)]
theorem own_holdsG (hk : ∀ x, (enc x).length = k) (h0 : 0 < k) {W : World} {base : Nat} {T : TypeId} {g cap : Nat} {d : Array α} (h : W.ownsRow base T k (.slice (some ⟨g, 0, none⟩) d.size cap) d.size (d.toList.flatMap enc)) : HoldsK enc k W g 0 d := by
  intro j hj
  rw [size_flatK] at hj
  rcases h.2 with ⟨e0, _⟩ | ⟨g', cap', cur, e0, hb, hg, hn, hm, hs, ht⟩
  · cases e0
  · injection e0 with e1 _ e3
    injection e1 with e1
    injection e1 with e1
    subst e1; subst e3
    have hj2 : j < (flatK enc k d).size := by rw [size_flatK]; exact hj
    refine ⟨?_, by simp [World.frozen?, hg]⟩
    have e1 : cur.toList[j]? = (flatK enc k d).toList[j]? := by
      rw [flatK_list hk h0, ← ht, List.getElem?_take_of_lt hj]
    rw [Array.getElem?_toList, Array.getElem?_toList, Array.getElem?_eq_getElem hj2] at e1
    simp only [World.cell?, hg, Nat.zero_add, Option.isSome_none, Bool.false_eq_true, if_false]
    rw [e1, getElem!_pos _ j hj2]
    rfl
theorem own_sortedG (hk : ∀ x, (enc x).length = k) (h0 : 0 < k) {W : World} {base : Nat} {T : TypeId} {g cap q : Nat} {n : Nat} {xs : List Value} {d : Array α} (os : Array Obj) (h : W.ownsRow base T k (.slice (some ⟨g, 0, none⟩) n cap) n xs) (hd : d.size = n) :
    (sortWorldK enc k W g 0 q d os).ownsRow base T k (.slice (some ⟨g, 0, none⟩) n cap) n (d.toList.flatMap enc) := by
  rcases h.2 with ⟨e0, _⟩ | ⟨g', cap', cur, e0, hb, hg, hn, hm, hs, ht⟩
  · cases e0
  · injection e0 with e1 _ e3
    injection e1 with e1
    injection e1 with e1
    subst e1; subst e3
    have hgl : g < W.heap.size := (Array.getElem?_eq_some_iff.1 hg).1
    refine ⟨by rw [flatMap_len hk]; simp [hd], .inr ⟨g, cap, putCells id 0 (flatK enc k d) cur, rfl, hb, ?_, hn, hm, by simpa [putCells] using hs, ?_⟩⟩
    · unfold sortWorldK
      rw [heap_grow_old _ _ (by rw [size_putRowK]; exact hgl)]
      simp [putRowK, putRow, mapBlock, Sort.ahead, Array.getElem?_modify, hg, onCells]
    · rw [← flatK_list hk h0]
      apply List.ext_getElem?
      intro j
      rw [List.getElem?_take, Array.getElem?_toList, Array.getElem?_toList]
      have hnk : n * k ≤ cap * k := Nat.mul_le_mul_right k hn
      by_cases hj : j < n * k
      · have hjc : j < cur.size := by omega
        have hj2 : j < (flatK enc k d).size := by rw [size_flatK, hd]; exact hj
        rw [if_pos hj, Array.getElem?_eq_getElem hj2]
        simp only [putCells, Array.getElem?_mapIdx, Array.getElem?_eq_getElem hjc, Option.map_some]
        rw [if_pos ⟨by omega, by omega⟩, Nat.sub_zero, getElem!_pos _ j hj2]
        rfl
      · rw [if_neg hj, Array.getElem?_eq_none (by rw [size_flatK, hd]; omega)]
theorem below_sortedG {B : Nat} {w0 w : World} {g q : Nat} {d : Array α} (os : Array Obj) (h : Below B w0 w) (hg : B ≤ g) (hB : B ≤ w.heap.size) : Below B w0 (sortWorldK enc k w g 0 q d os) := by
  refine ⟨h.os, h.tape, h.output, ?_, fun j hj => ?_⟩
  · have := h.size
    unfold sortWorldK
    rw [size_grow, size_putRowK]
    show _ ≤ w.heap.size + _
    omega
  · rw [← h.block j hj]
    unfold sortWorldK
    rw [heap_grow_old _ _ (by rw [size_putRowK]; show j < w.heap.size; omega)]
    simp [putRowK, putRow, mapBlock, Sort.ahead, Array.getElem?_modify, show g ≠ j by omega]
end

/-- An edge with its place. -/
abbrev Ed : Type := Nat × (Int × Int) × (Int × Int)
def Ed.lx (e : Ed) : Int := min e.2.1.1 e.2.2.1
def Ed.ly (e : Ed) : Int := min e.2.1.2 e.2.2.2
def Ed.hx (e : Ed) : Int := max e.2.1.1 e.2.2.1
def Ed.hy (e : Ed) : Int := max e.2.1.2 e.2.2.2
def encEd (e : Ed) : List Value := [.int .i64 (e.1 : Int), .int .i64 e.2.1.1, .int .i64 e.2.1.2, .int .i64 e.2.2.1, .int .i64 e.2.2.2, .int .i64 e.lx, .int .i64 e.ly, .int .i64 e.hx, .int .i64 e.hy]
def okEd (e : Ed) : Bool := okp e.2.1.1 e.2.1.2 && okp e.2.2.1 e.2.2.2
abbrev EdB : Type := { e : Ed // okEd e = true }
instance : Inhabited EdB := ⟨⟨(0, (0, 0), (0, 0)), rfl⟩⟩
def encB9 (x : EdB) : List Value := encEd x.1
theorem encB9_len (x : EdB) : (encB9 x).length = 9 := rfl
theorem okEd_in {e : Ed} (h : okEd e = true) : (-16777216 ≤ e.lx ∧ e.lx ≤ 16777216) ∧ (-16777216 ≤ e.hx ∧ e.hx ≤ 16777216) := by
  unfold okEd at h
  rw [Bool.and_eq_true] at h
  have := okp_yes h.1
  have := okp_yes h.2
  unfold Ed.lx Ed.hx
  omega
def cfE (x y : EdB) : Int := x.1.lx - y.1.lx

set_option maxRecDepth 100000 in
set_option maxHeartbeats 1000000 in
theorem cmpE_any (W : World) (x y : EdB) :
    Calls Try.prog 102 (#[.agg (encB9 x).toArray, .agg (encB9 y).toArray] ++ #[]) W fun e w' => e = .returned (.int .i64 (cfE x y)) ∧ ∃ q os', w' = grow (W.drewN q) os' := by
  have x3 : IntKind.i64.wrap (x.1.lx - y.1.lx) = x.1.lx - y.1.lx := by
    have h1 := okEd_in x.2
    have h2 := okEd_in y.2
    exact IntWalk.i64_in _ (by omega)
  unfold cfE encB9 encEd
  generalize x.1.lx = a at *
  generalize y.1.lx = b at *
  have hw : Hid (∀ A B : Obj, ∃ q os', (W.alloc A).alloc B = grow (W.drewN q) os') := Lib.hid fun A B => ⟨0, #[A, B], by rw [alloc_eq_grow, alloc_eq_grow, grow_grow]; rfl⟩
  generalize ((x.1.1 : Nat) : Int) = a0
  generalize ((y.1.1 : Nat) : Int) = b0
  generalize x.1.2.1.1 = a1
  generalize x.1.2.1.2 = a2
  generalize x.1.2.2.1 = a3
  generalize x.1.2.2.2 = a4
  generalize y.1.2.1.1 = b1
  generalize y.1.2.1.2 = b2
  generalize y.1.2.2.1 = b3
  generalize y.1.2.2.2 = b4
  generalize x.1.ly = a5
  generalize x.1.hx = a6
  generalize x.1.hy = a7
  generalize y.1.ly = b5
  generalize y.1.hx = b6
  generalize y.1.hy = b7
  show Calls Try.prog 102 #[.agg #[.int .i64 a0, .int .i64 a1, .int .i64 a2, .int .i64 a3, .int .i64 a4, .int .i64 a, .int .i64 a5, .int .i64 a6, .int .i64 a7], .agg #[.int .i64 b0, .int .i64 b1, .int .i64 b2, .int .i64 b3, .int .i64 b4, .int .i64 b, .int .i64 b5, .int .i64 b6, .int .i64 b7]] W _
  go_enter Try.func102, Try.ntmps102
  go_wp2_with fail
  go_ret
  exact ⟨rfl, hw.out _ _⟩

theorem to_edb : ∀ L : List Ed, (∀ e ∈ L, okEd e = true) → ∃ d : List EdB, d.map (·.1) = L
  | [], _ => ⟨[], rfl⟩
  | p :: L, h => by
    obtain ⟨d, hd⟩ := to_edb L (fun q hq => h q (by simp [hq]))
    exact ⟨⟨p, h p (by simp)⟩ :: d, by rw [List.map_cons, hd]⟩
theorem ltE (x y : EdB) : ltOf cfE x y = decide (x.1.lx < y.1.lx) := by
  unfold ltOf cfE
  by_cases h : x.1.lx < y.1.lx
  · have : x.1.lx - y.1.lx < 0 := by omega
    simp [h, this]
  · have : ¬ x.1.lx - y.1.lx < 0 := by omega
    simp [h, this]
theorem swoE : SWO (ltOf cfE) where
  irrefl x := by rw [ltE]; simp
  trans x y z h1 h2 := by rw [ltE] at *; simp at *; omega
  ntrans x y z h1 h2 := by rw [ltE] at *; simp at *; omega
def edCells (L : List Ed) : List Value := L.flatMap encEd
theorem edCells_map (d : List EdB) : edCells (d.map (·.1)) = d.flatMap encB9 := by unfold edCells; rw [List.flatMap_map]; rfl
theorem edCells_map_toList (d : Array EdB) : edCells (d.toList.map (·.1)) = d.toList.flatMap encB9 := edCells_map _

theorem sort_eds (base : Nat) (v : Value) (L : List Ed) (W : World) (hown : W.ownsRow base 94 9 v L.length (edCells L)) (hL : ∀ e ∈ L, okEd e = true) (hn : L.length < 4611686018427387904) (hz : L ≠ []) :
    Calls Try.prog 101 #[v, .func (.func 102) #[] #[]] W fun e w' =>
      e = .returned (.tuple #[]) ∧ ∃ M : List Ed, M.Perm L ∧ M.Pairwise (fun p q => p.lx ≤ q.lx) ∧ w'.ownsRow base 94 9 v L.length (edCells M) ∧ (∀ B0 w0, Below B0 w0 W → B0 ≤ base → B0 ≤ W.heap.size → Below B0 w0 w') ∧ (∀ (D : Nat), D < W.heap.size → some D ≠ v.ownBlock → w'.heap[D]? = W.heap[D]?) := by
  obtain ⟨d, rfl⟩ := to_edb L hL
  rw [List.length_map] at hown hn ⊢
  rw [edCells_map] at hown
  have hd : d.toArray.size = d.length := by simp
  obtain ⟨g, cap, rfl, hg, hgl, cur, hcur⟩ : ∃ g cap, v = .slice (some ⟨g, 0, none⟩) d.length cap ∧ base ≤ g ∧ g < W.heap.size ∧ ∃ cur, W.heap[g]? = some (.cells cur 94 (0, 0)) := by
    rcases hown.2 with ⟨_, h1⟩ | ⟨g, cap, cur, hv, hb, hc, _⟩
    · exact absurd (by simpa using h1) hz
    · exact ⟨g, cap, hv, hb, (Array.getElem?_eq_some_iff.1 hc).1, cur, hc⟩
  have hown' : W.ownsRow base 94 9 (.slice (some ⟨g, 0, none⟩) d.toArray.size cap) d.toArray.size (d.toArray.toList.flatMap encB9) := by
    rw [hd]; exact hown
  have hH := own_holdsG encB9_len (by omega) hown'
  have hcmp : CmpLays Try.prog 102 #[] encB9 9 cfE g 0 d.toArray.size W := by
    intro m os dk hs x y
    exact cmpE_any _ x y
  have eg : ∀ args w, (callFunc 102 args).run Try.prog w = .ok (.enter 102 args) w := enters_of Try.func102 (by kernel_rfl) rfl
  have hcon := AnyQ.slices_SortFunc Try.sortEd 9 Try.isAgg94 Try.sizeOf94 encB9 (fun _ => rfl) (fun x v hv => by simp [encB9, encEd] at hv; rcases hv with rfl | rfl | rfl | rfl | rfl | rfl | rfl | rfl | rfl <;> rfl) cfE swoE 102 #[] g 0 cap d.toArray W eg hcmp hH hgl (by rw [hd]; exact hn)
  rw [hd] at hcon
  refine Calls.mono hcon ?_
  rintro e w' ⟨rfl, d', n, os, hp, hs, rfl⟩
  have hds : d'.size = d.length := by rw [hp.1, hd]
  refine ⟨rfl, d'.toList.map (·.1), ?_, ?_, ?_, fun B0 w0 h k1 k2 => below_sortedG os h (by omega) k2, fun D hDl ho => ?_⟩
  · have h3 := hp.2.2
    rw [← hd] at h3
    have e1 : (d'.extract 0 d.toArray.size).toList = d'.toList := by rw [hd, ← hds]; simp
    have e2 : (d.toArray.extract 0 d.toArray.size).toList = d := by simp
    rw [e1, e2] at h3
    exact h3.map _
  · rw [List.pairwise_map, List.pairwise_iff_getElem]
    intro i j hi hj hij
    have hi' : i < d'.size := by simpa using hi
    have hj' : j < d'.size := by simpa using hj
    have := hs i j (Nat.zero_le _) hij (by omega)
    rw [ltE, decide_eq_false_iff_not, getElem!_pos d' i hi', getElem!_pos d' j hj'] at this
    rw [Array.getElem_toList, Array.getElem_toList]
    omega
  · rw [edCells_map_toList]
    exact own_sortedG encB9_len (by omega) os hown hds
  · have hne : g ≠ D := by
      rintro rfl
      exact ho rfl
    unfold sortWorldK
    rw [heap_grow_old _ _ (by rw [size_putRowK]; exact hDl)]
    simp [putRowK, putRow, mapBlock, Sort.ahead, Array.getElem?_modify, hne]
end Go.Proofs.Ytkibjbbhiclkmaa
