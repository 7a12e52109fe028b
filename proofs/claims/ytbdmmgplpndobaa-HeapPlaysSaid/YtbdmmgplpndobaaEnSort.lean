/- Rows of entries that a call owns, and slices.SortFunc over them. -/
import Derived.Test.YtbdmmgplpndobaaSortK
import Derived.Test.YtbdmmgplpndobaaSortH
import Derived.Test.YtbdmmgplpndobaaHeapS
namespace Go.Proofs.Ytbdmmgplpndobaa
open Go.RowKit Go.Sort Go.Shelf Go.Lib

set_option maxRecDepth 100000 in
set_option maxHeartbeats 2000000 in
theorem hcompare_at (a b : E3) (w : World) : Calls Try.prog 42 #[encE3 a, encE3 b] w fun e w' => e = .returned (.int .i64 (cmpE3 a b)) ∧ ∃ A B, w' = (w.alloc A).alloc B := by
  obtain ⟨a1, a2, a3⟩ := a
  obtain ⟨b1, b2, b3⟩ := b
  have HC : Hid (∀ c, (if a1 = b1 then (if a2 = b2 then cmpI a3 b3 else cmpI a2 b2) else cmpI a1 b1) = c → cmpE3 (a1, a2, a3) (b1, b2, b3) = c) := Lib.hid (fun c h => h)
  unfold encE3
  go_enter Try.func42, Try.ntmps42
  by_cases h1 : a1 = b1
  · by_cases h2 : a2 = b2
    · have H := Lib.hid (HC.out (cmpI a3 b3) (by rw [if_pos h1, if_pos h2]))
      clear HC
      have e1 : (a1 == b1) = true := by simp [h1]
      have e2 : (a2 == b2) = true := by simp [h2]
      clear h1 h2
      generalize cmpE3 (a1, a2, a3) (b1, b2, b3) = cv at *
      go_wp2_with (go_at_call 61; refine (cc_any _ _ _).mono ?_; rintro e w1 ⟨rfl, rfl⟩)
      go_ret
      exact ⟨by rw [H.out]; rfl, _, _, rfl⟩
    · have H := Lib.hid (HC.out (cmpI a2 b2) (by rw [if_pos h1, if_neg h2]))
      clear HC
      have e1 : (a1 == b1) = true := by simp [h1]
      have e2 : (a2 == b2) = false := by simp [h2]
      clear h1 h2
      generalize cmpE3 (a1, a2, a3) (b1, b2, b3) = cv at *
      go_wp2_with (go_at_call 61; refine (cc_any _ _ _).mono ?_; rintro e w1 ⟨rfl, rfl⟩)
      go_ret
      exact ⟨by rw [H.out]; rfl, _, _, rfl⟩
  · have H := Lib.hid (HC.out (cmpI a1 b1) (by rw [if_neg h1]))
    clear HC
    have e1 : (a1 == b1) = false := by simp [h1]
    clear h1
    generalize cmpE3 (a1, a2, a3) (b1, b2, b3) = cv at *
    go_wp2_with (go_at_call 61; refine (cc_any _ _ _).mono ?_; rintro e w1 ⟨rfl, rfl⟩)
    go_ret
    exact ⟨by rw [H.out]; rfl, _, _, rfl⟩
def encE3l (e : E3) : List Value := [.int .i64 e.1, .int .i64 e.2.1, .int .i64 e.2.2]
theorem encE3l_len (e : E3) : (encE3l e).length = 3 := rfl
def enCells (L : List E3) : List Value := L.flatMap encE3l
theorem cmpE3_any (W : World) (x y : E3) :
    Calls Try.prog 42 (#[.agg (encE3l x).toArray, .agg (encE3l y).toArray] ++ #[]) W fun e w' => e = .returned (.int .i64 (cmpE3 x y)) ∧ ∃ q os', w' = grow (W.drewN q) os' := by
  refine (hcompare_at x y W).mono ?_
  rintro e w' ⟨he, A, B, rfl⟩
  exact ⟨he, 0, #[A, B], by rw [alloc_eq_grow, alloc_eq_grow, grow_grow]; rfl⟩
theorem swoE3 : SWO (ltOf cmpE3) where
  irrefl x := ltE_sto.irr x
  trans x y z h1 h2 := ltE_sto.tr x y z h1 h2
  ntrans x y z h1 h2 := by
    have h1 : ltE x y = false := h1
    have h2 : ltE y z = false := h2
    show ltE x z = false
    cases h : ltE x z with
    | false => rfl
    | true =>
      cases h3 : ltE y x with
      | true => have := ltE_sto.tr _ _ _ h3 h; rw [h2] at this; cases this
      | false =>
        obtain rfl := ltE_sto.tri _ _ h1 h3
        rw [h] at h2; cases h2
theorem sort_ens (base : Nat) (v : Value) (L : List E3) (W : World) (hown : W.ownsRow base 31 3 v L.length (enCells L)) (hn : L.length < 4611686018427387904) (hz : L ≠ []) :
    Calls Try.prog 60 #[v, .func (.func 42) #[] #[]] W fun e w' =>
      e = .returned (.tuple #[]) ∧ ∃ M : List E3, M.Perm L ∧ M.Pairwise (fun p q => ltE q p = false) ∧ w'.ownsRow base 31 3 v L.length (enCells M) ∧ (∀ B0 w0, Below B0 w0 W → B0 ≤ base → B0 ≤ W.heap.size → Below B0 w0 w') ∧ (∀ (D : Nat), D < W.heap.size → some D ≠ v.ownBlock → w'.heap[D]? = W.heap[D]?) := by
  obtain ⟨d, rfl⟩ : ∃ d, d = L := ⟨_, rfl⟩
  unfold enCells at hown
  have hd : d.toArray.size = d.length := by simp
  obtain ⟨g, cap, rfl, hg, hgl, cur, hcur⟩ : ∃ g cap, v = .slice (some ⟨g, 0, none⟩) d.length cap ∧ base ≤ g ∧ g < W.heap.size ∧ ∃ cur, W.heap[g]? = some (.cells cur 31 (0, 0)) := by
    rcases hown.2 with ⟨_, h1⟩ | ⟨g, cap, cur, hv, hb, hc, _⟩
    · exact absurd (by simpa using h1) hz
    · exact ⟨g, cap, hv, hb, (Array.getElem?_eq_some_iff.1 hc).1, cur, hc⟩
  have hown' : W.ownsRow base 31 3 (.slice (some ⟨g, 0, none⟩) d.toArray.size cap) d.toArray.size (d.toArray.toList.flatMap encE3l) := by
    rw [hd]; exact hown
  have hH := own_holdsG encE3l_len (by omega) hown'
  have hcmp : CmpLays Try.prog 42 #[] encE3l 3 cmpE3 g 0 d.toArray.size W := by
    intro m os dk hs x y
    exact cmpE3_any _ x y
  have eg : ∀ args w, (callFunc 42 args).run Try.prog w = .ok (.enter 42 args) w := enters_of Try.func42 (by kernel_rfl) rfl
  have hcon := AnyQ.slices_SortFunc Try.sortEn 3 Try.isAgg31 Try.sizeOf31 encE3l (fun _ => rfl) (fun x v hv => by simp [encE3l] at hv; rcases hv with rfl | rfl | rfl <;> rfl) cmpE3 swoE3 42 #[] g 0 cap d.toArray W eg hcmp hH hgl (by rw [hd]; exact hn)
  rw [hd] at hcon
  refine Calls.mono hcon ?_
  rintro e w' ⟨rfl, d', n, os, hp, hs, rfl⟩
  have hds : d'.size = d.length := by rw [hp.1, hd]
  refine ⟨rfl, d'.toList, ?_, ?_, ?_, fun B0 w0 h k1 k2 => below_sortedG os h (by omega) k2, fun D hDl ho => ?_⟩
  · have h3 := hp.2.2
    rw [← hd] at h3
    have e1 : (d'.extract 0 d.toArray.size).toList = d'.toList := by rw [hd, ← hds]; simp
    have e2 : (d.toArray.extract 0 d.toArray.size).toList = d := by simp
    rw [e1, e2] at h3
    exact h3
  · rw [List.pairwise_iff_getElem]
    intro i j hi hj hij
    have hi' : i < d'.size := by simpa using hi
    have hj' : j < d'.size := by simpa using hj
    have := hs i j (Nat.zero_le _) hij (by omega)
    rw [getElem!_pos d' i hi', getElem!_pos d' j hj'] at this
    rw [Array.getElem_toList, Array.getElem_toList]
    exact this
  · exact own_sortedG encE3l_len (by omega) os hown hds
  · have hne : g ≠ D := by
      rintro rfl
      exact ho rfl
    unfold sortWorldK
    rw [heap_grow_old _ _ (by rw [size_putRowK]; exact hDl)]
    simp [putRowK, putRow, mapBlock, Sort.ahead, Array.getElem?_modify, hne]
end Go.Proofs.Ytbdmmgplpndobaa
