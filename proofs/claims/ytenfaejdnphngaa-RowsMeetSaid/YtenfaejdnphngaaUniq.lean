/- slices.Compact at numbers, order.Uniq, and the document's Uniq. -/
import Derived.Test.YtenfaejdnphngaaIntsI
import Derived.Test.YtenfaejdnphngaaSorted
import Derived.Laws.IdiomCopy
namespace Go.Proofs.Ytenfaejdnphngaa
open Go.RowKit Go.Sort

theorem below_setCellsI {B g : Nat} {w : World} (hg : B ≤ g) : ∀ (vs : List Value) (o : Nat) (W : World), Below B w W → Below B w (W.setCells g o vs)
  | [], _, _, h => h
  | v :: r, o, _, h => below_setCellsI hg r (o + 1) _ (h.setCell (p := ⟨g, o, none⟩) hg v)
def zerI (n : Nat) : List Value := (Builtin.zeroCells #[.int .i64 0] n).toList
theorem zerI_len (n : Nat) : (zerI n).length = n := by unfold zerI Builtin.zeroCells; simp
theorem zerI_one (n : Nat) : ∀ u ∈ zerI n, u.oneCell' = true := by
  intro u hu
  unfold zerI Builtin.zeroCells at hu
  simp at hu
  obtain ⟨i, _, rfl⟩ := hu
  simp [Nat.mod_one, Value.oneCell']
theorem run_clear_ints {P : Program} (w : World) (t e ty : TypeId) (ht : P.underlying t = some (.slice e)) (hz : ∀ w, (zeroValue e).run P w = .ok (.int .i64 0) w)
    (g off n c : Nat) (hn : 0 < n) (hc : ∀ j, j < n → (w.cell? ⟨g, off + j, none⟩).isSome = true) (hf : ∀ j, j < n → w.frozen? ⟨g, off + j, none⟩ = false) :
    (Builtin.clear_ #[t] ty #[.slice (some ⟨g, off, none⟩) n c]).run P w = .ok (.tuple #[]) (w.setCells g off (zerI n)) := by
  have hst := run_storeCells_cells (P := P) g off (zerI n) 0 w (by rw [zerI_len]; simpa using hc) (by rw [zerI_len]; simpa using hf) (zerI_one n)
  rw [Nat.add_zero] at hst
  obtain ⟨m, rfl⟩ : ∃ m, n = m + 1 := ⟨n - 1, by omega⟩
  unfold zerI at hst ⊢
  simp [Builtin.clear_, run_underlying ht, hz, Value.cells, hst]
theorem zeroI (w : World) : (zeroValue 3).run Try.prog w = .ok (.int .i64 0) w := by
  obtain ⟨i0, hi, hz0, hz1, hz2⟩ := info_parts infoI
  simp [zeroValue, typeInfo, hi, hz0]
/-- A block of the call's own that holds n numbers. -/
structure Rw1 (W : World) (B k n : Nat) (P : Nat → Int) : Prop where
  base : B ≤ k
  lt : k < W.heap.size
  c : ∀ i, i < n → W.cell? ⟨k, i, none⟩ = some (.int .i64 (P i))
  f : ∀ i, i < n → W.frozen? ⟨k, i, none⟩ = false
def nA (L : List Int) (i : Nat) : Int := L.getD i 0
theorem nA_at {L : List Int} {i : Nat} (h : i < L.length) : nA L i = L[i] := by unfold nA; rw [List.getD_eq_getElem?_getD, List.getElem?_eq_getElem h]; rfl
theorem Rw1.drew {W : World} {B k n : Nat} {P : Nat → Int} (h : Rw1 W B k n P) : Rw1 W.drew B k n P := ⟨h.base, h.lt, h.c, h.f⟩
theorem Rw1.congr {W : World} {B k n : Nat} {P Q : Nat → Int} (h : Rw1 W B k n P) (e : ∀ i, i < n → P i = Q i) : Rw1 W B k n Q :=
  ⟨h.base, h.lt, fun i hi => by rw [← e i hi]; exact h.c i hi, h.f⟩
theorem Rw1.il {W : World} {B k cap : Nat} {L : List Int} (h : Rw1 W B k L.length (nA L)) (hc : L.length ≤ cap) : IL W W.heap.size (.slice (some ⟨k, 0, none⟩) L.length cap) L :=
  ⟨_, cap, rfl, hc, fun i hi => ⟨k, 0, rfl, by have := h.lt; omega, by rw [Nat.zero_add, ← nA_at hi]; exact h.c i hi⟩⟩
theorem Rw1.put {W : World} {B k n : Nat} {P : Nat → Int} (h : Rw1 W B k n P) (i : Nat) (hi : i < n) (x : Int) : Rw1 (W.setCell ⟨k, i, none⟩ (.int .i64 x)) B k n (fun j => if j = i then x else P j) := by
  refine ⟨h.base, by rw [World.size_setCell]; exact h.lt, fun j hj => ?_, fun j hj => by simpa using h.f j hj⟩
  by_cases e : j = i
  · subst e; rw [if_pos rfl, World.cell?_setCell_same _ _ _ (h.c j hj)]
  · rw [if_neg e, World.cell?_setCell_other _ _ _ _ (by intro e'; injection e' with _ e2; omega)]; exact h.c j hj
theorem Rw1.cleared {W : World} {B g n : Nat} {P : Nat → Int} (h : Rw1 W B g n P) (k m : Nat) (hk : k ≤ n) : Rw1 (W.setCells g k (zerI m)) B g k P := by
  have hout : ∀ o, o < k → (W.setCells g k (zerI m)).cell? ⟨g, o, none⟩ = W.cell? ⟨g, o, none⟩ := fun o ho =>
    World.cell?_setCells_out g (zerI m) k W ⟨g, o, none⟩ (fun _ _ => Or.inl ho)
  refine ⟨h.base, ?_, fun i hi => (hout _ (by omega)).trans (h.c i (by omega)), fun i hi => ?_⟩
  · exact Nat.lt_of_lt_of_le h.lt (below_setCellsI (Nat.le_refl g) (zerI m) k W (Below.refl g W)).size
  · rw [World.frozen?_setCells]; exact h.f i (by omega)
theorem own_rw1 {W : World} {B g cap : Nat} {L : List Int} (h : W.ownsRow B 3 1 (.slice (some ⟨g, 0, none⟩) L.length cap) L.length (icells L)) : Rw1 W B g L.length (nA L) := by
  have h0 := h
  rcases h.2 with ⟨e, _⟩ | ⟨g1, c1, cur, e, hg, hh, _⟩
  · cases e
  · cases e
    refine ⟨hg, (own_block h0 rfl).2, fun i hi => ?_, fun i hi => ?_⟩
    · have hc := h0.cells (g := g) rfl i (.int .i64 L[i]) (by unfold icells; rw [List.getElem?_map, List.getElem?_eq_getElem hi]; rfl)
      rw [add_at, Nat.zero_add] at hc
      rw [nA_at hi]; exact hc
    · simp [World.frozen?, hh]
def thI (P : Nat → Int) : Nat → List Int
  | 0 => []
  | k + 1 => if k = 0 ∨ P k ≠ P (k - 1) then thI P k ++ [P k] else thI P k
def ndI (P : Nat → Int) (k : Nat) : Prop := ∀ i, 0 < i → i < k → P i ≠ P (i - 1)
theorem thI_nd (P : Nat → Int) : ∀ k, ndI P k → thI P k = (List.range k).map P
  | 0, _ => rfl
  | k + 1, h => by
    unfold thI
    rw [if_pos, thI_nd P k (fun i h1 h2 => h i h1 (by omega)), List.range_succ, List.map_append]
    · rfl
    by_cases e : k = 0
    · exact Or.inl e
    · exact Or.inr (h k (by omega) (by omega))
theorem rangeI_all (L : List Int) : (List.range L.length).map (nA L) = L := by
  refine List.ext_getElem (by simp) fun i h1 h2 => ?_
  simp only [List.getElem_map, List.getElem_range]
  exact nA_at h2
theorem thI_yes (P : Nat → Int) {k : Nat} (h : k = 0 ∨ P k ≠ P (k - 1)) : thI P (k + 1) = thI P k ++ [P k] := by
  show (if k = 0 ∨ P k ≠ P (k - 1) then _ else _) = _
  rw [if_pos h]
theorem thI_no (P : Nat → Int) {k : Nat} (h : ¬ (k = 0 ∨ P k ≠ P (k - 1))) : thI P (k + 1) = thI P k := by
  show (if k = 0 ∨ P k ≠ P (k - 1) then _ else _) = _
  rw [if_neg h]
theorem nA_app (X : List Int) (p : Int) (j : Nat) (hj : j < X.length + 1) : nA (X ++ [p]) j = if j < X.length then nA X j else p := by
  rw [nA_at (by rw [List.length_append]; exact hj)]
  by_cases h : j < X.length
  · rw [if_pos h, List.getElem_append_left h, nA_at h]
  · rw [if_neg h, List.getElem_append_right (by omega)]
    simp
/-- While the row is drawn together: what was kept lies ahead, what is to come is as it was. -/
structure CpI (w W : World) (B g n : Nat) (P : Nat → Int) (r : Nat) : Prop where
  row : ∃ Q, Rw1 W B g n Q ∧ (∀ j, j < (thI P r).length → Q j = nA (thI P r) j) ∧ (∀ j, r - 1 ≤ j → j < n → Q j = P j)
  few : (thI P r).length + 1 ≤ r
  below : Below B w W
theorem CpI.drew {w W : World} {B g n r : Nat} {P : Nat → Int} (h : CpI w W B g n P r) : CpI w W.drew B g n P r := by
  obtain ⟨⟨Q, h1, h2, h3⟩, h4, h5⟩ := h
  exact ⟨⟨Q, h1.drew, h2, h3⟩, h4, h5.drew⟩
theorem CpI.skip {w W : World} {B g n r : Nat} {P : Nat → Int} (h : CpI w W B g n P r) (hr : 0 < r) (e : P r = P (r - 1)) : CpI w W B g n P (r + 1) := by
  obtain ⟨⟨Q, h1, h2, h3⟩, h4, h5⟩ := h
  have e2 : thI P (r + 1) = thI P r := thI_no P (fun h => by rcases h with h | h; omega; exact h e)
  refine ⟨⟨Q, h1, ?_, fun j hj hn => h3 j (by omega) hn⟩, by rw [e2]; omega, h5⟩
  rw [e2]; exact h2
theorem CpI.put {w W : World} {B g n r : Nat} {P : Nat → Int} (h : CpI w W B g n P r) (hr : 0 < r) (hn : r < n) (e : P r ≠ P (r - 1)) :
    CpI w (W.setCell ⟨g, (thI P r).length, none⟩ (.int .i64 (P r))) B g n P (r + 1) := by
  obtain ⟨⟨Q, h1, h2, h3⟩, h4, h5⟩ := h
  have e2 : thI P (r + 1) = thI P r ++ [P r] := thI_yes P (Or.inr e)
  have hB := h1.base
  refine ⟨⟨_, h1.put (thI P r).length (by omega) (P r), ?_, ?_⟩, by rw [e2, List.length_append]; simp; omega, h5.setCell (p := ⟨g, _, none⟩) hB _⟩
  · intro j hj
    rw [e2, List.length_append, List.length_singleton] at hj
    rw [e2, nA_app _ _ j hj]
    by_cases hx : j = (thI P r).length
    · subst hx; rw [if_pos rfl, if_neg (by omega)]
    · rw [if_neg hx, if_pos (by omega)]; exact h2 j (by omega)
  · intro j hj hjn
    rw [if_neg (by omega)]; exact h3 j (by omega) hjn
set_option maxRecDepth 100000 in
set_option maxHeartbeats 4000000 in
theorem icompact_any {w : World} {B : Nat} {v : Value} {L : List Int} (h : w.ownsRow B 3 1 v L.length (icells L)) (hL : L.length ≤ 1000) :
    Calls Try.prog 62 #[v] w fun e w' => ∃ u, e = .returned u ∧ IL w' w'.heap.size u (thI (nA L) L.length) ∧ Below B w w' := by
  have hmx : Try.prog.follows .mixedOrders = true := by kernel_rfl
  rcases id h.2 with ⟨rfl, hz⟩ | ⟨g, cap, _, rfl, _, _, hcap, hmax, _, _⟩
  · obtain rfl : L = [] := List.eq_nil_of_length_eq_zero hz
    clear h hz
    go_enter Try.func62, Try.ntmps62
    go_wp2_with fail
    go_ret
    exact ⟨.slice none 0 0, rfl, IL.nil _ _ _ _, Below.refl _ _⟩
  · have HR := Lib.hid (own_rw1 h)
    clear h
    by_cases h2 : L.length < 2
    · have hlz : (L.length : Int) < 2 := by omega
      have HF : Hid (IL w w.heap.size (.slice (some ⟨g, 0, none⟩) L.length cap) (thI (nA L) L.length)) := Lib.hid (by
        rw [thI_nd _ _ (fun i h3 h4 => by omega), rangeI_all]
        exact HR.out.il hcap)
      go_enter Try.func62, Try.ntmps62
      go_wp2_with fail
      go_ret
      exact ⟨_, rfl, HF.out, Below.refl _ _⟩
    · have hlz : ¬ (L.length : Int) < 2 := by omega
      go_enter Try.func62, Try.ntmps62
      go_wp2_with fail
      go_loopg [3] (L.length - 1) (fun gk i wx => ∃ k : Nat, 1 ≤ k ∧ k + gk = L.length ∧ i = .int .i64 (k : Int) ∧ Hid (ndI (nA L) k) ∧ Hid (Rw1 wx B g L.length (nA L) ∧ Below B w wx))
      case atStart => exact ⟨1, by omega, by omega, rfl, Lib.hid (fun i h3 h4 => by omega), Lib.hid ⟨HR.out, Below.refl _ _⟩⟩
      case round =>
        obtain ⟨k, hk1, hkg, rfl, HN, HB⟩ := hrel
        cases gk with
        | zero =>
          have hkz : ¬ ((k : Int) < (L.length : Int)) := by omega
          have HF : Hid (IL wr wr.heap.size (.slice (some ⟨g, 0, none⟩) L.length cap) (thI (nA L) L.length)) := Lib.hid (by
            rw [thI_nd _ _ (by have h := HN.out; rw [show k = L.length from by omega] at h; exact h), rangeI_all]
            exact HB.out.1.il hcap)
          go_wp2_with fail
          go_ret
          exact ⟨_, rfl, HF.out, HB.out.2⟩
        | succ gr =>
          have hkz : (k : Int) < (L.length : Int) := by omega
          have hkn : k < L.length := by omega
          have c0 := HB.out.1.c k hkn
          have d0 := HB.out.1.c (k - 1) (by omega)
          have x1 : IntKind.i64.wrap ((k : Int) - 1) = ((k - 1 : Nat) : Int) := by rw [show (k : Int) - 1 = ((k - 1 : Nat) : Int) from by omega]; exact IntWalk.i64_in _ (by omega)
          have hjz : ((k - 1 : Nat) : Int) < (L.length : Int) := by omega
          have HE : Hid ((nA L k == nA L (k - 1)) = true ↔ nA L k = nA L (k - 1)) := Lib.hid beq_iff_eq
          generalize hpk : nA L k = p1 at *
          generalize hqk : nA L (k - 1) = q1 at *
          have HPk := Lib.hid hpk
          have HQk := Lib.hid hqk
          clear hpk hqk
          generalize heb : (p1 == q1) = eb at *
          generalize hj : k - 1 = j at *
          have HJ := Lib.hid hj
          clear hj
          cases eb
          · have HN2 : Hid (ndI (nA L) (k + 1)) := Lib.hid (fun i h3 h4 => by
              by_cases e : i = k
              · subst e; intro h5; rw [HPk.out, HJ.out, HQk.out] at h5; have := HE.out.2 h5; cases this
              · exact HN.out i h3 (by omega))
            have HB2 : Hid (Rw1 wr.drew B g L.length (nA L) ∧ Below B w wr.drew) := Lib.hid ⟨HB.out.1.drew, HB.out.2.drew⟩
            go_wp2_with fail
            go_big_region
            go_wp2_with fail
            go_roundg gr
            case measure => omega
            case rel => exact ⟨k + 1, by omega, by omega, by go_num, HN2, HB2⟩
          · have HC : Hid (CpI w wr.drew B g L.length (nA L) (k + 1) ∧ (thI (nA L) (k + 1)).length = k) := Lib.hid (by
              have e1 : nA L k = nA L (k - 1) := by rw [HPk.out, HJ.out, HQk.out]; exact HE.out.1 rfl
              have e2 : thI (nA L) (k + 1) = (List.range k).map (nA L) := by
                rw [thI_no _ (fun h => by rcases h with h | h; omega; exact h e1), thI_nd _ _ HN.out]
              have e3 : (thI (nA L) (k + 1)).length = k := by rw [e2, List.length_map, List.length_range]
              refine ⟨⟨⟨nA L, HB.out.1.drew, ?_, fun _ _ _ => rfl⟩, by rw [e3]; omega, HB.out.2.drew⟩, e3⟩
              intro j hj
              rw [e3] at hj
              have h5 : ((List.range k).map (nA L)).length = k := by rw [List.length_map, List.length_range]
              rw [e2, nA_at (L := (List.range k).map (nA L)) (by omega)]
              simp)
            have y1 : (k : Int) ≤ (cap : Int) := by omega
            have y3 : ¬ k = cap := by omega
            have y4 : ¬ cap = k := by omega
            have y5 : ¬ cap - k = 0 := by omega
            go_wp2_with fail
            go_big_region
            clear c0 d0 x1 hjz heb HE HB HN HPk HQk
            go_wp2_with fail
            go_loopg [3, 5] (L.length - k - 1) (fun gk i j wx => ∃ r m : Nat, k < r ∧ r + gk = L.length ∧ i = .int .i64 (m : Int) ∧ j = .int .i64 ((r - k : Nat) : Int) ∧ Hid (CpI w wx B g L.length (nA L) r ∧ (thI (nA L) r).length = m))
            case atStart => exact ⟨k + 1, k, by omega, by omega, rfl, by rw [show k + 1 - k = 1 from by omega]; rfl, HC⟩
            case round =>
              obtain ⟨r, m, hkr, hrg, rfl, rfl, HS⟩ := hrel
              obtain ⟨⟨Q, hrow, hQ1, hQ2⟩, hfew, hbel⟩ := HS.out.1
              have hmr : m + 1 ≤ r := by have := HS.out.2; omega
              cases gk with
              | zero =>
                have hrn : r = L.length := by omega
                have hkz2 : ¬ (((r - k : Nat) : Int) < ((L.length - k : Nat) : Int)) := by omega
                have hmn : m < L.length := by omega
                have HZ := Lib.hid (show ∀ j, j < L.length - m → (wr.cell? ⟨g, m + j, none⟩).isSome = true from fun j hj => by rw [hrow.c (m + j) (by omega)]; rfl)
                have HY := Lib.hid (show ∀ j, j < L.length - m → wr.frozen? ⟨g, m + j, none⟩ = false from fun j hj => hrow.f (m + j) (by omega))
                have HF : Hid (IL (wr.setCells g m (zerI (L.length - m))) (wr.setCells g m (zerI (L.length - m))).heap.size (.slice (some ⟨g, 0, none⟩) m cap) (thI (nA L) L.length)) := Lib.hid (by
                  have h1 := hrow.cleared m (L.length - m) (by omega)
                  have hm := HS.out.2
                  rw [hrn] at hm hQ1
                  have h2 : Rw1 (wr.setCells g m (zerI (L.length - m))) B g (thI (nA L) L.length).length (nA (thI (nA L) L.length)) := by
                    rw [hm]; exact h1.congr (fun i hi => hQ1 i (by omega))
                  have := h2.il (cap := cap) (by omega)
                  rw [hm] at this
                  exact this)
                have HB2 := Lib.hid (below_setCellsI hrow.base (zerI (L.length - m)) m wr hbel)
                have z1 : (m : Int) ≤ (cap : Int) := by omega
                have z2 : (m : Int) ≤ (L.length : Int) := by omega
                have z3 : ¬ m = cap := by omega
                have z4 : ¬ cap = m := by omega
                have z5 : ¬ cap - m = 0 := by omega
                clear hrow hQ1 hQ2 hbel
                have hclr := fun ty => run_clear_ints (P := Try.prog) wr 48 3 ty Try.underlying48 zeroI g m (L.length - m) (cap - m) (by omega) HZ.out HY.out
                go_wp2_with fail
                go_ret
                exact ⟨_, rfl, HF.out, HB2.out⟩
              | succ gr2 =>
                obtain ⟨t, ht⟩ : ∃ t, r = k + (t + 1) := ⟨r - k - 1, by omega⟩
                have hrt : r - k = t + 1 := by omega
                have hkz2 : ((t + 1 : Nat) : Int) < ((L.length - k : Nat) : Int) := by omega
                have hkz3 : (t : Int) < ((L.length - k : Nat) : Int) := by omega
                have e0 := hrow.c r (by omega)
                have e2 := hrow.c (r - 1) (by omega)
                rw [hQ2 r (by omega) (by omega), show (⟨g, r, none⟩ : Addr) = ⟨g, k + (t + 1), none⟩ from by rw [ht]] at e0
                rw [hQ2 (r - 1) (by omega) (by omega), show (⟨g, r - 1, none⟩ : Addr) = ⟨g, k + t, none⟩ from by rw [show r - 1 = k + t from by omega]] at e2
                have b0 := hrow.c m (by omega)
                have f0 := hrow.f m (by omega)
                have hmz : (m : Int) < (L.length : Int) := by omega
                have x1 : IntKind.i64.wrap (((t + 1 : Nat) : Int) - 1) = (t : Int) := by rw [show ((t + 1 : Nat) : Int) - 1 = (t : Int) from by omega]; exact IntWalk.i64_in _ (by omega)
                have x2 : IntKind.i64.wrap ((m : Int) + 1) = (m : Int) + 1 := IntWalk.i64_in _ (by omega)
                have x3 : IntKind.i64.wrap (((t + 1 : Nat) : Int) + 1) = ((t + 1 : Nat) : Int) + 1 := IntWalk.i64_in _ (by omega)
                have HE : Hid ((nA L r == nA L (r - 1)) = true ↔ nA L r = nA L (r - 1)) := Lib.hid beq_iff_eq
                have HPut : Hid (¬ nA L r = nA L (r - 1) → CpI w (wr.drew.setCell ⟨g, m, none⟩ (.int .i64 (nA L r))) B g L.length (nA L) (r + 1)) := Lib.hid (fun h => by
                  have := HS.out.1.drew.put (by omega) (by omega) h
                  rw [HS.out.2] at this
                  exact this)
                have HLen : Hid (¬ nA L r = nA L (r - 1) → (thI (nA L) (r + 1)).length = m + 1) := Lib.hid (fun h => by
                  rw [thI_yes _ (Or.inr h), List.length_append, HS.out.2]; rfl)
                have HSk : Hid (nA L r = nA L (r - 1) → CpI w wr.drew B g L.length (nA L) (r + 1) ∧ (thI (nA L) (r + 1)).length = m) := Lib.hid (fun h => ⟨HS.out.1.drew.skip (by omega) h, by
                  rw [thI_no _ (fun h' => by rcases h' with h' | h'; omega; exact h' h)]; exact HS.out.2⟩)
                have hgg : r + 1 + gr2 = L.length := by omega
                have hkr2 : k < r + 1 := by omega
                have HR2 : Hid (((r + 1 - k : Nat) : Int) = ((t + 1 : Nat) : Int) + 1) := Lib.hid (by omega)
                rw [hrt]
                clear hrow hQ1 hQ2 hbel hfew HS hmr hrt
                have HX1 : Hid ((nA L r == nA L (r - 1)) = false → ¬ nA L r = nA L (r - 1)) := Lib.hid (fun h e => by rw [HE.out.2 e] at h; cases h)
                generalize hpk : nA L r = p1 at *
                generalize hqk : nA L (r - 1) = q1 at *
                have HPk := Lib.hid hpk
                have HQk := Lib.hid hqk
                clear hpk hqk
                generalize heb : (p1 == q1) = eb at *
                clear ht
                generalize t + 1 = t1 at *
                cases eb
                · have HX := Lib.hid (HX1.out rfl)
                  go_wp2_with fail
                  go_big_region
                  go_wp2_with fail
                  go_roundg gr2
                  case measure => omega
                  case rel => exact ⟨r + 1, m + 1, hkr2, hgg, by go_num, by rw [HR2.out], Lib.hid ⟨HPut.out HX.out, HLen.out HX.out⟩⟩
                · have HX := Lib.hid (HE.out.1 rfl)
                  go_wp2_with fail
                  go_big_region
                  go_wp2_with fail
                  go_roundg gr2
                  case measure => omega
                  case rel => exact ⟨r + 1, m, hkr2, hgg, rfl, by rw [HR2.out], Lib.hid (HSk.out HX.out)⟩

/-- Rising, each once, just those of a list. -/
def UnP (X L : List Int) : Prop := X.Pairwise (· < ·) ∧ ∀ y, y ∈ X ↔ y ∈ L
theorem rise_uniq : ∀ {A B : List Int}, A.Pairwise (· < ·) → B.Pairwise (· < ·) → (∀ y, y ∈ A ↔ y ∈ B) → A = B
  | [], [], _, _, _ => rfl
  | [], b :: B, _, _, h => by have := (h b).2 (by simp); simp at this
  | a :: A, [], _, _, h => by have := (h a).1 (by simp); simp at this
  | a :: A, b :: B, ha, hb, h => by
    rw [List.pairwise_cons] at ha hb
    have e : a = b := by
      have h1 := (h a).1 (by simp)
      have h2 := (h b).2 (by simp)
      rcases List.mem_cons.1 h1 with h1 | h1
      · exact h1
      · rcases List.mem_cons.1 h2 with h2 | h2
        · exact h2.symm
        · have := hb.1 a h1; have := ha.1 b h2; omega
    subst e
    rw [rise_uniq ha.2 hb.2 (fun y => ?_)]
    constructor
    · intro hy
      rcases List.mem_cons.1 ((h y).1 (by simp [hy])) with rfl | h3
      · exact absurd (ha.1 y hy) (by omega)
      · exact h3
    · intro hy
      rcases List.mem_cons.1 ((h y).2 (by simp [hy])) with rfl | h3
      · exact absurd (hb.1 y hy) (by omega)
      · exact h3
theorem UnP.eq {X Y L : List Int} (hx : UnP X L) (hy : UnP Y L) : X = Y := rise_uniq hx.1 hy.1 (fun y => (hx.2 y).trans (hy.2 y).symm)
theorem thI_rise {S : List Int} (h : S.Pairwise (· ≤ ·)) : ∀ k, k ≤ S.length → (thI (nA S) k).Pairwise (· < ·) ∧ (∀ y, y ∈ thI (nA S) k ↔ y ∈ S.take k) ∧ (∀ y ∈ thI (nA S) k, y ≤ nA S (k - 1))
  | 0, _ => by simp [thI]
  | k + 1, hk => by
    have ih := thI_rise h k (by omega)
    have hS : nA S k = S[k] := nA_at (by omega)
    by_cases hc : k = 0 ∨ nA S k ≠ nA S (k - 1)
    · rw [thI_yes _ hc, List.take_succ_eq_append_getElem (by omega), hS]
      have hlt : ∀ y ∈ thI (nA S) k, y < S[k] := fun y hy => by
        have h1 := ih.2.2 y hy
        by_cases e : k = 0
        · subst e; simp [thI] at hy
        · have h2 : nA S (k - 1) = S[k - 1] := nA_at (by omega)
          have h3 := List.pairwise_iff_getElem.1 h (k - 1) k (by omega) (by omega) (by omega)
          rcases hc with hc | hc
          · exact absurd hc e
          · rw [hS, h2] at hc
            rw [h2] at h1
            omega
      refine ⟨List.pairwise_append.2 ⟨ih.1, by simp, fun a ha b hb => ?_⟩, fun y => ?_, fun y hy => ?_⟩
      · simp at hb; subst hb; exact hlt a ha
      · rw [List.mem_append, List.mem_append, ih.2.1 y]
      · rw [Nat.add_sub_cancel, hS]
        rcases List.mem_append.1 hy with h1 | h1
        · exact Int.le_of_lt (hlt y h1)
        · simp at h1; omega
    · rw [thI_no _ hc, List.take_succ_eq_append_getElem (by omega), Nat.add_sub_cancel]
      have h0 : k ≠ 0 := fun e => hc (Or.inl e)
      have h1 : nA S k = nA S (k - 1) := Classical.byContradiction fun e => hc (Or.inr e)
      refine ⟨ih.1, fun y => ?_, fun y hy => by rw [h1]; exact ih.2.2 y hy⟩
      rw [List.mem_append, ← ih.2.1 y]
      constructor
      · exact fun h => .inl h
      · rintro (h2 | h2)
        · exact h2
        · simp at h2
          rw [ih.2.1 y]
          subst h2
          have h3 : nA S (k - 1) = S[k - 1] := nA_at (by omega)
          rw [← hS, h1, h3]
          exact List.mem_take_iff_getElem.2 ⟨k - 1, by omega, rfl⟩
def UqPost (L : List Int) (w : World) (e : Ending) (w' : World) : Prop := ∃ u X, e = .returned u ∧ UnP X L ∧ X.length ≤ L.length ∧ IL w' w'.heap.size u X ∧ Below w.heap.size w w'
theorem thI_len (P : Nat → Int) : ∀ k, (thI P k).length ≤ k
  | 0 => Nat.le_refl _
  | k + 1 => by
    have := thI_len P k
    unfold thI
    split
    · rw [List.length_append]; simp; omega
    · omega
theorem unp_srt (L : List Int) : UnP (thI (nA (srt ilt L)) (srt ilt L).length) L ∧ (thI (nA (srt ilt L)) (srt ilt L).length).length ≤ L.length := by
  have h := thI_rise (ilt_le.1 (srt_srtd ilt_sto L)) (srt ilt L).length (Nat.le_refl _)
  refine ⟨⟨h.1, fun y => ?_⟩, ?_⟩
  · rw [h.2.1 y, List.take_length, (srt_perm ilt L).mem_iff]
  · refine Nat.le_trans (thI_len _ _) ?_
    rw [(srt_perm ilt L).length_eq]; exact Nat.le_refl _
set_option maxRecDepth 100000 in
theorem ouniq_any {w : World} {gt : Nat} {v : Value} {L : List Int} (hI : IL w gt v L) (hL : L.length ≤ 1000) : Calls Try.prog 52 #[v] w (UqPost L w) := by
  have HS := Lib.hid (sorted_any 64 #[] ilt (fun _ => True) (hI.new (Nat.le_refl _)) hL (fun _ _ => trivial) (fun args W => by first | rfl | simp [callFunc]) (fun W x y _ _ _ => (oless_any x y W).mono (fun e w' h => ⟨h.1, h.2 ▸ Below.refl _ _⟩)))
  obtain ⟨q, c, rfl, _, hx⟩ := hI
  clear hx
  have HU := Lib.hid (unp_srt L)
  have hl := (srt_perm ilt L).length_eq
  go_enter Try.func52, Try.ntmps52
  go_wp2_with fail
  go_at_call 63
  refine Calls.mono HS.out ?_
  rintro e w1 ⟨u, rfl, ho, hb⟩
  have HB := Lib.hid hb
  have HC := Lib.hid (icompact_any (L := srt ilt L) (by rw [hl]; exact ho) (by rw [hl]; exact hL))
  clear ho hb hl
  generalize thI (nA (srt ilt L)) (srt ilt L).length = X at *
  go_wp2_with fail
  go_at_call 62
  refine Calls.mono HC.out ?_
  rintro e w2 ⟨u2, rfl, hi2, hb2⟩
  have HI2 := Lib.hid hi2
  have HB2 : Hid (Below w.heap.size w w2) := Lib.hid (HB.out.trans hb2)
  clear hi2 hb2
  go_wp2_with fail
  go_ret
  exact ⟨u2, X, rfl, HU.out.1, HU.out.2, HI2.out, HB2.out⟩
/-- What was put in, each once. -/
structure RqS (w W : World) (u : Value) (L : List Int) (i : Nat) (X : List Int) : Prop where
  il : IL W W.heap.size u X
  un : UnP X (L.take i)
  len : X.length ≤ i
  below : Below w.heap.size w W
theorem rise_le {X : List Int} (h : X.Pairwise (· < ·)) : X.Pairwise (· ≤ ·) := h.imp (fun h => Int.le_of_lt h)
theorem RqS.skip {w W w1 : World} {u : Value} {L X : List Int} {i k : Nat} (h : RqS w W u L i X) (hi : i < L.length) (hb : Below W.heap.size W w1) (hk : X[k]? = some L[i]) : RqS w w1 u L (i + 1) X := by
  refine ⟨h.il.keep hb, ⟨h.un.1, fun y => ?_⟩, by have := h.len; omega, below_after h.below hb⟩
  rw [List.take_succ_eq_append_getElem hi, List.mem_append, ← h.un.2 y]
  constructor
  · exact fun h => .inl h
  · rintro (h2 | h2)
    · exact h2
    · simp at h2
      subst h2
      exact List.mem_of_getElem? hk
theorem RqS.put {w W w1 : World} {u u2 : Value} {L X R : List Int} {i k base : Nat} (h : RqS w W u L i X) (hi : i < L.length) (hb : Below w.heap.size w w1) (h1 : ∀ j (h : j < X.length), j < k → X[j] < L[i]) (h2 : ∀ h : k < X.length, ¬ X[k] < L[i]) (h3 : ¬ X[k]? = some L[i])
    (hp : InsP ilt L[i] X R) (ho : w1.ownsRow base 3 1 u2 R.length (icells R)) : RqS w w1 u2 L (i + 1) R := by
  have hnm : ∀ j (h : j < X.length), X[j] ≠ L[i] := fun j hj e => by
    rcases Nat.lt_trichotomy j k with c | c | c
    · have := h1 j hj c; omega
    · subst c; exact h3 (by rw [List.getElem?_eq_getElem hj, e])
    · have a := List.pairwise_iff_getElem.1 h.un.1 k j (by omega) hj c
      have b := h2 (by omega)
      omega
  have hs := hp.srtd ilt_sto (ilt_le.2 (rise_le h.un.1))
  have hm : ∀ y, y ∈ R ↔ y ∈ L.take (i + 1) := fun y => by
    rw [hp.perm.mem_iff, List.take_succ_eq_append_getElem hi, List.mem_append, List.mem_cons, h.un.2 y, List.mem_singleton]
    exact Or.comm
  have hnd : R.Pairwise (· ≠ ·) := by
    refine hp.perm.symm.pairwise (R := fun a b => a ≠ b) (List.pairwise_cons.2 ⟨fun y hy => ?_, h.un.1.imp (fun h => by omega)⟩) (fun h => Ne.symm h)
    obtain ⟨j, hj, rfl⟩ := List.mem_iff_getElem.1 hy
    exact fun e => hnm j hj e.symm
  refine ⟨own_IL ho, ⟨?_, hm⟩, by rw [hp.len]; have := h.len; omega, hb⟩
  have := (ilt_le.1 hs).and hnd
  exact this.imp (fun h => by omega)
end Go.Proofs.Ytenfaejdnphngaa
