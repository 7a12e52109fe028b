/- The walk of ring.Alike, and that it is the document's: least beginnings. -/
import Derived.Test.YtkibjbbhiclkmaaRefPts
import Derived.Laws.IdiomCopy
namespace Go.Proofs.Ytkibjbbhiclkmaa
open Go.RowKit Go.Sort

theorem below_setCells {B g : Nat} {w : World} (hg : B ≤ g) : ∀ (vs : List Value) (o : Nat) (W : World), Below B w W → Below B w (W.setCells g o vs)
  | [], _, _, h => h
  | v :: r, o, _, h => below_setCells hg r (o + 1) _ (h.setCell (p := ⟨g, o, none⟩) hg v)
def zers (n : Nat) : List Value := (Builtin.zeroCells #[.int .i64 0, .int .i64 0] n).toList
theorem zers_len (n : Nat) : (zers n).length = n * 2 := by unfold zers Builtin.zeroCells; simp
theorem zers_one (n : Nat) : ∀ u ∈ zers n, u.oneCell' = true := by
  intro u hu
  unfold zers Builtin.zeroCells at hu
  simp at hu
  obtain ⟨i, _, rfl⟩ := hu
  rcases Nat.mod_two_eq_zero_or_one i with h | h <;> simp [h, Value.oneCell']
theorem run_clear_pts {P : Program} (w : World) (t e ty : TypeId) (ht : P.underlying t = some (.slice e)) (hz : ∀ w, (zeroValue e).run P w = .ok (.agg #[.int .i64 0, .int .i64 0]) w)
    (g off n c : Nat) (hn : 0 < n) (hc : ∀ j, j < n * 2 → (w.cell? ⟨g, off + j, none⟩).isSome = true) (hf : ∀ j, j < n * 2 → w.frozen? ⟨g, off + j, none⟩ = false) :
    (Builtin.clear_ #[t] ty #[.slice (some ⟨g, off, none⟩) n c]).run P w = .ok (.tuple #[]) (w.setCells g off (zers n)) := by
  have hst := run_storeCells_cells (P := P) g off (zers n) 0 w (by rw [zers_len]; simpa using hc) (by rw [zers_len]; simpa using hf) (zers_one n)
  rw [Nat.add_zero] at hst
  obtain ⟨m, rfl⟩ : ∃ m, n = m + 1 := ⟨n - 1, by omega⟩
  unfold zers at hst ⊢
  simp [Builtin.clear_, run_underlying ht, hz, Value.cells, hst]
/-- What stays of a row whose end was cleared. -/
theorem Rw.cleared {W : World} {B g n : Nat} {P : Nat → Int × Int} (h : Rw W B g n P) (k m : Nat) (hk : k ≤ n) : Rw (W.setCells g (k * 2) (zers m)) B g k P := by
  have hout : ∀ o, o < k * 2 → (W.setCells g (k * 2) (zers m)).cell? ⟨g, o, none⟩ = W.cell? ⟨g, o, none⟩ := fun o ho =>
    World.cell?_setCells_out g (zers m) (k * 2) W ⟨g, o, none⟩ (fun _ _ => Or.inl ho)
  refine ⟨h.base, ?_, fun i hi => (hout _ (by omega)).trans (h.c0 i (by omega)), fun i hi => (hout _ (by omega)).trans (h.c1 i (by omega)), fun i hi => ?_, fun i hi => ?_⟩
  · exact Nat.lt_of_lt_of_le h.lt (below_setCells (Nat.le_refl g) (zers m) (k * 2) W (Below.refl g W)).size
  · rw [World.frozen?_setCells]; exact h.f0 i (by omega)
  · rw [World.frozen?_setCells]; exact h.f1 i (by omega)
theorem Rw.some {W : World} {B g n : Nat} {P : Nat → Int × Int} (h : Rw W B g n P) (k : Nat) : ∀ j, j < (n - k) * 2 → (W.cell? ⟨g, k * 2 + j, none⟩).isSome = true := by
  intro j hj
  rcases Nat.mod_two_eq_zero_or_one j with e | e
  · have := h.c0 (k + j / 2) (by omega)
    rw [show (k + j / 2) * 2 = k * 2 + j from by omega] at this
    rw [this]; rfl
  · have := h.c1 (k + j / 2) (by omega)
    rw [show (k + j / 2) * 2 + 1 = k * 2 + j from by omega] at this
    rw [this]; rfl
theorem Rw.soft {W : World} {B g n : Nat} {P : Nat → Int × Int} (h : Rw W B g n P) (k : Nat) : ∀ j, j < (n - k) * 2 → W.frozen? ⟨g, k * 2 + j, none⟩ = false := by
  intro j hj
  rcases Nat.mod_two_eq_zero_or_one j with e | e
  · have := h.f0 (k + j / 2) (by omega)
    rw [show (k + j / 2) * 2 = k * 2 + j from by omega] at this
    exact this
  · have := h.f1 (k + j / 2) (by omega)
    rw [show (k + j / 2) * 2 + 1 = k * 2 + j from by omega] at this
    exact this

theorem neq_ap (ax ay bx b_y : Int) (w : World) : Sem.run Try.prog (binOp .neq 24 (.agg #[.int .i64 ax, .int .i64 ay]) (.agg #[.int .i64 bx, .int .i64 b_y])) w = .ok (.bool (!eqB ax ay bx b_y)) w := by
  have u3 := Try.underlying3
  have hS : Try.prog.underlying 24 = some (.struct (Try.prog.fieldsOf 24)) := by kernel_rfl
  have hp : Try.prog.stoodInHeld 24 = false := by kernel_rfl
  rw [run_neq_struct, show (10000 : Nat) = 9999 + 1 from rfl, run_equalIn_agg w 9999 24 _ _ hS hp]
  simp only [Program.fieldsOf, Try.underlying24]
  unfold eqB
  go_simp
  by_cases h1 : ax = bx <;> by_cases h2 : ay = b_y <;> simp [h1, h2]
theorem zeroAP (w : World) : (zeroValue 24).run Try.prog w = .ok (.agg #[.int .i64 0, .int .i64 0]) w := by
  obtain ⟨i0, hi, hz0, hz1, hz2⟩ := info_parts infoAP
  simp [zeroValue, typeInfo, hi, hz0]
def nd (P : Nat → Int × Int) (k : Nat) : Prop := ∀ i, 0 < i → i < k → P i ≠ P (i - 1)
theorem thA_nd (P : Nat → Int × Int) : ∀ k, nd P k → thA P k = (List.range k).map P
  | 0, _ => rfl
  | k + 1, h => by
    unfold thA
    rw [if_pos, thA_nd P k (fun i h1 h2 => h i h1 (by omega)), range_push]
    by_cases e : k = 0
    · exact Or.inl e
    · exact Or.inr (h k (by omega) (by omega))
theorem range_all (L : List (Int × Int)) : (List.range L.length).map (ptA L) = L := by
  refine List.ext_getElem (by simp) fun i h1 h2 => ?_
  simp only [List.getElem_map, List.getElem_range]
  exact ptA_at h2
theorem thA_yes (P : Nat → Int × Int) {k : Nat} (h : k = 0 ∨ P k ≠ P (k - 1)) : thA P (k + 1) = thA P k ++ [P k] := by
  show (if k = 0 ∨ P k ≠ P (k - 1) then _ else _) = _
  rw [if_pos h]
theorem thA_no (P : Nat → Int × Int) {k : Nat} (h : ¬ (k = 0 ∨ P k ≠ P (k - 1))) : thA P (k + 1) = thA P k := by
  show (if k = 0 ∨ P k ≠ P (k - 1) then _ else _) = _
  rw [if_neg h]
theorem pt_app (X : List (Int × Int)) (p : Int × Int) (j : Nat) (hj : j < X.length + 1) : ptA (X ++ [p]) j = if j < X.length then ptA X j else p := by
  rw [ptA_at (by rw [List.length_append]; exact hj)]
  by_cases h : j < X.length
  · rw [if_pos h, List.getElem_append_left h, ptA_at h]
  · rw [if_neg h, List.getElem_append_right (by omega)]
    simp
/-- While the row is drawn together: what was kept lies ahead, what is to come is as it was. -/
structure CpS (w W : World) (B g n : Nat) (P : Nat → Int × Int) (r : Nat) : Prop where
  row : ∃ Q, Rw W B g n Q ∧ (∀ j, j < (thA P r).length → Q j = ptA (thA P r) j) ∧ (∀ j, r - 1 ≤ j → j < n → Q j = P j)
  few : (thA P r).length + 1 ≤ r
  below : Below B w W
theorem CpS.drew {w W : World} {B g n r : Nat} {P : Nat → Int × Int} (h : CpS w W B g n P r) : CpS w W.drew B g n P r := by
  obtain ⟨⟨Q, h1, h2, h3⟩, h4, h5⟩ := h
  exact ⟨⟨Q, h1.drew, h2, h3⟩, h4, h5.drew⟩
theorem CpS.skip {w W : World} {B g n r : Nat} {P : Nat → Int × Int} (h : CpS w W B g n P r) (hr : 0 < r) (e : P r = P (r - 1)) : CpS w W B g n P (r + 1) := by
  obtain ⟨⟨Q, h1, h2, h3⟩, h4, h5⟩ := h
  have e2 : thA P (r + 1) = thA P r := thA_no P (fun h => by rcases h with h | h; omega; exact h e)
  refine ⟨⟨Q, h1, ?_, fun j hj hn => h3 j (by omega) hn⟩, by rw [e2]; omega, h5⟩
  rw [e2]; exact h2
theorem CpS.put {w W : World} {B g n r : Nat} {P : Nat → Int × Int} (h : CpS w W B g n P r) (hr : 0 < r) (hn : r < n) (e : P r ≠ P (r - 1)) :
    CpS w ((W.setCell ⟨g, (thA P r).length * 2, none⟩ (.int .i64 (P r).1)).setCell ⟨g, (thA P r).length * 2 + 1, none⟩ (.int .i64 (P r).2)) B g n P (r + 1) := by
  obtain ⟨⟨Q, h1, h2, h3⟩, h4, h5⟩ := h
  have e2 : thA P (r + 1) = thA P r ++ [P r] := thA_yes P (Or.inr e)
  have hB := h1.base
  refine ⟨⟨_, h1.put (thA P r).length (by omega) (P r).1 (P r).2, ?_, ?_⟩, by rw [e2, List.length_append]; simp; omega, (h5.setCell (p := ⟨g, _, none⟩) hB _).setCell (p := ⟨g, _, none⟩) hB _⟩
  · intro j hj
    rw [e2, List.length_append, List.length_singleton] at hj
    rw [e2, pt_app _ _ j hj]
    by_cases hx : j = (thA P r).length
    · subst hx; rw [if_pos rfl, if_neg (by omega)]
    · rw [if_neg hx, if_pos (by omega)]; exact h2 j (by omega)
  · intro j hj hjn
    rw [if_neg (by omega)]; exact h3 j (by omega) hjn

set_option maxRecDepth 100000 in
set_option maxHeartbeats 4000000 in
theorem compact_any {w : World} {B : Nat} {v : Value} {L : List (Int × Int)} (h : OwPL w B v L) (hL : L.length ≤ 1000) :
    Calls Try.prog 73 #[v] w fun e w' => ∃ u, e = .returned u ∧ PL w' u (thA (ptA L) L.length) ∧ Below B w w' := by
  have hmx : Try.prog.follows .mixedOrders = true := by kernel_rfl
  rcases h with ⟨rfl, rfl⟩ | ⟨g, cap, rfl, hcap, hmax, hr⟩
  · go_enter Try.func73, Try.ntmps73
    go_wp2_with fail
    go_ret
    exact ⟨.slice none 0 0, rfl, (show PL w (.slice none 0 0) [] from ⟨none, 0, rfl, by simp, fun i hi => absurd hi (by simp)⟩), Below.refl _ _⟩
  · have HR := Lib.hid hr
    clear hr
    by_cases h2 : L.length < 2
    · have hlz : (L.length : Int) < 2 := by omega
      have HF : Hid (PL w (.slice (some ⟨g, 0, none⟩) L.length cap) (thA (ptA L) L.length)) := Lib.hid (by
        rw [thA_nd _ _ (fun i h3 h4 => by omega), range_all]
        exact HR.out.pl hcap)
      go_enter Try.func73, Try.ntmps73
      go_wp2_with fail
      go_ret
      exact ⟨_, rfl, HF.out, Below.refl _ _⟩
    · have hlz : ¬ (L.length : Int) < 2 := by omega
      go_enter Try.func73, Try.ntmps73
      go_wp2_with fail
      go_loopg [3] (L.length - 1) (fun gk i wx => ∃ k : Nat, 1 ≤ k ∧ k + gk = L.length ∧ i = .int .i64 (k : Int) ∧ Hid (nd (ptA L) k) ∧ Hid (Rw wx B g L.length (ptA L) ∧ Below B w wx))
      case atStart => exact ⟨1, by omega, by omega, rfl, Lib.hid (fun i h3 h4 => by omega), Lib.hid ⟨HR.out, Below.refl _ _⟩⟩
      case round =>
        obtain ⟨k, hk1, hkg, rfl, HN, HB⟩ := hrel
        cases gk with
        | zero =>
          have hkz : ¬ ((k : Int) < (L.length : Int)) := by omega
          have HF : Hid (PL wr (.slice (some ⟨g, 0, none⟩) L.length cap) (thA (ptA L) L.length)) := Lib.hid (by
            rw [thA_nd _ _ (by have h := HN.out; rw [show k = L.length from by omega] at h; exact h), range_all]
            exact HB.out.1.pl hcap)
          go_wp2_with fail
          go_ret
          exact ⟨_, rfl, HF.out, HB.out.2⟩
        | succ gr =>
          have hkz : (k : Int) < (L.length : Int) := by omega
          have hkn : k < L.length := by omega
          have c0 := HB.out.1.c0 k hkn
          have c1 := HB.out.1.c1 k hkn
          have d0 := HB.out.1.c0 (k - 1) (by omega)
          have d1 := HB.out.1.c1 (k - 1) (by omega)
          have x1 : IntKind.i64.wrap ((k : Int) - 1) = ((k - 1 : Nat) : Int) := by rw [show (k : Int) - 1 = ((k - 1 : Nat) : Int) from by omega]; exact IntWalk.i64_in _ (by omega)
          have hjz : ((k - 1 : Nat) : Int) < (L.length : Int) := by omega
          have hq := fun W => eq_pt (ptA L k).1 (ptA L k).2 (ptA L (k - 1)).1 (ptA L (k - 1)).2 W
          have HE := Lib.hid (eqB_pt (ptA L k) (ptA L (k - 1)))
          generalize (ptA L k).1 = p1 at *
          generalize (ptA L k).2 = p2 at *
          generalize (ptA L (k - 1)).1 = q1 at *
          generalize (ptA L (k - 1)).2 = q2 at *
          generalize eqB p1 p2 q1 q2 = eb at *
          generalize hj : k - 1 = j at *
          have HJ := Lib.hid hj
          clear hj
          cases eb
          · have HN2 : Hid (nd (ptA L) (k + 1)) := Lib.hid (fun i h3 h4 => by
              by_cases e : i = k
              · subst e; intro h5; rw [HJ.out] at h5; have := HE.out.2 h5; cases this
              · exact HN.out i h3 (by omega))
            have HB2 : Hid (Rw wr.drew B g L.length (ptA L) ∧ Below B w wr.drew) := Lib.hid ⟨HB.out.1.drew, HB.out.2.drew⟩
            go_wp2_with fail
            go_big_region
            go_wp2_with fail
            go_roundg gr
            case measure => omega
            case rel => exact ⟨k + 1, by omega, by omega, by go_num, HN2, HB2⟩
          · have HC : Hid (CpS w wr.drew B g L.length (ptA L) (k + 1) ∧ (thA (ptA L) (k + 1)).length = k) := Lib.hid (by
              have e1 : ptA L k = ptA L (k - 1) := by rw [HJ.out]; exact HE.out.1 rfl
              have e2 : thA (ptA L) (k + 1) = (List.range k).map (ptA L) := by
                rw [thA_no _ (fun h => by rcases h with h | h; omega; exact h e1), thA_nd _ _ HN.out]
              have e3 : (thA (ptA L) (k + 1)).length = k := by rw [e2, map_len]
              refine ⟨⟨⟨ptA L, HB.out.1.drew, ?_, fun _ _ _ => rfl⟩, by rw [e3]; omega, HB.out.2.drew⟩, e3⟩
              intro j hj
              rw [e3] at hj
              have h5 : ((List.range k).map (ptA L)).length = k := map_len _ _
              rw [e2, ptA_at (L := (List.range k).map (ptA L)) (by omega)]
              simp)
            have y1 : (k : Int) ≤ (cap : Int) := by omega
            have y3 : ¬ k = cap := by omega
            have y4 : ¬ cap = k := by omega
            have y5 : ¬ cap - k = 0 := by omega
            go_wp2_with fail
            go_big_region
            clear c0 c1 d0 d1 x1 hjz hq HE HB HN
            go_wp2_with fail
            go_loopg [3, 5] (L.length - k - 1) (fun gk i j wx => ∃ r m : Nat, k < r ∧ r + gk = L.length ∧ i = .int .i64 (m : Int) ∧ j = .int .i64 ((r - k : Nat) : Int) ∧ Hid (CpS w wx B g L.length (ptA L) r ∧ (thA (ptA L) r).length = m))
            case atStart => exact ⟨k + 1, k, by omega, by omega, rfl, by rw [show k + 1 - k = 1 from by omega]; rfl, HC⟩
            case round =>
              obtain ⟨r, m, hkr, hrg, rfl, rfl, HS⟩ := hrel
              obtain ⟨⟨Q, hrow, hQ1, hQ2⟩, hfew, hbel⟩ := HS.out.1
              have hmr : m + 1 ≤ r := by have := HS.out.2; omega
              cases gk with
              | zero =>
                have hrn : r = L.length := by omega
                have hkz2 : ¬ (((r - k : Nat) : Int) < ((L.length - k : Nat) : Int)) := by omega
                have hmn : m < L.length := by omega
                have HZ := Lib.hid (hrow.some m)
                have HY := Lib.hid (hrow.soft m)
                have HF : Hid (PL (wr.setCells g (m * 2) (zers (L.length - m))) (.slice (some ⟨g, 0, none⟩) m cap) (thA (ptA L) L.length)) := Lib.hid (by
                  have h1 := hrow.cleared m (L.length - m) (by omega)
                  have hm := HS.out.2
                  rw [hrn] at hm hQ1
                  have h2 : Rw (wr.setCells g (m * 2) (zers (L.length - m))) B g (thA (ptA L) L.length).length (ptA (thA (ptA L) L.length)) := by
                    rw [hm]; exact h1.congr (fun i hi => hQ1 i (by omega))
                  have := h2.pl (cap := cap) (by omega)
                  rw [hm] at this
                  exact this)
                have HB2 := Lib.hid (below_setCells hrow.base (zers (L.length - m)) (m * 2) wr hbel)
                have z1 : (m : Int) ≤ (cap : Int) := by omega
                have z2 : (m : Int) ≤ (L.length : Int) := by omega
                have z3 : ¬ m = cap := by omega
                have z4 : ¬ cap = m := by omega
                have z5 : ¬ cap - m = 0 := by omega
                clear hrow hQ1 hQ2 hbel
                have hclr := fun ty => run_clear_pts (P := Try.prog) wr 22 24 ty Try.underlying22 zeroAP g (m * 2) (L.length - m) (cap - m) (by omega) HZ.out HY.out
                go_wp2_with fail
                go_ret
                exact ⟨_, rfl, HF.out, HB2.out⟩
              | succ gr2 =>
                obtain ⟨t, ht⟩ : ∃ t, r = k + (t + 1) := ⟨r - k - 1, by omega⟩
                have hrt : r - k = t + 1 := by omega
                have hkz2 : ((t + 1 : Nat) : Int) < ((L.length - k : Nat) : Int) := by omega
                have hkz3 : (t : Int) < ((L.length - k : Nat) : Int) := by omega
                have e0 := hrow.c0 r (by omega)
                have e1 := hrow.c1 r (by omega)
                have e2 := hrow.c0 (r - 1) (by omega)
                have e3 := hrow.c1 (r - 1) (by omega)
                rw [hQ2 r (by omega) (by omega), show r * 2 = k * 2 + (t + 1) * 2 from by omega] at e0 e1
                rw [hQ2 (r - 1) (by omega) (by omega), show (r - 1) * 2 = k * 2 + t * 2 from by omega] at e2 e3
                have b0 := hrow.c0 m (by omega)
                have b1 := hrow.c1 m (by omega)
                have f0 := hrow.f0 m (by omega)
                have f1 := hrow.f1 m (by omega)
                have hmz : (m : Int) < (L.length : Int) := by omega
                have x1 : IntKind.i64.wrap (((t + 1 : Nat) : Int) - 1) = (t : Int) := by rw [show ((t + 1 : Nat) : Int) - 1 = (t : Int) from by omega]; exact IntWalk.i64_in _ (by omega)
                have x2 : IntKind.i64.wrap ((m : Int) + 1) = (m : Int) + 1 := IntWalk.i64_in _ (by omega)
                have x3 : IntKind.i64.wrap (((t + 1 : Nat) : Int) + 1) = ((t + 1 : Nat) : Int) + 1 := IntWalk.i64_in _ (by omega)
                have hq := fun W => neq_ap (ptA L r).1 (ptA L r).2 (ptA L (r - 1)).1 (ptA L (r - 1)).2 W
                have HE := Lib.hid (eqB_pt (ptA L r) (ptA L (r - 1)))
                have HPut : Hid (¬ ptA L r = ptA L (r - 1) → CpS w ((wr.drew.setCell ⟨g, m * 2, none⟩ (.int .i64 (ptA L r).1)).setCell ⟨g, m * 2 + 1, none⟩ (.int .i64 (ptA L r).2)) B g L.length (ptA L) (r + 1)) := Lib.hid (fun h => by
                  have := HS.out.1.drew.put (by omega) (by omega) h
                  rw [HS.out.2] at this
                  exact this)
                have HLen : Hid (¬ ptA L r = ptA L (r - 1) → (thA (ptA L) (r + 1)).length = m + 1) := Lib.hid (fun h => by
                  rw [thA_yes _ (Or.inr h), List.length_append, HS.out.2]; rfl)
                have HSk : Hid (ptA L r = ptA L (r - 1) → CpS w wr.drew B g L.length (ptA L) (r + 1) ∧ (thA (ptA L) (r + 1)).length = m) := Lib.hid (fun h => ⟨HS.out.1.drew.skip (by omega) h, by
                  rw [thA_no _ (fun h' => by rcases h' with h' | h'; omega; exact h' h)]; exact HS.out.2⟩)
                have hgg : r + 1 + gr2 = L.length := by omega
                have hkr2 : k < r + 1 := by omega
                have HR2 : Hid (((r + 1 - k : Nat) : Int) = ((t + 1 : Nat) : Int) + 1) := Lib.hid (by omega)
                rw [hrt]
                clear hrow hQ1 hQ2 hbel hfew HS hmr hrt
                generalize (ptA L r).1 = p1 at *
                generalize (ptA L r).2 = p2 at *
                generalize (ptA L (r - 1)).1 = q1 at *
                generalize (ptA L (r - 1)).2 = q2 at *
                generalize eqB p1 p2 q1 q2 = eb at *
                clear ht
                generalize t + 1 = t1 at *
                cases eb
                · have HX : Hid (¬ ptA L r = ptA L (r - 1)) := Lib.hid (fun h => by have := HE.out.2 h; cases this)
                  go_wp2_with fail
                  go_big_region
                  go_wp2_with fail
                  go_roundg gr2
                  case measure => omega
                  case rel => exact ⟨r + 1, m + 1, hkr2, hgg, by go_num, by rw [HR2.out], Lib.hid ⟨HPut.out HX.out, HLen.out HX.out⟩⟩
                · have HX : Hid (ptA L r = ptA L (r - 1)) := Lib.hid (HE.out.1 rfl)
                  go_wp2_with fail
                  go_big_region
                  go_wp2_with fail
                  go_roundg gr2
                  case measure => omega
                  case rel => exact ⟨r + 1, m, hkr2, hgg, rfl, by rw [HR2.out], Lib.hid (HSk.out HX.out)⟩

/-- As the code has it: one point at most goes from the end. -/
def thnC (X : List (Int × Int)) : List (Int × Int) := if 1 < X.length ∧ ptA X (X.length - 1) = ptA X 0 then X.take (X.length - 1) else X
theorem thA_last (P : Nat → Int × Int) : ∀ k, 0 < k → 0 < (thA P k).length ∧ ptA (thA P k) ((thA P k).length - 1) = P (k - 1)
  | 0, h => absurd h (by omega)
  | k + 1, _ => by
    by_cases h : k = 0 ∨ P k ≠ P (k - 1)
    · rw [thA_yes P h]
      have hl : (thA P k ++ [P k]).length = (thA P k).length + 1 := by rw [List.length_append]; rfl
      rw [hl]
      refine ⟨by omega, ?_⟩
      rw [pt_app _ _ _ (by omega), if_neg (by omega)]; rfl
    · rw [thA_no P h]
      have h1 : ¬ k = 0 := fun e => h (Or.inl e)
      have h2 : P k = P (k - 1) := Classical.byContradiction fun e => h (Or.inr e)
      have := thA_last P k (by omega)
      refine ⟨this.1, ?_⟩
      rw [this.2, ← h2]; rfl
theorem thA_nd2 (P : Nat → Int × Int) : ∀ k, ∀ i, 0 < i → i < (thA P k).length → ptA (thA P k) i ≠ ptA (thA P k) (i - 1)
  | 0, i, _, h => absurd h (by simp [thA])
  | k + 1, i, h0, hi => by
    by_cases h : k = 0 ∨ P k ≠ P (k - 1)
    · rw [thA_yes P h] at hi ⊢
      have hl : (thA P k ++ [P k]).length = (thA P k).length + 1 := by rw [List.length_append]; rfl
      rw [hl] at hi
      rw [pt_app _ _ _ (by omega), pt_app _ _ _ (by omega)]
      by_cases e : i < (thA P k).length
      · rw [if_pos e, if_pos (by omega)]; exact thA_nd2 P k i h0 e
      · rw [if_neg e, if_pos (by omega)]
        have hk : 0 < k := by
          rcases Nat.eq_zero_or_pos k with rfl | hk
          · simp [thA] at e hi; omega
          · exact hk
        have := thA_last P k hk
        rw [show i - 1 = (thA P k).length - 1 from by omega, this.2]
        rcases h with h | h
        · omega
        · exact h
    · rw [thA_no P h] at hi ⊢
      exact thA_nd2 P k i h0 hi
theorem thn_same (L : List (Int × Int)) : thnC (thA (ptA L) L.length) = thnR L := by
  rw [thnR_of rfl]
  have hnd := thA_nd2 (ptA L) L.length
  generalize thA (ptA L) L.length = X at *
  unfold thnC
  match hm : X.length with
  | 0 => rw [if_neg (by omega)]; rw [List.eq_nil_of_length_eq_zero hm]; rfl
  | 1 => rw [if_neg (by omega)]; show X = X.take 1; rw [List.take_of_length_le (by omega)]
  | m + 2 =>
    by_cases e : ptA X 0 = ptA X (m + 1)
    · rw [if_pos ⟨by omega, e.symm⟩]
      show X.take (m + 1) = X.take (if ptA X 0 = ptA X (m + 1) then trimN X (m + 1) else m + 2)
      rw [if_pos e]
      cases m with
      | zero => rfl
      | succ m =>
        show X.take (m + 2) = X.take (if ptA X 0 = ptA X (m + 1) then trimN X (m + 1) else m + 2)
        rw [if_neg]
        intro e2
        refine hnd (m + 2) (by omega) (by omega) ?_
        rw [show m + 2 - 1 = m + 1 from by omega, ← e2, e]
    · rw [if_neg (fun h => e h.2.symm)]
      show X = X.take (if ptA X 0 = ptA X (m + 1) then trimN X (m + 1) else m + 2)
      rw [if_neg e, List.take_of_length_le (by omega)]

set_option maxRecDepth 100000 in
set_option maxHeartbeats 4000000 in
theorem thin_any {w : World} {v : Value} {L : List (Int × Int)} (hI : PL w v L) (hL : L.length ≤ 1000) :
    Calls Try.prog 24 #[v] w fun e w' => ∃ u, e = .returned u ∧ PL w' u (thnR L) ∧ Below w.heap.size w w' := by
  have hmx : Try.prog.follows .mixedOrders = true := by kernel_rfl
  have HI := Lib.hid hI
  clear hI
  go_enter Try.func24, Try.ntmps24
  go_wp2_with fail
  refine (clone_any HI.out (by omega)).mono ?_
  rintro e w1 ⟨u, rfl, hu, hb1⟩
  have HU := Lib.hid hu
  have HB1 := Lib.hid hb1
  clear hu hb1
  go_wp2_with fail
  refine (compact_any HU.out hL).mono ?_
  rintro e w2 ⟨x, rfl, hx, hb2⟩
  have HX := Lib.hid hx
  have HB2 := Lib.hid (HB1.out.trans hb2)
  have HT := Lib.hid (thn_same L)
  have hlen := thA_len (ptA L) L.length
  clear hb2
  obtain ⟨q, c, rfl, hqc, hqi⟩ := hx
  generalize thA (ptA L) L.length = X at *
  have HQ := Lib.hid hqi
  clear hqi
  by_cases h1 : 1 < X.length
  · obtain ⟨m, hm⟩ : ∃ m, X.length = m + 2 := ⟨X.length - 2, by omega⟩
    obtain ⟨b, off, rfl, _, c0, c1⟩ := HQ.out 0 (by omega)
    obtain ⟨b2, off2, e, _, d0, d1⟩ := HQ.out (m + 1) (by omega)
    obtain ⟨rfl, rfl⟩ : b2 = b ∧ off2 = off := by injection e with e; injection e with e1 e2; exact ⟨e1.symm, e2.symm⟩
    have HP0 := Lib.hid (ptA_at (L := X) (i := 0) (by omega))
    have HP1 := Lib.hid (ptA_at (L := X) (i := m + 1) (by omega))
    have HM := Lib.hid hm
    generalize X[0] = p at *
    generalize X[m + 1] = q at *
    rw [Nat.zero_mul, Nat.add_zero] at c0 c1
    have x1 : IntKind.i64.wrap ((X.length : Int) - 1) = ((m + 1 : Nat) : Int) := by rw [show (X.length : Int) - 1 = ((m + 1 : Nat) : Int) from by omega]; exact IntWalk.i64_in _ (by omega)
    have g1 : (0 : Int) < ((m + 1 : Nat) : Int) := by omega
    have g1n : 0 < m + 1 := by omega
    have g1b : decide ((0 : Int) < ((m + 1 : Nat) : Int)) = true := decide_eq_true g1
    have g2 : ((m + 1 : Nat) : Int) < (X.length : Int) := by omega
    have y1 : ((m + 1 : Nat) : Int) ≤ (c : Int) := by omega
    have hq := fun W => eq_pt q.1 q.2 p.1 p.2 W
    have HE := Lib.hid (eqB_pt q p)
    generalize eqB q.1 q.2 p.1 p.2 = eb at *
    have HF1 : Hid (eb = true → PL w2.drew (.slice (some ⟨b2, off2, none⟩) (m + 1) c) (thnR L)) := Lib.hid (fun h => by
      rw [← HT.out]
      unfold thnC
      rw [if_pos ⟨h1, by rw [HP0.out, show X.length - 1 = m + 1 from by have := HM.out; omega, HP1.out]; exact HE.out.1 h⟩, show X.length - 1 = m + 1 from by have := HM.out; omega]
      exact (HX.out.upto (m + 1) (by have := HM.out; omega)).keep (Below.refl _ _).drew)
    have HF2 : Hid (eb = false → PL w2.drew (.slice (some ⟨b2, off2, none⟩) X.length c) (thnR L)) := Lib.hid (fun h => by
      rw [← HT.out]
      unfold thnC
      rw [if_neg (fun h3 => by
        have h4 := h3.2
        rw [HP0.out, show X.length - 1 = m + 1 from by have := HM.out; omega, HP1.out] at h4
        rw [HE.out.2 h4] at h; cases h)]
      exact HX.out.keep (Below.refl _ _).drew)
    clear hm h1
    generalize m + 1 = m1 at *
    cases eb
    · have HF := Lib.hid (HF2.out rfl)
      clear HF1 HF2
      go_wp2_with fail
      go_big_region
      go_wp2_with fail
      go_ret
      exact ⟨_, rfl, HF.out, HB2.out.drew⟩
    · have HF := Lib.hid (HF1.out rfl)
      clear HF1 HF2
      go_wp2_with fail
      go_big_region
      go_wp2_with fail
      go_ret
      exact ⟨_, rfl, HF.out, HB2.out.drew⟩
  · have hz : IntKind.i64.wrap ((X.length : Int) - 1) = -1 ∨ IntKind.i64.wrap ((X.length : Int) - 1) = 0 := by rw [IntWalk.i64_in _ (by omega)]; omega
    have HF : Hid (PL w2.drew (.slice q X.length c) (thnR L)) := Lib.hid (by
      rw [← HT.out]
      unfold thnC
      rw [if_neg (fun h3 => h1 h3.1)]
      exact HX.out.keep (Below.refl _ _).drew)
    rcases hz with hz | hz
    · go_wp2_with fail
      go_big_region
      go_wp2_with fail
      go_ret
      exact ⟨_, rfl, HF.out, HB2.out.drew⟩
    · go_wp2_with fail
      go_big_region
      go_wp2_with fail
      go_ret
      exact ⟨_, rfl, HF.out, HB2.out.drew⟩
end Go.Proofs.Ytkibjbbhiclkmaa

namespace Go.Proofs.Ytkibjbbhiclkmaa
open Go.RowKit Go.Sort

/-- A ring's points, on and on. -/
def cyp (L : List (Int × Int)) (x : Nat) : Int × Int := ptA L (x % L.length)
def rot (L : List (Int × Int)) (x : Nat) : Nat → Int × Int := fun t => cyp L (x + t)
def lesP (a b : Int × Int) : Prop := lessB a.1 a.2 b.1 b.2 = true
theorem lesP_iff (a b : Int × Int) : lesP a b ↔ (a.1 < b.1 ∨ (a.1 = b.1 ∧ a.2 < b.2)) := by
  unfold lesP lessB
  split
  · rename_i h
    rw [decide_eq_true_iff]; omega
  · rename_i h
    rw [decide_eq_true_iff]; omega
theorem lesP_not {a b : Int × Int} (h : ¬ lesP b a) (hne : a ≠ b) : lesP a b := by
  rw [lesP_iff] at h ⊢
  by_cases e : a.1 = b.1
  · have : a.2 ≠ b.2 := fun e2 => hne (Prod.ext e e2)
    omega
  · omega
/-- Ahead by the first place at which they are unlike. -/
def glt (f g : Nat → Int × Int) : Prop := ∃ t, (∀ s, s < t → f s = g s) ∧ lesP (f t) (g t)
theorem glt_irr (f : Nat → Int × Int) : ¬ glt f f := by
  rintro ⟨t, _, h⟩
  rw [lesP_iff] at h; omega
theorem glt_trans {f g h : Nat → Int × Int} (h1 : glt f g) (h2 : glt g h) : glt f h := by
  obtain ⟨t, a1, a2⟩ := h1
  obtain ⟨s, b1, b2⟩ := h2
  rcases Nat.lt_trichotomy t s with k | k | k
  · exact ⟨t, fun x hx => (a1 x hx).trans (b1 x (by omega)), by rw [← b1 t k]; exact a2⟩
  · subst k
    refine ⟨t, fun x hx => (a1 x hx).trans (b1 x hx), ?_⟩
    rw [lesP_iff] at a2 b2 ⊢; omega
  · exact ⟨s, fun x hx => (a1 x (by omega)).trans (b1 x hx), by rw [a1 s k]; exact b2⟩
/-- Of some rows one has none ahead of it. -/
theorem least_of (f : Nat → Nat → Int × Int) : ∀ n, 0 < n → ∃ m, m < n ∧ ∀ x, x < n → ¬ glt (f x) (f m)
  | 0, h => absurd h (by omega)
  | n + 1, _ => by
    rcases Nat.eq_zero_or_pos n with rfl | hn
    · exact ⟨0, by omega, fun x hx => by obtain rfl : x = 0 := by omega
                                         exact glt_irr _⟩
    · obtain ⟨m, hm, h⟩ := least_of f n hn
      by_cases e : glt (f n) (f m)
      · refine ⟨n, by omega, fun x hx => ?_⟩
        by_cases e2 : x = n
        · subst e2; exact glt_irr _
        · exact fun e3 => h x (by omega) (glt_trans e3 e)
      · refine ⟨m, by omega, fun x hx => ?_⟩
        by_cases e2 : x = n
        · subst e2; exact e
        · exact h x (by omega)
theorem cyp_add (L : List (Int × Int)) (x : Nat) : cyp L (x + L.length) = cyp L x := by unfold cyp; rw [Nat.add_mod_right]
theorem cyp_mod (L : List (Int × Int)) (x y : Nat) : cyp L (x % L.length + y) = cyp L (x + y) := by unfold cyp; rw [Nat.mod_add_mod]
theorem cyp_at {L : List (Int × Int)} {x : Nat} (h : x < L.length) : cyp L x = ptA L x := by unfold cyp; rw [Nat.mod_eq_of_lt h]
theorem froL_at (L : List (Int × Int)) (s i : Nat) (hi : i < L.length) : ptA (froL L s) i = cyp L (s + i) := by
  rw [ptA_at (by rw [froL_len]; exact hi)]
  unfold froL cyp
  simp
theorem froL_zero (L : List (Int × Int)) : froL L 0 = L := by
  refine List.ext_getElem (froL_len L 0) fun i h1 h2 => ?_
  rw [← ptA_at h1, froL_at L 0 i h2, Nat.zero_add, cyp_at h2, ptA_at h2]
/-- Alike: begun at some place. -/
theorem alk_iff (A B : List (Int × Int)) : alkP A B B.length ↔ A.length = B.length ∧ (B.length = 0 ∨ ∃ s, s < B.length ∧ ∀ t, cyp A t = cyp B (s + t)) := by
  have tocyp : ∀ s, A = froL B s → 0 < B.length → ∀ t, cyp A t = cyp B (s + t) := by
    intro s h hn t
    have hl : A.length = B.length := by rw [h, froL_len]
    unfold cyp
    rw [hl]
    have hx : t % B.length < B.length := Nat.mod_lt _ hn
    rw [h, froL_at B s _ hx]
    unfold cyp
    rw [Nat.add_mod_mod]
  constructor
  · rintro (rfl | ⟨i, h1, h2, h3⟩)
    · refine ⟨rfl, ?_⟩
      rcases Nat.eq_zero_or_pos A.length with h | h
      · exact Or.inl h
      · exact Or.inr ⟨0, h, fun t => by rw [Nat.zero_add]⟩
    · exact ⟨by rw [h3, froL_len], Or.inr ⟨i, h2, tocyp i h3 (by omega)⟩⟩
  · rintro ⟨hl, h⟩
    rcases h with h | ⟨s, hs, h⟩
    · left
      rw [List.eq_nil_of_length_eq_zero h, List.eq_nil_of_length_eq_zero (hl.trans h)]
    · have key : A = froL B s := by
        refine List.ext_getElem (by rw [froL_len]; exact hl) fun i h1 h2 => ?_
        rw [← ptA_at h1, ← ptA_at h2, froL_at B s i (by omega), ← h i, cyp_at h1]
      rcases Nat.eq_zero_or_pos s with rfl | h0
      · left; rw [key, froL_zero]
      · exact Or.inr ⟨s, h0, hs, key⟩

/-- While the rings are held against each other. -/
structure AkI (A B : List (Int × Int)) (i j m : Nat) : Prop where
  met : ∀ t, t < m → cyp A (i + t) = cyp B (j + t)
  a : ∀ x, x < i → ∃ y, glt (rot B y) (rot A x)
  b : ∀ y, y < j → ∃ x, glt (rot A x) (rot B y)
  within : m ≤ B.length ∧ (m = 0 ∨ (i < B.length ∧ j < B.length))
theorem AkI.zero (A B : List (Int × Int)) : AkI A B 0 0 0 := ⟨fun t h => by omega, fun x h => by omega, fun y h => by omega, by omega, Or.inl rfl⟩
theorem AkI.on {A B : List (Int × Int)} {i j m : Nat} (h : AkI A B i j m) (hm : m < B.length) (hi : i < B.length) (hj : j < B.length) (e : cyp A (i + m) = cyp B (j + m)) : AkI A B i j (m + 1) :=
  ⟨fun t ht => by
    by_cases k : t = m
    · subst k; exact e
    · exact h.met t (by omega), h.a, h.b, by omega, Or.inr ⟨hi, hj⟩⟩
theorem AkI.left {A B : List (Int × Int)} {i j m : Nat} (h : AkI A B i j m) (e : lesP (cyp B (j + m)) (cyp A (i + m))) : AkI A B (i + m + 1) j 0 := by
  refine ⟨fun t ht => by omega, fun x hx => ?_, h.b, by omega, Or.inl rfl⟩
  by_cases k : x < i
  · exact h.a x k
  · obtain ⟨u, rfl⟩ : ∃ u, x = i + u := ⟨x - i, by omega⟩
    refine ⟨j + u, m - u, fun s hs => ?_, ?_⟩
    · unfold rot
      rw [Nat.add_assoc, Nat.add_assoc]
      exact (h.met (u + s) (by omega)).symm
    · unfold rot
      rw [show j + u + (m - u) = j + m from by omega, show i + u + (m - u) = i + m from by omega]
      exact e
theorem AkI.right {A B : List (Int × Int)} {i j m : Nat} (h : AkI A B i j m) (e : lesP (cyp A (i + m)) (cyp B (j + m))) : AkI A B i (j + m + 1) 0 := by
  refine ⟨fun t ht => by omega, h.a, fun y hy => ?_, by omega, Or.inl rfl⟩
  by_cases k : y < j
  · exact h.b y k
  · obtain ⟨u, rfl⟩ : ∃ u, y = j + u := ⟨y - j, by omega⟩
    refine ⟨i + u, m - u, fun s hs => ?_, ?_⟩
    · unfold rot
      rw [Nat.add_assoc, Nat.add_assoc]
      exact h.met (u + s) (by omega)
    · unfold rot
      rw [show j + u + (m - u) = j + m from by omega, show i + u + (m - u) = i + m from by omega]
      exact e
theorem AkI.yes {A B : List (Int × Int)} {i j m : Nat} (h : AkI A B i j m) (hl : A.length = B.length) (hm : m = B.length) : alkP A B B.length := by
  rw [alk_iff]
  refine ⟨hl, ?_⟩
  rcases Nat.eq_zero_or_pos B.length with h0 | h0
  · exact Or.inl h0
  · right
    obtain ⟨hi, hj⟩ : i < B.length ∧ j < B.length := by rcases h.within.2 with k | k; omega; exact k
    refine ⟨(j + (B.length - i)) % B.length, Nat.mod_lt _ h0, fun t => ?_⟩
    have hx : (t + (B.length - i)) % B.length < B.length := Nat.mod_lt _ h0
    have e := h.met ((t + (B.length - i)) % B.length) (by omega)
    rw [Nat.add_comm i, Nat.add_comm j, ← hl, cyp_mod] at e
    rw [hl, cyp_mod] at e
    have e1 : t + (B.length - i) + i = t + B.length := by omega
    rw [← hl] at e1
    rw [hl] at e1
    rw [e1] at e
    rw [show cyp A (t + B.length) = cyp A t from by rw [← hl]; exact cyp_add A t] at e
    rw [e, cyp_mod]
    congr 1
    omega
theorem AkI.no {A B : List (Int × Int)} {i j m : Nat} (h : AkI A B i j m) (hx : B.length ≤ i ∨ B.length ≤ j) (h0 : 0 < B.length) : ¬ alkP A B B.length := by
  rw [alk_iff]
  rintro ⟨hl, h1 | ⟨s, hs, hc⟩⟩
  · omega
  · have rA : ∀ x, rot A x = rot B (s + x) := fun x => funext fun t => by unfold rot; rw [hc, Nat.add_assoc]
    have rB : ∀ y, rot B y = rot A (y + (B.length - s)) := fun y => funext fun t => by
      unfold rot
      rw [hc, show s + (y + (B.length - s) + t) = y + t + B.length from by omega, cyp_add]
    have redA : ∀ x, ∃ x', x' < B.length ∧ rot A x = rot A x' := fun x => ⟨x % B.length, Nat.mod_lt _ h0, funext fun t => by unfold rot; rw [← hl, cyp_mod]⟩
    have redB : ∀ x, ∃ x', x' < B.length ∧ rot B x = rot B x' := fun x => ⟨x % B.length, Nat.mod_lt _ h0, funext fun t => by unfold rot; rw [cyp_mod]⟩
    rcases hx with hx | hx
    · obtain ⟨m, hm, hmin⟩ := least_of (rot A) B.length h0
      obtain ⟨y, hy⟩ := h.a m (by omega)
      rw [rB y] at hy
      obtain ⟨x', h3, h4⟩ := redA (y + (B.length - s))
      rw [h4] at hy
      exact hmin x' h3 hy
    · obtain ⟨m, hm, hmin⟩ := least_of (rot B) B.length h0
      obtain ⟨y, hy⟩ := h.b m (by omega)
      rw [rA y] at hy
      obtain ⟨x', h3, h4⟩ := redB (s + y)
      rw [h4] at hy
      exact hmin x' h3 hy

theorem lesP_b (a b : Int × Int) : lesP a b ↔ lessB a.1 a.2 b.1 b.2 = true := Iff.rfl
/-- Two points in blocks of their own. -/
structure TwP (w W : World) (k0 k1 : Nat) (a b : Int × Int) : Prop where
  a0 : W.cell? ⟨k0, 0, none⟩ = some (.int .i64 a.1)
  a1 : W.cell? ⟨k0, 1, none⟩ = some (.int .i64 a.2)
  b0 : W.cell? ⟨k1, 0, none⟩ = some (.int .i64 b.1)
  b1 : W.cell? ⟨k1, 1, none⟩ = some (.int .i64 b.2)
  below : Below w.heap.size w W
theorem TwP.drew {w W : World} {k0 k1 : Nat} {a b : Int × Int} (h : TwP w W k0 k1 a b) : TwP w W.drew k0 k1 a b := ⟨h.a0, h.a1, h.b0, h.b1, h.below.drew⟩
theorem TwP.one {w W : World} {a b : Int × Int} {T : TypeId} (h : Below w.heap.size w W) : TwP w ((W.alloc (.cells #[.int .i64 a.1, .int .i64 a.2] T)).alloc (.cells #[.int .i64 b.1, .int .i64 b.2] T)) W.heap.size (W.heap.size + 1) a b :=
  ⟨by go_simp, by go_simp, by go_simp, by go_simp, h.trans ((b2 _ _ _).mono h.size)⟩
theorem TwP.two {w W : World} {a b : Int × Int} {T : TypeId} (h : Below w.heap.size w W) : TwP w ((W.alloc (.cells #[.int .i64 b.1, .int .i64 b.2] T)).alloc (.cells #[.int .i64 a.1, .int .i64 a.2] T)) (W.heap.size + 1) W.heap.size a b :=
  ⟨by go_simp, by go_simp, by go_simp, by go_simp, h.trans ((b2 _ _ _).mono h.size)⟩

set_option maxRecDepth 100000 in
set_option maxHeartbeats 4000000 in
theorem alike_any {w : World} {u v : Value} {A B : List (Int × Int)} (hA : PL w u A) (hB : PL w v B) (lA : A.length ≤ 1000) (_ : B.length ≤ 1000) :
    Calls Try.prog 31 #[u, v] w (AkPost A B w) := by
  have hmx : Try.prog.follows .mixedOrders = true := by kernel_rfl
  obtain ⟨pa, ca, rfl, _, ha⟩ := hA
  obtain ⟨pb, cb, rfl, _, hb⟩ := hB
  have Ha := Lib.hid ha
  have Hb := Lib.hid hb
  clear ha hb
  by_cases hl : A.length = B.length
  · have hlz : (A.length : Int) = (B.length : Int) := by omega
    have HL := Lib.hid hl
    rw [hl] at lA ⊢
    clear hl hlz
    go_enter Try.func31, Try.ntmps31
    go_wp2_with fail
    go_loopg [6, 7, 8] (3 * B.length) (fun gk x y z wx => ∃ i j m : Nat, i + j + m + gk = 3 * B.length ∧ x = .int .i64 (i : Int) ∧ y = .int .i64 (j : Int) ∧ z = .int .i64 (m : Int) ∧ Hid (AkI A B i j m) ∧ Hid (Below w.heap.size w wx))
    case atStart => exact ⟨0, 0, 0, by omega, rfl, rfl, rfl, Lib.hid (AkI.zero A B), Lib.hid (Below.refl _ _)⟩
    case round =>
      obtain ⟨i, j, m, hsum, rfl, rfl, rfl, HK, HW⟩ := hrel
      have hmB : m ≤ B.length := HK.out.within.1
      by_cases g1 : m < B.length
      · have z1 : (m : Int) < (B.length : Int) := by omega
        have z1b : ((m : Int) == (B.length : Int)) = false := beq_eq_false_iff_ne.2 (by omega)
        by_cases g2 : i < B.length
        · have z2 : (i : Int) < (B.length : Int) := by omega
          by_cases g3 : j < B.length
          · have z3 : (j : Int) < (B.length : Int) := by omega
            obtain ⟨gr, rfl⟩ : ∃ gr, gk = gr + 1 := ⟨gk - 1, by omega⟩
            obtain ⟨ai, hai⟩ : ∃ ai, ai = (i + m) % B.length := ⟨_, rfl⟩
            obtain ⟨bj, hbj⟩ : ∃ bj, bj = (j + m) % B.length := ⟨_, rfl⟩
            have hain : ai < B.length := by rw [hai]; exact Nat.mod_lt _ (by omega)
            have hbjn : bj < B.length := by rw [hbj]; exact Nat.mod_lt _ (by omega)
            have hainA : ai < A.length := by rw [HL.out]; exact hain
            obtain ⟨b, off, rfl, hbl, c0, c1⟩ := Ha.out ai hainA
            obtain ⟨b', off', rfl, hbl', d0, d1⟩ := Hb.out bj hbjn
            have HPa : Hid (cyp A (i + m) = A[ai]) := Lib.hid (by rw [← ptA_at hainA]; unfold cyp; rw [HL.out, ← hai])
            have HPb : Hid (cyp B (j + m) = B[bj]) := Lib.hid (by unfold cyp; rw [← hbj, ptA_at hbjn])
            have c0 := cell_later HW.out c0
            have c1 := cell_later HW.out c1
            have d0 := cell_later HW.out d0
            have d1 := cell_later HW.out d1
            generalize A[ai] = P at *
            generalize B[bj] = Q at *
            have x1 : IntKind.i64.wrap ((i : Int) + (m : Int)) = (i : Int) + (m : Int) := IntWalk.i64_in _ (by omega)
            have x2 : IntKind.i64.wrap ((j : Int) + (m : Int)) = (j : Int) + (m : Int) := IntWalk.i64_in _ (by omega)
            have x3 : ((i : Int) + (m : Int)) % (B.length : Int) = (ai : Int) := by
              rw [show ((i : Int) + (m : Int)) % (B.length : Int) = (((i + m) % B.length : Nat) : Int) from by push_cast; rfl, ← hai]
            have x4 : ((j : Int) + (m : Int)) % (B.length : Int) = (bj : Int) := by
              rw [show ((j : Int) + (m : Int)) % (B.length : Int) = (((j + m) % B.length : Nat) : Int) from by push_cast; rfl, ← hbj]
            have x5 : ((i : Int) + (m : Int)).tmod (B.length : Int) = (ai : Int) := by rw [Int.tmod_eq_emod_of_nonneg (by omega)]; exact x3
            have x6 : ((j : Int) + (m : Int)).tmod (B.length : Int) = (bj : Int) := by rw [Int.tmod_eq_emod_of_nonneg (by omega)]; exact x4
            have x7 : IntKind.i64.wrap (ai : Int) = (ai : Int) := IntWalk.i64_in _ (by omega)
            have x8 : IntKind.i64.wrap (bj : Int) = (bj : Int) := IntWalk.i64_in _ (by omega)
            have y1 : IntKind.i64.wrap ((m : Int) + 1) = (m : Int) + 1 := IntWalk.i64_in _ (by omega)
            have y2 : IntKind.i64.wrap ((i : Int) + (m : Int) + 1) = (i : Int) + (m : Int) + 1 := IntWalk.i64_in _ (by omega)
            have y3 : IntKind.i64.wrap ((j : Int) + (m : Int) + 1) = (j : Int) + (m : Int) + 1 := IntWalk.i64_in _ (by omega)
            have hn0 : ¬ (B.length : Int) = 0 := by omega
            have hn1 : ¬ B.length = 0 := by omega
            have haiz : (ai : Int) < (B.length : Int) := by omega
            have hbw : b < wr.heap.size := Nat.lt_of_lt_of_le hbl HW.out.size
            have hbw' : b' < wr.heap.size := Nat.lt_of_lt_of_le hbl' HW.out.size
            have n1 : b ≠ wr.heap.size := by omega
            have n2 : b ≠ wr.heap.size + 1 := by omega
            have n3 : b' ≠ wr.heap.size := by omega
            have n4 : b' ≠ wr.heap.size + 1 := by omega
            clear hai hbj
            go_upto_region 6 with fail
            go_cut [9, 10] from 17 to 63 (fun s5 s6 wx => ∃ k0 k1 : Nat, s5 = .pointer (some ⟨k0, 0, none⟩) ∧ s6 = .pointer (some ⟨k1, 0, none⟩) ∧ TwP w wx k0 k1 P Q)
            case first =>
              go_region
              · go_wp2_with fail
                go_meet
                exact ⟨wr.heap.size, wr.heap.size + 1, rfl, rfl, (TwP.one HW.out).drew⟩
              · go_wp2_with fail
                go_meet
                exact ⟨wr.heap.size + 1, wr.heap.size, rfl, rfl, (TwP.two HW.out).drew⟩
            case rest =>
              obtain ⟨k0, k1, rfl, rfl, hQ⟩ := hcut
              obtain ⟨e0, e1, e2, e3, hW2⟩ := hQ
              have HW2 := Lib.hid hW2
              have hq := fun W => eq_pt P.1 P.2 Q.1 Q.2 W
              have HE := Lib.hid (eqB_pt P Q)
              have HLe := Lib.hid (lesP_b Q P)
              have KL := Lib.hid (fun W => less_any Q.1 Q.2 P.1 P.2 W)
              clear c0 c1 d0 d1 n1 n2 n3 n4 hbw hbw' hW2 x3 x4 x5 x6 x7 x8
              generalize eqB P.1 P.2 Q.1 Q.2 = eb at *
              generalize lessB Q.1 Q.2 P.1 P.2 = lb at *
              cases eb
              · have HNe : Hid (P ≠ Q) := Lib.hid (fun h => by have := HE.out.2 h; cases this)
                cases lb
                · have HX : Hid (AkI A B i (j + m + 1) 0) := Lib.hid (HK.out.right (by rw [HPa.out, HPb.out]; exact lesP_not (fun h => by have := HLe.out.1 h; cases this) HNe.out))
                  go_wp2_with fail
                  refine (KL.out _).mono ?_
                  rintro e w5 ⟨rfl, hb5⟩
                  have HW5 := Lib.hid (HW2.out.trans (hb5.mono HW2.out.size))
                  clear hb5 e0 e1 e2 e3
                  go_wp2_with fail
                  go_roundg gr
                  case measure => omega
                  case rel => exact ⟨i, j + m + 1, 0, by omega, rfl, by go_num, rfl, HX, HW5⟩
                · have HX : Hid (AkI A B (i + m + 1) j 0) := Lib.hid (HK.out.left (by rw [HPa.out, HPb.out]; exact HLe.out.2 rfl))
                  go_wp2_with fail
                  refine (KL.out _).mono ?_
                  rintro e w5 ⟨rfl, hb5⟩
                  have HW5 := Lib.hid (HW2.out.trans (hb5.mono HW2.out.size))
                  clear hb5 e0 e1 e2 e3
                  go_wp2_with fail
                  go_roundg gr
                  case measure => omega
                  case rel => exact ⟨i + m + 1, j, 0, by omega, by go_num, rfl, rfl, HX, HW5⟩
              · have HX : Hid (AkI A B i j (m + 1)) := Lib.hid (HK.out.on g1 g2 g3 (by rw [HPa.out, HPb.out]; exact HE.out.1 rfl))
                go_wp2_with fail
                go_roundg gr
                case measure => omega
                case rel => exact ⟨i, j, m + 1, by omega, rfl, rfl, by go_num, HX, HW2⟩
          · have z3 : ¬ (j : Int) < (B.length : Int) := by omega
            have HX : Hid (¬ alkP A B B.length) := Lib.hid (HK.out.no (Or.inr (by omega)) (by omega))
            go_wp2_with fail
            go_ret
            exact ⟨false, rfl, ⟨fun h => (by cases h), fun h => absurd h HX.out⟩, HW.out⟩
        · have z2 : ¬ (i : Int) < (B.length : Int) := by omega
          have HX : Hid (¬ alkP A B B.length) := Lib.hid (HK.out.no (Or.inl (by omega)) (by omega))
          go_wp2_with fail
          go_ret
          exact ⟨false, rfl, ⟨fun h => (by cases h), fun h => absurd h HX.out⟩, HW.out⟩
      · have z1 : ¬ (m : Int) < (B.length : Int) := by omega
        have z1b : ((m : Int) == (B.length : Int)) = true := by simp; omega
        have HX : Hid (alkP A B B.length) := Lib.hid (HK.out.yes HL.out (by omega))
        go_wp2_with fail
        go_ret
        exact ⟨true, rfl, ⟨fun _ => HX.out, fun _ => rfl⟩, HW.out⟩
  · have hlz : ¬ (A.length : Int) = (B.length : Int) := by omega
    have HX : Hid (¬ alkP A B B.length) := Lib.hid (fun h => hl ((alk_iff A B).1 h).1)
    go_enter Try.func31, Try.ntmps31
    go_wp2_with fail
    go_ret
    exact ⟨false, rfl, ⟨fun h => (by cases h), fun h => absurd h HX.out⟩, Below.refl _ _⟩
end Go.Proofs.Ytkibjbbhiclkmaa
