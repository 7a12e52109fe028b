/- order.Uniq: its row is the call's own. -/
import Derived.Test.YtenfaejdnphngaaUniq
namespace Go.Proofs.Ytenfaejdnphngaa
open Go.RowKit Go.Sort

set_option maxRecDepth 100000 in
set_option maxHeartbeats 4000000 in
theorem icompact_own {w : World} {B : Nat} {v : Value} {L : List Int} (h : w.ownsRow B 3 1 v L.length (icells L)) (hL : L.length ≤ 1000) :
    Calls Try.prog 62 #[v] w fun e w' => ∃ u, e = .returned u ∧ (IL w' w'.heap.size u (thI (nA L) L.length) ∧ ∀ k, u.ownBlock = some k → B ≤ k) ∧ Below B w w' := by
  have hmx : Try.prog.follows .mixedOrders = true := by kernel_rfl
  rcases id h.2 with ⟨rfl, hz⟩ | ⟨g, cap, _, rfl, _, _, hcap, hmax, _, _⟩
  · obtain rfl : L = [] := List.eq_nil_of_length_eq_zero hz
    clear h hz
    go_enter Try.func62, Try.ntmps62
    go_wp2_with fail
    go_ret
    exact ⟨.slice none 0 0, rfl, ⟨IL.nil _ _ _ _, fun k hk => by cases hk⟩, Below.refl _ _⟩
  · have HR := Lib.hid (own_rw1 h)
    clear h
    have HOb : Hid (∀ (n : Nat) (k : Nat), (Value.slice (some ⟨g, 0, none⟩) n cap).ownBlock = some k → B ≤ k) := Lib.hid (fun n k hk => by cases hk; exact HR.out.base)
    by_cases h2 : L.length < 2
    · have hlz : (L.length : Int) < 2 := by omega
      have HF : Hid (IL w w.heap.size (.slice (some ⟨g, 0, none⟩) L.length cap) (thI (nA L) L.length)) := Lib.hid (by
        rw [thI_nd _ _ (fun i h3 h4 => by omega), rangeI_all]
        exact HR.out.il hcap)
      go_enter Try.func62, Try.ntmps62
      go_wp2_with fail
      go_ret
      exact ⟨_, rfl, ⟨HF.out, HOb.out _⟩, Below.refl _ _⟩
    · have hlz : ¬ (L.length : Int) < 2 := by omega
      go_enter Try.func62, Try.ntmps62
      go_wp2_with fail
      go_loopg [3] (L.length - 1) (fun gk i wx => ∃ k : Nat, 1 ≤ k ∧ k + gk = L.length ∧ i = .int .i64 (k : Int) ∧ Hid (ndI (nA L) k) ∧ Hid (Rw1 wx B g L.length (nA L) ∧ Below B w wx))
      case atStart => exact ⟨1, by omega, by omega, rfl, Lib.hid (fun i h3 h4 => by omega), Lib.hid ⟨HR.out, Below.refl _ _⟩⟩
      case round =>
        obtain ⟨k, hk1, hkg, rfl, HN, HB⟩ := hrel
        cases gk with
        | zero =>
          have hkz : ¬ ((k : Int) < (L.length : Int)) := by omega
          have HF : Hid (IL wr wr.heap.size (.slice (some ⟨g, 0, none⟩) L.length cap) (thI (nA L) L.length)) := Lib.hid (by
            rw [thI_nd _ _ (by have h := HN.out; rw [show k = L.length from by omega] at h; exact h), rangeI_all]
            exact HB.out.1.il hcap)
          go_wp2_with fail
          go_ret
          exact ⟨_, rfl, ⟨HF.out, HOb.out _⟩, HB.out.2⟩
        | succ gr =>
          have hkz : (k : Int) < (L.length : Int) := by omega
          have hkn : k < L.length := by omega
          have c0 := HB.out.1.c k hkn
          have d0 := HB.out.1.c (k - 1) (by omega)
          have x1 : IntKind.i64.wrap ((k : Int) - 1) = ((k - 1 : Nat) : Int) := by rw [show (k : Int) - 1 = ((k - 1 : Nat) : Int) from by omega]; exact IntWalk.i64_in _ (by omega)
          have hjz : ((k - 1 : Nat) : Int) < (L.length : Int) := by omega
          have HE : Hid ((nA L k == nA L (k - 1)) = true ↔ nA L k = nA L (k - 1)) := Lib.hid beq_iff_eq
          generalize hpk : nA L k = p1 at *
          generalize hqk : nA L (k - 1) = q1 at *
          have HPk := Lib.hid hpk
          have HQk := Lib.hid hqk
          clear hpk hqk
          generalize heb : (p1 == q1) = eb at *
          generalize hj : k - 1 = j at *
          have HJ := Lib.hid hj
          clear hj
          cases eb
          · have HN2 : Hid (ndI (nA L) (k + 1)) := Lib.hid (fun i h3 h4 => by
              by_cases e : i = k
              · subst e; intro h5; rw [HPk.out, HJ.out, HQk.out] at h5; have := HE.out.2 h5; cases this
              · exact HN.out i h3 (by omega))
            have HB2 : Hid (Rw1 wr.drew B g L.length (nA L) ∧ Below B w wr.drew) := Lib.hid ⟨HB.out.1.drew, HB.out.2.drew⟩
            go_wp2_with fail
            go_big_region
            go_wp2_with fail
            go_roundg gr
            case measure => omega
            case rel => exact ⟨k + 1, by omega, by omega, by go_num, HN2, HB2⟩
          · have HC : Hid (CpI w wr.drew B g L.length (nA L) (k + 1) ∧ (thI (nA L) (k + 1)).length = k) := Lib.hid (by
              have e1 : nA L k = nA L (k - 1) := by rw [HPk.out, HJ.out, HQk.out]; exact HE.out.1 rfl
              have e2 : thI (nA L) (k + 1) = (List.range k).map (nA L) := by
                rw [thI_no _ (fun h => by rcases h with h | h; omega; exact h e1), thI_nd _ _ HN.out]
              have e3 : (thI (nA L) (k + 1)).length = k := by rw [e2, List.length_map, List.length_range]
              refine ⟨⟨⟨nA L, HB.out.1.drew, ?_, fun _ _ _ => rfl⟩, by rw [e3]; omega, HB.out.2.drew⟩, e3⟩
              intro j hj
              rw [e3] at hj
              have h5 : ((List.range k).map (nA L)).length = k := by rw [List.length_map, List.length_range]
              rw [e2, nA_at (L := (List.range k).map (nA L)) (by omega)]
              simp)
            have y1 : (k : Int) ≤ (cap : Int) := by omega
            have y3 : ¬ k = cap := by omega
            have y4 : ¬ cap = k := by omega
            have y5 : ¬ cap - k = 0 := by omega
            go_wp2_with fail
            go_big_region
            clear c0 d0 x1 hjz heb HE HB HN HPk HQk
            go_wp2_with fail
            go_loopg [3, 5] (L.length - k - 1) (fun gk i j wx => ∃ r m : Nat, k < r ∧ r + gk = L.length ∧ i = .int .i64 (m : Int) ∧ j = .int .i64 ((r - k : Nat) : Int) ∧ Hid (CpI w wx B g L.length (nA L) r ∧ (thI (nA L) r).length = m))
            case atStart => exact ⟨k + 1, k, by omega, by omega, rfl, by rw [show k + 1 - k = 1 from by omega]; rfl, HC⟩
            case round =>
              obtain ⟨r, m, hkr, hrg, rfl, rfl, HS⟩ := hrel
              obtain ⟨⟨Q, hrow, hQ1, hQ2⟩, hfew, hbel⟩ := HS.out.1
              have hmr : m + 1 ≤ r := by have := HS.out.2; omega
              cases gk with
              | zero =>
                have hrn : r = L.length := by omega
                have hkz2 : ¬ (((r - k : Nat) : Int) < ((L.length - k : Nat) : Int)) := by omega
                have hmn : m < L.length := by omega
                have HZ := Lib.hid (show ∀ j, j < L.length - m → (wr.cell? ⟨g, m + j, none⟩).isSome = true from fun j hj => by rw [hrow.c (m + j) (by omega)]; rfl)
                have HY := Lib.hid (show ∀ j, j < L.length - m → wr.frozen? ⟨g, m + j, none⟩ = false from fun j hj => hrow.f (m + j) (by omega))
                have HF : Hid (IL (wr.setCells g m (zerI (L.length - m))) (wr.setCells g m (zerI (L.length - m))).heap.size (.slice (some ⟨g, 0, none⟩) m cap) (thI (nA L) L.length)) := Lib.hid (by
                  have h1 := hrow.cleared m (L.length - m) (by omega)
                  have hm := HS.out.2
                  rw [hrn] at hm hQ1
                  have h2 : Rw1 (wr.setCells g m (zerI (L.length - m))) B g (thI (nA L) L.length).length (nA (thI (nA L) L.length)) := by
                    rw [hm]; exact h1.congr (fun i hi => hQ1 i (by omega))
                  have := h2.il (cap := cap) (by omega)
                  rw [hm] at this
                  exact this)
                have HB2 := Lib.hid (below_setCellsI hrow.base (zerI (L.length - m)) m wr hbel)
                have z1 : (m : Int) ≤ (cap : Int) := by omega
                have z2 : (m : Int) ≤ (L.length : Int) := by omega
                have z3 : ¬ m = cap := by omega
                have z4 : ¬ cap = m := by omega
                have z5 : ¬ cap - m = 0 := by omega
                clear hrow hQ1 hQ2 hbel
                have hclr := fun ty => run_clear_ints (P := Try.prog) wr 48 3 ty Try.underlying48 zeroI g m (L.length - m) (cap - m) (by omega) HZ.out HY.out
                go_wp2_with fail
                go_ret
                exact ⟨_, rfl, ⟨HF.out, HOb.out _⟩, HB2.out⟩
              | succ gr2 =>
                obtain ⟨t, ht⟩ : ∃ t, r = k + (t + 1) := ⟨r - k - 1, by omega⟩
                have hrt : r - k = t + 1 := by omega
                have hkz2 : ((t + 1 : Nat) : Int) < ((L.length - k : Nat) : Int) := by omega
                have hkz3 : (t : Int) < ((L.length - k : Nat) : Int) := by omega
                have e0 := hrow.c r (by omega)
                have e2 := hrow.c (r - 1) (by omega)
                rw [hQ2 r (by omega) (by omega), show (⟨g, r, none⟩ : Addr) = ⟨g, k + (t + 1), none⟩ from by rw [ht]] at e0
                rw [hQ2 (r - 1) (by omega) (by omega), show (⟨g, r - 1, none⟩ : Addr) = ⟨g, k + t, none⟩ from by rw [show r - 1 = k + t from by omega]] at e2
                have b0 := hrow.c m (by omega)
                have f0 := hrow.f m (by omega)
                have hmz : (m : Int) < (L.length : Int) := by omega
                have x1 : IntKind.i64.wrap (((t + 1 : Nat) : Int) - 1) = (t : Int) := by rw [show ((t + 1 : Nat) : Int) - 1 = (t : Int) from by omega]; exact IntWalk.i64_in _ (by omega)
                have x2 : IntKind.i64.wrap ((m : Int) + 1) = (m : Int) + 1 := IntWalk.i64_in _ (by omega)
                have x3 : IntKind.i64.wrap (((t + 1 : Nat) : Int) + 1) = ((t + 1 : Nat) : Int) + 1 := IntWalk.i64_in _ (by omega)
                have HE : Hid ((nA L r == nA L (r - 1)) = true ↔ nA L r = nA L (r - 1)) := Lib.hid beq_iff_eq
                have HPut : Hid (¬ nA L r = nA L (r - 1) → CpI w (wr.drew.setCell ⟨g, m, none⟩ (.int .i64 (nA L r))) B g L.length (nA L) (r + 1)) := Lib.hid (fun h => by
                  have := HS.out.1.drew.put (by omega) (by omega) h
                  rw [HS.out.2] at this
                  exact this)
                have HLen : Hid (¬ nA L r = nA L (r - 1) → (thI (nA L) (r + 1)).length = m + 1) := Lib.hid (fun h => by
                  rw [thI_yes _ (Or.inr h), List.length_append, HS.out.2]; rfl)
                have HSk : Hid (nA L r = nA L (r - 1) → CpI w wr.drew B g L.length (nA L) (r + 1) ∧ (thI (nA L) (r + 1)).length = m) := Lib.hid (fun h => ⟨HS.out.1.drew.skip (by omega) h, by
                  rw [thI_no _ (fun h' => by rcases h' with h' | h'; omega; exact h' h)]; exact HS.out.2⟩)
                have hgg : r + 1 + gr2 = L.length := by omega
                have hkr2 : k < r + 1 := by omega
                have HR2 : Hid (((r + 1 - k : Nat) : Int) = ((t + 1 : Nat) : Int) + 1) := Lib.hid (by omega)
                rw [hrt]
                clear hrow hQ1 hQ2 hbel hfew HS hmr hrt
                have HX1 : Hid ((nA L r == nA L (r - 1)) = false → ¬ nA L r = nA L (r - 1)) := Lib.hid (fun h e => by rw [HE.out.2 e] at h; cases h)
                generalize hpk : nA L r = p1 at *
                generalize hqk : nA L (r - 1) = q1 at *
                have HPk := Lib.hid hpk
                have HQk := Lib.hid hqk
                clear hpk hqk
                generalize heb : (p1 == q1) = eb at *
                clear ht
                generalize t + 1 = t1 at *
                cases eb
                · have HX := Lib.hid (HX1.out rfl)
                  go_wp2_with fail
                  go_big_region
                  go_wp2_with fail
                  go_roundg gr2
                  case measure => omega
                  case rel => exact ⟨r + 1, m + 1, hkr2, hgg, by go_num, by rw [HR2.out], Lib.hid ⟨HPut.out HX.out, HLen.out HX.out⟩⟩
                · have HX := Lib.hid (HE.out.1 rfl)
                  go_wp2_with fail
                  go_big_region
                  go_wp2_with fail
                  go_roundg gr2
                  case measure => omega
                  case rel => exact ⟨r + 1, m, hkr2, hgg, rfl, by rw [HR2.out], Lib.hid (HSk.out HX.out)⟩
/-- As UqPost, and its row is the call's own. -/
def UoPost (L : List Int) (w : World) (e : Ending) (w' : World) : Prop := ∃ u X, e = .returned u ∧ UnP X L ∧ X.length ≤ L.length ∧ IL w' w'.heap.size u X ∧ (∀ k, u.ownBlock = some k → w.heap.size ≤ k) ∧ Below w.heap.size w w'
set_option maxRecDepth 100000 in
theorem ouniq_own {w : World} {gt : Nat} {v : Value} {L : List Int} (hI : IL w gt v L) (hL : L.length ≤ 1000) : Calls Try.prog 52 #[v] w (UoPost L w) := by
  have HS := Lib.hid (sorted_any 64 #[] ilt (fun _ => True) (hI.new (Nat.le_refl _)) hL (fun _ _ => trivial) (fun args W => by first | rfl | simp [callFunc]) (fun W x y _ _ _ => (oless_any x y W).mono (fun e w' h => ⟨h.1, h.2 ▸ Below.refl _ _⟩)))
  obtain ⟨q, c, rfl, _, hx⟩ := hI
  clear hx
  have HU := Lib.hid (unp_srt L)
  have hl := (srt_perm ilt L).length_eq
  go_enter Try.func52, Try.ntmps52
  go_wp2_with fail
  go_at_call 63
  refine Calls.mono HS.out ?_
  rintro e w1 ⟨u, rfl, ho, hb⟩
  have HB := Lib.hid hb
  have HC := Lib.hid (icompact_own (L := srt ilt L) (by rw [hl]; exact ho) (by rw [hl]; exact hL))
  clear ho hb hl
  generalize thI (nA (srt ilt L)) (srt ilt L).length = X at *
  go_wp2_with fail
  go_at_call 62
  refine Calls.mono HC.out ?_
  rintro e w2 ⟨u2, rfl, ⟨hi2, ho2⟩, hb2⟩
  have HO2 := Lib.hid ho2
  clear ho2
  have HI2 := Lib.hid hi2
  have HB2 : Hid (Below w.heap.size w w2) := Lib.hid (HB.out.trans hb2)
  clear hi2 hb2
  go_wp2_with fail
  go_ret
  exact ⟨u2, X, rfl, HU.out.1, HU.out.2, HI2.out, HO2.out, HB2.out⟩
end Go.Proofs.Ytenfaejdnphngaa
