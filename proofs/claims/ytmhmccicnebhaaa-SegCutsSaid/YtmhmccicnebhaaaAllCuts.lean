/- The walk of allCuts. -/
import Derived.Test.YtmhmccicnebhaaaSortP
import Derived.Laws.EntriesVeiled
namespace Go.Proofs.Ytmhmccicnebhaaa
open Go.RowKit

/-- Numbers of a slice. -/
def Ints (W : World) (p : Option Addr) (xs : List Int) : Prop := ∀ i (h : i < xs.length), ∃ b off, p = some ⟨b, off, none⟩ ∧ W.cell? ⟨b, off + i, none⟩ = some (.int .i64 xs[i])
theorem Ints.keep {W w1 : World} {p : Option Addr} {xs : List Int} (hb : Below W.heap.size W w1) (h : Ints W p xs) : Ints w1 p xs := fun i hi => by
  obtain ⟨b, off, e, hc⟩ := h i hi
  exact ⟨b, off, e, cell_later hb hc⟩

def xCutV (a b : Int × Int) (c : Int) : Option (Int × Int) := if atB a.1 a.2 b.1 b.2 c then some (c, atN a.1 a.2 b.1 b.2 c) else none
def yCutV (a b : Int × Int) (c : Int) : Option (Int × Int) := if atB a.2 a.1 b.2 b.1 c then some (atN a.2 a.1 b.2 b.1 c, c) else none
def rawV (a b : Int × Int) (xs ys : List Int) : List (Int × Int) := xs.filterMap (xCutV a b) ++ ys.filterMap (yCutV a b)
theorem ok2_yx (a b : Int × Int) : ok2 a.2 a.1 b.2 b.1 = ok2 a.1 a.2 b.1 b.2 := by unfold ok2 okp; rw [Bool.and_comm (bnd a.2), Bool.and_comm (bnd b.2)]
theorem xCutV_ok {a b : Int × Int} (h : ok2 a.1 a.2 b.1 b.2 = true) (c : Int) : xCutV a b c = xCut a b c := by
  unfold xCutV xCut atN atB; rw [h, Bool.true_and]; split <;> simp_all
theorem yCutV_ok {a b : Int × Int} (h : ok2 a.1 a.2 b.1 b.2 = true) (c : Int) : yCutV a b c = yCut a b c := by
  unfold yCutV yCut atN atB; rw [ok2_yx, h, Bool.true_and]; split <;> simp_all
theorem rawV_ok {a b : Int × Int} (h : ok2 a.1 a.2 b.1 b.2 = true) (xs ys : List Int) : rawV a b xs ys = rawL a b xs ys := by
  unfold rawV rawL
  rw [show xCutV a b = xCut a b from funext (xCutV_ok h), show yCutV a b = yCut a b from funext (yCutV_ok h)]
theorem rawV_no {a b : Int × Int} (h : ok2 a.1 a.2 b.1 b.2 = false) (xs ys : List Int) : rawV a b xs ys = [] := by
  unfold rawV
  rw [show xCutV a b = fun _ => none from funext fun c => by unfold xCutV atB; rw [h]; rfl, show yCutV a b = fun _ => none from funext fun c => by unfold yCutV atB; rw [ok2_yx, h]; rfl]
  have e : ∀ l : List Int, l.filterMap (fun _ => (none : Option (Int × Int))) = [] := fun l => by induction l <;> simp_all
  rw [e, e]; rfl
theorem rawV_okp {a b p : Int × Int} {xs ys : List Int} (h : p ∈ rawV a b xs ys) : ok2 a.1 a.2 b.1 b.2 = true ∧ okp p.1 p.2 = true := by
  cases hok : ok2 a.1 a.2 b.1 b.2
  · rw [rawV_no hok] at h; simp at h
  · rw [rawV_ok hok] at h
    obtain ⟨_, _, hw⟩ := raw_way h
    have hm := way_in hw
    obtain ⟨h1, h2, h3, h4⟩ := ok2_in hok
    unfold mid at hm
    exact ⟨rfl, by unfold okp bnd; simp; omega⟩
theorem take_fm (f : Int → Option (Int × Int)) (xs : List Int) (k : Nat) (h : k < xs.length) : (xs.take (k + 1)).filterMap f = (xs.take k).filterMap f ++ (f xs[k]).toList := by
  rw [List.take_succ_eq_append_getElem h, List.filterMap_append]
  cases hf : f xs[k] <;> simp [hf]

theorem info_pt : (Try.prog.info? 23).map (fun i => (i.zero, i.size, i.bytes)) = some (some (.agg #[.int .i64 0, .int .i64 0]), 2, 16) := by kernel_rfl

/-- The list so far, and what was there. -/
def AS (W0 wr : World) (v : Value) (L : List (Int × Int)) : Prop := wr.ownsRow W0.heap.size 23 2 v L.length (cells L) ∧ Below W0.heap.size W0 wr
theorem AS.later {W0 wr w1 : World} {v : Value} {L : List (Int × Int)} (h : AS W0 wr v L) (hb : Below wr.heap.size wr w1) : AS W0 w1 v L := ⟨ownk hb h.1, h.2.trans (hb.mono h.2.size)⟩
theorem AS.next {W0 wr w2 : World} {v v' : Value} {L : List (Int × Int)} {p : Int × Int} (h : AS W0 wr v L) (ho : w2.ownsRow W0.heap.size 23 2 v' (L.length + 1) (cells L ++ [.int .i64 p.1, .int .i64 p.2])) (hg : wr.grownBy w2 v.ownBlock) : AS W0 w2 v' (L ++ [p]) := by
  refine ⟨by rw [cells_append, cells_one, List.length_append]; exact ho, h.2.grown hg h.2.size ?_⟩
  intro q hq
  rcases h.1.2 with ⟨hv, _⟩ | ⟨g', cap', cur', hv, hg', _⟩
  · rw [hv] at hq; cases hq
  · rw [hv] at hq; simp only [Value.ownBlock, Option.some.injEq] at hq; omega

def AllPost (a b : Int × Int) (xs ys : List Int) (w : World) (e : Ending) (w' : World) : Prop :=
  ∃ (v : Value) (M : List (Int × Int)), e = .returned v ∧ M.Perm (rawV a b xs ys) ∧ M.Pairwise (fun p q => dist a p ≤ dist a q) ∧ w'.ownsRow w.heap.size 23 2 v M.length (cells M) ∧ Below w.heap.size w w'

set_option maxRecDepth 100000 in
set_option maxHeartbeats 2000000 in
theorem allcuts_any (ax ay bx b_y : Int) (p q : Option Addr) (xs ys : List Int) (cp cq : Nat) (w : World) (hx : xs.length ≤ 1000000) (hy : ys.length ≤ 1000000) (HX : Hid (Ints w p xs)) (HY : Hid (Ints w q ys)) :
    Calls Try.prog 60 #[.agg #[.int .i64 ax, .int .i64 ay], .agg #[.int .i64 bx, .int .i64 b_y], .slice p xs.length cp, .slice q ys.length cq] w (AllPost (ax, ay) (bx, b_y) xs ys w) := by
  obtain ⟨i0, hi, hz0, hz1, hz2⟩ := info_parts info_pt
  go_enter Try.func60, Try.ntmps60
  go_wp2
  have hW : (fun V : World => Below w.heap.size w V ∧ V.heap.size = w.heap.size + 1 + 1 ∧ V.cell? ⟨w.heap.size, 0, none⟩ = some (.int .i64 ax) ∧ V.cell? ⟨w.heap.size, 1, none⟩ = some (.int .i64 ay) ∧ V.cell? ⟨w.heap.size + 1, 0, none⟩ = some (.int .i64 bx) ∧ V.cell? ⟨w.heap.size + 1, 1, none⟩ = some (.int .i64 b_y)) ((w.alloc (.cells #[.int .i64 ax, .int .i64 ay] 23)).alloc (.cells #[.int .i64 bx, .int .i64 b_y] 23)) :=
    ⟨b2 _ _ _, by simp, by go_simp, by go_simp, by go_simp, by go_simp⟩
  generalize (w.alloc (.cells #[.int .i64 ax, .int .i64 ay] 23)).alloc (.cells #[.int .i64 bx, .int .i64 b_y] 23) = W0 at hW ⊢
  have HW := Lib.hid hW
  clear hW
  go_loopw [9, 21] (fun v i wr => ∃ k : Nat, k ≤ xs.length ∧ i = .int .i64 k ∧ AS W0 wr v ((xs.take k).filterMap (xCutV (ax, ay) (bx, b_y)))) (fun _ i _ => xs.length - (intOf i).toNat)
  case atStart => exact ⟨0, by omega, rfl, ⟨rfl, .inl ⟨rfl, rfl⟩⟩, Below.refl _ _⟩
  case round =>
    rename_i v wr
    obtain ⟨k, hk, rfl, hA⟩ := hrel
    have HA := Lib.hid hA
    clear hA
    by_cases hlt : k < xs.length
    · obtain ⟨b, off, rfl, hc⟩ := HX.out k hlt
      have hBw : Below w.heap.size w wr := HW.out.1.trans (HA.out.2.mono HW.out.1.size)
      have c0 := cell_later hBw hc
      have c1 := cell_later HA.out.2 HW.out.2.2.1
      have c2 := cell_later HA.out.2 HW.out.2.2.2.1
      have c3 := cell_later HA.out.2 HW.out.2.2.2.2.1
      have c4 := cell_later HA.out.2 HW.out.2.2.2.2.2
      have HT := Lib.hid (take_fm (xCutV (ax, ay) (bx, b_y)) xs k hlt)
      clear hc hBw
      go_wp2_with fail
      refine (atx_any ax ay bx b_y xs[k] _).mono ?_
      rintro e w1 ⟨rfl, hb1⟩
      have HA1 := Lib.hid (HA.out.later hb1)
      clear c0 c1 c2 c3 c4
      cases hB : atB ax ay bx b_y xs[k]
      · have HB := Lib.hid hB
        clear hB
        go_wp2
        go_roundw
        case rel => exact ⟨k + 1, by omega, by go_num, by
          rw [HT.out, show xCutV (ax, ay) (bx, b_y) xs[k] = none from by unfold xCutV; rw [HB.out]; rfl]
          simp only [Option.toList_none, List.append_nil]
          exact HA1.out⟩
        case measure => simp [intOf]; omega
      · have HB := Lib.hid hB
        clear hB
        have HA2 := Lib.hid (HA1.out.later (b1 w1 (.cells #[.int .i64 xs[k], .int .i64 (atN ax ay bx b_y xs[k])] 23)))
        have hlen : ((xs.take k).filterMap (xCutV (ax, ay) (bx, b_y))).length ≤ k := Nat.le_trans (List.length_filterMap_le _ _) (List.length_take_le _ _)
        have hsz := HA1.out.2.size
        have HS : Hid (xCutV (ax, ay) (bx, b_y) xs[k] = some (xs[k], atN ax ay bx b_y xs[k])) := Lib.hid (by unfold xCutV; rw [HB.out]; rfl)
        generalize (xs.take k).filterMap (xCutV (ax, ay) (bx, b_y)) = L at *
        generalize atN ax ay bx b_y xs[k] = yv at *
        generalize xs[k] = c at *
        go_wp2_with (at_builtin; refine wpList_append_own _ rfl (.tmp 33) (.tmp 37) 40 rfl W0.heap.size 23 i0 (.agg #[.int .i64 0, .int .i64 0]) 2 16 Try.underlying40 hi hz0 hz1 hz2 rfl (by decide) _ L.length (cells L) rfl HA2.out.1 ⟨w1.heap.size, 0, none⟩ 1 1 [.int .i64 c, .int .i64 yv] rfl rfl ?c1 ?c2 ?c3 ?c4 ?c5 ?_)
        case c1 =>
          intro j u hj
          match j, hj with
          | 0, hj => simp at hj; subst hj; go_simp
          | 1, hj => simp at hj; subst hj; go_simp
        case c2 => intro u hu; simp at hu; rcases hu with rfl | rfl <;> rfl
        case c3 => unfold maxLen; omega
        case c4 => omega
        case c5 => simp; omega
        intro v' w2 hown' hgrow _
        have HA3 := Lib.hid (HA2.out.next (p := (c, yv)) hown' hgrow)
        clear hown' hgrow
        go_wp2
        go_roundw
        case rel => exact ⟨k + 1, by omega, by go_num, by rw [HT.out, HS.out]; exact HA3.out⟩
        case measure => simp [intOf]; omega
    · obtain rfl : k = xs.length := by omega
      rw [List.take_length] at HA
      have HLX : Hid ((xs.filterMap (xCutV (ax, ay) (bx, b_y))).length ≤ 1000000) := Lib.hid (Nat.le_trans (List.length_filterMap_le _ _) hx)
      have HR : Hid (rawV (ax, ay) (bx, b_y) xs ys = xs.filterMap (xCutV (ax, ay) (bx, b_y)) ++ ys.filterMap (yCutV (ax, ay) (bx, b_y))) := Lib.hid rfl
      generalize xs.filterMap (xCutV (ax, ay) (bx, b_y)) = LX at HA HLX HR
      go_wp2
      go_loopw [9, 42] (fun v i wr => ∃ k : Nat, k ≤ ys.length ∧ i = .int .i64 k ∧ AS W0 wr v (LX ++ (ys.take k).filterMap (yCutV (ax, ay) (bx, b_y)))) (fun _ i _ => ys.length - (intOf i).toNat)
      case atStart => exact ⟨0, by omega, rfl, by simpa using HA.out⟩
      case round =>
        rename_i v wr
        obtain ⟨k, hk, rfl, hA⟩ := hrel
        have HA := Lib.hid hA
        clear hA
        by_cases hlt : k < ys.length
        · obtain ⟨b, off, rfl, hc⟩ := HY.out k hlt
          have hBw : Below w.heap.size w wr := HW.out.1.trans (HA.out.2.mono HW.out.1.size)
          have c0 := cell_later hBw hc
          have c1 := cell_later HA.out.2 HW.out.2.2.1
          have c2 := cell_later HA.out.2 HW.out.2.2.2.1
          have c3 := cell_later HA.out.2 HW.out.2.2.2.2.1
          have c4 := cell_later HA.out.2 HW.out.2.2.2.2.2
          have HT := Lib.hid (take_fm (yCutV (ax, ay) (bx, b_y)) ys k hlt)
          clear hc hBw
          go_wp2_with fail
          refine (aty_any ax ay bx b_y ys[k] _).mono ?_
          rintro e w1 ⟨rfl, hb1⟩
          have HA1 := Lib.hid (HA.out.later hb1)
          clear c0 c1 c2 c3 c4
          cases hB : atB ay ax b_y bx ys[k]
          · have HB := Lib.hid hB
            clear hB
            go_wp2
            go_roundw
            case rel => exact ⟨k + 1, by omega, by go_num, by
              rw [HT.out, show yCutV (ax, ay) (bx, b_y) ys[k] = none from by unfold yCutV; rw [HB.out]; rfl]
              simp only [Option.toList_none, List.append_nil]
              exact HA1.out⟩
            case measure => simp [intOf]; omega
          · have HB := Lib.hid hB
            clear hB
            have HA2 := Lib.hid (HA1.out.later (b1 w1 (.cells #[.int .i64 (atN ay ax b_y bx ys[k]), .int .i64 ys[k]] 23)))
            have hlen : ((ys.take k).filterMap (yCutV (ax, ay) (bx, b_y))).length ≤ k := Nat.le_trans (List.length_filterMap_le _ _) (List.length_take_le _ _)
            have hlen2 := HLX.out
            have hsz := HA1.out.2.size
            have HS : Hid (yCutV (ax, ay) (bx, b_y) ys[k] = some (atN ay ax b_y bx ys[k], ys[k])) := Lib.hid (by unfold yCutV; rw [HB.out]; rfl)
            generalize hLL : LX ++ (ys.take k).filterMap (yCutV (ax, ay) (bx, b_y)) = L at *
            have hlen3 : L.length ≤ 1000000 + k := by rw [← hLL, List.length_append]; omega
            have HLL := Lib.hid hLL
            clear hlen hlen2 hLL
            generalize atN ay ax b_y bx ys[k] = yv at *
            generalize ys[k] = c at *
            go_wp2_with (at_builtin; refine wpList_append_own _ rfl (.tmp 54) (.tmp 58) 40 rfl W0.heap.size 23 i0 (.agg #[.int .i64 0, .int .i64 0]) 2 16 Try.underlying40 hi hz0 hz1 hz2 rfl (by decide) _ L.length (cells L) rfl HA2.out.1 ⟨w1.heap.size, 0, none⟩ 1 1 [.int .i64 yv, .int .i64 c] rfl rfl ?c1 ?c2 ?c3 ?c4 ?c5 ?_)
            case c1 =>
              intro j u hj
              match j, hj with
              | 0, hj => simp at hj; subst hj; go_simp
              | 1, hj => simp at hj; subst hj; go_simp
            case c2 => intro u hu; simp at hu; rcases hu with rfl | rfl <;> rfl
            case c3 => unfold maxLen; omega
            case c4 => omega
            case c5 => simp; omega
            intro v' w2 hown' hgrow _
            have HA3 := Lib.hid (HA2.out.next (p := (yv, c)) hown' hgrow)
            clear hown' hgrow
            go_wp2
            go_roundw
            case rel => exact ⟨k + 1, by omega, by go_num, by rw [HT.out, HS.out, ← List.append_assoc, HLL.out]; exact HA3.out⟩
            case measure => simp [intOf]; omega
        · obtain rfl : k = ys.length := by omega
          rw [List.take_length, ← HR.out] at HA
          have hlen : (rawV (ax, ay) (bx, b_y) xs ys).length ≤ 2000000 := by
            rw [HR.out, List.length_append]
            have h1 := HLX.out
            have h2 : (ys.filterMap (yCutV (ax, ay) (bx, b_y))).length ≤ ys.length := List.length_filterMap_le _ _
            omega
          have hL : Hid (∀ r, r ∈ rawV (ax, ay) (bx, b_y) xs ys → ok2 ax ay bx b_y = true ∧ okp r.1 r.2 = true) := Lib.hid fun r hr => rawV_okp hr
          generalize hRR : rawV (ax, ay) (bx, b_y) xs ys = R at HA hlen hL
          have HRR := Lib.hid hRR
          clear HR HLX hRR
          have HA2 := Lib.hid (HA.out.later (b1 wr (.cells #[.func (.func 93) #[] #[.pointer (some ⟨w.heap.size, 0, none⟩)]] 108)))
          have hb0 := fun q hq => own_block HA.out.1 (q := q) hq
          have HB0 := Lib.hid hb0
          clear hb0
          go_wp2_with fail
          refine (sort_pts W0.heap.size ax ay w.heap.size wr.heap.size _ R _ HA2.out.1 (fun hne => ?k1) (fun r hr => (hL.out r hr).2) (by omega) (fun hq => ?k2) (fun hq => ?k3) ?k4 ?k5 ?k6).mono ?_
          case k1 =>
            obtain ⟨r, hr⟩ := List.exists_mem_of_ne_nil R hne
            have := (hL.out r hr).1
            unfold ok2 at this
            rw [Bool.and_eq_true] at this
            exact this.1
          case k2 =>
            have := HB0.out _ hq
            have := HW.out.2.1
            omega
          case k3 =>
            have := HB0.out _ hq
            omega
          case k4 => exact cell_later (b1 wr _) (cell_later HA.out.2 HW.out.2.2.1)
          case k5 => exact cell_later (b1 wr _) (cell_later HA.out.2 HW.out.2.2.2.1)
          case k6 => go_simp
          rintro e w' ⟨rfl, M, hperm, hpw, hown, hbel⟩
          have HM := Lib.hid hperm
          have HO : Hid (w'.ownsRow w.heap.size 23 2 u9 M.length (cells M)) := Lib.hid (own_base (by rw [hperm.length_eq]; exact hown) (by have := HW.out.2.1; omega))
          have HB : Hid (Below w.heap.size w w') := Lib.hid (hbel w.heap.size w (HW.out.1.trans (HA2.out.2.mono HW.out.1.size)) (by have := HW.out.2.1; omega) (by have := HW.out.2.1; have := HA2.out.2.size; omega))
          have HPW := Lib.hid hpw
          clear hperm hown hbel hpw
          go_wp2
          go_ret
          exact ⟨_, M, rfl, by rw [HRR.out]; exact HM.out, HPW.out, HO.out, HB.out⟩
end Go.Proofs.Ytmhmccicnebhaaa
