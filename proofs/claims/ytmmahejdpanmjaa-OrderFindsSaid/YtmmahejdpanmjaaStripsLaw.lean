/- The walk of the law OrderStrips. -/
import Derived.Test.YtmmahejdpanmjaaApart
namespace Go.Proofs.Ytmmahejdpanmjaa
open Go.RowKit Go.Sort Go.Deep

theorem strip_le {X : List Int} {a : Int} {i j : Nat} (h1 : BsP X a i i) (h2 : SeP (fun k => decide (a < X.getD k 0)) X.length j j) (l1 : i ≤ X.length) (l2 : j ≤ X.length) : i ≤ j ∧ (i < j ↔ X[i]? = some a) := by
  have hij : i ≤ j := by
    rcases Nat.lt_or_ge j i with c | c
    · have e1 := h1.1 j (by omega) c
      have e2 := (se_at h2 (k := j) (by omega)).2 (Nat.le_refl _)
      omega
    · exact c
  refine ⟨hij, ⟨fun c => ?_, fun c => ?_⟩⟩
  · have hin : i < X.length := by
      rcases Nat.lt_or_ge i X.length with d | d
      · exact d
      · have e := h2.1 i c
        have : X.getD i 0 = 0 := by rw [List.getD_eq_getElem?_getD, List.getElem?_eq_none d]; rfl
        have : i = X.length := by omega
        omega
    have e1 := h1.2 i hin (Nat.le_refl _)
    have e2 := (se_at h2 hin).1 c
    rw [List.getElem?_eq_getElem hin]
    congr 1; omega
  · obtain ⟨hin, e⟩ := List.getElem?_eq_some_iff.1 c
    rcases Nat.lt_or_ge i j with d | d
    · exact d
    · have := (se_at h2 hin).2 d
      omega
theorem bs_same {X : List Int} {a : Int} {i j : Nat} (h1 : BsP X a i i) (h2 : BsP X a j j) (l1 : i ≤ X.length) (l2 : j ≤ X.length) : i = j :=
  bs_first h1 l2 l1 (fun k h c => h2.1 k h c) (fun k h c => h2.2 k h (by omega))
theorem strip_line {X : List Int} {a : Int} {i j : Nat} (h1 : BsP X a i i) (h2 : SeP (fun k => decide (a < X.getD k 0)) X.length j j) {k : Nat} (hk : k < X.length) : (X[k] < a → k < i) ∧ (a < X[k] → j ≤ k) := by
  constructor
  · intro h
    rcases Nat.lt_or_ge k i with c | c
    · exact c
    · exact absurd h (h1.2 k hk c)
  · intro h
    rcases Nat.lt_or_ge k j with c | c
    · exact absurd h ((se_at h2 hk).1 c)
    · exact c
set_option maxRecDepth 100000 in
set_option maxHeartbeats 4000000 in
theorem stripslaw_yes {w : World} {gt : Nat} {v : Value} {L : List Int} (hI : IL w gt v L) (a b c : Int) :
    Calls Try.prog 6 #[v, .int .i64 a, .int .i64 b, .int .i64 c] w fun e w' => e = .returned (.bool true) ∧ Below w.heap.size w w' := by
  obtain ⟨q, cp, rfl, hc, hx⟩ := id hI
  clear hx
  have HI := Lib.hid hI
  clear hI
  go_enter Try.func6, Try.ntmps6
  go_upto_block 0 with fail
  go_cut [9] from 9 to 32 (fun s wx => ∃ i X, X.length ≤ 60 ∧ Hid (RiX wx s L i X) ∧ Hid (Below w.heap.size w wx))
  case first =>
    go_wp2_with fail
    go_loopg [9, 10] 60 (fun gk x s wx => ∃ (i : Nat) (X : List Int), gk = 60 - i ∧ i ≤ 60 ∧ s = .int .i64 (i : Int) ∧ Hid (RiX wx x L i X) ∧ Hid (Below w.heap.size w wx))
    case atStart => exact ⟨0, [], rfl, by omega, rfl, Lib.hid (RiX.nil _ _), Lib.hid (Below.refl _ _)⟩
    case round =>
      obtain ⟨i, X, hgk, hi, rfl, HX, HW⟩ := hrel
      have hXl := HX.out.len
      by_cases hlt : i < L.length
      · by_cases h60 : i < 60
        · obtain ⟨g, o, rfl, c1⟩ := HI.out.at hlt
          have c1 := cell_later HW.out c1
          have HP := Lib.hid (put_any HX.out.il L[i] (by omega))
          have HN := Lib.hid (fun (R : List Int) (w1 : World) (u : Value) (h1 : InsP ilt L[i] X R) (h2 : w1.ownsRow wr.heap.size 3 1 u R.length (icells R)) => HX.out.put hlt h1 h2)
          clear HX hXl
          generalize L[i] = z at *
          go_wp2_with (go_at_call 22; refine Calls.mono HP.out ?_; rintro e w1 ⟨R, u, hins, rfl, ho, hb⟩)
          have HN2 := Lib.hid (HN.out R _ u hins ho)
          have HW2 := Lib.hid (below_after HW.out hb)
          clear hins ho hb
          go_roundg (60 - (i + 1))
          case measure => omega
          case rel => exact ⟨i + 1, R, rfl, by omega, by push_cast; rfl, HN2, HW2⟩
        · go_wp2_with fail
          go_meet
          exact ⟨i, X, by omega, HX, HW⟩
      · go_wp2_with fail
        go_meet
        exact ⟨i, X, by omega, HX, HW⟩
  case rest =>
    obtain ⟨n, X, hXl, HX, HW⟩ := hcut
    have HS := Lib.hid HX.out.le
    have HJ := Lib.hid HX.out.il
    clear HX HI
    obtain ⟨q2, c2, rfl, hc2, hx⟩ := id HJ.out
    clear hx
    go_wp2_with fail
    go_at_call 25
    refine (strips_any a (by omega) HJ.out HS.out).mono ?_
    rintro e w2 ⟨i, j, rfl, hi, hj, hbs, hse, hb2⟩
    have HB := Lib.hid hbs
    have HE := Lib.hid hse
    have HJ2 := Lib.hid (HJ.out.keep hb2)
    have HW2 := Lib.hid (below_after HW.out hb2)
    clear hbs hse hb2 HJ HW
    go_wp2_with fail
    go_at_call 23
    refine (find_any HJ2.out a (by omega) HS.out).mono ?_
    rintro e w3 ⟨i3, hi3, hb3, rfl, hbw⟩
    obtain rfl : i = i3 := bs_same HB.out hb3 hi hi3
    have HJ3 := Lib.hid (HJ2.out.keep hbw)
    have HW3 := Lib.hid (below_after HW2.out hbw)
    have hst := strip_le HB.out HE.out hi hj
    have hij := hst.1
    have HF : Hid (decide (X[i]? = some a) = decide (i < j)) := Lib.hid (by rw [Bool.eq_iff_iff]; simp only [decide_eq_true_eq]; exact hst.2.symm)
    clear hst hb3 hbw HJ2 HW2 hi3
    rw [HF.out]
    clear HF
    generalize his : decide (i < j) = is
    have HIs := Lib.hid his
    clear his
    have hn0 : decide ((i : Int) < 0) = false := by simp
    have hn1 : decide (((X.length : Nat) : Int) < (j : Int)) = false := by simp; omega
    have hn2 : decide ((j : Int) < (i : Int)) = false := by simp; omega
    go_upto_region 8 with fail
    go_cut [64] (fun s wx => s = .bool false ∧ wx = w3)
    case first =>
      cases is
      · have hlt : ¬ i < j := by simpa using HIs.out
        go_wp2_with fail
        go_meet
        exact ⟨by congr 1; simp; omega, rfl⟩
      · have hlt : i < j := by simpa using HIs.out
        go_wp2_with fail
        go_meet
        exact ⟨by congr 1; simp; omega, rfl⟩
    case rest =>
      obtain ⟨rfl, hw⟩ := hcut
      have hw' := hw.symm; clear hw; subst hw'
      clear hn0 hn1 hn2 HIs
      go_wp2_with fail
      go_loopg [15] X.length (fun gk s wx => ∃ k : Nat, gk = X.length - k ∧ k ≤ X.length ∧ s = .int .i64 (k : Int) ∧ wx = w3)
      case atStart => exact ⟨0, rfl, by omega, rfl, rfl⟩
      case round =>
        obtain ⟨k, hgk, hk, rfl, hw⟩ := hrel
        have hw' := hw.symm; clear hw; subst hw'
        by_cases hlt : k < X.length
        · obtain ⟨g, o, rfl, c1⟩ := HJ3.out.at hlt
          have hln := strip_line HB.out HE.out hlt
          generalize X[k] = z at *
          by_cases h1 : z < a
          · have hki := hln.1 h1
            have d1 : decide ((i : Int) ≤ (k : Int)) = false := by simp; omega
            clear hln
            go_wp2_with fail
            go_roundg (X.length - (k + 1))
            case measure => omega
            case rel => exact ⟨k + 1, rfl, by omega, by push_cast; rfl, by first | rfl | trivial⟩
          · by_cases h2 : a < z
            · have hjk := hln.2 h2
              have d1 : decide ((k : Int) < (j : Int)) = false := by simp; omega
              clear hln
              go_wp2_with fail
              go_roundg (X.length - (k + 1))
              case measure => omega
              case rel => exact ⟨k + 1, rfl, by omega, by push_cast; rfl, by first | rfl | trivial⟩
            · clear hln
              go_wp2_with fail
              go_roundg (X.length - (k + 1))
              case measure => omega
              case rel => exact ⟨k + 1, rfl, by omega, by push_cast; rfl, by first | rfl | trivial⟩
        · go_upto_region 15 with fail
          go_cut [16] (fun s wx => ∃ nr : Int, s = .int .i64 nr ∧ min a b ≤ nr ∧ nr ≤ max a b ∧ wx = w3)
          case first =>
            go_wp2_with fail
            all_goals go_meet
            all_goals refine ⟨_, rfl, ?_, ?_, rfl⟩
            all_goals first | omega | (repeat (first | omega | split))
          case rest =>
            obtain ⟨nr, rfl, n1, n2, hw⟩ := hcut
            have hw' := hw.symm; clear hw; subst hw'
            have HN : Hid (cmnB X a b = true → cmnB X a nr = true) := Lib.hid (fun h => cmn_near h n1 n2)
            have HKn := Lib.hid (known4_yes w3)
            clear n1 n2
            have HSy := Lib.hid (cmn_sym X a b)
            have HSe := Lib.hid (cmn_self X a)
            have HJ4 : Hid (∀ W, Below w3.heap.size w3 W → IL W W.heap.size (.slice q2 X.length c2) X) := Lib.hid (fun W h => HJ3.out.keep h)
            go_wp2_with fail
            refine Calls.mono HKn.out ?_
            rintro e w4 ⟨rfl, hb4⟩
            have HB4 := Lib.hid hb4
            clear hb4
            go_wp2_with fail
            go_at_call 27
            refine (cmn_any a b (by omega) (HJ4.out _ HB4.out) HS.out).mono ?_
            rintro e w5 ⟨rfl, hb⟩
            have HB5 := Lib.hid (below_after HB4.out hb)
            clear hb HB4
            go_wp2_with fail
            go_at_call 27
            refine (cmn_any b a (by omega) (HJ4.out _ HB5.out) HS.out).mono ?_
            rintro e w6 ⟨rfl, hb⟩
            have HB6 := Lib.hid (below_after HB5.out hb)
            clear hb HB5
            rw [HSy.out]
            generalize hp : cmnB X a b = p
            have HP := Lib.hid hp
            clear hp HSy
            have hpp : (p == p) = true := by cases p <;> rfl
            go_wp2_with fail
            go_at_call 27
            refine (cmn_any a a (by omega) (HJ4.out _ HB6.out) HS.out).mono ?_
            rintro e w7 ⟨rfl, hb⟩
            have HB7 := Lib.hid (below_after HB6.out hb)
            rw [HSe.out]
            clear hb HB6 HSe
            go_wp2_with fail
            go_at_call 27
            refine (cmn_any a b (by omega) (HJ4.out _ HB7.out) HS.out).mono ?_
            rintro e w8 ⟨rfl, hb⟩
            have HB8 := Lib.hid (below_after HB7.out hb)
            clear hb HB7
            rw [HP.out]
            cases p
            · go_wp2_with fail
              go_ret
              exact ⟨rfl, below_after HW3.out HB8.out⟩
            · have HNr := Lib.hid (HN.out HP.out)
              go_wp2_with fail
              go_at_call 27
              refine (cmn_any a nr (by omega) (HJ4.out _ HB8.out) HS.out).mono ?_
              rintro e w9 ⟨rfl, hb⟩
              have HB9 := Lib.hid (below_after HB8.out hb)
              clear hb HB8
              rw [HNr.out]
              go_wp2_with fail
              go_ret
              exact ⟨rfl, below_after HW3.out HB9.out⟩
end Go.Proofs.Ytmmahejdpanmjaa
