/- The walk of the law OrderFinds. -/
import Derived.Test.YtmmahejdpanmjaaIntsI
import Derived.Test.YtmmahejdpanmjaaStripsLaw
namespace Go.Proofs.Ytmmahejdpanmjaa
open Go.RowKit Go.Sort Go.Deep

/-- A rising list of all of one list and the first of another. -/
structure AlX (W : World) (v : Value) (X Y : List Int) (i : Nat) (A : List Int) : Prop where
  il : IL W W.heap.size v A
  perm : A.Perm (X ++ Y.take i)
  srt : srtd ilt A
theorem AlX.put {W w1 : World} {v u : Value} {X Y A R : List Int} {i base : Nat} (h : AlX W v X Y i A) (hi : i < Y.length) (hp : InsP ilt Y[i] A R) (ho : w1.ownsRow base 3 1 u R.length (icells R)) : AlX w1 u X Y (i + 1) R :=
  ⟨own_IL ho, by
    refine hp.perm.trans ((List.Perm.cons _ h.perm).trans ?_)
    rw [List.take_succ_eq_append_getElem hi, ← List.append_assoc]
    exact (List.perm_append_singleton _ _).symm, hp.srtd ilt_sto h.srt⟩
theorem AlX.len {W : World} {v : Value} {X Y A : List Int} {i : Nat} (h : AlX W v X Y i A) : A.length ≤ X.length + i := by
  rw [h.perm.length_eq, List.length_append, List.length_take]; omega
theorem AlX.eq {W : World} {v : Value} {X Y A : List Int} {i : Nat} (h : AlX W v X Y i A) (hi : Y.length ≤ i) (hx : srtd ilt X) (hy : srtd ilt Y) : mrg ilt X Y = A := by
  refine srtd_uniq ilt_sto ((mrg_perm ilt X Y).trans ?_) (mrg_srtd ilt_sto hx hy) h.srt
  have := h.perm
  rw [List.take_of_length_le hi] at this
  exact this.symm
/-- How many are equal to n. -/
def eqN (X : List Int) (n : Int) (k : Nat) : Nat := (X.take k).countP (· == n)
theorem eqN_zero (X : List Int) (n : Int) : eqN X n 0 = 0 := by simp [eqN]
theorem eqN_yes {X : List Int} {n : Int} {k : Nat} (hk : k < X.length) (h : X[k] = n) : eqN X n (k + 1) = eqN X n k + 1 := by
  unfold eqN; rw [List.take_succ_eq_append_getElem hk, List.countP_append]; simp [h]
theorem eqN_no {X : List Int} {n : Int} {k : Nat} (hk : k < X.length) (h : ¬ X[k] = n) : eqN X n (k + 1) = eqN X n k := by
  unfold eqN; rw [List.take_succ_eq_append_getElem hk, List.countP_append]; simp [h]
theorem eqN_le (X : List Int) (n : Int) (k : Nat) : eqN X n k ≤ k := by
  unfold eqN
  refine Nat.le_trans List.countP_le_length ?_
  rw [List.length_take]; omega
/-- Behind the first that isn't less stand just those that are equal. -/
theorem strip_eq {X : List Int} {a : Int} {i j : Nat} (h1 : BsP X a i i) (h2 : SeP (fun k => decide (a < X.getD k 0)) X.length j j) (l1 : i ≤ X.length) (l2 : j ≤ X.length) : ∀ k, k ≤ X.length → eqN X a k = min k j - min k i
  | 0, _ => by simp [eqN_zero]
  | k + 1, hk => by
    have ih := strip_eq h1 h2 l1 l2 k (by omega)
    have hl := strip_line h1 h2 (k := k) (by omega)
    have hij := (strip_le h1 h2 l1 l2).1
    have e1 : k < i → X[k] < a := fun h => h1.1 k (by omega) h
    have e2 : j ≤ k → a < X[k] := fun h => (se_at h2 (by omega)).2 h
    by_cases h : X[k] = a
    · rw [eqN_yes (by omega) h, ih]
      have : ¬ k < i := fun c => by have := e1 c; omega
      have : ¬ j ≤ k := fun c => by have := e2 c; omega
      omega
    · rw [eqN_no (by omega) h, ih]
      rcases Int.lt_or_gt_of_ne h with c | c
      · have := hl.1 c; omega
      · have := hl.2 c; omega
set_option maxRecDepth 100000 in
set_option maxHeartbeats 4000000 in
theorem findslaw_yes {w : World} {ga gb : Nat} {va vb : Value} {A B : List Int} (hA : IL w ga va A) (hB : IL w gb vb B) (n m : Int) :
    Calls Try.prog 4 #[va, vb, .int .i64 n, .int .i64 m] w fun e w' => e = .returned (.bool true) ∧ Below w.heap.size w w' := by
  obtain ⟨i0, hi, hz0, hz1, hz2⟩ := info_parts infoI
  obtain ⟨qa, ca, rfl, _, hx⟩ := id hA
  clear hx
  obtain ⟨qb, cb, rfl, _, hx⟩ := id hB
  clear hx
  have HA := Lib.hid hA
  have HB := Lib.hid hB
  clear hA hB
  go_enter Try.func4, Try.ntmps4
  go_upto_block 0 with fail
  go_cut [9, 10] from 9 to 38 (fun s t wx => t = .slice none 0 0 ∧ ∃ i X, X.length ≤ 60 ∧ Hid (RiX wx s A i X) ∧ Hid (Below w.heap.size w wx))
  case first =>
    have HW : Hid (Below w.heap.size w w) := Lib.hid (Below.refl _ _)
    go_wp2_with fail
    go_loopg [9, 11] 60 (fun gk x s wx => ∃ (i : Nat) (X : List Int), gk = 60 - i ∧ i ≤ 60 ∧ s = .int .i64 (i : Int) ∧ Hid (RiX wx x A i X) ∧ Hid (Below w.heap.size w wx))
    case atStart => exact ⟨0, [], rfl, by omega, rfl, Lib.hid (RiX.nil _ _), HW⟩
    case round =>
      clear HW
      obtain ⟨i, Y, hgk, hi, rfl, HX, HW⟩ := hrel
      have hXl := HX.out.len
      by_cases hlt : i < A.length
      · by_cases h60 : i < 60
        · obtain ⟨g, o, rfl, c1⟩ := HA.out.at hlt
          have c1 := cell_later HW.out c1
          have HP := Lib.hid (put_any HX.out.il A[i] (by omega))
          have HN := Lib.hid (fun (R : List Int) (w1 : World) (u : Value) (h1 : InsP ilt A[i] Y R) (h2 : w1.ownsRow wr.heap.size 3 1 u R.length (icells R)) => HX.out.put hlt h1 h2)
          clear HX hXl
          generalize A[i] = z at *
          go_wp2_with (go_at_call 22; refine Calls.mono HP.out ?_; rintro e w1 ⟨R, u, hins, rfl, ho, hb⟩)
          have HN2 := Lib.hid (HN.out R _ u hins ho)
          have HW2 := Lib.hid (below_after HW.out hb)
          clear hins ho hb
          go_roundg (60 - (i + 1))
          case measure => omega
          case rel => exact ⟨i + 1, R, rfl, by omega, by push_cast; rfl, HN2, HW2⟩
        · go_wp2_with fail
          go_meet
          exact ⟨rfl, i, Y, by omega, HX, HW⟩
      · go_wp2_with fail
        go_meet
        exact ⟨rfl, i, Y, by omega, HX, HW⟩
  case rest =>
    obtain ⟨rfl, i1, X, hXl, HX, HW⟩ := hcut
    have HXs := Lib.hid HX.out.srt
    have HXi := Lib.hid HX.out.il
    clear HX
    go_upto_block 2 with fail
    go_cut [10] from 12 to 54 (fun s wx => ∃ i Y, Y.length ≤ 60 ∧ Hid (RiX wx s B i Y) ∧ Hid (Below wc.heap.size wc wx))
    case first =>
      obtain ⟨W1, hW1⟩ : ∃ W, W = wc := ⟨_, rfl⟩
      subst hW1
      have HV : Hid (Below W1.heap.size W1 W1) := Lib.hid (Below.refl _ _)
      go_wp2_with fail
      go_loopg [10, 12] 60 (fun gk x s wx => ∃ (i : Nat) (X : List Int), gk = 60 - i ∧ i ≤ 60 ∧ s = .int .i64 (i : Int) ∧ Hid (RiX wx x B i X) ∧ Hid (Below W1.heap.size W1 wx))
      case atStart => exact ⟨0, [], rfl, by omega, rfl, Lib.hid (RiX.nil _ _), HV⟩
      case round =>
        clear HV
        obtain ⟨i, Y, hgk, hi, rfl, HX, HV⟩ := hrel
        have hXl := HX.out.len
        by_cases hlt : i < B.length
        · by_cases h60 : i < 60
          · obtain ⟨g, o, rfl, c1⟩ := HB.out.at hlt
            have c1 := cell_later HV.out (cell_later HW.out c1)
            have HP := Lib.hid (put_any HX.out.il B[i] (by omega))
            have HN := Lib.hid (fun (R : List Int) (w1 : World) (u : Value) (h1 : InsP ilt B[i] Y R) (h2 : w1.ownsRow wr.heap.size 3 1 u R.length (icells R)) => HX.out.put hlt h1 h2)
            clear HX hXl
            generalize B[i] = z at *
            go_wp2_with (go_at_call 22; refine Calls.mono HP.out ?_; rintro e w1 ⟨R, u, hins, rfl, ho, hb⟩)
            have HN2 := Lib.hid (HN.out R _ u hins ho)
            have HV2 := Lib.hid (below_after HV.out hb)
            clear hins ho hb
            go_roundg (60 - (i + 1))
            case measure => omega
            case rel => exact ⟨i + 1, R, rfl, by omega, by push_cast; rfl, HN2, HV2⟩
          · go_wp2_with fail
            go_meet
            exact ⟨i, Y, by omega, HX, HV⟩
        · go_wp2_with fail
          go_meet
          exact ⟨i, Y, by omega, HX, HV⟩
    case rest =>
      obtain ⟨i2, Y, hYl, HY, HV⟩ := hcut
      have HYs := Lib.hid HY.out.srt
      have HYi := Lib.hid HY.out.il
      have HXj := Lib.hid (HXi.out.keep HV.out)
      have HW2 := Lib.hid (below_after HW.out HV.out)
      clear HY HXi HW HV
      obtain ⟨W2, hW2⟩ : ∃ W, W = wc := ⟨_, rfl⟩
      subst hW2
      obtain ⟨qx, cx, rfl, _, hx⟩ := id HXj.out
      clear hx
      obtain ⟨qy, cy, rfl, _, hx⟩ := id HYi.out
      clear hx
      have HB0 : Hid (Below W2.heap.size W2 (W2.alloc (.cells #[] 3))) := Lib.hid (below_alloc _ _)
      go_wp2_with (at_builtin; refine wpList_append_srcO rfl (.tmp 55) (.tmp 56) 24 rfl W2.heap.size 3 i0 (.int .i64 0) 1 8 Try.underlying24 hi hz0 hz1 hz2 rfl (by decide) _ 0 [] rfl (own_zeroI (Nat.le_refl _) (hp_new rfl)) _ X.length (icells X) rfl (HXj.out.srcO.keep HB0.out) (icells_len X) (icells_one _) (by unfold maxLen; omega) (by omega) HB0.out.size ?_)
      intro v1 w1 ho1 hg1
      have HB1 : Hid (Below W2.heap.size W2 w1) := Lib.hid (HB0.out.grown hg1 HB0.out.size (fun k hk => by cases hk; exact Nat.le_refl _))
      have HA0 : Hid (AlX w1 v1 X Y 0 X) := Lib.hid ⟨own_IL (by simpa using ho1), by simp, HXs.out⟩
      clear ho1 hg1 HB0
      go_wp2_with fail
      go_loopg [13, 14] Y.length (fun gk x s wx => ∃ (i : Nat) (A : List Int), gk = Y.length - i ∧ i ≤ Y.length ∧ s = .int .i64 (i : Int) ∧ Hid (AlX wx x X Y i A) ∧ Hid (Below W2.heap.size W2 wx))
      case atStart => exact ⟨0, X, rfl, by omega, rfl, HA0, HB1⟩
      case round =>
        clear HB1 HA0
        obtain ⟨i, A, hgk, hi, rfl, HA, HW⟩ := hrel
        have hAl := HA.out.len
        by_cases hlt : i < Y.length
        · obtain ⟨g, o, rfl, c1⟩ := HYi.out.at hlt
          have c1 := cell_later HW.out c1
          have HP := Lib.hid (put_any HA.out.il Y[i] (by omega))
          have HN := Lib.hid (fun (R : List Int) (w1 : World) (u : Value) (h1 : InsP ilt Y[i] A R) (h2 : w1.ownsRow wr.heap.size 3 1 u R.length (icells R)) => HA.out.put hlt h1 h2)
          clear HA hAl
          generalize Y[i] = z at *
          go_wp2_with (go_at_call 22; refine Calls.mono HP.out ?_; rintro e w1 ⟨R, u, hins, rfl, ho, hb⟩)
          have HN2 := Lib.hid (HN.out R _ u hins ho)
          have HW3 := Lib.hid (below_after HW.out hb)
          clear hins ho hb
          go_roundg (Y.length - (i + 1))
          case measure => omega
          case rel => exact ⟨i + 1, R, rfl, by omega, by push_cast; rfl, HN2, HW3⟩
        · have HE := Lib.hid (HA.out.eq (by omega) HXs.out HYs.out)
          have HAi := Lib.hid HA.out.il
          have HXk := Lib.hid (HXj.out.keep HW.out)
          have HYk := Lib.hid (HYi.out.keep HW.out)
          have HW3 := Lib.hid (below_after HW2.out HW.out)
          have HXle := Lib.hid (ilt_le.1 HXs.out)
          clear HA HW HYi HXj HW2 HXs HYs
          go_wp2_with fail
          go_at_call 23
          refine (find_any HXk.out n (by omega) HXle.out).mono ?_
          rintro e w2 ⟨p, hp, hpb, rfl, hb⟩
          have HPB := Lib.hid hpb
          have HXa := Lib.hid (HXk.out.keep hb)
          have HYa := Lib.hid (HYk.out.keep hb)
          have HAa := Lib.hid (HAi.out.keep hb)
          have HW4 := Lib.hid (below_after HW3.out hb)
          clear hpb hb HXk HYk HAi HW3
          go_wp2_with fail
          go_at_call 24
          refine (rfind_any HXa.out n (by omega)).mono ?_
          rintro e w3 ⟨p2, hp2, hf1, hf2, rfl, hb⟩
          obtain rfl : p = p2 := bs_first HPB.out hp2 hp hf1 (fun k h e => by subst e; exact hf2 h)
          have HXb := Lib.hid (HXa.out.keep hb)
          have HYb := Lib.hid (HYa.out.keep hb)
          have HAb := Lib.hid (HAa.out.keep hb)
          have HW5 := Lib.hid (below_after HW4.out hb)
          clear hf1 hf2 hp2 hb HXa HYa HAa HW4
          generalize decide (X[p]? = some n) = is
          go_wp2_with fail
          go_at_call 25
          refine (strips_any n (by omega) HXb.out HXle.out).mono ?_
          rintro e w4 ⟨p3, j, rfl, hp3, hj, hb3, hse, hb⟩
          obtain rfl : p = p3 := bs_same HPB.out hb3 hp hp3
          have hpj := (strip_le HPB.out hse hp hj).1
          have HEq := Lib.hid (strip_eq HPB.out hse hp hj)
          have HXc := Lib.hid (HXb.out.keep hb)
          have HYc := Lib.hid (HYb.out.keep hb)
          have HAc := Lib.hid (HAb.out.keep hb)
          have HW6 := Lib.hid (below_after HW5.out hb)
          clear hb3 hse hp3 hb HXb HYb HAb HW5 HPB
          go_wp2_with fail
          go_loopg [21, 22] X.length (fun gk c s wx => ∃ k : Nat, gk = X.length - k ∧ k ≤ X.length ∧ s = .int .i64 (k : Int) ∧ c = .int .i64 (eqN X n k : Int) ∧ wx = w4)
          case atStart => exact ⟨0, rfl, by omega, rfl, by rw [eqN_zero]; rfl, rfl⟩
          case round =>
            obtain ⟨k, hgk, hk, rfl, rfl, hw⟩ := hrel
            have hw' := hw.symm; clear hw; subst hw'
            by_cases hlt : k < X.length
            · obtain ⟨g, o, rfl, c1⟩ := HXc.out.at hlt
              have HY1 := Lib.hid (fun h => eqN_yes (n := n) hlt h)
              have HN1 := Lib.hid (fun h => eqN_no (n := n) hlt h)
              have hle := eqN_le X n k
              generalize X[k] = z at *
              by_cases hz : z = n
              · have HR := Lib.hid (HY1.out hz)
                clear HY1 HN1
                have hd : (z == n) = true := by simp [hz]
                generalize eqN X n k = ek at *
                go_wp2_with fail
                go_roundg (X.length - (k + 1))
                case measure => omega
                case rel => exact ⟨k + 1, rfl, by omega, by push_cast; rfl, by rw [HR.out]; push_cast; rfl, by first | rfl | trivial⟩
              · have HR := Lib.hid (HN1.out hz)
                clear HY1 HN1
                have hd : (z == n) = false := by simp [hz]
                go_wp2_with fail
                go_roundg (X.length - (k + 1))
                case measure => omega
                case rel => exact ⟨k + 1, rfl, by omega, by push_cast; rfl, by rw [HR.out], by first | rfl | trivial⟩
            · obtain rfl : k = X.length := by omega
              have hq : eqN X n X.length = j - p := by rw [HEq.out _ (Nat.le_refl _)]; omega
              rw [hq]
              clear hq HEq
              have HKn := Lib.hid (known4_yes w4)
              have hjp : ((p : Nat) : Int) + ((j - p : Nat) : Int) = (j : Int) := by omega
              have hd1 : ((p : Int) == (p : Int)) = true := by simp
              have hd2 : ((j : Int) == (j : Int)) = true := by simp
              have hd3 : (is == is) = true := by cases is <;> rfl
              go_wp2_with fail
              refine Calls.mono HKn.out ?_
              rintro e w5 ⟨rfl, hb⟩
              have HXd := Lib.hid (HXc.out.keep hb)
              have HYd := Lib.hid (HYc.out.keep hb)
              have HAd := Lib.hid (HAc.out.keep hb)
              have HW7 := Lib.hid (below_after HW6.out hb)
              clear hb HXc HYc HAc HW6 HKn
              go_wp2_with fail
              go_at_call 26
              refine (merge_any HXd.out HYd.out (by omega) (by omega)).mono ?_
              rintro e w6 ⟨u, rfl, ho, hb⟩
              have HM := Lib.hid (own_IL ho)
              have HXe := Lib.hid (HXd.out.keep hb)
              have HAe := Lib.hid (HAd.out.keep hb)
              have HW8 := Lib.hid (below_after HW7.out hb)
              clear hb ho HXd HYd HAd HW7
              have hml : (mrg ilt X Y).length ≤ 9223372036854775807 := by rw [mrg_len]; omega
              go_wp2_with fail
              go_at_call 17
              refine (ints_any HM.out HAe.out hml (by rw [← HE.out]; exact hml) HE.out).mono ?_
              rintro e w7 ⟨rfl, hb⟩
              have HXf := Lib.hid (HXe.out.keep hb)
              have HW9 := Lib.hid (below_after HW8.out hb)
              clear hb HM HXe HAe HW8 HE hml
              go_wp2_with fail
              go_at_call 27
              refine (cmn_any n m (by omega) HXf.out HXle.out).mono ?_
              rintro e w8 ⟨rfl, hb⟩
              have HXg := Lib.hid (HXf.out.keep hb)
              have HWa := Lib.hid (below_after HW9.out hb)
              clear hb HXf HW9
              go_wp2_with fail
              go_at_call 28
              refine (rapart_any n m (by omega) HXg.out).mono ?_
              rintro e w9 ⟨rfl, rfl⟩
              have HC : Hid (cmnB X n m = !apartB X n m) := Lib.hid rfl
              rw [HC.out]
              generalize apartB X n m = ap
              cases ap
              · go_wp2_with fail
                go_ret
                exact ⟨rfl, HWa.out⟩
              · go_wp2_with fail
                go_ret
                exact ⟨rfl, HWa.out⟩
end Go.Proofs.Ytmmahejdpanmjaa
