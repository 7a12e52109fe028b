/- The walk of the law OrderStays. -/
import Derived.Test.YtmmahejdpanmjaaSortsLaw
namespace Go.Proofs.Ytmmahejdpanmjaa
open Go.RowKit Go.Sort

theorem ane_ptP (p q : Int × Int) (w : World) : Sem.run Try.prog (binOp .neq 47 (.agg #[.int .i64 p.1, .int .i64 p.2]) (.agg #[.int .i64 q.1, .int .i64 q.2])) w = .ok (.bool (!eqP p q)) w := by
  have u3 := Try.underlying3
  have hS : Try.prog.underlying 47 = some (.struct (Try.prog.fieldsOf 47)) := by kernel_rfl
  have hp : Try.prog.stoodInHeld 47 = false := by kernel_rfl
  rw [run_neq_struct, show (10000 : Nat) = 9999 + 1 from rfl, run_equalIn_agg w 9999 47 _ _ hS hp]
  simp only [Program.fieldsOf, Try.underlying47]
  unfold eqP
  go_simp
  by_cases h1 : p.1 = q.1 <;> by_cases h2 : p.2 = q.2 <;> simp [h1, h2]
theorem aeq_ptP (p q : Int × Int) (w : World) : Sem.run Try.prog (binOp .eql 47 (.agg #[.int .i64 p.1, .int .i64 p.2]) (.agg #[.int .i64 q.1, .int .i64 q.2])) w = .ok (.bool (eqP p q)) w := by
  have u3 := Try.underlying3
  have hS : Try.prog.underlying 47 = some (.struct (Try.prog.fieldsOf 47)) := by kernel_rfl
  have hp : Try.prog.stoodInHeld 47 = false := by kernel_rfl
  rw [run_eql_struct, show (10000 : Nat) = 9999 + 1 from rfl, run_equalIn_agg w 9999 47 _ _ hS hp]
  simp only [Program.fieldsOf, Try.underlying47]
  unfold eqP
  go_simp
  by_cases h1 : p.1 = q.1 <;> by_cases h2 : p.2 = q.2 <;> simp [h1, h2]
/-- How many of the first k are p. -/
def cnP (p : Int × Int) (L : List (Int × Int)) (k : Nat) : Nat := (L.take k).countP (fun q => eqP q p)
theorem cnP_zero (p : Int × Int) (L : List (Int × Int)) : cnP p L 0 = 0 := by simp [cnP]
theorem cnP_step {p : Int × Int} {L : List (Int × Int)} {k : Nat} (h : k < L.length) : cnP p L (k + 1) = cnP p L k + (if eqP L[k] p = true then 1 else 0) := by
  unfold cnP; rw [List.take_succ_eq_append_getElem h, List.countP_append, List.countP_singleton]
theorem cnP_le (p : Int × Int) (L : List (Int × Int)) (k : Nat) : cnP p L k ≤ k := by
  unfold cnP
  refine Nat.le_trans List.countP_le_length ?_
  rw [List.length_take]; omega
theorem cnP_all {p : Int × Int} {L S : List (Int × Int)} (h : S.Perm L) : cnP p L L.length = cnP p S S.length := by
  unfold cnP; rw [List.take_length, List.take_length]; exact (h.countP_eq _).symm
/-- Sorted, the next isn't ahead. -/
theorem srt_next {S : List (Int × Int)} (h : srtd plt S) {i : Nat} (hi : i < S.length) (h0 : 0 < i) : ¬ S[i].1 < S[i - 1].1 ∧ (S[i].1 = S[i - 1].1 → ¬ S[i].2 < S[i - 1].2) := by
  have := List.pairwise_iff_getElem.1 h (i - 1) i (by omega) hi (by omega)
  unfold plt lessB at this
  split at this
  · rename_i e
    simp at this
    exact ⟨by omega, fun _ => by omega⟩
  · rename_i e
    simp at this
    exact ⟨by omega, fun e2 => absurd e2 e⟩
theorem unp_mrg {X Y U A B : List Int} (hx : UnP X A) (hy : UnP Y B) (hu : UnP U (mrg ilt X Y)) : UnP U (A ++ B) :=
  ⟨hu.1, fun y => by rw [hu.2 y, (mrg_perm ilt X Y).mem_iff, List.mem_append, List.mem_append, hx.2 y, hy.2 y]⟩
set_option maxRecDepth 100000 in
set_option maxHeartbeats 4000000 in
theorem stayslaw_yes {w : World} {ga gn gm : Nat} {vp vn vm : Value} {P : List (Int × Int)} {N M : List Int} (hP : PI w ga vp P) (hN : IL w gn vn N) (hM : IL w gm vm M) :
    Calls Try.prog 5 #[vp, vn, vm] w fun e w' => e = .returned (.bool true) ∧ Below w.heap.size w w' := by
  have hmx : Try.prog.follows .mixedOrders = true := by kernel_rfl
  obtain ⟨i0, hi, hz0, hz1, hz2⟩ := info_parts infoI
  obtain ⟨iP, hiP, hp0, hp1, hp2⟩ := info_parts infoAP
  obtain ⟨qp, cp, rfl, hcp, hx⟩ := id hP
  clear hx
  obtain ⟨qn, cn, rfl, hcn, hx⟩ := id hN
  clear hx
  obtain ⟨qm, cm, rfl, hcm, hx⟩ := id hM
  clear hx
  have HP := Lib.hid (hP.upto 60)
  have HN := Lib.hid (hN.upto 60)
  have HM := Lib.hid (hM.upto 60)
  clear hP hN hM
  have e1 : ((P.length : Nat) : Int) ≤ (cp : Int) := by omega
  have e2 : ((N.length : Nat) : Int) ≤ (cn : Int) := by omega
  have e3 : ((M.length : Nat) : Int) ≤ (cm : Int) := by omega
  go_enter Try.func5, Try.ntmps5
  go_upto_region 1 with fail
  go_cut [0, 1, 2] (fun a b c wx => a = .slice qp (P.take 60).length cp ∧ b = .slice qn (N.take 60).length cn ∧ c = .slice qm (M.take 60).length cm ∧ Hid (Below w.heap.size w wx))
  case first =>
    clear HP HN HM
    go_region
    go_wp2_with fail
    all_goals
      go_meet
      exact ⟨by congr 1; rw [List.length_take]; omega, by congr 1; rw [List.length_take]; omega, by congr 1; rw [List.length_take]; omega, Lib.hid (Below.refl _ _).drew⟩
  case rest =>
    obtain ⟨rfl, rfl, rfl, HW⟩ := hcut
    rw [show min P.length 60 = (P.take 60).length from by rw [List.length_take]; omega] at HP
    rw [show min N.length 60 = (N.take 60).length from by rw [List.length_take]; omega] at HN
    rw [show min M.length 60 = (M.take 60).length from by rw [List.length_take]; omega] at HM
    have lP : (P.take 60).length ≤ 60 := by rw [List.length_take]; omega
    have lN : (N.take 60).length ≤ 60 := by rw [List.length_take]; omega
    have lM : (M.take 60).length ≤ 60 := by rw [List.length_take]; omega
    clear e1 e2 e3
    generalize P.take 60 = L at *
    generalize N.take 60 = N1 at *
    generalize M.take 60 = M1 at *
    clear hcp hcn hcm
    go_wp2_with fail
    go_loopg [7, 8] L.length (fun gk u s wx => ∃ i : Nat, gk = L.length - i ∧ i ≤ L.length ∧ s = .int .i64 (i : Int) ∧ Hid (wx.ownsRow w.heap.size 47 2 u i (pcells (L.reverse.take i))) ∧ Hid (Below w.heap.size w wx))
    case atStart => exact ⟨0, rfl, by omega, rfl, Lib.hid ⟨by simp [pcells], .inl ⟨rfl, rfl⟩⟩, HW⟩
    case round =>
      clear HW
      obtain ⟨i, hgk, hi9, rfl, HO, HB⟩ := hrel
      by_cases hlt : i < L.length
      · obtain ⟨g, o, rfl, c0, c1⟩ := HP.out.at (i := L.length - 1 - i) (by omega)
        have c0 := cell_later HB.out c0
        have c1 := cell_later HB.out c1
        have x1 : IntKind.i64.wrap ((L.length : Int) - 1) = (L.length : Int) - 1 := IntWalk.i64_in _ (by omega)
        have x2 : IntKind.i64.wrap ((L.length : Int) - 1 - (i : Int)) = ((L.length - 1 - i : Nat) : Int) := by
          rw [show (L.length : Int) - 1 - (i : Int) = ((L.length - 1 - i : Nat) : Int) from by omega]; exact IntWalk.i64_in _ (by omega)
        have x3 : (L.length : Int) - 1 - (i : Int) = ((L.length - 1 - i : Nat) : Int) := by omega
        have x4 : ((L.length - 1 - i : Nat) : Int) < (L.length : Int) := by omega
        have HPu : Hid (pcells (L.reverse.take (i + 1)) = pcells (L.reverse.take i) ++ encP L[L.length - 1 - i]) := Lib.hid (by
          rw [pcells_push (by rw [List.length_reverse]; exact hlt), List.getElem_reverse])
        generalize L[L.length - 1 - i] = p at *
        generalize L.length - 1 - i = j at *
        go_wp2_with (at_builtin; refine wpList_append_srcO rfl (.tmp 37) (.tmp 46) 22 rfl w.heap.size 47 iP (.agg #[.int .i64 0, .int .i64 0]) 2 16 Try.underlying22 hiP hp0 hp1 hp2 rfl (by decide) _ i (pcells (L.reverse.take i)) rfl (HO.out.alloc _) _ 1 (encP p) rfl (new_srcP _ _ _) rfl (encP_one _) (by unfold maxLen; omega) (by omega) (by have := HB.out.size; rw [World.size_alloc]; omega) ?_)
        intro v2 w2 ho2 hg2
        have HO2 : Hid (w2.ownsRow w.heap.size 47 2 v2 (i + 1) (pcells (L.reverse.take (i + 1)))) := Lib.hid (by rw [HPu.out]; exact ho2)
        have HB2 : Hid (Below w.heap.size w w2) := Lib.hid ((HB.out.alloc HB.out.size _).grown hg2 (by have := HB.out.size; rw [World.size_alloc]; omega) (fun k hk => (own_block HO.out hk).1))
        clear ho2 hg2 HO HB
        go_wp2_with fail
        go_roundg (L.length - (i + 1))
        case measure => omega
        case rel => exact ⟨i + 1, rfl, by omega, by push_cast; rfl, HO2, HB2⟩
      · obtain rfl : i = L.length := by omega
        have HT : Hid (PI wr wr.heap.size u7 L.reverse) := Lib.hid (own_PI (by
          have h := HO.out
          rw [List.take_of_length_le (by rw [List.length_reverse]; omega)] at h
          rw [List.length_reverse]; exact h))
        clear HO
        go_wp2_with fail
        go_at_call 14
        refine (opoints_any (HP.out.keep HB.out) (by omega)).mono ?_
        rintro e w1 ⟨ua, rfl, ho, hb⟩
        have hsl := (srt_perm plt L).length_eq
        have HA : Hid (PI w1 w1.heap.size ua (srt plt L)) := Lib.hid (own_PI (by rw [hsl]; exact ho))
        have HT2 := Lib.hid (HT.out.keep hb)
        have HB1 := Lib.hid (below_after HB.out hb)
        clear ho hb HT HB
        obtain ⟨qa, ca, rfl, hca, hx⟩ := id HA.out
        clear hx
        go_wp2_with fail
        go_at_call 14
        refine (opoints_any HT2.out (by rw [List.length_reverse]; omega)).mono ?_
        rintro e w2 ⟨ub, rfl, ho, hb⟩
        have hsl2 := (srt_perm plt L.reverse).length_eq
        have hSS : srt plt L.reverse = srt plt L := srtd_uniq plt_sto ((srt_perm plt L.reverse).trans ((List.reverse_perm L).trans (srt_perm plt L).symm)) (srt_srtd plt_sto _) (srt_srtd plt_sto _)
        have HBb : Hid (PI w2 w2.heap.size ub (srt plt L)) := Lib.hid (by
          rw [← hSS]
          exact own_PI (by rw [hsl2]; exact ho))
        have HA2 := Lib.hid (HA.out.keep hb)
        have HB2 := Lib.hid (below_after HB1.out hb)
        clear ho hb HA HB1 HT2 hsl2 hSS
        have HSp := Lib.hid (srt_perm plt L)
        have HSs := Lib.hid (srt_srtd plt_sto L)
        generalize srt plt L = S at *
        obtain ⟨qb, cb, rfl, hcb, hx⟩ := id HBb.out
        clear hx
        have hd1 : ((S.length : Int) == (L.length : Int)) = true := by rw [hsl]; simp
        have HSL := Lib.hid hsl
        have hSL1 : S.length ≤ L.length := Nat.le_of_eq hsl
        have hSL2 : L.length ≤ S.length := Nat.le_of_eq hsl.symm
        clear hsl
        obtain ⟨W2, hW2⟩ : ∃ W, W = w2 := ⟨_, rfl⟩
        subst hW2
        have hd2 : ((S.length : Nat) : Int) = ((L.length : Nat) : Int) := by omega
        have HCt : Hid (∀ p, cnP p S L.length = cnP p L L.length) := Lib.hid (fun p => by rw [cnP_all HSp.out, HSL.out])
        go_wp2_with fail
        go_loopg [11] S.length (fun gk s wx => ∃ i : Nat, gk = S.length - i ∧ i ≤ S.length ∧ s = .int .i64 (i : Int) ∧ Hid (Below W2.heap.size W2 wx))
        case atStart => exact ⟨0, rfl, by omega, rfl, Lib.hid (Below.refl _ _)⟩
        case round =>
          obtain ⟨i, hgk, hi9, rfl, HW⟩ := hrel
          by_cases hlt : i < S.length
          · obtain ⟨g1, o1, rfl, c0', c1'⟩ := HA2.out.at hlt
            obtain ⟨g2, o2, rfl, d0', d1'⟩ := HBb.out.at hlt
            have c0 := cell_later HW.out c0'
            have c1 := cell_later HW.out c1'
            have d0 := cell_later HW.out d0'
            have d1 := cell_later HW.out d1'
            clear c0' c1' d0' d1'
            have y1 : (i : Int) < (S.length : Int) := by omega
            go_upto_region 13 with fail
            go_cut [124] (fun s wx => s = .bool false ∧ Hid (Below wr.heap.size wr wx))
            case first =>
              have hq := fun W => ane_ptP S[i] S[i] W
              rw [eqP_self] at hq
              by_cases h0 : i = 0
              · subst h0
                simp only [Nat.zero_mul, Nat.add_zero] at c0 c1 d0 d1
                generalize S[0] = p at *
                go_wp2_with fail
                go_quiet (fail)
                go_wp2_with fail
                go_meet
                exact ⟨rfl, Lib.hid (below_drewN (Below.refl _ _) _)⟩
              · obtain ⟨g3, o3, hq3, e0', e1'⟩ := HA2.out.at (i := i - 1) (by omega)
                cases hq3
                have e0 := cell_later HW.out e0'
                have e1 := cell_later HW.out e1'
                clear e0' e1'
                have hn := srt_next HSs.out hlt (by omega)
                have hd3 : decide (0 < i) = true := by simp; omega
                have hd4 : (0 : Int) < (i : Int) := by omega
                have x1 : IntKind.i64.wrap ((i : Int) - 1) = (i : Int) - 1 := IntWalk.i64_in _ (by omega)
                have x2 : ((i : Int) - 1).toNat = i - 1 := by omega
                have x3 : 0 ≤ (i : Int) - 1 := by omega
                have x4 : (i : Int) - 1 < (S.length : Int) := by omega
                generalize S[i] = p at *
                generalize S[i - 1] = r at *
                have hn1 : decide (p.1 < r.1) = false := by simp; omega
                by_cases hx : p.1 = r.1
                · have hn2 : (p.1 == r.1) = true := by simp [hx]
                  have hn3 : decide (p.2 < r.2) = false := by have := hn.2 hx; simp; omega
                  have HX := Lib.hid hx
                  clear hn hx
                  go_wp2_with fail
                  go_quiet (fail)
                  go_wp2_with fail
                  go_meet
                  exact ⟨rfl, Lib.hid (below_drewN (Below.refl _ _) _)⟩
                · have hn2 : (p.1 == r.1) = false := by simp [hx]
                  have HX := Lib.hid hx
                  clear hn hx
                  go_wp2_with fail
                  go_quiet (fail)
                  go_wp2_with fail
                  go_meet
                  exact ⟨rfl, Lib.hid (below_drewN (Below.refl _ _) _)⟩
            case rest =>
              obtain ⟨rfl, HW2⟩ := hcut
              have HW3 := Lib.hid (below_after HW.out HW2.out)
              clear HW HW2 c0 c1 d0 d1
              have HCi := Lib.hid (HCt.out S[i])
              go_wp2_with fail
              go_loopg [12, 13, 14] L.length (fun gk x y s wx => ∃ k : Nat, gk = L.length - k ∧ k ≤ L.length ∧ s = .int .i64 (k : Int) ∧ x = .int .i64 (cnP S[i] L k : Int) ∧ y = .int .i64 (cnP S[i] S k : Int) ∧ Hid (Below W2.heap.size W2 wx))
              case atStart => exact ⟨0, rfl, by omega, rfl, by rw [cnP_zero]; rfl, by rw [cnP_zero]; rfl, HW3⟩
              case round =>
                clear HW3
                obtain ⟨k, hgk, hk, rfl, rfl, rfl, HW⟩ := hrel
                by_cases hkl : k < L.length
                · obtain ⟨g4, o4, rfl, a0', a1'⟩ := HP.out.at hkl
                  obtain ⟨g5, o5, hq5, b0', b1'⟩ := HA2.out.at (i := k) (by omega)
                  cases hq5
                  obtain ⟨g6, o6, hq6, c0', c1'⟩ := HA2.out.at (i := i) hlt
                  cases hq6
                  have hB0 := below_after HB2.out HW.out
                  have a0 := cell_later hB0 a0'
                  have a1 := cell_later hB0 a1'
                  have v0 := cell_later HW.out b0'
                  have v1 := cell_later HW.out b1'
                  have c0 := cell_later HW.out c0'
                  have c1 := cell_later HW.out c1'
                  clear a0' a1' b0' b1' c0' c1' hB0
                  have hq1 := fun W => aeq_ptP L[k] S[i] W
                  have hq2 := fun W => aeq_ptP S[k] S[i] W
                  have HN1 := Lib.hid (cnP_step (p := S[i]) hkl)
                  have HN2 := Lib.hid (cnP_step (p := S[i]) (L := S) (k := k) (by omega))
                  have hl1 := cnP_le S[i] L k
                  have hl2 := cnP_le S[i] S k
                  have y2 : (k : Int) < (L.length : Int) := by omega
                  have y3 : (k : Int) < (S.length : Int) := by omega
                  generalize cnP S[i] L k = n1 at *
                  generalize cnP S[i] S k = n2 at *
                  generalize eqP L[k] S[i] = b1 at *
                  generalize eqP S[k] S[i] = b2 at *
                  generalize L[k] = p1 at *
                  generalize S[k] = p2 at *
                  generalize hSi : S[i] = p3 at *
                  have HSi := Lib.hid hSi
                  clear hSi
                  cases b1 <;> cases b2
                  all_goals
                    go_wp2_with fail
                    go_quiet (fail)
                    go_wp2_with fail
                    go_quiet (fail)
                    go_wp2_with fail
                    go_roundg (L.length - (k + 1))
                    case measure => omega
                    case rel => exact ⟨k + 1, rfl, by omega, by push_cast; rfl, by first | (rw [HN1.out]; simp; done) | (rw [HSi.out, HN1.out]; simp; done), by first | (rw [HN2.out]; simp; done) | (rw [HSi.out, HN2.out]; simp; done), Lib.hid (below_drewN HW.out _)⟩
                · obtain rfl : k = L.length := by omega
                  rw [HCi.out]
                  generalize cnP S[i] L L.length = n1 at *
                  have hz : ((n1 : Int) == (n1 : Int)) = true := by simp
                  go_wp2_with fail
                  go_roundg (S.length - (i + 1))
                  case measure => omega
                  case rel => exact ⟨i + 1, rfl, by omega, by push_cast; rfl, HW⟩
          · have HBa := Lib.hid (below_after HB2.out HW.out)
            clear HW HA2 HBb HCt HSp HSs HSL HB2 HP
            obtain ⟨W3, hW3⟩ : ∃ W, W = wr := ⟨_, rfl⟩
            subst hW3
            have HNi := Lib.hid (HN.out.keep HBa.out)
            have HMi := Lib.hid (HM.out.keep HBa.out)
            have HB0 : Hid (Below W3.heap.size W3 (W3.alloc (.cells #[] 3))) := Lib.hid (below_alloc _ _)
            go_wp2_with (at_builtin; refine wpList_append_srcO rfl (.tmp 156) (.tmp 157) 24 rfl W3.heap.size 3 i0 (.int .i64 0) 1 8 Try.underlying24 hi hz0 hz1 hz2 rfl (by decide) _ 0 [] rfl (own_zeroI (Nat.le_refl _) (hp_new rfl)) _ N1.length (icells N1) rfl (HNi.out.srcO.keep HB0.out) (icells_len N1) (icells_one _) (by unfold maxLen; omega) (by omega) HB0.out.size ?_)
            intro v1 w1 ho1 hg1
            have HO1 : Hid (w1.ownsRow W3.heap.size 3 1 v1 N1.length (icells N1)) := Lib.hid (by simpa using ho1)
            have HB1 : Hid (Below W3.heap.size W3 w1) := Lib.hid (HB0.out.grown hg1 HB0.out.size (fun k hk => by cases hk; exact Nat.le_refl _))
            clear ho1 hg1 HB0
            go_wp2_with (at_builtin; refine wpList_append_srcO rfl (.tmp 158) (.tmp 159) 24 rfl W3.heap.size 3 i0 (.int .i64 0) 1 8 Try.underlying24 hi hz0 hz1 hz2 rfl (by decide) _ N1.length (icells N1) rfl HO1.out _ M1.length (icells M1) rfl (HMi.out.srcO.keep HB1.out) (icells_len M1) (icells_one _) (by unfold maxLen; omega) (by omega) HB1.out.size ?_)
            intro v2 w2 ho2 hg2
            have HBo : Hid (IL w2 w2.heap.size v2 (N1 ++ M1)) := Lib.hid (own_IL (base := W3.heap.size) (by rw [List.length_append, icells_app]; exact ho2))
            have HBb : Hid (Below w.heap.size w w2) := Lib.hid (below_after HBa.out (HB1.out.grown hg2 HB1.out.size (fun k hk => (own_block HO1.out hk).1)))
            clear ho2 hg2 HO1 HB1 HNi HMi
            have hbl : (N1 ++ M1).length ≤ 120 := by rw [List.length_append]; omega
            have HBl := Lib.hid hbl
            clear hbl
            generalize hNM : N1 ++ M1 = NM at *
            have HNM := Lib.hid hNM
            clear hNM
            have HKn := Lib.hid (known4_yes w2)
            go_wp2_with fail
            refine Calls.mono HKn.out ?_
            rintro e w3 ⟨rfl, hb⟩
            have HB3 := Lib.hid (below_after HBb.out hb)
            have HBp := Lib.hid (HBo.out.keep hb)
            clear hb HBb HBo HKn
            go_wp2_with fail
            go_at_call 20
            refine (ouniq_any (HN.out.keep HB3.out) (by omega)).mono ?_
            rintro e w4 ⟨uu, U1, rfl, hu1, hl1, hi1', hb⟩
            have HU1 := Lib.hid hu1
            have HI1 := Lib.hid hi1'
            have HB4 := Lib.hid (below_after HB3.out hb)
            have HBq := Lib.hid (HBp.out.keep hb)
            clear hu1 hi1' hb HB3 HBp
            go_wp2_with fail
            go_at_call 20
            refine (ouniq_any (HM.out.keep HB4.out) (by omega)).mono ?_
            rintro e w5 ⟨uv, U2, rfl, hu2, hl2, hi2', hb⟩
            have HU2 := Lib.hid hu2
            have HI2 := Lib.hid hi2'
            have HI1b := Lib.hid (HI1.out.keep hb)
            have HB5 := Lib.hid (below_after HB4.out hb)
            have HBr := Lib.hid (HBq.out.keep hb)
            clear hu2 hi2' hb HB4 HBq HI1
            go_wp2_with fail
            go_at_call 26
            refine (merge_any HI1b.out HI2.out (by omega) (by omega)).mono ?_
            rintro e w6 ⟨um, rfl, ho, hb⟩
            have HMg := Lib.hid (own_IL ho)
            have hml := mrg_len ilt U1 U2
            have hml2 : (mrg ilt U1 U2).length ≤ 1000 := by omega
            have HB6 := Lib.hid (below_after HB5.out hb)
            have HBs := Lib.hid (HBr.out.keep hb)
            clear ho hb HB5 HBr HI1b HI2 hml
            go_wp2_with fail
            go_at_call 20
            refine (ouniq_any HMg.out hml2).mono ?_
            rintro e w7 ⟨ux, U3, rfl, hu3, hl3, hi3', hb⟩
            have HU3 := Lib.hid (unp_mrg HU1.out HU2.out hu3)
            have HI3 := Lib.hid hi3'
            have HB7 := Lib.hid (below_after HB6.out hb)
            have HBt := Lib.hid (HBs.out.keep hb)
            clear hu3 hi3' hb HB6 HBs HMg HU1 HU2
            go_wp2_with fail
            go_at_call 20
            refine (ouniq_any HBt.out (by have := HBl.out; omega)).mono ?_
            rintro e w8 ⟨uy, U4, rfl, hu4, hl4, hi4', hb⟩
            rw [← HNM.out] at hu4
            have HE := Lib.hid (HU3.out.eq hu4)
            have HI4 := Lib.hid hi4'
            have HI3b := Lib.hid (HI3.out.keep hb)
            have HB8 := Lib.hid (below_after HB7.out hb)
            have hl3b : U3.length ≤ 1000 := by omega
            have hl4b : U4.length ≤ 1000 := by have := HBl.out; omega
            clear hu4 hi4' hb HB7 HBt HU3 hl3 hl4 hml2
            go_wp2_with fail
            go_at_call 17
            refine (ints_any HI3b.out HI4.out (by omega) (by omega) HE.out).mono ?_
            rintro e w9 ⟨rfl, hb⟩
            have HB9 := Lib.hid (below_after HB8.out hb)
            clear hb
            go_wp2_with fail
            go_ret
            exact ⟨rfl, HB9.out⟩
end Go.Proofs.Ytmmahejdpanmjaa
