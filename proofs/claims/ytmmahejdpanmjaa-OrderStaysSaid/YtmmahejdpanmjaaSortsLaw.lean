/- The walk of the law OrderSorts. -/
import Derived.Test.YtmmahejdpanmjaaRPoints
import Derived.Test.YtmmahejdpanmjaaRRows
import Derived.Test.YtmmahejdpanmjaaUniq
namespace Go.Proofs.Ytmmahejdpanmjaa
open Go.RowKit Go.Sort

theorem IL.upto {W : World} {gt : Nat} {q : Option Addr} {n c : Nat} {L : List Int} (h : IL W gt (.slice q n c) L) (m : Nat) : IL W gt (.slice q (min n m) c) (L.take m) := by
  have hn := h.len
  obtain ⟨q1, c1, e, hc, hi⟩ := h
  cases e
  refine ⟨q, c, by rw [List.length_take, Nat.min_comm], by rw [List.length_take]; omega, fun i hi' => ?_⟩
  rw [List.length_take] at hi'
  obtain ⟨g, o, e, hne, hc⟩ := hi i (by omega)
  exact ⟨g, o, e, hne, by rw [List.getElem_take]; exact hc⟩
theorem PI.upto {W : World} {gt : Nat} {q : Option Addr} {n c : Nat} {L : List (Int × Int)} (h : PI W gt (.slice q n c) L) (m : Nat) : PI W gt (.slice q (min n m) c) (L.take m) := by
  have hn := h.len
  obtain ⟨q1, c1, e, hc, hi⟩ := h
  cases e
  refine ⟨q, c, by rw [List.length_take, Nat.min_comm], by rw [List.length_take]; omega, fun i hi' => ?_⟩
  rw [List.length_take] at hi'
  obtain ⟨g, o, e, hne, hc⟩ := hi i (by omega)
  exact ⟨g, o, e, hne, by rw [List.getElem_take]; exact hc⟩
theorem RL.upto {W : World} {q : Option Addr} {n c : Nat} {R : List (List Int)} (h : RL W (.slice q n c) R) (m : Nat) : RL W (.slice q (min n m) c) (R.take m) := by
  obtain ⟨q1, c1, e, hc, hi⟩ := h
  cases e
  refine ⟨q, c, by rw [List.length_take, Nat.min_comm], by rw [List.length_take]; omega, fun i hi' => ?_⟩
  rw [List.length_take] at hi'
  obtain ⟨g, o, e, hq, hc, hr⟩ := hi i (by omega)
  exact ⟨g, o, e, hq, hc, by rw [List.getElem_take]; exact hr⟩
theorem infoS : (Try.prog.info? 24).map (fun i => (i.zero, i.size, i.bytes)) = some (some (.slice none 0 0), 1, 24) := by kernel_rfl
/-- The first rows, cut. -/
structure CutS (w W : World) (u : Value) (R : List (List Int)) (i : Nat) (vs : List Value) : Prop where
  own : W.ownsRow w.heap.size 24 1 u i vs
  len : vs.length = i
  il : ∀ j (h : j < vs.length), ∃ hj : j < R.length, IL w w.heap.size vs[j] (R[j].take 20)
  below : Below w.heap.size w W
theorem CutS.next {w W V : World} {u v2 x : Value} {R : List (List Int)} {i : Nat} {vs : List Value} (h : CutS w W u R i vs) (hi : i < R.length) (ho : V.ownsRow w.heap.size 24 1 v2 (i + 1) (vs ++ [x])) (hg : W.grownBy V u.ownBlock)
    (hx : IL w w.heap.size x (R[i].take 20)) : CutS w V v2 R (i + 1) (vs ++ [x]) := by
  refine ⟨ho, by rw [List.length_append, h.len]; rfl, fun j hj => ?_, h.below.grown hg h.below.size (fun q hq => (own_block h.own hq).1)⟩
  by_cases e : j < vs.length
  · rw [List.getElem_append_left e]; exact h.il j e
  · have hl := h.len
    rw [List.length_append, List.length_singleton] at hj
    obtain rfl : j = i := by omega
    rw [List.getElem_append_right (by omega)]
    simp only [List.getElem_singleton]
    exact ⟨hi, hx⟩
theorem CutS.rl {w W : World} {u : Value} {R : List (List Int)} {vs : List Value} (h : CutS w W u R R.length vs) : RL W u (R.map (List.take 20)) := by
  have hl := h.len
  have ho := h.own
  rcases id h.own.2 with ⟨rfl, hz⟩ | ⟨g, cap, cur, rfl, _, _, hc, _⟩
  · have hz : R = [] := List.eq_nil_of_length_eq_zero hz
    subst hz
    exact ⟨none, 0, rfl, Nat.le_refl _, fun i hi => absurd hi (by simp)⟩
  · refine ⟨_, cap, by rw [List.length_map], by rw [List.length_map]; exact hc, fun i hi => ?_⟩
    rw [List.length_map] at hi
    obtain ⟨hj, hil⟩ := h.il i (by omega)
    have hcell := ho.cells (g := g) rfl i vs[i] (List.getElem?_eq_getElem (by omega))
    rw [add_at] at hcell
    exact ⟨g, 0, vs[i], rfl, hcell, by rw [List.getElem_map]; exact hil.keep h.below⟩
set_option maxRecDepth 100000 in
theorem lsame_any {w : World} {ga gb : Nat} {va vb : Value} {A B : List (Int × Int)} (hA : PI w ga va A) (hB : PI w gb vb B) (h : A = B) (hl : A.length ≤ 1000) : Calls Try.prog 13 #[va, vb] w fun e w' => e = .returned (.bool true) ∧ Below w.heap.size w w' := by
  have HA := Lib.hid hA
  have HB := Lib.hid hB
  have HE := Lib.hid h
  obtain ⟨qa, ca, rfl, _, hx⟩ := id hA
  clear hx
  obtain ⟨qb, cb, rfl, _, hx⟩ := id hB
  clear hx hA hB h
  go_enter Try.func13, Try.ntmps13
  go_wp2_with fail
  go_at_call 16
  refine (ofs_anyP HA.out hl).mono ?_
  rintro e w1 ⟨u, rfl, ho, hb⟩
  have HO := Lib.hid (own_PI ho)
  have HW := Lib.hid hb
  clear ho hb
  go_wp2_with fail
  go_at_call 44
  refine (rsame_anyP HO.out (HB.out.keep HW.out) HE.out (by omega)).mono ?_
  rintro e w2 ⟨rfl, hb⟩
  have HW2 := Lib.hid (below_after HW.out hb)
  clear hb
  go_wp2_with fail
  go_ret
  exact ⟨rfl, HW2.out⟩
theorem keepGr {W w1 w2 : World} {row : Option Nat} {g o : Nat} {v : Value} (h : w1.cell? ⟨g, o, none⟩ = some v ∧ W.grownBy w1 row) (hg : w1.grownBy w2 row) (hne : some g ≠ row) : w2.cell? ⟨g, o, none⟩ = some v ∧ W.grownBy w2 row :=
  ⟨hg.cell h.1 hne, h.2.trans hg⟩
theorem src_new1 (W : World) (T : TypeId) (x : Value) : SrcO (W.alloc (.cells #[x] T)) (.slice (some ⟨W.heap.size, 0, none⟩) 1 1) 1 [x] := by
  refine ⟨_, _, rfl, fun _ => ⟨_, _, rfl, fun j u hj => ?_⟩⟩
  match j, hj with
  | 0, hj => simp at hj; subst hj; rw [add_at]; go_simp
theorem one_slice (q : Option Addr) (n c : Nat) : ∀ u ∈ [Value.slice q n c], u.oneCell' = true := by
  intro u hu; simp at hu; subst hu; rfl
set_option maxRecDepth 100000 in
set_option maxHeartbeats 4000000 in
theorem sortslaw_yes {w : World} {ga gn : Nat} {vp vr vn : Value} {P : List (Int × Int)} {R : List (List Int)} {N : List Int} (hP : PI w ga vp P) (hR : RL w vr R) (hN : IL w gn vn N) (lR : ∀ x ∈ R, x.length ≤ 9223372036854775807) :
    Calls Try.prog 3 #[vp, vr, vn] w fun e w' => e = .returned (.bool true) ∧ Below w.heap.size w w' := by
  have hmx : Try.prog.follows .mixedOrders = true := by kernel_rfl
  obtain ⟨iS, hiS, hs0, hs1, hs2⟩ := info_parts infoS
  obtain ⟨qp, cp, rfl, hcp, hx⟩ := id hP
  clear hx
  obtain ⟨qr, cr, rfl, hcr, hx⟩ := id hR
  clear hx
  obtain ⟨qn, cn, rfl, hcn, hx⟩ := id hN
  clear hx
  have HP := Lib.hid (hP.upto 60)
  have HR := Lib.hid (hR.upto 60)
  have HN := Lib.hid (hN.upto 60)
  clear hP hR hN
  have e1 : ((P.length : Nat) : Int) ≤ (cp : Int) := by omega
  have e2 : ((R.length : Nat) : Int) ≤ (cr : Int) := by omega
  have e3 : ((N.length : Nat) : Int) ≤ (cn : Int) := by omega
  go_enter Try.func3, Try.ntmps3
  go_upto_region 1 with fail
  go_cut [0, 1, 2] (fun a b c wx => a = .slice qp (P.take 60).length cp ∧ b = .slice qr (R.take 60).length cr ∧ c = .slice qn (N.take 60).length cn ∧ Hid (Below w.heap.size w wx))
  case first =>
    clear HP HR HN
    go_region
    go_wp2_with fail
    all_goals
      go_meet
      exact ⟨by congr 1; rw [List.length_take]; omega, by congr 1; rw [List.length_take]; omega, by congr 1; rw [List.length_take]; omega, Lib.hid (Below.refl _ _).drew⟩
  case rest =>
    obtain ⟨rfl, rfl, rfl, HW⟩ := hcut
    rw [show min P.length 60 = (P.take 60).length from by rw [List.length_take]; omega] at HP
    rw [show min R.length 60 = (R.take 60).length from by rw [List.length_take]; omega] at HR
    rw [show min N.length 60 = (N.take 60).length from by rw [List.length_take]; omega] at HN
    have lP : (P.take 60).length ≤ 60 := by rw [List.length_take]; omega
    have lQ : (R.take 60).length ≤ 60 := by rw [List.length_take]; omega
    have lN : (N.take 60).length ≤ 60 := by rw [List.length_take]; omega
    have HLR : Hid (∀ x ∈ R.take 60, x.length ≤ 9223372036854775807) := Lib.hid (fun x hx => lR x (List.mem_of_mem_take hx))
    clear lR e1 e2 e3
    generalize P.take 60 = P1 at *
    generalize R.take 60 = R1 at *
    generalize N.take 60 = N1 at *
    clear hcp hcr hcn
    go_wp2_with fail
    go_loopg [7, 8] R1.length (fun gk u s wx => ∃ (i : Nat) (vs : List Value), gk = R1.length - i ∧ i ≤ R1.length ∧ s = .int .i64 (i : Int) ∧ Hid (CutS w wx u R1 i vs))
    case atStart => exact ⟨0, [], rfl, by omega, rfl, Lib.hid ⟨⟨rfl, .inl ⟨rfl, rfl⟩⟩, rfl, fun j h => absurd h (by simp), HW.out⟩⟩
    case round =>
      clear HW
      obtain ⟨i, vs, hgk, hi9, rfl, HC⟩ := hrel
      by_cases hlt : i < R1.length
      · obtain ⟨g, o, ev, rfl, c0, IA⟩ := HR.out.at hlt
        have hgl : g < w.heap.size := World.block_lt_of_cell? w _ c0
        have c0 := cell_later HC.out.below c0
        obtain ⟨qe, ce, rfl, hce, hx⟩ := id IA
        clear hx
        have HIA := Lib.hid (IA.upto 20)
        have hlA := HLR.out R1[i] (List.getElem_mem _)
        have HOw := Lib.hid HC.out.own
        have HBw := Lib.hid HC.out.below
        have hgn : some g ≠ u7.ownBlock := fun e => by
          have := (own_block HOw.out e.symm).1
          omega
        have HN : Hid (∀ (wB : World) (v2 x : Value), wB.ownsRow w.heap.size 24 1 v2 (i + 1) (vs ++ [x]) → wr.grownBy wB u7.ownBlock → IL w w.heap.size x (R1[i].take 20) → CutS w wB v2 R1 (i + 1) (vs ++ [x])) := Lib.hid (fun wB v2 x ho hg hx => HC.out.next hlt ho hg hx)
        have x6 : ((i : Nat) : Int) < ((R1.length : Nat) : Int) := by omega
        have x7 : ((R1[i].length : Nat) : Int) ≤ (ce : Int) := by omega
        clear HC IA
        generalize R1[i] = A at *
        by_cases h20 : A.length ≤ 20
        · have h20' : ((A.length : Nat) : Int) ≤ 20 := by omega
          have hm1 : min ((A.length : Nat) : Int) 20 = ((A.length : Nat) : Int) := by omega
          have hm2 : min 20 ((A.length : Nat) : Int) = ((A.length : Nat) : Int) := by omega
          have x8 : (0 : Int) ≤ ((A.length : Nat) : Int) := by omega
          have x9 : ∀ W, (Builtin.min_ #[3, 3] 3 #[.int .i64 (A.length : Int), .int .i64 20]).run Try.prog W = .ok (.int .i64 (A.length : Int)) W := by
            intro W
            go_simp
            omega
          go_wp2_with fail
          go_region_held3 (fun w' => w'.cell? ⟨g, o + i, none⟩ = some (.slice qe A.length ce) ∧ wr.grownBy w' u7.ownBlock) (first | assumption | exact ⟨c0, grown_drew _ _⟩ | exact keepGr (by assumption) (World.grownBy_alloc _ _ _) hgn) (first | ((refine step_append_srcO (by rfl) (.tmp 31) (.tmp 43) 23 (by rfl) w.heap.size 24 iS (.slice none 0 0) 1 24 Try.underlying23 hiS hs0 hs1 hs2 (by rfl) (by decide) _ i vs (by rfl) (World.ownsRow.alloc (w := wr.drew) HOw.out _) _ 1 [.slice qe A.length ce] (by rfl) (src_new1 _ _ _) (by rfl) (one_slice _ _ _) (by unfold maxLen; omega) (by omega) (by have := HBw.out.size; first | exact this | (simp; done) | (simp; omega)) ?_); intro v2 wB hoB hgB; have hS6 := keepGr (by assumption) hgB hgn) | fail)
          have HN2 := Lib.hid (HN.out wB v2 (.slice qe A.length ce) hoB hS6.2 (by have := HIA.out; rw [Nat.min_eq_left h20] at this; exact this))
          clear hS6 hoB hgB
          go_wp2_with fail
          go_roundg (R1.length - (i + 1))
          case measure => omega
          case rel => exact ⟨i + 1, _, rfl, by omega, by push_cast; rfl, HN2⟩
        · have h20' : ¬ ((A.length : Nat) : Int) ≤ 20 := by omega
          have hm1 : min ((A.length : Nat) : Int) 20 = 20 := by omega
          have hm2 : min 20 ((A.length : Nat) : Int) = 20 := by omega
          have h20c : (20 : Int) ≤ (ce : Int) := by omega
          go_wp2_with fail
          go_region_held3 (fun w' => w'.cell? ⟨g, o + i, none⟩ = some (.slice qe A.length ce) ∧ wr.grownBy w' u7.ownBlock) (first | assumption | exact ⟨c0, grown_drew _ _⟩ | exact keepGr (by assumption) (World.grownBy_alloc _ _ _) hgn) (first | ((refine step_append_srcO (by rfl) (.tmp 31) (.tmp 43) 23 (by rfl) w.heap.size 24 iS (.slice none 0 0) 1 24 Try.underlying23 hiS hs0 hs1 hs2 (by rfl) (by decide) _ i vs (by rfl) (World.ownsRow.alloc (w := wr.drew) HOw.out _) _ 1 [.slice qe 20 ce] (by rfl) (src_new1 _ _ _) (by rfl) (one_slice _ _ _) (by unfold maxLen; omega) (by omega) (by have := HBw.out.size; first | exact this | (simp; done) | (simp; omega)) ?_); intro v2 wB hoB hgB; have hS6 := keepGr (by assumption) hgB hgn) | fail)
          have HN2 := Lib.hid (HN.out wB v2 (.slice qe 20 ce) hoB hS6.2 (by have := HIA.out; rw [Nat.min_eq_right (by omega)] at this; exact this))
          clear hS6 hoB hgB
          go_wp2_with fail
          go_roundg (R1.length - (i + 1))
          case measure => omega
          case rel => exact ⟨i + 1, _, rfl, by omega, by push_cast; rfl, HN2⟩
      · obtain rfl : i = R1.length := by omega
        have HRc := Lib.hid HC.out.rl
        have HB1 := Lib.hid HC.out.below
        have hcl : (R1.map (List.take 20)).length ≤ 60 := by rw [List.length_map]; exact lQ
        have HLc : Hid (∀ x ∈ R1.map (List.take 20), x.length ≤ 9223372036854775807) := Lib.hid (fun x hx => by
          obtain ⟨y, _, rfl⟩ := List.mem_map.1 hx
          rw [List.length_take]; omega)
        clear HC HR HLR
        generalize R1.map (List.take 20) = C at *
        obtain ⟨qc, cc, rfl, hcc, hx⟩ := id HRc.out
        clear hx
        obtain ⟨W1, hW1⟩ : ∃ W, W = wr := ⟨_, rfl⟩
        subst hW1
        go_wp2_with fail
        go_loopg [9] (C.length - 1) (fun gk s wx => ∃ i : Nat, gk = C.length - i ∧ 1 ≤ i ∧ s = .int .i64 (i : Int) ∧ Hid (Below W1.heap.size W1 wx))
        case atStart => exact ⟨1, rfl, by omega, rfl, Lib.hid (Below.refl _ _)⟩
        case round =>
          obtain ⟨i, hgk, hi1, rfl, HW⟩ := hrel
          by_cases hlt : i < C.length
          · obtain ⟨g, o, ea, rfl, c0', IA⟩ := HRc.out.at (i := i - 1) (by omega)
            obtain ⟨g9, o9, eb, hq9, c1', IB⟩ := HRc.out.at hlt
            cases hq9
            have c0 := cell_later HW.out c0'
            have c1 := cell_later HW.out c1'
            have HIA := Lib.hid (IA.keep HW.out)
            have HIB := Lib.hid (IB.keep HW.out)
            have lA := HLc.out C[i - 1] (List.getElem_mem _)
            have lB := HLc.out C[i] (List.getElem_mem _)
            clear c0' c1' IA IB
            have x1 : IntKind.i64.wrap ((i : Int) - 1) = (i : Int) - 1 := IntWalk.i64_in _ (by omega)
            have x2 : ((i : Int) - 1).toNat = i - 1 := by omega
            have x3 : 0 ≤ (i : Int) - 1 := by omega
            have x4 : (i : Int) - 1 < (C.length : Int) := by omega
            have x5 : (i : Int) < (C.length : Int) := by omega
            generalize C[i - 1] = A at *
            generalize C[i] = B at *
            have KC : Hid (∀ (d : Nat) (os : Array Obj), Calls Try.prog 10 #[ea, eb] (grow (redrawn wr d) os) fun e w'' => e = .returned (.int .i64 (cmpL A B)) ∧ ∃ p : Regrown, w'' = grow (redrawn wr p.d) p.os) :=
              Lib.hid (fun d os => Calls.regrown_of ((ocmp_any (HIA.out.keep (below_regrown wr d os)) (HIB.out.keep (below_regrown wr d os)) lA lB).mono (fun e w' h => h)))
            have KD : Hid (∀ (d : Nat) (os : Array Obj), Calls Try.prog 11 #[ea, eb] (grow (redrawn wr d) os) fun e w'' => e = .returned (.int .i64 (cmpL A B)) ∧ ∃ p : Regrown, w'' = grow (redrawn wr p.d) p.os) :=
              Lib.hid (fun d os => Calls.regrown_of ((rcmp_any (HIA.out.keep (below_regrown wr d os)) (HIB.out.keep (below_regrown wr d os)) lA lB).mono (fun e w' h => h)))
            generalize cmpL A B = cv at *
            have r0 := fun d os => cell_regrown c0 d os
            have r1 := fun d os => cell_regrown c1 d os
            have hcv : (cv == cv) = true := by simp
            clear c0 c1 lA lB HIA HIB
            go_wp2_with fail
            refine wp_region_quiet_below (by assumption) (by kernel_rfl) ?_
            repeat (go_big_quiet_step (first | (with_reducible exact KC.out _ _) | (with_reducible exact KD.out _ _)))
            refine wpQuiet_nil ?_
            rintro _ ⟨pg, rfl⟩
            have hb9 := Lib.hid (below_regrown wr pg.d pg.os)
            clear r0 r1 KC KD
            generalize grow (redrawn wr pg.d) pg.os = W2 at *
            go_wp2_with fail
            go_roundg (C.length - (i + 1))
            case measure => omega
            case rel => exact ⟨i + 1, rfl, by omega, by push_cast; rfl, Lib.hid (below_after HW.out hb9.out)⟩
          · have HBa := Lib.hid (below_after HB1.out HW.out)
            have HRd := Lib.hid (HRc.out.keep HW.out)
            clear HW HRc HB1
            have HKn := Lib.hid (known4_yes wr)
            go_wp2_with fail
            refine Calls.mono HKn.out ?_
            rintro e w2 ⟨rfl, hb⟩
            have HBb := Lib.hid (below_after HBa.out hb)
            have HRe := Lib.hid (HRd.out.keep hb)
            clear hb HBa HRd HKn
            go_wp2_with fail
            go_at_call 14
            refine (opoints_any (HP.out.keep HBb.out) (by omega)).mono ?_
            rintro e w3 ⟨up, rfl, ho, hb⟩
            have hsl := (srt_perm plt P1).length_eq
            have HPt : Hid (PI w3 w3.heap.size up (srt plt P1)) := Lib.hid (own_PI (by rw [hsl]; exact ho))
            have HBc := Lib.hid (below_after HBb.out hb)
            have HRf := Lib.hid (HRe.out.keep hb)
            have hsl' : (srt plt P1).length ≤ 60 := by omega
            clear ho hb HBb HRe hsl
            go_wp2_with fail
            go_at_call 16
            refine (ofs_anyP (HP.out.keep HBc.out) (by omega)).mono ?_
            rintro e w4 ⟨uo, rfl, ho, hb⟩
            have HOf := Lib.hid (own_PI ho)
            have HPt2 := Lib.hid (HPt.out.keep hb)
            have HBd := Lib.hid (below_after HBc.out hb)
            have HRg := Lib.hid (HRf.out.keep hb)
            clear ho hb HPt HBc HRf
            go_wp2_with fail
            go_at_call 15
            refine (rpoints_any HOf.out (by omega)).mono ?_
            rintro e w5 ⟨ur, X, rfl, hperm, hsrt, ho, hb⟩
            have HEq : Hid (srt plt P1 = X) := Lib.hid (srtd_uniq plt_sto ((srt_perm plt P1).trans hperm.symm) (srt_srtd plt_sto P1) hsrt)
            have HXp := Lib.hid (own_PI ho)
            have HPt3 := Lib.hid (HPt2.out.keep hb)
            have HBe := Lib.hid (below_after HBd.out hb)
            have HRh := Lib.hid (HRg.out.keep hb)
            clear ho hb HPt2 HOf HBd HRg hperm hsrt
            go_wp2_with fail
            go_at_call 13
            refine (lsame_any HPt3.out HXp.out HEq.out (by omega)).mono ?_
            rintro e w6 ⟨rfl, hb⟩
            have HBf := Lib.hid (below_after HBe.out hb)
            have HRi := Lib.hid (HRh.out.keep hb)
            clear hb HPt3 HXp HEq HBe HRh hsl'
            go_wp2_with fail
            go_at_call 18
            refine (rows_any HRi.out (by omega) HLc.out).mono ?_
            rintro e w7 ⟨uw, rfl, ho, hb⟩
            have hsl := (srt_perm (rlt C) (nums C.length)).length_eq
            rw [nums_len] at hsl
            have HWi : Hid (IL w7 w7.heap.size uw (srt (rlt C) (nums C.length))) := Lib.hid (own_IL (by rw [hsl]; exact ho))
            have hsl' : (srt (rlt C) (nums C.length)).length ≤ 60 := by omega
            have HBg := Lib.hid (below_after HBf.out hb)
            have HRj := Lib.hid (HRi.out.keep hb)
            clear ho hb HBf HRi hsl
            go_wp2_with fail
            go_at_call 19
            refine (rrows_any HRj.out (by omega) HLc.out).mono ?_
            rintro e w8 ⟨ux, X2, rfl, hperm, hsrt, ho, hb⟩
            have HEq2 := Lib.hid (rows_eq C C.length hperm hsrt)
            have HX2 := Lib.hid (own_IL ho)
            have HWj := Lib.hid (HWi.out.keep hb)
            have HBh := Lib.hid (below_after HBg.out hb)
            clear ho hb hperm hsrt HWi HBg HRj
            go_wp2_with fail
            go_at_call 17
            refine (ints_any HWj.out HX2.out (by omega) (by rw [← HEq2.out]; omega) HEq2.out).mono ?_
            rintro e w9 ⟨rfl, hb⟩
            have HBi := Lib.hid (below_after HBh.out hb)
            clear hb HWj HX2 HEq2 HBh hsl'
            go_wp2_with fail
            go_at_call 20
            refine (ouniq_any (HN.out.keep HBi.out) (by omega)).mono ?_
            rintro e w10 ⟨uu, U1, rfl, hu1, hl1, hi1', hb⟩
            have HU1 := Lib.hid hu1
            have HI1 := Lib.hid hi1'
            have HBj := Lib.hid (below_after HBi.out hb)
            clear hu1 hi1' hb HBi
            go_wp2_with fail
            go_at_call 21
            refine (runiq_any (HN.out.keep HBj.out) (by omega)).mono ?_
            rintro e w11 ⟨uv, U2, rfl, hu2, hl2, hi2', hb⟩
            have HE3 := Lib.hid (HU1.out.eq hu2)
            have HI2 := Lib.hid hi2'
            have HI1b := Lib.hid (HI1.out.keep hb)
            have HBk := Lib.hid (below_after HBj.out hb)
            clear hu2 hi2' hb HBj HI1
            go_wp2_with fail
            go_at_call 17
            refine (ints_any HI1b.out HI2.out (by omega) (by omega) HE3.out).mono ?_
            rintro e w12 ⟨rfl, hb⟩
            have HBl := Lib.hid (below_after HBk.out hb)
            clear hb
            go_wp2_with fail
            go_ret
            exact ⟨rfl, HBl.out⟩
end Go.Proofs.Ytmmahejdpanmjaa
