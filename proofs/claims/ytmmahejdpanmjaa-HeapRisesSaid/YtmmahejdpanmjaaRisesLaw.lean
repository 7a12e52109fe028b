/- The walk of the law HeapRises. -/
import Derived.Test.YtmmahejdpanmjaaHeapG
import Derived.Test.YtmmahejdpanmjaaHeapC
import Derived.Test.YtmmahejdpanmjaaKnown5
import Derived.Deep.QuietTactic
namespace Go.Proofs.Ytmmahejdpanmjaa
open Go.RowKit Go.Sort Go.Deep

/-- While the heap is emptied: what is left of the sorted row. -/
structure RsI (w : World) (B3 hb g mb : Nat) (u : Value) (S : List E3) (i : Nat) (V : World) : Prop where
  below : Below w.heap.size w V
  own : V.ownsRow B3 59 3 u S.length (enCells S)
  lts : hb < B3 ∧ g < B3 ∧ mb < B3 ∧ w.heap.size ≤ hb ∧ w.heap.size ≤ g ∧ w.heap.size ≤ mb
  hp : ∃ P, HpI V w.heap.size hb g mb P ((S.length : Int) - i) ∧ hO P ∧ ∀ x, cntE P x = ((S.drop i).count x : Int)
theorem RsI.keep {w V V1 : World} {B3 hb g mb : Nat} {u : Value} {S : List E3} {i : Nat} (h : RsI w B3 hb g mb u S i V) (k : Below V.heap.size V V1) : RsI w B3 hb g mb u S i V1 := by
  obtain ⟨P, H, o, c⟩ := h.hp
  exact ⟨below_after h.below k, ownk k h.own, h.lts, P, H.keep k, o, c⟩
theorem RsI.pop {w V : World} {B3 hb g mb : Nat} {u : Value} {S : List E3} {i : Nat} (h : RsI w B3 hb g mb u S i V) (hi : i < S.length) (hs : S.Pairwise (fun p q => ltE q p = false)) (hS : S.length ≤ 1000) :
    Calls Try.prog 29 #[.pointer (some ⟨hb, 0, none⟩)] V fun en w' => en = .returned (.tuple #[encE3 S[i], .bool true]) ∧ RsI w B3 hb g mb u S (i + 1) w' := by
  obtain ⟨P, H, o, c⟩ := h.hp
  obtain ⟨f0, f1⟩ := first_is H.pos o hs hi c
  refine (hpop_any H (by omega)).mono ?_
  rintro en w' (⟨e, _⟩ | ⟨_, rfl, hf, H1⟩)
  · subst e; simp at f0
  · have hl := h.lts
    refine ⟨by rw [f1], hf.belowed h.below hl.2.2.2.1 hl.2.2.2.2.1 hl.2.2.2.2.2, ?_, hl, takF P 0, ?_, takF_ord o f0, fun x => ?_⟩
    · have ho := h.own
      rcases id ho.2 with ⟨rfl, _⟩ | ⟨k, cap, cur, rfl, hk, hh, _⟩
      · exact ⟨ho.1, .inl ⟨rfl, by have := ho.2; rcases this with ⟨_, z⟩ | ⟨_, _, _, e, _⟩; exact z; cases e⟩⟩
      · exact own_of ho (hf.block k (Array.getElem?_eq_some_iff.1 hh).1 (by omega) (by omega) (by omega))
    · have : (S.length : Int) - ((i + 1 : Nat) : Int) = (S.length : Int) - i - 1 := by push_cast; omega
      rw [this]; exact H1
    · rw [takF_cnt f0, f1, c, drop_cnt hi]
theorem hlen_any {W : World} {B hb g mb : Nat} {P : List Pile} {cnt : Int} (h : HpI W B hb g mb P cnt) :
    Calls Try.prog 35 #[.pointer (some ⟨hb, 0, none⟩)] W fun en w' => en = .returned (.int .i64 cnt) ∧ w' = W := by
  have c2 := h.c2
  clear h
  go_enter Try.func35, Try.ntmps35
  go_wp2_with fail
  go_ret
  exact ⟨rfl, rfl⟩
theorem RsI.row {w V : World} {B3 hb g mb : Nat} {u : Value} {S : List E3} {i : Nat} (h : RsI w B3 hb g mb u S i V) : ∃ q c, u = .slice q S.length c ∧ ∀ j (hj : j < S.length), ∃ k, q = some ⟨k, 0, none⟩ ∧ V.cell? ⟨k, j * 3, none⟩ = some (.int .i64 S[j].1) ∧ V.cell? ⟨k, j * 3 + 1, none⟩ = some (.int .i64 S[j].2.1) ∧ V.cell? ⟨k, j * 3 + 2, none⟩ = some (.int .i64 S[j].2.2) := by
  have ho := h.own
  rcases id ho.2 with ⟨rfl, hz⟩ | ⟨k, cap, cur, rfl, _⟩
  · exact ⟨none, 0, by rw [hz], fun j hj => by omega⟩
  · refine ⟨_, cap, rfl, fun j hj => ⟨k, rfl, ?_⟩⟩
    have hc := ho.cells (g := k) rfl
    have a0 := flatMap_at encE3l_len S j 0 hj (by omega)
    have a1 := flatMap_at encE3l_len S j 1 hj (by omega)
    have a2 := flatMap_at encE3l_len S j 2 hj (by omega)
    have q0 := hc _ _ (show (enCells S)[j * 3 + 0]? = some (.int .i64 S[j].1) from a0)
    have q1 := hc _ _ (show (enCells S)[j * 3 + 1]? = some (.int .i64 S[j].2.1) from a1)
    have q2 := hc _ _ (show (enCells S)[j * 3 + 2]? = some (.int .i64 S[j].2.2) from a2)
    rw [add_at, Nat.zero_add] at q0 q1 q2
    exact ⟨q0, q1, q2⟩
theorem neq_E_self (a : E3) (w : World) : Sem.run Try.prog (binOp .neq 59 (encE3 a) (encE3 a)) w = .ok (.bool false) w := by
  have h := equal_E a a w
  rw [show eqE a a = true from by simp [eqE]] at h
  unfold encE3 at *
  simp only [binOp]
  simp [Op.equal, Op.maxDepth, h]
theorem EI.upto {W : World} {hb g mb : Nat} {q : Option Addr} {n c : Nat} {L : List E3} (h : EI W hb g mb (.slice q n c) L) (m : Nat) : EI W hb g mb (.slice q (min n m) c) (L.take m) := by
  obtain ⟨q1, c1, e, hc, hi⟩ := h
  cases e
  refine ⟨q, c, by rw [List.length_take, Nat.min_comm], by rw [List.length_take]; omega, fun i hi' => ?_⟩
  rw [List.length_take] at hi'
  obtain ⟨k, o, e, h1, h2, h3, c0⟩ := hi i (by omega)
  exact ⟨k, o, e, h1, h2, h3, by rw [List.getElem_take]; exact c0⟩
set_option maxRecDepth 100000 in
set_option maxHeartbeats 4000000 in
theorem riseslaw_yes {w : World} {v : Value} {L : List E3} (hI : EI w w.heap.size w.heap.size w.heap.size v L) :
    Calls Try.prog 8 #[v] w fun e w' => e = .returned (.bool true) ∧ Below w.heap.size w w' := by
  have HIT := hI
  obtain ⟨q, c, rfl, hc, hx⟩ := hI
  have HI := Lib.hid (EI.upto HIT 100)
  clear hx HIT
  have hmx : Try.prog.follows .mixedOrders = true := by kernel_rfl
  go_enter Try.func8, Try.ntmps8
  go_upto_region 2 with fail
  have hmn : (min (L.length : Int) 100).toNat = (L.take 100).length := by rw [List.length_take]; omega
  have hmm : min L.length 100 = (L.take 100).length := by rw [List.length_take]; omega
  rw [hmn]
  rw [hmm] at HI
  have hM : (L.take 100).length ≤ 100 := by rw [List.length_take]; omega
  clear hmn hmm hc
  generalize L.take 100 = M at *
  have H0 := Lib.hid (hpi_new w)
  have HB0 := Lib.hid (below_alloc w (.cells #[.slice none 0 0, .map none, .int .i64 0] 56))
  have HI1 : Hid (EI (w.alloc (.cells #[.slice none 0 0, .map none, .int .i64 0] 56)) w.heap.size w.heap.size w.heap.size (.slice q M.length c) M) := Lib.hid (HI.out.frm (Frm.below (below_alloc _ _)))
  go_upto_region 3 with fail
  generalize w.alloc (.cells #[.slice none 0 0, .map none, .int .i64 0] 56) = W1 at *
  have HP := Lib.hid (hpush_any H0.out HI1.out (by omega))
  go_wp2_with fail
  go_at_call 33
  refine HP.out.mono ?_
  rintro en w1 ⟨rfl, hf1, g1, mb1, P1, hg1, hm1, h1, r1⟩
  have hs0 := HB0.out.size
  have hge : w.heap.size ≤ g1 ∧ w.heap.size ≤ mb1 := by omega
  have HB1 := Lib.hid (hf1.belowed HB0.out (Nat.le_refl _) (Nat.le_refl _) (Nat.le_refl _))
  have HSr := Lib.hid (hsort_any (HI1.out.frm hf1).srcO (by omega))
  have hl1 := h1.lts
  have hao := r1.all (fun j _ hj => by simp at hj)
  have H1 := Lib.hid h1
  have HAO := Lib.hid hao
  clear hf1 h1 r1 H0 HP HI1 HB0 hao hg1 hm1 hs0
  go_wp2_with fail
  go_at_call 41
  refine HSr.out.mono ?_
  rintro en w2 ⟨S, u, hp, hs, rfl, ho, hb⟩
  have hlen := hp.length_eq
  have HCn : Hid (∀ x, S.count x = M.count x) := Lib.hid (fun x => hp.count_eq x)
  have HSo := Lib.hid hs
  have HRs : Hid (RsI w w1.heap.size w.heap.size g1 mb1 u S 0 w2) := Lib.hid ⟨below_after HB1.out hb, ho, ⟨hl1.1, hl1.2.1, hl1.2.2, Nat.le_refl _, hge.1, hge.2⟩, P1, by
    have h := H1.out.keep hb
    have e : (S.length : Int) - ((0 : Nat) : Int) = 0 + (M.length : Int) := by rw [hlen]; omega
    rw [e]; exact h, HAO.out.1, fun x => by rw [HAO.out.2, List.drop_zero, hp.count_eq]; simp [cntE]⟩
  clear hp hs ho hb H1 HAO HSr HB1 hl1 hge
  generalize w1.heap.size = B3 at *
  obtain ⟨q2, c2, rfl, hrow⟩ := HRs.out.row
  clear hrow
  rw [hlen]
  go_upto_region 7 with fail
  go_wp2_with fail
  go_loopg [5] M.length (fun gk s wx => ∃ i : Nat, gk = M.length - i ∧ i ≤ M.length ∧ s = .int .i64 (i : Int) ∧ Hid (RsI w B3 w.heap.size g1 mb1 (.slice q2 S.length c2) S i wx))
  case atStart => exact ⟨0, rfl, by omega, rfl, HRs⟩
  case round =>
    obtain ⟨i, hgk, hi, rfl, HR⟩ := hrel
    by_cases hlt : i < M.length
    · have hlS : i < S.length := by omega
      have HPp := Lib.hid (HR.out.pop hlS HSo.out (by omega))
      have HEq : Hid (S[i] = S[i]) := Lib.hid rfl
      have HMn : Hid (∀ j, 0 < i → j = i - 1 → (h : j < S.length) → ltE S[i] S[j] = false) := Lib.hid (fun j h0 e h => by
        subst e
        exact (List.pairwise_iff_getElem.1 HSo.out) (i - 1) i h hlS (by omega))
      have HRow : Hid (∀ V, RsI w B3 w.heap.size g1 mb1 (.slice q2 S.length c2) S (i + 1) V → ∃ k, q2 = some ⟨k, 0, none⟩ ∧ V.cell? ⟨k, i * 3, none⟩ = some (.int .i64 S[i].1) ∧ V.cell? ⟨k, i * 3 + 1, none⟩ = some (.int .i64 S[i].2.1) ∧ V.cell? ⟨k, i * 3 + 2, none⟩ = some (.int .i64 S[i].2.2)) := Lib.hid (fun V hV => by
        obtain ⟨q, c, e, h⟩ := hV.row
        cases e
        exact h i hlS)
      generalize S[i] = e at *
      obtain ⟨e1, e2, e3⟩ := e
      simp only [encE3] at HPp
      clear HEq
      go_wp2_with fail
      go_at_call 29
      refine HPp.out.mono ?_
      rintro en w3 ⟨rfl, hr⟩
      have HR3 := Lib.hid (hr.keep (below_alloc w3 (.cells #[.int .i64 e1, .int .i64 e2, .int .i64 e3] 59)))
      have HE3 := Lib.hid (e3b_new w3 (e1, e2, e3))
      clear hr HPp HR
      simp only at HE3
      go_upto_region 11 with fail
      generalize w3.alloc (.cells #[.int .i64 e1, .int .i64 e2, .int .i64 e3] 59) = V4 at *
      generalize w3.heap.size = kb at *
      go_cut [60] (fun s wx => s = .bool false ∧ Hid (Below V4.heap.size V4 wx))
      case first =>
        obtain ⟨b0, b1, b2, _⟩ := HE3.out
        obtain ⟨kr, rfl, c0, c1, c2'⟩ := HRow.out V4 HR3.out
        have hnq : ∀ W, Sem.run Try.prog (binOp .neq 59 (.agg #[.int .i64 e1, .int .i64 e2, .int .i64 e3]) (.agg #[.int .i64 e1, .int .i64 e2, .int .i64 e3])) W = .ok (.bool false) W := fun W => neq_E_self (e1, e2, e3) W
        have x5 : (i : Int) < (M.length : Int) := by omega
        have r0 := fun d os => cell_regrown b0 d os
        have r1 := fun d os => cell_regrown b1 d os
        have r2 := fun d os => cell_regrown b2 d os
        have s0 := fun d os => cell_regrown c0 d os
        have s1 := fun d os => cell_regrown c1 d os
        have s2 := fun d os => cell_regrown c2' d os
        simp only at r0 r1 r2 s0 s1 s2
        clear b0 b1 b2 c0 c1 c2'
        by_cases h0 : i = 0
        · subst h0
          go_wp2_with fail
          refine wp_region_quiet_below (by assumption) (by kernel_rfl) ?_
          repeat (go_big_quiet_step (fail))
          refine wpQuiet_nil ?_
          rintro _ ⟨pg, rfl⟩
          go_wp2_with fail
          go_meet
          exact ⟨rfl, Lib.hid (below_regrown V4 pg.d pg.os)⟩
        · have hj : i - 1 < S.length := by omega
          obtain ⟨qq, cq, hqq, hrr⟩ := HR3.out.row
          cases hqq
          obtain ⟨kr2, hk2, d0, d1, d2⟩ := hrr (i - 1) hj
          cases hk2
          have hmo := HMn.out (i - 1) (by omega) rfl hj
          clear hrr
          generalize S[i - 1] = m at *
          obtain ⟨m1, m2, m3⟩ := m
          have KC : Hid (∀ (d : Nat) (os : Array Obj), Calls Try.prog 38 #[.agg #[.int .i64 e1, .int .i64 e2, .int .i64 e3], .agg #[.int .i64 m1, .int .i64 m2, .int .i64 m3]] (grow (redrawn V4 d) os) fun e w'' => e = .returned (.bool false) ∧ ∃ p : Regrown, w'' = grow (redrawn V4 p.d) p.os) :=
            Lib.hid (fun d os => Calls.regrown_of ((hless_any (e1, e2, e3) (m1, m2, m3) _).mono (fun e w' h => ⟨by rw [h.1, hmo], h.2⟩)))
          have x1 : IntKind.i64.wrap ((i : Int) - 1) = (i : Int) - 1 := IntWalk.i64_in _ (by omega)
          have x2 : ((i : Int) - 1).toNat = i - 1 := by omega
          have x3 : 0 ≤ (i : Int) - 1 := by omega
          have x4 : (i : Int) - 1 < (M.length : Int) := by omega
          have hgt : decide ((0 : Int) < (i : Int)) = true := by simp; omega
          have hg2 : decide (0 < i) = true := by simp; omega
          have hg3 : decide ((i : Int) > 0) = true := by simp; omega
          have t0 := fun d os => cell_regrown d0 d os
          have t1 := fun d os => cell_regrown d1 d os
          have t2 := fun d os => cell_regrown d2 d os
          simp only at t0 t1 t2
          clear d0 d1 d2 hmo
          go_wp2_with fail
          refine wp_region_quiet_below (by assumption) (by kernel_rfl) ?_
          repeat (go_big_quiet_step (with_reducible exact KC.out _ _))
          refine wpQuiet_nil ?_
          rintro _ ⟨pg, rfl⟩
          go_wp2_with fail
          go_meet
          exact ⟨rfl, Lib.hid (below_regrown V4 pg.d pg.os)⟩
      case rest =>
        obtain ⟨rfl, HBc⟩ := hcut
        obtain ⟨V5, hV5⟩ : ∃ V, V = wc := ⟨_, rfl⟩
        subst hV5
        have HR5 := Lib.hid (HR3.out.keep HBc.out)
        have HE5 := Lib.hid (HE3.out.keep HBc.out)
        clear HR3 HE3 HBc HMn HRow
        go_wp2_with fail
        go_loopg [8, 9, 10] M.length (fun gk x y s wx => ∃ k : Nat, gk = M.length - k ∧ k ≤ M.length ∧ x = .int .i64 (((M.take k).count (e1, e2, e3) : Nat) : Int) ∧ y = .int .i64 (((S.take k).count (e1, e2, e3) : Nat) : Int) ∧ s = .int .i64 (k : Int) ∧ Hid (RsI w B3 w.heap.size g1 mb1 (.slice q2 S.length c2) S (i + 1) wx) ∧ Hid (E3B wx kb (e1, e2, e3)))
        case atStart => exact ⟨0, rfl, by omega, by simp, by simp, rfl, HR5, HE5⟩
        case round =>
          obtain ⟨k, hgk2, hk, rfl, rfl, rfl, HR6, HE6⟩ := hrel
          by_cases hlk : k < M.length
          · obtain ⟨km, om, rfl, m0, m1, m2⟩ := HI.out.at hlk
            have m0 := cell_later HR6.out.below m0
            have m1 := cell_later HR6.out.below m1
            have m2 := cell_later HR6.out.below m2
            obtain ⟨qq, cq, hqq, hrr⟩ := HR6.out.row
            cases hqq
            obtain ⟨kr, rfl, d0, d1, d2⟩ := hrr k (by omega)
            obtain ⟨b0, b1, b2, _⟩ := HE6.out
            have hM1 : (M.take (k + 1)).count (e1, e2, e3) = (M.take k).count (e1, e2, e3) + (if M[k] = (e1, e2, e3) then 1 else 0) := by
              rw [List.take_succ_eq_append_getElem hlk, List.count_append, List.count_singleton]
              simp [beq_iff_eq]
            have hS1 : (S.take (k + 1)).count (e1, e2, e3) = (S.take k).count (e1, e2, e3) + (if S[k] = (e1, e2, e3) then 1 else 0) := by
              rw [List.take_succ_eq_append_getElem (by omega), List.count_append, List.count_singleton]
              simp [beq_iff_eq]
            have hcM := List.count_le_length (a := (e1, e2, e3)) (l := M.take k)
            have hcS := List.count_le_length (a := (e1, e2, e3)) (l := S.take k)
            rw [List.length_take] at hcM hcS
            have eqM := fun W => eq_E M[k] (e1, e2, e3) W
            have eqS := fun W => eq_E S[k] (e1, e2, e3) W
            have hb1 : (if M[k] = (e1, e2, e3) then 1 else 0) = (if eqE M[k] (e1, e2, e3) = true then 1 else 0) := by simp [eqE]
            have hb2 : (if S[k] = (e1, e2, e3) then 1 else 0) = (if eqE S[k] (e1, e2, e3) = true then 1 else 0) := by simp [eqE]
            rw [hb1] at hM1
            rw [hb2] at hS1
            clear hb1 hb2 hrr
            unfold encE3 at eqM eqS
            generalize eqE M[k] (e1, e2, e3) = bM at *
            generalize eqE S[k] (e1, e2, e3) = bS at *
            generalize M[k] = mm at *
            generalize S[k] = ss at *
            have x5 : (k : Int) < (M.length : Int) := by omega
            have xM : IntKind.i64.wrap ((((M.take k).count (e1, e2, e3) : Nat) : Int) + 1) = (((M.take k).count (e1, e2, e3) : Nat) : Int) + 1 := IntWalk.i64_in _ (by omega)
            have xS : IntKind.i64.wrap ((((S.take k).count (e1, e2, e3) : Nat) : Int) + 1) = (((S.take k).count (e1, e2, e3) : Nat) : Int) + 1 := IntWalk.i64_in _ (by omega)
            have HM1 := Lib.hid hM1
            have HS1 := Lib.hid hS1
            have HR7 := Lib.hid ((HR6.out.keep (Below.refl _ _).drew).keep (Below.refl _ _).drew)
            have HE7 := Lib.hid ((HE6.out.keep (Below.refl _ _).drew).keep (Below.refl _ _).drew)
            generalize (M.take k).count (e1, e2, e3) = cM at *
            generalize (S.take k).count (e1, e2, e3) = cS at *
            obtain ⟨p1, p2, p3⟩ := mm
            obtain ⟨r1, r2, r3⟩ := ss
            simp only at m0 m1 m2 d0 d1 d2 b0 b1 b2 eqM eqS
            clear hM1 hS1 hcM hcS HR6 HE6 HI
            cases bM <;> cases bS
            all_goals
              go_wp2_with fail
              go_region
              go_wp2_with fail
              go_region
              go_wp2_with fail
              go_roundg (M.length - (k + 1))
              case measure => omega
              case rel => exact ⟨k + 1, rfl, by omega, by rw [HM1.out]; simp, by rw [HS1.out]; simp, by push_cast; rfl, HR7, HE7⟩
          · obtain rfl : k = M.length := by omega
            have hcc : (((M.take M.length).count (e1, e2, e3) : Nat) : Int) = (((S.take M.length).count (e1, e2, e3) : Nat) : Int) := by
              rw [List.take_length, ← hlen, List.take_length, HCn.out]
            rw [hcc]
            generalize (S.take M.length).count (e1, e2, e3) = cc at *
            clear hcc
            go_wp2_with fail
            go_roundg (M.length - (i + 1))
            case measure => omega
            case rel => exact ⟨i + 1, rfl, by omega, by push_cast; rfl, HR6⟩
    · obtain rfl : i = M.length := by omega
      have HKn := Lib.hid (known5_yes wr)
      have hz : (S.length : Int) - (M.length : Int) = 0 := by omega
      go_wp2_with fail
      refine HKn.out.mono ?_
      rintro en w5 ⟨rfl, hb5⟩
      have HR8 := Lib.hid (HR.out.keep hb5)
      obtain ⟨P, hP, _, _⟩ := HR8.out.hp
      rw [hz] at hP
      have HLn := Lib.hid (hlen_any hP)
      clear hP hb5 HR HKn
      go_wp2_with fail
      go_at_call 35
      refine HLn.out.mono ?_
      rintro en w6 ⟨rfl, rfl⟩
      go_wp2_with fail
      go_ret
      exact ⟨rfl, HR8.out.below⟩
end Go.Proofs.Ytmmahejdpanmjaa
