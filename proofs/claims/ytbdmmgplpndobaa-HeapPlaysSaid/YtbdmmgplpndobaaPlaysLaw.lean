/- The walk of the law HeapPlays. -/
import Derived.Test.YtbdmmgplpndobaaPlaysA
import Derived.Deep.QuietTactic
import Derived.Maps.RangeWalk
namespace Go.Proofs.Ytbdmmgplpndobaa
open Go.RowKit Go.Sort Go.Deep

theorem AcI.at {W : World} {q : Option Addr} {n c : Nat} {L : List Ac} (h : AcI W (.slice q n c) L) {i : Nat} (hi : i < L.length) : ∃ k o, q = some ⟨k, o, none⟩ ∧ AcAt W k (o + i * 7) L[i] := by
  obtain ⟨q1, c1, e, _, h⟩ := h
  cases e
  exact h i hi
/-- The document's list, and how many went, while two are dropped. -/
def drT (S : List E3) (a b : E3) : Nat → List E3
  | 0 => S
  | 1 => S.erase a
  | _ => (S.erase a).erase b
def drN (S : List E3) (a b : E3) : Nat → Nat
  | 0 => 0
  | 1 => if a ∈ S then 1 else 0
  | _ => two5 S a b
theorem drT_le (S : List E3) (a b : E3) (k : Nat) : (drT S a b k).length ≤ S.length := by
  match k with
  | 0 => exact Nat.le_refl _
  | 1 => exact List.length_erase_le
  | _ + 2 => exact Nat.le_trans List.length_erase_le List.length_erase_le
set_option maxRecDepth 100000 in
set_option maxHeartbeats 8000000 in
theorem playslaw_yes {w : World} {v : Value} {L : List Ac} (hI : AcI w v L) :
    Calls Try.prog 3 #[v] w fun e w' => e = .returned (.bool true) ∧ Below w.heap.size w w' := by
  have hmx : Try.prog.follows .mixedOrders = true := by kernel_rfl
  have HI := Lib.hid hI
  obtain ⟨q, c, rfl, hc, hx⟩ := hI
  clear hx
  have H0 := Lib.hid (pls_new w)
  go_enter Try.func3, Try.ntmps3
  go_upto_region 2 with fail
  generalize w.alloc (.cells #[.slice none 0 0, .map none, .int .i64 0] 28) = W1 at *
  go_wp2_with fail
  go_loopg [4, 5] 81 (fun gk m s wx => ∃ (i : Nat) (S : List E3), gk = 81 - i ∧ i ≤ 80 ∧ s = .int .i64 (i : Int) ∧ S.length ≤ 2 * i ∧ Hid (PlS w w.heap.size none S S m wx))
  case atStart => exact ⟨0, [], rfl, by omega, rfl, by simp, H0⟩
  case round =>
    obtain ⟨i, S, hgk, hi, rfl, hS, HP⟩ := hrel
    obtain ⟨qm, cm, rfl, hcm, hxm⟩ := HP.out.lst.row
    clear hxm
    by_cases hlt : i < L.length ∧ i < 80
    · obtain ⟨hl, hl8⟩ := hlt
      have x5 : (i : Int) < (L.length : Int) := by omega
      have x6 : (i : Int) < 80 := by omega
      obtain ⟨ka, o, rfl, ha⟩ := HI.out.at hl
      have ha := ha.keep HP.out.below
      generalize L[i] = a at *
      obtain ⟨kd, ⟨a1, a2, a3⟩, ⟨b1, b2, b3⟩⟩ := a
      obtain ⟨c0, c1, c2, c3, c4, c5, c6⟩ := ha
      simp only at c0 c1 c2 c3 c4 c5 c6
      have HP1 := Lib.hid (HP.out.lay (kd, (a1, a2, a3), (b1, b2, b3)) rfl)
      simp only at HP1
      generalize hn : S.length = n at *
      have HN := Lib.hid hn
      clear hn HP
      go_upto_region 7 with fail
      clear c0 c1 c2 c3 c4 c5 c6
      generalize wr.alloc (.cells #[.int .i64 kd, .int .i64 a1, .int .i64 a2, .int .i64 a3, .int .i64 b1, .int .i64 b2, .int .i64 b3] 33) = V1 at *
      generalize wr.heap.size = kb at *
      obtain ⟨d0, d1, d2, d3, d4, d5, d6⟩ := HP1.out.act
      simp only [Nat.zero_add] at d0 d1 d2 d3 d4 d5 d6
      go_upto_block 2 with fail
      go_cut [4] from 7 to 110 (fun m wx => ∃ S' : List E3, S'.length ≤ 2 * (i + 1) ∧ Hid (PlS w w.heap.size (some (kb, (kd, (a1, a2, a3), (b1, b2, b3)))) S' S' m wx))
      case first =>
        by_cases h0 : kd = 0
        · have y0 : (kd == 0) = true := by simpa using h0
          clear h0
          cases S with
          | nil =>
            obtain rfl : n = 0 := HN.out.symm
            have HPp := Lib.hid (HP1.out.pop (by simp))
            go_wp2_with fail
            go_at_call 8
            refine HPp.out.mono ?_
            rintro en w2 (⟨_, rfl, hp⟩ | ⟨s, S', e, _⟩)
            · unfold encE3
              have HP2 := Lib.hid (hp.keep (below_alloc w2 (.cells #[.int .i64 0, .int .i64 0, .int .i64 0] 31)))
              have HE := Lib.hid (e3b_new w2 (0, 0, 0))
              simp only at HE
              clear hp HPp HP1 d0 d1 d2 d3 d4 d5 d6
              go_upto_region 13 with fail
              generalize w2.alloc (.cells #[.int .i64 0, .int .i64 0, .int .i64 0] 31) = V2 at *
              generalize w2.heap.size = kq at *
              obtain ⟨e0, e1, e2, _⟩ := HE.out
              have r0 := fun d os => cell_regrown e0 d os
              have r1 := fun d os => cell_regrown e1 d os
              have r2 := fun d os => cell_regrown e2 d os
              simp only at r0 r1 r2
              clear e0 e1 e2
              have hnz : ∀ W, Sem.run Try.prog (binOp .neq 31 (.agg #[.int .i64 0, .int .i64 0, .int .i64 0]) (.agg #[.int .i64 0, .int .i64 0, .int .i64 0])) W = .ok (.bool false) W := fun W => neq_E_self (0, 0, 0) W
              refine wp_region_quiet_below (by assumption) (by kernel_rfl) ?_
              repeat (go_big_quiet_step (fail))
              refine wpQuiet_nil ?_
              rintro _ ⟨pg, rfl⟩
              have HP3 := Lib.hid (HP2.out.keep (below_regrown V2 pg.d pg.os))
              clear HP2 r0 r1 r2 hnz HE
              generalize grow (redrawn V2 pg.d) pg.os = V3 at *
              go_wp2_with fail
              go_meet
              exact ⟨[], by simp, HP3⟩
            · cases e
          | cons s S' =>
            have HPp := Lib.hid (HP1.out.pop (by have := HN.out; omega))
            go_wp2_with fail
            go_at_call 8
            refine HPp.out.mono ?_
            rintro en w2 (⟨e, _⟩ | ⟨s2, S2, e, rfl, hp⟩)
            · cases e
            · obtain ⟨rfl, rfl⟩ : s = s2 ∧ S' = S2 := by cases e; exact ⟨rfl, rfl⟩
              obtain ⟨s1, s2, s3⟩ := s
              unfold encE3
              have HP2 := Lib.hid (hp.keep (below_alloc w2 (.cells #[.int .i64 s1, .int .i64 s2, .int .i64 s3] 31)))
              have HE := Lib.hid (e3b_new w2 (s1, s2, s3))
              simp only at HE
              clear hp HPp HP1 d0 d1 d2 d3 d4 d5 d6 e
              go_upto_region 13 with fail
              generalize w2.alloc (.cells #[.int .i64 s1, .int .i64 s2, .int .i64 s3] 31) = V2 at *
              generalize w2.heap.size = kq at *
              obtain ⟨e0, e1, e2, _⟩ := HE.out
              obtain ⟨q', c', e', _, hr⟩ := HP2.out.lst.row
              obtain ⟨rfl, rfl⟩ : q' = qm ∧ c' = cm := by cases e'; exact ⟨rfl, rfl⟩
              clear e'
              obtain ⟨k1, o1, rfl, f0, f1, f2⟩ := hr 0 (by simp)
              clear hr
              simp only [List.getElem_cons_zero, Nat.zero_mul, Nat.add_zero] at f0 f1 f2
              have r0 := fun d os => cell_regrown e0 d os
              have r1 := fun d os => cell_regrown e1 d os
              have r2 := fun d os => cell_regrown e2 d os
              have t0 := fun d os => cell_regrown f0 d os
              have t1 := fun d os => cell_regrown f1 d os
              have t2 := fun d os => cell_regrown f2 d os
              simp only at r0 r1 r2 t0 t1 t2
              clear e0 e1 e2 f0 f1 f2
              have hnz := fun W => neq_E5 (s1, s2, s3) (s1, s2, s3) W
              rw [show eqE (s1, s2, s3) (s1, s2, s3) = true from by simp [eqE]] at hnz
              simp only [encE3, Bool.not_true] at hnz
              have hnn : n = S'.length + 1 := HN.out.symm
              have z0 : (0 : Int) < (n : Int) := by omega
              have z1 : decide ((0 : Int) < (n : Int)) = true := by simpa using z0
              have z2 : 0 < n := by omega
              clear hnn
              refine wp_region_quiet_below (by assumption) (by kernel_rfl) ?_
              repeat (go_big_quiet_step (fail))
              refine wpQuiet_nil ?_
              rintro _ ⟨pg, rfl⟩
              have HP3 := Lib.hid (HP2.out.keep (below_regrown V2 pg.d pg.os))
              clear HP2 r0 r1 r2 t0 t1 t2 hnz HE
              generalize grow (redrawn V2 pg.d) pg.os = V3 at *
              have hnn : n = S'.length + 1 := HN.out.symm
              obtain ⟨g5, o5, e5, _, hn5, hp5⟩ := HP3.out.tail
              cases e5
              have hS2 : S'.length = n - 1 := by omega
              have w0 : (1 : Int) ≤ (n : Int) := by omega
              have w1 : (n : Int) ≤ (c' : Int) := by omega
              have w3 : 1 ≤ n := by omega
              clear hnn
              by_cases hc1 : c' = 1
              · rw [if_pos hc1] at hp5
                subst hc1
                have HP5 := Lib.hid hp5
                have HS5 := Lib.hid hS2
                clear hp5 hS2 HP3 hn5
                go_wp2_with fail
                go_meet
                exact ⟨S', by have := HS5.out; omega, HP5⟩
              · rw [if_neg hc1] at hp5
                have HP5 := Lib.hid hp5
                have HS5 := Lib.hid hS2
                clear hp5 hS2 HP3 hn5
                go_wp2_with fail
                go_meet
                exact ⟨S', by have := HS5.out; omega, HP5⟩
        · have y0 : (kd == 0) = false := by simpa using h0
          clear h0
          by_cases h1 : kd = 1
          · have y1 : (kd == 1) = true := by simpa using h1
            clear h1
            have HD := Lib.hid (fun (V : World) (S1 : List E3) (u : Value) (h : PlS w w.heap.size (some (kb, (kd, (a1, a2, a3), (b1, b2, b3)))) S S1 u V) (hT : S1.length ≤ 1000) (e : E3) => h.rdrop hT e)
            have HDl := Lib.hid (drT_le S (a1, a2, a3) (b1, b2, b3))
            have hn1000 : Hid (S.length ≤ 1000) := Lib.hid (by have := HN.out; omega)
            clear d0 d1 d2 d3 d4 d5 d6
            go_upto_block 3 with fail
            go_cut [4, 9] from 10 to 102 (fun m x wx => x = .int .i64 (two5 S (a1, a2, a3) (b1, b2, b3) : Nat) ∧ Hid (PlS w w.heap.size (some (kb, (kd, (a1, a2, a3), (b1, b2, b3)))) S ((S.erase (a1, a2, a3)).erase (b1, b2, b3)) m wx))
            case first =>
              go_wp2_with fail
              go_loopg [4, 9, 10] 2 (fun gk m x s wx => ∃ k : Nat, gk = 2 - k ∧ k ≤ 2 ∧ s = .int .i64 (k : Int) ∧ x = .int .i64 (drN S (a1, a2, a3) (b1, b2, b3) k : Nat) ∧ Hid (PlS w w.heap.size (some (kb, (kd, (a1, a2, a3), (b1, b2, b3)))) S (drT S (a1, a2, a3) (b1, b2, b3) k) m wx))
              case atStart => exact ⟨0, rfl, by omega, rfl, rfl, HP1⟩
              case round =>
                obtain ⟨k, hgk2, hk, rfl, rfl, HQ⟩ := hrel
                obtain rfl | rfl | rfl : k = 0 ∨ k = 1 ∨ k = 2 := by omega
                · have hA := HQ.out.act
                  obtain ⟨d0, d1, d2, d3, d4, d5, d6⟩ := hA
                  simp only [Nat.zero_add] at d0 d1 d2 d3 d4 d5 d6
                  have HQ1 := Lib.hid (HQ.out.keep (below_alloc wr (.cells #[.int .i64 a1, .int .i64 a2, .int .i64 a3, .int .i64 b1, .int .i64 b2, .int .i64 b3] 31)))
                  have HDr := Lib.hid (HD.out _ _ _ HQ1.out (Nat.le_trans (HDl.out 0) hn1000.out) (a1, a2, a3))
                  have HC1 : Hid (∀ b : Bool, decide ((a1, a2, a3) ∈ drT S (a1, a2, a3) (b1, b2, b3) 0) = b → drN S (a1, a2, a3) (b1, b2, b3) 1 = drN S (a1, a2, a3) (b1, b2, b3) 0 + (if b = true then 1 else 0)) := Lib.hid (fun b hb => by
                    subst hb
                    simp [drN, drT])
                  have hT : drT S (a1, a2, a3) (b1, b2, b3) 1 = (drT S (a1, a2, a3) (b1, b2, b3) 0).erase (a1, a2, a3) := rfl
                  rw [← hT] at HDr
                  have hle : drN S (a1, a2, a3) (b1, b2, b3) 0 ≤ 0 := by exact Nat.le_refl _
                  generalize drN S (a1, a2, a3) (b1, b2, b3) 0 = n0 at *
                  have xw : IntKind.i64.wrap ((n0 : Int) + 1) = (n0 : Int) + 1 := IntWalk.i64_in _ (by omega)
                  clear hT HQ HQ1 HD HDl
                  unfold encE3 at HDr
                  go_wp2_with fail
                  go_at_call 9
                  refine HDr.out.mono ?_
                  rintro en w3 ⟨u3, rfl, hp⟩
                  have HP3 := Lib.hid hp
                  clear hp HDr d0 d1 d2 d3 d4 d5 d6
                  generalize hdb : decide ((a1, a2, a3) ∈ drT S (a1, a2, a3) (b1, b2, b3) 0) = bb at *
                  have HC2 := Lib.hid (HC1.out bb rfl)
                  clear hdb HC1
                  cases bb
                  · go_wp2_with fail
                    go_roundg (2 - 1)
                    case measure => omega
                    case rel => exact ⟨1, rfl, by omega, rfl, by rw [HC2.out]; simp, HP3⟩
                  · go_wp2_with fail
                    go_roundg (2 - 1)
                    case measure => omega
                    case rel => exact ⟨1, rfl, by omega, rfl, by rw [HC2.out]; simp, HP3⟩
                · have hA := HQ.out.act
                  obtain ⟨d0, d1, d2, d3, d4, d5, d6⟩ := hA
                  simp only [Nat.zero_add] at d0 d1 d2 d3 d4 d5 d6
                  have HQ1 := Lib.hid (HQ.out.keep (below_alloc wr (.cells #[.int .i64 a1, .int .i64 a2, .int .i64 a3, .int .i64 b1, .int .i64 b2, .int .i64 b3] 31)))
                  have HDr := Lib.hid (HD.out _ _ _ HQ1.out (Nat.le_trans (HDl.out 1) hn1000.out) (b1, b2, b3))
                  have HC1 : Hid (∀ b : Bool, decide ((b1, b2, b3) ∈ drT S (a1, a2, a3) (b1, b2, b3) 1) = b → drN S (a1, a2, a3) (b1, b2, b3) 2 = drN S (a1, a2, a3) (b1, b2, b3) 1 + (if b = true then 1 else 0)) := Lib.hid (fun b hb => by
                    subst hb
                    simp [drN, drT, two5])
                  have hT : drT S (a1, a2, a3) (b1, b2, b3) 2 = (drT S (a1, a2, a3) (b1, b2, b3) 1).erase (b1, b2, b3) := rfl
                  rw [← hT] at HDr
                  have hle : drN S (a1, a2, a3) (b1, b2, b3) 1 ≤ 1 := by simp only [drN]; split <;> omega
                  generalize drN S (a1, a2, a3) (b1, b2, b3) 1 = n0 at *
                  have xw : IntKind.i64.wrap ((n0 : Int) + 1) = (n0 : Int) + 1 := IntWalk.i64_in _ (by omega)
                  clear hT HQ HQ1 HD HDl
                  unfold encE3 at HDr
                  go_wp2_with fail
                  go_at_call 9
                  refine HDr.out.mono ?_
                  rintro en w3 ⟨u3, rfl, hp⟩
                  have HP3 := Lib.hid hp
                  clear hp HDr d0 d1 d2 d3 d4 d5 d6
                  generalize hdb : decide ((b1, b2, b3) ∈ drT S (a1, a2, a3) (b1, b2, b3) 1) = bb at *
                  have HC2 := Lib.hid (HC1.out bb rfl)
                  clear hdb HC1
                  cases bb
                  · go_wp2_with fail
                    go_roundg (2 - 2)
                    case measure => omega
                    case rel => exact ⟨2, rfl, by omega, rfl, by rw [HC2.out]; simp, HP3⟩
                  · go_wp2_with fail
                    go_roundg (2 - 2)
                    case measure => omega
                    case rel => exact ⟨2, rfl, by omega, rfl, by rw [HC2.out]; simp, HP3⟩
                · go_wp2_with fail
                  go_meet
                  exact ⟨rfl, HQ⟩
            case rest =>
              obtain ⟨rfl, HQ⟩ := hcut
              obtain ⟨d0, d1, d2, d3, d4, d5, d6⟩ := HQ.out.act
              simp only [Nat.zero_add] at d0 d1 d2 d3 d4 d5 d6
              have HDr := Lib.hid (HQ.out.drop2 hn1000.out (a1, a2, a3) (b1, b2, b3))
              simp only at HDr
              have HLe := Lib.hid (HDl.out 2)
              generalize two5 S (a1, a2, a3) (b1, b2, b3) = n2 at *
              clear HD HDl HQ
              go_wp2_with fail
              go_at_call 10
              refine HDr.out.mono ?_
              rintro en w3 ⟨rfl, hp⟩
              have HP3 := Lib.hid hp
              clear hp HDr d0 d1 d2 d3 d4 d5 d6
              go_wp2_with fail
              go_meet
              exact ⟨_, by have := HLe.out; have := HN.out; simp only [drT] at *; omega, HP3⟩
          · have y1 : (kd == 1) = false := by simpa using h1
            clear h1
            have hn1000 : Hid (S.length ≤ 1000) := Lib.hid (by have := HN.out; omega)
            have H6 : Hid (∀ V : World, Below V1.heap.size V1 V → V.cell? ⟨kb, 1, none⟩ = some (.int .i64 a1) ∧ V.cell? ⟨kb, 2, none⟩ = some (.int .i64 a2) ∧ V.cell? ⟨kb, 3, none⟩ = some (.int .i64 a3) ∧ V.cell? ⟨kb, 4, none⟩ = some (.int .i64 b1) ∧ V.cell? ⟨kb, 5, none⟩ = some (.int .i64 b2) ∧ V.cell? ⟨kb, 6, none⟩ = some (.int .i64 b3) ∧ Below V1.heap.size V1 V) := Lib.hid (fun V h => ⟨cell_later h d1, cell_later h d2, cell_later h d3, cell_later h d4, cell_later h d5, cell_later h d6, h⟩)
            have H6n : Hid (∀ V w1 : World, (V.cell? ⟨kb, 1, none⟩ = some (.int .i64 a1) ∧ V.cell? ⟨kb, 2, none⟩ = some (.int .i64 a2) ∧ V.cell? ⟨kb, 3, none⟩ = some (.int .i64 a3) ∧ V.cell? ⟨kb, 4, none⟩ = some (.int .i64 b1) ∧ V.cell? ⟨kb, 5, none⟩ = some (.int .i64 b2) ∧ V.cell? ⟨kb, 6, none⟩ = some (.int .i64 b3) ∧ Below V1.heap.size V1 V) → Below V.heap.size V w1 → w1.cell? ⟨kb, 1, none⟩ = some (.int .i64 a1) ∧ w1.cell? ⟨kb, 2, none⟩ = some (.int .i64 a2) ∧ w1.cell? ⟨kb, 3, none⟩ = some (.int .i64 a3) ∧ w1.cell? ⟨kb, 4, none⟩ = some (.int .i64 b1) ∧ w1.cell? ⟨kb, 5, none⟩ = some (.int .i64 b2) ∧ w1.cell? ⟨kb, 6, none⟩ = some (.int .i64 b3) ∧ Below V1.heap.size V1 w1) := Lib.hid (fun V w1 h k => H6.out w1 (below_after h.2.2.2.2.2.2 k))
            have KA : Hid (∀ V : World, (V.cell? ⟨kb, 1, none⟩ = some (.int .i64 a1) ∧ V.cell? ⟨kb, 2, none⟩ = some (.int .i64 a2) ∧ V.cell? ⟨kb, 3, none⟩ = some (.int .i64 a3) ∧ V.cell? ⟨kb, 4, none⟩ = some (.int .i64 b1) ∧ V.cell? ⟨kb, 5, none⟩ = some (.int .i64 b2) ∧ V.cell? ⟨kb, 6, none⟩ = some (.int .i64 b3) ∧ Below V1.heap.size V1 V) → Calls Try.prog 11 #[.slice qm n cm, .agg #[.int .i64 a1, .int .i64 a2, .int .i64 a3]] V fun en w' => ∃ u R, en = .returned u ∧ R.Perm ((a1, a2, a3) :: S) ∧ risE R ∧ Below V.heap.size V w' ∧ PlS w w.heap.size (some (kb, (kd, (a1, a2, a3), (b1, b2, b3)))) S R u w') := Lib.hid (fun V h => (HP1.out.keep h.2.2.2.2.2.2).rpush hn1000.out HP1.out.ris (a1, a2, a3))
            go_upto_region 8 with fail
            go_cut [4] from 31 to 37 (fun m wx => ∃ R : List E3, R.Perm ((b1, b2, b3) :: (a1, a2, a3) :: S) ∧ risE R ∧ Hid (PlS w w.heap.size (some (kb, (kd, (a1, a2, a3), (b1, b2, b3)))) S R m wx))
            case first =>
              have hD := H6.out _ ((Below.refl V1.heap.size V1).drew)
              clear d0 d1 d2 d3 d4 d5 d6
              go_region_held3 (fun W => W.cell? ⟨kb, 1, none⟩ = some (.int .i64 a1) ∧ W.cell? ⟨kb, 2, none⟩ = some (.int .i64 a2) ∧ W.cell? ⟨kb, 3, none⟩ = some (.int .i64 a3) ∧ W.cell? ⟨kb, 4, none⟩ = some (.int .i64 b1) ∧ W.cell? ⟨kb, 5, none⟩ = some (.int .i64 b2) ∧ W.cell? ⟨kb, 6, none⟩ = some (.int .i64 b3) ∧ Below V1.heap.size V1 W) (first | (with_reducible assumption) | (with_reducible exact H6n.out _ _ (by with_reducible assumption) ((Below.refl _ _).drew))) (first | (go_at_call 11; refine ((HQ1.out.keep (by repeat (first | (with_reducible exact Below.refl _ _) | (with_reducible refine Below.drew ?_)))).rpush (by have h1 := HPp1.out.length_eq; have h2 := HN.out; simp only [List.length_cons] at h1; omega) HR1.out (b1, b2, b3)).mono ?_; rintro en w6 ⟨u6, R2, rfl, hp2, hr2, hb2, hq2⟩; have HQ2 := Lib.hid hq2; have HPp2 := Lib.hid hp2; have HR2 := Lib.hid hr2; clear hq2 hp2 hr2; have hS6 := H6n.out _ _ (by with_reducible assumption) hb2; clear hb2) | (go_at_call 11; refine (KA.out _ (by with_reducible assumption)).mono ?_; rintro en w5 ⟨u5, R1, rfl, hp1, hr1, hb1, hq1⟩; have HQ1 := Lib.hid hq1; have HPp1 := Lib.hid hp1; have HR1 := Lib.hid hr1; clear hq1 hp1 hr1; have hS5 := H6n.out _ _ (by with_reducible assumption) hb1; clear hb1))
              all_goals
                go_wp2_with fail
                go_meet
                exact ⟨R2, HPp2.out.trans (List.Perm.cons _ HPp1.out), HR2.out, HQ2⟩
            case rest =>
              obtain ⟨R, hR, hrR, HQ⟩ := hcut
              have HR := Lib.hid hR
              have HrR := Lib.hid hrR
              clear hR hrR H6 H6n KA HP1 d0 d1 d2 d3 d4 d5 d6
              obtain ⟨d0, d1, d2, d3, d4, d5, d6⟩ := HQ.out.act
              simp only [Nat.zero_add] at d0 d1 d2 d3 d4 d5 d6
              obtain ⟨qr, cr, rfl, hcr, hxr⟩ := HQ.out.lst.row
              clear hxr
              have hRl : Hid (R.length = n + 2) := Lib.hid (by have := HR.out.length_eq; simp only [List.length_cons] at this; have := HN.out; omega)
              have hRi : (R.length : Int) = (n : Int) + 2 := by have := hRl.out; omega
              have HPu := Lib.hid (HQ.out.push2 hn1000.out (a1, a2, a3) (b1, b2, b3))
              simp only at HPu
              have HSn := HN.out
              rw [HSn] at HPu
              clear HSn
              generalize hm2 : R.length = m2 at *
              have HM2 := Lib.hid hm2
              clear hm2
              go_wp2_with fail
              go_at_call 12
              refine HPu.out.mono ?_
              rintro en w3 ⟨rfl, hp⟩
              have HP3 := Lib.hid (hp R HR.out HrR.out)
              clear hp HPu d0 d1 d2 d3 d4 d5 d6
              rw [← hRi]
              clear hRi
              go_wp2_with fail
              go_meet
              exact ⟨R, by have := hRl.out; have := HM2.out; omega, HP3⟩
      case rest =>
        obtain ⟨S', hS', HQ⟩ := hcut
        obtain ⟨qr, cr, rfl, hcr, hxr⟩ := HQ.out.lst.row
        clear hxr HP1
        generalize hm2 : S'.length = m2 at *
        have HM2 := Lib.hid hm2
        clear hm2
        have hQ2 := Lib.hid hS'
        have hQl : Hid (m2 ≤ 1000) := Lib.hid (by omega)
        clear d0 d1 d2 d3 d4 d5 d6
        obtain ⟨d0, d1, d2, d3, d4, d5, d6⟩ := HQ.out.act
        simp only [Nat.zero_add] at d0 d1 d2 d3 d4 d5 d6
        cases S' with
        | nil =>
          obtain rfl : m2 = 0 := HM2.out.symm
          have HTp := Lib.hid HQ.out.top_nil
          go_wp2_with fail
          go_at_call 13
          refine HTp.out.mono ?_
          rintro en w3 ⟨⟨⟨e1, e2, e3⟩, rfl⟩, hbT⟩
          unfold encE3
          have HQ3 := Lib.hid ((HQ.out.keep hbT).keep (below_alloc w3 (.cells #[.int .i64 e1, .int .i64 e2, .int .i64 e3] 31)))
          have HE := Lib.hid (e3b_new w3 (e1, e2, e3))
          simp only at HE
          clear hbT HQ HTp d1 d2 d3 d4 d5 d6
          go_upto_region 29 with fail
          generalize w3.alloc (.cells #[.int .i64 e1, .int .i64 e2, .int .i64 e3] 31) = V2 at *
          generalize w3.heap.size = kq at *
          obtain ⟨-, d1, d2, d3, d4, d5, d6⟩ := HQ3.out.act
          simp only [Nat.zero_add] at d1 d2 d3 d4 d5 d6
          obtain ⟨r0, r1, r2, _⟩ := HE.out
          simp only at r0 r1 r2
          have H6 : Hid (∀ V : World, Below V2.heap.size V2 V → V.cell? ⟨kb, 1, none⟩ = some (.int .i64 a1) ∧ V.cell? ⟨kb, 2, none⟩ = some (.int .i64 a2) ∧ V.cell? ⟨kb, 3, none⟩ = some (.int .i64 a3) ∧ V.cell? ⟨kb, 4, none⟩ = some (.int .i64 b1) ∧ V.cell? ⟨kb, 5, none⟩ = some (.int .i64 b2) ∧ V.cell? ⟨kb, 6, none⟩ = some (.int .i64 b3) ∧ V.cell? ⟨kq, 0, none⟩ = some (.int .i64 e1) ∧ V.cell? ⟨kq, 1, none⟩ = some (.int .i64 e2) ∧ V.cell? ⟨kq, 2, none⟩ = some (.int .i64 e3) ∧ Below V2.heap.size V2 V) := Lib.hid (fun V h => ⟨cell_later h d1, cell_later h d2, cell_later h d3, cell_later h d4, cell_later h d5, cell_later h d6, cell_later h r0, cell_later h r1, cell_later h r2, h⟩)
          have H6n : Hid (∀ V w1 : World, (V.cell? ⟨kb, 1, none⟩ = some (.int .i64 a1) ∧ V.cell? ⟨kb, 2, none⟩ = some (.int .i64 a2) ∧ V.cell? ⟨kb, 3, none⟩ = some (.int .i64 a3) ∧ V.cell? ⟨kb, 4, none⟩ = some (.int .i64 b1) ∧ V.cell? ⟨kb, 5, none⟩ = some (.int .i64 b2) ∧ V.cell? ⟨kb, 6, none⟩ = some (.int .i64 b3) ∧ V.cell? ⟨kq, 0, none⟩ = some (.int .i64 e1) ∧ V.cell? ⟨kq, 1, none⟩ = some (.int .i64 e2) ∧ V.cell? ⟨kq, 2, none⟩ = some (.int .i64 e3) ∧ Below V2.heap.size V2 V) → Below V.heap.size V w1 → w1.cell? ⟨kb, 1, none⟩ = some (.int .i64 a1) ∧ w1.cell? ⟨kb, 2, none⟩ = some (.int .i64 a2) ∧ w1.cell? ⟨kb, 3, none⟩ = some (.int .i64 a3) ∧ w1.cell? ⟨kb, 4, none⟩ = some (.int .i64 b1) ∧ w1.cell? ⟨kb, 5, none⟩ = some (.int .i64 b2) ∧ w1.cell? ⟨kb, 6, none⟩ = some (.int .i64 b3) ∧ w1.cell? ⟨kq, 0, none⟩ = some (.int .i64 e1) ∧ w1.cell? ⟨kq, 1, none⟩ = some (.int .i64 e2) ∧ w1.cell? ⟨kq, 2, none⟩ = some (.int .i64 e3) ∧ Below V2.heap.size V2 w1) := Lib.hid (fun V w1 h k => H6.out w1 (below_after h.2.2.2.2.2.2.2.2.2 k))
          have HLt : Hid (∃ l, ltE (a1, a2, a3) (b1, b2, b3) = l) := Lib.hid ⟨_, rfl⟩
          obtain ⟨l, hl0⟩ := HLt.out
          have HL0 := Lib.hid hl0
          clear hl0 HLt
          have KLn : Hid (∀ V : World, (V.cell? ⟨kb, 1, none⟩ = some (.int .i64 a1) ∧ V.cell? ⟨kb, 2, none⟩ = some (.int .i64 a2) ∧ V.cell? ⟨kb, 3, none⟩ = some (.int .i64 a3) ∧ V.cell? ⟨kb, 4, none⟩ = some (.int .i64 b1) ∧ V.cell? ⟨kb, 5, none⟩ = some (.int .i64 b2) ∧ V.cell? ⟨kb, 6, none⟩ = some (.int .i64 b3) ∧ V.cell? ⟨kq, 0, none⟩ = some (.int .i64 e1) ∧ V.cell? ⟨kq, 1, none⟩ = some (.int .i64 e2) ∧ V.cell? ⟨kq, 2, none⟩ = some (.int .i64 e3) ∧ Below V2.heap.size V2 V) → Calls Try.prog 14 #[.pointer (some ⟨w.heap.size, 0, none⟩)] V fun en w' => en = .returned (.int .i64 0) ∧ w' = V) := Lib.hid (fun V h => by
            have := (HQ3.out.keep h.2.2.2.2.2.2.2.2.2).len
            exact this)
          have KAl : Hid (∀ V : World, (V.cell? ⟨kb, 1, none⟩ = some (.int .i64 a1) ∧ V.cell? ⟨kb, 2, none⟩ = some (.int .i64 a2) ∧ V.cell? ⟨kb, 3, none⟩ = some (.int .i64 a3) ∧ V.cell? ⟨kb, 4, none⟩ = some (.int .i64 b1) ∧ V.cell? ⟨kb, 5, none⟩ = some (.int .i64 b2) ∧ V.cell? ⟨kb, 6, none⟩ = some (.int .i64 b3) ∧ V.cell? ⟨kq, 0, none⟩ = some (.int .i64 e1) ∧ V.cell? ⟨kq, 1, none⟩ = some (.int .i64 e2) ∧ V.cell? ⟨kq, 2, none⟩ = some (.int .i64 e3) ∧ Below V2.heap.size V2 V) → Calls Try.prog 16 #[.pointer (some ⟨w.heap.size, 0, none⟩)] V fun en w' => ∃ u, en = .returned u ∧ Lst w' u [] ∧ Below V.heap.size V w') := Lib.hid (fun V h => (HQ3.out.keep h.2.2.2.2.2.2.2.2.2).all (by rw [HM2.out]; exact hQl.out))
          have KSm : Hid (∀ (V : World) (u : Value), (V.cell? ⟨kb, 1, none⟩ = some (.int .i64 a1) ∧ V.cell? ⟨kb, 2, none⟩ = some (.int .i64 a2) ∧ V.cell? ⟨kb, 3, none⟩ = some (.int .i64 a3) ∧ V.cell? ⟨kb, 4, none⟩ = some (.int .i64 b1) ∧ V.cell? ⟨kb, 5, none⟩ = some (.int .i64 b2) ∧ V.cell? ⟨kb, 6, none⟩ = some (.int .i64 b3) ∧ V.cell? ⟨kq, 0, none⟩ = some (.int .i64 e1) ∧ V.cell? ⟨kq, 1, none⟩ = some (.int .i64 e2) ∧ V.cell? ⟨kq, 2, none⟩ = some (.int .i64 e3) ∧ Below V2.heap.size V2 V) → Lst V u [] → Calls Try.prog 15 #[u, .slice qr 0 cr] V fun e w' => e = .returned (.bool true) ∧ Below V.heap.size V w') := Lib.hid (fun V u h hu => hu.same (HQ3.out.keep h.2.2.2.2.2.2.2.2.2).lst (by rw [HM2.out]; exact hQl.out))
          have KLs : Hid (∀ V : World, Calls Try.prog 17 #[.agg #[.int .i64 a1, .int .i64 a2, .int .i64 a3], .agg #[.int .i64 b1, .int .i64 b2, .int .i64 b3]] V fun e w' => e = .returned (.bool l) ∧ Below V.heap.size V w') := Lib.hid (fun V => (hless_any (a1, a2, a3) (b1, b2, b3) V).mono (fun e w' h => ⟨by rw [h.1, HL0.out], h.2⟩))
          have KRl : Hid (∀ V : World, Calls Try.prog 18 #[.agg #[.int .i64 a1, .int .i64 a2, .int .i64 a3], .agg #[.int .i64 b1, .int .i64 b2, .int .i64 b3]] V fun e w' => e = .returned (.bool l) ∧ Below V.heap.size V w') := Lib.hid (fun V => (r5less_any (a1, a2, a3) (b1, b2, b3) V).mono (fun e w' h => ⟨by rw [h.1, HL0.out], h.2⟩))
          have hD := H6.out _ ((Below.refl V2.heap.size V2).drew)
          clear d1 d2 d3 d4 d5 d6 r0 r1 r2 HE H6
          have HMb := Lib.hid (fun W => HQ3.out.keep (V1 := W))
          refine wp_region_held_drew (S := (fun W : World => W.cell? ⟨kb, 1, none⟩ = some (.int .i64 a1) ∧ W.cell? ⟨kb, 2, none⟩ = some (.int .i64 a2) ∧ W.cell? ⟨kb, 3, none⟩ = some (.int .i64 a3) ∧ W.cell? ⟨kb, 4, none⟩ = some (.int .i64 b1) ∧ W.cell? ⟨kb, 5, none⟩ = some (.int .i64 b2) ∧ W.cell? ⟨kb, 6, none⟩ = some (.int .i64 b3) ∧ W.cell? ⟨kq, 0, none⟩ = some (.int .i64 e1) ∧ W.cell? ⟨kq, 1, none⟩ = some (.int .i64 e2) ∧ W.cell? ⟨kq, 2, none⟩ = some (.int .i64 e3) ∧ Below V2.heap.size V2 W)) (by kernel_rfl) hD (fun hHeld => ?_)
          refine wpAnyH_take (i := 1) (oi := { dst := some 116, op := Op.move (Operand.tmp 4), type := 29, pos := "law.go:70", after := #[], guard := none }) (v := ?_) rfl (by kernel_rfl) (by kernel_rfl) (by kernel_rfl) (fun _ _ _ h => h) (Or.inl ⟨by rfl, ?_⟩) (by with_reducible assumption) ?_
          rotate_left
          focus (intro wS hSw; (try dsimp only at hSw); go_simp <;> with_reducible rfl)
          try go_frame
          refine wpAnyH_take (i := 2) (oi := { dst := some 117, op := Op.call { callee := Callee.builtin Builtin.len, args := #[Operand.tmp 116], argTypes := #[29] }, type := 3, pos := "law.go:70", after := #[{ on := 1, ground := Ground.data }], guard := none }) (v := ?_) rfl (by kernel_rfl) (by kernel_rfl) (by kernel_rfl) (fun _ _ _ h => h) (Or.inl ⟨by rfl, ?_⟩) (by with_reducible assumption) ?_
          rotate_left
          focus (intro wS hSw; (try dsimp only at hSw); go_simp <;> with_reducible rfl)
          try go_frame
          refine wpAnyH_ready (rs := [0]) (by kernel_rfl) (by simp) ?_
          refine AllReadyH.cons (i := 0) (o := { dst := some 115, op := Op.call { callee := Callee.value (Operand.func 14), args := #[Operand.tmp 3], argTypes := #[28] }, type := 3, pos := "law.go:70", after := #[], guard := none }) rfl (fun K hK => ?_) AllReadyH.nil
          go_simp
          (go_at_call 14; refine (KLn.out _ (by with_reducible assumption)).mono ?_; rintro en w5 ⟨rfl, rfl⟩)
          refine hK.out _ _ (by with_reducible assumption) (fun hHeld => ?_)
          clear hK K
          try go_frame
          refine wpAnyH_take (i := 3) (oi := { dst := some 118, op := Op.binOp BinOp.neq 3 (Operand.tmp 115) (Operand.tmp 117) 3, type := 4, pos := "law.go:70", after := #[{ on := 0, ground := Ground.data }, { on := 2, ground := Ground.data }], guard := none }) (v := ?_) rfl (by kernel_rfl) (by kernel_rfl) (by kernel_rfl) (fun _ _ _ h => h) (Or.inl ⟨by rfl, ?_⟩) (by with_reducible assumption) ?_
          rotate_left
          focus (intro wS hSw; (try dsimp only at hSw); go_simp <;> with_reducible rfl)
          try go_frame
          refine wpAnyH_take (i := 4) (oi := { dst := some 119, op := Op.move (Operand.tmp 118), type := 4, pos := "law.go:70", after := #[{ on := 3, ground := Ground.data }, { on := 0, ground := Ground.chain }], guard := none }) (v := ?_) rfl (by kernel_rfl) (by kernel_rfl) (by kernel_rfl) (fun _ _ _ h => h) (Or.inl ⟨by rfl, ?_⟩) (by with_reducible assumption) ?_
          rotate_left
          focus (intro wS hSw; (try dsimp only at hSw); go_simp <;> with_reducible rfl)
          try go_frame
          refine wpAnyH_take (i := 6) (oi := { dst := some 121, op := Op.move (Operand.tmp 4), type := 29, pos := "law.go:70", after := #[{ on := 4, ground := Ground.guard }], guard := some (4, false) }) (v := ?_) rfl (by kernel_rfl) (by kernel_rfl) (by kernel_rfl) (fun _ _ _ h => h) (Or.inl ⟨by rfl, ?_⟩) (by with_reducible assumption) ?_
          rotate_left
          focus (intro wS hSw; (try dsimp only at hSw); go_simp <;> with_reducible rfl)
          try go_frame
          refine wpAnyH_ready (rs := [5]) (by kernel_rfl) (by simp) ?_
          refine AllReadyH.cons (i := 5) (o := { dst := some 120, op := Op.call { callee := Callee.value (Operand.func 16), args := #[Operand.tmp 3], argTypes := #[28] }, type := 39, pos := "law.go:70", after := #[{ on := 4, ground := Ground.chain }, { on := 4, ground := Ground.guard }], guard := some (4, false) }) rfl (fun K hK => ?_) AllReadyH.nil
          go_simp
          (go_at_call 16; refine (KAl.out _ (by with_reducible assumption)).mono ?_; rintro en w5 ⟨u5, rfl, hl5, hb5⟩; have HL5 := Lib.hid hl5; clear hl5; have hS5 := H6n.out _ _ (by with_reducible assumption) hb5; clear hb5)
          refine hK.out _ _ (by with_reducible assumption) (fun hHeld => ?_)
          clear hK K
          try go_frame
          refine wpAnyH_ready (rs := [7]) (by kernel_rfl) (by simp) ?_
          refine AllReadyH.cons (i := 7) (o := { dst := some 122, op := Op.call { callee := Callee.value (Operand.func 15), args := #[Operand.tmp 120, Operand.tmp 121], argTypes := #[39, 29] }, type := 4, pos := "law.go:70", after := #[{ on := 5, ground := Ground.data }, { on := 6, ground := Ground.data }, { on := 5, ground := Ground.chain }, { on := 4, ground := Ground.guard }], guard := some (4, false) }) rfl (fun K hK => ?_) AllReadyH.nil
          go_simp
          (go_at_call 15; refine (KSm.out _ _ (by with_reducible assumption) HL5.out).mono ?_; rintro en w6 ⟨rfl, hb6⟩; have hS6 := H6n.out _ _ (by with_reducible assumption) hb6; clear hb6)
          refine hK.out _ _ (by with_reducible assumption) (fun hHeld => ?_)
          clear hK K
          try go_frame
          refine wpAnyH_take (i := 8) (oi := { dst := some 123, op := Op.unOp UnOp.not 4 (Operand.tmp 122), type := 4, pos := "law.go:70", after := #[{ on := 7, ground := Ground.data }, { on := 4, ground := Ground.guard }], guard := some (4, false) }) (v := ?_) rfl (by kernel_rfl) (by kernel_rfl) (by kernel_rfl) (fun _ _ _ h => h) (Or.inl ⟨by rfl, ?_⟩) (by with_reducible assumption) ?_
          rotate_left
          focus (intro wS hSw; (try dsimp only at hSw); go_simp <;> with_reducible rfl)
          try go_frame
          refine wpAnyH_take (i := 9) (oi := { dst := some 124, op := Op.pick (Operand.tmp 119) (Operand.const (Value.bool true)) (Operand.tmp 123), type := 4, pos := "law.go:70", after := #[{ on := 4, ground := Ground.data }, { on := 8, ground := Ground.data }], guard := none }) (v := ?_) rfl (by kernel_rfl) (by kernel_rfl) (by kernel_rfl) (fun _ _ _ h => h) (Or.inl ⟨by rfl, ?_⟩) (by with_reducible assumption) ?_
          rotate_left
          focus (intro wS hSw; (try dsimp only at hSw); go_simp <;> with_reducible rfl)
          try go_frame
          refine wpAnyH_take (i := 10) (oi := { dst := some 125, op := Op.move (Operand.tmp 124), type := 4, pos := "law.go:70", after := #[{ on := 9, ground := Ground.data }, { on := 7, ground := Ground.chain }], guard := none }) (v := ?_) rfl (by kernel_rfl) (by kernel_rfl) (by kernel_rfl) (fun _ _ _ h => h) (Or.inl ⟨by rfl, ?_⟩) (by with_reducible assumption) ?_
          rotate_left
          focus (intro wS hSw; (try dsimp only at hSw); go_simp <;> with_reducible rfl)
          try go_frame
          refine wpAnyH_take (i := 11) (oi := { dst := some 126, op := Op.move (Operand.tmp 14), type := 4, pos := "law.go:70", after := #[{ on := 10, ground := Ground.guard }], guard := some (10, false) }) (v := ?_) rfl (by kernel_rfl) (by kernel_rfl) (by kernel_rfl) (fun _ _ _ h => h) (Or.inl ⟨by rfl, ?_⟩) (by with_reducible assumption) ?_
          rotate_left
          focus (intro wS hSw; (try dsimp only at hSw); go_simp <;> with_reducible rfl)
          try go_frame
          refine wpAnyH_take (i := 12) (oi := { dst := some 127, op := Op.move (Operand.tmp 4), type := 29, pos := "law.go:70", after := #[{ on := 10, ground := Ground.guard }], guard := some (10, false) }) (v := ?_) rfl (by kernel_rfl) (by kernel_rfl) (by kernel_rfl) (fun _ _ _ h => h) (Or.inl ⟨by rfl, ?_⟩) (by with_reducible assumption) ?_
          rotate_left
          focus (intro wS hSw; (try dsimp only at hSw); go_simp <;> with_reducible rfl)
          try go_frame
          refine wpAnyH_take (i := 13) (oi := { dst := some 128, op := Op.call { callee := Callee.builtin Builtin.len, args := #[Operand.tmp 127], argTypes := #[29] }, type := 3, pos := "law.go:70", after := #[{ on := 12, ground := Ground.data }, { on := 10, ground := Ground.guard }], guard := some (10, false) }) (v := ?_) rfl (by kernel_rfl) (by kernel_rfl) (by kernel_rfl) (fun _ _ _ h => h) (Or.inl ⟨by rfl, ?_⟩) (by with_reducible assumption) ?_
          rotate_left
          focus (intro wS hSw; (try dsimp only at hSw); go_simp <;> with_reducible rfl)
          try go_frame
          refine wpAnyH_take (i := 14) (oi := { dst := some 129, op := Op.binOp BinOp.gtr 3 (Operand.tmp 128) (Operand.const (Value.int IntKind.i64 0)) 3, type := 4, pos := "law.go:70", after := #[{ on := 13, ground := Ground.data }, { on := 10, ground := Ground.guard }], guard := some (10, false) }) (v := ?_) rfl (by kernel_rfl) (by kernel_rfl) (by kernel_rfl) (fun _ _ _ h => h) (Or.inl ⟨by rfl, ?_⟩) (by with_reducible assumption) ?_
          rotate_left
          focus (intro wS hSw; (try dsimp only at hSw); go_simp <;> with_reducible rfl)
          try go_frame
          refine wpAnyH_take (i := 15) (oi := { dst := some 130, op := Op.binOp BinOp.neq 4 (Operand.tmp 126) (Operand.tmp 129) 4, type := 4, pos := "law.go:70", after := #[{ on := 11, ground := Ground.data }, { on := 14, ground := Ground.data }, { on := 10, ground := Ground.guard }], guard := some (10, false) }) (v := ?_) rfl (by kernel_rfl) (by kernel_rfl) (by kernel_rfl) (fun _ _ _ h => h) (Or.inl ⟨by rfl, ?_⟩) (by with_reducible assumption) ?_
          rotate_left
          focus (intro wS hSw; (try dsimp only at hSw); go_simp <;> with_reducible rfl)
          try go_frame
          refine wpAnyH_take (i := 16) (oi := { dst := some 131, op := Op.pick (Operand.tmp 125) (Operand.const (Value.bool true)) (Operand.tmp 130), type := 4, pos := "law.go:70", after := #[{ on := 10, ground := Ground.data }, { on := 15, ground := Ground.data }], guard := none }) (v := ?_) rfl (by kernel_rfl) (by kernel_rfl) (by kernel_rfl) (fun _ _ _ h => h) (Or.inl ⟨by rfl, ?_⟩) (by with_reducible assumption) ?_
          rotate_left
          focus (intro wS hSw; (try dsimp only at hSw); go_simp <;> with_reducible rfl)
          try go_frame
          refine wpAnyH_take (i := 17) (oi := { dst := some 132, op := Op.move (Operand.tmp 131), type := 4, pos := "law.go:70", after := #[{ on := 16, ground := Ground.data }, { on := 10, ground := Ground.chain }], guard := none }) (v := ?_) rfl (by kernel_rfl) (by kernel_rfl) (by kernel_rfl) (fun _ _ _ h => h) (Or.inl ⟨by rfl, ?_⟩) (by with_reducible assumption) ?_
          rotate_left
          focus (intro wS hSw; (try dsimp only at hSw); go_simp <;> with_reducible rfl)
          try go_frame
          refine wpAnyH_take (i := 18) (oi := { dst := some 133, op := Op.move (Operand.tmp 14), type := 4, pos := "law.go:70", after := #[{ on := 17, ground := Ground.guard }], guard := some (17, false) }) (v := ?_) rfl (by kernel_rfl) (by kernel_rfl) (by kernel_rfl) (fun _ _ _ h => h) (Or.inl ⟨by rfl, ?_⟩) (by with_reducible assumption) ?_
          rotate_left
          focus (intro wS hSw; (try dsimp only at hSw); go_simp <;> with_reducible rfl)
          try go_frame
          refine wpAnyH_take (i := 19) (oi := { dst := some 134, op := Op.move (Operand.tmp 133), type := 4, pos := "law.go:70", after := #[{ on := 18, ground := Ground.data }, { on := 17, ground := Ground.chain }, { on := 17, ground := Ground.guard }], guard := some (17, false) }) (v := ?_) rfl (by kernel_rfl) (by kernel_rfl) (by kernel_rfl) (fun _ _ _ h => h) (Or.inl ⟨by rfl, ?_⟩) (by with_reducible assumption) ?_
          rotate_left
          focus (intro wS hSw; (try dsimp only at hSw); go_simp <;> with_reducible rfl)
          try go_frame
          refine wpAnyH_take (i := 20) (oi := { dst := some 135, op := Op.load 31 (Operand.tmp 13), type := 31, pos := "law.go:70", after := #[{ on := 19, ground := Ground.guard }], guard := some (19, true) }) (v := undef) rfl (by kernel_rfl) (by kernel_rfl) (by kernel_rfl) (fun _ _ _ h => h) (Or.inr ⟨by rfl, rfl⟩) (by with_reducible assumption) ?_
          try go_frame
          refine wpAnyH_take (i := 21) (oi := { dst := some 136, op := Op.move (Operand.tmp 4), type := 29, pos := "law.go:70", after := #[{ on := 19, ground := Ground.guard }], guard := some (19, true) }) (v := undef) rfl (by kernel_rfl) (by kernel_rfl) (by kernel_rfl) (fun _ _ _ h => h) (Or.inr ⟨by rfl, rfl⟩) (by with_reducible assumption) ?_
          try go_frame
          refine wpAnyH_take (i := 22) (oi := { dst := some 137, op := Op.indexAddr 29 (Operand.tmp 136) (Operand.const (Value.int IntKind.i64 0)), type := 0, pos := "law.go:70", after := #[{ on := 21, ground := Ground.data }, { on := 19, ground := Ground.guard }], guard := some (19, true) }) (v := undef) rfl (by kernel_rfl) (by kernel_rfl) (by kernel_rfl) (fun _ _ _ h => h) (Or.inr ⟨by rfl, rfl⟩) (by with_reducible assumption) ?_
          try go_frame
          refine wpAnyH_take (i := 23) (oi := { dst := some 138, op := Op.load 36 (Operand.tmp 137), type := 36, pos := "law.go:70", after := #[{ on := 22, ground := Ground.data }, { on := 19, ground := Ground.guard }], guard := some (19, true) }) (v := undef) rfl (by kernel_rfl) (by kernel_rfl) (by kernel_rfl) (fun _ _ _ h => h) (Or.inr ⟨by rfl, rfl⟩) (by with_reducible assumption) ?_
          try go_frame
          refine wpAnyH_take (i := 24) (oi := { dst := some 139, op := Op.binOp BinOp.neq 36 (Operand.tmp 135) (Operand.tmp 138) 36, type := 4, pos := "law.go:70", after := #[{ on := 20, ground := Ground.data }, { on := 23, ground := Ground.data }, { on := 19, ground := Ground.guard }], guard := some (19, true) }) (v := undef) rfl (by kernel_rfl) (by kernel_rfl) (by kernel_rfl) (fun _ _ _ h => h) (Or.inr ⟨by rfl, rfl⟩) (by with_reducible assumption) ?_
          try go_frame
          refine wpAnyH_take (i := 25) (oi := { dst := some 140, op := Op.pick (Operand.tmp 134) (Operand.tmp 139) (Operand.const (Value.bool false)), type := 4, pos := "law.go:70", after := #[{ on := 19, ground := Ground.data }, { on := 24, ground := Ground.data }, { on := 17, ground := Ground.guard }], guard := some (17, false) }) (v := ?_) rfl (by kernel_rfl) (by kernel_rfl) (by kernel_rfl) (fun _ _ _ h => h) (Or.inl ⟨by rfl, ?_⟩) (by with_reducible assumption) ?_
          rotate_left
          focus (intro wS hSw; (try dsimp only at hSw); go_simp <;> with_reducible rfl)
          try go_frame
          refine wpAnyH_take (i := 26) (oi := { dst := some 141, op := Op.pick (Operand.tmp 132) (Operand.const (Value.bool true)) (Operand.tmp 140), type := 4, pos := "law.go:70", after := #[{ on := 17, ground := Ground.data }, { on := 25, ground := Ground.data }], guard := none }) (v := ?_) rfl (by kernel_rfl) (by kernel_rfl) (by kernel_rfl) (fun _ _ _ h => h) (Or.inl ⟨by rfl, ?_⟩) (by with_reducible assumption) ?_
          rotate_left
          focus (intro wS hSw; (try dsimp only at hSw); go_simp <;> with_reducible rfl)
          try go_frame
          refine wpAnyH_take (i := 27) (oi := { dst := some 142, op := Op.move (Operand.tmp 141), type := 4, pos := "law.go:70", after := #[{ on := 26, ground := Ground.data }, { on := 19, ground := Ground.chain }], guard := none }) (v := ?_) rfl (by kernel_rfl) (by kernel_rfl) (by kernel_rfl) (fun _ _ _ h => h) (Or.inl ⟨by rfl, ?_⟩) (by with_reducible assumption) ?_
          rotate_left
          focus (intro wS hSw; (try dsimp only at hSw); go_simp <;> with_reducible rfl)
          try go_frame
          refine wpAnyH_take (i := 28) (oi := { dst := some 143, op := Op.fieldAddr 33 (Operand.tmp 6) 1, type := 0, pos := "law.go:70", after := #[{ on := 27, ground := Ground.guard }], guard := some (27, false) }) (v := ?_) rfl (by kernel_rfl) (by kernel_rfl) (by kernel_rfl) (fun _ _ _ h => h) (Or.inl ⟨by rfl, ?_⟩) (by with_reducible assumption) ?_
          rotate_left
          focus (intro wS hSw; (try dsimp only at hSw); go_simp <;> with_reducible rfl)
          try go_frame
          refine wpAnyH_take (i := 29) (oi := { dst := some 144, op := Op.load 31 (Operand.tmp 143), type := 31, pos := "law.go:70", after := #[{ on := 28, ground := Ground.data }, { on := 27, ground := Ground.guard }], guard := some (27, false) }) (v := ?_) rfl (by kernel_rfl) (by kernel_rfl) (by kernel_rfl) (fun _ _ _ h => h) (Or.inl ⟨by rfl, ?_⟩) (by with_reducible assumption) ?_
          rotate_left
          focus (intro wS hSw; (try dsimp only at hSw); go_simp <;> with_reducible rfl)
          try go_frame
          refine wpAnyH_take (i := 30) (oi := { dst := some 145, op := Op.fieldAddr 33 (Operand.tmp 6) 2, type := 0, pos := "law.go:70", after := #[{ on := 27, ground := Ground.guard }], guard := some (27, false) }) (v := ?_) rfl (by kernel_rfl) (by kernel_rfl) (by kernel_rfl) (fun _ _ _ h => h) (Or.inl ⟨by rfl, ?_⟩) (by with_reducible assumption) ?_
          rotate_left
          focus (intro wS hSw; (try dsimp only at hSw); go_simp <;> with_reducible rfl)
          try go_frame
          refine wpAnyH_take (i := 31) (oi := { dst := some 146, op := Op.load 31 (Operand.tmp 145), type := 31, pos := "law.go:70", after := #[{ on := 30, ground := Ground.data }, { on := 27, ground := Ground.guard }], guard := some (27, false) }) (v := ?_) rfl (by kernel_rfl) (by kernel_rfl) (by kernel_rfl) (fun _ _ _ h => h) (Or.inl ⟨by rfl, ?_⟩) (by with_reducible assumption) ?_
          rotate_left
          focus (intro wS hSw; (try dsimp only at hSw); go_simp <;> with_reducible rfl)
          try go_frame
          refine wpAnyH_take (i := 33) (oi := { dst := some 148, op := Op.fieldAddr 33 (Operand.tmp 6) 1, type := 0, pos := "law.go:70", after := #[{ on := 27, ground := Ground.guard }], guard := some (27, false) }) (v := ?_) rfl (by kernel_rfl) (by kernel_rfl) (by kernel_rfl) (fun _ _ _ h => h) (Or.inl ⟨by rfl, ?_⟩) (by with_reducible assumption) ?_
          rotate_left
          focus (intro wS hSw; (try dsimp only at hSw); go_simp <;> with_reducible rfl)
          try go_frame
          refine wpAnyH_take (i := 34) (oi := { dst := some 149, op := Op.load 31 (Operand.tmp 148), type := 31, pos := "law.go:70", after := #[{ on := 33, ground := Ground.data }, { on := 27, ground := Ground.guard }], guard := some (27, false) }) (v := ?_) rfl (by kernel_rfl) (by kernel_rfl) (by kernel_rfl) (fun _ _ _ h => h) (Or.inl ⟨by rfl, ?_⟩) (by with_reducible assumption) ?_
          rotate_left
          focus (intro wS hSw; (try dsimp only at hSw); go_simp <;> with_reducible rfl)
          try go_frame
          refine wpAnyH_take (i := 35) (oi := { dst := some 150, op := Op.fieldAddr 33 (Operand.tmp 6) 2, type := 0, pos := "law.go:70", after := #[{ on := 27, ground := Ground.guard }], guard := some (27, false) }) (v := ?_) rfl (by kernel_rfl) (by kernel_rfl) (by kernel_rfl) (fun _ _ _ h => h) (Or.inl ⟨by rfl, ?_⟩) (by with_reducible assumption) ?_
          rotate_left
          focus (intro wS hSw; (try dsimp only at hSw); go_simp <;> with_reducible rfl)
          try go_frame
          refine wpAnyH_take (i := 36) (oi := { dst := some 151, op := Op.load 31 (Operand.tmp 150), type := 31, pos := "law.go:70", after := #[{ on := 35, ground := Ground.data }, { on := 27, ground := Ground.guard }], guard := some (27, false) }) (v := ?_) rfl (by kernel_rfl) (by kernel_rfl) (by kernel_rfl) (fun _ _ _ h => h) (Or.inl ⟨by rfl, ?_⟩) (by with_reducible assumption) ?_
          rotate_left
          focus (intro wS hSw; (try dsimp only at hSw); go_simp <;> with_reducible rfl)
          try go_frame
          refine wpAnyH_ready (rs := [32]) (by kernel_rfl) (by simp) ?_
          refine AllReadyH.cons (i := 32) (o := { dst := some 147, op := Op.call { callee := Callee.value (Operand.func 17), args := #[Operand.tmp 144, Operand.tmp 146], argTypes := #[31, 31] }, type := 4, pos := "law.go:70", after := #[{ on := 29, ground := Ground.data }, { on := 31, ground := Ground.data }, { on := 27, ground := Ground.chain }, { on := 27, ground := Ground.guard }], guard := some (27, false) }) rfl (fun K hK => ?_) AllReadyH.nil
          go_simp
          (go_at_call 17; refine (KLs.out _).mono ?_; rintro en w7 ⟨rfl, hb7⟩; have hS7 := H6n.out _ _ (by with_reducible assumption) hb7; clear hb7)
          refine hK.out _ _ (by with_reducible assumption) (fun hHeld => ?_)
          clear hK K
          try go_frame
          refine wpAnyH_ready (rs := [37]) (by kernel_rfl) (by simp) ?_
          refine AllReadyH.cons (i := 37) (o := { dst := some 152, op := Op.call { callee := Callee.value (Operand.func 18), args := #[Operand.tmp 149, Operand.tmp 151], argTypes := #[36, 36] }, type := 4, pos := "law.go:70", after := #[{ on := 34, ground := Ground.data }, { on := 36, ground := Ground.data }, { on := 32, ground := Ground.chain }, { on := 27, ground := Ground.guard }], guard := some (27, false) }) rfl (fun K hK => ?_) AllReadyH.nil
          go_simp
          (go_at_call 18; refine (KRl.out _).mono ?_; rintro en w8 ⟨rfl, hb8⟩; have hS8 := H6n.out _ _ (by with_reducible assumption) hb8; clear hb8)
          refine hK.out _ _ (by with_reducible assumption) (fun hHeld => ?_)
          clear hK K
          try go_frame
          refine wpAnyH_take (i := 38) (oi := { dst := some 153, op := Op.binOp BinOp.neq 4 (Operand.tmp 147) (Operand.tmp 152) 4, type := 4, pos := "law.go:70", after := #[{ on := 32, ground := Ground.data }, { on := 37, ground := Ground.data }, { on := 27, ground := Ground.guard }], guard := some (27, false) }) (v := ?_) rfl (by kernel_rfl) (by kernel_rfl) (by kernel_rfl) (fun _ _ _ h => h) (Or.inl ⟨by rfl, ?_⟩) (by with_reducible assumption) ?_
          rotate_left
          focus (intro wS hSw; (try dsimp only at hSw); go_simp <;> with_reducible rfl)
          try go_frame
          refine wpAnyH_take (i := 39) (oi := { dst := some 154, op := Op.pick (Operand.tmp 142) (Operand.const (Value.bool true)) (Operand.tmp 153), type := 4, pos := "law.go:70", after := #[{ on := 27, ground := Ground.data }, { on := 38, ground := Ground.data }], guard := none }) (v := ?_) rfl (by kernel_rfl) (by kernel_rfl) (by kernel_rfl) (fun _ _ _ h => h) (Or.inl ⟨by rfl, ?_⟩) (by with_reducible assumption) ?_
          rotate_left
          focus (intro wS hSw; (try dsimp only at hSw); go_simp <;> with_reducible rfl)
          try go_frame
          refine wpAnyH_done (by kernel_rfl) ?_ _
          have HP9 := Lib.hid (HMb.out _ hHeld.2.2.2.2.2.2.2.2.2)
          go_wp2_with fail
          go_roundg (81 - (i + 1))
          case measure => omega
          case rel => exact ⟨i + 1, _, rfl, by omega, by push_cast; rfl, by rw [HM2.out]; exact hQ2.out, Lib.hid HP9.out.no⟩
        | cons s S' =>
          obtain ⟨e1, e2, e3⟩ := s
          have HTp := Lib.hid HQ.out.top_cons
          go_wp2_with fail
          go_at_call 13
          refine HTp.out.mono ?_
          rintro en w3 ⟨rfl, hbT⟩
          unfold encE3
          have HQ3 := Lib.hid ((HQ.out.keep hbT).keep (below_alloc w3 (.cells #[.int .i64 e1, .int .i64 e2, .int .i64 e3] 31)))
          have HE := Lib.hid (e3b_new w3 (e1, e2, e3))
          simp only at HE
          clear hbT HQ HTp d1 d2 d3 d4 d5 d6
          go_upto_region 29 with fail
          generalize w3.alloc (.cells #[.int .i64 e1, .int .i64 e2, .int .i64 e3] 31) = V2 at *
          generalize w3.heap.size = kq at *
          obtain ⟨-, d1, d2, d3, d4, d5, d6⟩ := HQ3.out.act
          simp only [Nat.zero_add] at d1 d2 d3 d4 d5 d6
          obtain ⟨r0, r1, r2, _⟩ := HE.out
          simp only at r0 r1 r2
          obtain ⟨q', c', e', _, hr⟩ := HQ3.out.lst.row
          obtain ⟨rfl, rfl⟩ : q' = qr ∧ c' = cr := by cases e'; exact ⟨rfl, rfl⟩
          clear e'
          obtain ⟨k1, o1, rfl, f0, f1, f2⟩ := hr 0 (by simp)
          clear hr
          simp only [List.getElem_cons_zero, Nat.zero_mul, Nat.add_zero] at f0 f1 f2
          have hnz := fun W => neq_E5 (e1, e2, e3) (e1, e2, e3) W
          rw [show eqE (e1, e2, e3) (e1, e2, e3) = true from by simp [eqE]] at hnz
          simp only [encE3, Bool.not_true] at hnz
          have hnn : m2 = S'.length + 1 := HM2.out.symm
          have z0 : (0 : Int) < (m2 : Int) := by omega
          have z1 : decide ((0 : Int) < (m2 : Int)) = true := by simpa using z0
          have z2 : 0 < m2 := by omega
          clear hnn
          have H6 : Hid (∀ V : World, Below V2.heap.size V2 V → V.cell? ⟨kb, 1, none⟩ = some (.int .i64 a1) ∧ V.cell? ⟨kb, 2, none⟩ = some (.int .i64 a2) ∧ V.cell? ⟨kb, 3, none⟩ = some (.int .i64 a3) ∧ V.cell? ⟨kb, 4, none⟩ = some (.int .i64 b1) ∧ V.cell? ⟨kb, 5, none⟩ = some (.int .i64 b2) ∧ V.cell? ⟨kb, 6, none⟩ = some (.int .i64 b3) ∧ V.cell? ⟨kq, 0, none⟩ = some (.int .i64 e1) ∧ V.cell? ⟨kq, 1, none⟩ = some (.int .i64 e2) ∧ V.cell? ⟨kq, 2, none⟩ = some (.int .i64 e3) ∧ V.cell? ⟨k1, o1, none⟩ = some (.int .i64 e1) ∧ V.cell? ⟨k1, o1 + 1, none⟩ = some (.int .i64 e2) ∧ V.cell? ⟨k1, o1 + 2, none⟩ = some (.int .i64 e3) ∧ Below V2.heap.size V2 V) := Lib.hid (fun V h => ⟨cell_later h d1, cell_later h d2, cell_later h d3, cell_later h d4, cell_later h d5, cell_later h d6, cell_later h r0, cell_later h r1, cell_later h r2, cell_later h f0, cell_later h f1, cell_later h f2, h⟩)
          have H6n : Hid (∀ V w1 : World, (V.cell? ⟨kb, 1, none⟩ = some (.int .i64 a1) ∧ V.cell? ⟨kb, 2, none⟩ = some (.int .i64 a2) ∧ V.cell? ⟨kb, 3, none⟩ = some (.int .i64 a3) ∧ V.cell? ⟨kb, 4, none⟩ = some (.int .i64 b1) ∧ V.cell? ⟨kb, 5, none⟩ = some (.int .i64 b2) ∧ V.cell? ⟨kb, 6, none⟩ = some (.int .i64 b3) ∧ V.cell? ⟨kq, 0, none⟩ = some (.int .i64 e1) ∧ V.cell? ⟨kq, 1, none⟩ = some (.int .i64 e2) ∧ V.cell? ⟨kq, 2, none⟩ = some (.int .i64 e3) ∧ V.cell? ⟨k1, o1, none⟩ = some (.int .i64 e1) ∧ V.cell? ⟨k1, o1 + 1, none⟩ = some (.int .i64 e2) ∧ V.cell? ⟨k1, o1 + 2, none⟩ = some (.int .i64 e3) ∧ Below V2.heap.size V2 V) → Below V.heap.size V w1 → w1.cell? ⟨kb, 1, none⟩ = some (.int .i64 a1) ∧ w1.cell? ⟨kb, 2, none⟩ = some (.int .i64 a2) ∧ w1.cell? ⟨kb, 3, none⟩ = some (.int .i64 a3) ∧ w1.cell? ⟨kb, 4, none⟩ = some (.int .i64 b1) ∧ w1.cell? ⟨kb, 5, none⟩ = some (.int .i64 b2) ∧ w1.cell? ⟨kb, 6, none⟩ = some (.int .i64 b3) ∧ w1.cell? ⟨kq, 0, none⟩ = some (.int .i64 e1) ∧ w1.cell? ⟨kq, 1, none⟩ = some (.int .i64 e2) ∧ w1.cell? ⟨kq, 2, none⟩ = some (.int .i64 e3) ∧ w1.cell? ⟨k1, o1, none⟩ = some (.int .i64 e1) ∧ w1.cell? ⟨k1, o1 + 1, none⟩ = some (.int .i64 e2) ∧ w1.cell? ⟨k1, o1 + 2, none⟩ = some (.int .i64 e3) ∧ Below V2.heap.size V2 w1) := Lib.hid (fun V w1 h k => H6.out w1 (below_after h.2.2.2.2.2.2.2.2.2.2.2.2 k))
          have HLt : Hid (∃ l, ltE (a1, a2, a3) (b1, b2, b3) = l) := Lib.hid ⟨_, rfl⟩
          obtain ⟨l, hl0⟩ := HLt.out
          have HL0 := Lib.hid hl0
          clear hl0 HLt
          have KLn : Hid (∀ V : World, (V.cell? ⟨kb, 1, none⟩ = some (.int .i64 a1) ∧ V.cell? ⟨kb, 2, none⟩ = some (.int .i64 a2) ∧ V.cell? ⟨kb, 3, none⟩ = some (.int .i64 a3) ∧ V.cell? ⟨kb, 4, none⟩ = some (.int .i64 b1) ∧ V.cell? ⟨kb, 5, none⟩ = some (.int .i64 b2) ∧ V.cell? ⟨kb, 6, none⟩ = some (.int .i64 b3) ∧ V.cell? ⟨kq, 0, none⟩ = some (.int .i64 e1) ∧ V.cell? ⟨kq, 1, none⟩ = some (.int .i64 e2) ∧ V.cell? ⟨kq, 2, none⟩ = some (.int .i64 e3) ∧ V.cell? ⟨k1, o1, none⟩ = some (.int .i64 e1) ∧ V.cell? ⟨k1, o1 + 1, none⟩ = some (.int .i64 e2) ∧ V.cell? ⟨k1, o1 + 2, none⟩ = some (.int .i64 e3) ∧ Below V2.heap.size V2 V) → Calls Try.prog 14 #[.pointer (some ⟨w.heap.size, 0, none⟩)] V fun en w' => en = .returned (.int .i64 (m2 : Int)) ∧ w' = V) := Lib.hid (fun V h => by
            have := (HQ3.out.keep h.2.2.2.2.2.2.2.2.2.2.2.2).len
            rw [HM2.out] at this; exact this)
          have KAl : Hid (∀ V : World, (V.cell? ⟨kb, 1, none⟩ = some (.int .i64 a1) ∧ V.cell? ⟨kb, 2, none⟩ = some (.int .i64 a2) ∧ V.cell? ⟨kb, 3, none⟩ = some (.int .i64 a3) ∧ V.cell? ⟨kb, 4, none⟩ = some (.int .i64 b1) ∧ V.cell? ⟨kb, 5, none⟩ = some (.int .i64 b2) ∧ V.cell? ⟨kb, 6, none⟩ = some (.int .i64 b3) ∧ V.cell? ⟨kq, 0, none⟩ = some (.int .i64 e1) ∧ V.cell? ⟨kq, 1, none⟩ = some (.int .i64 e2) ∧ V.cell? ⟨kq, 2, none⟩ = some (.int .i64 e3) ∧ V.cell? ⟨k1, o1, none⟩ = some (.int .i64 e1) ∧ V.cell? ⟨k1, o1 + 1, none⟩ = some (.int .i64 e2) ∧ V.cell? ⟨k1, o1 + 2, none⟩ = some (.int .i64 e3) ∧ Below V2.heap.size V2 V) → Calls Try.prog 16 #[.pointer (some ⟨w.heap.size, 0, none⟩)] V fun en w' => ∃ u, en = .returned u ∧ Lst w' u (((e1, e2, e3) : E3) :: S') ∧ Below V.heap.size V w') := Lib.hid (fun V h => (HQ3.out.keep h.2.2.2.2.2.2.2.2.2.2.2.2).all (by rw [HM2.out]; exact hQl.out))
          have KSm : Hid (∀ (V : World) (u : Value), (V.cell? ⟨kb, 1, none⟩ = some (.int .i64 a1) ∧ V.cell? ⟨kb, 2, none⟩ = some (.int .i64 a2) ∧ V.cell? ⟨kb, 3, none⟩ = some (.int .i64 a3) ∧ V.cell? ⟨kb, 4, none⟩ = some (.int .i64 b1) ∧ V.cell? ⟨kb, 5, none⟩ = some (.int .i64 b2) ∧ V.cell? ⟨kb, 6, none⟩ = some (.int .i64 b3) ∧ V.cell? ⟨kq, 0, none⟩ = some (.int .i64 e1) ∧ V.cell? ⟨kq, 1, none⟩ = some (.int .i64 e2) ∧ V.cell? ⟨kq, 2, none⟩ = some (.int .i64 e3) ∧ V.cell? ⟨k1, o1, none⟩ = some (.int .i64 e1) ∧ V.cell? ⟨k1, o1 + 1, none⟩ = some (.int .i64 e2) ∧ V.cell? ⟨k1, o1 + 2, none⟩ = some (.int .i64 e3) ∧ Below V2.heap.size V2 V) → Lst V u (((e1, e2, e3) : E3) :: S') → Calls Try.prog 15 #[u, .slice (some ⟨k1, o1, none⟩) m2 c'] V fun e w' => e = .returned (.bool true) ∧ Below V.heap.size V w') := Lib.hid (fun V u h hu => hu.same (HQ3.out.keep h.2.2.2.2.2.2.2.2.2.2.2.2).lst (by rw [HM2.out]; exact hQl.out))
          have KLs : Hid (∀ V : World, Calls Try.prog 17 #[.agg #[.int .i64 a1, .int .i64 a2, .int .i64 a3], .agg #[.int .i64 b1, .int .i64 b2, .int .i64 b3]] V fun e w' => e = .returned (.bool l) ∧ Below V.heap.size V w') := Lib.hid (fun V => (hless_any (a1, a2, a3) (b1, b2, b3) V).mono (fun e w' h => ⟨by rw [h.1, HL0.out], h.2⟩))
          have KRl : Hid (∀ V : World, Calls Try.prog 18 #[.agg #[.int .i64 a1, .int .i64 a2, .int .i64 a3], .agg #[.int .i64 b1, .int .i64 b2, .int .i64 b3]] V fun e w' => e = .returned (.bool l) ∧ Below V.heap.size V w') := Lib.hid (fun V => (r5less_any (a1, a2, a3) (b1, b2, b3) V).mono (fun e w' h => ⟨by rw [h.1, HL0.out], h.2⟩))
          have hD := H6.out _ ((Below.refl V2.heap.size V2).drew)
          clear d1 d2 d3 d4 d5 d6 r0 r1 r2 f0 f1 f2 HE H6
          have HMb := Lib.hid (fun W => HQ3.out.keep (V1 := W))
          go_region_held3 (fun W : World => W.cell? ⟨kb, 1, none⟩ = some (.int .i64 a1) ∧ W.cell? ⟨kb, 2, none⟩ = some (.int .i64 a2) ∧ W.cell? ⟨kb, 3, none⟩ = some (.int .i64 a3) ∧ W.cell? ⟨kb, 4, none⟩ = some (.int .i64 b1) ∧ W.cell? ⟨kb, 5, none⟩ = some (.int .i64 b2) ∧ W.cell? ⟨kb, 6, none⟩ = some (.int .i64 b3) ∧ W.cell? ⟨kq, 0, none⟩ = some (.int .i64 e1) ∧ W.cell? ⟨kq, 1, none⟩ = some (.int .i64 e2) ∧ W.cell? ⟨kq, 2, none⟩ = some (.int .i64 e3) ∧ W.cell? ⟨k1, o1, none⟩ = some (.int .i64 e1) ∧ W.cell? ⟨k1, o1 + 1, none⟩ = some (.int .i64 e2) ∧ W.cell? ⟨k1, o1 + 2, none⟩ = some (.int .i64 e3) ∧ Below V2.heap.size V2 W) (first | (with_reducible assumption) | (with_reducible exact H6n.out _ _ (by with_reducible assumption) ((Below.refl _ _).drew)))
            (first
              | (go_at_call 14; refine (KLn.out _ (by with_reducible assumption)).mono ?_; rintro en w5 ⟨rfl, rfl⟩)
              | (go_at_call 16; refine (KAl.out _ (by with_reducible assumption)).mono ?_; rintro en w5 ⟨u5, rfl, hl5, hb5⟩; have HL5 := Lib.hid hl5; clear hl5; have hS5 := H6n.out _ _ (by with_reducible assumption) hb5; clear hb5)
              | (go_at_call 15; refine (KSm.out _ _ (by with_reducible assumption) (HL5.out.keep (by repeat (first | (with_reducible exact Below.refl _ _) | (with_reducible refine Below.drew ?_))))).mono ?_; rintro en w6 ⟨rfl, hb6⟩; have hS6 := H6n.out _ _ (by with_reducible assumption) hb6; clear hb6)
              | (go_at_call 17; refine (KLs.out _).mono ?_; rintro en w7 ⟨rfl, hb7⟩; have hS7 := H6n.out _ _ (by with_reducible assumption) hb7; clear hb7)
              | (go_at_call 18; refine (KRl.out _).mono ?_; rintro en w8 ⟨rfl, hb8⟩; have hS8 := H6n.out _ _ (by with_reducible assumption) hb8; clear hb8))
          all_goals
            have HP9 := Lib.hid (HMb.out _ hS8.2.2.2.2.2.2.2.2.2.2.2.2)
            clear hS8
            go_wp2_with fail
            go_roundg (81 - (i + 1))
            case measure => omega
            case rel => exact ⟨i + 1, _, rfl, by omega, by push_cast; rfl, by rw [HM2.out]; exact hQ2.out, Lib.hid HP9.out.no⟩
    · have HK := Lib.hid (known5_yes wr)
      have HB := Lib.hid HP.out.below
      by_cases h1 : i < L.length
      · obtain rfl : i = 80 := by omega
        have x5 : ((80 : Nat) : Int) < (L.length : Int) := by omega
        have x6 : (80 : Int) < (L.length : Int) := by omega
        clear hlt HP h1 x5
        go_wp2_with fail
        go_at_call 19
        refine HK.out.mono ?_
        rintro en w5 ⟨rfl, hb5⟩
        have HB5 := Lib.hid (below_after HB.out hb5)
        clear hb5
        go_wp2_with fail
        go_ret
        exact ⟨rfl, HB5.out⟩
      · have x5 : ¬ (i : Int) < (L.length : Int) := by omega
        clear hlt HP h1
        go_wp2_with fail
        go_at_call 19
        refine HK.out.mono ?_
        rintro en w5 ⟨rfl, hb5⟩
        have HB5 := Lib.hid (below_after HB.out hb5)
        clear hb5
        go_wp2_with fail
        go_ret
        exact ⟨rfl, HB5.out⟩
end Go.Proofs.Ytbdmmgplpndobaa
