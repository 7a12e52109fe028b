/- The walk of the document's Simple. -/
import Derived.Test.YtmhmccicnebhaaaRefArea
import Derived.Test.YtmhmccicnebhaaaRefClass
import Derived.BigQuiet
import Derived.Lib.QuietBelow
namespace Go.Proofs.Ytmhmccicnebhaaa
open Go.RowKit Go.Sort

def clsE (L : List (Int × Int)) (i k : Nat) : Int :=
  clsI (ptA L i).1 (ptA L i).2 (ptA L ((i + 1) % L.length)).1 (ptA L ((i + 1) % L.length)).2 (ptA L k).1 (ptA L k).2 (ptA L ((k + 1) % L.length)).1 (ptA L ((k + 1) % L.length)).2
def wantE (n i k : Nat) : Int := if i = k + 1 ∨ i + 1 = k + n then 1 else 0
def rsimP (L : List (Int × Int)) : Prop :=
  3 ≤ L.length ∧ okL L = true ∧ (∀ i, i < L.length → ∀ k, k < i → ptA L i ≠ ptA L k) ∧ (∀ i, i < L.length → ∀ k, k < i → clsE L i k = wantE L.length i k)
def RsPost (L : List (Int × Int)) (w : World) (e : Ending) (w' : World) : Prop := ∃ b : Bool, e = .returned (.bool b) ∧ (b = true ↔ rsimP L) ∧ Below w.heap.size w w'
theorem rs_no {L : List (Int × Int)} (h : ¬ rsimP L) : (false = true ↔ rsimP L) := ⟨fun k => (by cases k), fun k => absurd k h⟩

theorem pl_pt {w W : World} {p : Option Addr} {L : List (Int × Int)} (h : ∀ i (h : i < L.length), ∃ b off, p = some ⟨b, off, none⟩ ∧ b < w.heap.size ∧ w.cell? ⟨b, off + i * 2, none⟩ = some (.int .i64 L[i].1) ∧ w.cell? ⟨b, off + i * 2 + 1, none⟩ = some (.int .i64 L[i].2)) (h0 : 0 < L.length) (hb : Below w.heap.size w W) :
    ∃ b off, p = some ⟨b, off, none⟩ ∧ ∀ i, i < L.length → W.cell? ⟨b, off + i * 2, none⟩ = some (.int .i64 (ptA L i).1) ∧ W.cell? ⟨b, off + i * 2 + 1, none⟩ = some (.int .i64 (ptA L i).2) := by
  obtain ⟨b, off, rfl, _, _, _⟩ := h 0 h0
  refine ⟨b, off, rfl, fun i hi => ?_⟩
  obtain ⟨b', off', e, _, c0, c1⟩ := h i hi
  obtain ⟨rfl, rfl⟩ : b' = b ∧ off' = off := by injection e with e; injection e with e1 e2; exact ⟨e1.symm, e2.symm⟩
  rw [ptA_at hi]
  exact ⟨cell_later hb c0, cell_later hb c1⟩
theorem rcl_ex (L : List (Int × Int)) (hok : okL L = true) (i k : Nat) (W : World) (d : Nat) (os : Array Obj) :
    Calls Try.prog 17 #[.agg #[.int .i64 (ptA L i).1, .int .i64 (ptA L i).2], .agg #[.int .i64 (ptA L ((i + 1) % L.length)).1, .int .i64 (ptA L ((i + 1) % L.length)).2], .agg #[.int .i64 (ptA L k).1, .int .i64 (ptA L k).2], .agg #[.int .i64 (ptA L ((k + 1) % L.length)).1, .int .i64 (ptA L ((k + 1) % L.length)).2]] (grow (redrawn W d) os)
      fun e w'' => e = .returned (.int .i64 (clsE L i k)) ∧ ∃ p : Regrown, w'' = grow (redrawn W p.d) p.os :=
  Calls.regrown_of (rclass_any _ _ _ _ _ _ _ _ _ (by unfold ok4; simp [okL_pt hok]))

set_option maxRecDepth 100000 in
set_option maxHeartbeats 4000000 in
theorem rsimple_few {w : World} {v : Value} {L : List (Int × Int)} (hI : PL w v L) (h3 : L.length < 3) : Calls Try.prog 33 #[v] w (RsPost L w) := by
  obtain ⟨p, cap, rfl, hc, hi⟩ := hI
  have HN : Hid (¬ rsimP L) := Lib.hid (fun h => by have := h.1; omega)
  have hd : decide ((L.length : Int) < 3) = true := by simp; omega
  clear hi
  go_enter Try.func33, Try.ntmps33
  go_wp2_with fail
  go_ret
  exact ⟨false, rfl, rs_no HN.out, Below.refl _ _⟩
set_option maxRecDepth 100000 in
set_option maxHeartbeats 4000000 in
theorem rsimple_not {w : World} {v : Value} {L : List (Int × Int)} (hI : PL w v L) (hL : L.length ≤ 50) (h3 : 3 ≤ L.length) (hok : okL L = false) : Calls Try.prog 33 #[v] w (RsPost L w) := by
  have hR := rall_pl hI (by omega)
  rw [hok] at hR
  have HR := Lib.hid hR
  obtain ⟨p, cap, rfl, hc, hi⟩ := hI
  have HN : Hid (¬ rsimP L) := Lib.hid (fun h => by have := h.2.1; rw [hok] at this; cases this)
  have hd : decide ((L.length : Int) < 3) = false := by simp; omega
  clear hi hR
  go_enter Try.func33, Try.ntmps33
  go_wp2_with fail
  refine HR.out.mono ?_
  rintro e w1 ⟨rfl, hb1⟩
  go_wp2_with fail
  go_ret
  exact ⟨false, rfl, rs_no HN.out, hb1⟩
set_option maxRecDepth 100000 in
set_option maxHeartbeats 4000000 in
theorem rsimple_main {w : World} {v : Value} {L : List (Int × Int)} (hI : PL w v L) (hL : L.length ≤ 50) (h3 : 3 ≤ L.length) (hok : okL L = true) : Calls Try.prog 33 #[v] w (RsPost L w) := by
  have hmx : Try.prog.follows .mixedOrders = true := by kernel_rfl
  have hR := rall_pl hI (by omega)
  rw [hok] at hR
  have HR := Lib.hid hR
  obtain ⟨p, cap, rfl, hc, hi⟩ := hI
  have HI := Lib.hid hi
  have hd : decide ((L.length : Int) < 3) = false := by simp; omega
  clear hi hR
  go_enter Try.func33, Try.ntmps33
  go_wp2_with fail
  refine HR.out.mono ?_
  rintro e w1 ⟨rfl, hb1⟩
  have HB1 := Lib.hid hb1
  clear hb1 HR
  go_wp2_with fail
  go_loopg [4] L.length (fun gk i wx => ∃ k : Nat, k + gk = L.length ∧ i = .int .i64 (k : Int) ∧ Hid (Below w.heap.size w wx) ∧ Hid (∀ a, a < k → ∀ b, b < a → ptA L a ≠ ptA L b))
  case atStart => exact ⟨0, by omega, rfl, HB1, Lib.hid (by intro a h; omega)⟩
  case round =>
    obtain ⟨i, hig, rfl, HB2, HD⟩ := hrel
    cases gk with
    | zero =>
      have hiz : ¬ ((i : Int) < (L.length : Int)) := by omega
      have HDD : Hid (∀ a, a < L.length → ∀ b, b < a → ptA L a ≠ ptA L b) := Lib.hid (fun a ha b hb => HD.out a (by omega) b hb)
      clear HD
      go_wp2_with fail
      go_loopg [6] L.length (fun gk i wx => ∃ k : Nat, k + gk = L.length ∧ i = .int .i64 (k : Int) ∧ Hid (Below w.heap.size w wx) ∧ Hid (∀ a, a < k → ∀ b, b < a → clsE L a b = wantE L.length a b))
      case atStart => exact ⟨0, by omega, rfl, HB2, Lib.hid (by intro a h; omega)⟩
      case round =>
        obtain ⟨a, hag, rfl, HB3, HC⟩ := hrel
        cases gk with
        | zero =>
          have haz : ¬ ((a : Int) < (L.length : Int)) := by omega
          have HF : Hid (rsimP L) := Lib.hid ⟨h3, hok, HDD.out, fun x hx y hy => HC.out x (by omega) y hy⟩
          clear HC
          go_wp2_with fail
          go_ret
          exact ⟨true, rfl, ⟨fun _ => HF.out, fun _ => rfl⟩, HB3.out⟩
        | succ ga =>
          have haz : (a : Int) < (L.length : Int) := by omega
          have han : a < L.length := by omega
          go_wp2_with fail
          go_loopg [7] a (fun gk j wx => ∃ k : Nat, k + gk = a ∧ j = .int .i64 (k : Int) ∧ Hid (Below w.heap.size w wx) ∧ Hid (∀ b, b < k → clsE L a b = wantE L.length a b))
          case atStart => exact ⟨0, by omega, rfl, HB3, Lib.hid (by intro a h; omega)⟩
          case round =>
            obtain ⟨c, hcg, rfl, HB4, HE⟩ := hrel
            cases gk with
            | zero =>
              have hcz : ¬ ((c : Int) < (a : Int)) := by omega
              go_wp2_with fail
              go_roundg ga
              case measure => omega
              case rel => exact ⟨a + 1, by omega, by go_num, HB4, Lib.hid fun x hx b hb => by
                by_cases hai : x < a
                · exact HC.out x hai b hb
                · obtain rfl : x = a := by omega
                  exact HE.out b (by omega)⟩
            | succ gc =>
              have hcz : (c : Int) < (a : Int) := by omega
              have hcn : c < L.length := by omega
              obtain ⟨b, off, hpe, hpt⟩ := pl_pt HI.out (by omega) HB4.out
              obtain ⟨j1, hj1⟩ : ∃ j, j = (a + 1) % L.length := ⟨_, rfl⟩
              obtain ⟨j2, hj2⟩ : ∃ j, j = (c + 1) % L.length := ⟨_, rfl⟩
              have hn1 : j1 < L.length := by rw [hj1]; exact Nat.mod_lt _ (by omega)
              have hn2 : j2 < L.length := by rw [hj2]; exact Nat.mod_lt _ (by omega)
              have KC0 := fun d os => rcl_ex L hok a c wr d os
              rw [← hj1, ← hj2] at KC0
              have x1 : IntKind.i64.wrap ((a : Int) + 1) = (a : Int) + 1 := IntWalk.i64_in _ (by omega)
              have x2 : IntKind.i64.wrap ((c : Int) + 1) = (c : Int) + 1 := IntWalk.i64_in _ (by omega)
              have y1 : ((a : Int) + 1) % (L.length : Int) = (j1 : Int) := by
                rw [show ((a : Int) + 1) % (L.length : Int) = (((a + 1) % L.length : Nat) : Int) from by push_cast; rfl, ← hj1]
              have y2 : ((c : Int) + 1) % (L.length : Int) = (j2 : Int) := by
                rw [show ((c : Int) + 1) % (L.length : Int) = (((c + 1) % L.length : Nat) : Int) from by push_cast; rfl, ← hj2]
              have z1 : ((a : Int) + 1).tmod (L.length : Int) = (j1 : Int) := by rw [Int.tmod_eq_emod_of_nonneg (by omega)]; exact y1
              have z2 : ((c : Int) + 1).tmod (L.length : Int) = (j2 : Int) := by rw [Int.tmod_eq_emod_of_nonneg (by omega)]; exact y2
              have x4 : IntKind.i64.wrap (j1 : Int) = (j1 : Int) := IntWalk.i64_in _ (by omega)
              have x5 : IntKind.i64.wrap (j2 : Int) = (j2 : Int) := IntWalk.i64_in _ (by omega)
              have hn0 : ¬ (L.length : Int) = 0 := by omega
              have hn3 : ¬ L.length = 0 := by omega
              have l1 : (a : Int) < (L.length : Int) := by omega
              have l2 : (c : Int) < (L.length : Int) := by omega
              have l3 : (j1 : Int) < (L.length : Int) := by omega
              have l4 : (j2 : Int) < (L.length : Int) := by omega
              have r0 := fun d os => cell_regrown (hpt a han).1 d os
              have r1 := fun d os => cell_regrown (hpt a han).2 d os
              have r2 := fun d os => cell_regrown (hpt j1 hn1).1 d os
              have r3 := fun d os => cell_regrown (hpt j1 hn1).2 d os
              have r4 := fun d os => cell_regrown (hpt c hcn).1 d os
              have r5 := fun d os => cell_regrown (hpt c hcn).2 d os
              have r6 := fun d os => cell_regrown (hpt j2 hn2).1 d os
              have r7 := fun d os => cell_regrown (hpt j2 hn2).2 d os
              have KC := Lib.hid KC0
              have x6 : IntKind.i64.wrap ((a : Int) - (c : Int)) = (a : Int) - (c : Int) := IntWalk.i64_in _ (by omega)
              have x7 : IntKind.i64.wrap ((L.length : Int) - 1) = (L.length : Int) - 1 := IntWalk.i64_in _ (by omega)
              clear hj1 hj2 KC0 hpt
              subst hpe
              generalize hcl : clsE L a c = cl at *
              have HCL := Lib.hid hcl
              clear hcl
              generalize (ptA L a).1 = p1 at *
              generalize (ptA L a).2 = p2 at *
              generalize (ptA L c).1 = p3 at *
              generalize (ptA L c).2 = p4 at *
              generalize (ptA L j1).1 = p5 at *
              generalize (ptA L j1).2 = p6 at *
              generalize (ptA L j2).1 = p7 at *
              generalize (ptA L j2).2 = p8 at *
              go_wp2_with fail
              refine wp_region_quiet_below (by assumption) (by kernel_rfl) ?_
              repeat (go_big_quiet_step ((go_at_call 17; with_reducible exact KC.out _ _)))
              refine wpQuiet_nil ?_
              rintro _ ⟨pg, rfl⟩
              have HB5 := Lib.hid (HB4.out.trans ((below_regrown wr pg.d pg.os).mono HB4.out.size))
              clear r0 r1 r2 r3 r4 r5 r6 r7 KC x1 x2 y1 y2 z1 z2 x4 x5
              generalize grow (redrawn wr pg.d) pg.os = w5 at *
              cases g1 : ((a : Int) - (c : Int) == 1)
              · cases g2 : ((a : Int) - (c : Int) == (L.length : Int) - 1)
                · have G : Hid (¬ (a : Int) - (c : Int) = 1 ∧ ¬ (a : Int) - (c : Int) = (L.length : Int) - 1) := Lib.hid ⟨by simpa using g1, by simpa using g2⟩
                  have HW : Hid (wantE L.length a c = 0) := Lib.hid (by unfold wantE; rw [if_neg]; have := G.out; omega)
                  cases hq : (cl != 0)
                  · have HEQ : Hid (clsE L a c = wantE L.length a c) := Lib.hid (by rw [HCL.out, HW.out]; simpa using hq)
                    go_wp2_with fail
                    go_roundg gc
                    case measure => omega
                    case rel => exact ⟨c + 1, by omega, by go_num, HB5, Lib.hid fun y hy => by
                      by_cases hyc : y < c
                      · exact HE.out y hyc
                      · obtain rfl : y = c := by omega
                        exact HEQ.out⟩
                  · have HN : Hid (¬ rsimP L) := Lib.hid (fun h => by
                      have h9 := h.2.2.2 a han c (by omega)
                      rw [HCL.out, HW.out] at h9
                      rw [h9] at hq
                      simp at hq)
                    go_wp2_with fail
                    go_ret
                    exact ⟨false, rfl, rs_no HN.out, HB5.out⟩
                · have G : Hid ((a : Int) - (c : Int) = (L.length : Int) - 1) := Lib.hid (by simpa using g2)
                  have HW : Hid (wantE L.length a c = 1) := Lib.hid (by unfold wantE; rw [if_pos]; have := G.out; omega)
                  cases hq : (cl != 1)
                  · have HEQ : Hid (clsE L a c = wantE L.length a c) := Lib.hid (by rw [HCL.out, HW.out]; simpa using hq)
                    go_wp2_with fail
                    go_roundg gc
                    case measure => omega
                    case rel => exact ⟨c + 1, by omega, by go_num, HB5, Lib.hid fun y hy => by
                      by_cases hyc : y < c
                      · exact HE.out y hyc
                      · obtain rfl : y = c := by omega
                        exact HEQ.out⟩
                  · have HN : Hid (¬ rsimP L) := Lib.hid (fun h => by
                      have h9 := h.2.2.2 a han c (by omega)
                      rw [HCL.out, HW.out] at h9
                      rw [h9] at hq
                      simp at hq)
                    go_wp2_with fail
                    go_ret
                    exact ⟨false, rfl, rs_no HN.out, HB5.out⟩
              · have G : Hid ((a : Int) - (c : Int) = 1) := Lib.hid (by simpa using g1)
                have HW : Hid (wantE L.length a c = 1) := Lib.hid (by unfold wantE; rw [if_pos]; have := G.out; omega)
                cases hq : (cl != 1)
                · have HEQ : Hid (clsE L a c = wantE L.length a c) := Lib.hid (by rw [HCL.out, HW.out]; simpa using hq)
                  go_wp2_with fail
                  go_roundg gc
                  case measure => omega
                  case rel => exact ⟨c + 1, by omega, by go_num, HB5, Lib.hid fun y hy => by
                    by_cases hyc : y < c
                    · exact HE.out y hyc
                    · obtain rfl : y = c := by omega
                      exact HEQ.out⟩
                · have HN : Hid (¬ rsimP L) := Lib.hid (fun h => by
                    have h9 := h.2.2.2 a han c (by omega)
                    rw [HCL.out, HW.out] at h9
                    rw [h9] at hq
                    simp at hq)
                  go_wp2_with fail
                  go_ret
                  exact ⟨false, rfl, rs_no HN.out, HB5.out⟩
    | succ gi =>
      have hiz : (i : Int) < (L.length : Int) := by omega
      have hin : i < L.length := by omega
      go_wp2_with fail
      go_loopg [5] i (fun gk j wx => ∃ k : Nat, k + gk = i ∧ j = .int .i64 (k : Int) ∧ Hid (Below w.heap.size w wx) ∧ Hid (∀ b, b < k → ptA L i ≠ ptA L b))
      case atStart => exact ⟨0, by omega, rfl, HB2, Lib.hid (by intro a h; omega)⟩
      case round =>
        obtain ⟨k, hkg, rfl, HB3, HE⟩ := hrel
        cases gk with
        | zero =>
          have hkz : ¬ ((k : Int) < (i : Int)) := by omega
          go_wp2_with fail
          go_roundg gi
          case measure => omega
          case rel => exact ⟨i + 1, by omega, by go_num, HB3, Lib.hid fun a ha b hb => by
            by_cases hai : a < i
            · exact HD.out a hai b hb
            · obtain rfl : a = i := by omega
              exact HE.out b (by omega)⟩
        | succ gk' =>
          have hkz : (k : Int) < (i : Int) := by omega
          have hkn : k < L.length := by omega
          obtain ⟨b, off, rfl, hbl, c0, c1⟩ := HI.out i hin
          obtain ⟨b', off', e, _, d0, d1⟩ := HI.out k hkn
          obtain ⟨rfl, rfl⟩ : b' = b ∧ off' = off := by injection e with e; injection e with e1 e2; exact ⟨e1.symm, e2.symm⟩
          have hlt1 : (i : Int) < (L.length : Int) := by omega
          have hlt2 : (k : Int) < (L.length : Int) := by omega
          have c0 := cell_later HB3.out c0
          have c1 := cell_later HB3.out c1
          have d0 := cell_later HB3.out d0
          have d1 := cell_later HB3.out d1
          have HP : Hid (ptA L i = L[i]) := Lib.hid (ptA_at hin)
          have HQ : Hid (ptA L k = L[k]) := Lib.hid (ptA_at hkn)
          generalize L[i] = P at *
          generalize L[k] = Q at *
          have q1 := req_pt P.1 P.2 Q.1 Q.2
          have HEq := Lib.hid (eqB_iff P.1 P.2 Q.1 Q.2)
          cases he : eqB P.1 P.2 Q.1 Q.2
          · rw [he] at q1
            have HNe : Hid (P ≠ Q) := Lib.hid (fun h => by have := HEq.out.2 ⟨by rw [h], by rw [h]⟩; rw [he] at this; cases this)
            clear he
            go_wp2_with fail
            go_quiet (fail)
            have hb3 := Lib.hid (below_drewN HB3.out nq)
            clear c0 c1 d0 d1 q1
            generalize wr.drewN nq = w3 at *
            go_wp2_with fail
            go_roundg gk'
            case measure => omega
            case rel => exact ⟨k + 1, by omega, by go_num, hb3, Lib.hid fun b hb => by
              by_cases hbk : b < k
              · exact HE.out b hbk
              · obtain rfl : b = k := by omega
                rw [HP.out, HQ.out]; exact HNe.out⟩
          · rw [he] at q1
            have HN : Hid (¬ rsimP L) := Lib.hid (fun h => h.2.2.1 i hin k (by omega) (by rw [HP.out, HQ.out]; have := HEq.out.1 he; exact Prod.ext this.1 this.2))
            clear he
            go_wp2_with fail
            go_quiet (fail)
            have hb3 := Lib.hid (below_drewN HB3.out nq)
            clear c0 c1 d0 d1 q1
            generalize wr.drewN nq = w3 at *
            go_wp2_with fail
            go_ret
            exact ⟨false, rfl, rs_no HN.out, hb3.out⟩
theorem rsimple_any {w : World} {v : Value} {L : List (Int × Int)} (hI : PL w v L) (hL : L.length ≤ 50) : Calls Try.prog 33 #[v] w (RsPost L w) := by
  by_cases h3 : 3 ≤ L.length
  · cases hok : okL L
    · exact rsimple_not hI hL h3 hok
    · exact rsimple_main hI hL h3 hok
  · exact rsimple_few hI (by omega)
end Go.Proofs.Ytmhmccicnebhaaa
