/- Layer 5's example: the law's known answers true. -/
import Derived.Test.YtbdmmgplpndobaaHeapV
namespace Go.Proofs.Ytbdmmgplpndobaa
open Go.RowKit Go.Sort Go.Deep

theorem kn5_a : addF [] (2, 0, 0) = [((2, 0, 0), 1)] := by decide
theorem kn5_b : addF [((2, 0, 0), 1)] (1, 5, 0) = [((1, 5, 0), 1), ((2, 0, 0), 1)] := by decide
theorem kn5_c : addF [((1, 5, 0), 1), ((2, 0, 0), 1)] (1, 4, 9) = [((1, 4, 9), 1), ((2, 0, 0), 1), ((1, 5, 0), 1)] := by decide
theorem kn5_eq {P : List Pile} (h : AdR [] [(2, 0, 0), (1, 5, 0), (1, 4, 9)] P) : P = [((1, 4, 9), 1), ((2, 0, 0), 1), ((1, 5, 0), 1)] := by
  obtain ⟨P1, s1, P2, s2, P3, s3, rfl⟩ := h
  obtain ⟨_, rfl⟩ | ⟨i, hi, hk, _⟩ := s1
  · rw [kn5_a] at s2
    obtain ⟨_, rfl⟩ | ⟨i, hi, hk, _⟩ := s2
    · rw [kn5_b] at s3
      obtain ⟨_, rfl⟩ | ⟨i, hi, hk, _⟩ := s3
      · exact kn5_c
      · match i, hi with
        | 0, _ => simp [pA] at hk
        | 1, _ => simp [pA] at hk
    · match i, hi with
      | 0, _ => simp [pA] at hk
  · simp at hi
/-- The zero heap, made. -/
theorem hpz_new (W : World) : HpZ (W.alloc (.cells #[.slice none 0 0, .map none, .int .i64 0] 28)) W.heap.size W.heap.size 0 := by
  refine ⟨?_, ?_, ?_, ?_, ?_, ?_, Nat.le_refl _⟩ <;> go_simp
theorem hpi_new (W : World) : HpI (W.alloc (.cells #[.slice none 0 0, .map none, .int .i64 0] 28)) W.heap.size W.heap.size W.heap.size W.heap.size [] 0 :=
  ⟨.inl ⟨rfl, rfl, rfl, hpz_new W⟩, fun p hp => by simp at hp, rfl⟩
theorem Frm.belowed {w W W1 : World} {hb g mb : Nat} (h : Frm hb g mb W W1) (hb0 : Below w.heap.size w W) (h1 : w.heap.size ≤ hb) (h2 : w.heap.size ≤ g) (h3 : w.heap.size ≤ mb) : Below w.heap.size w W1 := by
  have hs := hb0.size
  exact ⟨h.os.trans hb0.os, h.tape.trans hb0.tape, h.output.trans hb0.output, Nat.le_trans hb0.size h.size, fun j hj => (h.block j (by omega) (by omega) (by omega) (by omega)).trans (hb0.block j hj)⟩
theorem eq_E (a b : E3) (w : World) : Sem.run Try.prog (binOp .eql 31 (encE3 a) (encE3 b)) w = .ok (.bool (eqE a b)) w := by
  have h := equal_E a b w
  unfold encE3 at *
  simp only [binOp]
  simp [Op.equal, Op.maxDepth, h]
theorem ei_three (W : World) (hb g mb : Nat) (a b c : E3) (h1 : hb < W.heap.size) (h2 : g < W.heap.size) (h3 : mb < W.heap.size) :
    EI (W.alloc (.cells #[.int .i64 a.1, .int .i64 a.2.1, .int .i64 a.2.2, .int .i64 b.1, .int .i64 b.2.1, .int .i64 b.2.2, .int .i64 c.1, .int .i64 c.2.1, .int .i64 c.2.2] 31)) hb g mb (.slice (some ⟨W.heap.size, 0, none⟩) 3 3) [a, b, c] := by
  refine ⟨_, 3, rfl, by simp, fun i hi => ⟨_, 0, rfl, by omega, by omega, by omega, ?_⟩⟩
  match i, hi with
  | 0, _ => refine ⟨?_, ?_, ?_⟩ <;> go_simp
  | 1, _ => refine ⟨?_, ?_, ?_⟩ <;> go_simp
  | 2, _ => refine ⟨?_, ?_, ?_⟩ <;> go_simp
set_option maxRecDepth 100000 in
set_option maxHeartbeats 4000000 in
theorem known5_yes (w : World) : Calls Try.prog 19 #[] w fun e w' => e = .returned (.bool true) ∧ Below w.heap.size w w' := by
  have H0 := Lib.hid (hpi_new w)
  have HL := H0.out.lts
  have HEI := Lib.hid (ei_three (w.alloc (.cells #[.slice none 0 0, .map none, .int .i64 0] 28)) w.heap.size w.heap.size w.heap.size (2, 0, 0) (1, 5, 0) (1, 4, 9) HL.1 HL.1 HL.1)
  have HB0 := Lib.hid (below_after (below_alloc w (.cells #[.slice none 0 0, .map none, .int .i64 0] 28)) (below_alloc _ (.cells #[.int .i64 2, .int .i64 0, .int .i64 0, .int .i64 1, .int .i64 5, .int .i64 0, .int .i64 1, .int .i64 4, .int .i64 9] 31)))
  have HP := Lib.hid (hpush_any (H0.out.keep (below_alloc _ (.cells #[.int .i64 2, .int .i64 0, .int .i64 0, .int .i64 1, .int .i64 5, .int .i64 0, .int .i64 1, .int .i64 4, .int .i64 9] 31))) HEI.out (by decide))
  rw [World.size_alloc] at HP
  have heq := eq_E (1, 4, 9) (1, 4, 9)
  rw [show eqE (1, 4, 9) (1, 4, 9) = true from by decide] at heq
  simp only [encE3] at heq
  clear HL
  go_enter Try.func19, Try.ntmps19
  go_wp2_with fail
  go_at_call 12
  refine HP.out.mono ?_
  rintro en w1 ⟨rfl, hf1, g1, mb1, P1, hg1, hm1, h1, r1⟩
  obtain rfl := kn5_eq r1
  have hge : w.heap.size ≤ g1 ∧ w.heap.size ≤ mb1 := by simp at hg1 hm1; omega
  have HB1 := Lib.hid (hf1.belowed HB0.out (Nat.le_refl _) (Nat.le_refl _) (Nat.le_refl _))
  have H1 := Lib.hid h1
  have HPo := Lib.hid (hpop_any H1.out (by decide))
  clear hf1 r1 h1 H0 HP HEI HB0 hg1 hm1
  go_wp2_with fail
  go_at_call 8
  refine HPo.out.mono ?_
  rintro en w2 (⟨h, _⟩ | ⟨_, rfl, hf2, _⟩)
  · cases h
  have HB2 := Lib.hid (hf2.belowed HB1.out (Nat.le_refl _) hge.1 hge.2)
  clear hf2 HPo HB1 H1 hge
  simp only [encE3, pA, List.getD_cons_zero]
  go_wp2_with fail
  go_ret
  exact ⟨rfl, HB2.out.alloc HB2.out.size _⟩
end Go.Proofs.Ytbdmmgplpndobaa
