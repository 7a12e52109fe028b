/- Walks of the heap's list: rise, sink. -/
import Derived.Test.YtbdmmgplpndobaaHeapX
import Derived.Test.YtbdmmgplpndobaaHeapP
import Derived.ScopeJumps
namespace Go.Proofs.Ytbdmmgplpndobaa
open Go.RowKit Go.Sort Go.Deep

theorem wp_scope_head {P : Program} {a : Act} {w : World} {Q : Exit → Act → World → Prop} {b : Code} (l : Nat) (J : Act → World → Prop) (μ : Act → World → Nat) (start : J a w)
    (pass : ∀ a w, J a w → b.wp P (Exit.jump l (fun a' w' => J a' w' ∧ μ a' w' < μ a w) Q) a w) : (Code.scope ((Code.label l).seq b)).wp P Q a w := by
  refine wp_scope_jumps (rest := Code.skip.seq b) l J μ (by simp [findLabel]) (wp_seq (wp_label ?_)) (fun a w h => wp_seq (wp_skip (pass a w h)))
  show b.wp P (Exit.jump l J Q) a w
  refine wp_mono (pass a w start) ?_
  intro e a' w' h
  cases e with
  | goto l' => exact ⟨h.1, h.2.1⟩
  | normal => exact h
  | exit id => exact h
  | ret => exact h
  | panic ch => exact h
  | outgrown => exact h
theorem lswap2 {W : World} {B hb g mb cap : Nat} {P : List Pile} {cnt : Int} {ps : List (E3 × Int)} (h : HpG W B hb g mb cap P cnt ps) {a b : Nat} (ha : a < P.length) (hbl : b < P.length) :
    Calls Try.prog 76 #[.pointer (some ⟨hb, 0, none⟩), .int .i64 (a : Int), .int .i64 (b : Int)] W (PutPost W B hb g mb cap (swpL P a b) cnt (updS P ps a b)) := by
  have := lswap_any h ha hbl
  unfold swpL updS
  rw [pA_at ha, pA_at hbl]
  exact this
theorem lless2 {W : World} {B hb g mb cap : Nat} {P : List Pile} {cnt : Int} {ps : List (E3 × Int)} (h : HpG W B hb g mb cap P cnt ps) {a b : Nat} (ha : a < P.length) (hbl : b < P.length) :
    Calls Try.prog 75 #[.pointer (some ⟨hb, 0, none⟩), .int .i64 (a : Int), .int .i64 (b : Int)] W fun e w' => e = .returned (.bool (ltE (pA P a).1 (pA P b).1)) ∧ Below W.heap.size W w' := by
  rw [pA_at ha, pA_at hbl]
  exact lless_any h ha hbl
def RiF (hb i : Nat) (a : Act) : Prop := ∃ x2 x3 x4 x5 x6 x7 x8 x9 x10 x11 x12 x13 x14 x15 x16 x17 x18 x19 x20 x21 : Value, a = { tmps := #[.pointer (some ⟨hb, 0, none⟩), .int .i64 (i : Int), x2, x3, x4, x5, x6, x7, x8, x9, x10, x11, x12, x13, x14, x15, x16, x17, x18, x19, x20, x21], defers := [] }
/-- Behind a walk that moves piles: what is held, and that the map says where. -/
def MvPost (W : World) (B hb g mb cap : Nat) (P : List Pile) (cnt : Int) (e : Ending) (w' : World) : Prop :=
  e = .returned (.tuple #[]) ∧ ∃ ps, HpG w' B hb g mb cap P cnt ps ∧ Gd P ps ∧ Frm hb g mb W w'
def RiJ (W0 : World) (B hb g mb cap : Nat) (n : Nat) (R : List Pile) (cnt : Int) (a : Act) (W : World) : Prop :=
  ∃ (i k : Nat) (P : List Pile) (ps : List (E3 × Int)), RiF hb i a ∧ HpG W B hb g mb cap P cnt ps ∧ Gd P ps ∧ i < P.length ∧ P.length = n ∧ i < k ∧ riseF k P i = R ∧ Frm hb g mb W0 W
def plF (a : Act) : Nat := (intOf (a.tmps.getD 1 undef)).toNat
set_option maxRecDepth 100000 in
set_option maxHeartbeats 2000000 in
theorem lrise_any {W : World} {B hb g mb cap : Nat} {P : List Pile} {cnt : Int} {ps : List (E3 × Int)} (h : HpG W B hb g mb cap P cnt ps) (hg : Gd P ps) {i : Nat} (hi : i < P.length) (hn : P.length ≤ 1000000) :
    Calls Try.prog 58 #[.pointer (some ⟨hb, 0, none⟩), .int .i64 (i : Int)] W (MvPost W B hb g mb cap (riseF (i + 1) P i) cnt) := by
  have H0 := Lib.hid h
  have HG0 := Lib.hid hg
  clear h hg
  generalize hR : riseF (i + 1) P i = R
  have HR := Lib.hid hR
  clear hR
  go_enter Try.func58, Try.ntmps58
  refine wp_scope_head 0 (RiJ W B hb g mb cap P.length R cnt) (fun a _ => plF a) ⟨i, i + 1, P, ps, ⟨_, _, _, _, _, _, _, _, _, _, _, _, _, _, _, _, _, _, _, _, rfl⟩, H0.out, HG0.out, hi, rfl, by omega, HR.out, Frm.refl _ _ _ _⟩ ?_
  rintro a V ⟨j, k, Q, qs, ⟨x2, x3, x4, x5, x6, x7, x8, x9, x10, x11, x12, x13, x14, x15, x16, x17, x18, x19, x20, x21, rfl⟩, hH, hG, hj, hQ, hk, hr, hF⟩
  have H := Lib.hid hH
  have HG := Lib.hid hG
  have HQ := Lib.hid hQ
  have HRr := Lib.hid hr
  have HF := Lib.hid hF
  have hjn : j < 1000000 := by omega
  clear hH hG hQ hr hF H0 HG0 HR
  go_upto_region 0 with fail
  go_cut [4] (fun s wx => s = .int .i64 (((j - 1) / 2 : Nat) : Int) ∧ wx = V)
  case first =>
    by_cases h0 : j = 0
    · subst h0
      go_wp2_with fail
      go_meet
      exact ⟨by first | rfl | (congr 1; omega), rfl⟩
    · have y1 : (1 : Int) ≤ (j : Int) := by omega
      go_wp2_with fail
      go_meet
      exact ⟨by congr 1; omega, rfl⟩
  case rest =>
    obtain ⟨rfl, hw⟩ := hcut
    have hw' := hw.symm; clear hw; subst hw'
    by_cases h0 : j = 0
    · subst h0
      obtain ⟨k, rfl⟩ : ∃ m, k = m + 1 := ⟨k - 1, by omega⟩
      have HE : Hid (Q = R) := Lib.hid (by rw [← HRr.out]; unfold riseF; rw [if_pos rfl])
      go_wp2_with fail
      exact bodyPost_ret (v := .tuple #[]) (by simp [results, go_sem]) rfl ⟨rfl, qs, by rw [← HE.out]; exact H.out, by rw [← HE.out]; exact HG.out, HF.out⟩
    · obtain ⟨k, rfl⟩ : ∃ m, k = m + 1 := ⟨k - 1, by omega⟩
      have hjz : ((j : Int) == 0) = false := by simp; omega
      have HRi : Hid ((if ltE (pA Q j).1 (pA Q ((j - 1) / 2)).1 then riseF k (swpL Q j ((j - 1) / 2)) ((j - 1) / 2) else Q) = R) := Lib.hid (by
        have h := HRr.out
        unfold riseF at h
        rw [if_neg h0] at h
        exact h)
      have hup : (j - 1) / 2 < Q.length := by omega
      have hup2 : (j - 1) / 2 < j := by omega
      generalize (j - 1) / 2 = u at *
      have HK := Lib.hid (lless2 H.out hj hup)
      generalize ltE (pA Q j).1 (pA Q u).1 = l at *
      go_wp2_with fail
      go_at_call 75
      refine Calls.mono HK.out ?_
      rintro e w1 ⟨rfl, hb1⟩
      have H1 := Lib.hid (H.out.keep hb1)
      have HF1 := Lib.hid (HF.out.trans (Frm.below hb1))
      clear hb1 HK
      cases l
      · have HE : Hid (Q = R) := Lib.hid (by have := HRi.out; simpa using this)
        go_wp2_with fail
        exact bodyPost_ret (v := .tuple #[]) (by simp [results, go_sem]) rfl ⟨rfl, qs, by rw [← HE.out]; exact H1.out, by rw [← HE.out]; exact HG.out, HF1.out⟩
      · have HE : Hid (riseF k (swpL Q j u) u = R) := Lib.hid (by have := HRi.out; simpa using this)
        have HK2 := Lib.hid (lswap2 H1.out hj hup)
        have HG2 := Lib.hid (HG.out.swp hj hup)
        go_wp2_with fail
        go_at_call 76
        refine Calls.mono HK2.out ?_
        rintro e w2 ⟨rfl, hh2, hf2⟩
        have H2 := Lib.hid hh2
        have HF2 := Lib.hid (HF1.out.trans hf2)
        clear hh2 hf2
        go_wp2_with fail
        go_step3
        refine ⟨rfl, ⟨u, k, swpL Q j u, updS Q qs j u, ⟨_, _, _, _, _, _, _, _, _, _, _, _, _, _, _, _, _, _, _, _, rfl⟩, H2.out, HG2.out, by rw [swpL_len]; exact hup, by rw [swpL_len]; exact HQ.out, by omega, HE.out, HF2.out⟩, ?_⟩
        simp [plF, intOf]; omega
def SiF (hb i : Nat) (a : Act) : Prop := ∃ x2 x3 x4 x5 x6 x7 x8 x9 x10 x11 x12 x13 x14 x15 x16 x17 x18 x19 x20 x21 x22 x23 x24 x25 x26 x27 x28 x29 x30 x31 x32 x33 x34 x35 x36 x37 x38 : Value, a = { tmps := #[.pointer (some ⟨hb, 0, none⟩), .int .i64 (i : Int), x2, x3, x4, x5, x6, x7, x8, x9, x10, x11, x12, x13, x14, x15, x16, x17, x18, x19, x20, x21, x22, x23, x24, x25, x26, x27, x28, x29, x30, x31, x32, x33, x34, x35, x36, x37, x38], defers := [] }
def SiJ (W0 : World) (B hb g mb cap : Nat) (n : Nat) (R : List Pile) (cnt : Int) (a : Act) (W : World) : Prop :=
  ∃ (i k : Nat) (P : List Pile) (ps : List (E3 × Int)), SiF hb i a ∧ HpG W B hb g mb cap P cnt ps ∧ Gd P ps ∧ i < P.length ∧ P.length = n ∧ n < i + k ∧ sinkF k P i = R ∧ Frm hb g mb W0 W
def lstS (P : List Pile) (i : Nat) : Nat → Nat
  | 0 => i
  | 1 => least1 P i
  | _ => least2 P i
theorem lstS_step {P : List Pile} {i st : Nat} (h : st < 2) : lstS P i (st + 1) = if 2 * i + 1 + st < P.length ∧ ltE (pA P (2 * i + 1 + st)).1 (pA P (lstS P i st)).1 = true then 2 * i + 1 + st else lstS P i st := by
  match st, h with
  | 0, _ => rfl
  | 1, _ => rfl
theorem lstS_lt {P : List Pile} {i : Nat} (h : i < P.length) (st : Nat) : lstS P i st < P.length := by
  match st with
  | 0 => exact h
  | 1 => exact (least1_lt h).1
  | _ + 2 => exact (least2_lt h).1
set_option maxRecDepth 100000 in
set_option maxHeartbeats 4000000 in
theorem lsink_any {W : World} {B hb g mb cap : Nat} {P : List Pile} {cnt : Int} {ps : List (E3 × Int)} (h : HpG W B hb g mb cap P cnt ps) (hg : Gd P ps) {i : Nat} (hi : i < P.length) (hn : P.length ≤ 1000000) :
    Calls Try.prog 74 #[.pointer (some ⟨hb, 0, none⟩), .int .i64 (i : Int)] W (MvPost W B hb g mb cap (sinkF (P.length + 1 - i) P i) cnt) := by
  have H0 := Lib.hid h
  have HG0 := Lib.hid hg
  clear h hg
  generalize hR : sinkF (P.length + 1 - i) P i = R
  have HR := Lib.hid hR
  clear hR
  go_enter Try.func74, Try.ntmps74
  refine wp_scope_head 0 (SiJ W B hb g mb cap P.length R cnt) (fun a _ => P.length - plF a) ⟨i, P.length + 1 - i, P, ps, ⟨_, _, _, _, _, _, _, _, _, _, _, _, _, _, _, _, _, _, _, _, _, _, _, _, _, _, _, _, _, _, _, _, _, _, _, _, _, rfl⟩, H0.out, HG0.out, hi, rfl, by omega, HR.out, Frm.refl _ _ _ _⟩ ?_
  rintro a V ⟨j, k, Q, qs, ⟨x2, x3, x4, x5, x6, x7, x8, x9, x10, x11, x12, x13, x14, x15, x16, x17, x18, x19, x20, x21, x22, x23, x24, x25, x26, x27, x28, x29, x30, x31, x32, x33, x34, x35, x36, x37, x38, rfl⟩, hH, hG, hj, hQ, hk, hr, hF⟩
  have H := Lib.hid hH
  have HG := Lib.hid hG
  have HQ := Lib.hid hQ
  have HRr := Lib.hid hr
  have HF := Lib.hid hF
  have hjn : j < 1000000 := by omega
  have hQn : Q.length ≤ 1000000 := by omega
  have hkQ : Q.length < j + k := by omega
  clear hH hG hQ hr hF H0 HG0 HR hk
  go_wp2_with fail
  go_loopg [4, 5] 2 (fun gk s t wx => ∃ st : Nat, gk = 2 - st ∧ st ≤ 2 ∧ t = .int .i64 ((2 * j + 1 + st : Nat) : Int) ∧ s = .int .i64 (lstS Q j st : Int) ∧ Hid (HpG wx B hb g mb cap Q cnt qs) ∧ Hid (Frm hb g mb W wx))
  case atStart => exact ⟨0, rfl, by omega, by push_cast; rfl, rfl, H, HF⟩
  case round =>
    clear H HF
    obtain ⟨st, hgk, hst, rfl, rfl, H, HF⟩ := hrel
    by_cases hs2 : st < 2
    · have c0 := H.out.c0
      have hstep := lstS_step (P := Q) (i := j) hs2
      have hll := lstS_lt hj st
      have z1 : ((2 * j + 1 + st : Nat) : Int) ≤ 2 * (j : Int) + 2 := by omega
      generalize hbl : 2 * j + 1 + st = bl at *
      have HBl := Lib.hid hbl
      have hbn : bl < 3000000 := by omega
      clear hbl
      by_cases hlt : bl < Q.length
      · have hltz : (bl : Int) < (Q.length : Int) := by omega
        have HK := Lib.hid (lless2 H.out hlt hll)
        have HSt : Hid (lstS Q j (st + 1) = if ltE (pA Q bl).1 (pA Q (lstS Q j st)).1 = true then bl else lstS Q j st) := Lib.hid (by rw [hstep]; simp [hlt])
        clear hstep
        generalize ltE (pA Q bl).1 (pA Q (lstS Q j st)).1 = l at *
        go_wp2_with fail
        go_at_call 75
        refine Calls.mono HK.out ?_
        rintro e w1 ⟨rfl, hb1⟩
        have H1 := Lib.hid (H.out.keep hb1)
        have HF1 := Lib.hid (HF.out.trans (Frm.below hb1))
        clear hb1 HK
        cases l
        · go_wp2_with fail
          go_roundg (2 - (st + 1))
          case measure => omega
          case rel => exact ⟨st + 1, rfl, by omega, by have := HBl.out; congr 1; omega, by have := HSt.out; rw [this]; simp, H1, HF1⟩
        · go_wp2_with fail
          go_roundg (2 - (st + 1))
          case measure => omega
          case rel => exact ⟨st + 1, rfl, by omega, by have := HBl.out; congr 1; omega, by have := HSt.out; rw [this]; simp, H1, HF1⟩
      · have hltz : ¬ (bl : Int) < (Q.length : Int) := by omega
        have HSt : Hid (lstS Q j (st + 1) = lstS Q j st) := Lib.hid (by rw [hstep, if_neg (fun c => hlt c.1)])
        clear hstep
        go_wp2_with fail
        go_roundg (2 - (st + 1))
        case measure => omega
        case rel => exact ⟨st + 1, rfl, by omega, by have := HBl.out; congr 1; omega, by rw [HSt.out], H, HF⟩
    · obtain rfl : st = 2 := by omega
      have z1 : ¬ ((2 * j + 1 + 2 : Nat) : Int) ≤ 2 * (j : Int) + 2 := by omega
      have hll := least2_lt hj
      have HL2 : Hid (lstS Q j 2 = least2 Q j) := Lib.hid rfl
      rw [HL2.out]
      obtain ⟨k, rfl⟩ : ∃ m, k = m + 1 := ⟨k - 1, by omega⟩
      have HRi : Hid ((if least2 Q j = j then Q else sinkF k (swpL Q j (least2 Q j)) (least2 Q j)) = R) := Lib.hid HRr.out
      generalize least2 Q j = u at *
      by_cases huj : u = j
      · have HE : Hid (Q = R) := Lib.hid (by have := HRi.out; simpa [huj] using this)
        have hz : ((u : Int) == (j : Int)) = true := by simp [huj]
        go_wp2_with fail
        exact bodyPost_ret (v := .tuple #[]) (by simp [results, go_sem]) rfl ⟨rfl, qs, by rw [← HE.out]; exact H.out, by rw [← HE.out]; exact HG.out, HF.out⟩
      · have HE : Hid (sinkF k (swpL Q j u) u = R) := Lib.hid (by have := HRi.out; simpa [huj] using this)
        have hz : ((u : Int) == (j : Int)) = false := by simp; omega
        have HK2 := Lib.hid (lswap2 H.out hj hll.1)
        have HG2 := Lib.hid (HG.out.swp hj hll.1)
        go_wp2_with fail
        go_at_call 76
        refine Calls.mono HK2.out ?_
        rintro e w2 ⟨rfl, hh2, hf2⟩
        have H2 := Lib.hid hh2
        have HF2 := Lib.hid (HF.out.trans hf2)
        clear hh2 hf2
        go_wp2_with fail
        go_step3
        refine ⟨rfl, ⟨u, k, swpL Q j u, updS Q qs j u, ⟨_, _, _, _, _, _, _, _, _, _, _, _, _, _, _, _, _, _, _, _, _, _, _, _, _, _, _, _, _, _, _, _, _, _, _, _, _, rfl⟩, H2.out, HG2.out, by rw [swpL_len]; exact hll.1, by rw [swpL_len]; exact HQ.out, by have := HQ.out; omega, HE.out, HF2.out⟩, ?_⟩
        have := HQ.out
        simp [plF, intOf]; omega
end Go.Proofs.Ytbdmmgplpndobaa
