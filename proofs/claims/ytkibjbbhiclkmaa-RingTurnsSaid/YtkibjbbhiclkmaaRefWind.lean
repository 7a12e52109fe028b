/- The walks of the document's winding: above, On, Winding. -/
import Derived.Test.YtkibjbbhiclkmaaRefArea
import Derived.BigQuiet
import Derived.Lib.QuietBelow
namespace Go.Proofs.Ytkibjbbhiclkmaa
open Go.RowKit Go.Sort

def rabV (a b p : Int × Int) : Int := vW (decide (p.1 < a.1)) (decide (p.1 < b.1)) (crI a.1 a.2 b.1 b.2 p.1 p.2)
structure ThreeP (w W : World) (a b p : Int × Int) : Prop where
  a0 : W.cell? ⟨w.heap.size, 0, none⟩ = some (.int .i64 a.1)
  a1 : W.cell? ⟨w.heap.size, 1, none⟩ = some (.int .i64 a.2)
  b0 : W.cell? ⟨w.heap.size + 1, 0, none⟩ = some (.int .i64 b.1)
  b1 : W.cell? ⟨w.heap.size + 1, 1, none⟩ = some (.int .i64 b.2)
  p0 : W.cell? ⟨w.heap.size + 1 + 1, 0, none⟩ = some (.int .i64 p.1)
  p1 : W.cell? ⟨w.heap.size + 1 + 1, 1, none⟩ = some (.int .i64 p.2)
  below : Below w.heap.size w W
theorem ThreeP.later {w W w1 : World} {a b p : Int × Int} (h : ThreeP w W a b p) (hb : Below W.heap.size W w1) : ThreeP w w1 a b p :=
  ⟨cell_later hb h.a0, cell_later hb h.a1, cell_later hb h.b0, cell_later hb h.b1, cell_later hb h.p0, cell_later hb h.p1, h.below.trans (hb.mono h.below.size)⟩

set_option maxRecDepth 100000 in
set_option maxHeartbeats 2000000 in
theorem rabove_any (a b p : Int × Int) (w : World) (h : ok3 a.1 a.2 b.1 b.2 p.1 p.2 = true) :
    Calls Try.prog 63 #[.agg #[.int .i64 a.1, .int .i64 a.2], .agg #[.int .i64 b.1, .int .i64 b.2], .agg #[.int .i64 p.1, .int .i64 p.2]] w
      fun e w' => e = .returned (.int .i64 (rabV a b p)) ∧ Below w.heap.size w w' := by
  have HT : Hid (ThreeP w (((w.alloc (.cells #[.int .i64 a.1, .int .i64 a.2] 32)).alloc (.cells #[.int .i64 b.1, .int .i64 b.2] 32)).alloc (.cells #[.int .i64 p.1, .int .i64 p.2] 32)) a b p) :=
    Lib.hid ⟨by go_simp, by go_simp, by go_simp, by go_simp, by go_simp, by go_simp, (b2 _ _ _).trans ((b1 _ _).mono (by simp <;> omega))⟩
  have HC := Lib.hid (fun W => rcross_yes a.1 a.2 b.1 b.2 p.1 p.2 W h)
  clear h
  have g3 : decide (b.1 ≤ p.1) = !decide (p.1 < b.1) := by rw [Bool.eq_iff_iff]; simp
  have g1 : decide (a.1 ≤ p.1) = !decide (p.1 < a.1) := by rw [Bool.eq_iff_iff]; simp
  unfold rabV
  generalize crI a.1 a.2 b.1 b.2 p.1 p.2 = c at *
  cases g4 : decide (p.1 < a.1)
  · cases g2 : decide (p.1 < b.1)
    · rw [g4] at g1
      rw [g2] at g3
      simp only [Bool.not_false] at g1 g3
      go_enter Try.func63, Try.ntmps63
      go_wp2_with fail
      go_ret
      exact ⟨by unfold vW; simp, HT.out.below⟩
    · rw [g4] at g1
      rw [g2] at g3
      simp only [Bool.not_false, Bool.not_true] at g1 g3
      go_enter Try.func63, Try.ntmps63
      go_wp2_with fail
      refine (HC.out _).mono ?_
      rintro e w1 ⟨rfl, hb1⟩
      have hT := HT.out.later hb1
      obtain ⟨c0, c1, c2, c3, c4, c5, hB⟩ := hT
      clear hb1
      cases g5 : decide (c < 0)
      · go_wp2_with fail
        go_ret
        exact ⟨by unfold vW; rw [g5]; simp, hB⟩
      · go_wp2_with fail
        go_ret
        exact ⟨by unfold vW; rw [g5]; simp, hB⟩
  · cases g2 : decide (p.1 < b.1)
    · rw [g4] at g1
      rw [g2] at g3
      simp only [Bool.not_false, Bool.not_true] at g1 g3
      go_enter Try.func63, Try.ntmps63
      go_wp2_with fail
      refine (HC.out _).mono ?_
      rintro e w1 ⟨rfl, hb1⟩
      have hT := HT.out.later hb1
      obtain ⟨c0, c1, c2, c3, c4, c5, hB⟩ := hT
      clear hb1
      cases g5 : decide (0 < c)
      · go_wp2_with fail
        go_ret
        exact ⟨by unfold vW; rw [g5]; simp, hB⟩
      · go_wp2_with fail
        go_ret
        exact ⟨by unfold vW; rw [g5]; simp, hB⟩
    · rw [g4] at g1
      rw [g2] at g3
      simp only [Bool.not_true] at g1 g3
      go_enter Try.func63, Try.ntmps63
      go_wp2_with fail
      go_ret
      exact ⟨by unfold vW; simp, HT.out.below⟩

/-- The point's box. -/
structure OneP (w W : World) (p : Int × Int) : Prop where
  p0 : W.cell? ⟨w.heap.size, 0, none⟩ = some (.int .i64 p.1)
  p1 : W.cell? ⟨w.heap.size, 1, none⟩ = some (.int .i64 p.2)
  below : Below w.heap.size w W
theorem OneP.later {w W w1 : World} {p : Int × Int} (h : OneP w W p) (hb : Below W.heap.size W w1) : OneP w w1 p :=
  ⟨cell_later hb h.p0, cell_later hb h.p1, h.below.trans (hb.mono h.below.size)⟩
structure QP (w W : World) (k0 k1 : Nat) (a b p : Int × Int) : Prop where
  one : OneP w W p
  a0 : W.cell? ⟨k0, 0, none⟩ = some (.int .i64 a.1)
  a1 : W.cell? ⟨k0, 1, none⟩ = some (.int .i64 a.2)
  b0 : W.cell? ⟨k1, 0, none⟩ = some (.int .i64 b.1)
  b1 : W.cell? ⟨k1, 1, none⟩ = some (.int .i64 b.2)
theorem QP.drew {w W : World} {k0 k1 : Nat} {a b p : Int × Int} (d : Nat) (h : QP w W k0 k1 a b p) : QP w { W with drawn := d } k0 k1 a b p :=
  ⟨⟨h.one.p0, h.one.p1, ⟨h.one.below.os, h.one.below.tape, h.one.below.output, h.one.below.size, h.one.below.block⟩⟩, h.a0, h.a1, h.b0, h.b1⟩
theorem QP.one' {w W : World} {a b p : Int × Int} {T : TypeId} (h : OneP w W p) : QP w ((W.alloc (.cells #[.int .i64 a.1, .int .i64 a.2] T)).alloc (.cells #[.int .i64 b.1, .int .i64 b.2] T)) W.heap.size (W.heap.size + 1) a b p :=
  ⟨h.later (b2 _ _ _), by go_simp, by go_simp, by go_simp, by go_simp⟩
theorem QP.two' {w W : World} {a b p : Int × Int} {T : TypeId} (h : OneP w W p) : QP w ((W.alloc (.cells #[.int .i64 b.1, .int .i64 b.2] T)).alloc (.cells #[.int .i64 a.1, .int .i64 a.2] T)) (W.heap.size + 1) W.heap.size a b p :=
  ⟨h.later (b2 _ _ _), by go_simp, by go_simp, by go_simp, by go_simp⟩
def rwE (L : List (Int × Int)) (p : Int × Int) (i : Nat) : Int := rabV (ptA L i) (ptA L ((i + 1) % L.length)) p
theorem vW_in (a b : Bool) (s : Int) : -1 ≤ vW a b s ∧ vW a b s ≤ 1 := by unfold vW; split <;> (try split) <;> omega
theorem rwE_in (L : List (Int × Int)) (p : Int × Int) (i : Nat) : -1 ≤ rwE L p i ∧ rwE L p i ≤ 1 := vW_in _ _ _

set_option maxRecDepth 100000 in
set_option maxHeartbeats 4000000 in
theorem rwind_any {w : World} {v : Value} {L : List (Int × Int)} (p : Int × Int) (hI : PL w v L) (hL : L.length ≤ 50) (hok : okL L = true) (hp : okp p.1 p.2 = true) :
    Calls Try.prog 19 #[v, .agg #[.int .i64 p.1, .int .i64 p.2]] w fun e w' => e = .returned (.int .i64 (sm (rwE L p) L.length)) ∧ Below w.heap.size w w' := by
  obtain ⟨pp, cap, rfl, hc, hi⟩ := hI
  have HI := Lib.hid hi
  clear hi
  have HO0 : Hid (OneP w (w.alloc (.cells #[.int .i64 p.1, .int .i64 p.2] 32)) p) := Lib.hid ⟨by go_simp, by go_simp, b1 _ _⟩
  go_enter Try.func19, Try.ntmps19
  go_wp2_with fail
  go_loopg [5, 6] L.length (fun gk s i wx => ∃ k : Nat, k + gk = L.length ∧ i = .int .i64 (k : Int) ∧ s = .int .i64 (sm (rwE L p) k) ∧ Hid (OneP w wx p))
  case atStart => exact ⟨0, by omega, rfl, rfl, HO0⟩
  case round =>
    obtain ⟨k, hkg, rfl, rfl, HB⟩ := hrel
    have hsk := sm_in (rwE L p) 1 (rwE_in L p) k
    have HS1 : Hid (sm (rwE L p) (k + 1) = sm (rwE L p) k + rwE L p k) := Lib.hid rfl
    generalize hsg : sm (rwE L p) k = s at *
    have HSG := Lib.hid hsg
    clear hsg
    cases gk with
    | zero =>
      have hkz : ¬ ((k : Int) < (L.length : Int)) := by omega
      have hk : k = L.length := by omega
      have HF : Hid (s = sm (rwE L p) L.length) := Lib.hid (by rw [← HSG.out, hk])
      clear hsk
      go_wp2_with fail
      go_ret
      exact ⟨by rw [HF.out]; rfl, HB.out.below⟩
    | succ gr =>
      have hkz : (k : Int) < (L.length : Int) := by omega
      have hkn : k < L.length := by omega
      obtain ⟨b, off, rfl, hbl, c0, c1⟩ := HI.out k hkn
      obtain ⟨j, hj⟩ : ∃ j, j = (k + 1) % L.length := ⟨_, rfl⟩
      have hjn : j < L.length := by rw [hj]; exact Nat.mod_lt _ (by omega)
      obtain ⟨b', off', e, _, d0, d1⟩ := HI.out j hjn
      obtain ⟨rfl, rfl⟩ : b' = b ∧ off' = off := by injection e with e; injection e with e1 e2; exact ⟨e1.symm, e2.symm⟩
      have hra : Hid (rwE L p k = rabV L[k] L[j] p) := Lib.hid (by unfold rwE; rw [← hj, ptA_at hkn, ptA_at hjn])
      have hrb := rwE_in L p k
      rw [hra.out] at hrb
      have x1 : IntKind.i64.wrap ((k : Int) + 1) = (k : Int) + 1 := IntWalk.i64_in _ (by omega)
      have x3 : ((k : Int) + 1) % (L.length : Int) = (j : Int) := by
        rw [show ((k : Int) + 1) % (L.length : Int) = (((k + 1) % L.length : Nat) : Int) from by push_cast; rfl, ← hj]
      have x2 : ((k : Int) + 1).tmod (L.length : Int) = (j : Int) := by rw [Int.tmod_eq_emod_of_nonneg (by omega)]; exact x3
      have x4 : IntKind.i64.wrap (j : Int) = (j : Int) := IntWalk.i64_in _ (by omega)
      have hn0 : ¬ (L.length : Int) = 0 := by omega
      have hn1 : ¬ L.length = 0 := by omega
      have hp1 := okL_at hok hkn
      have hp2 := okL_at hok hjn
      rw [ptA_at hkn] at hp1
      rw [ptA_at hjn] at hp2
      have KA := Lib.hid (fun W => rabove_any L[k] L[j] p W (by unfold ok3; rw [hp1, hp2, hp]; rfl))
      have c0 := cell_later HB.out.below c0
      have c1 := cell_later HB.out.below c1
      have d0 := cell_later HB.out.below d0
      have d1 := cell_later HB.out.below d1
      have hbw : b' < wr.heap.size := Nat.lt_of_lt_of_le hbl HB.out.below.size
      have n1 : b' ≠ wr.heap.size := by omega
      have n2 : b' ≠ wr.heap.size + 1 := by omega
      clear hj hp1 hp2
      generalize L[k] = P at *
      generalize L[j] = Q at *
      generalize rabV P Q p = rv at *
      have y1 : IntKind.i64.wrap (s + rv) = s + rv := IntWalk.i64_in _ (by omega)
      clear hsk hrb
      go_upto_region 5 with fail
      go_cut [7, 8] from 9 to 32 (fun s5 s6 wx => ∃ k0 k1 : Nat, s5 = .pointer (some ⟨k0, 0, none⟩) ∧ s6 = .pointer (some ⟨k1, 0, none⟩) ∧ QP w wx k0 k1 P Q p)
      case first =>
        go_region
        · go_wp2_with fail
          go_meet
          exact ⟨wr.heap.size, wr.heap.size + 1, rfl, rfl, (QP.one' HB.out).drew _⟩
        · go_wp2_with fail
          go_meet
          exact ⟨wr.heap.size + 1, wr.heap.size, rfl, rfl, (QP.two' HB.out).drew _⟩
      case rest =>
        obtain ⟨k0, k1, rfl, rfl, hQ⟩ := hcut
        have HQ1 := Lib.hid hQ.one
        obtain ⟨⟨f0, f1, _⟩, e0, e1, e2, e3⟩ := hQ
        clear c0 c1 d0 d1 n1 n2
        go_wp2_with fail
        refine (KA.out _).mono ?_
        rintro e w5 ⟨rfl, hb5⟩
        have HQ5 := Lib.hid (HQ1.out.later hb5)
        clear hb5 e0 e1 e2 e3 f0 f1
        go_wp2_with fail
        go_roundg gr
        case measure => omega
        case rel => exact ⟨k + 1, by omega, by go_num, by rw [HS1.out, hra.out], HQ5⟩
end Go.Proofs.Ytkibjbbhiclkmaa
