/- The walk of the document's doubled area. -/
import Derived.Test.YtmhmccicnebhaaaRefRow
import Derived.Deep.DeepCutAuto
import Derived.Deep.LoopGhost
import Derived.BigRegion
import Derived.RegionTactic
namespace Go.Proofs.Ytmhmccicnebhaaa
open Go.RowKit

/-- An edge's part. -/
def raE (L : List (Int × Int)) (i : Nat) : Int := (ptA L i).1 * (ptA L ((i + 1) % L.length)).2 - (ptA L ((i + 1) % L.length)).1 * (ptA L i).2
theorem okL_pt {L : List (Int × Int)} (h : okL L = true) (i : Nat) : okp (ptA L i).1 (ptA L i).2 = true := by
  by_cases hi : i < L.length
  · exact okL_at h hi
  · have e : ptA L i = (0, 0) := by unfold ptA; rw [List.getD_eq_getElem?_getD, List.getElem?_eq_none (by omega)]; rfl
    rw [e]; rfl
theorem raE_in {L : List (Int × Int)} (h : okL L = true) (i : Nat) : -562949953421312 ≤ raE L i ∧ raE L i ≤ 562949953421312 := by
  have h1 := okp_yes (okL_pt h i)
  have h2 := okp_yes (okL_pt h ((i + 1) % L.length))
  have m1 := mul_in (ptA L i).1 (ptA L ((i + 1) % L.length)).2 16777216 16777216 (by omega) (by omega)
  have m2 := mul_in (ptA L ((i + 1) % L.length)).1 (ptA L i).2 16777216 16777216 (by omega) (by omega)
  unfold raE
  omega
structure QA (w W : World) (k0 k1 : Nat) (a b : Int × Int) : Prop where
  a0 : W.cell? ⟨k0, 0, none⟩ = some (.int .i64 a.1)
  a1 : W.cell? ⟨k0, 1, none⟩ = some (.int .i64 a.2)
  b0 : W.cell? ⟨k1, 0, none⟩ = some (.int .i64 b.1)
  b1 : W.cell? ⟨k1, 1, none⟩ = some (.int .i64 b.2)
  below : Below w.heap.size w W
theorem QA.drew {w W : World} {k0 k1 : Nat} {a b : Int × Int} (d : Nat) (h : QA w W k0 k1 a b) : QA w { W with drawn := d } k0 k1 a b :=
  ⟨h.a0, h.a1, h.b0, h.b1, ⟨h.below.os, h.below.tape, h.below.output, h.below.size, h.below.block⟩⟩
theorem QA.one {w W : World} {a b : Int × Int} {T : TypeId} (h : Below w.heap.size w W) : QA w ((W.alloc (.cells #[.int .i64 a.1, .int .i64 a.2] T)).alloc (.cells #[.int .i64 b.1, .int .i64 b.2] T)) W.heap.size (W.heap.size + 1) a b :=
  ⟨by go_simp, by go_simp, by go_simp, by go_simp, h.trans ((b2 _ _ _).mono h.size)⟩
theorem QA.two {w W : World} {a b : Int × Int} {T : TypeId} (h : Below w.heap.size w W) : QA w ((W.alloc (.cells #[.int .i64 b.1, .int .i64 b.2] T)).alloc (.cells #[.int .i64 a.1, .int .i64 a.2] T)) (W.heap.size + 1) W.heap.size a b :=
  ⟨by go_simp, by go_simp, by go_simp, by go_simp, h.trans ((b2 _ _ _).mono h.size)⟩

set_option maxRecDepth 100000 in
set_option maxHeartbeats 4000000 in
theorem rarea_any {w : World} {v : Value} {L : List (Int × Int)} (hI : PL w v L) (hL : L.length ≤ 50) (hok : okL L = true) :
    Calls Try.prog 29 #[v] w fun e w' => e = .returned (.int .i64 (sm (raE L) L.length)) ∧ Below w.heap.size w w' := by
  obtain ⟨p, cap, rfl, hc, hi⟩ := hI
  have HI := Lib.hid hi
  clear hi
  have hbd : Hid (∀ i, -562949953421312 ≤ raE L i ∧ raE L i ≤ 562949953421312) := Lib.hid (raE_in hok)
  go_enter Try.func29, Try.ntmps29
  go_wp2_with fail
  go_loopg [3, 4] L.length (fun gk s i wx => ∃ k : Nat, k + gk = L.length ∧ i = .int .i64 (k : Int) ∧ s = .int .i64 (sm (raE L) k) ∧ Hid (Below w.heap.size w wx))
  case atStart => exact ⟨0, by omega, rfl, rfl, Lib.hid (Below.refl _ _)⟩
  case round =>
    obtain ⟨k, hkg, rfl, rfl, HB⟩ := hrel
    have hsk := sm_in (raE L) 562949953421312 hbd.out k
    have HS1 : Hid (sm (raE L) (k + 1) = sm (raE L) k + raE L k) := Lib.hid rfl
    generalize hsg : sm (raE L) k = s at *
    have HSG := Lib.hid hsg
    clear hsg
    cases gk with
    | zero =>
      have hkz : ¬ ((k : Int) < (L.length : Int)) := by omega
      have hk : k = L.length := by omega
      have HF : Hid (s = sm (raE L) L.length) := Lib.hid (by rw [← HSG.out, hk])
      clear hsk
      go_wp2_with fail
      go_ret
      exact ⟨by rw [HF.out]; rfl, HB.out⟩
    | succ gr =>
      have hkz : (k : Int) < (L.length : Int) := by omega
      have hkn : k < L.length := by omega
      have hb0 := HI.out k hkn
      obtain ⟨b, off, rfl, hbl, c0, c1⟩ := hb0
      obtain ⟨j, hj⟩ : ∃ j, j = (k + 1) % L.length := ⟨_, rfl⟩
      have hjn : j < L.length := by rw [hj]; exact Nat.mod_lt _ (by omega)
      obtain ⟨b', off', e, _, d0, d1⟩ := HI.out j hjn
      obtain ⟨rfl, rfl⟩ : b' = b ∧ off' = off := by injection e with e; injection e with e1 e2; exact ⟨e1.symm, e2.symm⟩
      have hra : Hid (raE L k = L[k].1 * L[j].2 - L[j].1 * L[k].2) := Lib.hid (by unfold raE; rw [← hj, ptA_at hkn, ptA_at hjn])
      have x1 : IntKind.i64.wrap ((k : Int) + 1) = (k : Int) + 1 := IntWalk.i64_in _ (by omega)
      have x2 : ((k : Int) + 1).tmod (L.length : Int) = (j : Int) := by
        rw [Int.tmod_eq_emod_of_nonneg (by omega), show ((k : Int) + 1) % (L.length : Int) = (((k + 1) % L.length : Nat) : Int) from by push_cast; rfl, ← hj]
      have x3 : ((k : Int) + 1) % (L.length : Int) = (j : Int) := by
        rw [show ((k : Int) + 1) % (L.length : Int) = (((k + 1) % L.length : Nat) : Int) from by push_cast; rfl, ← hj]
      have x4 : IntKind.i64.wrap (j : Int) = (j : Int) := IntWalk.i64_in _ (by omega)
      have hn0 : ¬ (L.length : Int) = 0 := by omega
      have hn1 : ¬ L.length = 0 := by omega
      have hkk : k ≤ 50 := by omega
      have hp1 := okp_yes (okL_at hok hkn)
      have hp2 := okp_yes (okL_at hok hjn)
      rw [ptA_at hkn] at hp1
      rw [ptA_at hjn] at hp2
      have c0 := cell_later HB.out c0
      have c1 := cell_later HB.out c1
      have d0 := cell_later HB.out d0
      have d1 := cell_later HB.out d1
      have hbw : b' < wr.heap.size := Nat.lt_of_lt_of_le hbl HB.out.size
      have n1 : b' ≠ wr.heap.size := by omega
      have n2 : b' ≠ wr.heap.size + 1 := by omega
      have HJ := Lib.hid hj
      clear hj
      generalize L[k] = P at *
      generalize L[j] = Q at *
      have hm1 := mul_in P.1 Q.2 16777216 16777216 (by omega) (by omega)
      have hm2 := mul_in Q.1 P.2 16777216 16777216 (by omega) (by omega)
      have y1 : IntKind.i64.wrap (P.1 * Q.2) = P.1 * Q.2 := IntWalk.i64_in _ (by omega)
      have y2 : IntKind.i64.wrap (Q.1 * P.2) = Q.1 * P.2 := IntWalk.i64_in _ (by omega)
      have y3 : IntKind.i64.wrap (s + P.1 * Q.2) = s + P.1 * Q.2 := IntWalk.i64_in _ (by omega)
      have y4 : IntKind.i64.wrap (s + P.1 * Q.2 - Q.1 * P.2) = s + P.1 * Q.2 - Q.1 * P.2 := IntWalk.i64_in _ (by omega)
      clear hm1 hm2 hp1 hp2 hsk
      go_upto_region 5 with fail
      go_cut [5, 6] from 7 to 37 (fun s5 s6 wx => ∃ k0 k1 : Nat, s5 = .pointer (some ⟨k0, 0, none⟩) ∧ s6 = .pointer (some ⟨k1, 0, none⟩) ∧ QA w wx k0 k1 P Q)
      case first =>
        go_region
        · go_wp2_with fail
          go_meet
          exact ⟨wr.heap.size, wr.heap.size + 1, rfl, rfl, (QA.one HB.out).drew _⟩
        · go_wp2_with fail
          go_meet
          exact ⟨wr.heap.size + 1, wr.heap.size, rfl, rfl, (QA.two HB.out).drew _⟩
      case rest =>
        obtain ⟨k0, k1, rfl, rfl, hQ⟩ := hcut
        have HQB := Lib.hid hQ.below
        obtain ⟨e0, e1, e2, e3, _⟩ := hQ
        clear c0 c1 d0 d1 n1 n2
        go_wp2_with fail
        go_roundg gr
        case measure => omega
        case rel => exact ⟨k + 1, by omega, by go_num, by rw [HS1.out, hra.out]; go_num, HQB⟩
end Go.Proofs.Ytmhmccicnebhaaa
