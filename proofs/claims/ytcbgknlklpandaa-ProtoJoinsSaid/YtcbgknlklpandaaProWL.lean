/- The law ProtoWrites. -/
import Derived.Test.YtcbgknlklpandaaProV
import Derived.Test.YtcbgknlklpandaaProW
import Derived.Test.YtcbgknlklpandaaProOL
namespace Go.Proofs.Ytcbgknlklpandaa
open Go.RowKit Go.Sort

theorem wr_bounds {A : List Fd} (hA : ∀ f ∈ A, FdB 50 f) (hl : A.length ≤ 20) (i : Nat) (h : ∀ f ∈ A.take i, chk f = 0) : (wrB (A.take i)).length ≤ 100000 := by
  have := (wrB_len (l := A.take i) (fun f hf => by
    obtain ⟨h1, _, h3⟩ := hA f (List.mem_of_mem_take hf)
    exact ⟨h f hf, h1, h3⟩)).1
  rw [List.length_take] at this
  omega
set_option maxRecDepth 100000 in
set_option maxHeartbeats 4000000 in
theorem writesLaw_yes {w : World} {va : Value} {L0 : List Fd} (hF : FL w va L0) (hL : ∀ f ∈ L0, f.n < 18446744073709551616 ∧ ∀ x ∈ f.b, x < 256) :
    Calls Try.prog 6 #[va] w fun e w' => e = .returned (.bool true) ∧ Below w.heap.size w w' := by
  have hmx : Try.prog.follows .mixedOrders = true := by kernel_rfl
  have HC1 := Lib.hid (lcut_any hF)
  have hA := cutL_in hL
  have hAl := cutL_len L0
  unfold CuPost at HC1
  rw [show (L0.take 20).map cutF = cutL L0 from rfl] at HC1
  generalize cutL L0 = A at *
  have HA := Lib.hid hA
  have HFA : Hid (FB A) := Lib.hid (fun f hf => (HA.out f hf).2.1)
  have HA2 : Hid (∀ f ∈ A, FdB 1000 f) := Lib.hid (fun f hf => ⟨(HA.out f hf).1, (HA.out f hf).2.1, Nat.le_trans (HA.out f hf).2.2 (by omega)⟩)
  have HBo := Lib.hid (fun i (_ : i ≤ A.length) (h : ∀ f ∈ A.take i, chk f = 0) => wr_bounds hA hAl i h)
  clear hF hL hA
  go_enter Try.func6, Try.ntmps6
  go_wp2_with fail
  refine HC1.out.mono ?_
  rintro en w1 ⟨u1, rfl, hf1, hb1⟩
  have HF1 := Lib.hid hf1
  have HB1 := Lib.hid hb1
  clear hf1 hb1 HC1
  go_wp2_with fail
  refine (pwrite_any HF1.out (by omega) HA2.out HBo.out).mono ?_
  rintro en w2 ⟨u2, rfl, ho2, hb2⟩
  have HU2 := Lib.hid (kl_own rfl ho2)
  have HF2 := Lib.hid (HF1.out.keep hb2)
  have HB2 := Lib.hid (below_after HB1.out hb2)
  clear ho2 hb2 HF1 HB1
  go_wp2_with fail
  refine (lofs_any HF2.out (by omega)).mono ?_
  rintro en w3 ⟨u3, rfl, hr3, hb3⟩
  have HR3 := Lib.hid hr3
  have HF3 := Lib.hid (HF2.out.keep hb3)
  have HU3 := Lib.hid (HU2.out.keep hb3)
  have HB3 := Lib.hid (below_after HB2.out hb3)
  clear hr3 hb3 HF2 HU2 HB2
  go_wp2_with fail
  refine (rwrite8_any HR3.out (by omega) HA2.out HBo.out).mono ?_
  rintro en w4 ⟨u4, rfl, ho4, hb4⟩
  have HV4 := Lib.hid (kl_own rfl ho4)
  have HF4 := Lib.hid (HF3.out.keep hb4)
  have HU4 := Lib.hid (HU3.out.keep hb4)
  have HB4 := Lib.hid (below_after HB3.out hb4)
  clear ho4 hb4 HF3 HU3 HB3 HR3
  have HWl : Hid ((wrO A).length ≤ 100000) := Lib.hid (by
    unfold wrO
    split
    · rename_i h
      have := HBo.out A.length (Nat.le_refl _) (by rw [List.take_length]; exact wrE_ok h)
      rwa [List.take_length] at this
    · exact Nat.zero_le _)
  have HOk : Hid (wrE A = 0 → wrO A = wrB A ∧ alD (wrB A) = (A, 0, 0) ∧ (∀ x ∈ wrB A, x < 256) ∧ (wrB A).length ≤ 1400) := Lib.hid (fun h => by
    have hc := wrE_ok h
    refine ⟨by unfold wrO; rw [if_pos h], alD_wr (fun f hf => ⟨hc f hf, (HA.out f hf).1, (HA.out f hf).2.2⟩), wrB_lt HFA.out, ?_⟩
    have := (wrB_len (l := A) (fun f hf => ⟨hc f hf, (HA.out f hf).1, (HA.out f hf).2.2⟩)).1
    omega)
  obtain ⟨q1, c1, rfl, _, _⟩ := HF4.out
  obtain ⟨q2, c2, rfl, _, _⟩ := HU4.out
  obtain ⟨q4, c4, rfl, _, _⟩ := HV4.out
  generalize hO : wrO A = O at *
  have HO := Lib.hid hO
  clear hO
  by_cases he : wrE A = 0
  · obtain ⟨k1, k2, k3, k4⟩ := HOk.out he
    have hOB : O = wrB A := k1
    have HAlp := Lib.hid (fun V v (h : KL .u8 V v O) => pall_any (w := V) (v := v) (b := O) h (by rw [hOB]; exact k3) (by rw [hOB]; omega))
    have HAl : Hid (alD O = (A, 0, 0)) := Lib.hid (by rw [hOB]; exact k2)
    rw [he] at *
    clear he k1 k2 k3 k4 hOB HOk HO HBo
    go_wp2_with fail
    refine (rsame_any HU4.out HV4.out (Nat.le_trans HWl.out (by omega))).mono ?_
    rintro en w5 ⟨rfl, hb5⟩
    have HF5 := Lib.hid (HF4.out.keep hb5)
    have HU5 := Lib.hid (HU4.out.keep hb5)
    have HB5 := Lib.hid (below_after HB4.out hb5)
    clear hb5 HF4 HU4 HB4 HV4
    go_wp2_with fail
    refine (HAlp.out _ _ HU5.out).mono ?_
    rintro en w6 ⟨u6, rfl, hf6, hb6⟩
    rw [HAl.out] at hf6 ⊢
    have HM6 := Lib.hid hf6
    have HF6 := Lib.hid (HF5.out.keep hb6)
    have HB6 := Lib.hid (below_after HB5.out hb6)
    obtain ⟨q6, c6, rfl, _, _⟩ := hf6
    clear hb6 HF5 HU5 HB5 HAlp HAl
    dsimp only
    go_wp2_with fail
    refine (known8_yes _).mono ?_
    rintro en w7 ⟨rfl, hb7⟩
    have HF7 := Lib.hid (HF6.out.keep hb7)
    have HM7 := Lib.hid (HM6.out.keep hb7)
    have HB7 := Lib.hid (below_after HB6.out hb7)
    clear hb7 HF6 HM6 HB6
    go_wp2_with fail
    refine (lofs_any HF7.out (by omega)).mono ?_
    rintro en w8 ⟨u8, rfl, hr8, hb8⟩
    have HR8 := Lib.hid hr8
    have HF8 := Lib.hid (HF7.out.keep hb8)
    have HM8 := Lib.hid (HM7.out.keep hb8)
    have HB8 := Lib.hid (below_after HB7.out hb8)
    obtain ⟨q8, c8, rfl, _, _⟩ := hr8
    clear hb8 HF7 HM7 HB7
    go_wp2_with fail
    refine (lsame8_any (by omega) HM8.out HR8.out HFA.out HFA.out).mono ?_
    rintro en w9 ⟨r9, rfl, hr9, hb9⟩
    obtain rfl : r9 = true := hr9.2 rfl
    have HF9 := Lib.hid (HF8.out.keep hb9)
    have HM9 := Lib.hid (HM8.out.keep hb9)
    have HB9 := Lib.hid (below_after HB8.out hb9)
    clear hr9 hb9 HF8 HM8 HB8 HR8
    go_wp2_with fail
    refine (psame_any (by omega) HM9.out HF9.out HFA.out HFA.out).mono ?_
    rintro en wa ⟨ra, rfl, hra, hba⟩
    obtain rfl : ra = true := hra.2 rfl
    have HBa := Lib.hid (below_after HB9.out hba)
    clear hra hba
    go_wp2_with fail
    go_ret
    exact ⟨rfl, HBa.out⟩
  · have hez : ¬ (wrE A : Int) = 0 := by omega
    generalize wrE A = ee at *
    clear HOk HO HBo
    go_wp2_with fail
    refine (rsame_any HU4.out HV4.out (Nat.le_trans HWl.out (by omega))).mono ?_
    rintro en w5 ⟨rfl, hb5⟩
    have HB5 := Lib.hid (below_after HB4.out hb5)
    clear hb5 HF4 HU4 HB4 HV4
    go_wp2_with fail
    refine (known8_yes _).mono ?_
    rintro en w7 ⟨rfl, hb7⟩
    have HB7 := Lib.hid (below_after HB5.out hb7)
    clear hb7
    go_wp2_with fail
    go_ret
    exact ⟨rfl, HB7.out⟩
end Go.Proofs.Ytcbgknlklpandaa
