/- Rows held against each other: cmp.Compare, slices.Compare, order.Compare; the document's Compare, Ints. -/
import Derived.Test.YtenfaejdnphngaaPutI
namespace Go.Proofs.Ytenfaejdnphngaa
open Go.RowKit Go.Sort

def cmpI (a b : Int) : Int := if a < b then -1 else if b < a then 1 else 0
theorem nan_eq (x : Int) (w : World) : Calls Try.prog 75 #[.int .i64 x] w fun e w' => e = .returned (.bool false) ∧ w = w' := by
  go_enter Try.func75, Try.ntmps75
  go_wp2_with fail
  go_ret
  exact ⟨by simp, rfl⟩
set_option maxRecDepth 100000 in
theorem cc_any (x y : Int) (w : World) : Calls Try.prog 74 #[.int .i64 x, .int .i64 y] w fun e w' => e = .returned (.int .i64 (cmpI x y)) ∧ w = w' := by
  have HL : x < y → Hid (cmpI x y = -1) := fun h => Lib.hid (by unfold cmpI; rw [if_pos h])
  have HG : y < x → Hid (cmpI x y = 1) := fun h => Lib.hid (by unfold cmpI; rw [if_neg (by omega), if_pos h])
  have HE : ¬ x < y → ¬ y < x → Hid (cmpI x y = 0) := fun h k => Lib.hid (by unfold cmpI; rw [if_neg h, if_neg k])
  go_enter Try.func74, Try.ntmps74
  by_cases h : x < y
  · have H := HL h
    clear HL HG HE
    go_wp2_with (go_at_call 75; refine (nan_eq _ _).mono ?_; rintro e w1 ⟨rfl, rfl⟩)
    go_ret
    exact ⟨by rw [H.out]; rfl, rfl⟩
  · by_cases k : y < x
    · have H := HG k
      clear HL HG HE
      go_wp2_with (go_at_call 75; refine (nan_eq _ _).mono ?_; rintro e w1 ⟨rfl, rfl⟩)
      go_ret
      exact ⟨by rw [H.out]; rfl, rfl⟩
    · have H := HE h k
      clear HL HG HE
      go_wp2_with (go_at_call 75; refine (nan_eq _ _).mono ?_; rintro e w1 ⟨rfl, rfl⟩)
      go_ret
      exact ⟨by rw [H.out]; rfl, rfl⟩
def CmpPost (A B : List Int) (w : World) (e : Ending) (w' : World) : Prop := e = .returned (.int .i64 (cmpL A B)) ∧ Below w.heap.size w w'
theorem cmpL_step {A B : List Int} {i : Nat} (ha : i < A.length) (hb : i < B.length) (h : cmpL (A.drop i) (B.drop i) = cmpL A B) :
    (A[i] < B[i] → cmpL A B = -1) ∧ (B[i] < A[i] → cmpL A B = 1) ∧ (A[i] = B[i] → cmpL (A.drop (i + 1)) (B.drop (i + 1)) = cmpL A B) := by
  rw [List.drop_eq_getElem_cons ha, List.drop_eq_getElem_cons hb] at h
  rw [← h]
  refine ⟨fun k => ?_, fun k => ?_, fun k => ?_⟩
  · unfold cmpL; rw [if_pos k]
  · unfold cmpL; rw [if_neg (by omega), if_pos k]
  · rw [k]; conv => rhs; unfold cmpL
    simp
theorem cmpL_endB {A B : List Int} {i : Nat} (ha : i < A.length) (hb : B.length ≤ i) (h : cmpL (A.drop i) (B.drop i) = cmpL A B) : cmpL A B = 1 := by
  rw [List.drop_eq_getElem_cons ha, List.drop_of_length_le hb] at h
  rw [← h]; rfl
theorem cmpL_endA {A B : List Int} {i : Nat} (ha : A.length ≤ i) (hib : i ≤ B.length) (h : cmpL (A.drop i) (B.drop i) = cmpL A B) : cmpL A B = if i < B.length then -1 else 0 := by
  rw [List.drop_of_length_le ha] at h
  rw [← h]
  split
  · rename_i hb
    rw [List.drop_eq_getElem_cons hb]; rfl
  · rw [List.drop_of_length_le (by omega)]; rfl
theorem IL.at {W : World} {gt : Nat} {q : Option Addr} {n c : Nat} {L : List Int} (h : IL W gt (.slice q n c) L) {i : Nat} (hi : i < L.length) : ∃ g o, q = some ⟨g, o, none⟩ ∧ W.cell? ⟨g, o + i, none⟩ = some (.int .i64 L[i]) := by
  obtain ⟨q1, c1, e, _, h⟩ := h
  cases e
  obtain ⟨g, o, e, _, hc⟩ := h i hi
  exact ⟨g, o, e, hc⟩
set_option maxRecDepth 100000 in
set_option maxHeartbeats 2000000 in
theorem scmp_any {w : World} {ga gb : Nat} {va vb : Value} {A B : List Int} (hA : IL w ga va A) (hB : IL w gb vb B) (la : A.length ≤ 9223372036854775807) (lb : B.length ≤ 9223372036854775807) :
    Calls Try.prog 71 #[va, vb] w (CmpPost A B w) := by
  obtain ⟨qa, ca, rfl, _, hx⟩ := id hA
  clear hx
  obtain ⟨qb, cb, rfl, _, hx⟩ := id hB
  clear hx
  have HA := Lib.hid hA
  have HB := Lib.hid hB
  clear hA hB
  go_enter Try.func71, Try.ntmps71
  go_wp2_with fail
  go_loopg [11] A.length (fun gk s wx => ∃ i : Nat, gk = A.length - i ∧ i ≤ A.length ∧ i ≤ B.length ∧ s = .int .i64 (i : Int) ∧ Hid (cmpL (A.drop i) (B.drop i) = cmpL A B) ∧ Hid (Below w.heap.size w wx))
  case atStart => exact ⟨0, rfl, by omega, by omega, rfl, Lib.hid rfl, Lib.hid (Below.refl _ _)⟩
  case round =>
    obtain ⟨i, hgk, hia, hib, rfl, HC, HW⟩ := hrel
    by_cases ha : i < A.length
    · by_cases hb : i < B.length
      · obtain ⟨g1, o1, rfl, c1⟩ := HA.out.at ha
        obtain ⟨g2, o2, rfl, c2⟩ := HB.out.at hb
        have c1 := cell_later HW.out c1
        have c2 := cell_later HW.out c2
        have HSt := Lib.hid (cmpL_step ha hb HC.out)
        generalize A[i] = x at *
        generalize B[i] = y at *
        by_cases h1 : x < y
        · have H := Lib.hid (HSt.out.1 h1)
          have HX : Hid (cmpI x y = -1) := Lib.hid (by unfold cmpI; rw [if_pos h1])
          go_wp2_with (go_at_call 74; refine (cc_any _ _ _).mono ?_; rintro e w1 ⟨rfl, rfl⟩; rw [HX.out])
          go_ret
          exact ⟨by rw [H.out]; rfl, HW.out⟩
        · by_cases h2 : y < x
          · have H := Lib.hid (HSt.out.2.1 h2)
            have HX : Hid (cmpI x y = 1) := Lib.hid (by unfold cmpI; rw [if_neg h1, if_pos h2])
            go_wp2_with (go_at_call 74; refine (cc_any _ _ _).mono ?_; rintro e w1 ⟨rfl, rfl⟩; rw [HX.out])
            go_ret
            exact ⟨by rw [H.out]; rfl, HW.out⟩
          · have H := Lib.hid (HSt.out.2.2 (by omega))
            have HX : Hid (cmpI x y = 0) := Lib.hid (by unfold cmpI; rw [if_neg h1, if_neg h2])
            go_wp2_with (go_at_call 74; refine (cc_any _ _ _).mono ?_; rintro e w1 ⟨rfl, rfl⟩; rw [HX.out])
            go_roundg (A.length - (i + 1))
            case measure => omega
            case rel => exact ⟨i + 1, rfl, by omega, by omega, by push_cast; rfl, H, Lib.hid (HW.out)⟩
      · have H := Lib.hid (cmpL_endB ha (by omega) HC.out)
        obtain ⟨g1, o1, rfl, c1⟩ := HA.out.at ha
        have c1 := cell_later HW.out c1
        go_wp2_with fail
        go_ret
        exact ⟨by rw [H.out]; rfl, HW.out⟩
    · have H := Lib.hid (cmpL_endA (by omega) hib HC.out)
      obtain rfl : i = A.length := by omega
      by_cases hb : A.length < B.length
      · go_wp2_with fail
        go_ret
        exact ⟨by rw [H.out, if_pos hb]; rfl, HW.out⟩
      · go_wp2_with fail
        go_ret
        exact ⟨by rw [H.out, if_neg hb]; rfl, HW.out⟩
set_option maxRecDepth 100000 in
theorem ocmp_any {w : World} {ga gb : Nat} {va vb : Value} {A B : List Int} (hA : IL w ga va A) (hB : IL w gb vb B) (la : A.length ≤ 9223372036854775807) (lb : B.length ≤ 9223372036854775807) :
    Calls Try.prog 61 #[va, vb] w (CmpPost A B w) := by
  have HA := Lib.hid hA
  have HB := Lib.hid hB
  clear hA hB
  go_enter Try.func61, Try.ntmps61
  go_wp2_with (go_at_call 71; refine (scmp_any HA.out HB.out la lb).mono ?_; rintro e w1 ⟨rfl, hb⟩)
  go_ret
  exact ⟨rfl, by assumption⟩
end Go.Proofs.Ytenfaejdnphngaa
