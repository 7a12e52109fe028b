/- Which numbers have a common strip, in plain words; order.Common by it; a rising list made by Put. -/
import Derived.Test.YtmmahejdpanmjaaKnown4
namespace Go.Proofs.Ytmmahejdpanmjaa
open Go.RowKit Go.Sort Go.Deep

def btwB (a b y : Int) : Bool := (decide (a < y) && decide (y < b)) || (decide (b < y) && decide (y < a))
def apartB (X : List Int) (a b : Int) : Bool := X.any (btwB a b)
def cmnB (X : List Int) (a b : Int) : Bool := !apartB X a b
theorem apart_iff {X : List Int} {a b : Int} : apartB X a b = true ↔ ∃ k, ∃ h : k < X.length, (a < X[k] ∧ X[k] < b) ∨ (b < X[k] ∧ X[k] < a) := by
  unfold apartB btwB
  rw [List.any_eq_true]
  constructor
  · rintro ⟨y, hy, h⟩
    obtain ⟨k, hk, rfl⟩ := List.mem_iff_getElem.1 hy
    exact ⟨k, hk, by simpa using h⟩
  · rintro ⟨k, hk, h⟩
    exact ⟨X[k], List.getElem_mem _, by simpa using h⟩
theorem se_at {X : List Int} {x : Int} {j : Nat} (h : SeP (fun k => decide (x < X.getD k 0)) X.length j j) {k : Nat} (hk : k < X.length) : (k < j → ¬ x < X[k]) ∧ (j ≤ k → x < X[k]) := by
  constructor
  · intro h1
    have := h.1 k h1
    simpa [List.getD_eq_getElem?_getD, List.getElem?_eq_getElem hk] using this
  · intro h1
    have := h.2 k hk h1
    simpa [List.getD_eq_getElem?_getD, List.getElem?_eq_getElem hk] using this
theorem common_eq {X : List Int} {a b : Int} {i j i2 j2 : Nat} (h1 : BsP X a i i) (h2 : SeP (fun k => decide (a < X.getD k 0)) X.length j j) (h3 : BsP X b i2 i2) (h4 : SeP (fun k => decide (b < X.getD k 0)) X.length j2 j2)
    (l1 : i ≤ X.length) (l3 : i2 ≤ X.length) : (decide (i ≤ j2) && decide (i2 ≤ j)) = cmnB X a b := by
  unfold cmnB
  rw [Bool.eq_iff_iff]
  simp only [Bool.and_eq_true, decide_eq_true_eq, Bool.not_eq_true', ← Bool.not_eq_true]
  rw [apart_iff]
  constructor
  · rintro ⟨k1, k2⟩ ⟨k, hk, h⟩
    have e1 := se_at h2 hk
    have e2 := se_at h4 hk
    rcases h with h | h
    · have : k < i2 := by
        rcases Nat.lt_or_ge k i2 with c | c
        · exact c
        · exact absurd h.2 (h3.2 k hk c)
      have : j ≤ k := by
        rcases Nat.lt_or_ge k j with c | c
        · exact absurd h.1 (e1.1 c)
        · exact c
      omega
    · have : k < i := by
        rcases Nat.lt_or_ge k i with c | c
        · exact c
        · exact absurd h.2 (h1.2 k hk c)
      have : j2 ≤ k := by
        rcases Nat.lt_or_ge k j2 with c | c
        · exact absurd h.1 (e2.1 c)
        · exact c
      omega
  · intro h
    constructor
    · rcases Nat.lt_or_ge j2 i with c | c
      · exact absurd ⟨j2, by omega, .inr ⟨(se_at h4 (by omega)).2 (Nat.le_refl _), h1.1 j2 (by omega) c⟩⟩ h
      · exact c
    · rcases Nat.lt_or_ge j i2 with c | c
      · exact absurd ⟨j, by omega, .inl ⟨(se_at h2 (by omega)).2 (Nat.le_refl _), h3.1 j (by omega) c⟩⟩ h
      · exact c
theorem cmn_sym (X : List Int) (a b : Int) : cmnB X b a = cmnB X a b := by
  unfold cmnB apartB
  congr 2
  funext y
  unfold btwB
  rw [Bool.or_comm]
theorem cmn_self (X : List Int) (a : Int) : cmnB X a a = true := by
  unfold cmnB
  rw [Bool.not_eq_true', ← Bool.not_eq_true, apart_iff]
  rintro ⟨k, hk, h⟩
  omega
theorem cmn_near {X : List Int} {a b c : Int} (h : cmnB X a b = true) (h1 : min a b ≤ c) (h2 : c ≤ max a b) : cmnB X a c = true := by
  unfold cmnB at *
  rw [Bool.not_eq_true', ← Bool.not_eq_true, apart_iff] at *
  rintro ⟨k, hk, h3⟩
  exact h ⟨k, hk, by omega⟩
def CmnPost (X : List Int) (a b : Int) (w : World) (e : Ending) (w' : World) : Prop := e = .returned (.bool (cmnB X a b)) ∧ Below w.heap.size w w'
theorem cmn_any {w : World} {L : List Int} {gt : Nat} {v : Value} (x y : Int) (hL : L.length ≤ 1000) (hI : IL w gt v L) (hS : L.Pairwise (· ≤ ·)) : Calls Try.prog 27 #[v, .int .i64 x, .int .i64 y] w (CmnPost L x y w) := by
  refine (common_any x y hL hI hS).mono ?_
  rintro e w' ⟨i, j, i2, j2, rfl, h1, h2, h3, h4, l1, l2, l3, l4, hb⟩
  exact ⟨by rw [common_eq h1 h2 h3 h4 l1 l3], hb⟩
/-- A rising list of the first numbers of another. -/
structure RiX (W : World) (v : Value) (L : List Int) (i : Nat) (X : List Int) : Prop where
  il : IL W W.heap.size v X
  perm : X.Perm (L.take i)
  srt : srtd ilt X
theorem RiX.nil (W : World) (L : List Int) : RiX W (.slice none 0 0) L 0 [] := ⟨IL.nil _ _ _ _, by simp, by simp [srtd]⟩
theorem RiX.keep {W w1 : World} {v : Value} {L X : List Int} {i : Nat} (hb : Below W.heap.size W w1) (h : RiX W v L i X) : RiX w1 v L i X := ⟨h.il.keep hb, h.perm, h.srt⟩
theorem RiX.put {W w1 : World} {v u : Value} {L X R : List Int} {i base : Nat} (h : RiX W v L i X) (hi : i < L.length) (hp : InsP ilt L[i] X R) (ho : w1.ownsRow base 3 1 u R.length (icells R)) : RiX w1 u L (i + 1) R :=
  ⟨own_IL ho, by
    refine hp.perm.trans ((List.Perm.cons _ h.perm).trans ?_)
    rw [List.take_succ_eq_append_getElem hi]
    exact (List.perm_append_singleton _ _).symm, hp.srtd ilt_sto h.srt⟩
theorem RiX.len {W : World} {v : Value} {L X : List Int} {i : Nat} (h : RiX W v L i X) : X.length ≤ i := by
  rw [h.perm.length_eq, List.length_take]; omega
theorem RiX.le {W : World} {v : Value} {L X : List Int} {i : Nat} (h : RiX W v L i X) : X.Pairwise (· ≤ ·) := ilt_le.1 h.srt
set_option maxRecDepth 100000 in
set_option maxHeartbeats 2000000 in
theorem rapart_any {w : World} {L : List Int} {gt : Nat} {v : Value} (x y : Int) (hL : L.length ≤ 9223372036854775807) (hI : IL w gt v L) : Calls Try.prog 28 #[v, .int .i64 x, .int .i64 y] w fun e w' => e = .returned (.bool (apartB L x y)) ∧ w = w' := by
  obtain ⟨q, c, rfl, hc, hx⟩ := id hI
  clear hx
  have HI := Lib.hid hI
  clear hI
  go_enter Try.func28, Try.ntmps28
  go_wp2_with fail
  go_loopg [7] L.length (fun gk s wx => ∃ i : Nat, gk = L.length - i ∧ i ≤ L.length ∧ s = .int .i64 (i : Int) ∧ Hid (apartB (L.take i) x y = false) ∧ wx = w)
  case atStart => exact ⟨0, rfl, by omega, rfl, Lib.hid (by simp [apartB]), rfl⟩
  case round =>
    obtain ⟨i, hgk, hi, rfl, HA, hw⟩ := hrel
    have hw' := hw.symm; clear hw; subst hw'
    by_cases hlt : i < L.length
    · obtain ⟨g, o, rfl, c1⟩ := HI.out.at hlt
      have HT : Hid (∀ h : btwB x y L[i] = true, apartB L x y = true) := Lib.hid (fun h => by
        unfold apartB; rw [List.any_eq_true]; exact ⟨_, List.getElem_mem hlt, h⟩)
      have HF : Hid (∀ h : btwB x y L[i] = false, apartB (L.take (i + 1)) x y = false) := Lib.hid (fun h => by
        have := HA.out
        unfold apartB at *
        rw [List.take_succ_eq_append_getElem hlt, List.any_append, this]; simp [h])
      clear HA
      have HB : Hid (btwB x y L[i] = ((decide (x < L[i]) && decide (L[i] < y)) || (decide (y < L[i]) && decide (L[i] < x)))) := Lib.hid rfl
      generalize L[i] = z at *
      by_cases h1 : x < z
      · by_cases h2 : z < y
        · have H := Lib.hid (HT.out (by rw [HB.out]; simp [h1, h2]))
          clear HT HF HB
          go_wp2_with fail
          go_ret
          exact ⟨by rw [H.out]; rfl, rfl⟩
        · have h3 : ¬ z < x := by omega
          have H := Lib.hid (HF.out (by rw [HB.out]; simp; omega))
          clear HT HF HB
          go_wp2_with fail
          all_goals
            go_roundg (L.length - (i + 1))
            case measure => omega
            case rel => exact ⟨i + 1, rfl, by omega, by push_cast; rfl, H, by first | rfl | trivial⟩
      · by_cases h2 : y < z
        · by_cases h3 : z < x
          · have H := Lib.hid (HT.out (by rw [HB.out]; simp [h2, h3]))
            clear HT HF HB
            go_wp2_with fail
            go_ret
            exact ⟨by rw [H.out]; rfl, rfl⟩
          · have H := Lib.hid (HF.out (by rw [HB.out]; simp; omega))
            clear HT HF HB
            go_wp2_with fail
            go_roundg (L.length - (i + 1))
            case measure => omega
            case rel => exact ⟨i + 1, rfl, by omega, by push_cast; rfl, H, by first | rfl | trivial⟩
        · have H := Lib.hid (HF.out (by rw [HB.out]; simp; omega))
          clear HT HF HB
          go_wp2_with fail
          go_roundg (L.length - (i + 1))
          case measure => omega
          case rel => exact ⟨i + 1, rfl, by omega, by push_cast; rfl, H, by first | rfl | trivial⟩
    · obtain rfl : i = L.length := by omega
      go_wp2_with fail
      go_ret
      exact ⟨by have h := HA.out; rw [List.take_length] at h; rw [h]; rfl, rfl⟩
end Go.Proofs.Ytmmahejdpanmjaa
