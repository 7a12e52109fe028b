/- Which numbers have a common strip, in plain words; order.Common by it; a rising list made by Put. -/
import Derived.Test.YtenfaejdnphngaaKnown4
namespace Go.Proofs.Ytenfaejdnphngaa
open Go.RowKit Go.Sort Go.Deep

def btwB (a b y : Int) : Bool := (decide (a < y) && decide (y < b)) || (decide (b < y) && decide (y < a))
def apartB (X : List Int) (a b : Int) : Bool := X.any (btwB a b)
def cmnB (X : List Int) (a b : Int) : Bool := !apartB X a b
theorem apart_iff {X : List Int} {a b : Int} : apartB X a b = true ↔ ∃ k, ∃ h : k < X.length, (a < X[k] ∧ X[k] < b) ∨ (b < X[k] ∧ X[k] < a) := by
  unfold apartB btwB
  rw [List.any_eq_true]
  constructor
  · rintro ⟨y, hy, h⟩
    obtain ⟨k, hk, rfl⟩ := List.mem_iff_getElem.1 hy
    exact ⟨k, hk, by simpa using h⟩
  · rintro ⟨k, hk, h⟩
    exact ⟨X[k], List.getElem_mem _, by simpa using h⟩
theorem se_at {X : List Int} {x : Int} {j : Nat} (h : SeP (fun k => decide (x < X.getD k 0)) X.length j j) {k : Nat} (hk : k < X.length) : (k < j → ¬ x < X[k]) ∧ (j ≤ k → x < X[k]) := by
  constructor
  · intro h1
    have := h.1 k h1
    simpa [List.getD_eq_getElem?_getD, List.getElem?_eq_getElem hk] using this
  · intro h1
    have := h.2 k hk h1
    simpa [List.getD_eq_getElem?_getD, List.getElem?_eq_getElem hk] using this
theorem common_eq {X : List Int} {a b : Int} {i j i2 j2 : Nat} (h1 : BsP X a i i) (h2 : SeP (fun k => decide (a < X.getD k 0)) X.length j j) (h3 : BsP X b i2 i2) (h4 : SeP (fun k => decide (b < X.getD k 0)) X.length j2 j2)
    (l1 : i ≤ X.length) (l3 : i2 ≤ X.length) : (decide (i ≤ j2) && decide (i2 ≤ j)) = cmnB X a b := by
  unfold cmnB
  rw [Bool.eq_iff_iff]
  simp only [Bool.and_eq_true, decide_eq_true_eq, Bool.not_eq_true', ← Bool.not_eq_true]
  rw [apart_iff]
  constructor
  · rintro ⟨k1, k2⟩ ⟨k, hk, h⟩
    have e1 := se_at h2 hk
    have e2 := se_at h4 hk
    rcases h with h | h
    · have : k < i2 := by
        rcases Nat.lt_or_ge k i2 with c | c
        · exact c
        · exact absurd h.2 (h3.2 k hk c)
      have : j ≤ k := by
        rcases Nat.lt_or_ge k j with c | c
        · exact absurd h.1 (e1.1 c)
        · exact c
      omega
    · have : k < i := by
        rcases Nat.lt_or_ge k i with c | c
        · exact c
        · exact absurd h.2 (h1.2 k hk c)
      have : j2 ≤ k := by
        rcases Nat.lt_or_ge k j2 with c | c
        · exact absurd h.1 (e2.1 c)
        · exact c
      omega
  · intro h
    constructor
    · rcases Nat.lt_or_ge j2 i with c | c
      · exact absurd ⟨j2, by omega, .inr ⟨(se_at h4 (by omega)).2 (Nat.le_refl _), h1.1 j2 (by omega) c⟩⟩ h
      · exact c
    · rcases Nat.lt_or_ge j i2 with c | c
      · exact absurd ⟨j, by omega, .inl ⟨(se_at h2 (by omega)).2 (Nat.le_refl _), h3.1 j (by omega) c⟩⟩ h
      · exact c
theorem cmn_sym (X : List Int) (a b : Int) : cmnB X b a = cmnB X a b := by
  unfold cmnB apartB
  congr 2
  funext y
  unfold btwB
  rw [Bool.or_comm]
theorem cmn_self (X : List Int) (a : Int) : cmnB X a a = true := by
  unfold cmnB
  rw [Bool.not_eq_true', ← Bool.not_eq_true, apart_iff]
  rintro ⟨k, hk, h⟩
  omega
theorem cmn_near {X : List Int} {a b c : Int} (h : cmnB X a b = true) (h1 : min a b ≤ c) (h2 : c ≤ max a b) : cmnB X a c = true := by
  unfold cmnB at *
  rw [Bool.not_eq_true', ← Bool.not_eq_true, apart_iff] at *
  rintro ⟨k, hk, h3⟩
  exact h ⟨k, hk, by omega⟩
def CmnPost (X : List Int) (a b : Int) (w : World) (e : Ending) (w' : World) : Prop := e = .returned (.bool (cmnB X a b)) ∧ Below w.heap.size w w'
/-- A rising list of the first numbers of another. -/
structure RiX (W : World) (v : Value) (L : List Int) (i : Nat) (X : List Int) : Prop where
  il : IL W W.heap.size v X
  perm : X.Perm (L.take i)
  srt : srtd ilt X
theorem RiX.nil (W : World) (L : List Int) : RiX W (.slice none 0 0) L 0 [] := ⟨IL.nil _ _ _ _, by simp, by simp [srtd]⟩
theorem RiX.keep {W w1 : World} {v : Value} {L X : List Int} {i : Nat} (hb : Below W.heap.size W w1) (h : RiX W v L i X) : RiX w1 v L i X := ⟨h.il.keep hb, h.perm, h.srt⟩
theorem RiX.put {W w1 : World} {v u : Value} {L X R : List Int} {i base : Nat} (h : RiX W v L i X) (hi : i < L.length) (hp : InsP ilt L[i] X R) (ho : w1.ownsRow base 3 1 u R.length (icells R)) : RiX w1 u L (i + 1) R :=
  ⟨own_IL ho, by
    refine hp.perm.trans ((List.Perm.cons _ h.perm).trans ?_)
    rw [List.take_succ_eq_append_getElem hi]
    exact (List.perm_append_singleton _ _).symm, hp.srtd ilt_sto h.srt⟩
theorem RiX.len {W : World} {v : Value} {L X : List Int} {i : Nat} (h : RiX W v L i X) : X.length ≤ i := by
  rw [h.perm.length_eq, List.length_take]; omega
theorem RiX.le {W : World} {v : Value} {L X : List Int} {i : Nat} (h : RiX W v L i X) : X.Pairwise (· ≤ ·) := ilt_le.1 h.srt
end Go.Proofs.Ytenfaejdnphngaa
