/- Plain: no pile is less than the one above it, whatever rises or sinks. -/
import Derived.Test.YtbdmmgplpndobaaHeapK
namespace Go.Proofs.Ytbdmmgplpndobaa
open Go.RowKit Go.Sort Go.Deep

def kA (P : List Pile) (i : Nat) : E3 := (pA P i).1
def lE (a b : E3) : Prop := ltE b a = false
theorem lE_refl (a : E3) : lE a a := ltE_sto.irr a
theorem lE_lt {a b : E3} (h : ltE a b = true) : lE a b := by
  unfold lE
  cases h2 : ltE b a with
  | false => rfl
  | true => have := ltE_sto.tr _ _ _ h h2; rw [ltE_sto.irr] at this; cases this
theorem lE_trans {a b c : E3} (h : lE a b) (k : lE b c) : lE a c := by
  unfold lE at *
  cases h2 : ltE c a with
  | false => rfl
  | true =>
    cases h3 : ltE a b with
    | true => have := ltE_sto.tr _ _ _ h2 h3; rw [k] at this; cases this
    | false =>
      obtain rfl := ltE_sto.tri _ _ h3 h
      rw [h2] at k; cases k
def hO (P : List Pile) : Prop := ∀ j, 0 < j → j < P.length → lE (kA P ((j - 1) / 2)) (kA P j)
theorem kA_swp {P : List Pile} {a b : Nat} (ha : a < P.length) (hb : b < P.length) (j : Nat) : kA (swpL P a b) j = if j = b then kA P a else if j = a then kA P b else kA P j := by
  unfold kA
  rw [pA_swp ha hb]
  split
  · rfl
  · split <;> rfl
theorem kA_set {P : List Pile} {i : Nat} (p : Pile) (h : i < P.length) (j : Nat) : kA (P.set i p) j = if j = i then p.1 else kA P j := by
  unfold kA
  rw [pA_set p h]
  split <;> rfl
def hUp (P : List Pile) (i : Nat) : Prop := (∀ j, 0 < j → j < P.length → j ≠ i → lE (kA P ((j - 1) / 2)) (kA P j)) ∧ (∀ j, 0 < j → j < P.length → (j - 1) / 2 = i → 0 < i → lE (kA P ((i - 1) / 2)) (kA P j))
theorem riseF_ord : ∀ (n : Nat) (P : List Pile) (i : Nat), i < P.length → i < n → hUp P i → hO (riseF n P i)
  | 0, _, _, _, h, _ => absurd h (Nat.not_lt_zero _)
  | n + 1, P, i, hi, hn, ⟨h1, h2⟩ => by
    unfold riseF
    split
    · rename_i h0
      subst h0
      exact fun j hj hl => h1 j hj hl (by omega)
    · rename_i h0
      have hp : (i - 1) / 2 < P.length := by omega
      split
      · rename_i hlt
        have hle : lE (kA P i) (kA P ((i - 1) / 2)) := lE_lt hlt
        refine riseF_ord n _ _ (by rw [swpL_len]; exact hp) (by omega) ⟨fun j hj hl hne => ?_, fun j hj hl he h0p => ?_⟩
        · rw [swpL_len] at hl
          rw [kA_swp hi hp, kA_swp hi hp, if_neg hne]
          by_cases hji : j = i
          · subst hji
            rw [if_pos rfl, if_pos rfl]
            exact hle
          · rw [if_neg hji]
            by_cases hq : (j - 1) / 2 = (i - 1) / 2
            · rw [if_pos hq]
              have := h1 j hj hl hji
              rw [hq] at this
              exact lE_trans hle this
            · rw [if_neg hq]
              by_cases hq2 : (j - 1) / 2 = i
              · rw [if_pos hq2]
                exact h2 j hj hl hq2 (by omega)
              · rw [if_neg hq2]
                exact h1 j hj hl hji
        · rw [swpL_len] at hl
          rw [kA_swp hi hp, kA_swp hi hp, if_neg (by omega : ¬ ((i - 1) / 2 - 1) / 2 = (i - 1) / 2), if_neg (by omega : ¬ ((i - 1) / 2 - 1) / 2 = i), if_neg (by omega : ¬ j = (i - 1) / 2)]
          have hpp := h1 ((i - 1) / 2) h0p hp (by omega)
          by_cases hji : j = i
          · rw [if_pos hji]; exact hpp
          · rw [if_neg hji]
            have := h1 j hj hl hji
            rw [he] at this
            exact lE_trans hpp this
      · rename_i hlt
        intro j hj hl
        by_cases hji : j = i
        · subst hji
          exact Bool.eq_false_iff.2 hlt
        · exact h1 j hj hl hji
theorem least2_is (P : List Pile) (i : Nat) :
    (least2 P i = i ∧ ∀ j, 0 < j → j < P.length → (j - 1) / 2 = i → lE (kA P i) (kA P j)) ∨
    (least2 P i < P.length ∧ (least2 P i - 1) / 2 = i ∧ i < least2 P i ∧ ltE (kA P (least2 P i)) (kA P i) = true ∧ ∀ j, 0 < j → j < P.length → (j - 1) / 2 = i → lE (kA P (least2 P i)) (kA P j)) := by
  have hc : ∀ j, 0 < j → (j - 1) / 2 = i → j = 2 * i + 1 ∨ j = 2 * i + 2 := fun j h1 h2 => by omega
  have h1 : (least1 P i = i ∧ (2 * i + 1 < P.length → lE (kA P i) (kA P (2 * i + 1)))) ∨ (least1 P i = 2 * i + 1 ∧ 2 * i + 1 < P.length ∧ ltE (kA P (2 * i + 1)) (kA P i) = true) := by
    unfold least1
    split
    · rename_i h; exact .inr ⟨rfl, h.1, h.2⟩
    · rename_i h
      refine .inl ⟨rfl, fun hl => ?_⟩
      have : ¬ ltE (pA P (2 * i + 1)).1 (pA P i).1 = true := fun c => h ⟨hl, c⟩
      exact Bool.eq_false_iff.2 this
  have h2 : (least2 P i = least1 P i ∧ (2 * i + 2 < P.length → lE (kA P (least1 P i)) (kA P (2 * i + 2)))) ∨ (least2 P i = 2 * i + 2 ∧ 2 * i + 2 < P.length ∧ ltE (kA P (2 * i + 2)) (kA P (least1 P i)) = true) := by
    unfold least2
    split
    · rename_i h; exact .inr ⟨rfl, h.1, h.2⟩
    · rename_i h
      refine .inl ⟨rfl, fun hl => ?_⟩
      have : ¬ ltE (pA P (2 * i + 2)).1 (pA P (least1 P i)).1 = true := fun c => h ⟨hl, c⟩
      exact Bool.eq_false_iff.2 this
  rcases h2 with ⟨e2, n2⟩ | ⟨e2, l2, t2⟩
  · rw [e2]
    rcases h1 with ⟨e1, n1⟩ | ⟨e1, l1, t1⟩
    · rw [e1] at n2 ⊢
      refine .inl ⟨rfl, fun j hj hl he => ?_⟩
      rcases hc j hj he with rfl | rfl
      · exact n1 hl
      · exact n2 hl
    · rw [e1] at n2 ⊢
      refine .inr ⟨l1, by omega, by omega, t1, fun j hj hl he => ?_⟩
      rcases hc j hj he with rfl | rfl
      · exact lE_refl _
      · exact n2 hl
  · rw [e2]
    rcases h1 with ⟨e1, n1⟩ | ⟨e1, l1, t1⟩
    · rw [e1] at t2
      refine .inr ⟨l2, by omega, by omega, t2, fun j hj hl he => ?_⟩
      rcases hc j hj he with rfl | rfl
      · exact lE_trans (lE_lt t2) (n1 hl)
      · exact lE_refl _
    · rw [e1] at t2
      refine .inr ⟨l2, by omega, by omega, ltE_sto.tr _ _ _ t2 t1, fun j hj hl he => ?_⟩
      rcases hc j hj he with rfl | rfl
      · exact lE_lt t2
      · exact lE_refl _
def hDn (P : List Pile) (i : Nat) : Prop := (∀ j, 0 < j → j < P.length → (j - 1) / 2 ≠ i → lE (kA P ((j - 1) / 2)) (kA P j)) ∧ (∀ j, 0 < j → j < P.length → (j - 1) / 2 = i → 0 < i → lE (kA P ((i - 1) / 2)) (kA P j))
theorem sinkF_ord : ∀ (n : Nat) (P : List Pile) (i : Nat), i < P.length → P.length - i < n → hDn P i → hO (sinkF n P i)
  | 0, _, _, _, h, _ => absurd h (Nat.not_lt_zero _)
  | n + 1, P, i, hi, hn, ⟨h1, h2⟩ => by
    unfold sinkF
    rcases least2_is P i with ⟨e, hc⟩ | ⟨hl, he, hlt, ht, hc⟩
    · rw [if_pos e]
      intro j hj hjl
      by_cases hq : (j - 1) / 2 = i
      · rw [hq]; exact hc j hj hjl hq
      · exact h1 j hj hjl hq
    · rw [if_neg (by omega)]
      generalize least2 P i = m at *
      refine sinkF_ord n _ _ (by rw [swpL_len]; exact hl) (by rw [swpL_len]; omega) ⟨fun j hj hjl hq => ?_, fun j hj hjl hq h0 => ?_⟩
      · rw [swpL_len] at hjl
        rw [kA_swp hi hl, kA_swp hi hl, if_neg hq]
        by_cases hjm : j = m
        · subst hjm
          rw [if_pos he, if_pos rfl]
          exact lE_lt ht
        · rw [if_neg hjm]
          by_cases hji : j = i
          · subst hji
            rw [if_neg (by omega), if_pos rfl]
            exact h2 m (by omega) hl he hj
          · rw [if_neg hji]
            by_cases hqi : (j - 1) / 2 = i
            · rw [if_pos hqi]; exact hc j hj hjl hqi
            · rw [if_neg hqi]; exact h1 j hj hjl hqi
      · rw [swpL_len] at hjl
        rw [kA_swp hi hl, kA_swp hi hl, he, if_neg (by omega : ¬ i = m), if_pos rfl, if_neg (by omega : ¬ j = m), if_neg (by omega : ¬ j = i)]
        have := h1 j hj hjl (by omega)
        rw [hq] at this
        exact this
theorem hO.dn {P : List Pile} (h : hO P) (i : Nat) (hi : i < P.length) : hDn P i :=
  ⟨fun j hj hl _ => h j hj hl, fun j hj hl he h0 => by
    have h1 := h j hj hl
    rw [he] at h1
    exact lE_trans (h i h0 hi) h1⟩
theorem hO.set {P : List Pile} (h : hO P) {i : Nat} (hi : i < P.length) (t : Int) : hO (P.set i ((pA P i).1, t)) := by
  have e : ∀ j, kA (P.set i ((pA P i).1, t)) j = kA P j := fun j => by
    rw [kA_set _ hi]
    split
    · rename_i c; rw [c]; rfl
    · rfl
  intro j hj hl
  rw [List.length_set] at hl
  rw [e, e]
  exact h j hj hl
theorem kA_take {P : List Pile} {m i : Nat} (h : i < m) : kA (P.take m) i = kA P i := by unfold kA; rw [pA_take h]
theorem remF_ord {P : List Pile} (h : hO P) {i : Nat} (hi : i < P.length) : hO (remF P i) := by
  obtain ⟨n, hn⟩ : ∃ n, P.length = n + 1 := ⟨P.length - 1, by omega⟩
  have hTl : (P.take n).length = n := by rw [List.length_take]; omega
  have hT : hO (P.take n) := fun j hj hl => by
    rw [hTl] at hl
    rw [kA_take (by omega), kA_take hl]
    exact h j hj (by omega)
  have hr : remF P i = if i = n then P.take n else sinkF ((riseF (i + 1) ((P.take n).set i (pA P n)) i).length + 1 - i) (riseF (i + 1) ((P.take n).set i (pA P n)) i) i := by
    unfold remF; rw [hn]; rfl
  rw [hr]
  split
  · exact hT
  · rename_i hne
    generalize P.take n = T at *
    have hiT : i < T.length := by omega
    have hQl : (T.set i (pA P n)).length = T.length := List.length_set
    have hk := kA_set (pA P n) hiT
    generalize (pA P n) = x at *
    generalize T.set i x = Q at *
    have hRl : (riseF (i + 1) Q i).length = T.length := by rw [riseF_len, hQl]
    refine sinkF_ord _ _ _ (by rw [hRl]; exact hiT) (by rw [hRl]; omega) ?_
    by_cases hup : 0 < i ∧ ltE x.1 (kA T ((i - 1) / 2)) = true
    · refine hO.dn (riseF_ord _ _ _ (by rw [hQl]; exact hiT) (by omega) ⟨fun j hj hl hji => ?_, fun j hj hl he h0 => ?_⟩) _ (by rw [hRl]; exact hiT)
      · rw [hQl] at hl
        rw [hk, hk, if_neg hji]
        have hTj := hT j hj hl
        by_cases hq : (j - 1) / 2 = i
        · rw [if_pos hq]
          rw [hq] at hTj
          exact lE_trans (lE_trans (lE_lt hup.2) (hT i hup.1 hiT)) hTj
        · rw [if_neg hq]; exact hTj
      · rw [hQl] at hl
        rw [hk, hk, if_neg (by omega), if_neg (by omega)]
        exact (hT.dn i hiT).2 j hj hl he h0
    · have hRQ : riseF (i + 1) Q i = Q := by
        unfold riseF
        split
        · rfl
        · rename_i h0
          rw [if_neg]
          intro c
          refine hup ⟨by omega, ?_⟩
          have a := hk i
          have b := hk ((i - 1) / 2)
          rw [if_pos rfl] at a
          rw [if_neg (by omega)] at b
          unfold kA at a b
          rw [a, b] at c
          exact c
      rw [hRQ]
      refine ⟨fun j hj hl hq => ?_, fun j hj hl he h0 => ?_⟩
      · rw [hQl] at hl
        rw [hk, hk, if_neg hq]
        by_cases hji : j = i
        · subst hji
          rw [if_pos rfl]
          exact Bool.eq_false_iff.2 (fun c => hup ⟨hj, c⟩)
        · rw [if_neg hji]; exact hT j hj hl
      · rw [hQl] at hl
        rw [hk, hk, if_neg (by omega), if_neg (by omega)]
        exact (hT.dn i hiT).2 j hj hl he h0
theorem takF_ord {P : List Pile} (h : hO P) {i : Nat} (hi : i < P.length) : hO (takF P i) := by
  unfold takF
  split
  · exact remF_ord (h.set hi _) (by rw [List.length_set]; exact hi)
  · exact h.set hi _
theorem AdS.ord {P P' : List Pile} {e : E3} (h : AdS P e P') (hp : hO P) : hO P' := by
  rcases h with ⟨_, rfl⟩ | ⟨i, hi, _, rfl⟩
  · have hk : ∀ j, j < P.length → kA (P ++ [(e, 1)]) j = kA P j := fun j hj => by
      unfold kA pA; rw [List.getD_eq_getElem?_getD, List.getD_eq_getElem?_getD, List.getElem?_append_left hj]
    unfold addF
    refine riseF_ord _ _ _ (by simp) (by omega) ⟨fun j hj hl hne => ?_, fun j hj hl he h0 => ?_⟩
    · have : j < P.length := by simp at hl; omega
      rw [hk _ this, hk _ (by omega)]
      exact hp j hj this
    · simp at hl; omega
  · exact hp.set hi _
/-- The first is least. -/
theorem hO.least {P : List Pile} (h : hO P) : ∀ (n j : Nat), j ≤ n → j < P.length → lE (kA P 0) (kA P j)
  | 0, j, hj, _ => by obtain rfl : j = 0 := by omega
                      exact lE_refl _
  | n + 1, j, hj, hl => by
    by_cases h0 : j = 0
    · subst h0; exact lE_refl _
    · exact lE_trans (hO.least h n ((j - 1) / 2) (by omega) (by omega)) (h j (by omega) hl)
end Go.Proofs.Ytbdmmgplpndobaa
