/- Numbers as bytes, seven bits each: plain. -/
import Derived.Lib.BitFns
namespace Go.Proofs.Ytcbgknlklpandaa

def nb (n : Nat) : List Nat := if n < 128 then [n] else (128 + n % 128) :: nb (n / 128)
termination_by n
decreasing_by omega
theorem nb_lo {n : Nat} (h : n < 128) : nb n = [n] := by rw [nb, if_pos h]
theorem nb_hi {n : Nat} (h : 128 ≤ n) : nb n = (128 + n % 128) :: nb (n / 128) := by rw [nb, if_neg (by omega)]
theorem nb_lt : ∀ (m n : Nat), n ≤ m → ∀ x ∈ nb n, x < 256 := by
  intro m
  induction m with
  | zero => intro n hn x hx; rw [nb_lo (by omega)] at hx; simp at hx; omega
  | succ m ih =>
    intro n hn x hx
    by_cases h : n < 128
    · rw [nb_lo h] at hx; simp at hx; omega
    · rw [nb_hi (by omega)] at hx
      rcases List.mem_cons.1 hx with rfl | hx
      · omega
      · exact ih (n / 128) (by omega) x hx
theorem nb_pos (n : Nat) : 0 < (nb n).length := by
  rw [nb]; split <;> simp
theorem nb_len_le : ∀ (k n : Nat), n < 128 ^ (k + 1) → (nb n).length ≤ k + 1 := by
  intro k
  induction k with
  | zero => intro n h; rw [nb_lo (by simpa using h)]; simp
  | succ k ih =>
    intro n h
    by_cases h1 : n < 128
    · rw [nb_lo h1]; simp
    · rw [nb_hi (by omega), List.length_cons]
      have := ih (n / 128) (by rw [Nat.div_lt_iff_lt_mul (by omega)]; rw [Nat.pow_succ] at h; exact h)
      omega
theorem nb_len10 {n : Nat} (h : n < 18446744073709551616) : (nb n).length ≤ 10 := nb_len_le 9 n (Nat.lt_of_lt_of_le h (by decide))
theorem nb_size : ∀ (m n : Nat), n ≤ m → n < 18446744073709551616 → (nb n).length = (max (Lib.bitLen n) 1 + 6) / 7 := by
  intro m
  induction m with
  | zero =>
    intro n h _
    obtain rfl : n = 0 := by omega
    rw [nb_lo (by omega)]
    decide
  | succ m ih =>
    intro n hm h
    by_cases h1 : n < 128
    · have := Lib.bitLen_le n 7 (by omega) h1
      rw [nb_lo h1, List.length_singleton]; omega
    · have h2 := Lib.bitLen_shift 7 n (by omega) h
      rw [nb_hi (by omega), List.length_cons, ih (n / 128) (by omega) (by omega), h2]
      rw [show 2 ^ 7 = 128 from rfl]
      have h3 : 1 ≤ Lib.bitLen (n / 128) := by
        have := Lib.bitLen_half (n / 128) (by omega) (by omega)
        omega
      omega
theorem nb_mono : ∀ (m a b : Nat), b ≤ m → a ≤ b → (nb a).length ≤ (nb b).length := by
  intro m
  induction m with
  | zero =>
    intro a b h1 h2
    obtain rfl : a = b := by omega
    exact Nat.le_refl _
  | succ m ih =>
    intro a b h1 h2
    by_cases ha : a < 128
    · rw [nb_lo ha]; exact nb_pos b
    · rw [nb_hi (by omega), nb_hi (n := b) (by omega), List.length_cons, List.length_cons]
      have := ih (a / 128) (b / 128) (by omega) (by omega)
      omega
/-- How many bytes go on; what they say. -/
def lead : List Nat → Nat
  | [] => 0
  | x :: t => if 128 ≤ x then lead t + 1 else 0
def val : List Nat → Nat
  | [] => 0
  | x :: t => x % 128 + 128 * val t
theorem lead_le : ∀ b, lead b ≤ b.length
  | [] => Nat.le_refl _
  | x :: t => by have := lead_le t; unfold lead; split <;> simp <;> omega
theorem lead_at : ∀ {b : List Nat} {i : Nat}, i < lead b → 128 ≤ b.getD i 0
  | [], i, h => by cases h
  | x :: t, i, h => by
    unfold lead at h
    split at h
    · match i with
      | 0 => simpa using (by assumption : 128 ≤ x)
      | i + 1 => simpa using lead_at (b := t) (i := i) (by omega)
    · cases h
theorem lead_end : ∀ {b : List Nat}, lead b < b.length → b.getD (lead b) 0 < 128
  | [], h => by cases h
  | x :: t, h => by
    unfold lead at h ⊢
    split
    · rename_i hx
      rw [if_pos hx] at h
      simpa using lead_end (b := t) (by simpa using h)
    · simp; omega
theorem lead_is : ∀ {b : List Nat} {k : Nat}, (∀ i, i < k → 128 ≤ b.getD i 0) → k ≤ b.length → (k < b.length → b.getD k 0 < 128) → lead b = k
  | [], k, _, h, _ => by simp at h; subst h; rfl
  | x :: t, 0, _, _, h => by
    have := h (by simp)
    unfold lead
    rw [if_neg (by simpa using this)]
  | x :: t, k + 1, h, h2, h3 => by
    have h0 := h 0 (by omega)
    unfold lead
    rw [if_pos (by simpa using h0), lead_is (b := t) (k := k) (fun i hi => by simpa using h (i + 1) (by omega)) (by simpa using h2) (fun hk => by simpa using h3 (by simpa using hk))]
def rd (b : List Nat) : Nat × Nat × Nat :=
  if 10 ≤ lead b then (0, 0, 5) else if lead b = b.length then (0, 0, 4) else if lead b = 9 ∧ 1 < b.getD 9 0 then (0, 0, 5) else if 0 < lead b ∧ b.getD (lead b) 0 = 0 then (0, 0, 3) else (val (b.take (lead b + 1)), lead b + 1, 0)
theorem val_nb : ∀ (m n : Nat), n ≤ m → val (nb n) = n := by
  intro m
  induction m with
  | zero => intro n h; rw [nb_lo (by omega)]; simp [val]; omega
  | succ m ih =>
    intro n h
    by_cases h1 : n < 128
    · rw [nb_lo h1]; simp [val]; omega
    · rw [nb_hi (by omega), val, ih (n / 128) (by omega)]; omega
theorem lead_nb : ∀ (m n : Nat) (t : List Nat), n ≤ m → lead (nb n ++ t) + 1 = (nb n).length := by
  intro m
  induction m with
  | zero => intro n t h; rw [nb_lo (by omega)]; simp [lead]; omega
  | succ m ih =>
    intro n t h
    by_cases h1 : n < 128
    · rw [nb_lo h1]; simp [lead]; omega
    · rw [nb_hi (by omega), List.cons_append, lead, if_pos (by omega), ih (n / 128) t (by omega), List.length_cons]
/-- The last byte. -/
def lst (n : Nat) : Nat := (nb n).getD ((nb n).length - 1) 0
theorem lst_hi {n : Nat} (h : 128 ≤ n) : lst n = lst (n / 128) := by
  unfold lst
  have := nb_pos (n / 128)
  rw [nb_hi h, List.length_cons, show (nb (n / 128)).length + 1 - 1 = ((nb (n / 128)).length - 1) + 1 from by omega]
  simp
theorem lst_pos : ∀ (m n : Nat), n ≤ m → 0 < n → 0 < lst n := by
  intro m
  induction m with
  | zero => intro n h h0; omega
  | succ m ih =>
    intro n h h0
    by_cases h1 : n < 128
    · unfold lst; rw [nb_lo h1]; simpa using h0
    · rw [lst_hi (by omega)]; exact ih _ (by omega) (by omega)
theorem lst_top : ∀ (k n : Nat), n < 2 * 128 ^ k → k + 1 ≤ (nb n).length → lst n ≤ 1 := by
  intro k
  induction k with
  | zero => intro n h _; unfold lst; rw [nb_lo (by simp at h; omega)]; simp at h ⊢; omega
  | succ k ih =>
    intro n h hl
    by_cases h1 : n < 128
    · rw [nb_lo h1] at hl; simp at hl
    · rw [lst_hi (by omega)]
      rw [nb_hi (by omega), List.length_cons] at hl
      exact ih _ (by rw [Nat.div_lt_iff_lt_mul (by omega)]; rw [Nat.pow_succ] at h; omega) (by omega)
theorem rd_nb {n : Nat} (h : n < 18446744073709551616) (t : List Nat) : rd (nb n ++ t) = (n, (nb n).length, 0) := by
  have h1 := lead_nb n n t (Nat.le_refl _)
  have h2 := nb_len10 h
  have h3 := nb_pos n
  have e1 : lead (nb n ++ t) = (nb n).length - 1 := by omega
  have e2 : (nb n ++ t).getD ((nb n).length - 1) 0 = lst n := by
    unfold lst
    rw [List.getD_eq_getElem?_getD, List.getD_eq_getElem?_getD, List.getElem?_append_left (by omega)]
  unfold rd
  rw [e1, if_neg (by omega), if_neg (by rw [List.length_append]; omega)]
  rw [if_neg (by
    rintro ⟨h5, h6⟩
    rw [← h5, e2] at h6
    have := lst_top 9 n (by omega) (by omega)
    omega), if_neg (by
    rintro ⟨h5, h6⟩
    rw [e2] at h6
    have : 0 < n := by
      rcases Nat.eq_zero_or_pos n with rfl | h
      · rw [nb_lo (by omega)] at h5; simp at h5
      · exact h
    have := lst_pos n n (Nat.le_refl _) this
    omega)]
  rw [show (nb n).length - 1 + 1 = (nb n).length from by omega, List.take_left, val_nb n n (Nat.le_refl _)]
theorem rd_cut {n k : Nat} (h : n < 18446744073709551616) (hk : k < (nb n).length) : rd ((nb n).take k) = (0, 0, 4) := by
  have h1 := lead_nb n n [] (Nat.le_refl _)
  rw [List.append_nil] at h1
  have h2 := nb_len10 h
  have hl : ((nb n).take k).length = k := by rw [List.length_take]; omega
  have e : lead ((nb n).take k) = k := lead_is (fun i hi => by
    have := lead_at (b := nb n) (i := i) (by omega)
    rw [List.getD_eq_getElem?_getD, List.getElem?_take_of_lt hi, ← List.getD_eq_getElem?_getD]
    exact this) (by omega) (by omega)
  unfold rd
  rw [e, if_neg (by omega), if_pos hl.symm]
/-- Bytes that are right are the bytes of what they say. -/
theorem nb_val : ∀ (b : List Nat), 0 < b.length → (∀ x ∈ b, x < 256) → (∀ i, i + 1 < b.length → 128 ≤ b.getD i 0) → b.getD (b.length - 1) 0 < 128 → (1 < b.length → b.getD (b.length - 1) 0 ≠ 0) → nb (val b) = b
  | [], h, _, _, _, _ => by cases h
  | [x], _, _, _, h, _ => by
    simp at h
    have : val [x] = x := by simp [val]; omega
    rw [this, nb_lo h]
  | x :: y :: t, _, hb, hm, hl, hz => by
    have h0 := hm 0 (by simp)
    have hx := hb x List.mem_cons_self
    simp at h0
    have e : (y :: t).length - 1 + 1 = (x :: y :: t).length - 1 := by simp
    rw [← e] at hl hz
    rw [List.getD_cons_succ] at hl hz
    have ih := nb_val (y :: t) (by simp) (fun z hz => hb z (List.mem_cons_of_mem _ hz)) (fun i hi => by
      have := hm (i + 1) (by simpa using hi)
      rwa [List.getD_cons_succ] at this) hl (fun _ => hz (by simp))
    have hv : 0 < val (y :: t) := by
      rcases Nat.eq_zero_or_pos (val (y :: t)) with h | h
      · exfalso
        rw [h, nb_lo (by omega)] at ih
        have e1 : t = [] := by injection ih with _ e2; exact e2.symm
        have e2 : y = 0 := by injection ih with e2 _; exact e2.symm
        subst e1 e2
        exact hz (by simp) rfl
      · exact h
    rw [val, nb_hi (by omega), show (x % 128 + 128 * val (y :: t)) / 128 = val (y :: t) from by omega, ih]
    congr 1
    omega
theorem val_lt : ∀ (b : List Nat) (k : Nat), b.length ≤ k → val b < 128 ^ k
  | [], k, _ => Nat.pow_pos (by omega)
  | x :: t, 0, h => by simp at h
  | x :: t, k + 1, h => by
    have := val_lt t k (by simpa using h)
    rw [val, Nat.pow_succ]
    omega
theorem val_snoc : ∀ (b : List Nat) (x : Nat), val (b ++ [x]) = val b + x % 128 * 128 ^ b.length
  | [], x => by simp [val]
  | y :: t, x => by
    rw [List.cons_append, val, val, val_snoc t x, List.length_cons, Nat.pow_succ, Nat.mul_add, ← Nat.mul_assoc, Nat.mul_comm 128 (x % 128), Nat.mul_comm (128 ^ t.length) 128, Nat.mul_assoc]
    omega
theorem rd_ok {b : List Nat} {n k : Nat} (h : rd b = (n, k, 0)) (hb : ∀ x ∈ b, x < 256) : 0 < k ∧ k ≤ b.length ∧ k ≤ 10 ∧ nb n = b.take k ∧ n < 18446744073709551616 := by
  unfold rd at h
  split at h
  · cases h
  · rename_i h10
    split at h
    · cases h
    · rename_i hlen
      split at h
      · cases h
      · rename_i h9
        split at h
        · cases h
        · rename_i hz
          injection h with e1 h
          injection h with e2 _
          subst e1 e2
          have hle := lead_le b
          have hlt : lead b < b.length := by omega
          have hend := lead_end hlt
          have htl : (b.take (lead b + 1)).length = lead b + 1 := by rw [List.length_take]; omega
          have hg : ∀ i, i ≤ lead b → (b.take (lead b + 1)).getD i 0 = b.getD i 0 := fun i hi => by
            rw [List.getD_eq_getElem?_getD, List.getElem?_take_of_lt (by omega), ← List.getD_eq_getElem?_getD]
          refine ⟨by omega, by omega, by omega, nb_val _ (by omega) (fun x hx => hb x (List.mem_of_mem_take hx)) (fun i hi => ?_) ?_ (fun h1 => ?_), ?_⟩
          · rw [htl] at hi
            rw [hg i (by omega)]
            exact lead_at (by omega)
          · rw [htl, show lead b + 1 - 1 = lead b from by omega, hg _ (Nat.le_refl _)]
            exact hend
          · rw [htl] at h1
            rw [htl, show lead b + 1 - 1 = lead b from by omega, hg _ (Nat.le_refl _)]
            intro e
            exact hz ⟨by omega, e⟩
          · by_cases h9' : lead b = 9
            · have e9 : b.take 10 = b.take 9 ++ [b.getD 9 0] := by
                rw [List.take_succ_eq_append_getElem (by omega), List.getD_eq_getElem?_getD, List.getElem?_eq_getElem (by omega)]; rfl
              have hv := val_lt (b.take 9) 9 (by rw [List.length_take]; omega)
              have hb9 : b.getD 9 0 ≤ 1 := by
                rcases Nat.lt_or_ge 1 (b.getD 9 0) with h | h
                · exact absurd ⟨h9', h⟩ h9
                · exact h
              rw [h9', e9, val_snoc, List.length_take, Nat.min_eq_left (by omega)]
              have h3 : b.getD 9 0 % 128 ≤ 1 := by omega
              have h4 : (128 : Nat) ^ 9 = 9223372036854775808 := by decide
              rw [h4] at hv ⊢
              generalize b.getD 9 0 % 128 = y at *
              omega
            · have := val_lt (b.take (lead b + 1)) 9 (by rw [htl]; omega)
              exact Nat.lt_of_lt_of_le this (by decide)
/-- All numbers of bytes, from a place on. -/
def rowR : Nat → List Nat → Nat → List Nat → List Nat × Nat × Nat
  | 0, _, _, acc => (acc, 0, 0)
  | g + 1, b, i, acc => if i < b.length then (if (rd (b.drop i)).2.2 = 0 then rowR g b (i + (rd (b.drop i)).2.1) (acc ++ [(rd (b.drop i)).1]) else ([], i, (rd (b.drop i)).2.2)) else (acc, 0, 0)
def rowD (b : List Nat) : List Nat × Nat × Nat := rowR (b.length + 1) b 0 []
def bys (l : List Nat) : List Nat := l.flatMap nb
theorem bys_snoc (l : List Nat) (n : Nat) : bys (l ++ [n]) = bys l ++ nb n := by simp [bys]
theorem bys_cons (l : List Nat) (n : Nat) : bys (n :: l) = nb n ++ bys l := rfl
theorem bys_app (l m : List Nat) : bys (l ++ m) = bys l ++ bys m := by simp [bys]
theorem bys_len (l : List Nat) (h : ∀ n ∈ l, n < 18446744073709551616) : (bys l).length ≤ 10 * l.length ∧ l.length ≤ (bys l).length := by
  induction l with
  | nil => simp [bys]
  | cons n l ih =>
    have := ih (fun x hx => h x (List.mem_cons_of_mem _ hx))
    have h1 := nb_len10 (h n List.mem_cons_self)
    have h2 := nb_pos n
    rw [bys_cons, List.length_append, List.length_cons]
    omega
theorem bys_lt (l : List Nat) : ∀ x ∈ bys l, x < 256 := by
  intro x hx
  obtain ⟨n, _, h⟩ := List.mem_flatMap.1 hx
  exact nb_lt n n (Nat.le_refl _) x h
theorem row_bys : ∀ (l : List Nat) (g : Nat) (b : List Nat) (i : Nat) (acc : List Nat), (∀ n ∈ l, n < 18446744073709551616) → b.drop i = bys l → l.length < g → rowR g b i acc = (acc ++ l, 0, 0)
  | [], 0, b, i, acc, _, h, hg => by cases hg
  | [], g + 1, b, i, acc, _, h, hg => by
    have : b.length ≤ i := by
      have e := congrArg List.length h
      simp [bys] at e
      omega
    rw [rowR, if_neg (by omega), List.append_nil]
  | n :: l, 0, b, i, acc, _, h, hg => by simp at hg
  | n :: l, g + 1, b, i, acc, hl, h, hg => by
    have hn := hl n List.mem_cons_self
    have hi : i < b.length := by
      rcases Nat.lt_or_ge i b.length with h1 | h1
      · exact h1
      · rw [List.drop_of_length_le h1, bys_cons] at h
        have := nb_pos n
        have e := congrArg List.length h
        rw [List.length_append] at e
        simp at e
        omega
    have e := rd_nb hn (bys l)
    rw [← bys_cons, ← h] at e
    rw [rowR, if_pos hi, e, if_pos rfl]
    have h2 : b.drop (i + (nb n).length) = bys l := by
      rw [← List.drop_drop, h, bys_cons, List.drop_left]
    rw [row_bys l g b (i + (nb n).length) (acc ++ [n]) (fun x hx => hl x (List.mem_cons_of_mem _ hx)) h2 (by simpa using hg)]
    simp
theorem rowD_bys {l : List Nat} (h : ∀ n ∈ l, n < 18446744073709551616) : rowD (bys l) = (l, 0, 0) := by
  have := row_bys l ((bys l).length + 1) (bys l) 0 [] h rfl (by have := (bys_len l h).2; omega)
  simpa [rowD] using this
theorem row_ok : ∀ (g : Nat) (b : List Nat) (i : Nat) (acc l : List Nat) (at' : Nat), (∀ x ∈ b, x < 256) → (∀ n ∈ acc, n < 18446744073709551616) → i ≤ b.length → b.length < i + g → bys acc = b.take i → rowR g b i acc = (l, at', 0) → bys l = b ∧ at' = 0 ∧ ∀ n ∈ l, n < 18446744073709551616
  | 0, b, i, acc, l, at', _, _, h1, h2, _, _ => by omega
  | g + 1, b, i, acc, l, at', hb, ha, h1, h2, h3, h => by
    rw [rowR] at h
    split at h
    · rename_i hi
      split at h
      · rename_i he
        have hr : rd (b.drop i) = ((rd (b.drop i)).1, (rd (b.drop i)).2.1, 0) := by rw [← he]
        obtain ⟨k1, k2, _, k4, k5⟩ := rd_ok hr (fun x hx => hb x (List.mem_of_mem_drop hx))
        rw [List.length_drop] at k2
        refine row_ok g b _ _ l at' hb (fun n hn => ?_) (by omega) (by omega) ?_ h
        · rcases List.mem_append.1 hn with hn | hn
          · exact ha n hn
          · rw [List.mem_singleton] at hn; rw [hn]; exact k5
        · rw [bys_snoc, h3, k4, List.take_add]
      · rename_i he
        injection h with _ h
        injection h with _ h
        exact absurd h he
    · rename_i hi
      injection h with e1 h
      injection h with e2 _
      subst e1 e2
      exact ⟨by rw [h3, List.take_of_length_le (by omega)], rfl, ha⟩
theorem rowD_ok {b l : List Nat} {at' : Nat} (hb : ∀ x ∈ b, x < 256) (h : rowD b = (l, at', 0)) : bys l = b ∧ at' = 0 ∧ ∀ n ∈ l, n < 18446744073709551616 :=
  row_ok (b.length + 1) b 0 [] l at' hb (fun n hn => (List.not_mem_nil hn).elim) (Nat.zero_le _) (by omega) (by simp [bys]) h
/-- Turned numbers. -/
def zigV (n : Int) : Int := if n < 0 then 2 * (-n - 1) + 1 else 2 * n
def zagV (u : Int) : Int := if u % 2 = 1 then -(u / 2) - 1 else u / 2
theorem zig_zag {n : Int} : zagV (zigV n) = n := by
  unfold zigV zagV
  split <;> split <;> omega
theorem zag_zig {u : Int} (h : 0 ≤ u) : zigV (zagV u) = u := by
  unfold zigV zagV
  split <;> split <;> omega
end Go.Proofs.Ytcbgknlklpandaa
