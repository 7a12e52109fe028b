/- Messages of fields, as bytes: plain. -/
import Derived.Test.YtcbgknlklpandaaVarG
namespace Go.Proofs.Ytcbgknlklpandaa

/-- A field. -/
structure Fd where
  num : Int
  kind : Int
  n : Nat
  b : List Nat
def fdZ : Fd := ⟨0, 0, 0, []⟩
def kdB (k : Int) : Bool := k == 0 || k == 1 || k == 2 || k == 5
theorem kdB_iff (k : Int) : kdB k = true ↔ k = 0 ∨ k = 1 ∨ k = 2 ∨ k = 5 := by
  unfold kdB
  simp [or_assoc]
def chk (f : Fd) : Nat :=
  if f.num < 1 ∨ 536870911 < f.num then 5
  else if kdB f.kind = false then 14
  else if (f.kind = 2 ∧ f.n ≠ 0) ∨ (f.kind ≠ 2 ∧ f.b ≠ []) then 3
  else if f.kind = 5 ∧ 4294967295 < f.n then 5 else 0
/-- A number's lowest bytes. -/
def low (n : Nat) : Nat → List Nat
  | 0 => []
  | k + 1 => n % 256 :: low (n / 256) k
def unl : List Nat → Nat
  | [] => 0
  | x :: t => x + 256 * unl t
theorem low_len : ∀ (k n : Nat), (low n k).length = k
  | 0, n => rfl
  | k + 1, n => by rw [low, List.length_cons, low_len k]
theorem low_lt : ∀ (k n : Nat), ∀ x ∈ low n k, x < 256
  | 0, n => by intro x hx; cases hx
  | k + 1, n => by
    intro x hx
    rw [low] at hx
    rcases List.mem_cons.1 hx with rfl | hx
    · omega
    · exact low_lt k _ x hx
theorem unl_low : ∀ (k n : Nat), n < 256 ^ k → unl (low n k) = n
  | 0, n, h => by simp at h; subst h; rfl
  | k + 1, n, h => by
    rw [low, unl, unl_low k (n / 256) (by rw [Nat.div_lt_iff_lt_mul (by omega)]; rw [Nat.pow_succ] at h; exact h)]
    omega
theorem low_unl : ∀ (b : List Nat), (∀ x ∈ b, x < 256) → low (unl b) b.length = b
  | [], _ => rfl
  | x :: t, h => by
    have hx := h x List.mem_cons_self
    rw [unl, List.length_cons, low, show (x + 256 * unl t) % 256 = x from by omega, show (x + 256 * unl t) / 256 = unl t from by omega, low_unl t (fun y hy => h y (List.mem_cons_of_mem _ hy))]
theorem unl_lt : ∀ (b : List Nat), (∀ x ∈ b, x < 256) → unl b < 256 ^ b.length
  | [], _ => by simp [unl]
  | x :: t, h => by
    have hx := h x List.mem_cons_self
    have := unl_lt t (fun y hy => h y (List.mem_cons_of_mem _ hy))
    rw [unl, List.length_cons, Nat.pow_succ]
    omega
theorem low_snoc : ∀ (k n : Nat), low n (k + 1) = low n k ++ [n / 256 ^ k % 256]
  | 0, n => by simp [low]
  | k + 1, n => by
    rw [low, low_snoc k (n / 256), low, List.cons_append, Nat.div_div_eq_div_mul, ← Nat.pow_succ']
/-- How many bytes a word has. -/
def wid (k : Int) : Nat := if k = 5 then 4 else 8
/-- What comes behind the key. -/
def pay (f : Fd) : List Nat := if f.kind = 0 then nb f.n else if f.kind = 2 then nb f.b.length ++ f.b else low f.n (wid f.kind)
def key (f : Fd) : Nat := (8 * f.num + f.kind).toNat
def fby (f : Fd) : List Nat := nb (key f) ++ pay f
/-- The field that bytes begin with. -/
def rdF (b : List Nat) : Fd × Nat × Nat :=
  if (rd b).2.2 ≠ 0 then (fdZ, 0, (rd b).2.2)
  else if (rd b).1 / 8 < 1 ∨ 536870911 < (rd b).1 / 8 then (fdZ, 0, 5)
  else if kdB (((rd b).1 % 8 : Nat) : Int) = false then (fdZ, 0, 14)
  else if (rd b).1 % 8 = 0 then
    (if (rd (b.drop (rd b).2.1)).2.2 ≠ 0 then (fdZ, 0, (rd (b.drop (rd b).2.1)).2.2)
     else (⟨((rd b).1 / 8 : Nat), 0, (rd (b.drop (rd b).2.1)).1, []⟩, (rd b).2.1 + (rd (b.drop (rd b).2.1)).2.1, 0))
  else if (rd b).1 % 8 = 2 then
    (if (rd (b.drop (rd b).2.1)).2.2 ≠ 0 then (fdZ, 0, (rd (b.drop (rd b).2.1)).2.2)
     else if b.length - (rd b).2.1 - (rd (b.drop (rd b).2.1)).2.1 < (rd (b.drop (rd b).2.1)).1 then (fdZ, 0, 4)
     else (⟨((rd b).1 / 8 : Nat), 2, 0, (b.drop ((rd b).2.1 + (rd (b.drop (rd b).2.1)).2.1)).take (rd (b.drop (rd b).2.1)).1⟩, (rd b).2.1 + (rd (b.drop (rd b).2.1)).2.1 + (rd (b.drop (rd b).2.1)).1, 0))
  else if b.length - (rd b).2.1 < wid (((rd b).1 % 8 : Nat) : Int) then (fdZ, 0, 4)
  else (⟨((rd b).1 / 8 : Nat), ((rd b).1 % 8 : Nat), unl ((b.drop (rd b).2.1).take (wid (((rd b).1 % 8 : Nat) : Int))), []⟩, (rd b).2.1 + wid (((rd b).1 % 8 : Nat) : Int), 0)
/-- A field that may be told: bounds. -/
theorem chk_ok {f : Fd} (h : chk f = 0) : (1 ≤ f.num ∧ f.num ≤ 536870911) ∧ (f.kind = 0 ∨ f.kind = 1 ∨ f.kind = 2 ∨ f.kind = 5) ∧ (f.kind = 2 → f.n = 0) ∧ (f.kind ≠ 2 → f.b = []) ∧ (f.kind = 5 → f.n ≤ 4294967295) := by
  unfold chk at h
  split at h
  · omega
  · rename_i h1
    split at h
    · omega
    · rename_i h2
      split at h
      · omega
      · rename_i h3
        split at h
        · omega
        · rename_i h4
          have hk : kdB f.kind = true := by simpa using h2
          rw [kdB_iff] at hk
          refine ⟨by omega, hk, fun e => ?_, fun e => ?_, fun e => ?_⟩
          · rcases Nat.eq_zero_or_pos f.n with h | h
            · exact h
            · exact absurd (.inl ⟨e, by omega⟩) h3
          · rcases Decidable.em (f.b = []) with h | h
            · exact h
            · exact absurd (.inr ⟨e, h⟩) h3
          · rcases Nat.lt_or_ge 4294967295 f.n with h | h
            · exact absurd ⟨e, h⟩ h4
            · exact h
theorem chk_of {f : Fd} (h1 : 1 ≤ f.num) (h2 : f.num ≤ 536870911) (hk : f.kind = 0 ∨ f.kind = 1 ∨ f.kind = 2 ∨ f.kind = 5) (h3 : f.kind = 2 → f.n = 0) (h4 : f.kind ≠ 2 → f.b = []) (h5 : f.kind = 5 → f.n ≤ 4294967295) : chk f = 0 := by
  unfold chk
  have hb := (kdB_iff f.kind).2 hk
  rw [if_neg (by omega), if_neg (by rw [hb]; simp), if_neg (by
    rintro (⟨a, b⟩ | ⟨a, b⟩)
    · exact b (h3 a)
    · exact b (h4 a)), if_neg (by
    rintro ⟨a, b⟩
    have := h5 a
    omega)]
theorem drop_left {a b : List Nat} : (a ++ b).drop a.length = b := List.drop_left
/-- What was written is read. -/
theorem rdF_fby {f : Fd} (h : chk f = 0) (hn : f.n < 18446744073709551616) (hbl : f.b.length < 18446744073709551616) (t : List Nat) : rdF (fby f ++ t) = (f, (fby f).length, 0) := by
  obtain ⟨⟨n1, n2⟩, hk, h3, h4, h5⟩ := chk_ok h
  have hk8 : 0 ≤ f.kind ∧ f.kind ≤ 5 := by omega
  have e1 : key f / 8 = f.num.toNat := by unfold key; omega
  have e2 : key f % 8 = f.kind.toNat := by unfold key; omega
  have e3 : key f < 18446744073709551616 := by unfold key; omega
  have er : rd (fby f ++ t) = (key f, (nb (key f)).length, 0) := by
    unfold fby
    rw [List.append_assoc]
    exact rd_nb e3 _
  have ed : (fby f ++ t).drop (nb (key f)).length = pay f ++ t := by
    unfold fby
    rw [List.append_assoc, drop_left]
  have ek : ((f.kind.toNat : Nat) : Int) = f.kind := by omega
  have en : ((f.num.toNat : Nat) : Int) = f.num := by omega
  have hkb : kdB f.kind = true := (kdB_iff _).2 hk
  unfold rdF
  rw [er]
  dsimp only
  rw [ed, e1, e2, ek, en, if_neg (by omega), if_neg (by omega), if_neg (by rw [hkb]; simp)]
  obtain ⟨num, kind, n, b⟩ := f
  dsimp only at *
  by_cases k0 : kind = 0
  · subst k0
    have hb : b = [] := h4 (by omega)
    subst hb
    have ep : pay ⟨num, 0, n, []⟩ = nb n := by unfold pay; rw [if_pos rfl]
    rw [if_pos (show Int.toNat 0 = 0 from rfl), ep, rd_nb hn t, if_neg (by simp)]
    unfold fby
    rw [ep, List.length_append]
  · by_cases k2 : kind = 2
    · subst k2
      have hn0 : n = 0 := h3 rfl
      subst hn0
      have ep : pay ⟨num, 2, 0, b⟩ = nb b.length ++ b := by unfold pay; rw [if_neg (show ¬ (2 : Int) = 0 from by omega), if_pos rfl]
      have ef : fby ⟨num, 2, 0, b⟩ = nb (key ⟨num, 2, 0, b⟩) ++ (nb b.length ++ b) := by unfold fby; rw [ep]
      have ed2 : (fby ⟨num, 2, 0, b⟩ ++ t).drop ((nb (key ⟨num, 2, 0, b⟩)).length + (nb b.length).length) = b ++ t := by
        rw [ef, ← List.drop_drop, List.append_assoc, drop_left, List.append_assoc, drop_left]
      have el : (fby ⟨num, 2, 0, b⟩ ++ t).length = (nb (key ⟨num, 2, 0, b⟩)).length + ((nb b.length).length + (b.length + t.length)) := by
        rw [ef]; simp only [List.length_append]; omega
      rw [if_neg (show ¬ (Int.toNat 2) = 0 from by decide), if_pos (show Int.toNat 2 = 2 from rfl), ep, List.append_assoc, rd_nb hbl, if_neg (by simp)]
      dsimp only
      rw [ed2, el, if_neg (by omega), List.take_left]
      rw [ef]; simp only [List.length_append]
      congr 2
      omega
    · have hb : b = [] := h4 k2
      subst hb
      have ep : pay ⟨num, kind, n, []⟩ = low n (wid kind) := by unfold pay; rw [if_neg k0, if_neg k2]
      have hlow : n < 256 ^ wid kind := by
        unfold wid
        split
        · rename_i h; have := h5 h; omega
        · omega
      have el : (fby ⟨num, kind, n, []⟩ ++ t).length = (nb (key ⟨num, kind, n, []⟩)).length + (wid kind + t.length) := by
        unfold fby; rw [ep]; simp only [List.length_append, low_len]; omega
      rw [if_neg (by omega), if_neg (by omega), el, if_neg (by omega), ep]
      have et : (low n (wid kind) ++ t).take (wid kind) = low n (wid kind) := by
        have := List.take_left (l₁ := low n (wid kind)) (l₂ := t)
        rwa [low_len] at this
      rw [et, unl_low _ _ hlow]
      unfold fby
      rw [ep, List.length_append, low_len]
/-- What was read has just these bytes. -/
theorem rdF_ok {b : List Nat} {f : Fd} {k : Nat} (hb : ∀ x ∈ b, x < 256) (h : rdF b = (f, k, 0)) : chk f = 0 ∧ 0 < k ∧ k ≤ b.length ∧ fby f = b.take k ∧ f.n < 18446744073709551616 ∧ f.b.length ≤ b.length ∧ (∀ x ∈ f.b, x < 256) := by
  unfold rdF at h
  by_cases h1 : (rd b).2.2 = 0
  · rw [if_neg (by omega)] at h
    have hr : rd b = ((rd b).1, (rd b).2.1, 0) := by rw [← h1]
    obtain ⟨k1, k2, _, k4, k5⟩ := rd_ok hr hb
    generalize (rd b).1 = u at *
    generalize (rd b).2.1 = at1 at *
    split at h
    · cases h
    · rename_i h2
      split at h
      · cases h
      · rename_i h3
        have h3 : kdB ((u % 8 : Nat) : Int) = true := by simpa using h3
        rw [kdB_iff] at h3
        have hkey : ∀ (n : Nat) (bb : List Nat), key ⟨((u / 8 : Nat) : Int), ((u % 8 : Nat) : Int), n, bb⟩ = u := fun n bb => by unfold key; dsimp only; omega
        have hbd : ∀ x ∈ b.drop at1, x < 256 := fun x hx => hb x (List.mem_of_mem_drop hx)
        have hdl : (b.drop at1).length = b.length - at1 := List.length_drop
        split at h
        · rename_i h0
          split at h
          · rename_i he
            injection h with _ h
            injection h with _ h
            exact absurd h he
          · rename_i he
            have he : (rd (b.drop at1)).2.2 = 0 := by omega
            have hr2 : rd (b.drop at1) = ((rd (b.drop at1)).1, (rd (b.drop at1)).2.1, 0) := by rw [← he]
            obtain ⟨m1, m2, _, m4, m5⟩ := rd_ok hr2 hbd
            generalize (rd (b.drop at1)).1 = n at *
            generalize (rd (b.drop at1)).2.1 = at2 at *
            injection h with e1 h
            injection h with e2 _
            subst e1 e2
            have hk := hkey n []
            rw [h0] at hk
            refine ⟨chk_of (by dsimp only; omega) (by dsimp only; omega) (.inl rfl) (fun e => by cases e) (fun _ => rfl) (fun e => by cases e), by omega, by omega, ?_, m5, Nat.zero_le _, fun x hx => by cases hx⟩
            unfold fby pay
            rw [show ((0 : Nat) : Int) = 0 from rfl] at hk
            rw [hk, if_pos rfl, k4, m4, List.take_add]
        · rename_i h0
          split at h
          · rename_i hk2
            split at h
            · rename_i he
              injection h with _ h
              injection h with _ h
              exact absurd h he
            · rename_i he
              have he : (rd (b.drop at1)).2.2 = 0 := by omega
              have hr2 : rd (b.drop at1) = ((rd (b.drop at1)).1, (rd (b.drop at1)).2.1, 0) := by rw [← he]
              obtain ⟨m1, m2, _, m4, m5⟩ := rd_ok hr2 hbd
              generalize (rd (b.drop at1)).1 = n at *
              generalize (rd (b.drop at1)).2.1 = at2 at *
              split at h
              · cases h
              · rename_i hl
                injection h with e1 h
                injection h with e2 _
                subst e1 e2
                have hk := hkey 0 ((b.drop (at1 + at2)).take n)
                rw [hk2] at hk
                have hln : ((b.drop (at1 + at2)).take n).length = n := by rw [List.length_take, List.length_drop]; omega
                refine ⟨chk_of (by dsimp only; omega) (by dsimp only; omega) (.inr (.inr (.inl rfl))) (fun _ => rfl) (fun e => absurd rfl e) (fun e => by cases e), by omega, by omega, ?_, by dsimp only; omega, ?_, fun x hx => hb x (List.mem_of_mem_drop (List.mem_of_mem_take hx))⟩
                · unfold fby pay
                  rw [show ((2 : Nat) : Int) = 2 from rfl] at hk
                  rw [hk, if_neg (show ¬ (2 : Int) = 0 from by omega), if_pos rfl]
                  dsimp only
                  rw [hln, k4, m4, List.take_add, List.take_add, List.append_assoc]
                · dsimp only
                  rw [hln]; omega
          · rename_i hk2
            split at h
            · cases h
            · rename_i hl
              injection h with e1 h
              injection h with e2 _
              subst e1 e2
              generalize hw : wid ((u % 8 : Nat) : Int) = w at *
              have hln : ((b.drop at1).take w).length = w := by rw [List.length_take]; omega
              have hbt : ∀ x ∈ (b.drop at1).take w, x < 256 := fun x hx => hbd x (List.mem_of_mem_take hx)
              have hu := unl_lt _ hbt
              have hlu := low_unl _ hbt
              rw [hln] at hu hlu
              have hk := hkey (unl ((b.drop at1).take w)) []
              refine ⟨chk_of (by dsimp only; omega) (by dsimp only; omega) (by dsimp only; omega) (fun e => by dsimp only at e; omega) (fun _ => rfl) (fun e => ?_), ?_, by omega, ?_, ?_, Nat.zero_le _, fun x hx => by cases hx⟩
              · dsimp only at e ⊢
                have : w = 4 := by rw [← hw, e]; rfl
                subst this
                omega
              · omega
              · unfold fby pay
                rw [hk, if_neg (by dsimp only; omega), if_neg (by dsimp only; omega)]
                dsimp only
                rw [hw, hlu, k4, List.take_add]
              · dsimp only
                have : w = 4 ∨ w = 8 := by rw [← hw]; unfold wid; split <;> simp
                rcases this with e | e
                · subst e; omega
                · subst e; omega
  · rw [if_pos h1] at h
    injection h with _ h
    injection h with _ h
    exact absurd h h1
/-- Messages. -/
def wrE : List Fd → Nat
  | [] => 0
  | f :: t => if chk f ≠ 0 then chk f else wrE t
def wrB (l : List Fd) : List Nat := l.flatMap fby
theorem wrB_snoc (l : List Fd) (f : Fd) : wrB (l ++ [f]) = wrB l ++ fby f := by simp [wrB]
theorem wrB_app (l m : List Fd) : wrB (l ++ m) = wrB l ++ wrB m := by simp [wrB]
theorem wrB_cons (f : Fd) (l : List Fd) : wrB (f :: l) = fby f ++ wrB l := rfl
theorem wrE_ok : ∀ {l : List Fd}, wrE l = 0 → ∀ f ∈ l, chk f = 0
  | [], _, f, hf => by cases hf
  | g :: t, h, f, hf => by
    rw [wrE] at h
    split at h
    · rename_i hg; exact absurd h hg
    · rename_i hg
      rcases List.mem_cons.1 hf with rfl | hf
      · omega
      · exact wrE_ok h f hf
theorem wrE_of : ∀ {l : List Fd}, (∀ f ∈ l, chk f = 0) → wrE l = 0
  | [], _ => rfl
  | g :: t, h => by
    rw [wrE, if_neg (by rw [h g List.mem_cons_self]; omega)]
    exact wrE_of fun f hf => h f (List.mem_cons_of_mem _ hf)
theorem wrE_at : ∀ {l : List Fd} {i : Nat} (hi : i < l.length), (∀ f ∈ l.take i, chk f = 0) → chk l[i] ≠ 0 → wrE l = chk l[i]
  | g :: t, 0, hi, _, h => by rw [wrE, List.getElem_cons_zero] ; rw [List.getElem_cons_zero] at h; rw [if_pos h]
  | g :: t, i + 1, hi, h1, h => by
    rw [List.getElem_cons_succ] at h ⊢
    rw [List.take_succ_cons] at h1
    rw [wrE, if_neg (by rw [h1 g List.mem_cons_self]; omega)]
    exact wrE_at (by simpa using hi) (fun f hf => h1 f (List.mem_cons_of_mem _ hf)) h
theorem nb_le10 {n : Nat} (h : n < 18446744073709551616) : 0 < (nb n).length ∧ (nb n).length ≤ 10 := ⟨nb_pos n, nb_len10 h⟩
theorem fby_len {f : Fd} (h : chk f = 0) (hn : f.n < 18446744073709551616) (hbl : f.b.length ≤ 1000000) : 0 < (fby f).length ∧ (fby f).length ≤ 20 + f.b.length := by
  obtain ⟨⟨n1, n2⟩, hk, _⟩ := chk_ok h
  have e3 : key f < 18446744073709551616 := by unfold key; omega
  have h1 := nb_le10 e3
  have h2 := nb_le10 hn
  have h3 := nb_le10 (n := f.b.length) (by omega)
  unfold fby
  rw [List.length_append]
  have : (pay f).length ≤ 10 + f.b.length := by
    unfold pay
    split
    · omega
    · split
      · rw [List.length_append]; omega
      · rw [low_len]; unfold wid; split <;> omega
  omega
theorem fby_lt (f : Fd) (hb : ∀ x ∈ f.b, x < 256) : ∀ x ∈ fby f, x < 256 := by
  intro x hx
  unfold fby at hx
  rcases List.mem_append.1 hx with hx | hx
  · exact nb_lt _ _ (Nat.le_refl _) x hx
  · unfold pay at hx
    split at hx
    · exact nb_lt _ _ (Nat.le_refl _) x hx
    · split at hx
      · rcases List.mem_append.1 hx with hx | hx
        · exact nb_lt _ _ (Nat.le_refl _) x hx
        · exact hb x hx
      · exact low_lt _ _ x hx
theorem wrB_lt {l : List Fd} (h : ∀ f ∈ l, ∀ x ∈ f.b, x < 256) : ∀ x ∈ wrB l, x < 256 := by
  intro x hx
  obtain ⟨f, hf, h2⟩ := List.mem_flatMap.1 hx
  exact fby_lt f (h f hf) x h2
theorem wrB_len : ∀ {l : List Fd}, (∀ f ∈ l, chk f = 0 ∧ f.n < 18446744073709551616 ∧ f.b.length ≤ 50) → (wrB l).length ≤ 70 * l.length ∧ l.length ≤ (wrB l).length
  | [], _ => by simp [wrB]
  | f :: t, h => by
    obtain ⟨h1, h2, h3⟩ := h f List.mem_cons_self
    have := fby_len h1 h2 (by omega)
    have ih := wrB_len (l := t) fun g hg => h g (List.mem_cons_of_mem _ hg)
    rw [wrB_cons, List.length_append, List.length_cons]
    omega
/-- All fields of bytes, from a place on. -/
def alR : Nat → List Nat → Nat → List Fd → List Fd × Nat × Nat
  | 0, _, _, acc => (acc, 0, 0)
  | g + 1, b, i, acc => if i < b.length then (if (rdF (b.drop i)).2.2 = 0 then alR g b (i + (rdF (b.drop i)).2.1) (acc ++ [(rdF (b.drop i)).1]) else ([], i, (rdF (b.drop i)).2.2)) else (acc, 0, 0)
def alD (b : List Nat) : List Fd × Nat × Nat := alR (b.length + 1) b 0 []
theorem al_wr : ∀ (l : List Fd) (g : Nat) (b : List Nat) (i : Nat) (acc : List Fd), (∀ f ∈ l, chk f = 0 ∧ f.n < 18446744073709551616 ∧ f.b.length ≤ 50) → b.drop i = wrB l → l.length < g → alR g b i acc = (acc ++ l, 0, 0)
  | [], 0, b, i, acc, _, h, hg => by cases hg
  | [], g + 1, b, i, acc, _, h, hg => by
    have : b.length ≤ i := by
      have e := congrArg List.length h
      simp [wrB] at e
      omega
    rw [alR, if_neg (by omega), List.append_nil]
  | f :: l, 0, b, i, acc, _, h, hg => by simp at hg
  | f :: l, g + 1, b, i, acc, hl, h, hg => by
    obtain ⟨h1, h2, h3⟩ := hl f List.mem_cons_self
    have hf := fby_len h1 h2 (by omega)
    have hi : i < b.length := by
      rcases Nat.lt_or_ge i b.length with hh | hh
      · exact hh
      · rw [List.drop_of_length_le hh, wrB_cons] at h
        have e := congrArg List.length h
        rw [List.length_append] at e
        simp at e
        omega
    have e := rdF_fby h1 h2 (by omega) (wrB l)
    rw [← wrB_cons, ← h] at e
    rw [alR, if_pos hi, e, if_pos rfl]
    have h2 : b.drop (i + (fby f).length) = wrB l := by
      rw [← List.drop_drop, h, wrB_cons, List.drop_left]
    rw [al_wr l g b (i + (fby f).length) (acc ++ [f]) (fun x hx => hl x (List.mem_cons_of_mem _ hx)) h2 (by simpa using hg)]
    simp
theorem alD_wr {l : List Fd} (h : ∀ f ∈ l, chk f = 0 ∧ f.n < 18446744073709551616 ∧ f.b.length ≤ 50) : alD (wrB l) = (l, 0, 0) := by
  have := al_wr l ((wrB l).length + 1) (wrB l) 0 [] h rfl (by have := (wrB_len h).2; omega)
  simpa [alD] using this
def FdIn (m : Nat) (f : Fd) : Prop := chk f = 0 ∧ f.n < 18446744073709551616 ∧ f.b.length ≤ m ∧ ∀ x ∈ f.b, x < 256
theorem al_ok : ∀ (g : Nat) (b : List Nat) (i : Nat) (acc l : List Fd) (at' : Nat), (∀ x ∈ b, x < 256) → (∀ f ∈ acc, FdIn b.length f) → i ≤ b.length → b.length < i + g → wrB acc = b.take i → alR g b i acc = (l, at', 0) → wrB l = b ∧ at' = 0 ∧ ∀ f ∈ l, FdIn b.length f
  | 0, b, i, acc, l, at', _, _, h1, h2, _, _ => by omega
  | g + 1, b, i, acc, l, at', hb, ha, h1, h2, h3, h => by
    rw [alR] at h
    split at h
    · rename_i hi
      split at h
      · rename_i he
        have hr : rdF (b.drop i) = ((rdF (b.drop i)).1, (rdF (b.drop i)).2.1, 0) := by rw [← he]
        obtain ⟨k1, k2, k3, k4, k5, k6, k7⟩ := rdF_ok (fun x hx => hb x (List.mem_of_mem_drop hx)) hr
        rw [List.length_drop] at k3 k6
        refine al_ok g b _ _ l at' hb (fun n hn => ?_) (by omega) (by omega) ?_ h
        · rcases List.mem_append.1 hn with hn | hn
          · exact ha n hn
          · rw [List.mem_singleton] at hn; rw [hn]; exact ⟨k1, k5, by omega, k7⟩
        · rw [wrB_snoc, h3, k4, List.take_add]
      · rename_i he
        injection h with _ h
        injection h with _ h
        exact absurd h he
    · rename_i hi
      injection h with e1 h
      injection h with e2 _
      subst e1 e2
      exact ⟨by rw [h3, List.take_of_length_le (by omega)], rfl, ha⟩
theorem alD_ok {b : List Nat} {l : List Fd} {at' : Nat} (hb : ∀ x ∈ b, x < 256) (h : alD b = (l, at', 0)) : wrB l = b ∧ at' = 0 ∧ ∀ f ∈ l, FdIn b.length f :=
  al_ok (b.length + 1) b 0 [] l at' hb (fun f hf => (List.not_mem_nil hf).elim) (Nat.zero_le _) (by omega) (by simp [wrB]) h
end Go.Proofs.Ytcbgknlklpandaa
