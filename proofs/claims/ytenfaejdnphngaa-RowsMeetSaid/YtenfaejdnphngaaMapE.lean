/- Entries, and maps from entries to numbers: what look-ups, stores and deletes do. -/
import Derived.Test.YtenfaejdnphngaaOwnRow
import Derived.Laws.StructEq
import Derived.WalkKit
import Derived.Lib.Hide
import Derived.MapKept
import Derived.ChangeMaps5
namespace Go.Proofs.Ytenfaejdnphngaa
open Go.RowKit Go.ChangeMaps

abbrev E3 := Int × Int × Int
def encE3 (e : E3) : Value := .agg #[.int .i64 e.1, .int .i64 e.2.1, .int .i64 e.2.2]
def eqE (a b : E3) : Bool := decide (a = b)
theorem check_int (em : Bool) (d : Nat) (x : Int) (w : World) : (Instr.checkKey em (d + 1) 3 (.int .i64 x)).run Try.prog w = .ok () w := by
  unfold Instr.checkKey
  simp [run_underlying Try.underlying3]
/-- A map's entries as a list: the first with a key, and where. -/
def lkM : List (E3 × Int) → E3 → Option (Nat × Int)
  | [], _ => none
  | (k, v) :: M, e => if k = e then some (0, v) else (lkM M e).map fun p => (p.1 + 1, p.2)
def encM (x : MapEntry) (p : E3 × Int) : Prop := x.key = encE3 p.1 ∧ x.val = .int .i64 p.2
inductive EncL : List MapEntry → List (E3 × Int) → Prop
  | nil : EncL [] []
  | cons {x : MapEntry} {p : E3 × Int} {xs : List MapEntry} {ps : List (E3 × Int)} : encM x p → EncL xs ps → EncL (x :: xs) (p :: ps)
/-- What a map says of a key. -/
def lkE (ps : List (E3 × Int)) (e : E3) : Option Int := (lkM ps e).map (·.2)
def updM : List (E3 × Int) → E3 → Int → List (E3 × Int)
  | [], e, v => [(e, v)]
  | (k, u) :: M, e, v => if k = e then (e, v) :: M else (k, u) :: updM M e v
def delM : List (E3 × Int) → E3 → List (E3 × Int)
  | [], _ => []
  | (k, u) :: M, e => if k = e then M else (k, u) :: delM M e
def ndk (ps : List (E3 × Int)) : Prop := ps.Pairwise (fun p q => p.1 ≠ q.1)
theorem lkE_cons (k : E3) (v : Int) (M : List (E3 × Int)) (e : E3) : lkE ((k, v) :: M) e = if k = e then some v else lkE M e := by
  unfold lkE; rw [lkM]; split
  · rfl
  · rw [Option.map_map]; rfl
theorem lkE_upd (ps : List (E3 × Int)) (e : E3) (v : Int) (x : E3) : lkE (updM ps e v) x = if x = e then some v else lkE ps x := by
  induction ps with
  | nil => unfold updM; rw [lkE_cons]; by_cases h : x = e <;> simp [h, lkE, lkM]; exact fun c => h c.symm
  | cons p M ih =>
    obtain ⟨k, u⟩ := p
    unfold updM
    by_cases hk : k = e
    · subst hk
      rw [if_pos rfl, lkE_cons, lkE_cons]
      by_cases h : x = k
      · subst h; simp
      · have : ¬ k = x := fun c => h c.symm
        simp [h, this]
    · rw [if_neg hk, lkE_cons, lkE_cons, ih]
      by_cases h : k = x
      · subst h; simp [hk]
      · simp [h]
theorem lkE_none {ps : List (E3 × Int)} {e : E3} (h : ∀ p ∈ ps, p.1 ≠ e) : lkE ps e = none := by
  induction ps with
  | nil => rfl
  | cons p M ih =>
    obtain ⟨k, u⟩ := p
    rw [lkE_cons, if_neg (h (k, u) (by simp)), ih (fun q hq => h q (by simp [hq]))]
theorem lkE_del {ps : List (E3 × Int)} (hn : ndk ps) (e x : E3) : lkE (delM ps e) x = if x = e then none else lkE ps x := by
  induction ps with
  | nil => unfold delM; simp [lkE, lkM]
  | cons p M ih =>
    obtain ⟨k, u⟩ := p
    unfold ndk at hn
    rw [List.pairwise_cons] at hn
    unfold delM
    by_cases hk : k = e
    · subst hk
      rw [if_pos rfl, lkE_cons]
      by_cases h : x = k
      · subst h
        rw [if_pos rfl]
        exact lkE_none (fun p hp => fun c => hn.1 p hp c.symm)
      · have : ¬ k = x := fun c => h c.symm
        simp [h, this]
    · rw [if_neg hk, lkE_cons, lkE_cons, ih hn.2]
      by_cases h : k = x
      · subst h; simp [hk]
      · simp [h]
theorem upd_keys (ps : List (E3 × Int)) (e : E3) (v : Int) : ∀ p ∈ updM ps e v, p.1 = e ∨ ∃ q ∈ ps, q.1 = p.1 := by
  induction ps with
  | nil => intro p hp; simp [updM] at hp; exact .inl (by rw [hp])
  | cons q M ih =>
    obtain ⟨k, u⟩ := q
    intro p hp
    unfold updM at hp
    split at hp
    · rcases List.mem_cons.1 hp with rfl | hp
      · exact .inl rfl
      · exact .inr ⟨p, by simp [hp], rfl⟩
    · rcases List.mem_cons.1 hp with rfl | hp
      · exact .inr ⟨(k, u), by simp, rfl⟩
      · rcases ih p hp with h | ⟨q, hq, h⟩
        · exact .inl h
        · exact .inr ⟨q, by simp [hq], h⟩
theorem ndk_upd {ps : List (E3 × Int)} (hn : ndk ps) (e : E3) (v : Int) : ndk (updM ps e v) := by
  unfold ndk at *
  induction ps with
  | nil => simp [updM]
  | cons q M ih =>
    obtain ⟨k, u⟩ := q
    rw [List.pairwise_cons] at hn
    unfold updM
    split
    · rename_i hk
      subst hk
      exact List.pairwise_cons.2 ⟨hn.1, hn.2⟩
    · rename_i hk
      refine List.pairwise_cons.2 ⟨fun p hp => ?_, ih hn.2⟩
      rcases upd_keys M e v p hp with h | ⟨q, hq, h⟩
      · rw [h]; exact hk
      · rw [← h]; exact hn.1 q hq
theorem del_sub (ps : List (E3 × Int)) (e : E3) : (delM ps e).Sublist ps := by
  induction ps with
  | nil => simp [delM]
  | cons q M ih =>
    obtain ⟨k, u⟩ := q
    unfold delM
    split
    · exact List.sublist_cons_self _ _
    · exact ih.cons_cons _
theorem ndk_del {ps : List (E3 × Int)} (hn : ndk ps) (e : E3) : ndk (delM ps e) := hn.sublist (del_sub ps e)
/-- A map's block, and its entries in the order in which they stand. -/
structure MapI (W : World) (mb : Nat) (ps : List (E3 × Int)) : Prop where
  blk : ∃ xs clock, W.heap[mb]? = some (.map xs clock) ∧ EncL xs.toList ps
  nd : ndk ps
theorem MapI.lt {W : World} {mb : Nat} {ps : List (E3 × Int)} (h : MapI W mb ps) : mb < W.heap.size := by
  obtain ⟨⟨xs, c, hb, _⟩, _⟩ := h
  rcases Nat.lt_or_ge mb W.heap.size with k | k
  · exact k
  · rw [Array.getElem?_eq_none (by simpa using k)] at hb; cases hb
theorem MapI.of {W W1 : World} {mb : Nat} {ps : List (E3 × Int)} (h : MapI W mb ps) (e : W1.heap[mb]? = W.heap[mb]?) : MapI W1 mb ps := by
  obtain ⟨⟨xs, c, hb, he⟩, hn⟩ := h
  exact ⟨⟨xs, c, e.trans hb, he⟩, hn⟩
theorem enc_upd : ∀ {xs : List MapEntry} {ps : List (E3 × Int)}, EncL xs ps → ∀ (e : E3) (v : Int) (j : Nat) (u : Int), lkM ps e = some (j, u) → EncL (xs.modify j fun x => { x with key := encE3 e, val := .int .i64 v }) (updM ps e v)
  | _, _, .nil, e, v, j, u, h => by simp [lkM] at h
  | _, _, .cons (x := x) (p := p) (xs := xs) (ps := ps) h hs, e, v, j, u, hl => by
    obtain ⟨k, w⟩ := p
    unfold lkM at hl
    unfold updM
    by_cases hk : k = e
    · rw [if_pos hk] at hl
      injection hl with hl
      injection hl with h1 h2
      subst h1
      rw [if_pos hk, List.modify_zero_cons]
      exact .cons ⟨rfl, rfl⟩ hs
    · rw [if_neg hk] at hl
      rw [if_neg hk]
      cases hq : lkM ps e with
      | none => rw [hq] at hl; cases hl
      | some q =>
        rw [hq] at hl
        simp at hl
        obtain ⟨h1, h2⟩ := hl
        subst h1
        rw [List.modify_succ_cons]
        exact .cons h (enc_upd hs e v q.1 q.2 hq)
theorem enc_push : ∀ {xs : List MapEntry} {ps : List (E3 × Int)}, EncL xs ps → ∀ (e : E3) (v : Int) (b : Nat), lkM ps e = none → EncL (xs ++ [{ key := encE3 e, val := .int .i64 v, born := b }]) (updM ps e v)
  | _, _, .nil, e, v, b, h => .cons ⟨rfl, rfl⟩ .nil
  | _, _, .cons (x := x) (p := p) (xs := xs) (ps := ps) h hs, e, v, b, hl => by
    obtain ⟨k, w⟩ := p
    unfold lkM at hl
    unfold updM
    by_cases hk : k = e
    · rw [if_pos hk] at hl; cases hl
    · rw [if_neg hk] at hl
      rw [if_neg hk]
      exact .cons h (enc_push hs e v b (by cases hq : lkM ps e with
        | none => rfl
        | some q => rw [hq] at hl; cases hl))
theorem enc_del : ∀ {xs : List MapEntry} {ps : List (E3 × Int)}, EncL xs ps → ∀ (e : E3) (j : Nat) (u : Int), lkM ps e = some (j, u) → EncL (xs.eraseIdx j) (delM ps e)
  | _, _, .nil, e, j, u, h => by simp [lkM] at h
  | _, _, .cons (x := x) (p := p) (xs := xs) (ps := ps) h hs, e, j, u, hl => by
    obtain ⟨k, w⟩ := p
    unfold lkM at hl
    unfold delM
    by_cases hk : k = e
    · rw [if_pos hk] at hl
      injection hl with hl
      injection hl with h1 h2
      subst h1
      rw [if_pos hk]
      exact hs
    · rw [if_neg hk] at hl
      rw [if_neg hk]
      cases hq : lkM ps e with
      | none => rw [hq] at hl; cases hl
      | some q =>
        rw [hq] at hl
        simp at hl
        obtain ⟨h1, h2⟩ := hl
        subst h1
        exact .cons h (enc_del hs e q.1 q.2 hq)
theorem del_none {ps : List (E3 × Int)} {e : E3} (h : lkM ps e = none) : delM ps e = ps := by
  induction ps with
  | nil => rfl
  | cons p M ih =>
    obtain ⟨k, u⟩ := p
    unfold lkM at h
    unfold delM
    by_cases hk : k = e
    · rw [if_pos hk] at h; cases h
    · rw [if_neg hk] at h
      rw [if_neg hk, ih (by cases hq : lkM M e with
        | none => rfl
        | some q => rw [hq] at h; cases h)]
theorem stays_E (e : E3) (w : World) : (Instr.keyThatStays (encE3 e) (encE3 e)).run Try.prog w = .ok (encE3 e) w := by
  unfold Instr.keyThatStays
  rw [if_pos (by unfold encE3; simp [Instr.sameBits])]
  rfl
theorem enc_key : ∀ {xs : List MapEntry} {ps : List (E3 × Int)}, EncL xs ps → ∀ (e : E3) (j : Nat) (u : Int), lkM ps e = some (j, u) → ∃ x, xs[j]? = some x ∧ x.key = encE3 e
  | _, _, .nil, e, j, u, h => by simp [lkM] at h
  | _, _, .cons (x := x) (p := p) (xs := xs) (ps := ps) h hs, e, j, u, hl => by
    obtain ⟨k, w⟩ := p
    unfold lkM at hl
    by_cases hk : k = e
    · rw [if_pos hk] at hl
      injection hl with hl
      injection hl with h1 h2
      subst h1
      exact ⟨x, rfl, by rw [h.1, hk]⟩
    · rw [if_neg hk] at hl
      cases hq : lkM ps e with
      | none => rw [hq] at hl; cases hl
      | some q =>
        rw [hq] at hl
        simp at hl
        obtain ⟨h1, h2⟩ := hl
        subst h1
        obtain ⟨y, hy, hy2⟩ := enc_key hs e q.1 q.2 hq
        exact ⟨y, by simpa using hy, hy2⟩
theorem grown_setBlock {W : World} {mb : Nat} {xs xs' : Array MapEntry} {c c' : Nat} (hb : W.heap[mb]? = some (.map xs c)) : W.grownBy (setBlock W mb (.map xs' c')) (some mb) :=
  ⟨rfl, rfl, rfl, by simp [setBlock], fun k _ hk => heap_setBlock_other hb _ (fun e => hk (by rw [e]))⟩
end Go.Proofs.Ytenfaejdnphngaa
