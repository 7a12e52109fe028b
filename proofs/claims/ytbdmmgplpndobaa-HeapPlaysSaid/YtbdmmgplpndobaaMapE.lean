/- Entries, and maps from entries to numbers: what look-ups, stores and deletes do. -/
import Derived.Test.YtbdmmgplpndobaaOwnRow
import Derived.Laws.StructEq
import Derived.WalkKit
import Derived.Lib.Hide
import Derived.MapKept
import Derived.ChangeMaps5
namespace Go.Proofs.Ytbdmmgplpndobaa
open Go.RowKit Go.ChangeMaps

abbrev E3 := Int × Int × Int
def encE3 (e : E3) : Value := .agg #[.int .i64 e.1, .int .i64 e.2.1, .int .i64 e.2.2]
def eqE (a b : E3) : Bool := decide (a = b)
theorem equal_E (a b : E3) (w : World) : (Op.equalIn 10000 31 (encE3 a) (encE3 b)).run Try.prog w = .ok (eqE a b) w := by
  have u3 := Try.underlying3
  have hS : Try.prog.underlying 31 = some (.struct (Try.prog.fieldsOf 31)) := by kernel_rfl
  have hp : Try.prog.stoodInHeld 31 = false := by kernel_rfl
  unfold encE3
  rw [show (10000 : Nat) = 9999 + 1 from rfl, run_equalIn_agg w 9999 31 _ _ hS hp]
  simp only [Program.fieldsOf, Try.underlying31]
  obtain ⟨a1, a2, a3⟩ := a
  obtain ⟨b1, b2, b3⟩ := b
  unfold eqE
  go_simp
  by_cases h1 : a1 = b1 <;> by_cases h2 : a2 = b2 <;> by_cases h3 : a3 = b3 <;> simp [h1, h2, h3]
theorem check_int (em : Bool) (d : Nat) (x : Int) (w : World) : (Instr.checkKey em (d + 1) 3 (.int .i64 x)).run Try.prog w = .ok () w := by
  unfold Instr.checkKey
  simp [run_underlying Try.underlying3]
theorem check_E (em : Bool) (e : E3) (w : World) : (Instr.checkKey em 10000 31 (encE3 e)).run Try.prog w = .ok () w := by
  have u3 := Try.underlying3
  have u59 := Try.underlying31
  have hc := fun x w => check_int em 9998 x w
  rw [show (10000 : Nat) = 9999 + 1 from rfl]
  unfold encE3
  unfold Instr.checkKey
  simp [run_underlying u59]
  go_simp
/-- A map's entries as a list: the first with a key, and where. -/
def lkM : List (E3 × Int) → E3 → Option (Nat × Int)
  | [], _ => none
  | (k, v) :: M, e => if k = e then some (0, v) else (lkM M e).map fun p => (p.1 + 1, p.2)
def encM (x : MapEntry) (p : E3 × Int) : Prop := x.key = encE3 p.1 ∧ x.val = .int .i64 p.2
inductive EncL : List MapEntry → List (E3 × Int) → Prop
  | nil : EncL [] []
  | cons {x : MapEntry} {p : E3 × Int} {xs : List MapEntry} {ps : List (E3 × Int)} : encM x p → EncL xs ps → EncL (x :: xs) (p :: ps)
set_option maxRecDepth 20000 in
theorem ask_E (e : E3) (w : World) : ∀ (xs : List MapEntry) (ps : List (E3 × Int)) (i : Nat), EncL xs ps →
    (Instr.findAsking 31 (encE3 e) xs i).run Try.prog w = .ok ((lkM ps e).map fun p => (i + p.1, Value.int .i64 p.2)) w
  | _, _, i, .nil => by simp [Instr.findAsking, lkM]
  | _, _, i, .cons (x := x) (p := p) (xs := xs) (ps := ps) h hs => by
    have ih := ask_E e w xs ps (i + 1) hs
    have he := equal_E e p.1 w
    unfold Instr.findAsking
    rw [h.1]
    unfold Op.equal Op.maxDepth
    simp only [Sem.run_bind, he, Result.andThen_ok]
    unfold lkM
    by_cases hk : p.1 = e
    · have : eqE e p.1 = true := by simp [eqE, hk]
      rw [this]
      simp [hk, h.2]
    · have : eqE e p.1 = false := by simp [eqE]; exact fun c => hk c.symm
      rw [this]
      simp only [if_neg hk, Bool.false_eq_true, if_false]
      rw [ih]
      simp only [Option.map_map]
      congr 2
      funext q
      simp; omega
set_option maxRecDepth 20000 in
theorem find_E (e : E3) (w : World) {xs : List MapEntry} {ps : List (E3 × Int)} (h : EncL xs ps) :
    (Instr.findKey 31 (encE3 e) xs).run Try.prog w = .ok ((lkM ps e).map fun p => (p.1, Value.int .i64 p.2)) w := by
  unfold Instr.findKey
  have u59 := Try.underlying31
  have ha := ask_E e w xs ps 0 h
  cases h with
  | nil => simp [run_underlying u59, Instr.findNow, lkM]
  | cons h1 h2 =>
    simp only [Sem.run_bind, run_underlying u59, Result.andThen_ok]
    unfold Instr.findNow
    simp only [Instr.sameNow]
    rw [ha]
    simp
/-- What a map says of a key. -/
def lkE (ps : List (E3 × Int)) (e : E3) : Option Int := (lkM ps e).map (·.2)
def updM : List (E3 × Int) → E3 → Int → List (E3 × Int)
  | [], e, v => [(e, v)]
  | (k, u) :: M, e, v => if k = e then (e, v) :: M else (k, u) :: updM M e v
def delM : List (E3 × Int) → E3 → List (E3 × Int)
  | [], _ => []
  | (k, u) :: M, e => if k = e then M else (k, u) :: delM M e
def ndk (ps : List (E3 × Int)) : Prop := ps.Pairwise (fun p q => p.1 ≠ q.1)
theorem lkE_cons (k : E3) (v : Int) (M : List (E3 × Int)) (e : E3) : lkE ((k, v) :: M) e = if k = e then some v else lkE M e := by
  unfold lkE; rw [lkM]; split
  · rfl
  · rw [Option.map_map]; rfl
theorem lkE_upd (ps : List (E3 × Int)) (e : E3) (v : Int) (x : E3) : lkE (updM ps e v) x = if x = e then some v else lkE ps x := by
  induction ps with
  | nil => unfold updM; rw [lkE_cons]; by_cases h : x = e <;> simp [h, lkE, lkM]; exact fun c => h c.symm
  | cons p M ih =>
    obtain ⟨k, u⟩ := p
    unfold updM
    by_cases hk : k = e
    · subst hk
      rw [if_pos rfl, lkE_cons, lkE_cons]
      by_cases h : x = k
      · subst h; simp
      · have : ¬ k = x := fun c => h c.symm
        simp [h, this]
    · rw [if_neg hk, lkE_cons, lkE_cons, ih]
      by_cases h : k = x
      · subst h; simp [hk]
      · simp [h]
theorem lkE_none {ps : List (E3 × Int)} {e : E3} (h : ∀ p ∈ ps, p.1 ≠ e) : lkE ps e = none := by
  induction ps with
  | nil => rfl
  | cons p M ih =>
    obtain ⟨k, u⟩ := p
    rw [lkE_cons, if_neg (h (k, u) (by simp)), ih (fun q hq => h q (by simp [hq]))]
theorem lkE_del {ps : List (E3 × Int)} (hn : ndk ps) (e x : E3) : lkE (delM ps e) x = if x = e then none else lkE ps x := by
  induction ps with
  | nil => unfold delM; simp [lkE, lkM]
  | cons p M ih =>
    obtain ⟨k, u⟩ := p
    unfold ndk at hn
    rw [List.pairwise_cons] at hn
    unfold delM
    by_cases hk : k = e
    · subst hk
      rw [if_pos rfl, lkE_cons]
      by_cases h : x = k
      · subst h
        rw [if_pos rfl]
        exact lkE_none (fun p hp => fun c => hn.1 p hp c.symm)
      · have : ¬ k = x := fun c => h c.symm
        simp [h, this]
    · rw [if_neg hk, lkE_cons, lkE_cons, ih hn.2]
      by_cases h : k = x
      · subst h; simp [hk]
      · simp [h]
theorem upd_keys (ps : List (E3 × Int)) (e : E3) (v : Int) : ∀ p ∈ updM ps e v, p.1 = e ∨ ∃ q ∈ ps, q.1 = p.1 := by
  induction ps with
  | nil => intro p hp; simp [updM] at hp; exact .inl (by rw [hp])
  | cons q M ih =>
    obtain ⟨k, u⟩ := q
    intro p hp
    unfold updM at hp
    split at hp
    · rcases List.mem_cons.1 hp with rfl | hp
      · exact .inl rfl
      · exact .inr ⟨p, by simp [hp], rfl⟩
    · rcases List.mem_cons.1 hp with rfl | hp
      · exact .inr ⟨(k, u), by simp, rfl⟩
      · rcases ih p hp with h | ⟨q, hq, h⟩
        · exact .inl h
        · exact .inr ⟨q, by simp [hq], h⟩
theorem ndk_upd {ps : List (E3 × Int)} (hn : ndk ps) (e : E3) (v : Int) : ndk (updM ps e v) := by
  unfold ndk at *
  induction ps with
  | nil => simp [updM]
  | cons q M ih =>
    obtain ⟨k, u⟩ := q
    rw [List.pairwise_cons] at hn
    unfold updM
    split
    · rename_i hk
      subst hk
      exact List.pairwise_cons.2 ⟨hn.1, hn.2⟩
    · rename_i hk
      refine List.pairwise_cons.2 ⟨fun p hp => ?_, ih hn.2⟩
      rcases upd_keys M e v p hp with h | ⟨q, hq, h⟩
      · rw [h]; exact hk
      · rw [← h]; exact hn.1 q hq
theorem del_sub (ps : List (E3 × Int)) (e : E3) : (delM ps e).Sublist ps := by
  induction ps with
  | nil => simp [delM]
  | cons q M ih =>
    obtain ⟨k, u⟩ := q
    unfold delM
    split
    · exact List.sublist_cons_self _ _
    · exact ih.cons_cons _
theorem ndk_del {ps : List (E3 × Int)} (hn : ndk ps) (e : E3) : ndk (delM ps e) := hn.sublist (del_sub ps e)
/-- A map's block, and its entries in the order in which they stand. -/
structure MapI (W : World) (mb : Nat) (ps : List (E3 × Int)) : Prop where
  blk : ∃ xs clock, W.heap[mb]? = some (.map xs clock) ∧ EncL xs.toList ps
  nd : ndk ps
theorem MapI.lt {W : World} {mb : Nat} {ps : List (E3 × Int)} (h : MapI W mb ps) : mb < W.heap.size := by
  obtain ⟨⟨xs, c, hb, _⟩, _⟩ := h
  rcases Nat.lt_or_ge mb W.heap.size with k | k
  · exact k
  · rw [Array.getElem?_eq_none (by simpa using k)] at hb; cases hb
theorem MapI.of {W W1 : World} {mb : Nat} {ps : List (E3 × Int)} (h : MapI W mb ps) (e : W1.heap[mb]? = W.heap[mb]?) : MapI W1 mb ps := by
  obtain ⟨⟨xs, c, hb, he⟩, hn⟩ := h
  exact ⟨⟨xs, c, e.trans hb, he⟩, hn⟩
theorem run_look {W : World} {mb : Nat} {ps : List (E3 × Int)} (h : MapI W mb ps) (e : E3) :
    (Instr.lookup 24 (.map (some mb)) (encE3 e) true).run Try.prog W = .ok (.tuple #[.int .i64 ((lkE ps e).getD 0), .bool (lkE ps e).isSome]) W := by
  obtain ⟨⟨xs, c, hb, he⟩, hn⟩ := h
  have hf := find_E e W he
  have hk := check_E xs.isEmpty e W
  unfold Instr.lookup
  simp only [Sem.run_bind, run_underlying Try.underlying24, Result.andThen_ok, MapKept.run_getObj_map hb, Sem.run_pure, hk, hf]
  unfold lkE
  cases lkM ps e with
  | none => simp
  | some p => simp
theorem run_look_nil (W : World) (e : E3) :
    (Instr.lookup 24 (.map none) (encE3 e) true).run Try.prog W = .ok (.tuple #[.int .i64 0, .bool false]) W := by
  have hf := find_E e W .nil
  have hk := check_E true e W
  unfold Instr.lookup
  simp [Sem.run_bind, run_underlying Try.underlying24, hk, hf, lkM]
theorem enc_upd : ∀ {xs : List MapEntry} {ps : List (E3 × Int)}, EncL xs ps → ∀ (e : E3) (v : Int) (j : Nat) (u : Int), lkM ps e = some (j, u) → EncL (xs.modify j fun x => { x with key := encE3 e, val := .int .i64 v }) (updM ps e v)
  | _, _, .nil, e, v, j, u, h => by simp [lkM] at h
  | _, _, .cons (x := x) (p := p) (xs := xs) (ps := ps) h hs, e, v, j, u, hl => by
    obtain ⟨k, w⟩ := p
    unfold lkM at hl
    unfold updM
    by_cases hk : k = e
    · rw [if_pos hk] at hl
      injection hl with hl
      injection hl with h1 h2
      subst h1
      rw [if_pos hk, List.modify_zero_cons]
      exact .cons ⟨rfl, rfl⟩ hs
    · rw [if_neg hk] at hl
      rw [if_neg hk]
      cases hq : lkM ps e with
      | none => rw [hq] at hl; cases hl
      | some q =>
        rw [hq] at hl
        simp at hl
        obtain ⟨h1, h2⟩ := hl
        subst h1
        rw [List.modify_succ_cons]
        exact .cons h (enc_upd hs e v q.1 q.2 hq)
theorem enc_push : ∀ {xs : List MapEntry} {ps : List (E3 × Int)}, EncL xs ps → ∀ (e : E3) (v : Int) (b : Nat), lkM ps e = none → EncL (xs ++ [{ key := encE3 e, val := .int .i64 v, born := b }]) (updM ps e v)
  | _, _, .nil, e, v, b, h => .cons ⟨rfl, rfl⟩ .nil
  | _, _, .cons (x := x) (p := p) (xs := xs) (ps := ps) h hs, e, v, b, hl => by
    obtain ⟨k, w⟩ := p
    unfold lkM at hl
    unfold updM
    by_cases hk : k = e
    · rw [if_pos hk] at hl; cases hl
    · rw [if_neg hk] at hl
      rw [if_neg hk]
      exact .cons h (enc_push hs e v b (by cases hq : lkM ps e with
        | none => rfl
        | some q => rw [hq] at hl; cases hl))
theorem enc_del : ∀ {xs : List MapEntry} {ps : List (E3 × Int)}, EncL xs ps → ∀ (e : E3) (j : Nat) (u : Int), lkM ps e = some (j, u) → EncL (xs.eraseIdx j) (delM ps e)
  | _, _, .nil, e, j, u, h => by simp [lkM] at h
  | _, _, .cons (x := x) (p := p) (xs := xs) (ps := ps) h hs, e, j, u, hl => by
    obtain ⟨k, w⟩ := p
    unfold lkM at hl
    unfold delM
    by_cases hk : k = e
    · rw [if_pos hk] at hl
      injection hl with hl
      injection hl with h1 h2
      subst h1
      rw [if_pos hk]
      exact hs
    · rw [if_neg hk] at hl
      rw [if_neg hk]
      cases hq : lkM ps e with
      | none => rw [hq] at hl; cases hl
      | some q =>
        rw [hq] at hl
        simp at hl
        obtain ⟨h1, h2⟩ := hl
        subst h1
        exact .cons h (enc_del hs e q.1 q.2 hq)
theorem del_none {ps : List (E3 × Int)} {e : E3} (h : lkM ps e = none) : delM ps e = ps := by
  induction ps with
  | nil => rfl
  | cons p M ih =>
    obtain ⟨k, u⟩ := p
    unfold lkM at h
    unfold delM
    by_cases hk : k = e
    · rw [if_pos hk] at h; cases h
    · rw [if_neg hk] at h
      rw [if_neg hk, ih (by cases hq : lkM M e with
        | none => rfl
        | some q => rw [hq] at h; cases h)]
theorem stays_E (e : E3) (w : World) : (Instr.keyThatStays (encE3 e) (encE3 e)).run Try.prog w = .ok (encE3 e) w := by
  unfold Instr.keyThatStays
  rw [if_pos (by unfold encE3; simp [Instr.sameBits])]
  rfl
theorem enc_key : ∀ {xs : List MapEntry} {ps : List (E3 × Int)}, EncL xs ps → ∀ (e : E3) (j : Nat) (u : Int), lkM ps e = some (j, u) → ∃ x, xs[j]? = some x ∧ x.key = encE3 e
  | _, _, .nil, e, j, u, h => by simp [lkM] at h
  | _, _, .cons (x := x) (p := p) (xs := xs) (ps := ps) h hs, e, j, u, hl => by
    obtain ⟨k, w⟩ := p
    unfold lkM at hl
    by_cases hk : k = e
    · rw [if_pos hk] at hl
      injection hl with hl
      injection hl with h1 h2
      subst h1
      exact ⟨x, rfl, by rw [h.1, hk]⟩
    · rw [if_neg hk] at hl
      cases hq : lkM ps e with
      | none => rw [hq] at hl; cases hl
      | some q =>
        rw [hq] at hl
        simp at hl
        obtain ⟨h1, h2⟩ := hl
        subst h1
        obtain ⟨y, hy, hy2⟩ := enc_key hs e q.1 q.2 hq
        exact ⟨y, by simpa using hy, hy2⟩
theorem grown_setBlock {W : World} {mb : Nat} {xs xs' : Array MapEntry} {c c' : Nat} (hb : W.heap[mb]? = some (.map xs c)) : W.grownBy (setBlock W mb (.map xs' c')) (some mb) :=
  ⟨rfl, rfl, rfl, by simp [setBlock], fun k _ hk => heap_setBlock_other hb _ (fun e => hk (by rw [e]))⟩
theorem run_upd {W : World} {mb : Nat} {ps : List (E3 × Int)} (h : MapI W mb ps) (e : E3) (v : Int) :
    ∃ W', (Instr.mapUpdate 24 (.map (some mb)) (encE3 e) (.int .i64 v)).run Try.prog W = .ok () W' ∧ MapI W' mb (updM ps e v) ∧ W.grownBy W' (some mb) := by
  obtain ⟨⟨xs, c, hb, he⟩, hn⟩ := h
  have hf := find_E e W he
  have hk := check_E false e W
  cases hq : lkM ps e with
  | none =>
    rw [hq] at hf
    refine ⟨setBlock W mb (.map (xs.push { key := encE3 e, val := .int .i64 v, born := c }) (c + 1)), ?_, ⟨⟨_, _, heap_setBlock_same hb _, ?_⟩, ndk_upd hn e v⟩, grown_setBlock hb⟩
    · simp [Instr.mapUpdate, run_underlying Try.underlying24, MapKept.run_getObj_map hb, hk, hf, MapKept.run_setObj_map _ hb, Result.andThen, setBlock]
    · rw [Array.toList_push]; exact enc_push he e v c hq
  | some q =>
    rw [hq] at hf
    obtain ⟨x, hx, hxk⟩ := enc_key he e q.1 q.2 hq
    have hs := stays_E e W
    refine ⟨setBlock W mb (.map (xs.modify q.1 fun x => { x with key := encE3 e, val := .int .i64 v }) c), ?_, ⟨⟨_, _, heap_setBlock_same hb _, ?_⟩, ndk_upd hn e v⟩, grown_setBlock hb⟩
    · have hx' : xs[q.1]? = some x := by rw [← Array.getElem?_toList]; exact hx
      simp [Instr.mapUpdate, run_underlying Try.underlying24, MapKept.run_getObj_map hb, hk, hf, hx', hxk, hs, MapKept.run_setObj_map _ hb, Result.andThen, setBlock]
    · rw [Array.toList_modify]; exact enc_upd he e v q.1 q.2 hq
theorem run_del {W : World} {mb : Nat} {ps : List (E3 × Int)} (h : MapI W mb ps) (e : E3) :
    ∃ W', (∀ ty, (Builtin.delete_ #[24, 31] ty #[.map (some mb), encE3 e]).run Try.prog W = .ok (.tuple #[]) W') ∧ MapI W' mb (delM ps e) ∧ W.grownBy W' (some mb) := by
  obtain ⟨⟨xs, c, hb, he⟩, hn⟩ := h
  have hf := find_E e W he
  have hk := check_E xs.isEmpty e W
  cases hq : lkM ps e with
  | none =>
    rw [hq] at hf
    refine ⟨setBlock W mb (.map xs c), ?_, ⟨⟨_, _, heap_setBlock_same hb _, ?_⟩, ndk_del hn e⟩, grown_setBlock hb⟩
    · intro ty
      simp [Builtin.delete_, run_underlying Try.underlying24, MapKept.run_getObj_map hb, hk, hf, MapKept.run_setObj_map _ hb, Result.andThen, setBlock]
    · rw [del_none hq]; exact he
  | some q =>
    rw [hq] at hf
    refine ⟨setBlock W mb (.map (xs.eraseIdxIfInBounds q.1) c), ?_, ⟨⟨_, _, heap_setBlock_same hb _, ?_⟩, ndk_del hn e⟩, grown_setBlock hb⟩
    · intro ty
      simp [Builtin.delete_, run_underlying Try.underlying24, MapKept.run_getObj_map hb, hk, hf, MapKept.run_setObj_map _ hb, Result.andThen, setBlock]
    · have : (xs.eraseIdxIfInBounds q.1).toList = xs.toList.eraseIdx q.1 := by simp
      rw [this]; exact enc_del he e q.1 q.2 hq
end Go.Proofs.Ytbdmmgplpndobaa
