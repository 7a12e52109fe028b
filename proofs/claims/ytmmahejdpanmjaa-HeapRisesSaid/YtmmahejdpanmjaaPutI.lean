/- The document's Put at numbers, and rows of numbers as the next calls want them. -/
import Derived.Test.YtmmahejdpanmjaaFind
import Derived.Test.YtmmahejdpanmjaaLex
import Derived.Deep.CutBlock
import Derived.Deep.QuietTactic
import Derived.IntWalk
namespace Go.Proofs.Ytmmahejdpanmjaa
open Go.RowKit Go.Sort

theorem below_alloc (W : World) (o : Obj) : Below W.heap.size W (W.alloc o) := (Below.refl _ _).alloc (Nat.le_refl _) _
theorem IL.new {W : World} {gt k : Nat} {v : Value} {L : List Int} (h : IL W gt v L) (hk : W.heap.size ≤ k) : IL W k v L := by
  obtain ⟨q, c, rfl, hc, hi⟩ := h
  refine ⟨q, c, rfl, hc, fun i hlt => ?_⟩
  obtain ⟨g, o, hq, _, hcell⟩ := hi i hlt
  have := World.block_lt_of_cell? W _ hcell
  exact ⟨g, o, hq, by simp at this; omega, hcell⟩
theorem IL.keep {W w1 : World} {gt : Nat} {v : Value} {L : List Int} (hb : Below W.heap.size W w1) (h : IL W gt v L) : IL w1 w1.heap.size v L :=
  IL.new (IL.grown (h.new (Nat.le_refl _)) (grown_below hb)) (Nat.le_refl _)
theorem own_IL {W : World} {base : Nat} {v : Value} {L : List Int} (h : W.ownsRow base 3 1 v L.length (icells L)) : IL W W.heap.size v L := by
  have h0 := h
  rcases h.2 with ⟨rfl, hz⟩ | ⟨g, cap, cur, rfl, _, _, hc, _⟩
  · have hz : L = [] := List.eq_nil_of_length_eq_zero hz
    subst hz
    exact ⟨none, 0, rfl, Nat.le_refl _, fun i hi => absurd hi (by simp)⟩
  · refine IL.new (gt := g + 1) ⟨_, cap, rfl, hc, fun i hi => ⟨g, 0, rfl, by omega, ?_⟩⟩ ?_
    · rw [Nat.zero_add]
      have hc := h0.cells (g := g) rfl i (.int .i64 L[i]) (by unfold icells; rw [List.getElem?_map, List.getElem?_eq_getElem hi]; rfl)
      rw [add_at, Nat.zero_add] at hc
      exact hc
    · exact Nat.le_refl _
theorem wp_append_srcO {P : Program} {w : World} {o : Oper} {a : Act} {K : Act → World → Prop} {Q : Exit → Act → World → Prop} (s x : Operand) (t : TypeId)
    (ho : o.op = .call { callee := .builtin .append, args := #[s, x], argTypes := #[t, t] })
    (base : Nat) (e : TypeId) (i : TypeInfo) (z : Value) (size bytes : Nat) (ht : P.underlying t = some (.slice e)) (hi : P.info? e = some i) (hz : i.zero = some z)
    (hsize : i.size = size) (hby : i.bytes = bytes) (hzs : z.cells.size = size) (hsz : 0 < size) (v : Value) (n : Nat) (xs : List Value) (hs : a.eval s = v) (hown : w.ownsRow base e size v n xs) (y : Value) (m : Nat) (ys : List Value) (hx : a.eval x = y) (hsrc : SrcO w y m ys) (hl : ys.length = m * size) (h1 : ∀ u ∈ ys, u.oneCell' = true)
    (h63 : n + m ≤ maxLen) (hbytes : (n + m) * bytes ≤ 140737488355328) (hbase : base ≤ w.heap.size)
    (h : ∀ v' w', w'.ownsRow base e size v' (n + m) (xs ++ ys) → w.grownBy w' v.ownBlock → K (a.put o.dst v') w') : o.wp P a w K Q := by
  obtain ⟨v', w', hr, h2, h3⟩ := run_append_srcO (P := P) w t o.type base e i z size bytes ht hi hz hsize hby hzs hsz v n xs hown y m ys hsrc hl h1 h63 hbytes hbase
  unfold Oper.wp execOp
  simp only [ho, resolve, invoke, builtin, Sem.run_bind, Sem.run_pure, Result.andThen_ok, List.map_toArray, List.map_cons, List.map_nil, hs, hx, hr]
  exact h v' w' h2 h3
theorem wpList_append_srcO {P : Program} {w : World} {ops : Array Oper} {rest : List Oper} {o : Oper} {a : Act} {Q : Exit → Act → World → Prop} (hgd : o.guard = none) (s x : Operand) (t : TypeId)
    (ho : o.op = .call { callee := .builtin .append, args := #[s, x], argTypes := #[t, t] })
    (base : Nat) (e : TypeId) (i : TypeInfo) (z : Value) (size bytes : Nat) (ht : P.underlying t = some (.slice e)) (hi : P.info? e = some i) (hz : i.zero = some z)
    (hsize : i.size = size) (hby : i.bytes = bytes) (hzs : z.cells.size = size) (hsz : 0 < size) (v : Value) (n : Nat) (xs : List Value) (hs : a.eval s = v) (hown : w.ownsRow base e size v n xs) (y : Value) (m : Nat) (ys : List Value) (hx : a.eval x = y) (hsrc : SrcO w y m ys) (hl : ys.length = m * size) (h1 : ∀ u ∈ ys, u.oneCell' = true)
    (h63 : n + m ≤ maxLen) (hbytes : (n + m) * bytes ≤ 140737488355328) (hbase : base ≤ w.heap.size)
    (h : ∀ v' w', w'.ownsRow base e size v' (n + m) (xs ++ ys) → w.grownBy w' v.ownBlock → wpList P ops Q rest (a.put o.dst v') w') : wpList P ops Q (o :: rest) a w :=
  wpList_plain hgd fun _ hK => wp_append_srcO s x t ho base e i z size bytes ht hi hz hsize hby hzs hsz v n xs hs hown y m ys hx hsrc hl h1 h63 hbytes hbase fun v' w' h2 h3 => hK _ _ (h v' w' h2 h3)

/-- How far the search has come. -/
def PutAtI (x : Int) (L : List Int) (k : Nat) : Prop := k ≤ L.length ∧ (∀ i (h : i < L.length), k ≤ i → ilt x L[i] = true) ∧ (∀ i (h : i < L.length), i + 1 = k → ilt x L[i] = false)
def PutPostI (x : Int) (L : List Int) (w : World) (e : Ending) (w' : World) : Prop :=
  ∃ R u, InsP ilt x L R ∧ e = .returned u ∧ w'.ownsRow w.heap.size 3 1 u R.length (icells R) ∧ Below w.heap.size w w'
theorem src_take {W : World} {q : Option Addr} {n c k : Nat} {L : List Int} (h : SrcO W (.slice q n c) n (icells L)) (_ : L.length = n) (hk : k ≤ n) : SrcO W (.slice q k c) k (icells (L.take k)) := by
  obtain ⟨q1, c1, e, h⟩ := h
  cases e
  refine ⟨q, c, rfl, fun hn => ?_⟩
  obtain ⟨g, o, e, hc⟩ := h (by omega)
  refine ⟨g, o, e, fun j u hj => hc j u ?_⟩
  unfold icells at *
  rw [List.map_take, List.getElem?_take] at hj
  split at hj
  · exact hj
  · cases hj
theorem src_drop {W : World} {g o n c k : Nat} {L : List Int} (h : SrcO W (.slice (some ⟨g, o, none⟩) n c) n (icells L)) (_ : L.length = n) (hk : k ≤ n) : SrcO W (.slice (some ⟨g, o + k, none⟩) (n - k) (c - k)) (n - k) (icells (L.drop k)) := by
  obtain ⟨q1, c1, e, h⟩ := h
  cases e
  refine ⟨_, _, rfl, fun hn => ⟨g, o + k, rfl, fun j u hj => ?_⟩⟩
  obtain ⟨g1, o1, e, hc⟩ := h (by omega)
  cases e
  unfold icells at *
  rw [List.map_drop, List.getElem?_drop] at hj
  have := hc (k + j) u hj
  rw [add_at] at this ⊢
  rw [Nat.add_assoc]; exact this
theorem src_none (W : World) (q : Option Addr) (c : Nat) : SrcO W (.slice q 0 c) 0 (icells []) := ⟨q, c, rfl, fun h => absurd rfl h⟩
theorem icells_nil : icells [] = [] := rfl
theorem new_srcO (W : World) (T : TypeId) (x : Int) : SrcO (W.alloc (.cells #[.int .i64 x] T)) (.slice (some ⟨W.heap.size, 0, none⟩) 1 1) 1 (icells [x]) := new_src1 W T x

theorem own_zeroI {W : World} {base k size : Nat} {T : TypeId} (hb : base ≤ k) (h : W.heap[k]? = some (.cells #[] T)) : W.ownsRow base T size (.slice (some ⟨k, 0, none⟩) 0 0) 0 [] := by
  refine ⟨by simp, .inr ⟨k, 0, #[], rfl, hb, h, Nat.le_refl _, by unfold maxLen; omega, by simp, by simp⟩⟩
set_option maxRecDepth 100000 in
set_option maxHeartbeats 4000000 in
theorem put_any {w : World} {gt : Nat} {v : Value} {L : List Int} (hI : IL w gt v L) (x : Int) (hL : L.length ≤ 1000) : Calls Try.prog 22 #[v, .int .i64 x] w (PutPostI x L w) := by
  obtain ⟨i0, hi, hz0, hz1, hz2⟩ := info_parts infoI
  have HSr := Lib.hid hI.srcO
  obtain ⟨q, c, rfl, hc, hcell⟩ := hI
  have HC := Lib.hid hcell
  clear hcell
  go_enter Try.func22, Try.ntmps22
  go_upto_block 0 with fail
  go_cut [5] from 9 to 21 (fun s wx => ∃ k : Nat, s = .int .i64 k ∧ PutAtI x L k ∧ wx = w)
  case first =>
    go_wp2_with fail
    go_loopw [5] (fun s wr => ∃ k : Nat, s = .int .i64 k ∧ k ≤ L.length ∧ Hid (∀ j (h : j < L.length), k ≤ j → ilt x L[j] = true) ∧ wr = w) (fun i _ => (intOf i).toNat)
    case atStart => exact ⟨L.length, rfl, Nat.le_refl _, Lib.hid (fun j h k => absurd h (by omega)), rfl⟩
    case round =>
      obtain ⟨k, rfl, hk, HG, hw⟩ := hrel
      have hw' := hw.symm; clear hw; subst hw'
      by_cases h0 : k = 0
      · subst h0
        go_wp2_with fail
        go_meet
        exact ⟨0, rfl, ⟨Nat.zero_le _, HG.out, fun _ _ h => absurd h (by omega)⟩, by first | rfl | trivial⟩
      · obtain ⟨g, o, rfl, _, e1⟩ := HC.out (k - 1) (by omega)
        have x1 : IntKind.i64.wrap ((k : Int) - 1) = (k : Int) - 1 := IntWalk.i64_in _ (by omega)
        have x2 : ((k : Int) - 1).toNat = k - 1 := by omega
        have x3 : 0 ≤ (k : Int) - 1 := by omega
        have x4 : (k : Int) - 1 < (L.length : Int) := by omega
        have x5 : 0 < (k : Int) := by omega
        have hle : Hid (ilt x L[k - 1] = true ↔ x < L[k - 1]) := Lib.hid (by simp [ilt])
        generalize hy : L[k - 1] = y at *
        have HY := Lib.hid hy
        clear hy
        by_cases hlt : x < y
        · have hd1 : decide (0 < k) = true := by simp; omega
          go_wp2_with fail
          go_roundw
          case rel => exact ⟨k - 1, by show Value.int .i64 ((k : Int) - 1) = _; congr 1; omega, by omega, Lib.hid (fun j h hj => by
            by_cases e : j = k - 1
            · subst e; have := HY.out; rw [this]; exact hle.out.2 hlt
            · exact HG.out j h (by omega)), by first | rfl | trivial⟩
          case measure => simp [intOf]; omega
        · have hd1 : decide (0 < k) = true := by simp; omega
          go_wp2_with fail
          go_meet
          exact ⟨k, rfl, ⟨hk, HG.out, fun i h e => by
            obtain rfl : i = k - 1 := by omega
            rw [HY.out]
            cases hb : ilt x y
            · rfl
            · exact absurd (hle.out.1 hb) (by omega)⟩, by first | rfl | trivial⟩
  case rest =>
    obtain ⟨k, rfl, hPA, hw⟩ := hcut
    have hw' := hw.symm; clear hw; subst hw'
    have hk := hPA.1
    have HPA := Lib.hid hPA
    clear hPA
    have hkc : k ≤ c := by omega
    have HB0 : Hid (Below w.heap.size w (w.alloc (.cells #[] 3))) := Lib.hid ((Below.refl _ _).alloc (Nat.le_refl _) _)
    by_cases hn : L.length = 0
    · obtain rfl : L = [] := List.eq_nil_of_length_eq_zero hn
      obtain rfl : k = 0 := by simp at hk; exact hk
      clear HSr HC
      go_wp2_with (at_builtin; refine wpList_append_srcO rfl (.tmp 22) (.tmp 25) 24 rfl w.heap.size 3 i0 (.int .i64 0) 1 8 Try.underlying24 hi hz0 hz1 hz2 rfl (by decide) _ 0 [] rfl (own_zeroI (Nat.le_refl _) (hp_new rfl)) _ 0 (icells []) rfl (src_none _ _ _) rfl (icells_one _) (by decide) (by omega) HB0.out.size ?_)
      intro v1 w1 ho1 hg1
      have HO1 : Hid (w1.ownsRow w.heap.size 3 1 v1 0 (icells [])) := Lib.hid ho1
      have HB1 : Hid (Below w.heap.size w w1) := Lib.hid (HB0.out.grown hg1 HB0.out.size (fun k hk => by cases hk; exact Nat.le_refl _))
      clear ho1 hg1 HB0
      go_wp2_with (at_builtin; refine wpList_append_srcO rfl (.tmp 26) (.tmp 28) 24 rfl w.heap.size 3 i0 (.int .i64 0) 1 8 Try.underlying24 hi hz0 hz1 hz2 rfl (by decide) _ 0 (icells []) rfl (HO1.out.alloc _) _ 1 (icells [x]) rfl (new_srcO _ _ _) rfl (icells_one _) (by decide) (by omega) (by have := HB1.out.size; rw [World.size_alloc]; omega) ?_)
      intro v2 w2 ho2 hg2
      have HB2 : Hid (Below w.heap.size w w2) := Lib.hid ((HB1.out.alloc HB1.out.size _).grown hg2 (by have := HB1.out.size; rw [World.size_alloc]; omega) (fun k hk => (own_block HO1.out hk).1))
      have HO2 := Lib.hid ho2
      clear ho2 hg2 HB1 HO1
      go_wp2_with (at_builtin; refine wpList_append_srcO rfl (.tmp 30) (.tmp 33) 24 rfl w.heap.size 3 i0 (.int .i64 0) 1 8 Try.underlying24 hi hz0 hz1 hz2 rfl (by decide) _ (0 + 1) (icells [] ++ icells [x]) rfl HO2.out _ 0 (icells []) rfl (src_none _ _ _) rfl (icells_one _) (by decide) (by omega) HB2.out.size ?_)
      intro v3 w3 ho3 hg3
      have HB3 : Hid (Below w.heap.size w w3) := Lib.hid (HB2.out.grown hg3 HB2.out.size (fun k hk => (own_block HO2.out hk).1))
      have HO3 := Lib.hid ho3
      clear ho3 hg3 HB2 HO2
      go_wp2
      go_ret
      exact ⟨[x], _, ⟨0, HPA.out.1, HPA.out.2.1, HPA.out.2.2, rfl⟩, rfl, HO3.out, HB3.out⟩
    · obtain ⟨g, o, rfl, _, _⟩ := HC.out 0 (by omega)
      have HSk : Hid (SrcO w (.slice (some ⟨g, o, none⟩) k c) k (icells (L.take k))) := Lib.hid (src_take HSr.out rfl hk)
      have HLk : Hid ((icells (L.take k)).length = k * 1) := Lib.hid (by rw [icells_len, List.length_take]; omega)
      have HLd : Hid ((icells (L.drop k)).length = (L.length - k) * 1) := Lib.hid (by rw [icells_len, List.length_drop])
      clear HC
      have hnk : ((L.length : Nat) : Int) ≤ (c : Int) := by omega
      go_wp2_with (at_builtin; refine wpList_append_srcO rfl (.tmp 22) (.tmp 25) 24 rfl w.heap.size 3 i0 (.int .i64 0) 1 8 Try.underlying24 hi hz0 hz1 hz2 rfl (by decide) _ 0 [] rfl (own_zeroI (Nat.le_refl _) (hp_new rfl)) _ k (icells (L.take k)) rfl (HSk.out.keep ((Below.refl _ _).alloc (Nat.le_refl _) _)) HLk.out (icells_one _) (by unfold maxLen; omega) (by omega) HB0.out.size ?_)
      intro v1 w1 ho1 hg1
      have HO1 : Hid (w1.ownsRow w.heap.size 3 1 v1 k (icells (L.take k))) := Lib.hid ho1
      have HB1 : Hid (Below w.heap.size w w1) := Lib.hid (HB0.out.grown hg1 HB0.out.size (fun k hk => by cases hk; exact Nat.le_refl _))
      clear ho1 hg1 HB0 HSk
      go_wp2_with (at_builtin; refine wpList_append_srcO rfl (.tmp 26) (.tmp 28) 24 rfl w.heap.size 3 i0 (.int .i64 0) 1 8 Try.underlying24 hi hz0 hz1 hz2 rfl (by decide) _ k (icells (L.take k)) rfl (HO1.out.alloc _) _ 1 (icells [x]) rfl (new_srcO _ _ _) rfl (icells_one _) (by unfold maxLen; omega) (by omega) (by have := HB1.out.size; rw [World.size_alloc]; omega) ?_)
      intro v2 w2 ho2 hg2
      have HB2 : Hid (Below w.heap.size w w2) := Lib.hid ((HB1.out.alloc HB1.out.size _).grown hg2 (by have := HB1.out.size; rw [World.size_alloc]; omega) (fun k hk => (own_block HO1.out hk).1))
      have HO2 := Lib.hid ho2
      clear ho2 hg2 HB1 HO1
      by_cases hck : c = k
      · subst hck
        have e : L.length = c := by omega
        rw [e]
        have HE := Lib.hid e
        clear e hc hkc hk hnk
        go_wp2_with (at_builtin; refine wpList_append_srcO rfl (.tmp 30) (.tmp 33) 24 rfl w.heap.size 3 i0 (.int .i64 0) 1 8 Try.underlying24 hi hz0 hz1 hz2 rfl (by decide) _ (c + 1) (icells (L.take c) ++ icells [x]) rfl HO2.out _ 0 (icells []) rfl (src_none _ _ _) rfl (icells_one _) (by have := HE.out; unfold maxLen; omega) (by have := HE.out; omega) HB2.out.size ?_)
        intro v3 w3 ho3 hg3
        have HB3 : Hid (Below w.heap.size w w3) := Lib.hid (HB2.out.grown hg3 HB2.out.size (fun k hk => (own_block HO2.out hk).1))
        have HO3 : Hid (w3.ownsRow w.heap.size 3 1 v3 (L.take c ++ x :: L.drop c).length (icells (L.take c ++ x :: L.drop c))) := Lib.hid (by
          have e := HE.out
          have e2 : (L.take c ++ x :: L.drop c).length = c + 1 := by rw [List.length_append, List.length_cons, List.length_take, List.length_drop]; omega
          rw [e2, icells_app, List.drop_of_length_le (by omega)]
          simpa [icells_nil] using ho3)
        clear ho3 hg3 HB2 HO2
        go_wp2
        go_ret
        exact ⟨_, _, ⟨c, HPA.out.1, HPA.out.2.1, HPA.out.2.2, rfl⟩, rfl, HO3.out, HB3.out⟩
      · have HSd : Hid (SrcO w (.slice (some ⟨g, o + k, none⟩) (L.length - k) (c - k)) (L.length - k) (icells (L.drop k))) := Lib.hid (src_drop HSr.out rfl hk)
        go_wp2_with (at_builtin; refine wpList_append_srcO rfl (.tmp 30) (.tmp 33) 24 rfl w.heap.size 3 i0 (.int .i64 0) 1 8 Try.underlying24 hi hz0 hz1 hz2 rfl (by decide) _ (k + 1) (icells (L.take k) ++ icells [x]) rfl HO2.out _ (L.length - k) (icells (L.drop k)) rfl (HSd.out.keep HB2.out) HLd.out (icells_one _) (by unfold maxLen; omega) (by omega) HB2.out.size ?_)
        intro v3 w3 ho3 hg3
        have HB3 : Hid (Below w.heap.size w w3) := Lib.hid (HB2.out.grown hg3 HB2.out.size (fun k hk => (own_block HO2.out hk).1))
        have HO3 : Hid (w3.ownsRow w.heap.size 3 1 v3 (L.take k ++ x :: L.drop k).length (icells (L.take k ++ x :: L.drop k))) := Lib.hid (by
          have e : (L.take k ++ x :: L.drop k).length = k + 1 + (L.length - k) := by rw [List.length_append, List.length_cons, List.length_take, List.length_drop]; omega
          rw [e, icells_app, show icells (x :: L.drop k) = icells [x] ++ icells (L.drop k) from rfl]
          simpa using ho3)
        clear ho3 hg3 HB2 HO2
        go_wp2
        go_ret
        exact ⟨_, _, ⟨k, HPA.out.1, HPA.out.2.1, HPA.out.2.2, rfl⟩, rfl, HO3.out, HB3.out⟩
end Go.Proofs.Ytmmahejdpanmjaa
