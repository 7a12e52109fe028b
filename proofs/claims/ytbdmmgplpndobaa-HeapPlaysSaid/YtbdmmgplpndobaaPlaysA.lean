/- HeapPlays: the heap and the document's list side by side; what each call does to them. -/
import Derived.Test.YtbdmmgplpndobaaRef5D
import Derived.Test.YtbdmmgplpndobaaKnown5
import Derived.Test.YtbdmmgplpndobaaRisesLaw
import Derived.Test.YtbdmmgplpndobaaOpenActs
namespace Go.Proofs.Ytbdmmgplpndobaa
open Go.RowKit Go.Sort Go.Deep

/-- The act at hand stands in a block of its own. -/
def KpI (V : World) (hb g mb : Nat) (K : Option (Nat × Ac)) : Prop := ∀ kb a, K = some (kb, a) → kb ≠ hb ∧ kb ≠ g ∧ kb ≠ mb ∧ AcAt V kb 0 a
theorem KpI.frm {V V1 : World} {hb g mb : Nat} {K : Option (Nat × Ac)} (h : KpI V hb g mb K) (hf : Frm hb g mb V V1) : KpI V1 hb g mb K := fun kb a e => by
  obtain ⟨h1, h2, h3, c0, c1, c2, c3, c4, c5, c6⟩ := h kb a e
  exact ⟨h1, h2, h3, hf.cell c0 h1 h2 h3, hf.cell c1 h1 h2 h3, hf.cell c2 h1 h2 h3, hf.cell c3 h1 h2 h3, hf.cell c4 h1 h2 h3, hf.cell c5 h1 h2 h3, hf.cell c6 h1 h2 h3⟩
theorem KpI.to {V V1 : World} {hb g mb g' mb' : Nat} {K : Option (Nat × Ac)} (h : KpI V hb g mb K) (hf : Frm hb g mb V V1) (hg : g' = g ∨ V.heap.size ≤ g') (hm : mb' = mb ∨ V.heap.size ≤ mb') : KpI V1 hb g' mb' K := fun kb a e => by
  obtain ⟨h1, h2, h3, c0, _⟩ := h kb a e
  have hk := World.block_lt_of_cell? V _ c0
  simp only at hk
  exact ⟨h1, by omega, by omega, (h.frm hf kb a e).2.2.2⟩
/-- The heap holds S, the document's list (a slice v) is T. -/
structure PlS (w : World) (hb : Nat) (K : Option (Nat × Ac)) (S T : List E3) (v : Value) (V : World) : Prop where
  below : Below w.heap.size w V
  st : ∃ g mb P, w.heap.size ≤ hb ∧ w.heap.size ≤ g ∧ w.heap.size ≤ mb ∧ HpI V w.heap.size hb g mb P (S.length : Int) ∧ hO P ∧ MdI P S ∧ EI V hb g mb v T ∧ KpI V hb g mb K
theorem PlS.act {w V : World} {hb kb : Nat} {a : Ac} {S T : List E3} {v : Value} (h : PlS w hb (some (kb, a)) S T v V) : AcAt V kb 0 a := by
  obtain ⟨g, mb, P, _, _, _, _, _, _, _, K⟩ := h.st
  exact (K kb a rfl).2.2.2
theorem PlS.no {w V : World} {hb : Nat} {K : Option (Nat × Ac)} {S T : List E3} {v : Value} (h : PlS w hb K S T v V) : PlS w hb none S T v V := by
  obtain ⟨g, mb, P, b1, b2, b3, H, o, M, E, K⟩ := h.st
  exact ⟨h.below, g, mb, P, b1, b2, b3, H, o, M, E, fun _ _ e => by cases e⟩
theorem PlS.ris {w V : World} {hb : Nat} {K : Option (Nat × Ac)} {S T : List E3} {v : Value} (h : PlS w hb K S T v V) : risE S := by
  obtain ⟨g, mb, P, b1, b2, b3, H, o, M, E, K⟩ := h.st
  exact M.ris
theorem PlS.keep {w V V1 : World} {hb : Nat} {K : Option (Nat × Ac)} {S T : List E3} {v : Value} (h : PlS w hb K S T v V) (k : Below V.heap.size V V1) : PlS w hb K S T v V1 := by
  obtain ⟨g, mb, P, b1, b2, b3, H, o, M, E, KK⟩ := h.st
  exact ⟨below_after h.below k, g, mb, P, b1, b2, b3, H.keep k, o, M, E.frm (Frm.below k), KK.frm (Frm.below k)⟩
theorem own_ei5 {W : World} {base hb g mb : Nat} {T : TypeId} {u : Value} {L : List E3} (h : W.ownsRow base T 3 u L.length (enCells L)) (h1 : hb < base) (h2 : g < base) (h3 : mb < base) : EI W hb g mb u L := by
  have ho := h
  rcases id h.2 with ⟨rfl, hz⟩ | ⟨k, cap, cur, rfl, hk, _, hl, _⟩
  · exact ⟨none, 0, by rw [hz], by omega, fun i hi => by omega⟩
  · refine ⟨_, cap, rfl, hl, fun i hi => ⟨k, 0, rfl, by omega, by omega, by omega, ?_⟩⟩
    have hc := ho.cells (g := k) rfl
    have a0 := flatMap_at encE3l_len L i 0 hi (by omega)
    have a1 := flatMap_at encE3l_len L i 1 hi (by omega)
    have a2 := flatMap_at encE3l_len L i 2 hi (by omega)
    have q0 := hc _ _ (show (enCells L)[i * 3 + 0]? = some (.int .i64 L[i].1) from a0)
    have q1 := hc _ _ (show (enCells L)[i * 3 + 1]? = some (.int .i64 L[i].2.1) from a1)
    have q2 := hc _ _ (show (enCells L)[i * 3 + 2]? = some (.int .i64 L[i].2.2) from a2)
    rw [add_at] at q0 q1 q2
    exact ⟨q0, q1, q2⟩
theorem EI.to {W W1 : World} {hb g mb g' mb' : Nat} {v : Value} {L : List E3} (h : EI W hb g mb v L) (hf : Frm hb g mb W W1) (hg : g' = g ∨ W.heap.size ≤ g') (hm : mb' = mb ∨ W.heap.size ≤ mb') : EI W1 hb g' mb' v L := by
  obtain ⟨q, c, rfl, hc, hi⟩ := h
  refine ⟨q, c, rfl, hc, fun i hlt => ?_⟩
  obtain ⟨k, o, hq, h1, h2, h3, c0, c1, c2⟩ := hi i hlt
  have hk := World.block_lt_of_cell? W _ c0
  simp only at hk
  exact ⟨k, o, hq, h1, by omega, by omega, hf.cell c0 h1 h2 h3, hf.cell c1 h1 h2 h3, hf.cell c2 h1 h2 h3⟩
theorem pls_new (w : World) : PlS w w.heap.size none [] [] (.slice none 0 0) (w.alloc (.cells #[.slice none 0 0, .map none, .int .i64 0] 28)) :=
  ⟨below_alloc _ _, w.heap.size, w.heap.size, [], Nat.le_refl _, Nat.le_refl _, Nat.le_refl _, hpi_new w, fun j _ hj => by simp at hj, MdI.nil, ⟨none, 0, rfl, Nat.le_refl _, fun i hi => by simp at hi⟩, fun _ _ e => by cases e⟩
def PlPop (w : World) (hb : Nat) (K : Option (Nat × Ac)) (S T : List E3) (v : Value) (en : Ending) (w' : World) : Prop :=
  (S = [] ∧ en = .returned (.tuple #[encE3 (0, 0, 0), .bool false]) ∧ PlS w hb K [] T v w') ∨ ∃ s S', S = s :: S' ∧ en = .returned (.tuple #[encE3 s, .bool true]) ∧ PlS w hb K S' T v w'
theorem PlS.pop {w V : World} {hb : Nat} {K : Option (Nat × Ac)} {S T : List E3} {v : Value} (h : PlS w hb K S T v V) (hS : S.length ≤ 1000) : Calls Try.prog 8 #[.pointer (some ⟨hb, 0, none⟩)] V (PlPop w hb K S T v) := by
  obtain ⟨g, mb, P, b1, b2, b3, H, o, M, E, KK⟩ := h.st
  refine (hpop_any H (by omega)).mono ?_
  rintro en w' (⟨rfl, rfl, hbl⟩ | ⟨f0, rfl, hf, H1⟩)
  · have hl := M.len H.pos
    have hz : S = [] := List.eq_nil_of_length_eq_zero (by simp [sumT] at hl; omega)
    subst hz
    exact .inl ⟨rfl, rfl, h.keep hbl⟩
  · cases S with
    | nil => rw [M.none H.pos] at f0; simp at f0
    | cons s S' =>
      obtain ⟨_, hs⟩ := M.first H.pos o
      refine .inr ⟨s, S', rfl, by rw [hs], hf.belowed h.below b1 b2 b3, g, mb, takF P 0, b1, b2, b3, ?_, takF_ord o f0, M.pop H.pos o, E.frm hf, KK.frm hf⟩
      have e : ((s :: S').length : Int) - 1 = (S'.length : Int) := by rw [List.length_cons]; push_cast; omega
      rw [← e]; exact H1
theorem PlS.rpush {w V : World} {hb : Nat} {K : Option (Nat × Ac)} {S T : List E3} {v : Value} (h : PlS w hb K S T v V) (hT : T.length ≤ 1000) (hr : risE T) (e : E3) :
    Calls Try.prog 11 #[v, encE3 e] V fun en w' => ∃ u R, en = .returned u ∧ R.Perm (e :: T) ∧ risE R ∧ Below V.heap.size V w' ∧ PlS w hb K S R u w' := by
  obtain ⟨g, mb, P, b1, b2, b3, H, o, M, E, KK⟩ := h.st
  refine (r5push_any E hT e).mono ?_
  rintro en w' ⟨k, u, hp, rfl, ho, hbl⟩
  have hl := H.lts
  refine ⟨u, _, rfl, ?_, ?_, hbl, below_after h.below hbl, g, mb, P, b1, b2, b3, H.keep hbl, o, M, own_ei5 ho hl.1 hl.2.1 hl.2.2, KK.frm (Frm.below hbl)⟩
  · have := List.perm_middle (a := e) (l₁ := T.take k) (l₂ := T.drop k)
    rw [List.take_append_drop] at this
    exact this
  · unfold risE at *
    obtain ⟨hk, hlo, hhi⟩ := hp
    have hr1 := hr
    rw [← List.take_append_drop k T, List.pairwise_append] at hr1
    obtain ⟨r1, r2, r3⟩ := hr1
    rw [List.pairwise_append, List.pairwise_cons]
    refine ⟨r1, ⟨fun x hx => ?_, r2⟩, fun x hx y hy => ?_⟩
    · obtain ⟨i, hi, rfl⟩ := List.getElem_of_mem hx
      rw [List.length_drop] at hi
      rw [List.getElem_drop]
      have h0 := hhi (by omega)
      cases c : ltE T[k + i] e with
      | false => rfl
      | true =>
        exfalso
        by_cases hi0 : i = 0
        · subst hi0
          simp only [Nat.add_zero] at c
          have := ltE_sto.tr _ _ _ c h0
          rw [ltE_sto.irr] at this; cases this
        · have h2 := (List.pairwise_iff_getElem.1 hr) k (k + i) (by omega) (by omega) (by omega)
          have h3 := ltE_sto.tr _ _ _ c h0
          rw [h2] at h3; cases h3
    · rcases List.mem_cons.1 hy with rfl | hy
      · obtain ⟨i, hi, rfl⟩ := List.getElem_of_mem hx
        rw [List.length_take] at hi
        rw [List.getElem_take]
        exact hlo i (by omega) (by omega)
      · exact r3 x hx y hy
theorem PlS.rdrop {w V : World} {hb : Nat} {K : Option (Nat × Ac)} {S T : List E3} {v : Value} (h : PlS w hb K S T v V) (hT : T.length ≤ 1000) (e : E3) :
    Calls Try.prog 9 #[v, encE3 e] V fun en w' => ∃ u, en = .returned (.tuple #[u, .bool (decide (e ∈ T))]) ∧ PlS w hb K S (T.erase e) u w' := by
  obtain ⟨g, mb, P, b1, b2, b3, H, o, M, E, KK⟩ := h.st
  refine (r5drop_any E hT e).mono ?_
  rintro en w' ⟨hbl, ⟨hn, rfl⟩ | ⟨hm, u, rfl, ho⟩⟩
  · refine ⟨v, by simp [hn], ?_⟩
    rw [List.erase_of_not_mem hn]
    exact h.keep hbl
  · have hl := H.lts
    exact ⟨u, by simp [hm], below_after h.below hbl, g, mb, P, b1, b2, b3, H.keep hbl, o, M, own_ei5 ho hl.1 hl.2.1 hl.2.2, KK.frm (Frm.below hbl)⟩
theorem ei_two (W : World) (hb g mb : Nat) (a b : E3) (h1 : hb < W.heap.size) (h2 : g < W.heap.size) (h3 : mb < W.heap.size) :
    EI (W.alloc (.cells #[.int .i64 a.1, .int .i64 a.2.1, .int .i64 a.2.2, .int .i64 b.1, .int .i64 b.2.1, .int .i64 b.2.2] 31)) hb g mb (.slice (some ⟨W.heap.size, 0, none⟩) 2 2) [a, b] := by
  refine ⟨_, 2, rfl, by simp, fun i hi => ⟨_, 0, rfl, by omega, by omega, by omega, ?_⟩⟩
  match i, hi with
  | 0, _ => refine ⟨?_, ?_, ?_⟩ <;> go_simp
  | 1, _ => refine ⟨?_, ?_, ?_⟩ <;> go_simp
theorem PlS.push2 {w V : World} {hb : Nat} {K : Option (Nat × Ac)} {S T : List E3} {v : Value} (h : PlS w hb K S T v V) (hS : S.length ≤ 1000) (a b : E3) :
    Calls Try.prog 12 #[.pointer (some ⟨hb, 0, none⟩), .slice (some ⟨V.heap.size, 0, none⟩) 2 2] (V.alloc (.cells #[.int .i64 a.1, .int .i64 a.2.1, .int .i64 a.2.2, .int .i64 b.1, .int .i64 b.2.1, .int .i64 b.2.2] 31))
      fun en w' => en = .returned (.int .i64 ((S.length : Int) + 2)) ∧ ∀ R, R.Perm (b :: a :: S) → risE R → PlS w hb K R T v w' := by
  obtain ⟨g, mb, P, b1, b2, b3, H, o, M, E, KK⟩ := h.st
  have hl := H.lts
  have hB := below_alloc V (.cells #[.int .i64 a.1, .int .i64 a.2.1, .int .i64 a.2.2, .int .i64 b.1, .int .i64 b.2.1, .int .i64 b.2.2] 31)
  refine (hpush_any (H.keep hB) (ei_two V hb g mb a b hl.1 hl.2.1 hl.2.2) (by simp only [List.length_cons, List.length_nil]; omega)).mono ?_
  rintro en w' ⟨rfl, hf, g', mb', P', hg, hm, H1, R1⟩
  have hs : V.heap.size ≤ (V.alloc (.cells #[.int .i64 a.1, .int .i64 a.2.1, .int .i64 a.2.2, .int .i64 b.1, .int .i64 b.2.1, .int .i64 b.2.2] 31)).heap.size := hB.size
  refine ⟨by simp, fun R hp hr => ?_⟩
  obtain ⟨o', hc⟩ := R1.all o
  have hbs := h.below.size
  have e : (S.length : Int) + (([a, b] : List E3).length : Int) = (R.length : Int) := by rw [hp.length_eq]; simp only [List.length_cons, List.length_nil]; push_cast; omega
  refine ⟨hf.belowed (below_after h.below hB) b1 b2 b3, g', mb', P', b1, by omega, by omega, by rw [← e]; exact H1, o', ⟨hr, fun x => ?_⟩, (E.frm (Frm.below hB)).to hf hg hm, (KK.frm (Frm.below hB)).to hf hg hm⟩
  rw [hc, M.cnt, hp.count_eq]
  simp only [List.count_cons, List.count_nil]
  push_cast
  omega
theorem takS_ord {P P' : List Pile} {e : E3} {b : Bool} (h : TaS P e P' b) (o : hO P) (hp : PosT P) : hO P' ∧ PosT P' := by
  rcases h with ⟨_, _, rfl⟩ | ⟨_, i, hi, _, rfl⟩
  · exact ⟨o, hp⟩
  · exact ⟨takF_ord o hi, (takF_pos hp hi).1⟩
/-- How many of two go. -/
def two5 (S : List E3) (a b : E3) : Nat := (if a ∈ S then 1 else 0) + (if b ∈ S.erase a then 1 else 0)
theorem PlS.drop2 {w V : World} {hb : Nat} {K : Option (Nat × Ac)} {S T : List E3} {v : Value} (h : PlS w hb K S T v V) (hS : S.length ≤ 1000) (a b : E3) :
    Calls Try.prog 10 #[.pointer (some ⟨hb, 0, none⟩), .slice (some ⟨V.heap.size, 0, none⟩) 2 2] (V.alloc (.cells #[.int .i64 a.1, .int .i64 a.2.1, .int .i64 a.2.2, .int .i64 b.1, .int .i64 b.2.1, .int .i64 b.2.2] 31))
      fun en w' => en = .returned (.int .i64 (two5 S a b : Nat)) ∧ PlS w hb K ((S.erase a).erase b) T v w' := by
  obtain ⟨g, mb, P, b1, b2, b3, H, o, M, E, KK⟩ := h.st
  have hl := H.lts
  have hB := below_alloc V (.cells #[.int .i64 a.1, .int .i64 a.2.1, .int .i64 a.2.2, .int .i64 b.1, .int .i64 b.2.1, .int .i64 b.2.2] 31)
  refine (hdrop_any (H.keep hB) (ei_two V hb g mb a b hl.1 hl.2.1 hl.2.2) (by omega) (by simp only [List.length_cons, List.length_nil]; omega)).mono ?_
  rintro en w' ⟨n, rfl, hf, P', H1, P1, x1, m1, t1, ⟨P2, x2, m2, t2, ⟨rfl, rfl⟩, rfl⟩, rfl⟩
  obtain ⟨i1, M1⟩ := M.take H.pos t1
  obtain ⟨o1, p1⟩ := takS_ord t1 o H.pos
  obtain ⟨i2, M2⟩ := M1.take p1 t2
  obtain ⟨o2, p2⟩ := takS_ord t2 o1 p1
  have hn : (0 + (if x2 = true then 1 else 0) + (if x1 = true then 1 else 0) : Nat) = two5 S a b := by
    unfold two5
    cases x1 <;> cases x2 <;> simp_all
  have hsum := H1.sum
  have hlen := M2.len p2
  refine ⟨by rw [hn], hf.belowed (below_after h.below hB) b1 b2 b3, g, mb, P', b1, b2, b3, ?_, o2, M2, (E.frm (Frm.below hB)).frm hf, (KK.frm (Frm.below hB)).frm hf⟩
  rw [← hlen, hsum]; exact H1
theorem PlS.top_nil {w V : World} {hb : Nat} {K : Option (Nat × Ac)} {T : List E3} {v : Value} (h : PlS w hb K [] T v V) : Calls Try.prog 13 #[.pointer (some ⟨hb, 0, none⟩)] V fun en w' => (∃ e, en = .returned (.tuple #[encE3 e, .bool false])) ∧ Below V.heap.size V w' := by
  obtain ⟨g, mb, P, b1, b2, b3, H, o, M, E, KK⟩ := h.st
  refine (htop_any H).mono ?_
  rintro en w' ⟨rfl, hbl⟩
  have := M.none H.pos
  subst this
  exact ⟨⟨_, rfl⟩, hbl⟩
theorem PlS.top_cons {w V : World} {hb : Nat} {K : Option (Nat × Ac)} {s : E3} {S T : List E3} {v : Value} (h : PlS w hb K (s :: S) T v V) : Calls Try.prog 13 #[.pointer (some ⟨hb, 0, none⟩)] V fun en w' => en = .returned (.tuple #[encE3 s, .bool true]) ∧ Below V.heap.size V w' := by
  obtain ⟨g, mb, P, b1, b2, b3, H, o, M, E, KK⟩ := h.st
  refine (htop_any H).mono ?_
  rintro en w' ⟨rfl, hbl⟩
  obtain ⟨f0, hs⟩ := M.first H.pos o
  exact ⟨by rw [hs]; simp [f0], hbl⟩
theorem PlS.len {w V : World} {hb : Nat} {K : Option (Nat × Ac)} {S T : List E3} {v : Value} (h : PlS w hb K S T v V) : Calls Try.prog 14 #[.pointer (some ⟨hb, 0, none⟩)] V fun en w' => en = .returned (.int .i64 (S.length : Int)) ∧ w' = V := by
  obtain ⟨g, mb, P, b1, b2, b3, H, o, M, E, KK⟩ := h.st
  exact hlen_any H
/-- A row of entries somewhere. -/
def Lst (W : World) (u : Value) (S : List E3) : Prop := ∃ ha ga ma, EI W ha ga ma u S
theorem Lst.keep {W W1 : World} {u : Value} {S : List E3} (h : Lst W u S) (k : Below W.heap.size W W1) : Lst W1 u S := by
  obtain ⟨ha, ga, ma, h⟩ := h
  exact ⟨ha, ga, ma, h.frm (Frm.below k)⟩
theorem PlS.lst {w V : World} {hb : Nat} {K : Option (Nat × Ac)} {S T : List E3} {v : Value} (h : PlS w hb K S T v V) : Lst V v T := by
  obtain ⟨g, mb, P, b1, b2, b3, H, o, M, E, KK⟩ := h.st
  exact ⟨hb, g, mb, E⟩
theorem PlS.all {w V : World} {hb : Nat} {K : Option (Nat × Ac)} {S T : List E3} {v : Value} (h : PlS w hb K S T v V) (hS : S.length ≤ 1000) : Calls Try.prog 16 #[.pointer (some ⟨hb, 0, none⟩)] V fun en w' => ∃ u, en = .returned u ∧ Lst w' u S ∧ Below V.heap.size V w' := by
  obtain ⟨g, mb, P, b1, b2, b3, H, o, M, E, KK⟩ := h.st
  refine (hall_any H (by omega)).mono ?_
  rintro en w' ⟨N, u, hp, hs, rfl, ho, hbl⟩
  have hl := H.lts
  have e := M.all H.pos hp hs
  subst e
  exact ⟨u, rfl, ⟨hb, g, mb, own_ei5 ho hl.1 hl.2.1 hl.2.2⟩, hbl⟩
theorem Lst.same {W : World} {u v : Value} {S : List E3} (h : Lst W u S) (k : Lst W v S) (hS : S.length ≤ 1000) : Calls Try.prog 15 #[u, v] W fun e w' => e = .returned (.bool true) ∧ Below W.heap.size W w' := by
  obtain ⟨ha, ga, ma, h⟩ := h
  obtain ⟨hb, gb, mb, k⟩ := k
  exact same5_yes h k (by omega)
theorem Lst.row {W : World} {v : Value} {S : List E3} (h : Lst W v S) : ∃ q c, v = .slice q S.length c ∧ S.length ≤ c ∧ ∀ i (_ : i < S.length), ∃ k o, q = some ⟨k, o, none⟩ ∧ W.cell? ⟨k, o + i * 3, none⟩ = some (.int .i64 S[i].1) ∧ W.cell? ⟨k, o + i * 3 + 1, none⟩ = some (.int .i64 S[i].2.1) ∧ W.cell? ⟨k, o + i * 3 + 2, none⟩ = some (.int .i64 S[i].2.2) := by
  obtain ⟨ha, ga, ma, q, c, rfl, hc, hi⟩ := h
  refine ⟨q, c, rfl, hc, fun i h => ?_⟩
  obtain ⟨k, o, e, _, _, _, hh⟩ := hi i h
  exact ⟨k, o, e, hh⟩
/-- The document's list without its first. -/
theorem PlS.tail {w V : World} {hb : Nat} {K : Option (Nat × Ac)} {s : E3} {S T : List E3} {q : Option Addr} {n c : Nat} (h : PlS w hb K S (s :: T) (.slice q n c) V) : ∃ g o, q = some ⟨g, o, none⟩ ∧ n = T.length + 1 ∧ n ≤ c ∧ PlS w hb K S T (.slice (if c = 1 then some ⟨g, o, none⟩ else some ⟨g, o + 3, none⟩) T.length (c - 1)) V := by
  obtain ⟨g, mb, P, b1, b2, b3, H, o, M, ⟨q1, c1, e, hc, hi⟩, KK⟩ := h.st
  cases e
  obtain ⟨k, o1, rfl, _⟩ := hi 0 (by simp)
  refine ⟨k, o1, rfl, by simp, hc, h.below, g, mb, P, b1, b2, b3, H, o, M, ⟨_, _, rfl, by simp at hc; omega, fun i h => ?_⟩, KK⟩
  have hcn : ¬ c = 1 := by simp at hc; omega
  obtain ⟨k2, o2, e, h1, h2, h3, d0, d1, d2⟩ := hi (i + 1) (by simpa using h)
  cases e
  rw [if_neg hcn]
  refine ⟨k, o1 + 3, rfl, h1, h2, h3, ?_, ?_, ?_⟩
  · rw [show o1 + 3 + i * 3 = o1 + (i + 1) * 3 from by omega]; simpa using d0
  · rw [show o1 + 3 + i * 3 + 1 = o1 + (i + 1) * 3 + 1 from by omega]; simpa using d1
  · rw [show o1 + 3 + i * 3 + 2 = o1 + (i + 1) * 3 + 2 from by omega]; simpa using d2
/-- The act is laid in a block of its own. -/
theorem PlS.lay {w V : World} {hb : Nat} {S T : List E3} {v : Value} (h : PlS w hb none S T v V) (a : Ac) {V1 : World} (hV : V1 = V.alloc (.cells #[.int .i64 a.1, .int .i64 a.2.1.1, .int .i64 a.2.1.2.1, .int .i64 a.2.1.2.2, .int .i64 a.2.2.1, .int .i64 a.2.2.2.1, .int .i64 a.2.2.2.2] 33)) :
    PlS w hb (some (V.heap.size, a)) S T v V1 := by
  subst hV
  obtain ⟨g, mb, P, b1, b2, b3, H, o, M, E, _⟩ := h.st
  have hB := below_alloc V (.cells #[.int .i64 a.1, .int .i64 a.2.1.1, .int .i64 a.2.1.2.1, .int .i64 a.2.1.2.2, .int .i64 a.2.2.1, .int .i64 a.2.2.2.1, .int .i64 a.2.2.2.2] 33)
  have hl := H.lts
  refine ⟨below_after h.below hB, g, mb, P, b1, b2, b3, H.keep hB, o, M, E.frm (Frm.below hB), fun kb a' e => ?_⟩
  cases e
  refine ⟨by omega, by omega, by omega, ?_⟩
  refine ⟨?_, ?_, ?_, ?_, ?_, ?_, ?_⟩ <;> go_simp
end Go.Proofs.Ytbdmmgplpndobaa
