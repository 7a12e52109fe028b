/- Walks of the index: Pairs. -/
import Derived.Test.YtenfaejdnphngaaRowsPq
import Derived.Test.YtenfaejdnphngaaRowsPt
import Derived.Test.YtenfaejdnphngaaUniqO
namespace Go.Proofs.Ytenfaejdnphngaa
open Go.RowKit
open Go.ChangeMaps (setBlock)

theorem PrS.setb {W0 V : World} {kg gg kc ki n i cnt r : Nat} {G : Nat → List Nat} {N : Nat → Prop} (h : PrS W0 kg gg kc ki n i G cnt N V) (o : Obj) (hr : N r) (hge : W0.heap.size ≤ r) (hm : ∃ m a b c, V.heap[r]? = some (.mapIter m a b c)) : PrS W0 kg gg kc ki n i G cnt N (setBlock V r o) := by
  obtain ⟨m, a, b, c, hb⟩ := hm
  obtain ⟨ρ, r1, r2, r3, r4, r5, r6⟩ := h.st
  have hg := grown_blockI o hb
  have keep : ∀ k, k ≠ r → (setBlock V r o).heap[k]? = V.heap[k]? := fun k hk => (set_at o hb).2 k hk
  have nc : ∀ {k l : Nat} {v : Value}, V.cell? ⟨k, l, none⟩ = some v → k ≠ r := fun {k l v} hc e => by
    subst e
    simp [World.cell?, hb] at hc
  have hr0 := h.pr r hr
  refine ⟨h.bl.grown hg h.bl.size (fun k e => by injection e with e; subst e; exact hge), (World.cell?_of_block (keep kg (nc h.g0))).trans h.g0, (World.cell?_of_block (keep kc hr0.2.2.symm)).trans h.cc, (World.cell?_of_block (keep ki (nc h.ci))).trans h.ci, (World.frozen?_of_block (a := ⟨kc, 0, none⟩) (keep kc hr0.2.2.symm)).trans h.fc, fun l => (World.frozen?_of_block (a := ⟨gg, l, none⟩) (keep gg hr0.2.1.symm)).trans (h.fg l), h.ge, h.ne, fun k hk => ⟨Nat.lt_of_lt_of_le (h.pr k hk).1 hg.size, (h.pr k hk).2⟩, ρ, r1, r2, r3, r4, r5, fun l hl => ?_⟩
  obtain ⟨v, c, o2, hv⟩ := r6 l hl
  exact ⟨v, (World.cell?_of_block (keep gg hr0.2.1.symm)).trans c, own_blk o2 (fun k hk => keep k (fun e => by have := hv k hk; rw [e, r5 r hr] at this; simp at this)), hv⟩
theorem prj_grow (W0 : World) (kg gg kc ki n i : Nat) (G : Nat → List Nat) (cnt : Nat) : GrowC W0.heap.size (PrJ W0 kg gg kc ki n i G cnt) where
  g := fun o h hr hge hm => ⟨h.s.setb o hr hge hm, h.c, h.r, h.i, h.n⟩
/-- Pairs's state between numbers. -/
structure PrT (W0 : World) (kg gg kc n : Nat) (G : Nat → List Nat) (cnt : Nat) (V : World) : Prop where
  bl : Below W0.heap.size W0 V
  g0 : V.cell? ⟨kg, 0, none⟩ = some (.slice (some ⟨gg, 0, none⟩) n n)
  cc : V.cell? ⟨kc, 0, none⟩ = some (.int .i64 (cnt : Int))
  fc : V.frozen? ⟨kc, 0, none⟩ = false
  fg : ∀ l, V.frozen? ⟨gg, l, none⟩ = false
  ge : W0.heap.size ≤ gg ∧ W0.heap.size ≤ kc
  ne : gg ≠ kg ∧ gg ≠ kc ∧ kc ≠ kg ∧ gg < V.heap.size
  st : ∃ ρ : Nat → Nat, ρ kg = 0 ∧ ρ gg = 0 ∧ ρ kc = 0 ∧ (∀ k, k < W0.heap.size → ρ k = 0) ∧ ∀ l, l < n → ∃ v, V.cell? ⟨gg, l, none⟩ = some v ∧ V.ownsRow W0.heap.size 3 1 v (G l).length (nCells (G l)) ∧ ∀ k, v.ownBlock = some k → ρ k = l + 1
theorem PrT.on {W0 V V1 : World} {kg gg kc n ki i cnt : Nat} {G : Nat → List Nat} (h : PrT W0 kg gg kc n G cnt V) (hb : Below V.heap.size V V1) (hk : V.heap.size ≤ ki) (hc : V1.cell? ⟨ki, 0, none⟩ = some (.int .i64 (i : Int))) : PrS W0 kg gg kc ki n i G cnt (fun k => k < W0.heap.size) V1 := by
  obtain ⟨ρ, r1, r2, r3, r5, r6⟩ := h.st
  have hs := h.bl.size
  have lkg : kg < V.heap.size := World.block_lt_of_cell? V _ h.g0
  have lkc : kc < V.heap.size := World.block_lt_of_cell? V _ h.cc
  have lgg := h.ne.2.2.2
  refine ⟨h.bl.trans (hb.mono hs), cell_later hb h.g0, cell_later hb h.cc, hc, (hb.frozen (p := ⟨kc, 0, none⟩) lkc).trans h.fc, fun l => (hb.frozen (p := ⟨gg, l, none⟩) lgg).trans (h.fg l), h.ge, ⟨h.ne.1, h.ne.2.1, by omega, h.ne.2.2.1, by omega⟩, fun k hk' => ⟨Nat.lt_of_lt_of_le hk' (Nat.le_trans hs hb.size), by have := h.ge.1; omega, by have := h.ge.2; omega⟩, fun k => if k < V.heap.size then ρ k else 0, by simp [lkg, r1], by simp [lgg, r2], by simp [lkc, r3], by simp [Nat.not_lt.2 hk], fun k hk' => ?_, fun l hl => ?_⟩
  · simp only []
    split
    · exact r5 k hk'
    · rfl
  · obtain ⟨v, c, o, hv⟩ := r6 l hl
    exact ⟨v, cell_later hb c, own_blk o (fun k hk => hb.block k (own_block o hk).2), fun k hk => by
      have := (own_block o hk).2
      simp only [this, if_true]
      exact hv k hk⟩
theorem PrS.off {W0 V : World} {kg gg kc ki n i cnt : Nat} {G : Nat → List Nat} (h : PrS W0 kg gg kc ki n i G cnt (fun k => k < W0.heap.size) V) (hg : gg < V.heap.size) : PrT W0 kg gg kc n G cnt V := by
  obtain ⟨ρ, r1, r2, r3, r4, r5, r6⟩ := h.st
  exact ⟨h.bl, h.g0, h.cc, h.fc, h.fg, h.ge, ⟨h.ne.1, h.ne.2.1, h.ne.2.2.2.1, hg⟩, ρ, r1, r2, r3, r5, r6⟩
theorem addGs_row (i l : Nat) : ∀ (S : List Nat) (G : Nat → List Nat), addGs G i S l = G l ++ (S.filter (fun j => decide (l = min i j))).map (fun j => max i j)
  | [], G => by simp [addGs]
  | j :: S, G => by
    show addGs (addG G i j) i S l = _
    rw [addGs_row i l S, List.filter_cons]
    unfold addG
    by_cases h : l = min i j
    · rw [if_pos h, if_pos (by simpa using h), List.map_cons, List.append_assoc]; rfl
    · rw [if_neg h, if_neg (by simpa using h)]
theorem prt_ne {L : List B4} {i j : Nat} (h : prtP L i j) : i ≠ j := by
  rintro rfl
  have e := cmpS_swap (szB (bxA L i)) (szB (bxA L i))
  rcases h.2.2 with h | h
  · omega
  · omega
theorem prt_one {L : List B4} {i j : Nat} (h : prtP L i j) : ¬ prtP L j i := by
  intro k
  have e := cmpS_swap (szB (bxA L i)) (szB (bxA L j))
  rcases h.2.2 with h | h <;> rcases k.2.2 with k | k <;> omega
theorem com_swap (a b : B4) : comB a b = comB b a := by
  unfold comB
  rw [Int.max_comm, Int.max_comm a.2.1, Int.min_comm, Int.min_comm a.2.2.2]
theorem met_swap (a b : B4) : metB a b = metB b a := by
  unfold metB
  rw [com_swap, Bool.and_comm (rgtB a)]
/-- What the rows hold, once the first i boxes have had their turn. -/
structure GOk (L : List B4) (i : Nat) (G : Nat → List Nat) : Prop where
  nd : ∀ l, (G l).Nodup
  mem : ∀ l x, x ∈ G l ↔ ∃ a b, a < i ∧ prtP L a b ∧ l = min a b ∧ x = max a b
theorem GOk.zero (L : List B4) : GOk L 0 (fun _ => []) := ⟨fun _ => .nil, fun l x => ⟨fun h => (List.not_mem_nil h).elim, fun ⟨a, b, h, _⟩ => by omega⟩⟩
theorem GOk.next {L : List B4} {i : Nat} {G : Nat → List Nat} {S : List Nat} (h : GOk L i G) (hS : ∀ x, x ∈ S ↔ prtP L i x) (hn : S.Nodup) : GOk L (i + 1) (addGs G i S) := by
  refine ⟨fun l => ?_, fun l x => ?_⟩
  · rw [addGs_row, List.nodup_append]
    refine ⟨h.nd l, ?_, fun x hx y hy e => ?_⟩
    · rw [List.nodup_iff_pairwise_ne, List.pairwise_map]
      refine List.Pairwise.imp_of_mem ?_ (List.nodup_iff_pairwise_ne.1 (hn.filter _))
      intro a b ha hb hne
      simp only [List.mem_filter, decide_eq_true_eq] at ha hb
      have h1 := prt_ne ((hS a).1 ha.1)
      have h2 := prt_ne ((hS b).1 hb.1)
      omega
    · subst e
      obtain ⟨a, b, h1, h2, h3, h4⟩ := (h.mem l x).1 hx
      obtain ⟨j, hj, e⟩ := List.mem_map.1 hy
      simp only [List.mem_filter, decide_eq_true_eq] at hj
      have hp := (hS j).1 hj.1
      have hne := prt_ne hp
      have hne2 := prt_ne h2
      have e1 : a = j ∧ b = i := by omega
      rw [e1.1, e1.2] at h2
      exact prt_one hp h2
  · rw [addGs_row, List.mem_append, h.mem, List.mem_map]
    constructor
    · rintro (⟨a, b, h1, h2⟩ | ⟨j, hj, e⟩)
      · exact ⟨a, b, by omega, h2⟩
      · simp only [List.mem_filter, decide_eq_true_eq] at hj
        exact ⟨i, j, by omega, (hS j).1 hj.1, hj.2, e.symm⟩
    · rintro ⟨a, b, h1, h2, h3, h4⟩
      by_cases e : a < i
      · exact .inl ⟨a, b, e, h2, h3, h4⟩
      · obtain rfl : a = i := by omega
        exact .inr ⟨b, by simp only [List.mem_filter, decide_eq_true_eq]; exact ⟨(hS b).2 h2, h3⟩, h4.symm⟩
theorem prt_of {L : List B4} {l x : Nat} (hx : x < L.length) (hlx : l < x) (hm : metB (bxA L l) (bxA L x) = true) : prtP L l x ∨ prtP L x l := by
  have e := cmpS_swap (szB (bxA L l)) (szB (bxA L x))
  have hm2 := hm
  rw [met_swap] at hm2
  rcases cmpS_cases (szB (bxA L l)) (szB (bxA L x)) with h | h | h
  · exact .inl ⟨hx, hm, .inl h⟩
  · exact .inr ⟨by omega, hm2, .inr ⟨by omega, hlx⟩⟩
  · exact .inr ⟨by omega, hm2, .inl (by omega)⟩
theorem GOk.all {L : List B4} {G : Nat → List Nat} (h : GOk L L.length G) (l x : Nat) : x ∈ G l ↔ l < x ∧ x < L.length ∧ metB (bxA L l) (bxA L x) = true := by
  rw [h.mem]
  constructor
  · rintro ⟨a, b, h1, h2, rfl, rfl⟩
    have hne := prt_ne h2
    rcases Nat.lt_or_ge a b with hab | hab
    · rw [Nat.min_eq_left (by omega), Nat.max_eq_right (by omega)]
      exact ⟨hab, h2.1, h2.2.1⟩
    · rw [Nat.min_eq_right (by omega), Nat.max_eq_left (by omega)]
      exact ⟨by omega, h1, by rw [met_swap]; exact h2.2.1⟩
  · rintro ⟨h1, h2, h3⟩
    rcases prt_of h2 h1 h3 with h | h
    · exact ⟨l, x, by omega, h, by omega, by omega⟩
    · exact ⟨x, l, by omega, h, by omega, by omega⟩
theorem nodup_len : ∀ (n : Nat) (l : List Nat), l.Nodup → (∀ x ∈ l, x < n) → l.length ≤ n
  | 0, l, _, h => by
    cases l with
    | nil => exact Nat.le_refl _
    | cons a l => have := h a List.mem_cons_self; omega
  | n + 1, l, hn, h => by
    by_cases hm : n ∈ l
    · have h1 := nodup_len n (l.erase n) (hn.erase n) (fun x hx => by
        have := (hn.mem_erase_iff).1 hx
        have := h x this.2
        omega)
      rw [List.length_erase_of_mem hm] at h1
      omega
    · have := nodup_len n l hn (fun x hx => by
        have := h x hx
        have : x ≠ n := fun e => hm (e ▸ hx)
        omega)
      omega
/-- The numbers above l that box l meets. -/
def mrow (L : List B4) (l : Nat) : List Nat := (List.range L.length).filter (fun x => decide (l < x) && metB (bxA L l) (bxA L x))
def mpairs (L : List B4) (i : Nat) : List (Nat × Nat) := (List.range i).flatMap (fun l => (mrow L l).map (fun x => (l, x)))
theorem mpairs_succ (L : List B4) (i : Nat) : mpairs L (i + 1) = mpairs L i ++ (mrow L i).map (fun x => (i, x)) := by simp [mpairs, List.range_succ, List.flatMap_append]
theorem mrow_len (L : List B4) (l : Nat) : (mrow L l).length ≤ L.length := by
  have := List.length_filter_le (fun x => decide (l < x) && metB (bxA L l) (bxA L x)) (List.range L.length)
  rw [List.length_range] at this
  exact this
theorem mpairs_len (L : List B4) : ∀ i, (mpairs L i).length ≤ i * L.length
  | 0 => by simp [mpairs]
  | i + 1 => by
    have h := mpairs_len L i
    have h2 := mrow_len L i
    rw [mpairs_succ, List.length_append, List.length_map, Nat.succ_mul]
    omega
/-- What Uniq gives of a row. -/
theorem mrow_uniq {L : List B4} {G : Nat → List Nat} {X : List Int} {l : Nat} (h : GOk L L.length G) (hX : UnP X ((G l).map (fun n : Nat => (n : Int)))) : X = (mrow L l).map (fun n : Nat => (n : Int)) := by
  refine rise_uniq hX.1 ?_ (fun y => ?_)
  · rw [List.pairwise_map]
    refine (List.pairwise_lt_range.filter _).imp (fun h => ?_)
    exact_mod_cast h
  · rw [hX.2 y, List.mem_map, List.mem_map]
    constructor
    · rintro ⟨x, hx, rfl⟩
      obtain ⟨h1, h2, h3⟩ := (h.all l x).1 hx
      exact ⟨x, by unfold mrow; simp [h1, h2, h3], rfl⟩
    · rintro ⟨x, hx, rfl⟩
      unfold mrow at hx
      simp only [List.mem_filter, List.mem_range, Bool.and_eq_true, decide_eq_true_eq] at hx
      exact ⟨x, (h.all l x).2 ⟨hx.2.1, hx.1, hx.2.2⟩, rfl⟩
def prCells (P : List (Nat × Nat)) : List Value := P.flatMap (fun p => [.int .i64 (p.1 : Int), .int .i64 (p.2 : Int)])
theorem prCells_snoc (P : List (Nat × Nat)) (a b : Nat) : prCells (P ++ [(a, b)]) = prCells P ++ [.int .i64 (a : Int), .int .i64 (b : Int)] := by simp [prCells]
theorem infoA2 : (Try.prog.info? 52).map (fun i => (i.zero, i.size, i.bytes)) = some (some (.agg #[.int .i64 0, .int .i64 0]), 2, 16) := by kernel_rfl
theorem infoSI : (Try.prog.info? 48).map (fun i => (i.zero, i.size, i.bytes)) = some (some (.slice none 0 0), 1, 24) := by kernel_rfl
theorem make_run2 (n : Nat) (hn : n ≤ 1000000) (w : World) : (Instr.makeSlice 49 (.int .i64 0) (.int .i64 (n : Int))).run Try.prog w = .ok (.slice (some ⟨w.heap.size, 0, none⟩) 0 n) (w.alloc (.cells (madeCells #[.int .i64 0, .int .i64 0] (n * 2)) 52)) := by
  obtain ⟨i0, hi, hz0, hz1, hz2⟩ := info_parts infoA2
  have h := run_make (P := Try.prog) w 49 52 i0 (.agg #[.int .i64 0, .int .i64 0]) Try.underlying49 hi hz0 .i64 .i64 0 (n : Int) (Int.le_refl _) (by omega) (by rw [hz2]; omega) (by omega)
  rw [hz1] at h
  simpa [Value.cells] using h
theorem made_own2 (W : World) (base n : Nat) (hb : base ≤ W.heap.size) (hn : n ≤ 1000000) : (W.alloc (.cells (madeCells #[.int .i64 0, .int .i64 0] (n * 2)) 52)).ownsRow base 52 2 (.slice (some ⟨W.heap.size, 0, none⟩) 0 n) 0 [] :=
  World.ownsRow_made W _ n hb (by unfold maxLen; omega) (by rw [size_madeCells])
theorem make_runS (n : Nat) (hn : n ≤ 1000000) (w : World) : (Instr.makeSlice 94 (.int .i64 (n : Int)) (.int .i64 (n : Int))).run Try.prog w = .ok (.slice (some ⟨w.heap.size, 0, none⟩) n n) (w.alloc (.cells (madeCells #[.slice none 0 0] n) 48)) := by
  obtain ⟨i0, hi, hz0, hz1, hz2⟩ := info_parts infoSI
  have h := run_make (P := Try.prog) w 94 48 i0 (.slice none 0 0) Try.underlying94 hi hz0 .i64 .i64 (n : Int) (n : Int) (by omega) (Int.le_refl _) (by rw [hz2]; omega) (by omega)
  rw [hz1] at h
  simpa [Value.cells] using h
def PsPost (L : List B4) (w : World) (e : Ending) (w' : World) : Prop := ∃ u, e = .returned u ∧ w'.ownsRow w.heap.size 52 2 u (mpairs L L.length).length (prCells (mpairs L L.length)) ∧ Below w.heap.size w w'
/-- A row of pairs, and where the numbers lie that it takes up. -/
structure P3I (V : World) (g o : Nat) (X : List Nat) (P : List (Nat × Nat)) (v : Value) (wy : World) : Prop where
  own : wy.ownsRow V.heap.size 52 2 v P.length (prCells P)
  bl : Below V.heap.size V wy
  x : ∀ j (h : j < X.length), wy.cell? ⟨g, o + j, none⟩ = some (.int .i64 (X[j] : Int))
  ne : ∀ k, v.ownBlock = some k → k ≠ g
theorem P3I.next {V wy wB : World} {g o a b : Nat} {X : List Nat} {P : List (Nat × Nat)} {v v2 : Value} {T : TypeId} {j : Nat} (h : P3I V g o X P v wy) (hj : j < X.length)
    (ho : wB.ownsRow V.heap.size 52 2 v2 (P.length + 1) (prCells P ++ [.int .i64 (a : Int), .int .i64 (b : Int)])) (hg : (wy.alloc (.cells #[.int .i64 (a : Int), .int .i64 (b : Int)] T)).grownBy wB v.ownBlock) (hv : v2.ownBlock = v.ownBlock ∨ v2.ownBlock = some (wy.alloc (.cells #[.int .i64 (a : Int), .int .i64 (b : Int)] T)).heap.size) : P3I V g o X (P ++ [(a, b)]) v2 wB := by
  have hb := below_alloc wy (.cells #[.int .i64 (a : Int), .int .i64 (b : Int)] T)
  have hgl : g < wy.heap.size := World.block_lt_of_cell? wy _ (h.x j hj)
  have hs := h.bl.size
  refine ⟨by rw [prCells_snoc, List.length_append, List.length_singleton]; exact ho, (h.bl.trans (hb.mono hs)).grown hg (Nat.le_trans hs hb.size) (fun k e => (own_block h.own e).1), fun i hi => ?_, fun k hk => ?_⟩
  · have hgl2 := Nat.lt_of_lt_of_le hgl hb.size
    exact (World.cell?_of_block (hg.block g hgl2 (fun e => h.ne g e.symm rfl))).trans (cell_later hb (h.x i hi))
  · rcases hv with e | e
    · exact h.ne k (e ▸ hk)
    · rw [e] at hk; injection hk with hk; have := hb.size; omega
theorem own_il {V : World} {B : Nat} {va : Value} {U : List Nat} (o : V.ownsRow B 3 1 va U.length (nCells U)) : IL V V.heap.size va (U.map (fun n : Nat => (n : Int))) := by
  rcases id o.2 with ⟨e, hz⟩ | ⟨g, cp, cur, e, _, hlt, hle, _⟩
  · have hU : U = [] := List.length_eq_zero_iff.1 hz
    subst hU
    exact ⟨none, 0, e, Nat.le_refl _, fun i hi => by simp at hi⟩
  · subst e
    refine ⟨_, cp, by rw [List.length_map], by rw [List.length_map]; exact hle, fun i hi => ⟨g, 0, rfl, Nat.ne_of_lt (own_block o rfl).2, ?_⟩⟩
    rw [List.length_map] at hi
    rw [Nat.zero_add, o.cellAt i (by omega)]
    unfold nCells
    rw [List.getElem?_map, List.getElem?_eq_getElem hi, List.getElem_map]
    rfl
theorem GOk.len {L : List B4} {i : Nat} {G : Nat → List Nat} (h : GOk L i G) (hi : i ≤ L.length) (l : Nat) : (G l).length ≤ L.length :=
  nodup_len _ _ (h.nd l) (fun x hx => by
    obtain ⟨a, b, h1, h2, _, h4⟩ := (h.mem l x).1 hx
    have := h2.1
    omega)
theorem pr_news (W : World) (a b : Int) (T : TypeId) : ∀ (j : Nat) (u : Value), ([.int .i64 a, .int .i64 b] : List Value)[j]? = some u → (W.alloc (.cells #[.int .i64 a, .int .i64 b] T)).cell? (Addr.add ⟨W.heap.size, 0, none⟩ j) = some u := by
  intro j u h
  match j, h with
  | 0, h => simp at h; subst h; go_simp
  | 1, h => simp at h; subst h; go_simp
/-- Where Uniq's row lies. -/
theorem p3_new {V w3 : World} {q : Option Addr} {n c : Nat} {M : List Nat} {P : List (Nat × Nat)} {v : Value} {B : Nat} (ho : w3.ownsRow V.heap.size 52 2 v P.length (prCells P)) (hb : Below V.heap.size V w3) (hI : IL w3 w3.heap.size (.slice q n c) (M.map (fun n : Nat => (n : Int)))) (hB : ∀ k, (Value.slice q n c).ownBlock = some k → B ≤ k) (hv : ∀ k, v.ownBlock = some k → k < B) :
    ∃ g o, (M ≠ [] → q = some ⟨g, o, none⟩) ∧ n = M.length ∧ P3I V g o M P v w3 := by
  obtain ⟨q', c', e, hle, hx⟩ := hI
  injection e with e1 e2 e3
  subst e1 e2 e3
  by_cases hM : M = []
  · subst hM
    exact ⟨w3.heap.size, 0, fun h => absurd rfl h, by simp, ho, hb, fun j hj => by simp at hj, fun k hk => Nat.ne_of_lt (own_block ho hk).2⟩
  · have h0 : 0 < (M.map (fun n : Nat => (n : Int))).length := by rw [List.length_map]; exact List.length_pos_iff.2 hM
    obtain ⟨g, o, hq, _, _⟩ := hx 0 h0
    subst hq
    refine ⟨g, o, fun _ => rfl, by rw [List.length_map], ho, hb, fun j hj => ?_, fun k hk e => ?_⟩
    · obtain ⟨g', o', e, _, hc⟩ := hx j (by rw [List.length_map]; exact hj)
      injection e with e
      injection e with e1 e2 _
      subst e1 e2
      rw [List.getElem_map] at hc
      exact hc
    · have h1 := hv k hk
      have h2 := hB g rfl
      omega
set_option maxRecDepth 100000 in
set_option maxHeartbeats 4000000 in
theorem pairs_any {W : World} {B xb : Nat} {R : Nat → Rl} {L : List B4} (h : IxL W B xb R L) (hM : MeetsC W B xb R L) (hB : B ≤ W.heap.size) (hL : L.length ≤ 200) :
    Calls Try.prog 22 #[.pointer (some ⟨xb, 0, none⟩)] W (PsPost L W) := by
  have hmx : Try.prog.follows .mixedOrders = true := by kernel_rfl
  obtain ⟨iI, hiI, hI0, hI1, hI2⟩ := info_parts infoA2
  have HI := Lib.hid h
  have HM := Lib.hid hM
  have HLn := Lib.hid (len_ix h)
  have hmk := make_runS L.length (by omega) W
  clear h hM
  go_enter Try.func22, Try.ntmps22
  go_upto_region 2 with (go_at_call 21; refine HLn.out.mono ?_; rintro e w1 ⟨rfl, rfl⟩)
  clear hmk HLn
  have HG0 : Hid (PrT w1 (w1.heap.size + 1) w1.heap.size (w1.heap.size + 1 + 1) L.length (fun _ => []) 0 (((w1.alloc (.cells (madeCells #[.slice none 0 0] L.length) 48)).alloc (.cells #[.slice (some ⟨w1.heap.size, 0, none⟩) L.length L.length] 94)).alloc (.cells #[.int .i64 0] 3))) := Lib.hid (by
    have hrow := World.rowIs_made w1 (.slice none 0 0) L.length 48
    refine ⟨below_after (below_after (below_alloc _ _) (below_alloc _ _)) (below_alloc _ _), by go_simp, by go_simp, by go_simp, fun l => by go_simp, ⟨Nat.le_refl _, by omega⟩, ⟨by omega, by omega, by omega, by simp; omega⟩, fun _ => 0, rfl, rfl, rfl, fun _ _ => rfl, fun l hl => ?_⟩
    refine ⟨.slice none 0 0, cell_later (below_alloc _ _) (cell_later (below_alloc _ _) ?_), ⟨by simp [nCells], .inl ⟨rfl, rfl⟩⟩, fun k hk => by cases hk⟩
    obtain ⟨c, hb, _, hc⟩ := hrow
    unfold World.cell?
    simp only [hb]
    exact hc l hl)
  generalize ((w1.alloc (.cells (madeCells #[.slice none 0 0] L.length) 48)).alloc (.cells #[.slice (some ⟨w1.heap.size, 0, none⟩) L.length L.length] 94)).alloc (.cells #[.int .i64 0] 3) = V0 at *
  generalize w1.heap.size + 1 + 1 = kc at *
  generalize w1.heap.size + 1 = kg at *
  generalize hgg : w1.heap.size = gg at *
  have x0 := HG0.out.g0
  have HGG := Lib.hid hgg
  clear hgg
  go_wp2_with fail
  clear x0
  go_loopg [16] L.length (fun gk i wx => ∃ (k : Nat) (G : Nat → List Nat) (cnt : Nat), k + gk = L.length ∧ i = .int .i64 (k : Int) ∧ Hid (PrT w1 kg gg kc L.length G cnt wx ∧ GOk L k G ∧ cnt ≤ k * L.length))
  case atStart => exact ⟨0, _, 0, by omega, rfl, Lib.hid ⟨HG0.out, GOk.zero L, Nat.zero_le _⟩⟩
  case round =>
    obtain ⟨k, G, cnt, hkg, rfl, HS⟩ := hrel
    clear HG0
    cases gk with
    | zero =>
      obtain rfl : k = L.length := by omega
      obtain ⟨V, rfl⟩ : ∃ V, V = wr := ⟨_, rfl⟩
      have hkz : ¬ ((L.length : Int) < (L.length : Int)) := by omega
      have hcl : cnt ≤ 40000 := Nat.le_trans HS.out.2.2 (Nat.le_trans (Nat.mul_le_mul hL hL) (by decide))
      have g0 := HS.out.1.g0
      have cc := HS.out.1.cc
      have hmk := make_run2 cnt (by omega) V
      have HV := Lib.hid HS.out.1
      have HGk := Lib.hid HS.out.2.1
      have HO0 : Hid ((V.alloc (.cells (madeCells #[.int .i64 0, .int .i64 0] (cnt * 2)) 52)).ownsRow V.heap.size 52 2 (.slice (some ⟨V.heap.size, 0, none⟩) 0 cnt) 0 [] ∧ Below V.heap.size V (V.alloc (.cells (madeCells #[.int .i64 0, .int .i64 0] (cnt * 2)) 52))) := Lib.hid ⟨made_own2 V _ cnt (Nat.le_refl _) (by omega), below_alloc _ _⟩
      have g1 := cell_later (below_alloc V (.cells (madeCells #[.int .i64 0, .int .i64 0] (cnt * 2)) 52)) g0
      clear HS HI HM
      go_wp2_with fail
      clear hmk g0 cc g1
      generalize V.alloc (.cells (madeCells #[.int .i64 0, .int .i64 0] (cnt * 2)) 52) = V1 at *
      generalize hv0 : (Value.slice (some ⟨V.heap.size, 0, none⟩) 0 cnt) = v0 at *
      clear hv0
      go_loopg [6, 28] L.length (fun gk v i wx => ∃ k : Nat, k + gk = L.length ∧ i = .int .i64 (k : Int) ∧ Hid (wx.ownsRow V.heap.size 52 2 v (mpairs L k).length (prCells (mpairs L k)) ∧ Below V.heap.size V wx))
      case atStart => exact ⟨0, by omega, rfl, HO0⟩
      case round =>
        obtain ⟨k, hkg, rfl, HS⟩ := hrel
        clear HO0
        cases gk with
        | zero =>
          obtain rfl : k = L.length := by omega
          have hkz : ¬ ((L.length : Int) < (L.length : Int)) := by omega
          have HF : Hid (wr.ownsRow w1.heap.size 52 2 u6 (mpairs L L.length).length (prCells (mpairs L L.length)) ∧ Below w1.heap.size w1 wr) := Lib.hid ⟨own_base HS.out.1 HV.out.bl.size, HV.out.bl.trans (HS.out.2.mono HV.out.bl.size)⟩
          clear HS
          go_wp2_with fail
          go_ret
          exact ⟨_, rfl, HF.out⟩
        | succ gr =>
          have hkz : (k : Int) < (L.length : Int) := by omega
          have hkn : k < L.length := by omega
          obtain ⟨ρ, _, _, _, _, r6⟩ := HV.out.st
          obtain ⟨va, cva, ova, _⟩ := r6 k hkn
          have cw := cell_later HS.out.2 cva
          have HUq := Lib.hid (ouniq_own (IL.keep HS.out.2 (own_il ova)) (by rw [List.length_map]; have := HGk.out.len (Nat.le_refl _) k; omega))
          obtain ⟨pa, ca, rfl⟩ := own_len ova
          clear r6 ova cva
          have hmn := mrow_len L k
          have hpl : (mpairs L k).length ≤ 40000 := Nat.le_trans (mpairs_len L k) (Nat.le_trans (Nat.mul_le_mul (by omega) hL) (by decide : 200 * 200 ≤ 40000))
          go_wp2_with (go_at_call 52; refine HUq.out.mono ?_; rintro e w3 ⟨u, X, rfl, hX, _, hI, hO, hb⟩; obtain rfl := mrow_uniq HGk.out hX; obtain ⟨q3, c3, rfl, _, hx3⟩ := id hI; clear hx3; rw [List.length_map]; obtain ⟨g3, o3, hq3, hn3, hP3⟩ := p3_new (own_blk HS.out.1 (fun k hk => hb.block k (own_block HS.out.1 hk).2)) (HS.out.2.trans (hb.mono HS.out.2.size)) hI hO (fun k hk => (own_block HS.out.1 hk).2); have HP3 := Lib.hid hP3; clear hX hI hO hb hP3 hn3)
          clear HS HUq cw
          obtain ⟨P0, hP0⟩ : ∃ P0, P0 = mpairs L k := ⟨_, rfl⟩
          obtain ⟨M, hM⟩ : ∃ M, M = mrow L k := ⟨_, rfl⟩
          have HPn : Hid (mpairs L (k + 1) = P0 ++ M.map (fun x => (k, x))) := Lib.hid (by rw [mpairs_succ, hP0, hM])
          rw [← hP0] at HP3 hpl
          rw [← hM] at HP3 hmn hq3
          rw [← hM]
          clear hP0 hM
          go_loopg [6, 36] M.length (fun gk v j wy => ∃ m : Nat, m + gk = M.length ∧ j = .int .i64 (m : Int) ∧ Hid (P3I V g3 o3 M (P0 ++ (M.take m).map (fun x => (k, x))) v wy))
          case atStart => exact ⟨0, by omega, rfl, Lib.hid (by simpa using HP3.out)⟩
          case round =>
            obtain ⟨m, hmg, rfl, HS⟩ := hrel
            clear HP3
            cases gk with
            | zero =>
              obtain rfl : m = M.length := by omega
              have hmz : ¬ ((M.length : Int) < (M.length : Int)) := by omega
              have HF : Hid (wr.ownsRow V.heap.size 52 2 u6 (mpairs L (k + 1)).length (prCells (mpairs L (k + 1))) ∧ Below V.heap.size V wr) := Lib.hid (by
                have h := HS.out
                rw [List.take_length, ← HPn.out] at h
                exact ⟨h.own, h.bl⟩)
              clear HS
              go_wp2_with fail
              go_roundg gr
              case measure => omega
              case rel => exact ⟨k + 1, by omega, by push_cast; rfl, HF⟩
            | succ gm =>
              have hmz : (m : Int) < (M.length : Int) := by omega
              have hml : m < M.length := by omega
              have hq := hq3 (by intro e; rw [e] at hml; cases hml)
              subst hq
              have hcx := HS.out.x m hml
              have HTk : Hid ((M.take (m + 1)).map (fun x => (k, x)) = (M.take m).map (fun x => (k, x)) ++ [(k, M[m])]) := Lib.hid (by rw [List.take_succ_eq_append_getElem hml, List.map_append]; rfl)
              generalize M[m] = mx at *
              have hle : (P0 ++ (M.take m).map (fun x => (k, x))).length ≤ 41000 := by rw [List.length_append, List.length_map, List.length_take]; omega
              have HO : Hid ((wr.alloc (.cells #[.int .i64 (k : Int), .int .i64 (mx : Int)] 52)).ownsRow V.heap.size 52 2 u6 (P0 ++ (M.take m).map (fun x => (k, x))).length (prCells (P0 ++ (M.take m).map (fun x => (k, x))))) := Lib.hid (World.ownsRow.alloc (w := wr) HS.out.own _)
              have hsz : V.heap.size ≤ (wr.alloc (.cells #[.int .i64 (k : Int), .int .i64 (mx : Int)] 52)).heap.size := by have := HS.out.bl.size; simp; omega
              go_wp2_with (at_builtin; refine wpList_append_at rfl (.tmp 40) (.tmp 44) 49 rfl V.heap.size 52 iI (.agg #[.int .i64 0, .int .i64 0]) 2 16 Try.underlying49 hiI hI0 hI1 hI2 rfl (by decide) u6 (P0 ++ (M.take m).map (fun x => (k, x))).length (prCells (P0 ++ (M.take m).map (fun x => (k, x)))) rfl HO.out ⟨wr.heap.size, 0, none⟩ 1 1 [.int .i64 (k : Int), .int .i64 (mx : Int)] rfl rfl (pr_news _ _ _ _) (by intro u hu; simp only [List.mem_cons, List.not_mem_nil, or_false] at hu; rcases hu with rfl | rfl <;> rfl) (by unfold maxLen; omega) (by omega) hsz ?_; intro v2 wB hoB hgB hvB; have HS2 := Lib.hid (HS.out.next hml hoB hgB hvB); clear hoB hgB hvB)
              go_roundg gm
              case measure => omega
              case rel => exact ⟨m + 1, by omega, by push_cast; rfl, by rw [HTk.out, ← List.append_assoc]; exact HS2⟩
    | succ gr =>
      have hkz : (k : Int) < (L.length : Int) := by omega
      have hkn : k < L.length := by omega
      have HPt : Hid (Calls Try.prog 50 #[.pointer (some ⟨xb, 0, none⟩), .int .i64 (k : Int), .func (.func 51) #[] #[.pointer (some ⟨wr.heap.size, 0, none⟩), .pointer (some ⟨kg, 0, none⟩), .pointer (some ⟨kc, 0, none⟩)]] (wr.alloc (.cells #[.int .i64 (k : Int)] 3)) (fun e w' => e = .returned (.tuple #[]) ∧ ∃ (G2 : Nat → List Nat) (cnt2 : Nat), PrT w1 kg gg kc L.length G2 cnt2 w' ∧ GOk L (k + 1) G2 ∧ cnt2 ≤ (k + 1) * L.length)) := Lib.hid (by
        obtain ⟨hT, hG, hc⟩ := HS.out
        have hb := below_alloc wr (.cells #[.int .i64 (k : Int)] 3)
        have hcl : cnt ≤ 40000 := Nat.le_trans hc (Nat.le_trans (Nat.mul_le_mul (by omega) hL) (by decide : 200 * 200 ≤ 40000))
        have hPS := hT.on hb (Nat.le_refl _) (i := k) (by go_simp)
        have hJ : PrJ w1 kg gg kc wr.heap.size L.length k G cnt (fun j => j < w1.heap.size) [] (wr.alloc (.cells #[.int .i64 (k : Int)] 3)) := ⟨hPS, by omega, fun l => by have := hG.len (by omega) l; omega, hkn, by omega⟩
        refine (partners_any HI.out HM.out (pairs1_use w1 kg gg kc wr.heap.size L.length k G cnt) (prj_grow _ _ _ _ _ _ _ _ _) (Nat.le_trans hT.bl.size hb.size) hJ (fun j hj => ⟨hj, hPS.bl.block j hj⟩) (Nat.le_refl _) (by simp; omega) k hkn).mono ?_
        rintro e w' ⟨h1, S, h2, h3, h4, h5, h6⟩
        rw [List.nil_append] at h5
        have hgs : gg < w'.heap.size := by
          obtain ⟨ρ, _, _, _, _, _, r6⟩ := h5.s.st
          obtain ⟨v, c, _⟩ := r6 k hkn
          exact World.block_lt_of_cell? w' _ c
        exact ⟨h1, _, _, h5.s.off hgs, hG.next h2 h4, by rw [Nat.succ_mul]; exact Nat.add_le_add hc h3⟩)
      clear HS
      go_wp2_with (go_at_call 50; refine HPt.out.mono ?_; rintro e w2 ⟨rfl, G2, cnt2, h2⟩; have HS2 := Lib.hid h2; clear h2)
      go_roundg gr
      case measure => omega
      case rel => exact ⟨k + 1, G2, cnt2, by omega, by push_cast; rfl, HS2⟩
end Go.Proofs.Ytenfaejdnphngaa
