/- Walks of proto: All. -/
import Derived.Test.YtcbgknlklpandaaProU
import Derived.Test.YtcbgknlklpandaaRegionH
namespace Go.Proofs.Ytcbgknlklpandaa
open Go.RowKit Go.Shelf Go.Sort
attribute [local go_sem] Oper.semAt_some

/-- **The parts of bytes**, up to the first that has an error. -/
theorem parts_stops (n : Nat) (hn : 1 ≤ n) (Bs n₀ : Nat) (v : Value) (b : List Nat) (hb : ∀ x ∈ b, x < 256) (hl : b.length ≤ 1000000) (w : World) (hBn : Bs < w.heap.size) (hn0 : n₀ ≤ w.heap.size)
    (hc : w.cell? ⟨Bs, 0, none⟩ = some v) (hI : KL .u8 w v b) (hq : ∀ q, v.ownBlock = some q → b ≠ [] → q < n₀) :
    SeqStopsK Fence.wide n Try.prog 111 #[.pointer (some ⟨Bs, 0, none⟩)] (encP8 (v := v) (b := b)) (EK8 n₀ Bs) (fun ys => ys.map prS = prD b) (fun pre => ∃ t, pre.map prS ++ t = prD b) b.length w := fun l J Jx W hW hJ _ hY h0 => by
  have hc' := (hW.cell (p := ⟨Bs, 0, none⟩) hBn).trans hc
  exact parts1_in n hn l Bs n₀ v b hb hl J Jx W (Nat.le_trans hn0 hW.size) hJ hY hc' (hI.keep hW) hq h0
def AlPost (b : List Nat) (w : World) (e : Ending) (w' : World) : Prop := ∃ u, e = .returned (.tuple #[u, .int .i64 ((alD b).2.1 : Int), .int .i64 ((alD b).2.2 : Int)]) ∧ FL w' u (alD b).1 ∧ Below w.heap.size w w'
theorem keepsOthers_below8 {W W' : World} (hb : Below W.heap.size W W') : KeepsOthers W W' := ⟨hb.size, fun k _ hk _ => (hb.block k (Array.getElem?_eq_some_iff.1 hk).1).trans hk⟩
theorem own_rowK {W W1 : World} {B n size : Nat} {T : TypeId} {v : Value} {xs : List Value} {row : Option Nat} (h : W.ownsRow B T size v n xs) (hg : W.grownBy W1 row) (hr : ∀ r, row = some r → ∃ o : Obj, W.heap[r]? = some o ∧ o.isCells = false) : W1.ownsRow B T size v n xs := by
  refine h.kept hg ?_
  rcases h.2 with ⟨rfl, _⟩ | ⟨g, cap, cur, rfl, _, hgb, _⟩
  · exact .inl rfl
  · refine .inr (fun e => ?_)
    obtain ⟨o, ho, hc⟩ := hr g e.symm
    rw [hgb] at ho
    cases ho
    cases hc
theorem own_box {W : World} {B B0 n size : Nat} {T T' : TypeId} {v u u' : Value} {xs : List Value} (h : W.ownsRow B T size v n xs) (hb : Boxed W B0 T' u) (ht : T' ≠ T) : (W.setCell ⟨B0, 0, none⟩ u').ownsRow B T size v n xs :=
  h.kept (grownBy_setCell' W B0 u') (.inr (fun e => Boxed.not_row hb ht h e.symm))
theorem xow_box {W : World} {B B0 : Nat} {T' : TypeId} {u u' : Value} {X : List (Fd × Value)} (h : XOw W B X) (hb : Boxed W B0 T' u) (ht : T' ≠ 5) : XOw (W.setCell ⟨B0, 0, none⟩ u') B X := fun x hx => by
  obtain ⟨q, c, e, hk⟩ := h x hx
  exact ⟨q, c, e, own_box hk hb ht⟩
/-- All's state: what is to be answered, the row. -/
structure AlT (w W : World) (bv r0 : Value) (r1 r2 : Int) (u : Value) (X : List (Fd × Value)) : Prop where
  bl : Below w.heap.size w W
  b2 : Boxed W w.heap.size 60 r0
  b3 : Boxed W (w.heap.size + 1) 3 (.int .i64 r1)
  b4 : Boxed W (w.heap.size + 1 + 1) 63 (.int .i64 r2)
  b5 : Boxed W (w.heap.size + 1 + 1 + 1) 60 u
  b6 : Boxed W (w.heap.size + 1 + 1 + 1 + 1) 62 bv
  ow : W.ownsRow w.heap.size 77 4 u X.length (fcells X)
  xo : XOw W w.heap.size X
theorem box_later {W W1 : World} {B : Nat} {T : TypeId} {v : Value} (h : Boxed W B T v) (hb : Below W.heap.size W W1) : Boxed W1 B T v := (hb.block B h.lt).trans h
theorem AlT.later {w W W1 : World} {bv r0 : Value} {r1 r2 : Int} {u : Value} {X : List (Fd × Value)} (h : AlT w W bv r0 r1 r2 u X) (hb : Below W.heap.size W W1) : AlT w W1 bv r0 r1 r2 u X :=
  ⟨below_after h.bl hb, box_later h.b2 hb, box_later h.b3 hb, box_later h.b4 hb, box_later h.b5 hb, box_later h.b6 hb, own_keepB hb h.ow, h.xo.keep hb⟩
theorem AlT.own {w W W1 : World} {bv r0 : Value} {r1 r2 : Int} {u : Value} {X : List (Fd × Value)} {C : Nat} {row : Option Nat} (h : AlT w W bv r0 r1 r2 u X) (hC : w.heap.size ≤ C) (hg : W.grownBy W1 row) (hr : ∀ r, row = some r → C ≤ r ∧ ∃ o : Obj, W.heap[r]? = some o ∧ o.isCells = false) : AlT w W1 bv r0 r1 r2 u X :=
  have hb : ∀ {B : Nat} {T : TypeId} {v : Value}, Boxed W B T v → Boxed W1 B T v := fun {B T v} h => h.kept hg (fun e => by
    obtain ⟨o, ho, hc⟩ := (hr B e.symm).2
    rw [show W.heap[B]? = _ from h] at ho
    cases ho
    cases hc)
  ⟨h.bl.grown hg h.bl.size (fun r e => Nat.le_trans hC (hr r e).1), hb h.b2, hb h.b3, hb h.b4, hb h.b5, hb h.b6, own_rowK h.ow hg (fun r e => (hr r e).2), fun x hx => by
    obtain ⟨q, c, e, hk⟩ := h.xo x hx
    exact ⟨q, c, e, own_rowK hk hg (fun r e => (hr r e).2)⟩⟩
theorem AlT.set2 {w W : World} {bv r0 : Value} {r1 r2 : Int} {u : Value} {X : List (Fd × Value)} (h : AlT w W bv r0 r1 r2 u X) (z : Value) : AlT w (W.setCell ⟨w.heap.size, 0, none⟩ z) bv z r1 r2 u X :=
  ⟨h.bl.setCell (p := ⟨w.heap.size, 0, none⟩) (Nat.le_refl _) _, h.b2.set _, h.b3.other (by omega) _, h.b4.other (by omega) _, h.b5.other (by omega) _, h.b6.other (by omega) _, own_box h.ow h.b2 (by decide), xow_box h.xo h.b2 (by decide)⟩
theorem AlT.set3 {w W : World} {bv r0 : Value} {r1 r2 : Int} {u : Value} {X : List (Fd × Value)} (h : AlT w W bv r0 r1 r2 u X) (z : Int) : AlT w (W.setCell ⟨w.heap.size + 1, 0, none⟩ (.int .i64 z)) bv r0 z r2 u X :=
  ⟨h.bl.setCell (p := ⟨w.heap.size + 1, 0, none⟩) (by show _ ≤ w.heap.size + 1; omega) _, h.b2.other (by omega) _, h.b3.set _, h.b4.other (by omega) _, h.b5.other (by omega) _, h.b6.other (by omega) _, own_box h.ow h.b3 (by decide), xow_box h.xo h.b3 (by decide)⟩
theorem AlT.set4 {w W : World} {bv r0 : Value} {r1 r2 : Int} {u : Value} {X : List (Fd × Value)} (h : AlT w W bv r0 r1 r2 u X) (z : Int) : AlT w (W.setCell ⟨w.heap.size + 1 + 1, 0, none⟩ (.int .i64 z)) bv r0 r1 z u X :=
  ⟨h.bl.setCell (p := ⟨w.heap.size + 1 + 1, 0, none⟩) (by show _ ≤ w.heap.size + 1 + 1; omega) _, h.b2.other (by omega) _, h.b3.other (by omega) _, h.b4.set _, h.b5.other (by omega) _, h.b6.other (by omega) _, own_box h.ow h.b4 (by decide), xow_box h.xo h.b4 (by decide)⟩
theorem AlT.more {w V wB : World} {bv r0 : Value} {r1 r2 : Int} {u v2 : Value} {X X1 : List (Fd × Value)} (h : AlT w V bv r0 r1 r2 u X) (hg : V.grownBy wB u.ownBlock) (ho : wB.ownsRow w.heap.size 77 4 v2 X1.length (fcells X1)) (hx : XOw V w.heap.size X1) :
    AlT w (wB.setCell ⟨w.heap.size + 1 + 1 + 1, 0, none⟩ v2) bv r0 r1 r2 v2 X1 ∧ KeepsOthers V (wB.setCell ⟨w.heap.size + 1 + 1 + 1, 0, none⟩ v2) ∧ wB.cell? ⟨w.heap.size + 1 + 1 + 1, 0, none⟩ = some u ∧ wB.frozen? ⟨w.heap.size + 1 + 1 + 1, 0, none⟩ = false := by
  have nr : ∀ {B : Nat} {T : TypeId} {v : Value}, Boxed V B T v → T ≠ 77 → Boxed wB B T v := fun {B T v} hb ht => hb.kept hg (Boxed.not_row hb ht h.ow)
  have b2 := nr h.b2 (by decide)
  have b3 := nr h.b3 (by decide)
  have b4 := nr h.b4 (by decide)
  have b5 := nr h.b5 (by decide)
  have b6 := nr h.b6 (by decide)
  refine ⟨⟨(h.bl.grown hg h.bl.size (fun k e => (own_block h.ow e).1)).setCell (p := ⟨w.heap.size + 1 + 1 + 1, 0, none⟩) (by show _ ≤ w.heap.size + 1 + 1 + 1; omega) _, b2.other (by omega) _, b3.other (by omega) _, b4.other (by omega) _, b5.set _, b6.other (by omega) _, own_box ho b5 (by decide), xow_box (hx.grown hg h.ow) b5 (by decide)⟩, ?_, b5.cell, b5.frozen⟩
  refine (KeepsOthers.of_grownBy hg (fun j o e hj => ?_)).trans (KeepsOthers.setCell _ _ _)
  rcases h.ow.2 with ⟨rfl, _⟩ | ⟨g, cap, cur, rfl, _, hgb, _⟩
  · simp [Value.ownBlock] at e
  · simp only [Value.ownBlock, Option.some.injEq] at e
    subst e
    rw [hgb] at hj
    cases hj
    rfl
theorem heap_own8 {β : Type} (B : Nat) (o : Obj) (ho : o.isCells = true) : Own (fun (_ : β) W => W.heap[B]? = some o) := fun s X Y row hs hg hrow =>
  (hg.block B (Array.getElem?_eq_some_iff.1 hs).1 (fun e => by
    obtain ⟨o', h1, h2⟩ := hrow B e.symm
    rw [hs] at h1
    obtain rfl := Option.some.inj h1
    rw [ho] at h2; cases h2)).trans hs
/-- A part, in its box. -/
def P6 {v : Value} {b : List Nat} (W : World) (B : Nat) (x : Prt v b) : Prop := W.heap[B]? = some (.cells #[.int .i64 x.f.num, .int .i64 x.f.kind, .int .u64 (x.f.n : Int), .slice x.q x.f.b.length x.c, .int .i64 (x.at' : Int), .int .i64 (x.e : Int)] 137 (0, 0))
theorem P6.cells {v : Value} {b : List Nat} {W : World} {B : Nat} {x : Prt v b} (h : P6 W B x) : W.cell? ⟨B, 0, none⟩ = some (.int .i64 x.f.num) ∧ W.cell? ⟨B, 1, none⟩ = some (.int .i64 x.f.kind) ∧ W.cell? ⟨B, 2, none⟩ = some (.int .u64 (x.f.n : Int)) ∧ W.cell? ⟨B, 3, none⟩ = some (.slice x.q x.f.b.length x.c) ∧ W.cell? ⟨B, 4, none⟩ = some (.int .i64 (x.at' : Int)) ∧ W.cell? ⟨B, 5, none⟩ = some (.int .i64 (x.e : Int)) := by
  unfold P6 at h
  exact ⟨by simp [World.cell?, h], by simp [World.cell?, h], by simp [World.cell?, h], by simp [World.cell?, h], by simp [World.cell?, h], by simp [World.cell?, h]⟩
theorem P6.box {v : Value} {b : List Nat} {W : World} {B B0 : Nat} {x : Prt v b} {T : TypeId} {u z : Value} (h : P6 W B x) (hb : Boxed W B0 T u) (_ht : T ≠ 137) : P6 (W.setCell ⟨B0, 0, none⟩ z) B x :=
  hp_grown (grownBy_setCell' W B0 z) h (fun e => by
    injection e with e
    subst e
    have := (show W.heap[B]? = _ from hb).symm.trans h
    simp at this)
theorem P6.later {v : Value} {b : List Nat} {W W1 : World} {B : Nat} {x : Prt v b} (h : P6 W B x) (hb : Below W.heap.size W W1) : P6 W1 B x := (hb.block B (Array.getElem?_eq_some_iff.1 h).1).trans h
theorem P6.row {v : Value} {b : List Nat} {W W1 : World} {B B0 n : Nat} {x : Prt v b} {u : Value} {xs : List Value} (h : P6 W B x) (hg : W.grownBy W1 u.ownBlock) (ho : W.ownsRow B0 77 4 u n xs) : P6 W1 B x :=
  hp_grown hg h (fun e => by
    rcases ho.2 with ⟨rfl, _⟩ | ⟨g, cap, cur, rfl, _, hgb, _⟩
    · simp [Value.ownBlock] at e
    · simp only [Value.ownBlock, Option.some.injEq] at e
      subst e
      have := (show W.heap[B]? = _ from h).symm.trans hgb
      simp at this)
theorem all_snoc8 {v : Value} {b : List Nat} {pre : List (Prt v b)} {x : Prt v b} (h : ∀ y ∈ pre, y.e = 0) (hx : x.e = 0) : ∀ y ∈ pre ++ [x], y.e = 0 := by
  intro y hy
  rcases List.mem_append.1 hy with hy | hy
  · exact h y hy
  · rw [List.mem_singleton] at hy
    rw [hy]
    exact hx
theorem own_form4 {W : World} {B n : Nat} {T : TypeId} {v : Value} {xs : List Value} (h : W.ownsRow B T 4 v (n + 1) xs) : ∃ g c, v = .slice (some ⟨g, 0, none⟩) (n + 1) c := by
  rcases h.2 with ⟨_, hz⟩ | ⟨g, c, cur, e, _⟩
  · omega
  · exact ⟨g, c, e⟩
theorem own_anyF {W : World} {B n : Nat} {T : TypeId} {v : Value} {xs : List Value} (h : W.ownsRow B T 4 v n xs) : ∃ p c, v = .slice p n c := by
  rcases h.2 with ⟨e, hz⟩ | ⟨g, c, cur, e, _⟩
  · exact ⟨none, 0, by rw [e, hz]⟩
  · exact ⟨_, c, e⟩
theorem new_at4 (W : World) (T : TypeId) (a b c d : Value) : ∀ j u, [a, b, c, d][j]? = some u → (W.alloc (.cells #[a, b, c, d] T)).cell? ((⟨W.heap.size, 0, none⟩ : Addr).add j) = some u := by
  obtain ⟨q, c', e, h⟩ := new_src4 W T a b c d
  obtain ⟨g, o, e2, h⟩ := h (by omega)
  injection e with e1 _ _
  rw [← e1] at e2
  injection e2 with e2
  rw [e2]
  exact h
theorem xow_more {W : World} {B : Nat} {X : List (Fd × Value)} {f : Fd} {q : Option Addr} {c : Nat} (h : XOw W B X) (ho : W.ownsRow B 5 1 (.slice q f.b.length c) f.b.length (kcl .u8 f.b)) : XOw W B (X ++ [(f, Value.slice q f.b.length c)]) := fun x hx => by
  rcases List.mem_append.1 hx with hx | hx
  · exact h x hx
  · rw [List.mem_singleton] at hx
    subst hx
    exact ⟨q, c, rfl, ho⟩
set_option maxRecDepth 100000 in
set_option maxHeartbeats 4000000 in
theorem pall_any {w : World} {v : Value} {b : List Nat} (hK : KL .u8 w v b) (hb : ∀ x ∈ b, x < 256) (hl : b.length ≤ 10000) : Calls Try.prog 36 #[v] w (AlPost b w) := by
  have hmx : Try.prog.follows .mixedOrders = true := by kernel_rfl
  obtain ⟨i0, hi, hz0, hz1, hz2⟩ := info_parts infoF
  obtain ⟨q, c, rfl, hlc, hxk⟩ := id hK
  have hpw : ∀ k : Nat, (Value.slice q b.length c).ownBlock = some k → b ≠ [] → k < w.heap.size := by
    intro k hk hne
    obtain ⟨g, o, rfl, hc⟩ := hxk 0 (List.length_pos_iff.2 hne)
    simp only [Value.ownBlock, Option.some.injEq] at hk
    have := World.block_lt_of_cell? w _ hc
    subst hk
    exact this
  refine (callsIn_wide (n := 4)).1 ?_
  refine callsIn_of_wp_marks Try.func36 rfl trivial ?_ rfl
  simp only [Try.ntmps36, List.size_toArray, List.length_cons, List.length_nil, Nat.reduceAdd, Nat.reduceSub, Array.replicate_succ, Array.replicate_zero, List.push_toArray, List.append_toArray, List.nil_append, List.cons_append]
  gi_wp2_with fail
  refine ⟨trivial, (callsIn_wide.2 (parts_any _ _ _ _)).mono ?_⟩
  rintro e w2 ⟨rfl, rfl⟩
  gi_wp2_with fail
  have h0 : AlT w (((((w.alloc (.cells #[.slice none 0 0] 60)).alloc (.cells #[.int .i64 0] 3)).alloc (.cells #[.int .i64 0] 63)).alloc (.cells #[.slice none 0 0] 60)).alloc (.cells #[.slice q b.length c] 62)) (.slice q b.length c) (.slice none 0 0) 0 0 (.slice none 0 0) [] := by
    refine ⟨below_after (below_after (below_after (below_after (below_alloc _ _) (below_alloc _ _)) (below_alloc _ _)) (below_alloc _ _)) (below_alloc _ _), ?_, ?_, ?_, ?_, ?_, World.ownsRow_nil _ _ _ _, fun x hx => by cases hx⟩
    · exact hp_alloc (hp_alloc (hp_alloc (hp_alloc (hp_new rfl))))
    · exact hp_alloc (hp_alloc (hp_alloc (hp_new (by simp))))
    · exact hp_alloc (hp_alloc (hp_new (by simp)))
    · exact hp_alloc (hp_new (by simp))
    · exact hp_new (by simp)
  generalize hV : ((((w.alloc (.cells #[.slice none 0 0] 60)).alloc (.cells #[.int .i64 0] 3)).alloc (.cells #[.int .i64 0] 63)).alloc (.cells #[.slice none 0 0] 60)).alloc (.cells #[.slice q b.length c] 62) = V at *
  clear hV
  have H0 := Lib.hid h0
  have HK := Lib.hid hK
  refine wpIn_rangeFunc_ownH rfl (by omega) (gf := 111) (lb := #[.pointer (some ⟨w.heap.size + 1 + 1 + 1 + 1, 0, none⟩)]) rfl trivial (enters_of Try.func111 (by kernel_rfl) rfl)
    (parts_stops 3 (by omega) (w.heap.size + 1 + 1 + 1 + 1) w.heap.size _ b hb (by omega) V h0.b6.lt h0.bl.size h0.b6.cell (hK.keep h0.bl) hpw) EK8.trans (EK8.putObj h0.bl.size) (Below.refl _ _) (fun _ => rfl)
    (fun pre W => ∃ u X, AlT w W (.slice q b.length c) (.slice none 0 0) 0 0 u X ∧ X.map (·.1) = pre.map (·.f) ∧ (∀ x ∈ pre, x.e = 0))
    (fun cd pre W => cd = .ret ∧ ∃ ini last u X, pre = ini ++ [last] ∧ (∀ x ∈ ini, x.e = 0) ∧ last.e ≠ 0 ∧ AlT w W (.slice q b.length c) (.slice none 0 0) (last.at' : Int) (last.e : Int) u X)
    (fun pre A B row h hg hr => by
      obtain ⟨u, X, h1, h2, h3⟩ := h
      exact ⟨u, X, h1.own h0.bl.size hg hr, h2, h3⟩)
    (fun cd pre A B row h hg hr => by
      obtain ⟨rfl, ini, last, u, X, h1, h2, h3, h4⟩ := h
      exact ⟨rfl, ini, last, u, X, h1, h2, h3, h4.own h0.bl.size hg hr⟩)
    ⟨_, [], h0, rfl, fun x hx => by cases hx⟩
    (fun x a' W => ∃ Bx, P6 W Bx x ∧ a' = { tmps := #[.slice q b.length c, undef, .pointer (some ⟨w.heap.size, 0, none⟩), .pointer (some ⟨w.heap.size + 1, 0, none⟩), .pointer (some ⟨w.heap.size + 1 + 1, 0, none⟩), .pointer (some ⟨w.heap.size + 1 + 1 + 1, 0, none⟩), .pointer (some ⟨Bx, 0, none⟩), .slice q b.length c, .func (.func 111) #[] #[.pointer (some ⟨w.heap.size + 1 + 1 + 1 + 1, 0, none⟩)], .agg #[.int .i64 x.f.num, .int .i64 x.f.kind, .int .u64 (x.f.n : Int), .slice x.q x.f.b.length x.c, .int .i64 (x.at' : Int), .int .i64 (x.e : Int)], undef, undef, undef, undef, undef, undef, undef, undef, undef, undef, undef, undef, undef, undef], defers := [] })
    ?hAx ?assign ?body ?done ?stop
  case hAx =>
    rintro x a' s X Y row ⟨Bx, h3, h5⟩ hg hrow
    exact ⟨Bx, (heap_own8 Bx _ rfl).from _ () X Y row h3 hg hrow, h5⟩
  case assign =>
    rintro l pre x W K ⟨u, X, hA, h2, h3⟩ hK
    dsimp only [encP8]
    gi_wp2
    refine hK _ _ ((KeepsOthers.alloc _ _).from _) ⟨(below_alloc W _).mono hA.bl.size, fun y hy => cell_later (below_alloc W _) hy⟩ ⟨u, X, hA.later (below_alloc W _), h2, h3⟩ ⟨W.heap.size, ?_, rfl⟩
    exact hp_new rfl
  case body =>
    rintro l pre x a' W hl ⟨r, hr⟩ ⟨u, X, hA, hm, hz⟩ ⟨Bx, hP, rfl⟩ hlt
    obtain ⟨p0, p1, p2, p3, p4, p5⟩ := hP.cells
    have HA := Lib.hid hA
    have HP := Lib.hid hP
    have hlen : l < W.heap.size := (Array.getElem?_eq_some_iff.1 hr).1
    have HB0 : Hid (Below W.heap.size W W.drew) := Lib.hid (Below.refl _ _).drew
    have HBy : Hid (∀ y, W.cell? ⟨w.heap.size + 1 + 1 + 1 + 1, 0, none⟩ = some y → y = .slice q b.length c) := Lib.hid (fun y hy => by rw [hA.b6.cell] at hy; injection hy with hy; exact hy.symm)
    have HAd := Lib.hid (hA.later HB0.out)
    have HPd := Lib.hid (hP.later HB0.out)
    clear hA hP h0 hK
    by_cases he : x.e = 0
    · have hez : (x.e : Int) = 0 := by omega
      have hXl : X.length ≤ 10000 := by have := congrArg List.length hm; simp at this; omega
      gi_wp2_with fail
      refine region_held_in (OpenR.round _ l) (S := fun W'' => P6 W'' Bx x) hmx (by kernel_rfl) HPd.out (fun hHeld => ?_)
      have HKO : Hid (KeepsOthers W W.drew) := Lib.hid (keepsOthers_below8 HB0.out)
      have HW : Hid (w.heap.size ≤ W.heap.size) := Lib.hid HA.out.bl.size
      clear p0 p1 p2 p3 p4 p5 HA HP
      generalize W.drew = V0 at *
      refine wpAnyH_take (i := 1) (oi := { dst := some 18, op := Op.fieldAddr 137 (Operand.tmp 6) 0, type := 0, pos := "read.go:36", after := #[], guard := none }) (v := ?_) rfl (by kernel_rfl) (by kernel_rfl) (by kernel_rfl) (fun _ _ _ h => by cases h.1) (Or.inl ⟨by rfl, ?_⟩) (by with_reducible assumption) ?_
      rotate_left
      focus (intro wS hSw; obtain ⟨p0, p1, p2, p3, p4, p5⟩ := P6.cells hSw; go_simp <;> with_reducible rfl)
      try go_frame
      refine wpAnyH_take (i := 2) (oi := { dst := some 19, op := Op.load 77 (Operand.tmp 18), type := 77, pos := "read.go:36", after := #[{ on := 1, ground := Ground.data }], guard := none }) (v := ?_) rfl (by kernel_rfl) (by kernel_rfl) (by kernel_rfl) (fun _ _ _ h => by cases h.1) (Or.inl ⟨by rfl, ?_⟩) (by with_reducible assumption) ?_
      rotate_left
      focus (intro wS hSw; obtain ⟨p0, p1, p2, p3, p4, p5⟩ := P6.cells hSw; go_simp <;> with_reducible rfl)
      try go_frame
      refine wpAnyH_ready (rs := [0, 3]) (by kernel_rfl) (by simp) ?_
      refine AllReadyH.cons (i := 0) (o := { dst := some 17, op := Op.load 60 (Operand.tmp 5), type := 60, pos := "read.go:36", after := #[], guard := none }) rfl (fun K hK => ?_) (AllReadyH.cons (i := 3) (o := { dst := some 20, op := Op.call { callee := Callee.value (Operand.func 80), args := #[Operand.tmp 19], argTypes := #[77] }, type := 77, pos := "read.go:36", after := #[{ on := 2, ground := Ground.data }], guard := none }) rfl (fun K hK => ?_) AllReadyH.nil)
      · have s5 := HAd.out.b5.cell
        go_simp
        refine hK.out _ _ HPd.out (fun hHeld => ?_)
        clear hK K s5
        try go_frame
        refine wpAnyH_ready (rs := [3]) (by kernel_rfl) (by simp) ?_
        refine AllReadyH.cons (i := 3) (o := { dst := some 20, op := Op.call { callee := Callee.value (Operand.func 80), args := #[Operand.tmp 19], argTypes := #[77] }, type := 77, pos := "read.go:36", after := #[{ on := 2, ground := Ground.data }], guard := none }) rfl (fun K hK => ?_) AllReadyH.nil
        go_simp
        go_at_call 80
        refine (pown_any (f := x.f) (q := x.q) (c := x.c) (x.ok _ (HK.out.keep HAd.out.bl)) (Nat.le_trans x.len (by omega))).mono ?_
        rintro en w1 ⟨q1, c1, rfl, ho1, hb1⟩
        have HA1 := Lib.hid (HAd.out.later hb1)
        have HP1 := Lib.hid (HPd.out.later hb1)
        have HOn : Hid (w1.ownsRow w.heap.size 5 1 (.slice q1 x.f.b.length c1) x.f.b.length (kcl .u8 x.f.b)) := Lib.hid (own_base ho1 HAd.out.bl.size)
        have HB1 := Lib.hid hb1
        clear ho1 hb1
        refine hK.out _ _ HP1.out (fun hHeld => ?_)
        clear hK K
        try go_frame
        refine wpAnyH_ready (rs := [4]) (by kernel_rfl) (by simp) ?_
        refine AllReadyH.cons (i := 4) (o := { dst := some 21, op := Op.buildSlice 60 1 #[(0, Operand.tmp 20)], type := 60, pos := "read.go:36", after := #[{ on := 3, ground := Ground.data }], guard := none }) rfl (fun K hK => ?_) AllReadyH.nil
        have HAq := Lib.hid (HA1.out.later (below_alloc w1 (.cells #[.int .i64 x.f.num, .int .i64 x.f.kind, .int .u64 (x.f.n : Int), .slice q1 x.f.b.length c1] 77)))
        have HPq := Lib.hid (HP1.out.later (below_alloc w1 (.cells #[.int .i64 x.f.num, .int .i64 x.f.kind, .int .u64 (x.f.n : Int), .slice q1 x.f.b.length c1] 77)))
        have HKq : Hid (KeepsOthers W (w1.alloc (.cells #[.int .i64 x.f.num, .int .i64 x.f.kind, .int .u64 (x.f.n : Int), .slice q1 x.f.b.length c1] 77))) := Lib.hid ((HKO.out.trans (keepsOthers_below8 HB1.out)).trans (KeepsOthers.alloc _ _))
        have HXn : Hid (XOw (w1.alloc (.cells #[.int .i64 x.f.num, .int .i64 x.f.kind, .int .u64 (x.f.n : Int), .slice q1 x.f.b.length c1] 77)) w.heap.size (X ++ [(x.f, Value.slice q1 x.f.b.length c1)])) := Lib.hid (xow_more HAq.out.xo (own_keepB (below_alloc _ _) HOn.out))
        have HBq : Hid (∀ (wB : World), (w1.alloc (.cells #[.int .i64 x.f.num, .int .i64 x.f.kind, .int .u64 (x.f.n : Int), .slice q1 x.f.b.length c1] 77)).grownBy wB u.ownBlock → ∀ v2, Below w.heap.size W (wB.setCell ⟨w.heap.size + 1 + 1 + 1, 0, none⟩ v2)) := Lib.hid (fun wB hg v2 => (((below_after HB0.out (below_after HB1.out (below_alloc _ _))).mono HW.out).grown hg HAq.out.bl.size (fun k e => (own_block HAq.out.ow e).1)).setCell (p := ⟨w.heap.size + 1 + 1 + 1, 0, none⟩) (by show _ ≤ w.heap.size + 1 + 1 + 1; omega) v2)
        go_simp
        refine hK.out _ _ HPq.out (fun hHeld => ?_)
        clear hK K
        try go_frame
        have hsz := HAq.out.bl.size
        have HOne : Hid (∀ u ∈ ([.int .i64 x.f.num, .int .i64 x.f.kind, .int .u64 (x.f.n : Int), .slice q1 x.f.b.length c1] : List Value), u.oneCell' = true) := Lib.hid (by intro u hu; simp at hu; rcases hu with rfl | rfl | rfl | rfl <;> rfl)
        have HNs := Lib.hid (fun j u hj => new_at4 w1 77 (.int .i64 x.f.num) (.int .i64 x.f.kind) (.int .u64 (x.f.n : Int)) (.slice q1 x.f.b.length c1) j u hj)
        refine wpAnyH_ready (rs := [5]) (by kernel_rfl) (by simp) ?_
        refine AllReadyH.cons (i := 5) (o := { dst := some 22, op := Op.call { callee := Callee.builtin Builtin.append, args := #[Operand.tmp 17, Operand.tmp 21], argTypes := #[60, 60] }, type := 60, pos := "read.go:36", after := #[{ on := 0, ground := Ground.data }, { on := 4, ground := Ground.data }, { on := 3, ground := Ground.chain }], guard := none }) rfl (fun K hK => ?_) AllReadyH.nil
        refine step_append_at (by rfl) (.tmp 17) (.tmp 21) 60 (by rfl) w.heap.size 77 i0 (.agg #[.int .i64 0, .int .i64 0, .int .u64 0, .slice none 0 0]) 4 48 Try.underlying60 hi hz0 hz1 hz2 (by rfl) (by decide) u X.length (fcells X) (by rfl) HAq.out.ow _ 1 1 [.int .i64 x.f.num, .int .i64 x.f.kind, .int .u64 (x.f.n : Int), .slice q1 x.f.b.length c1] (by rfl) (by rfl) HNs.out HOne.out (by unfold maxLen; omega) (by omega) hsz ?_
        intro v2 wB hoB hgB hvB
        obtain ⟨g2, cp2, rfl⟩ := own_form4 hoB
        obtain ⟨hA9, hK9, s0, s1⟩ := HAq.out.more (X1 := X ++ [(x.f, Value.slice q1 x.f.b.length c1)]) hgB (by rw [fcells_snoc, List.length_append]; exact hoB) HXn.out
        have HA9 := Lib.hid hA9
        have HK9 := Lib.hid hK9
        have HPb := Lib.hid (HPq.out.row hgB HAq.out.ow)
        have HPc : Hid (P6 (wB.setCell ⟨w.heap.size + 1 + 1 + 1, 0, none⟩ (.slice (some ⟨g2, 0, none⟩) (X.length + 1) cp2)) Bx x) := Lib.hid (HPb.out.box (T := 60) (u := u) (HAq.out.b5.kept hgB (Boxed.not_row HAq.out.b5 (by decide) HAq.out.ow)) (by decide))
        clear hA9 hK9
        refine hK.out _ _ HPb.out (fun hHeld => ?_)
        clear hK K
        try go_frame
        refine wpAnyH_ready (rs := [6]) (by kernel_rfl) (by simp) ?_
        refine AllReadyH.cons (i := 6) (o := { dst := none, op := Op.store 60 (Operand.tmp 5) (Operand.tmp 22), type := 0, pos := "read.go:36", after := #[{ on := 5, ground := Ground.data }, { on := 5, ground := Ground.chain }, { on := 0, ground := Ground.phase }, { on := 1, ground := Ground.phase }, { on := 2, ground := Ground.phase }, { on := 3, ground := Ground.phase }, { on := 4, ground := Ground.phase }, { on := 5, ground := Ground.phase }], guard := none }) rfl (fun K hK => ?_) AllReadyH.nil
        go_simp
        refine hK.out _ _ HPc.out (fun hHeld => ?_)
        clear hK K
        try go_frame
        refine wpAnyH_done (by kernel_rfl) ?_ _
        refine ⟨rfl, ?_⟩
        refine ⟨(HKq.out.trans HK9.out).from _, ⟨?_, ?_⟩, _, _, HA9.out, ?_, ?_⟩
        · exact HBq.out _ hgB _
        · intro y hy; have := HA9.out.b6.cell; rw [show y = .slice q b.length c from HBy.out y hy]; exact this
        · rw [List.map_append, List.map_append, hm]; rfl
        · exact all_snoc8 hz he
      · go_simp
        go_at_call 80
        refine (pown_any (f := x.f) (q := x.q) (c := x.c) (x.ok _ (HK.out.keep HAd.out.bl)) (Nat.le_trans x.len (by omega))).mono ?_
        rintro en w1 ⟨q1, c1, rfl, ho1, hb1⟩
        have HA1 := Lib.hid (HAd.out.later hb1)
        have HP1 := Lib.hid (HPd.out.later hb1)
        have HOn : Hid (w1.ownsRow w.heap.size 5 1 (.slice q1 x.f.b.length c1) x.f.b.length (kcl .u8 x.f.b)) := Lib.hid (own_base ho1 HAd.out.bl.size)
        have HB1 := Lib.hid hb1
        clear ho1 hb1
        refine hK.out _ _ HP1.out (fun hHeld => ?_)
        clear hK K
        try go_frame
        refine wpAnyH_ready (rs := [0, 4]) (by kernel_rfl) (by simp) ?_
        refine AllReadyH.cons (i := 0) (o := { dst := some 17, op := Op.load 60 (Operand.tmp 5), type := 60, pos := "read.go:36", after := #[], guard := none }) rfl (fun K hK => ?_) (AllReadyH.cons (i := 4) (o := { dst := some 21, op := Op.buildSlice 60 1 #[(0, Operand.tmp 20)], type := 60, pos := "read.go:36", after := #[{ on := 3, ground := Ground.data }], guard := none }) rfl (fun K hK => ?_) AllReadyH.nil)
        · have s5 := HA1.out.b5.cell
          go_simp
          refine hK.out _ _ HP1.out (fun hHeld => ?_)
          clear hK K s5
          try go_frame
          refine wpAnyH_ready (rs := [4]) (by kernel_rfl) (by simp) ?_
          refine AllReadyH.cons (i := 4) (o := { dst := some 21, op := Op.buildSlice 60 1 #[(0, Operand.tmp 20)], type := 60, pos := "read.go:36", after := #[{ on := 3, ground := Ground.data }], guard := none }) rfl (fun K hK => ?_) AllReadyH.nil
          have HAq := Lib.hid (HA1.out.later (below_alloc w1 (.cells #[.int .i64 x.f.num, .int .i64 x.f.kind, .int .u64 (x.f.n : Int), .slice q1 x.f.b.length c1] 77)))
          have HPq := Lib.hid (HP1.out.later (below_alloc w1 (.cells #[.int .i64 x.f.num, .int .i64 x.f.kind, .int .u64 (x.f.n : Int), .slice q1 x.f.b.length c1] 77)))
          have HKq : Hid (KeepsOthers W (w1.alloc (.cells #[.int .i64 x.f.num, .int .i64 x.f.kind, .int .u64 (x.f.n : Int), .slice q1 x.f.b.length c1] 77))) := Lib.hid ((HKO.out.trans (keepsOthers_below8 HB1.out)).trans (KeepsOthers.alloc _ _))
          have HXn : Hid (XOw (w1.alloc (.cells #[.int .i64 x.f.num, .int .i64 x.f.kind, .int .u64 (x.f.n : Int), .slice q1 x.f.b.length c1] 77)) w.heap.size (X ++ [(x.f, Value.slice q1 x.f.b.length c1)])) := Lib.hid (xow_more HAq.out.xo (own_keepB (below_alloc _ _) HOn.out))
          have HBq : Hid (∀ (wB : World), (w1.alloc (.cells #[.int .i64 x.f.num, .int .i64 x.f.kind, .int .u64 (x.f.n : Int), .slice q1 x.f.b.length c1] 77)).grownBy wB u.ownBlock → ∀ v2, Below w.heap.size W (wB.setCell ⟨w.heap.size + 1 + 1 + 1, 0, none⟩ v2)) := Lib.hid (fun wB hg v2 => (((below_after HB0.out (below_after HB1.out (below_alloc _ _))).mono HW.out).grown hg HAq.out.bl.size (fun k e => (own_block HAq.out.ow e).1)).setCell (p := ⟨w.heap.size + 1 + 1 + 1, 0, none⟩) (by show _ ≤ w.heap.size + 1 + 1 + 1; omega) v2)
          go_simp
          refine hK.out _ _ HPq.out (fun hHeld => ?_)
          clear hK K
          try go_frame
          have hsz := HAq.out.bl.size
          have HOne : Hid (∀ u ∈ ([.int .i64 x.f.num, .int .i64 x.f.kind, .int .u64 (x.f.n : Int), .slice q1 x.f.b.length c1] : List Value), u.oneCell' = true) := Lib.hid (by intro u hu; simp at hu; rcases hu with rfl | rfl | rfl | rfl <;> rfl)
          have HNs := Lib.hid (fun j u hj => new_at4 w1 77 (.int .i64 x.f.num) (.int .i64 x.f.kind) (.int .u64 (x.f.n : Int)) (.slice q1 x.f.b.length c1) j u hj)
          refine wpAnyH_ready (rs := [5]) (by kernel_rfl) (by simp) ?_
          refine AllReadyH.cons (i := 5) (o := { dst := some 22, op := Op.call { callee := Callee.builtin Builtin.append, args := #[Operand.tmp 17, Operand.tmp 21], argTypes := #[60, 60] }, type := 60, pos := "read.go:36", after := #[{ on := 0, ground := Ground.data }, { on := 4, ground := Ground.data }, { on := 3, ground := Ground.chain }], guard := none }) rfl (fun K hK => ?_) AllReadyH.nil
          refine step_append_at (by rfl) (.tmp 17) (.tmp 21) 60 (by rfl) w.heap.size 77 i0 (.agg #[.int .i64 0, .int .i64 0, .int .u64 0, .slice none 0 0]) 4 48 Try.underlying60 hi hz0 hz1 hz2 (by rfl) (by decide) u X.length (fcells X) (by rfl) HAq.out.ow _ 1 1 [.int .i64 x.f.num, .int .i64 x.f.kind, .int .u64 (x.f.n : Int), .slice q1 x.f.b.length c1] (by rfl) (by rfl) HNs.out HOne.out (by unfold maxLen; omega) (by omega) hsz ?_
          intro v2 wB hoB hgB hvB
          obtain ⟨g2, cp2, rfl⟩ := own_form4 hoB
          obtain ⟨hA9, hK9, s0, s1⟩ := HAq.out.more (X1 := X ++ [(x.f, Value.slice q1 x.f.b.length c1)]) hgB (by rw [fcells_snoc, List.length_append]; exact hoB) HXn.out
          have HA9 := Lib.hid hA9
          have HK9 := Lib.hid hK9
          have HPb := Lib.hid (HPq.out.row hgB HAq.out.ow)
          have HPc : Hid (P6 (wB.setCell ⟨w.heap.size + 1 + 1 + 1, 0, none⟩ (.slice (some ⟨g2, 0, none⟩) (X.length + 1) cp2)) Bx x) := Lib.hid (HPb.out.box (T := 60) (u := u) (HAq.out.b5.kept hgB (Boxed.not_row HAq.out.b5 (by decide) HAq.out.ow)) (by decide))
          clear hA9 hK9
          refine hK.out _ _ HPb.out (fun hHeld => ?_)
          clear hK K
          try go_frame
          refine wpAnyH_ready (rs := [6]) (by kernel_rfl) (by simp) ?_
          refine AllReadyH.cons (i := 6) (o := { dst := none, op := Op.store 60 (Operand.tmp 5) (Operand.tmp 22), type := 0, pos := "read.go:36", after := #[{ on := 5, ground := Ground.data }, { on := 5, ground := Ground.chain }, { on := 0, ground := Ground.phase }, { on := 1, ground := Ground.phase }, { on := 2, ground := Ground.phase }, { on := 3, ground := Ground.phase }, { on := 4, ground := Ground.phase }, { on := 5, ground := Ground.phase }], guard := none }) rfl (fun K hK => ?_) AllReadyH.nil
          go_simp
          refine hK.out _ _ HPc.out (fun hHeld => ?_)
          clear hK K
          try go_frame
          refine wpAnyH_done (by kernel_rfl) ?_ _
          refine ⟨rfl, ?_⟩
          refine ⟨(HKq.out.trans HK9.out).from _, ⟨?_, ?_⟩, _, _, HA9.out, ?_, ?_⟩
          · exact HBq.out _ hgB _
          · intro y hy; have := HA9.out.b6.cell; rw [show y = .slice q b.length c from HBy.out y hy]; exact this
          · rw [List.map_append, List.map_append, hm]; rfl
          · exact all_snoc8 hz he
        · have HAq := Lib.hid (HA1.out.later (below_alloc w1 (.cells #[.int .i64 x.f.num, .int .i64 x.f.kind, .int .u64 (x.f.n : Int), .slice q1 x.f.b.length c1] 77)))
          have HPq := Lib.hid (HP1.out.later (below_alloc w1 (.cells #[.int .i64 x.f.num, .int .i64 x.f.kind, .int .u64 (x.f.n : Int), .slice q1 x.f.b.length c1] 77)))
          have HKq : Hid (KeepsOthers W (w1.alloc (.cells #[.int .i64 x.f.num, .int .i64 x.f.kind, .int .u64 (x.f.n : Int), .slice q1 x.f.b.length c1] 77))) := Lib.hid ((HKO.out.trans (keepsOthers_below8 HB1.out)).trans (KeepsOthers.alloc _ _))
          have HXn : Hid (XOw (w1.alloc (.cells #[.int .i64 x.f.num, .int .i64 x.f.kind, .int .u64 (x.f.n : Int), .slice q1 x.f.b.length c1] 77)) w.heap.size (X ++ [(x.f, Value.slice q1 x.f.b.length c1)])) := Lib.hid (xow_more HAq.out.xo (own_keepB (below_alloc _ _) HOn.out))
          have HBq : Hid (∀ (wB : World), (w1.alloc (.cells #[.int .i64 x.f.num, .int .i64 x.f.kind, .int .u64 (x.f.n : Int), .slice q1 x.f.b.length c1] 77)).grownBy wB u.ownBlock → ∀ v2, Below w.heap.size W (wB.setCell ⟨w.heap.size + 1 + 1 + 1, 0, none⟩ v2)) := Lib.hid (fun wB hg v2 => (((below_after HB0.out (below_after HB1.out (below_alloc _ _))).mono HW.out).grown hg HAq.out.bl.size (fun k e => (own_block HAq.out.ow e).1)).setCell (p := ⟨w.heap.size + 1 + 1 + 1, 0, none⟩) (by show _ ≤ w.heap.size + 1 + 1 + 1; omega) v2)
          go_simp
          refine hK.out _ _ HPq.out (fun hHeld => ?_)
          clear hK K
          try go_frame
          refine wpAnyH_ready (rs := [0]) (by kernel_rfl) (by simp) ?_
          refine AllReadyH.cons (i := 0) (o := { dst := some 17, op := Op.load 60 (Operand.tmp 5), type := 60, pos := "read.go:36", after := #[], guard := none }) rfl (fun K hK => ?_) AllReadyH.nil
          have s5 := HAq.out.b5.cell
          go_simp
          refine hK.out _ _ HPq.out (fun hHeld => ?_)
          clear hK K s5
          try go_frame
          have hsz := HAq.out.bl.size
          have HOne : Hid (∀ u ∈ ([.int .i64 x.f.num, .int .i64 x.f.kind, .int .u64 (x.f.n : Int), .slice q1 x.f.b.length c1] : List Value), u.oneCell' = true) := Lib.hid (by intro u hu; simp at hu; rcases hu with rfl | rfl | rfl | rfl <;> rfl)
          have HNs := Lib.hid (fun j u hj => new_at4 w1 77 (.int .i64 x.f.num) (.int .i64 x.f.kind) (.int .u64 (x.f.n : Int)) (.slice q1 x.f.b.length c1) j u hj)
          refine wpAnyH_ready (rs := [5]) (by kernel_rfl) (by simp) ?_
          refine AllReadyH.cons (i := 5) (o := { dst := some 22, op := Op.call { callee := Callee.builtin Builtin.append, args := #[Operand.tmp 17, Operand.tmp 21], argTypes := #[60, 60] }, type := 60, pos := "read.go:36", after := #[{ on := 0, ground := Ground.data }, { on := 4, ground := Ground.data }, { on := 3, ground := Ground.chain }], guard := none }) rfl (fun K hK => ?_) AllReadyH.nil
          refine step_append_at (by rfl) (.tmp 17) (.tmp 21) 60 (by rfl) w.heap.size 77 i0 (.agg #[.int .i64 0, .int .i64 0, .int .u64 0, .slice none 0 0]) 4 48 Try.underlying60 hi hz0 hz1 hz2 (by rfl) (by decide) u X.length (fcells X) (by rfl) HAq.out.ow _ 1 1 [.int .i64 x.f.num, .int .i64 x.f.kind, .int .u64 (x.f.n : Int), .slice q1 x.f.b.length c1] (by rfl) (by rfl) HNs.out HOne.out (by unfold maxLen; omega) (by omega) hsz ?_
          intro v2 wB hoB hgB hvB
          obtain ⟨g2, cp2, rfl⟩ := own_form4 hoB
          obtain ⟨hA9, hK9, s0, s1⟩ := HAq.out.more (X1 := X ++ [(x.f, Value.slice q1 x.f.b.length c1)]) hgB (by rw [fcells_snoc, List.length_append]; exact hoB) HXn.out
          have HA9 := Lib.hid hA9
          have HK9 := Lib.hid hK9
          have HPb := Lib.hid (HPq.out.row hgB HAq.out.ow)
          have HPc : Hid (P6 (wB.setCell ⟨w.heap.size + 1 + 1 + 1, 0, none⟩ (.slice (some ⟨g2, 0, none⟩) (X.length + 1) cp2)) Bx x) := Lib.hid (HPb.out.box (T := 60) (u := u) (HAq.out.b5.kept hgB (Boxed.not_row HAq.out.b5 (by decide) HAq.out.ow)) (by decide))
          clear hA9 hK9
          refine hK.out _ _ HPb.out (fun hHeld => ?_)
          clear hK K
          try go_frame
          refine wpAnyH_ready (rs := [6]) (by kernel_rfl) (by simp) ?_
          refine AllReadyH.cons (i := 6) (o := { dst := none, op := Op.store 60 (Operand.tmp 5) (Operand.tmp 22), type := 0, pos := "read.go:36", after := #[{ on := 5, ground := Ground.data }, { on := 5, ground := Ground.chain }, { on := 0, ground := Ground.phase }, { on := 1, ground := Ground.phase }, { on := 2, ground := Ground.phase }, { on := 3, ground := Ground.phase }, { on := 4, ground := Ground.phase }, { on := 5, ground := Ground.phase }], guard := none }) rfl (fun K hK => ?_) AllReadyH.nil
          go_simp
          refine hK.out _ _ HPc.out (fun hHeld => ?_)
          clear hK K
          try go_frame
          refine wpAnyH_done (by kernel_rfl) ?_ _
          refine ⟨rfl, ?_⟩
          refine ⟨(HKq.out.trans HK9.out).from _, ⟨?_, ?_⟩, _, _, HA9.out, ?_, ?_⟩
          · exact HBq.out _ hgB _
          · intro y hy; have := HA9.out.b6.cell; rw [show y = .slice q b.length c from HBy.out y hy]; exact this
          · rw [List.map_append, List.map_append, hm]; rfl
          · exact all_snoc8 hz he
    · have hez : ¬ (x.e : Int) = 0 := by omega
      clear p0 p1 p2 p3
      gi_wp2_with fail
      refine region_held_in (OpenR.round _ l) (S := fun W'' => P6 W'' Bx x) hmx (by kernel_rfl) HPd.out (fun hHeld => ?_)
      have HKO : Hid (KeepsOthers W W.drew) := Lib.hid (keepsOthers_below8 HB0.out)
      clear p4 p5 HA HP HB0
      generalize W.drew = V0 at *
      refine wpAnyH_take (i := 0) (oi := { dst := some 13, op := Op.fieldAddr 137 (Operand.tmp 6) 1, type := 0, pos := "read.go:34", after := #[{ on := 4, ground := Ground.gcOnly Departure.lateStores }], guard := none }) (v := ?_) rfl (by kernel_rfl) (by kernel_rfl) (by kernel_rfl) (fun _ _ _ h => by cases h.1) (Or.inl ⟨by rfl, ?_⟩) (by with_reducible assumption) ?_
      rotate_left
      focus (intro wS hSw; obtain ⟨p0, p1, p2, p3, p4, p5⟩ := P6.cells hSw; go_simp <;> with_reducible rfl)
      try go_frame
      refine wpAnyH_take (i := 1) (oi := { dst := some 14, op := Op.load 3 (Operand.tmp 13), type := 3, pos := "read.go:34", after := #[{ on := 0, ground := Ground.data }, { on := 4, ground := Ground.gcOnly Departure.lateStores }], guard := none }) (v := ?_) rfl (by kernel_rfl) (by kernel_rfl) (by kernel_rfl) (fun _ _ _ h => by cases h.1) (Or.inl ⟨by rfl, ?_⟩) (by with_reducible assumption) ?_
      rotate_left
      focus (intro wS hSw; obtain ⟨p0, p1, p2, p3, p4, p5⟩ := P6.cells hSw; go_simp <;> with_reducible rfl)
      try go_frame
      refine wpAnyH_take (i := 2) (oi := { dst := some 15, op := Op.fieldAddr 137 (Operand.tmp 6) 2, type := 0, pos := "read.go:34", after := #[{ on := 5, ground := Ground.gcOnly Departure.lateStores }], guard := none }) (v := ?_) rfl (by kernel_rfl) (by kernel_rfl) (by kernel_rfl) (fun _ _ _ h => by cases h.1) (Or.inl ⟨by rfl, ?_⟩) (by with_reducible assumption) ?_
      rotate_left
      focus (intro wS hSw; obtain ⟨p0, p1, p2, p3, p4, p5⟩ := P6.cells hSw; go_simp <;> with_reducible rfl)
      try go_frame
      refine wpAnyH_take (i := 3) (oi := { dst := some 16, op := Op.load 63 (Operand.tmp 15), type := 63, pos := "read.go:34", after := #[{ on := 2, ground := Ground.data }, { on := 5, ground := Ground.gcOnly Departure.lateStores }], guard := none }) (v := ?_) rfl (by kernel_rfl) (by kernel_rfl) (by kernel_rfl) (fun _ _ _ h => by cases h.1) (Or.inl ⟨by rfl, ?_⟩) (by with_reducible assumption) ?_
      rotate_left
      focus (intro wS hSw; obtain ⟨p0, p1, p2, p3, p4, p5⟩ := P6.cells hSw; go_simp <;> with_reducible rfl)
      try go_frame
      have s0 := HAd.out.b2.cell
      have s1 := HAd.out.b2.frozen
      have HA1 := Lib.hid (HAd.out.set2 (.slice none 0 0))
      have HP1 : Hid (P6 (V0.setCell ⟨w.heap.size, 0, none⟩ (.slice none 0 0)) Bx x) := Lib.hid (HPd.out.box HAd.out.b2 (by decide))
      have HA2 := Lib.hid (HA1.out.set3 (x.at' : Int))
      have HP2 := Lib.hid (HP1.out.box (z := .int .i64 (x.at' : Int)) HA1.out.b3 (by decide))
      have HA3 := Lib.hid (HA2.out.set4 (x.e : Int))
      have HP3 := Lib.hid (HP2.out.box (z := .int .i64 (x.e : Int)) HA2.out.b4 (by decide))
      refine wpAnyH_ready (rs := [4]) (by kernel_rfl) (by simp) ?_
      refine AllReadyH.cons (i := 4) (o := { dst := none, op := Op.store 60 (Operand.tmp 2) (Operand.const (Value.slice none 0 0)), type := 0, pos := "read.go:34", after := #[{ on := 0, ground := Ground.textOnly Departure.lateStores }, { on := 1, ground := Ground.textOnly Departure.lateStores }, { on := 2, ground := Ground.textOnly Departure.lateStores }, { on := 3, ground := Ground.textOnly Departure.lateStores }], guard := none }) rfl (fun K hK => ?_) AllReadyH.nil
      go_simp
      refine hK.out _ _ HP1.out (fun hHeld => ?_)
      clear hK K
      try go_frame
      clear s0 s1
      have s0 := HA1.out.b3.cell
      have s1 := HA1.out.b3.frozen
      refine wpAnyH_ready (rs := [5]) (by kernel_rfl) (by simp) ?_
      refine AllReadyH.cons (i := 5) (o := { dst := none, op := Op.store 3 (Operand.tmp 3) (Operand.tmp 14), type := 0, pos := "read.go:34", after := #[{ on := 1, ground := Ground.data }, { on := 4, ground := Ground.chain }, { on := 0, ground := Ground.phase }, { on := 1, ground := Ground.phase }, { on := 2, ground := Ground.textOnly Departure.lateStores }, { on := 3, ground := Ground.textOnly Departure.lateStores }, { on := 4, ground := Ground.phase }], guard := none }) rfl (fun K hK => ?_) AllReadyH.nil
      go_simp
      refine hK.out _ _ HP2.out (fun hHeld => ?_)
      clear hK K
      try go_frame
      clear s0 s1
      have s0 := HA2.out.b4.cell
      have s1 := HA2.out.b4.frozen
      refine wpAnyH_ready (rs := [6]) (by kernel_rfl) (by simp) ?_
      refine AllReadyH.cons (i := 6) (o := { dst := none, op := Op.store 63 (Operand.tmp 4) (Operand.tmp 16), type := 0, pos := "read.go:34", after := #[{ on := 3, ground := Ground.data }, { on := 5, ground := Ground.chain }, { on := 0, ground := Ground.phase }, { on := 1, ground := Ground.phase }, { on := 2, ground := Ground.phase }, { on := 3, ground := Ground.phase }, { on := 4, ground := Ground.phase }, { on := 5, ground := Ground.phase }], guard := none }) rfl (fun K hK => ?_) AllReadyH.nil
      go_simp
      refine hK.out _ _ HP3.out (fun hHeld => ?_)
      clear hK K
      try go_frame
      refine wpAnyH_done (by kernel_rfl) ?_ _
      refine ⟨rfl, ?_⟩
      have HFi : Hid (KeepsFrom V.heap.size W (((V0.setCell ⟨w.heap.size, 0, none⟩ (.slice none 0 0)).setCell ⟨w.heap.size + 1, 0, none⟩ (.int .i64 (x.at' : Int))).setCell ⟨w.heap.size + 1 + 1, 0, none⟩ (.int .i64 (x.e : Int)))) := Lib.hid (((HKO.out.trans (KeepsOthers.setCell _ _ _)).trans ((KeepsOthers.setCell _ _ _).trans (KeepsOthers.setCell _ _ _))).from _)
      clear s0 s1
      gi_wp2
      exact ⟨HFi.out, rfl, pre, x, u, X, rfl, hz, he, HA3.out⟩
  case done =>
    rintro D ys W hD hys ⟨u, X, hA, hm, hz⟩ hK
    obtain ⟨pu, cu, rfl⟩ := own_anyF hA.ow
    have hall : alD b = (ys.map (·.f), 0, 0) := by
      have h := pr_all (b.length + 1) b 0 [] (fun y hy => by
        have hy' : y ∈ prD b := hy
        rw [← hys] at hy'
        obtain ⟨z, hz2, rfl⟩ := List.mem_map.1 hy'
        exact hz z hz2)
      have e : (prR (b.length + 1) b 0).map (·.1) = ys.map (·.f) := by
        show (prD b).map (·.1) = _
        rw [← hys, List.map_map]
        rfl
      rw [e] at h
      simpa [alD] using h
    have HAll := Lib.hid hall
    have HFL := Lib.hid (own_fl hA.ow hA.xo.ok)
    have HA := Lib.hid hA
    have d5 := hA.b5.cell
    have e2 := hA.b2.cell
    have f2 := hA.b2.frozen
    have HA1 := Lib.hid (hA.set2 (.slice pu X.length cu))
    have e3 := HA1.out.b3.cell
    have f3 := HA1.out.b3.frozen
    have HA2 := Lib.hid (HA1.out.set3 0)
    have e4 := HA2.out.b4.cell
    have f4 := HA2.out.b4.frozen
    have HA3 := Lib.hid (HA2.out.set4 0)
    have HKs : Hid ((((W.setCell ⟨w.heap.size, 0, none⟩ (.slice pu X.length cu)).setCell ⟨w.heap.size + 1, 0, none⟩ (.int .i64 0)).setCell ⟨w.heap.size + 1 + 1, 0, none⟩ (.int .i64 0)).heap[D]? = some (.deferred (some []))) := Lib.hid (((KeepsOthers.setCell _ _ _).trans ((KeepsOthers.setCell _ _ _).trans (KeepsOthers.setCell _ _ _))).same D _ hK rfl)
    have HDs : Hid (w.heap.size ≤ D) := Lib.hid (Nat.le_trans h0.bl.size hD)
    clear hA h0 hall hys hz
    have hm2 := Lib.hid hm
    clear hm
    gi_wp2
    clear d5 e2 f2 e3 f3 e4 f4
    generalize ((W.setCell ⟨w.heap.size, 0, none⟩ (.slice pu X.length cu)).setCell ⟨w.heap.size + 1, 0, none⟩ (.int .i64 0)).setCell ⟨w.heap.size + 1 + 1, 0, none⟩ (.int .i64 0) = W' at *
    refine ⟨by simp, .inl ⟨_, _, rfl, run_takeDeferred HKs.out, ?_⟩⟩
    have hg := grownBy_putObj' W' D (.deferred none)
    have hr : ∀ r, some D = some r → w.heap.size ≤ r ∧ ∃ o : Obj, W'.heap[r]? = some o ∧ o.isCells = false := fun r e => by cases e; exact ⟨HDs.out, _, HKs.out, rfl⟩
    have hA9 := HA3.out.own (Nat.le_refl _) hg hr
    have c2 := hA9.b2.cell
    have c3 := hA9.b3.cell
    have c4 := hA9.b4.cell
    have hfl := own_fl hA9.ow hA9.xo.ok
    refine ⟨.tuple #[.slice pu X.length cu, .int .i64 0, .int .i64 0], ?_, .slice pu X.length cu, ?_, ?_, hA9.bl⟩
    · simp [results, Try.f36, go_sem, c2, c3, c4]
    · rw [HAll.out]; rfl
    · rw [HAll.out, ← hm2.out]; exact hfl
  case stop =>
    rintro D cd pre W hD ⟨t, ht⟩ ⟨rfl, ini, last, u, X, rfl, h1, h2, hA⟩ hK
    have hall : alD b = ([], last.at', last.e) := by
      refine pr_bad (ini.map prS) (b.length + 1) b 0 [] last.f last.at' last.e t ?_ (fun y hy => ?_) h2
      · have h : prD b = ini.map prS ++ (last.f, last.at', last.e) :: t := by rw [← ht, List.map_append, List.append_assoc]; rfl
        exact h
      · obtain ⟨z, hz2, rfl⟩ := List.mem_map.1 hy
        exact h1 z hz2
    have HAll := Lib.hid hall
    have HA := Lib.hid hA
    have HDs : Hid (w.heap.size ≤ D) := Lib.hid (Nat.le_trans h0.bl.size hD)
    clear hA h0 hall ht
    gi_wp2
    refine ⟨by simp, .inl ⟨_, _, rfl, run_takeDeferred hK, ?_⟩⟩
    have hg := grownBy_putObj' W D (.deferred none)
    have hr : ∀ r, some D = some r → w.heap.size ≤ r ∧ ∃ o : Obj, W.heap[r]? = some o ∧ o.isCells = false := fun r e => by cases e; exact ⟨HDs.out, _, hK, rfl⟩
    have hA9 := HA.out.own (Nat.le_refl _) hg hr
    have c2 := hA9.b2.cell
    have c3 := hA9.b3.cell
    have c4 := hA9.b4.cell
    refine ⟨.tuple #[.slice none 0 0, .int .i64 (last.at' : Int), .int .i64 (last.e : Int)], ?_, .slice none 0 0, ?_, ?_, hA9.bl⟩
    · simp [results, Try.f36, go_sem, c2, c3, c4]
    · rw [HAll.out]
    · rw [HAll.out]; exact ⟨none, 0, rfl, Nat.le_refl _, fun i hi => absurd hi (by simp)⟩
end Go.Proofs.Ytcbgknlklpandaa
