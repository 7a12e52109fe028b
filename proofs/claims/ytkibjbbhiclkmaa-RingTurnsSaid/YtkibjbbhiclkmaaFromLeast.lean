/- The walk of ring.fromLeast. -/
import Derived.Test.YtkibjbbhiclkmaaEdSort
import Derived.Test.YtkibjbbhiclkmaaBox
import Derived.Maps.AppendAt
namespace Go.Proofs.Ytkibjbbhiclkmaa
open Go.RowKit Go.Shelf Go.Sort
attribute [local go_sem] Oper.semAt_some

theorem info_ed : (Try.prog.info? 94).map (fun i => (i.zero, i.size, i.bytes)) = some (some (.agg #[.int .i64 0, .int .i64 0, .int .i64 0, .int .i64 0, .int .i64 0, .int .i64 0, .int .i64 0, .int .i64 0, .int .i64 0]), 9, 72) := by kernel_rfl
/-- What has come, with its places. -/
def edsOf (pre : List ((Int × Int) × (Int × Int))) : List Ed := pre.mapIdx fun i x => (i, x)
theorem edsOf_snoc (pre : List ((Int × Int) × (Int × Int))) (x : (Int × Int) × (Int × Int)) : edsOf (pre ++ [x]) = edsOf pre ++ [(pre.length, x)] := by unfold edsOf; rw [List.mapIdx_concat]
theorem edsOf_len (pre : List ((Int × Int) × (Int × Int))) : (edsOf pre).length = pre.length := by simp [edsOf]
theorem edCells_append (L M : List Ed) : edCells (L ++ M) = edCells L ++ edCells M := by simp [edCells]
theorem edCells_one (e : Ed) : edCells [e] = encEd e := by simp [edCells]
theorem edsOf_upto (L : List (Int × Int)) : edsOf (upto (edA L) L.length) = (List.range L.length).map fun i => (i, edA L i) := by
  unfold edsOf upto
  apply List.ext_getElem
  · simp
  · intro i h1 h2
    simp
def okx (x : (Int × Int) × (Int × Int)) : Bool := okp x.1.1 x.1.2 && okp x.2.1 x.2.2
def loT (x : (Int × Int) × (Int × Int)) : Int × Int := if okx x then (min x.1.1 x.2.1, min x.1.2 x.2.2) else (0, 0)
def hiT (x : (Int × Int) × (Int × Int)) : Int × Int := if okx x then (max x.1.1 x.2.1, max x.1.2 x.2.2) else (0, 0)
def encT (i : Nat) (x : (Int × Int) × (Int × Int)) : List Value := [.int .i64 (i : Int), .int .i64 x.1.1, .int .i64 x.1.2, .int .i64 x.2.1, .int .i64 x.2.2, .int .i64 (loT x).1, .int .i64 (loT x).2, .int .i64 (hiT x).1, .int .i64 (hiT x).2]
def celT (pre : List ((Int × Int) × (Int × Int))) : List Value := (pre.mapIdx encT).flatten
theorem celT_snoc (pre : List ((Int × Int) × (Int × Int))) (x : (Int × Int) × (Int × Int)) : celT (pre ++ [x]) = celT pre ++ encT pre.length x := by unfold celT; rw [List.mapIdx_concat]; simp
theorem encT_ok {i : Nat} {x : (Int × Int) × (Int × Int)} (h : okx x = true) : encT i x = encEd (i, x) := by
  unfold encT encEd loT hiT; rw [h]; rfl
theorem celT_ok : ∀ (pre : List ((Int × Int) × (Int × Int))), (∀ x ∈ pre, okx x = true) → celT pre = edCells (edsOf pre) := by
  intro pre h
  have e : pre.mapIdx encT = (edsOf pre).map encEd := by
    unfold edsOf
    apply List.ext_getElem
    · simp
    · intro i h1 h2
      simp only [List.getElem_mapIdx, List.getElem_map]
      exact encT_ok (h _ (List.getElem_mem _))
  unfold celT edCells
  rw [e, List.flatMap_def]
theorem own_below {W W1 : World} {base : Nat} {T : TypeId} {k : Nat} {v : Value} {n : Nat} {xs : List Value} (hb : Below W.heap.size W W1) (h : W.ownsRow base T k v n xs) : W1.ownsRow base T k v n xs := by
  refine ⟨h.1, ?_⟩
  rcases h.2 with h0 | ⟨g, cap, cur, rfl, hg, hh, hr⟩
  · exact .inl h0
  · exact .inr ⟨g, cap, cur, rfl, hg, (hb.block g (Array.getElem?_eq_some_iff.1 hh).1).trans hh, hr⟩
theorem own_putObj {W : World} {base : Nat} {T : TypeId} {k D : Nat} {v : Value} {n : Nat} {xs : List Value} {o o' : Obj} (hD : W.heap[D]? = some o) (ho : o.isCells = false) (h : W.ownsRow base T k v n xs) : (W.putObj D o').ownsRow base T k v n xs :=
  h.kept (grownBy_putObj' W D o') (.inr (by
    intro e
    rcases h.2 with ⟨rfl, _⟩ | ⟨g, _, _, rfl, _, hg, _⟩
    · cases e
    · simp only [Value.ownBlock, Option.some.injEq] at e
      subst e
      rw [hg] at hD
      obtain rfl := Option.some.inj hD
      cases ho))
theorem own_slice {W : World} {base : Nat} {T : TypeId} {k : Nat} {v : Value} {n : Nat} {xs : List Value} (h : W.ownsRow base T k v n xs) : ∃ (p : Option Addr) (cap : Nat), v = .slice p n cap := by
  rcases h.2 with ⟨rfl, rfl⟩ | ⟨g, cap, cur, rfl, _⟩
  · exact ⟨_, _, rfl⟩
  · exact ⟨_, _, rfl⟩
theorem encT_len (i : Nat) (x : (Int × Int) × (Int × Int)) : (encT i x).length = 9 := rfl
theorem encT_one (i : Nat) (x : (Int × Int) × (Int × Int)) : ∀ u ∈ encT i x, u.oneCell' = true := by
  intro u hu
  simp [encT] at hu
  rcases hu with rfl | rfl | rfl | rfl | rfl | rfl | rfl | rfl | rfl <;> rfl
theorem encT_news (W : World) (T : TypeId) (i : Nat) (x : (Int × Int) × (Int × Int)) (b : Nat) (hb : b = W.heap.size) : ∀ j u, (encT i x)[j]? = some u → (W.alloc (.cells (encT i x).toArray T)).cell? (Addr.add ⟨b, 0, none⟩ j) = some u := by
  subst hb
  intro j u hu
  have h : (W.alloc (.cells (encT i x).toArray T)).heap[W.heap.size]? = some (.cells (encT i x).toArray T) := heap_alloc_new W _
  unfold World.cell?
  have e1 : (Addr.add ⟨W.heap.size, 0, none⟩ j).block = W.heap.size := by unfold Addr.add; split <;> rfl
  have e2 : (Addr.add ⟨W.heap.size, 0, none⟩ j).off = j := by unfold Addr.add; split <;> simp_all
  have e3 : (Addr.add ⟨W.heap.size, 0, none⟩ j).spot = none := by unfold Addr.add; split <;> rfl
  rw [e1, e2, e3, h]
  simpa using hu
/-- The list so far. -/
def FlI (w : World) (A : Nat) (sl : Value) (pre : List ((Int × Int) × (Int × Int))) (W : World) : Prop :=
  ((∃ v, Boxed W A 91 v ∧ W.ownsRow w.heap.size 94 9 v pre.length (celT pre) ∧ True) ∧ Below w.heap.size w W) ∧ W.heap[A + 1]? = some (.cells #[sl] 22 (0, 0))
/-- All edges, by their boxes' least X. -/
def FlPost (L : List (Int × Int)) (w : World) (e : Ending) (w' : World) : Prop :=
  ∃ (v : Value) (M : List Ed), e = .returned v ∧ M.Perm ((List.range L.length).map fun i => (i, edA L i)) ∧ M.Pairwise (fun p q => p.lx ≤ q.lx) ∧ w'.ownsRow w.heap.size 94 9 v L.length (edCells M) ∧ Below w.heap.size w w'

theorem box2_any (W : World) (b : Nat) (p q : Int × Int) (hb : b < W.heap.size) (hp : okp p.1 p.2 = true) (hq : okp q.1 q.2 = true)
    (h0 : W.cell? ⟨b, 0, none⟩ = some (.int .i64 p.1)) (h1 : W.cell? ⟨b, 1, none⟩ = some (.int .i64 p.2)) (h2 : W.cell? ⟨b, 2, none⟩ = some (.int .i64 q.1)) (h3 : W.cell? ⟨b, 3, none⟩ = some (.int .i64 q.2)) :
    Calls Try.prog 100 #[.slice (some ⟨b, 0, none⟩) 2 2] W fun e w' => e = .returned (.tuple #[.agg #[.int .i64 (min p.1 q.1), .int .i64 (min p.2 q.2)], .agg #[.int .i64 (max p.1 q.1), .int .i64 (max p.2 q.2)], .bool true]) ∧ Below W.heap.size W w' := by
  have hs : Sl W b 0 2 (fun i => [p.1, q.1].getD i 0) (fun i => [p.2, q.2].getD i 0) := by
    refine ⟨hb, fun i hi => ?_⟩
    match i, hi with
    | 0, _ => exact ⟨h0, h1⟩
    | 1, _ => exact ⟨h2, h3⟩
  have hpl : pall 2 (fun i => [p.1, q.1].getD i 0) (fun i => [p.2, q.2].getD i 0) = true := by
    unfold okp at hp hq
    simp [pall_succ, pall_zero, hp, hq]
  exact box_yes b 0 2 2 _ _ W (by omega) (by omega) (by omega) (Lib.hid hs) (Lib.hid hpl)

theorem box2_tot (W : World) (b : Nat) (x : (Int × Int) × (Int × Int)) (hb : b < W.heap.size)
    (h0 : W.cell? ⟨b, 0, none⟩ = some (.int .i64 x.1.1)) (h1 : W.cell? ⟨b, 1, none⟩ = some (.int .i64 x.1.2)) (h2 : W.cell? ⟨b, 2, none⟩ = some (.int .i64 x.2.1)) (h3 : W.cell? ⟨b, 3, none⟩ = some (.int .i64 x.2.2)) :
    Calls Try.prog 100 #[.slice (some ⟨b, 0, none⟩) 2 2] W fun e w' => e = .returned (.tuple #[.agg #[.int .i64 (loT x).1, .int .i64 (loT x).2], .agg #[.int .i64 (hiT x).1, .int .i64 (hiT x).2], .bool (okx x)]) ∧ Below W.heap.size W w' := by
  cases hok : okx x
  · have e1 : loT x = (0, 0) := by unfold loT; rw [hok]; rfl
    have e2 : hiT x = (0, 0) := by unfold hiT; rw [hok]; rfl
    rw [e1, e2]
    have hs : Sl W b 0 2 (fun i => [x.1.1, x.2.1].getD i 0) (fun i => [x.1.2, x.2.2].getD i 0) := by
      refine ⟨hb, fun i hi => ?_⟩
      match i, hi with
      | 0, _ => exact ⟨h0, h1⟩
      | 1, _ => exact ⟨h2, h3⟩
    refine box_no b 0 2 2 _ _ W (by omega) (by omega) (Lib.hid hs) (Lib.hid ?_)
    unfold okx okp at hok
    simp only [pall_succ, pall_zero, Bool.true_and]
    exact hok
  · have e1 : loT x = (min x.1.1 x.2.1, min x.1.2 x.2.2) := by unfold loT; rw [hok]; rfl
    have e2 : hiT x = (max x.1.1 x.2.1, max x.1.2 x.2.2) := by unfold hiT; rw [hok]; rfl
    rw [e1, e2]
    unfold okx at hok
    rw [Bool.and_eq_true] at hok
    exact box2_any W b x.1 x.2 hb hok.1 hok.2 h0 h1 h2 h3

set_option maxRecDepth 100000 in
set_option maxHeartbeats 4000000 in
theorem fromleast_any (v : Value) (L : List (Int × Int)) (w : World) (hL : L.length ≤ 1000) (h1 : 0 < L.length) (hok : okL L = true) (hI : PL w v L) :
    Calls Try.prog 79 #[v] w (FlPost L w) := by
  have hmx : Try.prog.follows .mixedOrders = true := by kernel_rfl
  obtain ⟨i0, hi, hz0, hz1, hz2⟩ := info_parts info_ed
  obtain ⟨p, cap, rfl, hcap, hrow⟩ := id hI
  have HI := Lib.hid hI
  have hpw : ∀ q : Nat, (Value.slice p L.length cap).ownBlock = some q → L ≠ [] → q < w.heap.size := by
    intro q hq hne
    obtain ⟨b, off, rfl, hb, _, _⟩ := hrow 0 (List.length_pos_iff.2 hne)
    simp only [Value.ownBlock, Option.some.injEq] at hq
    omega
  have HPW := Lib.hid hpw
  clear hI hrow hpw
  refine (callsIn_wide (n := 4)).1 ?_
  refine callsIn_of_wp_marks Try.func79 rfl trivial ?_ rfl
  simp only [Try.ntmps79, List.size_toArray, List.length_cons, List.length_nil, Nat.reduceAdd, Nat.reduceSub, Array.replicate_succ, Array.replicate_zero, List.push_toArray, List.append_toArray, List.nil_append, List.cons_append]
  gi_wp2_with (gi_at_make; refine wpListIn_make_own _ rfl _ _ 91 rfl w.heap.size 94 i0 (.agg #[.int .i64 0, .int .i64 0, .int .i64 0, .int .i64 0, .int .i64 0, .int .i64 0, .int .i64 0, .int .i64 0, .int .i64 0]) 9 Try.underlying91 hi hz0 hz1 .i64 .i64 (L.length : Int) L.length rfl rfl rfl (by rw [hz2]; omega) (by unfold maxLen; omega) (Nat.le_refl _) ?_; intro w1 hown1 hgrow1)
  refine ⟨trivial, (callsIn_wide.2 (edges_any _ _ _ _)).mono ?_⟩
  rintro e w2 ⟨rfl, rfl⟩
  gi_wp2_with fail
  have hbw1 : Below w.heap.size w w1 := ⟨hgrow1.os, hgrow1.tape, hgrow1.output, hgrow1.size, fun k hk => hgrow1.block k hk (by simp)⟩
  have hg1 : w.heap.size < w1.heap.size := by
    rcases hown1.2 with ⟨e0, _⟩ | ⟨g, _, _, e0, _, hc, _⟩
    · cases e0
    · injection e0 with e1; injection e1 with e1; injection e1 with e1; subst e1; exact (Array.getElem?_eq_some_iff.1 hc).1
  have hb2 : Below w1.heap.size w1 ((w1.alloc (.cells #[.slice (some ⟨w.heap.size, 0, none⟩) 0 L.length] 91)).alloc (.cells #[.slice p L.length cap] 22)) := b2 _ _ _
  have hbW0 := hbw1.trans (hb2.mono hbw1.size)
  have hPL := HI.out.keep hbW0
  have hI0 : FlI w w1.heap.size (.slice p L.length cap) [] ((w1.alloc (.cells #[.slice (some ⟨w.heap.size, 0, none⟩) 0 L.length] 91)).alloc (.cells #[.slice p L.length cap] 22)) :=
    ⟨⟨⟨_, (Boxed.new w1 91 (.slice (some ⟨w.heap.size, 0, none⟩) 0 L.length)).alloc _, (hown1.alloc _).alloc _, trivial⟩, hbW0⟩, hp_new (by simp)⟩
  refine wpIn_rangeFunc_ownH rfl (by omega) (gf := 104) (lb := #[.pointer (some ⟨w1.heap.size + 1, 0, none⟩)]) rfl trivial (enters_of Try.func104 (by kernel_rfl) rfl)
    (edges_stops 3 (by omega) (w1.heap.size + 1) w.heap.size _ L (by omega) _ (by simp) (by go_simp) hPL HPW.out) EK.trans (EK.putObj (by simp <;> omega)) (Below.refl _ _) (fun _ => rfl)
    (fun pre W => FlI w w1.heap.size (.slice p L.length cap) pre W)
    (fun _ _ _ => False)
    (OwnFrom.and (OwnFrom.and (Own.from (holdsRow_own w.heap.size w1.heap.size 91 94 9 (fun pre : List ((Int × Int) × (Int × Int)) => pre.length) (fun pre => celT pre) (fun _ _ => True)) _) (ownFrom_below (Nat.le_refl _) (by simp <;> omega))) (Own.from (fun (_ : List ((Int × Int) × (Int × Int))) => heap_own (w1.heap.size + 1) _ rfl ()) _))
    (fun _ _ _ _ _ hs _ _ => hs)
    hI0
    (fun x a' W => ∃ Bx By, PtB W Bx x.1 ∧ PtB W By x.2 ∧ a' = { tmps := #[.slice p L.length cap, undef, .slice none 0 0, .pointer (some ⟨w1.heap.size, 0, none⟩), .pointer (some ⟨Bx, 0, none⟩), .pointer (some ⟨By, 0, none⟩), undef, undef, undef, .slice p L.length cap, .int .i64 (L.length : Int), .slice (some ⟨w.heap.size, 0, none⟩) 0 L.length, .slice p L.length cap, .func (.func 104) #[] #[.pointer (some ⟨w1.heap.size + 1, 0, none⟩)], .agg #[.int .i64 x.1.1, .int .i64 x.1.2], .agg #[.int .i64 x.2.1, .int .i64 x.2.2], undef, undef, undef, undef, undef, undef, undef, undef, undef, undef, undef, undef, undef, undef, undef, undef, undef, undef, undef, undef, undef], defers := [] })
    ?hAx ?assign ?body ?done ?stop
  case hAx =>
    rintro x a' s X Y row ⟨Bx, By, h3, h4, h5⟩ hg hrow
    exact ⟨Bx, By, (heap_own Bx _ rfl).from _ () X Y row h3 hg hrow, (heap_own By _ rfl).from _ () X Y row h4 hg hrow, h5⟩
  case assign =>
    rintro l pre x W K ⟨⟨⟨v, hv1, hv2, _⟩, hbl⟩, hbs⟩ hK
    dsimp only [encE]
    gi_wp2
    refine hK _ _ (((KeepsOthers.alloc _ _).trans (KeepsOthers.alloc _ _)).from _) ⟨(b2 W _ _).mono hbl.size, fun y hy => cell_later (b2 W _ _) hy⟩ ⟨⟨⟨v, (hv1.alloc _).alloc _, (hv2.alloc _).alloc _, trivial⟩, hbl.trans ((b2 W _ _).mono hbl.size)⟩, hp_alloc (hp_alloc hbs)⟩ ⟨W.heap.size, W.heap.size + 1, ?_, ?_, rfl⟩
    · exact hp_alloc (heap_alloc_new W _)
    · exact hp_new (by simp)
  case body =>
    rintro l pre x a' W hl ⟨r, hr⟩ ⟨⟨⟨v, hv1, hv2, _⟩, hbl⟩, hbs⟩ ⟨Bx, By, h3, h4, rfl⟩ hlt
    obtain ⟨f0, f1⟩ := h3.cells
    obtain ⟨t0, t1⟩ := h4.cells
    have f0' := cell_later (b1 W (.cells #[.int .i64 x.1.1, .int .i64 x.1.2, .int .i64 x.2.1, .int .i64 x.2.2] 24)) f0
    clear hPL hI0 hbW0 hb2
    gi_wp2_with fail
    refine ⟨trivial, (CallsIn.inRound l (callsIn_wide.2 (box2_tot _ W.heap.size x (by simp) (by go_simp) (by go_simp) (by go_simp) (by go_simp)))).mono ?_⟩
    rintro e W1 ⟨rfl, hb1⟩
    have hb01 : Below W.heap.size W W1 := (b1 W _).trans (hb1.mono (by simp))
    have f0 := cell_later hb01 f0
    have f1 := cell_later hb01 f1
    have t0 := cell_later hb01 t0
    have t1 := cell_later hb01 t1
    obtain ⟨vp, vc, rfl⟩ := own_slice hv2
    have hbx : Boxed W1 w1.heap.size 91 (.slice vp pre.length vc) := (hb01.block _ hv1.lt).trans hv1
    have hc0 := hbx.cell
    have hown2 := own_below hb01 hv2
    have HB01 := Lib.hid hb01
    have HBL := Lib.hid hbl
    have HOWN := Lib.hid hown2
    have HBX := Lib.hid hbx
    have hsz1 := hb01.size
    have hszl := hbl.size
    have x1 : IntKind.i64.wrap (pre.length : Int) = (pre.length : Int) := IntWalk.i64_in _ (by omega)
    have hb2 := b2 W1 (.cells #[.int .i64 (loT x).1, .int .i64 (loT x).2] 24) (.cells #[.int .i64 (hiT x).1, .int .i64 (hiT x).2] 24)
    have d0 := cell_later hb2 hc0
    have d1 := cell_later hb2 f0
    have d2 := cell_later hb2 f1
    have d3 := cell_later hb2 t0
    have d4 := cell_later hb2 t1
    clear hb01 hbl hown2 hv1 hv2 h3 h4 f0' hb1 hbx hb2
    gi_wp2_with (gi_at_builtin; refine wpListIn_append_own _ rfl (.tmp 24) (.tmp 32) 91 rfl w.heap.size 94 i0 (.agg #[.int .i64 0, .int .i64 0, .int .i64 0, .int .i64 0, .int .i64 0, .int .i64 0, .int .i64 0, .int .i64 0, .int .i64 0]) 9 72 Try.underlying91 hi hz0 hz1 hz2 rfl (by decide) (.slice vp pre.length vc) pre.length (celT pre) rfl ?own ⟨_, 0, none⟩ 1 1 (encT pre.length x) rfl rfl ?c1 ?c2 ?c3 ?c4 ?c5 ?_)
    case own => exact ((HOWN.out.alloc _).alloc _).alloc _
    case c1 => exact encT_news _ 94 _ _ _ (by simp)
    case c2 => exact encT_one _ _
    case c3 => unfold maxLen; omega
    case c4 => omega
    case c5 => simp; omega
    rintro v' W3 hown3 hgrow3 -
    obtain ⟨up, uc, rfl⟩ := own_slice hown3
    have hB2 : Boxed W3 w1.heap.size 91 (.slice vp pre.length vc) ∧ Boxed (W3.setCell ⟨w1.heap.size, 0, none⟩ (.slice up (pre.length + 1) uc)) w1.heap.size 91 (.slice up (pre.length + 1) uc) ∧ (W3.setCell ⟨w1.heap.size, 0, none⟩ (.slice up (pre.length + 1) uc)).ownsRow w.heap.size 94 9 (.slice up (pre.length + 1) uc) (pre.length + 1) (celT pre ++ encT pre.length x) ∧ KeepsOthers _ (W3.setCell ⟨w1.heap.size, 0, none⟩ (.slice up (pre.length + 1) uc)) ∧ Below w.heap.size _ (W3.setCell ⟨w1.heap.size, 0, none⟩ (.slice up (pre.length + 1) uc)) := Boxed.appended ((HBX.out.alloc _).alloc _) (by decide) ((HOWN.out.alloc _).alloc _) (by simp; omega) (by omega) hown3 hgrow3
    obtain ⟨q1, q2, q3, q4, q5⟩ := hB2
    have s0 := q1.cell
    have s1 := q1.frozen
    have hbs1 : Boxed W1 (w1.heap.size + 1) 22 (.slice p L.length cap) := (HB01.out.block _ (Array.getElem?_eq_some_iff.1 hbs).1).trans hbs
    have hbs3 : Boxed (W3.setCell ⟨w1.heap.size, 0, none⟩ (.slice up (pre.length + 1) uc)) (w1.heap.size + 1) 22 (.slice p L.length cap) :=
      ((((hbs1.alloc _).alloc _).alloc _).kept hgrow3 (hbs1.not_row (by decide) HOWN.out)).kept (grownBy_setCell' _ _ _) (by simp)
    have HS := Lib.hid (show ∀ y, W.cell? ⟨w1.heap.size + 1, 0, none⟩ = some y → (W3.setCell ⟨w1.heap.size, 0, none⟩ (.slice up (pre.length + 1) uc)).cell? ⟨w1.heap.size + 1, 0, none⟩ = some y from fun y hy => by
      have := Boxed.cell (show Boxed W _ _ _ from hbs); rw [hy] at this; rw [this]; exact hbs3.cell)
    have HB3 := Lib.hid ((HB01.out.mono hszl).trans (((b2 W1 _ _).mono (by omega)).trans q5))
    have HK4 := Lib.hid ((keepsOthers_below HB01.out).trans (((KeepsOthers.alloc _ _).trans (KeepsOthers.alloc _ _)).trans q4))
    have Q2 := Lib.hid q2
    have Q3 := Lib.hid q3
    have HBS3 := Lib.hid hbs3
    clear q1 q2 q3 q4 q5 hbs1 hbs3 d0 d1 d2 d3 d4 hown3 hgrow3
    gi_wp2
    refine ⟨HK4.out.from _, ⟨HB3.out, HS.out⟩, ⟨⟨_, Q2.out, ?_, trivial⟩, HBL.out.trans HB3.out⟩, HBS3.out⟩
    rw [celT_snoc, List.length_append]
    exact Q3.out
  case done =>
    rintro D ys W hD rfl ⟨⟨⟨v, hv1, hv2, _⟩, hbl⟩, hbs⟩ hK
    have hD' : w.heap.size ≤ D := by simp at hD; omega
    have HF : Hid (Below w.heap.size w (W.putObj D (.deferred none))) := Lib.hid (hbl.trans (belowK_b (w := w) (Nat.le_refl _) W D _ _ hD' hK rfl rfl))
    obtain ⟨vp, vc, rfl⟩ := own_slice hv2
    have hc0 := hv1.cell
    have hall : ∀ x ∈ upto (edA L) L.length, okx x = true := by
      intro x hx
      unfold upto at hx
      rw [List.mem_map] at hx
      obtain ⟨i, hi1, rfl⟩ := hx
      rw [List.mem_range] at hi1
      unfold okx edA ptA
      rw [Bool.and_eq_true]
      exact ⟨okL_at hok hi1, okL_at hok (Nat.mod_lt _ h1)⟩
    rw [celT_ok _ hall, edsOf_upto] at hv2
    rw [upto_length] at *
    have hlen : L.length = ((List.range L.length).map fun i => ((i, edA L i) : Ed)).length := by rw [List.length_map, List.length_range]
    have hsort := sort_eds w.heap.size (.slice vp L.length vc) ((List.range L.length).map fun i => (i, edA L i)) W (by rw [← hlen]; exact hv2) (fun e he => by
      rw [List.mem_map] at he
      obtain ⟨i, hi1, rfl⟩ := he
      rw [List.mem_range] at hi1
      unfold okEd edA
      rw [Bool.and_eq_true]
      exact ⟨okL_at hok hi1, okL_at hok (Nat.mod_lt _ h1)⟩) (by omega) (fun h => by have h2 := congrArg List.length h; rw [← hlen] at h2; simp only [List.length_nil] at h2; omega)
    rw [← hlen] at hsort
    have hLe : Hid (((List.range L.length).map fun i => ((i, edA L i) : Ed)).length = L.length) := Lib.hid hlen.symm
    clear hlen
    have HSORT := Lib.hid hsort
    have HBL := Lib.hid hbl
    have HV1 := Lib.hid hv1
    have hnr := hv1.not_row (by decide) hv2
    have hnD : some D ≠ (Value.slice vp L.length vc).ownBlock := by
      intro e
      rcases hv2.2 with ⟨e0, _⟩ | ⟨g, _, _, e0, _, hg, _⟩
      · rw [e0] at e; cases e
      · rw [e0] at e
        simp only [Value.ownBlock, Option.some.injEq] at e
        subst e
        rw [hg] at hK; cases hK
    clear hsort hPL hI0 hv2 hbl hall hb2 hbW0 hv1
    gi_wp2_with fail
    refine ⟨trivial, (callsIn_wide.2 HSORT.out).mono ?_⟩
    rintro e W2 ⟨rfl, M, m1, m2, m3, m4, m5⟩
    have c2 : W2.cell? ⟨w1.heap.size, 0, none⟩ = some (.slice vp L.length vc) := by
      have hlt := Boxed.lt (show Boxed W w1.heap.size _ _ from HV1.out)
      exact Boxed.cell (show Boxed W2 w1.heap.size _ _ from (m5 _ hlt hnr).trans HV1.out)
    have hK2 : W2.heap[D]? = some (Obj.deferred (some [])) := (m5 _ (Array.getElem?_eq_some_iff.1 hK).1 hnD).trans hK
    have hbl2 := m4 _ _ HBL.out (Nat.le_refl _) HBL.out.size
    have HF2 : Hid (Below w.heap.size w (W2.putObj D (.deferred none))) := Lib.hid (hbl2.trans (belowK_b (w := w) (Nat.le_refl _) W2 D _ _ hD' hK2 rfl rfl))
    have M1 := Lib.hid m1
    have M2 := Lib.hid m2
    have M3 := Lib.hid (own_putObj (o' := .deferred none) hK2 rfl m3)
    clear m1 m2 m3 m4 m5 hbl2
    gi_wp2
    refine ⟨by simp, .inl ⟨_, _, rfl, run_takeDeferred hK2, ?_⟩⟩
    exact ⟨_, results_tmp rfl _ _ _, .slice vp L.length vc, M, rfl, M1.out, M2.out, M3.out, HF2.out⟩
  case stop =>
    rintro D c pre W _ _ h _
    exact h.elim
end Go.Proofs.Ytkibjbbhiclkmaa
