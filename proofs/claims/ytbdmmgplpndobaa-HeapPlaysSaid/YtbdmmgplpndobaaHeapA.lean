/- Walks of the heap's list: add. -/
import Derived.Test.YtbdmmgplpndobaaHeapT
import Derived.Maps.AppendAt
import Derived.Deep.RegionLaw
import Derived.Test.YtbdmmgplpndobaaPutI
namespace Go.Proofs.Ytbdmmgplpndobaa
open Go.RowKit Go.Sort Go.Deep

/-- At a step of a region that draws its order; and where the row then lies. -/
theorem step_append_at {P : Program} {w : World} {ops : Array Oper} {o : Oper} {a : Act} {K : Act → World → Prop} {Q : Exit → Act → World → Prop} {E : Prop} (hgd : o.guard = none) (s x : Operand) (t : TypeId)
    (ho : o.op = .call { callee := .builtin .append, args := #[s, x], argTypes := #[t, t] })
    (base : Nat) (e : TypeId) (i : TypeInfo) (z : Value) (size bytes : Nat) (ht : P.underlying t = some (.slice e)) (hi : P.info? e = some i) (hz : i.zero = some z)
    (hsize : i.size = size) (hby : i.bytes = bytes) (hzs : z.cells.size = size) (hsz : 0 < size) (v : Value) (n : Nat) (xs : List Value) (hs : a.eval s = v) (hown : w.ownsRow base e size v n xs) (ad : Addr) (m c : Nat) (ys : List Value) (hx : a.eval x = .slice (some ad) m c) (hl : ys.length = m * size) (hnews : ∀ j u, ys[j]? = some u → w.cell? (ad.add j) = some u) (h1 : ∀ u ∈ ys, u.oneCell' = true)
    (h63 : n + m ≤ maxLen) (hbytes : (n + m) * bytes ≤ 140737488355328) (hbase : base ≤ w.heap.size)
    (h : ∀ v' w', w'.ownsRow base e size v' (n + m) (xs ++ ys) → w.grownBy w' v.ownBlock → (v'.ownBlock = v.ownBlock ∨ v'.ownBlock = some w.heap.size) → K (a.put o.dst v') w') :
    if Region.wanted o (yielded ops a.tmps) = true then Oper.wp P o a w K Q else E := by
  have hw : Region.wanted o (yielded ops a.tmps) = true := by simp [Region.wanted, hgd]
  rw [if_pos hw]
  obtain ⟨v', w', hr, h2, h3, _, h4⟩ := run_append_own_at (P := P) w base t o.type e i z size bytes ht hi hz hsize hby hzs hsz v n xs hown ad m c ys hl hnews h1 h63 hbytes hbase
  unfold Oper.wp execOp
  simp only [ho, resolve, invoke, builtin, Sem.run_bind, Sem.run_pure, Result.andThen_ok, List.map_toArray, List.map_cons, List.map_nil, hs, hx, hr]
  exact h v' w' h2 h3 h4
theorem infoPl : (Try.prog.info? 89).map (fun i => (i.zero, i.size, i.bytes)) = some (some (.agg #[.int .i64 0, .int .i64 0, .int .i64 0, .int .i64 0]), 4, 32) := by kernel_rfl
theorem pile_new (W : World) (p : Pile) (T : TypeId) : ∀ j u, (encPl p)[j]? = some u → (W.alloc (encPo p T)).cell? ((⟨W.heap.size, 0, none⟩ : Addr).add j) = some u := by
  intro j u hj
  unfold encPl at hj
  unfold encPo
  match j, hj with
  | 0, hj => simp at hj; subst hj; rw [add_at]; go_simp
  | 1, hj => simp at hj; subst hj; rw [add_at]; go_simp
  | 2, hj => simp at hj; subst hj; rw [add_at]; go_simp
  | 3, hj => simp at hj; subst hj; rw [add_at]; go_simp
theorem map_nil_eq (x : Option Nat) (w : World) : Sem.run Try.prog (binOp .eql 24 (.map x) (.map none)) w = .ok (.bool x.isNone) w := by
  have u := Try.underlying24
  have h : (Op.equalIn (9999 + 1) 24 (.map x) (.map none)).run Try.prog w = .ok x.isNone w := by
    unfold Op.equalIn
    cases x <;> simp [run_underlying u]
  simp only [binOp]
  simp [Op.equal, Op.maxDepth, h]
theorem own_form {W : World} {base n size : Nat} {T : TypeId} {v : Value} {xs : List Value} (h : W.ownsRow base T size v (n + 1) xs) : ∃ g c, v = .slice (some ⟨g, 0, none⟩) (n + 1) c := by
  rcases h.2 with ⟨_, hz⟩ | ⟨g, c, _, e, _⟩
  · omega
  · exact ⟨g, c, e⟩
/-- The heap with a map, its row nil or not. -/
structure HpN (W : World) (B hb mb : Nat) (pv : Value) (P : List Pile) (cnt : Int) (ps : List (E3 × Int)) : Prop where
  c0 : W.cell? ⟨hb, 0, none⟩ = some pv
  c1 : W.cell? ⟨hb, 1, none⟩ = some (.map (some mb))
  c2 : W.cell? ⟨hb, 2, none⟩ = some (.int .i64 cnt)
  f0 : W.frozen? ⟨hb, 0, none⟩ = false
  f1 : W.frozen? ⟨hb, 1, none⟩ = false
  f2 : W.frozen? ⟨hb, 2, none⟩ = false
  own : W.ownsRow B 89 4 pv P.length (pcl P)
  map : MapI W mb ps
  nh : pv.ownBlock ≠ some hb
  nm : pv.ownBlock ≠ some mb
  mh : mb ≠ hb
  hB : B ≤ hb
  mB : B ≤ mb
theorem HpG.n {W : World} {B hb g mb cap : Nat} {P : List Pile} {cnt : Int} {ps : List (E3 × Int)} (h : HpG W B hb g mb cap P cnt ps) : HpN W B hb mb (.slice (some ⟨g, 0, none⟩) P.length cap) P cnt ps :=
  ⟨h.c0, h.c1, h.c2, h.f0, h.f1, h.f2, h.own, h.map, by simp only [Value.ownBlock]; exact fun e => h.gh (by injection e), by simp only [Value.ownBlock]; exact fun e => h.mg (by injection e with e; exact e.symm), h.mh, h.hB, h.mB⟩
/-- Behind the append and the store. -/
theorem HpN.more {W W1 : World} {B hb mb : Nat} {pv v2 : Value} {P : List Pile} {cnt : Int} {ps : List (E3 × Int)} {p : Pile} (h : HpN W B hb mb pv P cnt ps) (hg : W.grownBy W1 pv.ownBlock) (ho : W1.ownsRow B 89 4 v2 (P.length + 1) (pcl P ++ encPl p))
    (hb2 : v2.ownBlock = pv.ownBlock ∨ ∃ k, v2.ownBlock = some k ∧ W.heap.size ≤ k) : ∃ g cap, v2 = .slice (some ⟨g, 0, none⟩) (P ++ [p]).length cap ∧ (pv.ownBlock = some g ∨ W.heap.size ≤ g) ∧ HpG (W1.setCell ⟨hb, 0, none⟩ v2) B hb g mb cap (P ++ [p]) cnt ps := by
  have hhl := World.block_lt_of_cell? W _ h.c0
  have hml := h.map.lt
  have hl : (P ++ [p]).length = P.length + 1 := by rw [List.length_append]; rfl
  rcases id ho.2 with ⟨_, hz⟩ | ⟨g, cap, cur, rfl, hgB, hh, hc, hm, _⟩
  · omega
  · simp only [Value.ownBlock] at hb2
    have hg2 : pv.ownBlock = some g ∨ W.heap.size ≤ g := by
      rcases hb2 with e | ⟨k, e, hk⟩
      · exact .inl e.symm
      · injection e with e; exact .inr (by omega)
    have gh : g ≠ hb := by rcases hg2 with e | e; exact fun c => h.nh (by rw [e, c]); simp at hhl; omega
    have gm : mb ≠ g := by rcases hg2 with e | e; exact fun c => h.nm (by rw [e, c]); omega
    refine ⟨g, cap, by rw [hl], hg2, ?_⟩
    have hne : some hb ≠ pv.ownBlock := fun e => h.nh e.symm
    have hfr : ∀ o, W1.frozen? ⟨hb, o, none⟩ = W.frozen? ⟨hb, o, none⟩ := fun o => World.frozen?_of_block (hg.block hb hhl hne)
    refine ⟨by rw [hl, World.cell?_setCell_same _ _ _ (hg.cell h.c0 hne)], ?_, ?_, by simpa [hfr] using h.f0, by simpa [hfr] using h.f1, by simpa [hfr] using h.f2, ?_, ?_, gh, h.mh, gm, h.hB, h.mB⟩
    · rw [World.cell?_setCell_other _ _ _ _ (by intro e; injection e with _ e2; cases e2)]; exact hg.cell h.c1 hne
    · rw [World.cell?_setCell_other _ _ _ _ (by intro e; injection e with _ e2; cases e2)]; exact hg.cell h.c2 hne
    · rw [hl, pcl_app, show pcl [p] = encPl p from by simp [pcl]]
      exact own_of ho (blk_setCell_other _ _ _ _ gh)
    · exact h.map.of ((blk_setCell_other _ _ _ _ h.mh).trans (hg.block mb hml (fun e => h.nm e.symm)))
theorem Gd.more {P : List Pile} {ps : List (E3 × Int)} (h : Gd P ps) {p : Pile} (hn : lkE ps p.1 = none) : Gd (P ++ [p]) (updM ps p.1 (P.length : Int)) := by
  have hpa : ∀ j, j < P.length → pA (P ++ [p]) j = pA P j := fun j hj => by
    unfold pA; rw [List.getD_eq_getElem?_getD, List.getD_eq_getElem?_getD, List.getElem?_append_left hj]
  have hpl : pA (P ++ [p]) P.length = p := by
    unfold pA; rw [List.getD_eq_getElem?_getD, List.getElem?_append_right (Nat.le_refl _)]; simp
  have hl : (P ++ [p]).length = P.length + 1 := by rw [List.length_append]; rfl
  intro e v
  rw [lkE_upd, hl]
  by_cases he : e = p.1
  · subst he
    rw [if_pos rfl]
    constructor
    · intro hv; injection hv with hv; exact ⟨P.length, by omega, by rw [hpl], hv.symm⟩
    · rintro ⟨j, hj, hje, rfl⟩
      by_cases c : j < P.length
      · rw [hpa j c] at hje
        have := h.at c
        rw [hje, hn] at this; cases this
      · obtain rfl : j = P.length := by omega
        rfl
  · rw [if_neg he, h e v]
    constructor
    · rintro ⟨j, hj, hje, rfl⟩; exact ⟨j, by omega, by rw [hpa j hj]; exact hje, rfl⟩
    · rintro ⟨j, hj, hje, rfl⟩
      by_cases c : j < P.length
      · exact ⟨j, c, by rw [hpa j c] at hje; exact hje, rfl⟩
      · obtain rfl : j = P.length := by omega
        rw [hpl] at hje
        exact absurd hje.symm he
/-- The zero heap. -/
structure HpZ (W : World) (B hb : Nat) (cnt : Int) : Prop where
  c0 : W.cell? ⟨hb, 0, none⟩ = some (.slice none 0 0)
  c1 : W.cell? ⟨hb, 1, none⟩ = some (.map none)
  c2 : W.cell? ⟨hb, 2, none⟩ = some (.int .i64 cnt)
  f0 : W.frozen? ⟨hb, 0, none⟩ = false
  f1 : W.frozen? ⟨hb, 1, none⟩ = false
  f2 : W.frozen? ⟨hb, 2, none⟩ = false
  hB : B ≤ hb
/-- A new pile with an entry, risen. -/
def addF (P : List Pile) (e : E3) : List Pile := riseF (P.length + 1) (P ++ [(e, 1)]) P.length
def AdPost (W : World) (B hb g mb : Nat) (P : List Pile) (cnt : Int) (e : E3) (en : Ending) (w' : World) : Prop :=
  en = .returned (.tuple #[]) ∧ Frm hb g mb W w' ∧ ∃ g' mb' cap ps P', (g' = g ∨ W.heap.size ≤ g') ∧ (mb' = mb ∨ W.heap.size ≤ mb') ∧ HpG w' B hb g' mb' cap P' (cnt + 1) ps ∧ Gd P' ps ∧
    (((∀ i, i < P.length → (pA P i).1 ≠ e) ∧ P' = addF P e) ∨ (∃ i, i < P.length ∧ (pA P i).1 = e ∧ P' = P.set i ((pA P i).1, (pA P i).2 + 1)))
theorem Frm.grownR {hb g mb : Nat} {row : Option Nat} {W W1 : World} (h : W.grownBy W1 row) (hq : ∀ k, row = some k → k = hb ∨ k = g ∨ k = mb) : Frm hb g mb W W1 :=
  ⟨h.os, h.tape, h.output, h.size, fun j hj _ _ _ => h.block j hj (fun e => by have := hq j e.symm; omega)⟩
theorem Frm.via {hb g mb g' mb' : Nat} {W W1 W2 : World} (h : Frm hb g mb W W1) (k : Frm hb g' mb' W1 W2) (hg : g' = g ∨ W.heap.size ≤ g') (hm : mb' = mb ∨ W.heap.size ≤ mb') : Frm hb g mb W W2 :=
  ⟨k.os.trans h.os, k.tape.trans h.tape, k.output.trans h.output, Nat.le_trans h.size k.size, fun j hj h1 h2 h3 => by
    have hs := h.size
    exact (k.block j (by omega) h1 (by omega) (by omega)).trans (h.block j hj h1 h2 h3)⟩
theorem keepA {w1 w2 W : World} {row : Option Nat} {hb bx : Nat} {v v0 v1 v2 : Value} (h : w1.cell? ⟨hb, 0, none⟩ = some v ∧ w1.cell? ⟨bx, 0, none⟩ = some v0 ∧ w1.cell? ⟨bx, 1, none⟩ = some v1 ∧ w1.cell? ⟨bx, 2, none⟩ = some v2 ∧ w1.frozen? ⟨hb, 0, none⟩ = false ∧ W.grownBy w1 row) (hg : w1.grownBy w2 row) (h1 : some hb ≠ row) (h2 : some bx ≠ row) :
    w2.cell? ⟨hb, 0, none⟩ = some v ∧ w2.cell? ⟨bx, 0, none⟩ = some v0 ∧ w2.cell? ⟨bx, 1, none⟩ = some v1 ∧ w2.cell? ⟨bx, 2, none⟩ = some v2 ∧ w2.frozen? ⟨hb, 0, none⟩ = false ∧ W.grownBy w2 row :=
  ⟨hg.cell h.1 h1, hg.cell h.2.1 h2, hg.cell h.2.2.1 h2, hg.cell h.2.2.2.1 h2, (World.frozen?_of_block (a := ⟨hb, 0, none⟩) (hg.block hb (World.block_lt_of_cell? w1 _ h.1) h1)).trans h.2.2.2.2.1, h.2.2.2.2.2.trans hg⟩
set_option maxRecDepth 100000 in
set_option maxHeartbeats 4000000 in
theorem ladd_g {W : World} {B hb g mb cap : Nat} {P : List Pile} {cnt : Int} {ps : List (E3 × Int)} (h : HpG W B hb g mb cap P cnt ps) (hg : Gd P ps) (hn : P.length < 1000000) (hc : 0 ≤ cnt ∧ cnt ≤ 1000000)
    (ht : ∀ i, i < P.length → 0 ≤ (pA P i).2 ∧ (pA P i).2 ≤ 1000000) (e : E3) :
    Calls Try.prog 39 #[.pointer (some ⟨hb, 0, none⟩), encE3 e] W (AdPost W B hb g mb P cnt e) := by
  have hmx : Try.prog.follows .mixedOrders = true := by kernel_rfl
  obtain ⟨iP, hiP, hp0, hp1, hp2⟩ := info_parts infoPl
  obtain ⟨e1, e2, e3⟩ := e
  have H0 := Lib.hid (h.keep (below_alloc W (.cells #[.int .i64 e1, .int .i64 e2, .int .i64 e3] 31)))
  have HF0 : Hid (Frm hb g mb W (W.alloc (.cells #[.int .i64 e1, .int .i64 e2, .int .i64 e3] 31))) := Lib.hid (Frm.below (below_alloc _ _))
  have HG := Lib.hid hg
  have HT := Lib.hid ht
  have hWh := h.hlt
  have hWg := h.glt.2
  have hWm := h.map.lt
  clear h hg ht
  unfold encE3
  go_enter Try.func39, Try.ntmps39
  go_upto_region 1 with fail
  generalize hW1 : W.alloc (.cells #[.int .i64 e1, .int .i64 e2, .int .i64 e3] 31) = W1 at *
  have hbx : W1.cell? ⟨W.heap.size, 0, none⟩ = some (.int .i64 e1) ∧ W1.cell? ⟨W.heap.size, 1, none⟩ = some (.int .i64 e2) ∧ W1.cell? ⟨W.heap.size, 2, none⟩ = some (.int .i64 e3) := by
    subst hW1; refine ⟨?_, ?_, ?_⟩ <;> go_simp
  clear hW1
  generalize hbxe : W.heap.size = bx at *
  have hbx3 : W.heap.size ≤ bx := by omega
  have HBx := Lib.hid hbx
  have c2 := H0.out.c2
  have f2 := H0.out.f2
  have H1 := Lib.hid (H0.out.count (cnt + 1))
  have HF1 := Lib.hid (HF0.out.trans (frmH hb g mb W1 2 (.int .i64 (cnt + 1))))
  have HBX : Hid ((W1.setCell ⟨hb, 2, none⟩ (.int .i64 (cnt + 1))).cell? ⟨bx, 0, none⟩ = some (.int .i64 e1) ∧ (W1.setCell ⟨hb, 2, none⟩ (.int .i64 (cnt + 1))).cell? ⟨bx, 1, none⟩ = some (.int .i64 e2) ∧ (W1.setCell ⟨hb, 2, none⟩ (.int .i64 (cnt + 1))).cell? ⟨bx, 2, none⟩ = some (.int .i64 e3)) := Lib.hid (by
    have hne : ∀ o, (⟨hb, 2, none⟩ : Addr) ≠ ⟨bx, o, none⟩ := fun o e => by injection e with e1; omega
    rw [World.cell?_setCell_other _ _ _ _ (hne _), World.cell?_setCell_other _ _ _ _ (hne _), World.cell?_setCell_other _ _ _ _ (hne _)]
    exact hbx)
  clear hbx HBx H0 HF0
  go_upto_region 2 with fail
  generalize W1.setCell ⟨hb, 2, none⟩ (.int .i64 (cnt + 1)) = V at *
  clear c2 f2
  obtain ⟨b0, b1, b2⟩ := HBX.out
  have c1 := H1.out.c1
  have hlk := run_look (W := V.drew) (H1.out.keep (Below.refl _ _).drew).map (e1, e2, e3)
  simp only [encE3] at hlk
  cases hq : lkE ps (e1, e2, e3) with
  | some v =>
    obtain ⟨i, hi, hie, rfl⟩ := (HG.out _ _).1 hq
    rw [hq] at hlk
    simp only [Option.getD_some, Option.isSome_some] at hlk
    have HIE := Lib.hid hie
    obtain ⟨t0, t1⟩ := HT.out i hi
    clear hq hie
    have H2 := Lib.hid (H1.out.keep (Below.refl _ _).drew)
    have HF2 : Hid (Frm hb g mb W V.drew) := Lib.hid (HF1.out.trans (Frm.below (Below.refl _ _).drew))
    go_wp2_with fail
    go_region
    generalize hW2 : V.drew = W2 at *
    clear hlk b0 b1 b2 c1 hW2 H1 HF1 HBX
    have c0 := H2.out.c0
    obtain ⟨_, _, _, a3⟩ := H2.out.pile hi
    have f3 := H2.out.soft (i * 4 + 3)
    rw [← pA_at hi] at a3
    have x1 : (i : Int) < (P.length : Int) := by omega
    have HH := Lib.hid (H2.out.tick hi ((pA P i).2 + 1))
    have HF3 := Lib.hid (HF2.out.trans (frmG hb g mb W2 (i * 4 + 3) (.int .i64 ((pA P i).2 + 1))))
    have HG2 := Lib.hid (HG.out.tick hi ((pA P i).2 + 1))
    have HTk : Hid (∀ t, (pA P i).2 = t → (P.set i ((pA P i).1, t + 1) = P.set i ((pA P i).1, (pA P i).2 + 1))) := Lib.hid (fun t h => by rw [h])
    generalize ht : (pA P i).2 = t at *
    clear H2 HF2 HT
    go_wp2_with fail
    exact bodyPost_ret (v := .tuple #[]) (by simp [results, go_sem]) rfl ⟨rfl, HF3.out, g, mb, cap, ps, _, .inl rfl, .inl rfl, HH.out, HG2.out, .inr ⟨i, hi, HIE.out, by rw [ht]⟩⟩
  | none =>
    rw [hq] at hlk
    simp only [Option.getD_none, Option.isSome_none] at hlk
    have HQ := Lib.hid hq
    have HNo : Hid (∀ i, i < P.length → (pA P i).1 ≠ (e1, e2, e3)) := Lib.hid (fun i hi c => by
      have := HG.out.at hi
      rw [c, hq] at this; cases this)
    have H2 := Lib.hid (H1.out.keep (Below.refl _ _).drew)
    have HF2 : Hid (Frm hb g mb W V.drew) := Lib.hid (HF1.out.trans (Frm.below (Below.refl _ _).drew))
    have HBX2 : Hid (V.drew.cell? ⟨bx, 0, none⟩ = some (.int .i64 e1) ∧ V.drew.cell? ⟨bx, 1, none⟩ = some (.int .i64 e2) ∧ V.drew.cell? ⟨bx, 2, none⟩ = some (.int .i64 e3)) := Lib.hid HBX.out
    clear hq
    go_wp2_with fail
    go_region
    clear hlk b0 b1 b2 c1 H1 HF1 HBX
    have HBX := HBX2
    clear HBX2
    generalize V.drew = V2 at *
    generalize hV9 : V2 = V9 at *
    clear hV9
    have HN := Lib.hid H2.out.n
    have c1 := H2.out.c1
    have d0 := HN.out.c0
    have df := HN.out.f0
    have HOw := Lib.hid HN.out.own
    have hBV : B ≤ V9.heap.size := by
      have h1 := World.block_lt_of_cell? V9 _ d0
      have h2 := HN.out.hB
      simp at h1; omega
    have hn1 : some hb ≠ (some g) := fun e => HN.out.nh e.symm
    have hn2 : some bx ≠ (some g) := fun e => by injection e with e; omega
    have hmn := fun W => map_nil_eq (some mb) W
    simp only [Option.isNone_some] at hmn
    go_upto_region 7 with fail
    go_cut [6] (fun s wx => s = .int .i64 (P.length : Int) ∧ wx = V9)
    case first =>
      go_wp2_with fail
      go_meet
      exact ⟨by first | rfl | simp, rfl⟩
    case rest =>
      obtain ⟨rfl, hw⟩ := hcut
      have hw' := hw.symm; clear hw; subst hw'
      go_upto_region 8 with fail
      go_cut [] (fun wx => ∃ g' cap', (g' = g ∨ W.heap.size ≤ g') ∧ Hid (HpG wx B hb g' mb cap' (P ++ [((e1, e2, e3), 1)]) (cnt + 1) ps) ∧ Hid (Frm hb g mb W wx) ∧ Hid (wx.cell? ⟨bx, 0, none⟩ = some (.int .i64 e1) ∧ wx.cell? ⟨bx, 1, none⟩ = some (.int .i64 e2) ∧ wx.cell? ⟨bx, 2, none⟩ = some (.int .i64 e3)))
      case first =>
        obtain ⟨b0, b1, b2⟩ := HBX.out
        have al0 := fun o => cell_later (below_alloc V9 o) d0
        have al1 := fun o => cell_later (below_alloc V9 o) b0
        have al2 := fun o => cell_later (below_alloc V9 o) b1
        have al3 := fun o => cell_later (below_alloc V9 o) b2
        go_region_law ((refine step_append_at (by rfl) (.tmp 53) (.tmp 56) 23 (by rfl) B 89 iP (.agg #[.int .i64 0, .int .i64 0, .int .i64 0, .int .i64 0]) 4 32 Try.underlying23 hiP hp0 hp1 hp2 (by rfl) (by decide) (.slice (some ⟨g, 0, none⟩) P.length cap) P.length (pcl P) (by rfl) (World.ownsRow.alloc (w := V9.drew) HOw.out _) _ 1 1 (encPl ((e1, e2, e3), 1)) (by rfl) (by rfl) (pile_new _ ((e1, e2, e3), 1) _) (encPl_one _) (by unfold maxLen; omega) (by omega) (by first | exact hBV | (simp; done) | (simp; omega)) ?_); intro v2 wB hoB hgB hvB; obtain ⟨g2, cp2, rfl⟩ := own_form hoB; have hS6 := keepA (keepA (w1 := V9.drew) ⟨d0, b0, b1, b2, df, grown_drew V9 _⟩ (World.grownBy_alloc _ _ _) hn1 hn2) hgB hn1 hn2; obtain ⟨k0, k1, k2, k3, k4, k5⟩ := hS6; have HHo := Lib.hid hoB; have HHb : Hid ((Value.slice (some ⟨g2, 0, none⟩) (P.length + 1) cp2).ownBlock = (some g) ∨ ∃ k, (Value.slice (some ⟨g2, 0, none⟩) (P.length + 1) cp2).ownBlock = some k ∧ V9.heap.size ≤ k) := Lib.hid (by rcases hvB with h | h; exact .inl h; exact .inr ⟨_, h, by simp⟩); clear hoB hvB)
        all_goals
          go_wp2_with fail
          go_meet
          obtain ⟨g', cap', hv, hg', HG9⟩ := HN.out.more (p := ((e1, e2, e3), 1)) k5 HHo.out HHb.out
          have hs := HF2.out.size
          have hg2 : g' = g ∨ W.heap.size ≤ g' := by rcases hg' with e | e; exact .inl (by injection e with e; exact e.symm); exact .inr (by omega)
          have hnb : ∀ o, (⟨hb, 0, none⟩ : Addr) ≠ ⟨bx, o, none⟩ := fun o e => by injection e with e1; omega
          exact ⟨g', cap', hg2, Lib.hid HG9, Lib.hid ((HF2.out.trans (Frm.grownR k5 (fun k e => by injection e with e; omega))).trans (frmH hb g mb wB 0 _)), Lib.hid ⟨by rw [World.cell?_setCell_other _ _ _ _ (hnb _)]; exact k1, by rw [World.cell?_setCell_other _ _ _ _ (hnb _)]; exact k2, by rw [World.cell?_setCell_other _ _ _ _ (hnb _)]; exact k3⟩⟩
      case rest =>
        obtain ⟨g', cap', hg', H4, HF4, HB4⟩ := hcut
        obtain ⟨V4, hV4⟩ : ∃ V, V = wc := ⟨_, rfl⟩
        subst hV4
        clear HBX HN H2 HF2 d0 df HOw hn1 hn2 c1
        have HGm := Lib.hid (HG.out.more (p := ((e1, e2, e3), 1)) HQ.out)
        have c1 := H4.out.c1
        obtain ⟨b0, b1, b2⟩ := HB4.out
        obtain ⟨W3, hrun, hm, hgr⟩ := run_upd (W := V4.drew) (H4.out.keep (Below.refl _ _).drew).map (e1, e2, e3) (P.length : Int)
        have HM := Lib.hid ((H4.out.keep (Below.refl _ _).drew).mapped hm hgr)
        have HF5 : Hid (Frm hb g' mb V4 W3) := Lib.hid ((Frm.below (Below.refl _ _).drew).trans (Frm.grown hgr (.inr (.inr rfl))))
        simp only [encE3] at hrun
        clear hm hgr H4
        have hln : (P ++ [((e1, e2, e3), (1 : Int))]).length = P.length + 1 := by rw [List.length_append]; rfl
        have HRi := Lib.hid (lrise_any HM.out HGm.out (i := P.length) (by omega) (by omega))
        clear hln
        go_wp2_with fail
        go_region
        go_wp2_with fail
        refine HRi.out.mono ?_
        rintro en w6 ⟨rfl, ps6, hG6, hg6, hF6⟩
        go_wp2_with fail
        exact bodyPost_ret (v := .tuple #[]) (by simp [results, go_sem]) rfl ⟨rfl, HF4.out.via (HF5.out.trans hF6) hg' (.inl rfl), g', mb, cap', ps6, _, hg', .inl rfl, hG6, hg6, .inl ⟨HNo.out, rfl⟩⟩
end Go.Proofs.Ytbdmmgplpndobaa
