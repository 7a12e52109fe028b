/- Rows of fields, and of the document's fields. -/
import Derived.Test.YtcbgknlklpandaaProN
namespace Go.Proofs.Ytcbgknlklpandaa
open Go.RowKit Go.Sort

theorem flat_at8 {α β : Type} {enc : α → List β} {k : Nat} (hk : ∀ x, (enc x).length = k) : ∀ (l : List α) (i j : Nat) (hi : i < l.length), j < k → (l.flatMap enc)[i * k + j]? = (enc l[i])[j]?
  | [], i, j, hi, _ => absurd hi (by simp)
  | x :: l, 0, j, _, hj => by
    rw [List.flatMap_cons, Nat.zero_mul, Nat.zero_add, List.getElem?_append_left (by rw [hk]; exact hj)]; rfl
  | x :: l, i + 1, j, hi, hj => by
    rw [List.flatMap_cons, List.getElem?_append_right (by rw [hk, Nat.add_mul]; omega), hk, show (i + 1) * k + j - k = i * k + j from by rw [Nat.add_mul]; omega]
    exact flat_at8 hk l i j (by simpa using hi) hj
theorem flat_len8 {α β : Type} {enc : α → List β} {k : Nat} (hk : ∀ x, (enc x).length = k) (l : List α) : (l.flatMap enc).length = l.length * k := by
  induction l with
  | nil => simp
  | cons x l ih => rw [List.flatMap_cons, List.length_append, hk, ih, List.length_cons, Nat.add_mul]; omega
theorem infoF : (Try.prog.info? 77).map (fun i => (i.zero, i.size, i.bytes)) = some (some (.agg #[.int .i64 0, .int .i64 0, .int .u64 0, .slice none 0 0]), 4, 48) := by kernel_rfl
theorem infoD : (Try.prog.info? 81).map (fun i => (i.zero, i.size, i.bytes)) = some (some (.agg #[.int .i64 0, .int .i64 0, .int .u64 0, .string ⟨#[]⟩]), 4, 40) := by kernel_rfl
def celF (x : Fd × Value) : List Value := [.int .i64 x.1.num, .int .i64 x.1.kind, .int .u64 (x.1.n : Int), x.2]
def fcells (X : List (Fd × Value)) : List Value := X.flatMap celF
def celD (f : Fd) : List Value := [.int .i64 f.num, .int .i64 f.kind, .int .u64 (f.n : Int), .string (bst f.b)]
def dcells (L : List Fd) : List Value := L.flatMap celD
theorem fcells_snoc (X : List (Fd × Value)) (x : Fd × Value) : fcells (X ++ [x]) = fcells X ++ celF x := by simp [fcells]
theorem dcells_snoc (L : List Fd) (x : Fd) : dcells (L ++ [x]) = dcells L ++ celD x := by simp [dcells]
/-- Each has its bytes. -/
def XOK (W : World) (X : List (Fd × Value)) : Prop := ∀ x ∈ X, ∃ q c, x.2 = .slice q x.1.b.length c ∧ KL .u8 W x.2 x.1.b
theorem XOK.keep {W W1 : World} {X : List (Fd × Value)} (h : XOK W X) (hb : Below W.heap.size W W1) : XOK W1 X := fun x hx => by
  obtain ⟨q, c, e, hk⟩ := h x hx
  exact ⟨q, c, e, hk.keep hb⟩
theorem fcells_one {X : List (Fd × Value)} {W : World} (h : XOK W X) : ∀ u ∈ fcells X, u.oneCell' = true := by
  intro u hu
  obtain ⟨x, hx, hu⟩ := List.mem_flatMap.1 hu
  obtain ⟨q, c, e, _⟩ := h x hx
  unfold celF at hu
  rw [e] at hu
  simp at hu
  rcases hu with rfl | rfl | rfl | rfl <;> rfl
theorem dcells_one (L : List Fd) : ∀ u ∈ dcells L, u.oneCell' = true := by
  intro u hu
  obtain ⟨x, hx, hu⟩ := List.mem_flatMap.1 hu
  unfold celD at hu
  simp at hu
  rcases hu with rfl | rfl | rfl | rfl <;> rfl
theorem own_fl {W : World} {B : Nat} {T : TypeId} {v : Value} {X : List (Fd × Value)} (h : W.ownsRow B T 4 v X.length (fcells X)) (hX : XOK W X) : FL W v (X.map (·.1)) := by
  have h0 := h
  rcases h.2 with ⟨rfl, hz⟩ | ⟨g, cap, cur, rfl, _, _, hc, _⟩
  · exact ⟨none, 0, by rw [List.length_map, hz], by rw [List.length_map, hz]; exact Nat.zero_le _, fun i hi => by rw [List.length_map] at hi; omega⟩
  · refine ⟨_, cap, by rw [List.length_map], by rw [List.length_map]; exact hc, fun i hi => ?_⟩
    rw [List.length_map] at hi
    obtain ⟨q, c, e, hk⟩ := hX X[i] (List.getElem_mem hi)
    have hcs := h0.cells (g := g) rfl
    have a : ∀ j u, j < 4 → (celF X[i])[j]? = some u → W.cell? ⟨g, 0 + i * 4 + j, none⟩ = some u := fun j u hj hu => by
      have a0 := flat_at8 (enc := celF) (k := 4) (fun _ => rfl) X i j hi hj
      rw [hu] at a0
      have := hcs _ _ (show (fcells X)[i * 4 + j]? = some u from a0)
      rw [add_at, ← Nat.add_assoc] at this
      exact this
    rw [List.getElem_map]
    exact ⟨g, 0, q, c, rfl, a 0 _ (by omega) rfl, a 1 _ (by omega) rfl, a 2 _ (by omega) rfl, by rw [a 3 _ (by omega) rfl, e], by rw [← e]; exact hk⟩
/-- A slice of the document's fields. -/
def RL8 (W : World) (v : Value) (L : List Fd) : Prop := ∃ q c, v = .slice q L.length c ∧ L.length ≤ c ∧ ∀ i (h : i < L.length), ∃ g o, q = some ⟨g, o, none⟩ ∧ W.cell? ⟨g, o + i * 4, none⟩ = some (.int .i64 L[i].num) ∧ W.cell? ⟨g, o + i * 4 + 1, none⟩ = some (.int .i64 L[i].kind) ∧ W.cell? ⟨g, o + i * 4 + 2, none⟩ = some (.int .u64 (L[i].n : Int)) ∧ W.cell? ⟨g, o + i * 4 + 3, none⟩ = some (.string (bst L[i].b))
theorem RL8.keep {W W1 : World} {v : Value} {L : List Fd} (h : RL8 W v L) (hb : Below W.heap.size W W1) : RL8 W1 v L := by
  obtain ⟨q, c, e, hl, hx⟩ := h
  refine ⟨q, c, e, hl, fun i hi => ?_⟩
  obtain ⟨g, o, e2, c0, c1, c2, c3⟩ := hx i hi
  exact ⟨g, o, e2, cell_later hb c0, cell_later hb c1, cell_later hb c2, cell_later hb c3⟩
theorem own_rl {W : World} {B : Nat} {T : TypeId} {v : Value} {L : List Fd} (h : W.ownsRow B T 4 v L.length (dcells L)) : RL8 W v L := by
  have h0 := h
  rcases h.2 with ⟨rfl, hz⟩ | ⟨g, cap, cur, rfl, _, _, hc, _⟩
  · exact ⟨none, 0, by rw [hz], by omega, fun i hi => by omega⟩
  · refine ⟨_, cap, rfl, hc, fun i hi => ?_⟩
    have hcs := h0.cells (g := g) rfl
    have a : ∀ j u, j < 4 → (celD L[i])[j]? = some u → W.cell? ⟨g, 0 + i * 4 + j, none⟩ = some u := fun j u hj hu => by
      have a0 := flat_at8 (enc := celD) (k := 4) (fun _ => rfl) L i j hi hj
      rw [hu] at a0
      have := hcs _ _ (show (dcells L)[i * 4 + j]? = some u from a0)
      rw [add_at, ← Nat.add_assoc] at this
      exact this
    exact ⟨g, 0, rfl, a 0 _ (by omega) rfl, a 1 _ (by omega) rfl, a 2 _ (by omega) rfl, a 3 _ (by omega) rfl⟩
theorem new_src4 (W : World) (T : TypeId) (a b c d : Value) : SrcO (W.alloc (.cells #[a, b, c, d] T)) (.slice (some ⟨W.heap.size, 0, none⟩) 1 1) 1 [a, b, c, d] := by
  refine ⟨_, _, rfl, fun _ => ⟨_, _, rfl, fun j u hj => ?_⟩⟩
  match j, hj with
  | 0, hj => simp at hj; subst hj; rw [add_at]; go_simp
  | 1, hj => simp at hj; subst hj; rw [add_at]; go_simp
  | 2, hj => simp at hj; subst hj; rw [add_at]; go_simp
  | 3, hj => simp at hj; subst hj; rw [add_at]; go_simp
/-- A field cut. -/
def cutF (f : Fd) : Fd := ⟨f.num, f.kind, f.n, f.b.take 50⟩
def CuPost (L : List Fd) (w : World) (e : Ending) (w' : World) : Prop := ∃ u, e = .returned u ∧ FL w' u ((L.take 20).map cutF) ∧ Below w.heap.size w w'
set_option maxRecDepth 100000 in
set_option maxHeartbeats 4000000 in
theorem lcut_any {w : World} {v : Value} {L : List Fd} (hF : FL w v L) : Calls Try.prog 30 #[v] w (CuPost L w) := by
  have hmx : Try.prog.follows .mixedOrders = true := by kernel_rfl
  obtain ⟨i0, hi, hz0, hz1, hz2⟩ := info_parts infoF
  obtain ⟨q, c, rfl, hlc, hx⟩ := hF
  have HX := Lib.hid hx
  obtain ⟨m, hm⟩ : ∃ m, m = min L.length 20 := ⟨_, rfl⟩
  have hm1 : m ≤ L.length := by omega
  have hm2 : m ≤ 20 := by omega
  have hm3 : m = L.length ∨ m = 20 := by omega
  have HM : Hid (L.take m = L.take 20) := Lib.hid (by rw [hm, List.take_eq_take_iff]; omega)
  have HPo : Hid (∀ u w' X, w'.ownsRow w.heap.size 77 4 u X.length (fcells X) → XOK w' X → X.map (·.1) = (L.take m).map cutF → Below w.heap.size w w' → CuPost L w (.returned u) w') := Lib.hid (fun u w' X ho hX he hb => ⟨u, rfl, by rw [← HM.out, ← he]; exact own_fl ho hX, hb⟩)
  clear hx hm
  go_enter Try.func30, Try.ntmps30
  go_wp2_with fail
  go_loopg [3, 4] m (fun gk v i wx => ∃ (k : Nat) (X : List (Fd × Value)), k + gk = m ∧ i = .int .i64 (k : Int) ∧ X.length = k ∧ Hid (X.map (·.1) = (L.take k).map cutF) ∧ Hid (XOK w X) ∧ Hid (wx.ownsRow w.heap.size 77 4 v X.length (fcells X) ∧ Below w.heap.size w wx))
  case atStart => exact ⟨0, [], by omega, rfl, rfl, Lib.hid rfl, Lib.hid (fun x hx => by cases hx), Lib.hid ⟨World.ownsRow_nil _ _ _ _, Below.refl _ _⟩⟩
  case round =>
    obtain ⟨k, X, hkg, rfl, hXk, HE, HK, HS⟩ := hrel
    cases gk with
    | zero =>
      obtain rfl : k = m := by omega
      have HFi := Lib.hid (HPo.out u3 wr X HS.out.1 (HK.out.keep HS.out.2) HE.out HS.out.2)
      clear HPo HE HS HK
      have hXk := Lib.hid hXk
      rcases hm3 with h3 | h3
      · have hkz : ¬ (k : Int) < (L.length : Int) := by omega
        go_wp2_with fail
        go_ret
        exact HFi.out
      · by_cases h4 : k < L.length
        · have hkz : (k : Int) < (L.length : Int) := by omega
          have hkz2 : ¬ (k : Int) < 20 := by omega
          go_wp2_with fail
          go_ret
          exact HFi.out
        · have hkz : ¬ (k : Int) < (L.length : Int) := by omega
          go_wp2_with fail
          go_ret
          exact HFi.out
    | succ gr =>
      have hkz : (k : Int) < (L.length : Int) := by omega
      have hkz2 : (k : Int) < 20 := by omega
      have hkl : k < L.length := by omega
      obtain ⟨g, o, qb, cb, rfl, c0, c1, c2, c3, hk⟩ := HX.out k hkl
      have c0 := cell_later HS.out.2 c0
      have c1 := cell_later HS.out.2 c1
      have c2 := cell_later HS.out.2 c2
      have c3 := cell_later HS.out.2 c3
      have HTk : Hid ((L.take (k + 1)).map cutF = (L.take k).map cutF ++ [cutF L[k]]) := Lib.hid (by rw [List.take_succ_eq_append_getElem hkl, List.map_append]; rfl)
      have hcb : L[k].b.length ≤ cb := by obtain ⟨_, _, e, h, _⟩ := hk; cases e; exact h
      have HKb := Lib.hid (hk.take (Nat.min_le_left L[k].b.length 50))
      have hmn : min (L[k].b.length : Int) 50 = ((min L[k].b.length 50 : Nat) : Int) := by omega
      have HMl : Hid (L[k].b.take (min L[k].b.length 50) = (cutF L[k]).b ∧ (cutF L[k]).b.length = min L[k].b.length 50 ∧ (cutF L[k]).num = L[k].num ∧ (cutF L[k]).kind = L[k].kind ∧ (cutF L[k]).n = L[k].n) := Lib.hid ⟨by unfold cutF; dsimp only; rw [List.take_eq_take_iff]; omega, by unfold cutF; rw [List.length_take, Nat.min_comm], rfl, rfl, rfl⟩
      clear hk
      generalize hP1 : (L.take (k + 1)).map cutF = P1 at *
      have HP1 := Lib.hid hP1
      clear hP1
      generalize cutF L[k] = f' at *
      generalize L[k] = f at *
      have hmb : min f.b.length 50 ≤ cb := by omega
      have hmb2 : ((min f.b.length 50 : Nat) : Int) ≤ (cb : Int) := by omega
      generalize min f.b.length 50 = mm at *
      have HX1 : Hid (XOK w (X ++ [(f', Value.slice qb mm cb)])) := Lib.hid (fun x hx => by
        rcases List.mem_append.1 hx with hx | hx
        · exact HK.out x hx
        · rw [List.mem_singleton] at hx
          subst hx
          exact ⟨qb, cb, by rw [HMl.out.2.1], by rw [← HMl.out.1]; exact HKb.out⟩)
      have HE1 : Hid ((X ++ [(f', Value.slice qb mm cb)]).map (·.1) = P1) := Lib.hid (by rw [List.map_append, HE.out, HTk.out]; rfl)
      have HOa := Lib.hid (World.ownsRow.alloc (w := wr) HS.out.1 (.cells #[.int .i64 f.num, .int .i64 f.kind, .int .u64 (f.n : Int), .slice qb mm cb] 77))
      have HBa := Lib.hid (below_after HS.out.2 (below_alloc wr (.cells #[.int .i64 f.num, .int .i64 f.kind, .int .u64 (f.n : Int), .slice qb mm cb] 77)))
      have HFa := Lib.hid (F4.new wr 77 (.int .i64 f.num) (.int .i64 f.kind) (.int .u64 (f.n : Int)) (.slice qb mm cb))
      have HC : Hid (celF (f', Value.slice qb mm cb) = [.int .i64 f.num, .int .i64 f.kind, .int .u64 (f.n : Int), .slice qb mm cb]) := Lib.hid (by unfold celF; rw [HMl.out.2.2.1, HMl.out.2.2.2.1, HMl.out.2.2.2.2])
      have hXl : X.length ≤ 20 := by omega
      have HXk := Lib.hid hXk
      clear hXk HTk HMl HKb
      go_upto_region 7 with fail
      generalize wr.alloc (.cells #[.int .i64 f.num, .int .i64 f.kind, .int .u64 (f.n : Int), .slice qb mm cb] 77) = V at *
      clear c0 c1 c2 c3
      have hFV := HFa.out
      obtain ⟨c0, c1, c2, c3⟩ := hFV.cells
      have HO1 := Lib.hid (World.ownsRow.alloc (w := V) HOa.out (.cells #[.int .i64 f.num, .int .i64 f.kind, .int .u64 (f.n : Int), .slice qb mm cb] 77))
      have HB1 := Lib.hid (below_after HBa.out (below_alloc V (.cells #[.int .i64 f.num, .int .i64 f.kind, .int .u64 (f.n : Int), .slice qb mm cb] 77)))
      have hsz := HB1.out.size
      have HOne : Hid (∀ u ∈ ([.int .i64 f.num, .int .i64 f.kind, .int .u64 (f.n : Int), .slice qb mm cb] : List Value), u.oneCell' = true) := Lib.hid (by intro u hu; simp at hu; rcases hu with rfl | rfl | rfl | rfl <;> rfl)
      go_wp2_with (at_builtin; refine wpList_append_srcO rfl (.tmp 28) (.tmp 30) 60 rfl w.heap.size 77 i0 (.agg #[.int .i64 0, .int .i64 0, .int .u64 0, .slice none 0 0]) 4 48 Try.underlying60 hi hz0 hz1 hz2 rfl (by decide) _ X.length (fcells X) rfl HO1.out _ 1 ([.int .i64 f.num, .int .i64 f.kind, .int .u64 (f.n : Int), .slice qb mm cb]) rfl (new_src4 _ _ _ _ _ _) (by rfl) HOne.out (by unfold maxLen; omega) (by omega) hsz ?_; intro v2 w2 ho2 hg2; (have HF3 : Hid (w2.ownsRow w.heap.size 77 4 v2 (X ++ [(f', Value.slice qb mm cb)]).length (fcells (X ++ [(f', Value.slice qb mm cb)])) ∧ Below w.heap.size w w2) := Lib.hid ⟨by rw [fcells_snoc, HC.out, List.length_append]; exact ho2, HB1.out.grown hg2 HB1.out.size (fun k e => (own_block HO1.out e).1)⟩); clear ho2 hg2)
      go_roundg gr
      case measure => omega
      case rel => exact ⟨k + 1, _, by omega, by go_num, by rw [List.length_append, HXk.out]; rfl, by rw [HP1.out]; exact HE1, HX1, HF3⟩
def OfsPost (L : List Fd) (w : World) (e : Ending) (w' : World) : Prop := ∃ u, e = .returned u ∧ RL8 w' u L ∧ Below w.heap.size w w'
set_option maxRecDepth 100000 in
set_option maxHeartbeats 4000000 in
theorem lofs_any {w : World} {v : Value} {L : List Fd} (hF : FL w v L) (hl : L.length ≤ 1000) : Calls Try.prog 33 #[v] w (OfsPost L w) := by
  have hmx : Try.prog.follows .mixedOrders = true := by kernel_rfl
  obtain ⟨i0, hi, hz0, hz1, hz2⟩ := info_parts infoD
  obtain ⟨q, c, rfl, hlc, hx⟩ := hF
  have HX := Lib.hid hx
  have HPo : Hid (∀ u w', w'.ownsRow w.heap.size 81 4 u L.length (dcells L) → Below w.heap.size w w' → OfsPost L w (.returned u) w') := Lib.hid (fun u w' ho hb => ⟨u, rfl, own_rl ho, hb⟩)
  clear hx
  go_enter Try.func33, Try.ntmps33
  go_wp2_with fail
  go_loopg [3, 4] L.length (fun gk v i wx => ∃ k : Nat, k + gk = L.length ∧ i = .int .i64 (k : Int) ∧ Hid (wx.ownsRow w.heap.size 81 4 v (L.take k).length (dcells (L.take k)) ∧ Below w.heap.size w wx))
  case atStart => exact ⟨0, by omega, rfl, Lib.hid ⟨World.ownsRow_nil _ _ _ _, Below.refl _ _⟩⟩
  case round =>
    obtain ⟨k, hkg, rfl, HS⟩ := hrel
    cases gk with
    | zero =>
      obtain rfl : k = L.length := by omega
      have hkz : ¬ (L.length : Int) < (L.length : Int) := by omega
      have HFi : Hid (OfsPost L w (.returned u3) wr) := Lib.hid (HPo.out u3 wr (by have h := HS.out.1; rwa [List.take_length] at h) HS.out.2)
      clear HPo HS
      go_wp2_with fail
      go_ret
      exact HFi.out
    | succ gr =>
      have hkz : (k : Int) < (L.length : Int) := by omega
      have hkl : k < L.length := by omega
      obtain ⟨g, o, qb, cb, rfl, c0, c1, c2, c3, hk⟩ := HX.out k hkl
      have c0 := cell_later HS.out.2 c0
      have c1 := cell_later HS.out.2 c1
      have c2 := cell_later HS.out.2 c2
      have c3 := cell_later HS.out.2 c3
      have HTk : Hid (L.take (k + 1) = L.take k ++ [L[k]]) := Lib.hid (List.take_succ_eq_append_getElem hkl)
      have hXl : (L.take k).length ≤ 1000 := by rw [List.length_take]; omega
      have HOf := Lib.hid (lof_any (w := wr) (f := L[k]) (q := qb) (c := cb) (hk.keep HS.out.2))
      clear hk
      unfold OfPost at HOf
      generalize hP1 : L.take (k + 1) = P1 at *
      have HP1 := Lib.hid hP1
      clear hP1
      generalize L[k] = f at *
      generalize L.take k = P at *
      generalize hbb : bst f.b = bb at *
      have HBb := Lib.hid hbb
      clear hbb
      have HC : Hid (celD f = [.int .i64 f.num, .int .i64 f.kind, .int .u64 (f.n : Int), .string bb]) := Lib.hid (by unfold celD; rw [HBb.out])
      go_wp2_with fail
      refine HOf.out.mono ?_
      rintro en w1 ⟨rfl, hb1⟩
      have HO1 := Lib.hid (World.ownsRow.alloc (w := w1) (own_keepB hb1 HS.out.1) (.cells #[.int .i64 f.num, .int .i64 f.kind, .int .u64 (f.n : Int), .string bb] 81))
      have HB1 := Lib.hid (below_after (below_after HS.out.2 hb1) (below_alloc w1 (.cells #[.int .i64 f.num, .int .i64 f.kind, .int .u64 (f.n : Int), .string bb] 81)))
      have hsz := HB1.out.size
      clear hb1 HS c0 c1 c2 c3
      have HOne : Hid (∀ u ∈ ([.int .i64 f.num, .int .i64 f.kind, .int .u64 (f.n : Int), .string bb] : List Value), u.oneCell' = true) := Lib.hid (by intro u hu; simp at hu; rcases hu with rfl | rfl | rfl | rfl <;> rfl)
      go_wp2_with (at_builtin; refine wpList_append_srcO rfl (.tmp 11) (.tmp 17) 68 rfl w.heap.size 81 i0 (.agg #[.int .i64 0, .int .i64 0, .int .u64 0, .string ⟨#[]⟩]) 4 40 Try.underlying68 hi hz0 hz1 hz2 rfl (by decide) _ P.length (dcells P) rfl HO1.out _ 1 ([.int .i64 f.num, .int .i64 f.kind, .int .u64 (f.n : Int), .string bb]) rfl (new_src4 _ _ _ _ _ _) (by rfl) HOne.out (by unfold maxLen; omega) (by omega) hsz ?_; intro v2 w2 ho2 hg2; (have HF3 : Hid (w2.ownsRow w.heap.size 81 4 v2 P1.length (dcells P1) ∧ Below w.heap.size w w2) := Lib.hid ⟨by rw [HTk.out, dcells_snoc, HC.out, List.length_append]; exact ho2, HB1.out.grown hg2 HB1.out.size (fun k e => (own_block HO1.out e).1)⟩); clear ho2 hg2)
      go_roundg gr
      case measure => omega
      case rel => exact ⟨k + 1, by omega, by go_num, by rw [HP1.out]; exact HF3⟩
end Go.Proofs.Ytcbgknlklpandaa
