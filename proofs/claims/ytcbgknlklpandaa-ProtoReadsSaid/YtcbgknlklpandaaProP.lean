/- Walks of proto: Only, Same; the law's same. -/
import Derived.Test.YtcbgknlklpandaaProO
namespace Go.Proofs.Ytcbgknlklpandaa
open Go.RowKit Go.Sort

/-- Each has bytes of its own. -/
def XOw (W : World) (B : Nat) (X : List (Fd × Value)) : Prop := ∀ x ∈ X, ∃ q c, x.2 = .slice q x.1.b.length c ∧ W.ownsRow B 5 1 x.2 x.1.b.length (kcl .u8 x.1.b)
theorem XOw.keep {W W1 : World} {B : Nat} {X : List (Fd × Value)} (h : XOw W B X) (hb : Below W.heap.size W W1) : XOw W1 B X := fun x hx => by
  obtain ⟨q, c, e, hk⟩ := h x hx
  exact ⟨q, c, e, own_keepB hb hk⟩
theorem XOw.grown {W W1 : World} {X : List (Fd × Value)} {B B1 n : Nat} {v : Value} {xs : List Value} (h : XOw W B X) (hg : W.grownBy W1 v.ownBlock) (ho : W.ownsRow B1 77 4 v n xs) : XOw W1 B X := fun x hx => by
  obtain ⟨q, c, e, hk⟩ := h x hx
  refine ⟨q, c, e, hk.kept hg ?_⟩
  rcases hk.2 with ⟨e1, _⟩ | ⟨g1, c1, cur1, e1, _, h1, _⟩
  · exact .inl (by rw [e1]; rfl)
  · rcases ho.2 with ⟨e2, _⟩ | ⟨g2, c2, cur2, e2, _, h2, _⟩
    · exact .inr (by rw [e1, e2]; simp [Value.ownBlock])
    · refine .inr (by
        rw [e1, e2]
        simp only [Value.ownBlock, ne_eq, Option.some.injEq]
        intro eg
        rw [eg, h2] at h1
        simp at h1)
theorem XOw.ok {W : World} {B : Nat} {X : List (Fd × Value)} (h : XOw W B X) : XOK W X := fun x hx => by
  obtain ⟨q, c, e, hk⟩ := h x hx
  exact ⟨q, c, e, kl_own rfl hk⟩
def OnPost (L : List Fd) (w : World) (e : Ending) (w' : World) : Prop := ∃ u, e = .returned u ∧ FL w' u L ∧ Below w.heap.size w w'
def ofN (num : Int) (L : List Fd) : List Fd := L.filter (fun f => decide (f.num = num))
theorem ofN_yes {num : Int} {L : List Fd} {f : Fd} (h : f.num = num) : ofN num (L ++ [f]) = ofN num L ++ [f] := by unfold ofN; rw [List.filter_append]; simp [h]
theorem ofN_no {num : Int} {L : List Fd} {f : Fd} (h : f.num ≠ num) : ofN num (L ++ [f]) = ofN num L := by unfold ofN; rw [List.filter_append]; simp [h]
theorem ofN_len (num : Int) (L : List Fd) : (ofN num L).length ≤ L.length := List.length_filter_le _ _
set_option maxRecDepth 100000 in
set_option maxHeartbeats 4000000 in
theorem ponly_any {w : World} {v : Value} {L : List Fd} (hF : FL w v L) (hl : L.length ≤ 1000) (hbl : ∀ f ∈ L, f.b.length ≤ 1000) (num : Int) : Calls Try.prog 44 #[v, .int .i64 num] w (OnPost (ofN num L) w) := by
  have hmx : Try.prog.follows .mixedOrders = true := by kernel_rfl
  obtain ⟨i0, hi, hz0, hz1, hz2⟩ := info_parts infoF
  obtain ⟨q, c, rfl, hlc, hx⟩ := hF
  have HX := Lib.hid hx
  have HBl := Lib.hid hbl
  have HPo : Hid (∀ u w' X, w'.ownsRow w.heap.size 77 4 u X.length (fcells X) → XOw w' w.heap.size X → X.map (·.1) = ofN num L → Below w.heap.size w w' → OnPost (ofN num L) w (.returned u) w') := Lib.hid (fun u w' X ho hX he hb => ⟨u, rfl, by rw [← he]; exact own_fl ho hX.ok, hb⟩)
  clear hx hbl
  go_enter Try.func44, Try.ntmps44
  go_wp2_with fail
  go_loopg [5, 10] L.length (fun gk v i wx => ∃ (k : Nat) (X : List (Fd × Value)), k + gk = L.length ∧ i = .int .i64 (k : Int) ∧ X.length ≤ k ∧ Hid (X.map (·.1) = ofN num (L.take k)) ∧ Hid (XOw wx w.heap.size X) ∧ Hid (wx.ownsRow w.heap.size 77 4 v X.length (fcells X) ∧ Below w.heap.size w wx))
  case atStart => exact ⟨0, [], by omega, rfl, Nat.le_refl _, Lib.hid rfl, Lib.hid (fun x hx => by cases hx), Lib.hid ⟨World.ownsRow_nil _ _ _ _, Below.refl _ _⟩⟩
  case round =>
    obtain ⟨k, X, hkg, rfl, hXk, HE, HK, HS⟩ := hrel
    cases gk with
    | zero =>
      obtain rfl : k = L.length := by omega
      have hkz : ¬ (L.length : Int) < (L.length : Int) := by omega
      have HFi := Lib.hid (HPo.out u5 wr X HS.out.1 HK.out (by have h := HE.out; rwa [List.take_length] at h) HS.out.2)
      clear HPo HE HS HK
      go_wp2_with fail
      go_ret
      exact HFi.out
    | succ gr =>
      have hkz : (k : Int) < (L.length : Int) := by omega
      have hkl : k < L.length := by omega
      obtain ⟨g, o, qb, cb, rfl, c0, c1, c2, c3, hk⟩ := HX.out k hkl
      have c0 := cell_later HS.out.2 c0
      have c1 := cell_later HS.out.2 c1
      have c2 := cell_later HS.out.2 c2
      have c3 := cell_later HS.out.2 c3
      have HTk : Hid (L.take (k + 1) = L.take k ++ [L[k]]) := Lib.hid (List.take_succ_eq_append_getElem hkl)
      have HOw := Lib.hid (fun V (hV : Below w.heap.size w V) => pown_any (f := L[k]) (q := qb) (c := cb) (hk.keep hV) (Nat.le_trans (HBl.out _ (List.getElem_mem hkl)) (by omega)))
      unfold OwPost8 at HOw
      clear hk
      generalize hP1 : L.take (k + 1) = P1 at *
      have HP1 := Lib.hid hP1
      clear hP1
      generalize L[k] = f at *
      generalize L.take k = P at *
      have HBa := Lib.hid (below_after HS.out.2 (below_alloc wr (.cells #[.int .i64 f.num, .int .i64 f.kind, .int .u64 (f.n : Int), .slice qb f.b.length cb] 77)))
      have HFa := Lib.hid (F4.new wr 77 (.int .i64 f.num) (.int .i64 f.kind) (.int .u64 (f.n : Int)) (.slice qb f.b.length cb))
      by_cases hn : f.num = num
      · have HE1 : Hid (∀ v : Value, (X ++ [(f, v)]).map (·.1) = ofN num P1) := Lib.hid (fun v => by rw [HTk.out, ofN_yes hn, List.map_append, HE.out]; rfl)
        have HKa := Lib.hid (HK.out.keep (below_alloc wr (.cells #[.int .i64 f.num, .int .i64 f.kind, .int .u64 (f.n : Int), .slice qb f.b.length cb] 77)))
        have HOa := Lib.hid (World.ownsRow.alloc (w := wr) HS.out.1 (.cells #[.int .i64 f.num, .int .i64 f.kind, .int .u64 (f.n : Int), .slice qb f.b.length cb] 77))
        subst hn
        clear HTk HE HPo
        go_upto_region 5 with fail
        generalize wr.alloc (.cells #[.int .i64 f.num, .int .i64 f.kind, .int .u64 (f.n : Int), .slice qb f.b.length cb] 77) = V at *
        clear c0 c1 c2 c3
        have hFV := HFa.out
        obtain ⟨c0, c1, c2, c3⟩ := hFV.cells
        clear hFV
        go_wp2_with fail
        refine (HOw.out _ HBa.out).mono ?_
        rintro en w1 ⟨q1, cc1, rfl, ho1, hb1⟩
        have HOn : Hid (w1.ownsRow w.heap.size 5 1 (.slice q1 f.b.length cc1) f.b.length (kcl .u8 f.b)) := Lib.hid (own_base ho1 HBa.out.size)
        have HK1 := Lib.hid ((HKa.out.keep hb1).keep (below_alloc w1 (.cells #[.int .i64 f.num, .int .i64 f.kind, .int .u64 (f.n : Int), .slice q1 f.b.length cc1] 77)))
        have HO1 := Lib.hid (World.ownsRow.alloc (w := w1) (own_keepB hb1 HOa.out) (.cells #[.int .i64 f.num, .int .i64 f.kind, .int .u64 (f.n : Int), .slice q1 f.b.length cc1] 77))
        have HB1 := Lib.hid (below_after (below_after HBa.out hb1) (below_alloc w1 (.cells #[.int .i64 f.num, .int .i64 f.kind, .int .u64 (f.n : Int), .slice q1 f.b.length cc1] 77)))
        have HX2 : Hid (XOw (w1.alloc (.cells #[.int .i64 f.num, .int .i64 f.kind, .int .u64 (f.n : Int), .slice q1 f.b.length cc1] 77)) w.heap.size (X ++ [(f, Value.slice q1 f.b.length cc1)])) := Lib.hid (fun x hx => by
          rcases List.mem_append.1 hx with hx | hx
          · exact HK1.out x hx
          · rw [List.mem_singleton] at hx
            subst hx
            exact ⟨q1, cc1, rfl, own_keepB (below_alloc _ _) HOn.out⟩)
        have hsz := HB1.out.size
        have hXl : X.length ≤ 1000 := by omega
        clear ho1 hb1 HK1 HOn HKa HOa HS HK c0 c1 c2 c3
        have HOne : Hid (∀ u ∈ ([.int .i64 f.num, .int .i64 f.kind, .int .u64 (f.n : Int), .slice q1 f.b.length cc1] : List Value), u.oneCell' = true) := Lib.hid (by intro u hu; simp at hu; rcases hu with rfl | rfl | rfl | rfl <;> rfl)
        go_wp2_with (at_builtin; refine wpList_append_srcO rfl (.tmp 18) (.tmp 21) 60 rfl w.heap.size 77 i0 (.agg #[.int .i64 0, .int .i64 0, .int .u64 0, .slice none 0 0]) 4 48 Try.underlying60 hi hz0 hz1 hz2 rfl (by decide) _ X.length (fcells X) rfl HO1.out _ 1 ([.int .i64 f.num, .int .i64 f.kind, .int .u64 (f.n : Int), .slice q1 f.b.length cc1]) rfl (new_src4 _ _ _ _ _ _) (by rfl) HOne.out (by unfold maxLen; omega) (by omega) hsz ?_; intro v2 w2 ho2 hg2; (have HF3 : Hid (w2.ownsRow w.heap.size 77 4 v2 (X ++ [(f, Value.slice q1 f.b.length cc1)]).length (fcells (X ++ [(f, Value.slice q1 f.b.length cc1)])) ∧ Below w.heap.size w w2) := Lib.hid ⟨by rw [fcells_snoc, List.length_append]; exact ho2, HB1.out.grown hg2 HB1.out.size (fun k e => (own_block HO1.out e).1)⟩); have HX3 := Lib.hid (HX2.out.grown hg2 HO1.out); clear ho2 hg2)
        go_roundg gr
        case measure => omega
        case rel => exact ⟨k + 1, _, by omega, by go_num, by rw [List.length_append]; simp; omega, by rw [HP1.out]; exact Lib.hid (HE1.out _), HX3, HF3⟩
      · have HE1 : Hid (X.map (·.1) = ofN num P1) := Lib.hid (by rw [HTk.out, ofN_no hn, HE.out])
        have HKa := Lib.hid (HK.out.keep (below_alloc wr (.cells #[.int .i64 f.num, .int .i64 f.kind, .int .u64 (f.n : Int), .slice qb f.b.length cb] 77)))
        have HOa := Lib.hid (World.ownsRow.alloc (w := wr) HS.out.1 (.cells #[.int .i64 f.num, .int .i64 f.kind, .int .u64 (f.n : Int), .slice qb f.b.length cb] 77))
        clear HTk HE HPo
        go_wp2_with fail
        go_roundg gr
        case measure => omega
        case rel => exact ⟨k + 1, X, by omega, by go_num, by omega, by rw [HP1.out]; exact HE1, HKa, Lib.hid ⟨HOa.out, HBa.out⟩⟩
theorem bl_loop2 (s : ByteArray) : ∀ (n i : Nat) (r : List UInt8), i + n = s.size → ByteArray.toList.loop s i r = r.reverse ++ s.data.toList.drop i := by
  intro n
  induction n with
  | zero =>
    intro i r h
    have h2 : s.data.toList.length = s.size := Array.length_toList
    rw [ByteArray.toList.loop, if_neg (by omega), List.drop_of_length_le (by omega), List.append_nil]
  | succ n ih =>
    intro i r h
    have h2 : s.data.toList.length = s.size := Array.length_toList
    have hi : i < s.data.toList.length := by omega
    rw [ByteArray.toList.loop, if_pos (by omega), ih (i+1) _ (by omega), List.reverse_cons, List.append_assoc, List.drop_eq_getElem_cons hi]
    congr 1
    have : s.get! i = s.data.toList[i] := by
      show s.data[i]! = _
      rw [getElem!_pos s.data i (by simpa using hi)]
      simp
    rw [this]
    rfl
theorem bl_list (s : ByteArray) : s.toList = s.data.toList := by
  have := bl_loop2 s s.size 0 [] (by omega)
  simpa [ByteArray.toList] using this
theorem bytes_eq {a b : List Nat} (ha : ∀ x ∈ a, x < 256) (hb : ∀ x ∈ b, x < 256) : ((bst a).toList == (bst b).toList) = decide (a = b) := by
  rw [Bool.eq_iff_iff, beq_iff_eq, decide_eq_true_eq, bl_list, bl_list, bst_data, bst_data]
  refine ⟨fun h => bst_inj ha hb ?_, fun h => by rw [h]⟩
  apply ByteArray.ext
  apply Array.toList_inj.1
  rw [bst_data, bst_data, h]
set_option maxRecDepth 100000 in
theorem bequal_any {w : World} {va vb : Value} {a b : List Nat} (hA : KL .u8 w va a) (hB : KL .u8 w vb b) (ha : ∀ x ∈ a, x < 256) (hb : ∀ x ∈ b, x < 256) : Calls Try.prog 83 #[va, vb] w fun e w' => e = .returned (.bool (decide (a = b))) ∧ w' = w := by
  have h1 := conv_bst hA
  have h2 := conv_bst hB
  have HE := Lib.hid (bytes_eq ha hb)
  go_enter Try.func83, Try.ntmps83
  go_wp2_with fail
  go_ret
  exact ⟨ret_bool HE.out, rfl⟩
def eqFd (f g : Fd) : Bool := f.num == g.num && f.kind == g.kind && f.n == g.n && decide (f.b = g.b)
theorem eqFd_iff {f g : Fd} : eqFd f g = true ↔ f = g := by
  unfold eqFd
  obtain ⟨a, b, c, d⟩ := f
  obtain ⟨a', b', c', d'⟩ := g
  simp [and_assoc]
def EqPost (f g : Fd) (w : World) (e : Ending) (w' : World) : Prop := e = .returned (.bool (eqFd f g)) ∧ Below w.heap.size w w'
set_option maxRecDepth 100000 in
set_option maxHeartbeats 1000000 in
theorem psame1_any {w : World} {f g : Fd} {q q' : Option Addr} {c c' : Nat} (hA : KL .u8 w (.slice q f.b.length c) f.b) (hB : KL .u8 w (.slice q' g.b.length c') g.b) (ha : ∀ x ∈ f.b, x < 256) (hb : ∀ x ∈ g.b, x < 256) :
    Calls Try.prog 82 #[.agg #[.int .i64 f.num, .int .i64 f.kind, .int .u64 (f.n : Int), .slice q f.b.length c], .agg #[.int .i64 g.num, .int .i64 g.kind, .int .u64 (g.n : Int), .slice q' g.b.length c']] w (EqPost f g w) := by
  have hmx : Try.prog.follows .mixedOrders = true := by kernel_rfl
  have HB := Lib.hid (below_after (below_alloc w (.cells #[.int .i64 f.num, .int .i64 f.kind, .int .u64 (f.n : Int), .slice q f.b.length c] 77)) (below_alloc _ (.cells #[.int .i64 g.num, .int .i64 g.kind, .int .u64 (g.n : Int), .slice q' g.b.length c'] 77)))
  have HQ := Lib.hid (bequal_any (hA.keep HB.out) (hB.keep HB.out) ha hb)
  have HE : Hid (eqFd f g = (f.num == g.num && f.kind == g.kind && f.n == g.n && decide (f.b = g.b))) := Lib.hid rfl
  unfold EqPost
  generalize eqFd f g = r at *
  generalize decide (f.b = g.b) = d at *
  obtain ⟨num, kind, n, b⟩ := f
  obtain ⟨num', kind', n', b'⟩ := g
  dsimp only at *
  clear hA hB ha hb
  by_cases h1 : num = num'
  · subst h1
    by_cases h2 : kind = kind'
    · subst h2
      by_cases h3 : n = n'
      · subst h3
        have HR : Hid (r = d) := Lib.hid (by rw [HE.out]; simp)
        clear HE
        go_enter Try.func82, Try.ntmps82
        go_wp2_with (go_at_call 83; refine HQ.out.mono ?_; rintro en w1 ⟨rfl, hw⟩; subst hw)
        go_ret
        exact ⟨ret_bool HR.out.symm, HB.out⟩
      · have HR : Hid (r = false) := Lib.hid (by rw [HE.out]; simp [h3])
        have h3z : ¬ (n : Int) = (n' : Int) := by omega
        clear HE
        go_enter Try.func82, Try.ntmps82
        go_wp2_with fail
        go_ret
        exact ⟨ret_bool HR.out.symm, HB.out⟩
    · have HR : Hid (r = false) := Lib.hid (by rw [HE.out]; simp [h2])
      clear HE
      go_enter Try.func82, Try.ntmps82
      go_wp2_with fail
      go_ret
      exact ⟨ret_bool HR.out.symm, HB.out⟩
  · have HR : Hid (r = false) := Lib.hid (by rw [HE.out]; simp [h1])
    clear HE
    go_enter Try.func82, Try.ntmps82
    go_wp2_with fail
    go_ret
    exact ⟨ret_bool HR.out.symm, HB.out⟩
end Go.Proofs.Ytcbgknlklpandaa
