/- The document's Same, From, Turned, First, Thin, Alike over rings. -/
import Derived.Test.YtkibjbbhiclkmaaFirst
import Derived.Laws.StructEq
namespace Go.Proofs.Ytkibjbbhiclkmaa
open Go.RowKit Go.Sort

theorem rne_pt (ax ay bx b_y : Int) (w : World) : Sem.run Try.prog (binOp .neq 32 (.agg #[.int .i64 ax, .int .i64 ay]) (.agg #[.int .i64 bx, .int .i64 b_y])) w = .ok (.bool (!eqB ax ay bx b_y)) w := by
  have u3 := Try.underlying3
  have hS : Try.prog.underlying 32 = some (.struct (Try.prog.fieldsOf 32)) := by kernel_rfl
  have hp : Try.prog.stoodInHeld 32 = false := by kernel_rfl
  rw [run_neq_struct, show (10000 : Nat) = 9999 + 1 from rfl, run_equalIn_agg w 9999 32 _ _ hS hp]
  simp only [Program.fieldsOf, Try.underlying32]
  unfold eqB
  go_simp
  by_cases h1 : ax = bx <;> by_cases h2 : ay = b_y <;> simp [h1, h2]
theorem rql_pt (ax ay bx b_y : Int) (w : World) : Sem.run Try.prog (binOp .eql 32 (.agg #[.int .i64 ax, .int .i64 ay]) (.agg #[.int .i64 bx, .int .i64 b_y])) w = .ok (.bool (eqB ax ay bx b_y)) w := by
  have u3 := Try.underlying3
  have hS : Try.prog.underlying 32 = some (.struct (Try.prog.fieldsOf 32)) := by kernel_rfl
  have hp : Try.prog.stoodInHeld 32 = false := by kernel_rfl
  rw [run_eql_struct, show (10000 : Nat) = 9999 + 1 from rfl, run_equalIn_agg w 9999 32 _ _ hS hp]
  simp only [Program.fieldsOf, Try.underlying32]
  unfold eqB
  go_simp
  by_cases h1 : ax = bx <;> by_cases h2 : ay = b_y <;> simp [h1, h2]
theorem src_new (W : World) (T : TypeId) (x y : Int) : SrcV (W.alloc (.cells #[.int .i64 x, .int .i64 y] T)) (.slice (some ⟨W.heap.size, 0, none⟩) 1 1) 1 [.int .i64 x, .int .i64 y] := by
  refine ⟨_, _, rfl, fun _ => ⟨W.heap.size, 0, rfl, fun j u hj => ?_⟩⟩
  match j, hj with
  | 0, hj => simp at hj; subst hj; rw [add_at]; go_simp
  | 1, hj => simp at hj; subst hj; rw [add_at]; go_simp
theorem two_cells {x y : Int} : ∀ u ∈ [Value.int .i64 x, Value.int .i64 y], u.oneCell' = true := by
  intro u hu; simp at hu; rcases hu with rfl | rfl <;> rfl
theorem ptsL_one (p : Int × Int) : ptsL [p] = [.int .i64 p.1, .int .i64 p.2] := rfl
/-- One point more. -/
theorem own_push {W : World} {base : Nat} {T : TypeId} {v : Value} {X : List (Int × Int)} {p : Int × Int} (h : W.ownsRow base T 2 v (X.length + 1) (ptsL X ++ [.int .i64 p.1, .int .i64 p.2])) : W.ownsRow base T 2 v (X ++ [p]).length (ptsL (X ++ [p])) := by
  rw [ptsL_app, ptsL_one, List.length_append]; exact h
theorem range_push {α : Type} (R : Nat → α) (k : Nat) : (List.range k).map R ++ [R k] = (List.range (k + 1)).map R := by rw [List.range_succ, List.map_append]; rfl
theorem map_len {α : Type} (R : Nat → α) (k : Nat) : ((List.range k).map R).length = k := by rw [List.length_map, List.length_range]

def sameTo (A B : List (Int × Int)) (k : Nat) : Prop := ∀ i, i < k → ptA A i = ptA B i
theorem same_all {A B : List (Int × Int)} (hl : A.length = B.length) : sameTo A B A.length ↔ A = B := by
  constructor
  · intro h
    refine List.ext_getElem hl fun i h1 h2 => ?_
    have := h i h1
    rw [ptA_at h1, ptA_at h2] at this
    exact this
  · rintro rfl i _; rfl
theorem eqB_pt (a b : Int × Int) : eqB a.1 a.2 b.1 b.2 = true ↔ a = b := by
  rw [eqB_iff]; exact ⟨fun h => Prod.ext h.1 h.2, fun h => by rw [h]; exact ⟨rfl, rfl⟩⟩

set_option maxRecDepth 100000 in
set_option maxHeartbeats 2000000 in
theorem rsame_any {w : World} {u v : Value} {A B : List (Int × Int)} (hA : PL w u A) (hB : PL w v B) (lA : A.length ≤ 1000) (_ : B.length ≤ 1000) :
    Calls Try.prog 72 #[u, v] w fun e w' => e = .returned (.bool (decide (A = B))) ∧ Below w.heap.size w w' := by
  have hmx : Try.prog.follows .mixedOrders = true := by kernel_rfl
  have HA := Lib.hid hA
  have HB := Lib.hid hB
  obtain ⟨pa, ca, rfl, _, ha⟩ := hA
  obtain ⟨pb, cb, rfl, _, hb⟩ := hB
  have Ha := Lib.hid ha
  have Hb := Lib.hid hb
  clear ha hb
  by_cases hl : A.length = B.length
  · have hlz : (A.length : Int) = (B.length : Int) := by omega
    have HL := Lib.hid hl
    clear hl
    go_enter Try.func72, Try.ntmps72
    go_wp2_with fail
    go_loopg [5] A.length (fun gk i wx => ∃ k : Nat, k + gk = A.length ∧ i = .int .i64 (k : Int) ∧ Hid (Below w.heap.size w wx) ∧ Hid (sameTo A B k))
    case atStart => exact ⟨0, by omega, rfl, Lib.hid (Below.refl _ _), Lib.hid (fun i h => by omega)⟩
    case round =>
      obtain ⟨k, hkg, rfl, HW, HN⟩ := hrel
      cases gk with
      | zero =>
        have hkz : ¬ ((k : Int) < (A.length : Int)) := by omega
        have HF : Hid (A = B) := Lib.hid ((same_all HL.out).1 (by have h := HN.out; rw [show k = A.length from by omega] at h; exact h))
        have hkz2 : ¬ ((k : Int) < (B.length : Int)) := by omega
        go_wp2_with fail
        go_ret
        exact ⟨ret_bool (by rw [decide_eq_true HF.out]), HW.out⟩
      | succ gr =>
        have hkz : (k : Int) < (A.length : Int) := by omega
        have hkz2 : (k : Int) < (B.length : Int) := by omega
        have hka : k < A.length := by omega
        have hkb : k < B.length := by omega
        obtain ⟨b, off, rfl, hbl, c0, c1⟩ := Ha.out k hka
        obtain ⟨b', off', rfl, hbl', d0, d1⟩ := Hb.out k hkb
        have c0 := cell_later HW.out c0
        have c1 := cell_later HW.out c1
        have d0 := cell_later HW.out d0
        have d1 := cell_later HW.out d1
        have HP : Hid (ptA A k = A[k] ∧ ptA B k = B[k]) := Lib.hid ⟨ptA_at hka, ptA_at hkb⟩
        generalize A[k] = P at *
        generalize B[k] = Q at *
        have hq := fun W => rne_pt P.1 P.2 Q.1 Q.2 W
        have HE := Lib.hid (eqB_pt P Q)
        generalize eqB P.1 P.2 Q.1 Q.2 = eb at *
        cases eb
        · have HX : Hid (¬ A = B) := Lib.hid (fun h => by
            have h1 := HE.out.2 (by rw [← HP.out.1, ← HP.out.2, h])
            cases h1)
          go_wp2_with fail
          go_region
          go_wp2_with fail
          go_ret
          exact ⟨ret_bool (by rw [decide_eq_false HX.out]), HW.out.drew⟩
        · have HX : Hid (sameTo A B (k + 1)) := Lib.hid (fun i hi => by
            by_cases e : i = k
            · subst e; rw [HP.out.1, HP.out.2]; exact HE.out.1 rfl
            · exact HN.out i (by omega))
          have HW2 := Lib.hid HW.out.drew
          go_wp2_with fail
          go_region
          go_wp2_with fail
          go_roundg gr
          case measure => omega
          case rel => exact ⟨k + 1, by omega, by go_num, HW2, HX⟩
  · have hlz : ¬ (A.length : Int) = (B.length : Int) := by omega
    have HX : Hid (¬ A = B) := Lib.hid (fun h => hl (by rw [h]))
    go_enter Try.func72, Try.ntmps72
    go_wp2_with fail
    go_ret
    exact ⟨ret_bool (by rw [decide_eq_false HX.out]), Below.refl _ _⟩

/-- Begun at a place. -/
def froL (L : List (Int × Int)) (s : Nat) : List (Int × Int) := (List.range L.length).map fun i => ptA L ((s + i) % L.length)
set_option maxRecDepth 100000 in
set_option maxHeartbeats 2000000 in
theorem rfrom_any {w : World} {v : Value} {L : List (Int × Int)} (s : Nat) (hI : PL w v L) (hL : L.length ≤ 1000) (hs : s ≤ 1000) :
    Calls Try.prog 29 #[v, .int .i64 s] w fun e w' => ∃ u, e = .returned u ∧ PL w' u (froL L s) ∧ Below w.heap.size w w' := by
  obtain ⟨i0, hi, hz0, hz1, hz2⟩ := info_parts infoP
  obtain ⟨pp, cap, rfl, hc, hcs⟩ := hI
  have HI := Lib.hid hcs
  clear hcs
  go_enter Try.func29, Try.ntmps29
  go_wp2_with fail
  go_loopg [5, 6] L.length (fun gk o i wx => ∃ k : Nat, k + gk = L.length ∧ i = .int .i64 (k : Int) ∧ Hid (wx.ownsRow w.heap.size 32 2 o ((List.range k).map fun i => ptA L ((s + i) % L.length)).length (ptsL ((List.range k).map fun i => ptA L ((s + i) % L.length)))) ∧ Hid (Below w.heap.size w wx))
  case atStart => exact ⟨0, by omega, rfl, Lib.hid (World.ownsRow_nil _ _ _ _), Lib.hid (Below.refl _ _)⟩
  case round =>
    obtain ⟨k, hkg, rfl, HO, HB⟩ := hrel
    cases gk with
    | zero =>
      have hkz : ¬ ((k : Int) < (L.length : Int)) := by omega
      have HF := Lib.hid (own_pl HO.out rfl)
      obtain rfl : k = L.length := by omega
      go_wp2_with fail
      go_ret
      exact ⟨_, rfl, HF.out, HB.out⟩
    | succ gr =>
      have hkz : (k : Int) < (L.length : Int) := by omega
      obtain ⟨j, hj⟩ : ∃ j, j = (s + k) % L.length := ⟨_, rfl⟩
      have hjn : j < L.length := by rw [hj]; exact Nat.mod_lt _ (by omega)
      obtain ⟨b, off, rfl, hbl, c0, c1⟩ := HI.out j hjn
      have c0 := cell_later HB.out c0
      have c1 := cell_later HB.out c1
      have HJ : Hid (ptA L ((s + k) % L.length) = L[j]) := Lib.hid (by rw [← hj, ptA_at hjn])
      have x1 : IntKind.i64.wrap ((s : Int) + (k : Int)) = (s : Int) + (k : Int) := IntWalk.i64_in _ (by omega)
      have x3 : ((s : Int) + (k : Int)) % (L.length : Int) = (j : Int) := by
        rw [show ((s : Int) + (k : Int)) % (L.length : Int) = (((s + k) % L.length : Nat) : Int) from by push_cast; rfl, ← hj]
      have x2 : ((s : Int) + (k : Int)).tmod (L.length : Int) = (j : Int) := by rw [Int.tmod_eq_emod_of_nonneg (by omega)]; exact x3
      have x4 : IntKind.i64.wrap (j : Int) = (j : Int) := IntWalk.i64_in _ (by omega)
      have hn0 : ¬ (L.length : Int) = 0 := by omega
      have hn1 : ¬ L.length = 0 := by omega
      have hlen := map_len (fun i => ptA L ((s + i) % L.length)) k
      have HLen := Lib.hid hlen
      clear hj hlen
      generalize hX : (List.range k).map (fun i => ptA L ((s + i) % L.length)) = X at *
      have HX := Lib.hid hX
      clear hX
      generalize L[j] = p at *
      go_wp2_with (at_builtin; refine wpList_append_srcV rfl _ _ 26 rfl w.heap.size 32 i0 (.agg #[.int .i64 0, .int .i64 0]) 2 16 Try.underlying26 hi hz0 hz1 hz2 rfl (by decide) _ _ _ rfl (HO.out.alloc _) _ 1 [.int .i64 p.1, .int .i64 p.2] rfl (src_new _ _ _ _) rfl two_cells (by have := HLen.out; unfold maxLen; omega) (by have := HLen.out; omega) (by have := HB.out.size; simp <;> omega) ?_)
      intro v' w2 ho hg
      have HB2 : Hid (Below w.heap.size w w2) := Lib.hid ((HB.out.alloc HB.out.size _).grown hg (by have := HB.out.size; simp <;> omega) (fun q hq => (own_block HO.out hq).1))
      have HO2 : Hid (w2.ownsRow w.heap.size 32 2 v' ((List.range (k + 1)).map fun i => ptA L ((s + i) % L.length)).length (ptsL ((List.range (k + 1)).map fun i => ptA L ((s + i) % L.length)))) := Lib.hid (by
        have h := own_push (p := p) ho
        rw [← HJ.out, ← HX.out, range_push] at h
        exact h)
      clear ho hg
      go_wp2_with fail
      go_roundg gr
      case measure => omega
      case rel => exact ⟨k + 1, by omega, by go_num, HO2, HB2⟩
set_option maxRecDepth 100000 in
set_option maxHeartbeats 2000000 in
theorem rturned_any {w : World} {v : Value} {L : List (Int × Int)} (hI : PL w v L) (hL : L.length ≤ 1000) :
    Calls Try.prog 27 #[v] w fun e w' => ∃ u, e = .returned u ∧ PL w' u (turL L) ∧ Below w.heap.size w w' := by
  obtain ⟨i0, hi, hz0, hz1, hz2⟩ := info_parts infoP
  obtain ⟨pp, cap, rfl, hc, hcs⟩ := hI
  have HI := Lib.hid hcs
  clear hcs
  go_enter Try.func27, Try.ntmps27
  go_wp2_with fail
  go_loopg [3, 4] L.length (fun gk o i wx => ∃ k : Nat, k + gk = L.length ∧ i = .int .i64 (k : Int) ∧ Hid (wx.ownsRow w.heap.size 32 2 o ((List.range k).map fun i => ptA L ((L.length - i) % L.length)).length (ptsL ((List.range k).map fun i => ptA L ((L.length - i) % L.length)))) ∧ Hid (Below w.heap.size w wx))
  case atStart => exact ⟨0, by omega, rfl, Lib.hid (World.ownsRow_nil _ _ _ _), Lib.hid (Below.refl _ _)⟩
  case round =>
    obtain ⟨k, hkg, rfl, HO, HB⟩ := hrel
    cases gk with
    | zero =>
      have hkz : ¬ ((k : Int) < (L.length : Int)) := by omega
      have HF := Lib.hid (own_pl HO.out rfl)
      obtain rfl : k = L.length := by omega
      go_wp2_with fail
      go_ret
      exact ⟨_, rfl, HF.out, HB.out⟩
    | succ gr =>
      have hkz : (k : Int) < (L.length : Int) := by omega
      obtain ⟨j, hj⟩ : ∃ j, j = (L.length - k) % L.length := ⟨_, rfl⟩
      have hjn : j < L.length := by rw [hj]; exact Nat.mod_lt _ (by omega)
      obtain ⟨b, off, rfl, hbl, c0, c1⟩ := HI.out j hjn
      have c0 := cell_later HB.out c0
      have c1 := cell_later HB.out c1
      have HJ : Hid (ptA L ((L.length - k) % L.length) = L[j]) := Lib.hid (by rw [← hj, ptA_at hjn])
      have x1 : IntKind.i64.wrap ((L.length : Int) - (k : Int)) = (L.length : Int) - (k : Int) := IntWalk.i64_in _ (by omega)
      have x3 : ((L.length : Int) - (k : Int)) % (L.length : Int) = (j : Int) := by
        rw [show ((L.length : Int) - (k : Int)) % (L.length : Int) = (((L.length - k) % L.length : Nat) : Int) from by rw [show (L.length : Int) - (k : Int) = ((L.length - k : Nat) : Int) from by omega]; push_cast; rfl, ← hj]
      have x2 : ((L.length : Int) - (k : Int)).tmod (L.length : Int) = (j : Int) := by rw [Int.tmod_eq_emod_of_nonneg (by omega)]; exact x3
      have x4 : IntKind.i64.wrap (j : Int) = (j : Int) := IntWalk.i64_in _ (by omega)
      have hn0 : ¬ (L.length : Int) = 0 := by omega
      have hn1 : ¬ L.length = 0 := by omega
      have hlen := map_len (fun i => ptA L ((L.length - i) % L.length)) k
      have HLen := Lib.hid hlen
      clear hj hlen
      generalize hX : (List.range k).map (fun i => ptA L ((L.length - i) % L.length)) = X at *
      have HX := Lib.hid hX
      clear hX
      generalize L[j] = p at *
      go_wp2_with (at_builtin; refine wpList_append_srcV rfl _ _ 26 rfl w.heap.size 32 i0 (.agg #[.int .i64 0, .int .i64 0]) 2 16 Try.underlying26 hi hz0 hz1 hz2 rfl (by decide) _ _ _ rfl (HO.out.alloc _) _ 1 [.int .i64 p.1, .int .i64 p.2] rfl (src_new _ _ _ _) rfl two_cells (by have := HLen.out; unfold maxLen; omega) (by have := HLen.out; omega) (by have := HB.out.size; simp <;> omega) ?_)
      intro v' w2 ho hg
      have HB2 : Hid (Below w.heap.size w w2) := Lib.hid ((HB.out.alloc HB.out.size _).grown hg (by have := HB.out.size; simp <;> omega) (fun q hq => (own_block HO.out hq).1))
      have HO2 : Hid (w2.ownsRow w.heap.size 32 2 v' ((List.range (k + 1)).map fun i => ptA L ((L.length - i) % L.length)).length (ptsL ((List.range (k + 1)).map fun i => ptA L ((L.length - i) % L.length)))) := Lib.hid (by
        have h := own_push (p := p) ho
        rw [← HJ.out, ← HX.out, range_push] at h
        exact h)
      clear ho hg
      go_wp2_with fail
      go_roundg gr
      case measure => omega
      case rel => exact ⟨k + 1, by omega, by go_num, HO2, HB2⟩

set_option maxRecDepth 100000 in
set_option maxHeartbeats 2000000 in
theorem rfirst_any {w : World} {v : Value} {L : List (Int × Int)} (hI : PL w v L) (hL : L.length ≤ 1000) :
    Calls Try.prog 30 #[v] w fun e w' => e = .returned (.int .i64 (fsI (ptA L) L.length : Nat)) ∧ Below w.heap.size w w' := by
  have hmx : Try.prog.follows .mixedOrders = true := by kernel_rfl
  obtain ⟨p, cap, rfl, hc, hi⟩ := hI
  have HC := Lib.hid hi
  clear hi
  have HZ : Hid (fsI (ptA L) 1 = 0) := Lib.hid (by unfold fsI; split <;> rfl)
  go_enter Try.func30, Try.ntmps30
  go_wp2_with fail
  go_loopg [3, 4] (L.length - 1) (fun gk s i wx => ∃ k : Nat, 1 ≤ k ∧ (k + gk = L.length ∨ k = 1 ∧ gk = 0 ∧ L.length = 0) ∧ i = .int .i64 (k : Int) ∧ s = .int .i64 (fsI (ptA L) k : Nat) ∧ Hid (Below w.heap.size w wx))
  case atStart => exact ⟨1, by omega, by omega, rfl, by rw [HZ.out]; rfl, Lib.hid (Below.refl _ _)⟩
  case round =>
    obtain ⟨k, hk1, hkg, rfl, rfl, HB⟩ := hrel
    cases gk with
    | zero =>
      have hkz : ¬ ((k : Int) < (L.length : Int)) := by omega
      have HF : Hid (fsI (ptA L) k = fsI (ptA L) L.length) := Lib.hid (by
        rcases hkg with h | ⟨h, _, h2⟩
        · rw [← h]; rfl
        · rw [h, h2, HZ.out]; rfl)
      clear hkg
      generalize fsI (ptA L) k = j at *
      go_wp2_with fail
      go_ret
      exact ⟨ret_int (by rw [HF.out]), HB.out⟩
    | succ gr =>
      have hkg' : k + (gr + 1) = L.length := by omega
      have hkz : (k : Int) < (L.length : Int) := by omega
      have hkn : k < L.length := by omega
      have HJ : Hid (fsI (ptA L) (k + 1) = if lessB (ptA L k).1 (ptA L k).2 (ptA L (fsI (ptA L) k)).1 (ptA L (fsI (ptA L) k)).2 then k else fsI (ptA L) k) := Lib.hid rfl
      have hjn : fsI (ptA L) k < L.length := by have := fsI_lt (ptA L) k (by omega); omega
      clear hkg
      generalize fsI (ptA L) k = j at *
      obtain ⟨b, off, rfl, hbl, c0, c1⟩ := HC.out k hkn
      obtain ⟨b', off', e, _, d0, d1⟩ := HC.out j hjn
      obtain ⟨rfl, rfl⟩ : b' = b ∧ off' = off := by injection e with e; injection e with e1 e2; exact ⟨e1.symm, e2.symm⟩
      rw [ptA_at hkn, ptA_at hjn] at HJ
      have hjz : (j : Int) < (L.length : Int) := by omega
      have r0 := fun d os => cell_regrown (cell_later HB.out c0) d os
      have r1 := fun d os => cell_regrown (cell_later HB.out c1) d os
      have r2 := fun d os => cell_regrown (cell_later HB.out d0) d os
      have r3 := fun d os => cell_regrown (cell_later HB.out d1) d os
      clear c0 c1 d0 d1
      generalize L[k] = A at *
      generalize L[j] = C at *
      have KL := Lib.hid (fun W => rless_any A.1 A.2 C.1 C.2 W)
      generalize lessB A.1 A.2 C.1 C.2 = lb at *
      have KC : Hid (∀ (W : World) (d : Nat) (os : Array Obj), Calls Try.prog 78 #[.agg #[.int .i64 A.1, .int .i64 A.2], .agg #[.int .i64 C.1, .int .i64 C.2]] (grow (redrawn W d) os) fun e w'' => e = .returned (.bool lb) ∧ ∃ p : Regrown, w'' = grow (redrawn W p.d) p.os) :=
        Lib.hid (fun W d os => Calls.regrown_of (KL.out _))
      go_wp2_with fail
      refine wp_region_quiet_below (by assumption) (by kernel_rfl) ?_
      repeat (go_big_quiet_step ((go_at_call 78; with_reducible exact KC.out _ _ _)))
      refine wpQuiet_nil ?_
      rintro _ ⟨pg, rfl⟩
      have HB2 := Lib.hid (HB.out.trans ((below_regrown wr pg.d pg.os).mono HB.out.size))
      clear r0 r1 r2 r3 KC
      generalize grow (redrawn wr pg.d) pg.os = w5 at *
      cases lb
      · have HJ2 : Hid (fsI (ptA L) (k + 1) = j) := Lib.hid (by rw [HJ.out]; rfl)
        go_wp2_with fail
        go_roundg gr
        case measure => omega
        case rel => exact ⟨k + 1, by omega, by omega, by go_num, by rw [HJ2.out], HB2⟩
      · have HJ2 : Hid (fsI (ptA L) (k + 1) = k) := Lib.hid (by rw [HJ.out]; rfl)
        go_wp2_with fail
        go_roundg gr
        case measure => omega
        case rel => exact ⟨k + 1, by omega, by omega, by go_num, by rw [HJ2.out], HB2⟩

/-- Are rings alike, by the document? -/
def alkP (A B : List (Int × Int)) (k : Nat) : Prop := A = B ∨ ∃ i, 1 ≤ i ∧ i < k ∧ A = froL B i
def AkPost (A B : List (Int × Int)) (w : World) (e : Ending) (w' : World) : Prop := ∃ b : Bool, e = .returned (.bool b) ∧ (b = true ↔ alkP A B B.length) ∧ Below w.heap.size w w'
theorem froL_len (L : List (Int × Int)) (s : Nat) : (froL L s).length = L.length := by unfold froL; rw [List.length_map, List.length_range]
set_option maxRecDepth 100000 in
set_option maxHeartbeats 2000000 in
theorem ralike_any {w : World} {u v : Value} {A B : List (Int × Int)} (hA : PL w u A) (hB : PL w v B) (lA : A.length ≤ 1000) (lB : B.length ≤ 1000) :
    Calls Try.prog 32 #[u, v] w (AkPost A B w) := by
  have HA := Lib.hid hA
  have HB := Lib.hid hB
  obtain ⟨pa, ca, rfl, _, _⟩ := hA
  obtain ⟨pb, cb, rfl, _, _⟩ := hB
  go_enter Try.func32, Try.ntmps32
  go_wp2_with fail
  refine (rsame_any HA.out HB.out lA lB).mono ?_
  rintro e w1 ⟨rfl, hb1⟩
  have HB1 := Lib.hid hb1
  clear hb1
  by_cases hab : A = B
  · have HX : Hid (alkP A B B.length) := Lib.hid (Or.inl hab)
    rw [decide_eq_true hab]
    clear hab
    go_wp2_with fail
    go_ret
    exact ⟨true, rfl, ⟨fun _ => HX.out, fun _ => rfl⟩, HB1.out⟩
  · rw [decide_eq_false hab]
    have HN := Lib.hid hab
    clear hab
    go_wp2_with fail
    go_loopg [5] (B.length - 1) (fun gk i wx => ∃ k : Nat, 1 ≤ k ∧ (k + gk = B.length ∨ k = 1 ∧ gk = 0 ∧ B.length = 0) ∧ i = .int .i64 (k : Int) ∧ Hid (Below w.heap.size w wx) ∧ Hid (¬ alkP A B k))
    case atStart => exact ⟨1, by omega, by omega, rfl, HB1, Lib.hid (by
      rintro (h | ⟨i, h1, h2, _⟩)
      · exact HN.out h
      · omega)⟩
    case round =>
      obtain ⟨k, hk1, hkg, rfl, HW, HK⟩ := hrel
      cases gk with
      | zero =>
        have hkz : ¬ ((k : Int) < (B.length : Int)) := by omega
        have HF : Hid (¬ alkP A B B.length) := Lib.hid (by
          rcases hkg with h | ⟨h, _, h2⟩
          · rw [← h]; exact HK.out
          · rintro (h' | ⟨i, h1, h3, _⟩)
            · exact HN.out h'
            · omega)
        clear hkg
        go_wp2_with fail
        go_ret
        exact ⟨false, rfl, ⟨fun h => (by cases h), fun h => absurd h HF.out⟩, HW.out⟩
      | succ gr =>
        have hkg' : k + (gr + 1) = B.length := by omega
        have hkz : (k : Int) < (B.length : Int) := by omega
        clear hkg
        go_wp2_with fail
        refine (rfrom_any k (HB.out.keep HW.out) lB (by omega)).mono ?_
        rintro e w2 ⟨f, rfl, hf, hb2⟩
        have HF := Lib.hid hf
        have HW2 := Lib.hid (HW.out.trans (hb2.mono HW.out.size))
        clear hf hb2
        go_wp2_with fail
        refine (rsame_any (HA.out.keep HW2.out) HF.out lA (by rw [froL_len]; exact lB)).mono ?_
        rintro e w3 ⟨rfl, hb3⟩
        have HW3 := Lib.hid (HW2.out.trans (hb3.mono HW2.out.size))
        clear hb3
        by_cases hx : A = froL B k
        · have HX : Hid (alkP A B B.length) := Lib.hid (Or.inr ⟨k, hk1, by omega, hx⟩)
          rw [decide_eq_true hx]
          clear hx
          go_wp2_with fail
          go_ret
          exact ⟨true, rfl, ⟨fun _ => HX.out, fun _ => rfl⟩, HW3.out⟩
        · rw [decide_eq_false hx]
          have HX : Hid (¬ alkP A B (k + 1)) := Lib.hid (by
            rintro (h | ⟨i, h1, h2, h3⟩)
            · exact HN.out h
            · rcases Nat.lt_or_ge i k with hik | hik
              · exact HK.out (Or.inr ⟨i, h1, hik, h3⟩)
              · obtain rfl : i = k := by omega
                exact hx h3)
          clear hx
          go_wp2_with fail
          go_roundg gr
          case measure => omega
          case rel => exact ⟨k + 1, by omega, by omega, by go_num, HW3, HX⟩

/-- Without what is the same as the one ahead. -/
def thA (P : Nat → Int × Int) : Nat → List (Int × Int)
  | 0 => []
  | k + 1 => if k = 0 ∨ P k ≠ P (k - 1) then thA P k ++ [P k] else thA P k
theorem thA_len (P : Nat → Int × Int) : ∀ k, (thA P k).length ≤ k
  | 0 => Nat.le_refl _
  | k + 1 => by
    have := thA_len P k
    unfold thA
    split
    · rw [List.length_append]; simp; omega
    · omega
/-- The last ones go, while they are the first. -/
def trimN (X : List (Int × Int)) : Nat → Nat
  | 0 => 0
  | 1 => 1
  | m + 2 => if ptA X 0 = ptA X (m + 1) then trimN X (m + 1) else m + 2
theorem trimN_le (X : List (Int × Int)) : ∀ m, trimN X m ≤ m
  | 0 => Nat.le_refl _
  | 1 => Nat.le_refl _
  | m + 2 => by
    have := trimN_le X (m + 1)
    unfold trimN
    split <;> omega
def thnR (L : List (Int × Int)) : List (Int × Int) := (thA (ptA L) L.length).take (trimN (thA (ptA L) L.length) (thA (ptA L) L.length).length)
theorem thnR_of {L X : List (Int × Int)} (h : thA (ptA L) L.length = X) : thnR L = X.take (trimN X X.length) := by unfold thnR; rw [h]
theorem PL.upto {W : World} {p : Option Addr} {cap : Nat} {L : List (Int × Int)} (h : PL W (.slice p L.length cap) L) (m : Nat) (hm : m ≤ L.length) : PL W (.slice p m cap) (L.take m) := by
  obtain ⟨p', cap', e, hc, hi⟩ := h
  injection e with e1 _ e3
  subst e1; subst e3
  have hl : (L.take m).length = m := by rw [List.length_take]; omega
  refine ⟨_, _, by rw [hl], by omega, fun i h => ?_⟩
  obtain ⟨b, off, hp, hb, c0, c1⟩ := hi i (by omega)
  rw [List.getElem_take]
  exact ⟨b, off, hp, hb, c0, c1⟩

set_option maxRecDepth 100000 in
set_option maxHeartbeats 4000000 in
theorem rthin_any {w : World} {v : Value} {L : List (Int × Int)} (hI : PL w v L) (hL : L.length ≤ 1000) :
    Calls Try.prog 25 #[v] w fun e w' => ∃ u, e = .returned u ∧ PL w' u (thnR L) ∧ Below w.heap.size w w' := by
  have hmx : Try.prog.follows .mixedOrders = true := by kernel_rfl
  obtain ⟨i0, hi, hz0, hz1, hz2⟩ := info_parts infoP
  obtain ⟨pp, cap, rfl, hc, hcs⟩ := hI
  have HI := Lib.hid hcs
  clear hcs
  go_enter Try.func25, Try.ntmps25
  go_wp2_with fail
  go_loopg [3, 4] L.length (fun gk o i wx => ∃ k : Nat, k + gk = L.length ∧ i = .int .i64 (k : Int) ∧ Hid (wx.ownsRow w.heap.size 32 2 o (thA (ptA L) k).length (ptsL (thA (ptA L) k))) ∧ Hid (Below w.heap.size w wx))
  case atStart => exact ⟨0, by omega, rfl, Lib.hid (World.ownsRow_nil _ _ _ _), Lib.hid (Below.refl _ _)⟩
  case round =>
    obtain ⟨k, hkg, rfl, HO, HB⟩ := hrel
    cases gk with
    | zero =>
      have hkz : ¬ ((k : Int) < (L.length : Int)) := by omega
      have hkL : k = L.length := by omega
      have HF := Lib.hid (own_pl HO.out rfl)
      have HLen := Lib.hid (thA_len (ptA L) k)
      obtain ⟨q, c, rfl, hqc, hqi⟩ := HF.out
      have HQ := Lib.hid hqi
      have HWr := Lib.hid HB.out
      have hX : (thA (ptA L) k).length ≤ 1000 := by have := HLen.out; omega
      have HXd : Hid (thA (ptA L) L.length = thA (ptA L) k) := Lib.hid (by rw [hkL])
      generalize thA (ptA L) k = X at *
      have HTh := Lib.hid (thnR_of HXd.out)
      clear hqi hkL HXd hkg HO HB HI HLen
      go_wp2_with fail
      clear hkz
      go_loopg [3] X.length (fun gk o wx => o = .slice q gk c ∧ gk ≤ X.length ∧ Hid (Below w.heap.size w wx ∧ PL wx (.slice q X.length c) X) ∧ Hid (trimN X gk = trimN X X.length))
      case atStart => exact ⟨rfl, Nat.le_refl _, Lib.hid ⟨HWr.out, HF.out⟩, Lib.hid rfl⟩
      case round =>
        obtain ⟨rfl, hgX, HS, HT⟩ := hrel
        rcases gk with _ | _ | m
        · have HR : Hid (PL wr (.slice q 0 c) (thnR L)) := Lib.hid (by
            rw [HTh.out, ← HT.out]
            exact HS.out.2.upto 0 (by omega))
          go_wp2_with fail
          go_region
          go_wp2_with fail
          go_ret
          exact ⟨_, rfl, HR.out.keep (Below.refl _ _).drew, HS.out.1.drew⟩
        · have HR : Hid (PL wr (.slice q 1 c) (thnR L)) := Lib.hid (by
            rw [HTh.out, ← HT.out]
            exact HS.out.2.upto 1 (by omega))
          go_wp2_with fail
          go_region
          go_wp2_with fail
          go_ret
          exact ⟨_, rfl, HR.out.keep (Below.refl _ _).drew, HS.out.1.drew⟩
        · obtain ⟨b, off, rfl, _, _, _⟩ := HQ.out 0 (by omega)
          obtain ⟨_, _, e, _, hi'⟩ := HS.out.2
          injection e with e1 _ e3
          subst e1; subst e3
          obtain ⟨b1, off1, e, _, c0, c1⟩ := hi' 0 (by omega)
          obtain ⟨rfl, rfl⟩ : b1 = b ∧ off1 = off := by injection e with e; injection e with e1 e2; exact ⟨e1.symm, e2.symm⟩
          obtain ⟨b2, off2, e, _, d0, d1⟩ := hi' (m + 1) (by omega)
          obtain ⟨rfl, rfl⟩ : b2 = b1 ∧ off2 = off1 := by injection e with e; injection e with e1 e2; exact ⟨e1.symm, e2.symm⟩
          clear hi'
          have HP0 := Lib.hid (ptA_at (L := X) (i := 0) (by omega))
          have HP1 := Lib.hid (ptA_at (L := X) (i := m + 1) (by omega))
          generalize X[0] = p at *
          generalize X[m + 1] = q at *
          rw [Nat.zero_mul, Nat.add_zero] at c0 c1
          have x1 : IntKind.i64.wrap (((m + 1 + 1 : Nat) : Int) - 1) = ((m + 1 : Nat) : Int) := by rw [show ((m + 1 + 1 : Nat) : Int) - 1 = ((m + 1 : Nat) : Int) from by omega]; exact IntWalk.i64_in _ (by omega)
          have g1 : (1 : Int) < ((m + 1 + 1 : Nat) : Int) := by omega
          have g2 : ((m + 1 : Nat) : Int) < ((m + 1 + 1 : Nat) : Int) := by omega
          have hq := fun W => rql_pt p.1 p.2 q.1 q.2 W
          have HE := Lib.hid (eqB_pt p q)
          have HT2 : Hid (trimN X (m + 1 + 1) = if ptA X 0 = ptA X (m + 1) then trimN X (m + 1) else m + 1 + 1) := Lib.hid rfl
          generalize eqB p.1 p.2 q.1 q.2 = eb at *
          generalize hm2 : m + 1 + 1 = m2 at *
          generalize hm1 : m + 1 = m1 at *
          have HM := Lib.hid (And.intro hm1 hm2)
          clear hm1 hm2
          cases eb
          · have HR : Hid (PL wr (.slice (some ⟨b2, off2, none⟩) m2 c) (thnR L)) := Lib.hid (by
              have h2 := HT2.out
              rw [if_neg (fun h => by rw [HP0.out, HP1.out] at h; have := HE.out.2 h; cases this)] at h2
              rw [HTh.out, ← HT.out, h2]
              exact HS.out.2.upto m2 hgX)
            go_wp2_with fail
            go_big_region
            go_wp2_with fail
            go_ret
            exact ⟨_, rfl, HR.out.keep (Below.refl _ _).drew, HS.out.1.drew⟩
          · have HT3 : Hid (trimN X m1 = trimN X X.length) := Lib.hid (by
              have h2 := HT2.out
              rw [if_pos (by rw [HP0.out, HP1.out]; exact HE.out.1 rfl)] at h2
              rw [← h2]; exact HT.out)
            have HS2 : Hid (Below w.heap.size w wr.drew ∧ PL wr.drew (.slice (some ⟨b2, off2, none⟩) X.length c) X) := Lib.hid ⟨HS.out.1.drew, HS.out.2.keep (Below.refl _ _).drew⟩
            have y1 : (m1 : Int) ≤ (c : Int) := by have := HM.out; omega
            have hmX : m1 ≤ X.length := by have := HM.out; omega
            go_wp2_with fail
            go_big_region
            go_wp2_with fail
            go_roundg m1
            case measure => have := HM.out; omega
            case rel => exact ⟨rfl, hmX, HS2, HT3⟩
    | succ gr =>
      have hkz : (k : Int) < (L.length : Int) := by omega
      have hkn : k < L.length := by omega
      obtain ⟨b, off, rfl, hbl, c0, c1⟩ := HI.out k hkn
      have c0 := cell_later HB.out c0
      have c1 := cell_later HB.out c1
      have HLen := Lib.hid (thA_len (ptA L) k)
      have HX : Hid (thA (ptA L) (k + 1) = if k = 0 ∨ ptA L k ≠ ptA L (k - 1) then thA (ptA L) k ++ [ptA L k] else thA (ptA L) k) := Lib.hid rfl
      have HPk := Lib.hid (ptA_at hkn)
      generalize thA (ptA L) k = X at *
      generalize L[k] = p at *
      go_upto_region 5 with fail
      go_cut [24] from 5 to 31 (fun s wx => s = .bool (decide (k = 0 ∨ ptA L k ≠ ptA L (k - 1))) ∧ wx = wr.drew)
      case first =>
        by_cases h0 : k = 0
        · have hk0 : (k : Int) = 0 := by omega
          have HD : Hid (decide (k = 0 ∨ ptA L k ≠ ptA L (k - 1)) = true) := Lib.hid (decide_eq_true (Or.inl h0))
          generalize decide (k = 0 ∨ ptA L k ≠ ptA L (k - 1)) = dd at *
          subst h0
          go_region
          go_wp2_with fail
          go_meet
          exact ⟨by rw [HD.out], rfl⟩
        · have hk0 : ¬ (k : Int) = 0 := by omega
          have hkb : ((k : Int) == 0) = false := beq_eq_false_iff_ne.2 hk0
          have hj : k - 1 < L.length := by omega
          obtain ⟨b', off', e, _, d0, d1⟩ := HI.out (k - 1) hj
          obtain ⟨rfl, rfl⟩ : b' = b ∧ off' = off := by injection e with e; injection e with e1 e2; exact ⟨e1.symm, e2.symm⟩
          have d0 := cell_later HB.out d0
          have d1 := cell_later HB.out d1
          have x1 : IntKind.i64.wrap ((k : Int) - 1) = ((k - 1 : Nat) : Int) := by rw [show (k : Int) - 1 = ((k - 1 : Nat) : Int) from by omega]; exact IntWalk.i64_in _ (by omega)
          have hjz : ((k - 1 : Nat) : Int) < (L.length : Int) := by omega
          have HPj := Lib.hid (ptA_at hj)
          generalize L[k - 1] = q at *
          have hq := fun W => rne_pt p.1 p.2 q.1 q.2 W
          have HE := Lib.hid (eqB_pt p q)
          have HV : Hid (decide (k = 0 ∨ ptA L k ≠ ptA L (k - 1)) = !eqB p.1 p.2 q.1 q.2) := Lib.hid (by
            rw [Bool.eq_iff_iff, decide_eq_true_iff, Bool.not_eq_true', ← Bool.not_eq_true, HE.out, HPk.out, HPj.out]
            simp [h0])
          generalize decide (k = 0 ∨ ptA L k ≠ ptA L (k - 1)) = dd at *
          generalize k - 1 = j at *
          generalize eqB p.1 p.2 q.1 q.2 = eb at *
          cases eb
          · go_big_region
            go_wp2_with fail
            go_meet
            exact ⟨by rw [HV.out]; rfl, rfl⟩
          · go_big_region
            go_wp2_with fail
            go_meet
            exact ⟨by rw [HV.out]; rfl, rfl⟩
      case rest =>
        obtain ⟨rfl, rfl⟩ := hcut
        have HO1 := Lib.hid (show wr.drew.ownsRow w.heap.size 32 2 _ _ _ from HO.out)
        have HB1 := Lib.hid HB.out.drew
        have c0 : wr.drew.cell? ⟨b, off + k * 2, none⟩ = some (.int .i64 p.1) := c0
        have c1 : wr.drew.cell? ⟨b, off + k * 2 + 1, none⟩ = some (.int .i64 p.2) := c1
        generalize wr.drew = W1 at *
        by_cases hdd : k = 0 ∨ ptA L k ≠ ptA L (k - 1)
        · rw [decide_eq_true hdd]
          rw [if_pos hdd] at HX
          clear hdd
          go_wp2_with (at_builtin; refine wpList_append_srcV rfl _ _ 26 rfl w.heap.size 32 i0 (.agg #[.int .i64 0, .int .i64 0]) 2 16 Try.underlying26 hi hz0 hz1 hz2 rfl (by decide) _ _ _ rfl (HO1.out.alloc _) _ 1 [.int .i64 p.1, .int .i64 p.2] rfl (src_new _ _ _ _) rfl two_cells (by have := HLen.out; unfold maxLen; omega) (by have := HLen.out; omega) (by have := HB1.out.size; simp <;> omega) ?_)
          intro v' w2 ho hg
          have HB2 : Hid (Below w.heap.size w w2) := Lib.hid ((HB1.out.alloc HB1.out.size _).grown hg (by have := HB1.out.size; simp <;> omega) (fun q hq => (own_block HO1.out hq).1))
          have HO2 : Hid (w2.ownsRow w.heap.size 32 2 v' (thA (ptA L) (k + 1)).length (ptsL (thA (ptA L) (k + 1)))) := Lib.hid (by
            rw [HX.out, HPk.out]; exact own_push ho)
          clear ho hg
          go_wp2_with fail
          go_roundg gr
          case measure => omega
          case rel => exact ⟨k + 1, by omega, by go_num, HO2, HB2⟩
        · rw [decide_eq_false hdd]
          rw [if_neg hdd] at HX
          have HO2 := Lib.hid (show W1.ownsRow w.heap.size 32 2 _ (thA (ptA L) (k + 1)).length (ptsL (thA (ptA L) (k + 1))) from by
            rw [HX.out]; exact HO1.out)
          clear hdd
          go_wp2_with fail
          go_roundg gr
          case measure => omega
          case rel => exact ⟨k + 1, by omega, by go_num, HO2, HB1⟩
end Go.Proofs.Ytkibjbbhiclkmaa
