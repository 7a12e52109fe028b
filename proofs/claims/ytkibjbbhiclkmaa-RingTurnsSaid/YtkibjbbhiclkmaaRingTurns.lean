/- Any ring thinned, turned and begun at its least point is the document's, and whether two rings are alike is the document's, for any points (40 at most, as the statement says; P3.3): RingTurns returns true at every input.
   Conditions: none. -/
import Derived.Test.YtkibjbbhiclkmaaAlike
import Derived.Test.YtkibjbbhiclkmaaRow
import Derived.Test.YtkibjbbhiclkmaaOpenPts
namespace Go.Proofs.Ytkibjbbhiclkmaa
open Go.RowKit Go.Sort

theorem firL_fro (L : List (Int × Int)) : firL L = froL L (fsI (ptA L) L.length) := by
  have hle : fsI (ptA L) L.length ≤ L.length := by
    rcases Nat.eq_zero_or_pos L.length with h | h
    · rw [h]; exact Nat.le_refl _
    · exact Nat.le_of_lt (fsI_lt _ _ h)
  have hl : (firL L).length = L.length := by unfold firL; rw [List.length_append, List.length_drop, List.length_take]; omega
  refine List.ext_getElem (by rw [hl, froL_len]) fun i h1 h2 => ?_
  rw [← ptA_at h1, ← ptA_at h2, froL_at L _ i (by omega)]
  unfold firL cyp
  rw [rot_at L _ hle i (by omega), Nat.add_comm]
theorem cyp_fro (L : List (Int × Int)) (s x : Nat) (h0 : 0 < L.length) : cyp (froL L s) x = cyp L (s + x) := by
  have hx : x % L.length < L.length := Nat.mod_lt _ h0
  show ptA (froL L s) (x % (froL L s).length) = _
  rw [froL_len, froL_at L s _ hx]
  unfold cyp
  rw [Nat.add_mod_mod]
theorem alk_fro (L : List (Int × Int)) (s : Nat) (hs : L.length = 0 ∨ s < L.length) : alkP (froL L s) L L.length ∧ alkP L (froL L s) (froL L s).length := by
  rcases Nat.eq_zero_or_pos L.length with h0 | h0
  · have e : froL L s = L := by rw [List.eq_nil_of_length_eq_zero h0]; rfl
    rw [e]; exact ⟨Or.inl rfl, Or.inl rfl⟩
  · have hs' : s < L.length := by omega
    rw [alk_iff, alk_iff, froL_len]
    refine ⟨⟨rfl, Or.inr ⟨s, hs', fun t => cyp_fro L s t h0⟩⟩, rfl, Or.inr ⟨(L.length - s) % L.length, Nat.mod_lt _ h0, fun t => ?_⟩⟩
    rw [cyp_fro L s _ h0]
    have e : s + ((L.length - s) % L.length + t) = (L.length - s) % L.length + (s + t) := by omega
    rw [e, cyp_mod, show L.length - s + (s + t) = t + L.length from by omega, cyp_add]
theorem thnR_len (L : List (Int × Int)) : (thnR L).length ≤ L.length := by
  have := thA_len (ptA L) L.length
  unfold thnR
  rw [List.length_take]; omega

set_option maxRecDepth 100000 in
set_option maxHeartbeats 1000000 in
theorem lsame_any {w : World} {u v : Value} {A B : List (Int × Int)} (hA : PL w u A) (hB : PL w v B) (lA : A.length ≤ 50) (lB : B.length ≤ 50) :
    Calls Try.prog 23 #[u, v] w fun e w' => e = .returned (.bool (decide (A = B))) ∧ Below w.heap.size w w' := by
  have HA := Lib.hid hA
  have HB := Lib.hid hB
  clear hA hB
  go_enter Try.func23, Try.ntmps23
  go_wp2_with fail
  refine (ofs_pl HA.out lA).mono ?_
  rintro e w1 ⟨x, rfl, hx, hb1⟩
  have HX := Lib.hid hx
  have HB1 := Lib.hid hb1
  clear hx hb1
  go_wp2_with fail
  refine (rsame_any HX.out (HB.out.keep HB1.out) (by omega) (by omega)).mono ?_
  rintro e w2 ⟨rfl, hb2⟩
  have HB2 := Lib.hid (HB1.out.trans (hb2.mono HB1.out.size))
  clear hb2
  go_wp2_with fail
  go_ret
  exact ⟨rfl, HB2.out⟩
theorem u64_nat (n : Nat) (h : n ≤ 1000) : IntKind.u64.wrap (n : Int) = (n : Int) := by rw [IntKind.wrap_u64]; omega
theorem w64_nat (n : Nat) (h : n ≤ 1000) : wrap64 (n : Int) = (n : Int) := by unfold wrap64; omega
theorem i64_nat (n : Nat) (h : n ≤ 1000) : IntKind.i64.wrap (n : Int) = (n : Int) := IntWalk.i64_in _ (by omega)
/-- Both rings, and the first and the second one as the document's. -/
structure TuS (w W : World) (u v x y : Value) (A B : List (Int × Int)) : Prop where
  a : PL W u A
  b : PL W v B
  x : PL W x A
  y : PL W y B
  below : Below w.heap.size w W
theorem TuS.later {w W w1 : World} {u v x y : Value} {A B : List (Int × Int)} (h : TuS w W u v x y A B) (hb : Below W.heap.size W w1) : TuS w w1 u v x y A B :=
  ⟨h.a.keep hb, h.b.keep hb, h.x.keep hb, h.y.keep hb, h.below.trans (hb.mono h.below.size)⟩

set_option maxRecDepth 100000 in
set_option maxHeartbeats 4000000 in
theorem ringTurns_walk (v0 v1 : Value) (L0 L1 : List (Int × Int)) (c : Int) (w : World) (n0 : L0.length ≤ 9223372036854775807) (n1 : L1.length ≤ 9223372036854775807) (h0 : PL w v0 L0) (h1 : PL w v1 L1) :
    Calls Try.prog 4 #[v0, v1, .int .i64 c] w fun e w' => e = .returned (.bool true) ∧ Below w.heap.size w w' := by
  obtain ⟨i0, hi, hz0, hz1, hz2⟩ := info_parts infoAP
  have hc0 := cut3_any h0 n0
  have hc1 := cut3_any h1 n1
  have hlA : (L0.take 40).length ≤ 40 := by rw [List.length_take]; omega
  have hlB : (L1.take 40).length ≤ 40 := by rw [List.length_take]; omega
  generalize L0.take 40 = A at *
  generalize L1.take 40 = B at *
  have HA := Lib.hid hc0
  have HB := Lib.hid hc1
  clear hc0 hc1 h0 h1 n0 n1
  go_enter Try.func4, Try.ntmps4
  go_wp2_with fail
  refine HA.out.mono ?_
  rintro e w' ⟨u, rfl, hu, rfl⟩
  have HU := Lib.hid hu
  clear hu HA
  go_wp2_with fail
  refine HB.out.mono ?_
  rintro e w' ⟨v, rfl, hv, rfl⟩
  have HV := Lib.hid hv
  clear hv HB
  go_wp2_with fail
  refine (ofs_pl HU.out (by omega)).mono ?_
  rintro e w1 ⟨x, rfl, hx, hb1⟩
  have HX := Lib.hid hx
  have HB1 := Lib.hid hb1
  clear hx hb1
  go_wp2_with fail
  refine (ofs_pl (HV.out.keep HB1.out) (by omega)).mono ?_
  rintro e w2 ⟨y, rfl, hy, hb2⟩
  have HS2 : Hid (TuS w w2 u v x y A B) := Lib.hid ⟨(HU.out.keep HB1.out).keep hb2, (HV.out.keep HB1.out).keep hb2, HX.out.keep hb2, hy, HB1.out.trans (hb2.mono HB1.out.size)⟩
  clear hy hb2 HU HV HX HB1
  have hln := thnR_len A
  have hlt := turL_len A
  have hlf := froL_len A (fsI (ptA A) A.length)
  go_wp2_with fail
  refine (thin_any HS2.out.a (by omega)).mono ?_
  rintro e w3 ⟨t, rfl, ht, hb⟩
  have HS3 := Lib.hid (HS2.out.later hb)
  have HT := Lib.hid ht
  clear ht hb HS2
  go_wp2_with fail
  refine (rthin_any HS3.out.x (by omega)).mono ?_
  rintro e w4 ⟨t', rfl, ht', hb⟩
  have HS4 := Lib.hid (HS3.out.later hb)
  have HT1 := Lib.hid (HT.out.keep hb)
  have HT2 := Lib.hid ht'
  clear ht' hb HS3 HT
  go_wp2_with fail
  refine (lsame_any HT1.out HT2.out (by omega) (by omega)).mono ?_
  rintro e w5 ⟨rfl, hb⟩
  have HS5 := Lib.hid (HS4.out.later hb)
  rw [decide_eq_true rfl]
  clear hb HS4 HT1 HT2
  go_wp2_with fail
  refine (turned_any HS5.out.a (by omega)).mono ?_
  rintro e w6 ⟨t, rfl, ht, hb⟩
  have HS6 := Lib.hid (HS5.out.later hb)
  have HT := Lib.hid ht
  clear ht hb HS5
  go_wp2_with fail
  refine (rturned_any HS6.out.x (by omega)).mono ?_
  rintro e w7 ⟨t', rfl, ht', hb⟩
  have HS7 := Lib.hid (HS6.out.later hb)
  have HT1 := Lib.hid (HT.out.keep hb)
  have HT2 := Lib.hid ht'
  clear ht' hb HS6 HT
  go_wp2_with fail
  refine (lsame_any HT1.out HT2.out (by omega) (by omega)).mono ?_
  rintro e w8 ⟨rfl, hb⟩
  have HS8 := Lib.hid (HS7.out.later hb)
  rw [decide_eq_true rfl]
  clear hb HS7 HT1 HT2
  go_wp2_with fail
  refine (first_any HS8.out.a (by omega)).mono ?_
  rintro e w9 ⟨t, rfl, ht, hb⟩
  rw [firL_fro] at ht
  have HS9 := Lib.hid (HS8.out.later hb)
  have HT := Lib.hid ht
  clear ht hb HS8
  go_wp2_with fail
  refine (rfirst_any HS9.out.x (by omega)).mono ?_
  rintro e w10 ⟨rfl, hb⟩
  have HS10 := Lib.hid (HS9.out.later hb)
  have HT1 := Lib.hid (HT.out.keep hb)
  clear hb HS9 HT
  have hle : fsI (ptA A) A.length ≤ 1000 := by
    rcases Nat.eq_zero_or_pos A.length with h | h
    · rw [h]; unfold fsI; omega
    · have := fsI_lt (ptA A) _ h; omega
  generalize fsI (ptA A) A.length = fs at *
  go_wp2_with fail
  refine (rfrom_any fs HS10.out.x (by omega) hle).mono ?_
  rintro e w11 ⟨t', rfl, ht', hb⟩
  have HS11 := Lib.hid (HS10.out.later hb)
  have HT3 := Lib.hid (HT1.out.keep hb)
  have HT2 := Lib.hid ht'
  clear ht' hb HS10 HT1
  go_wp2_with fail
  refine (lsame_any HT3.out HT2.out (by omega) (by omega)).mono ?_
  rintro e w12 ⟨rfl, hb⟩
  have HS12 := Lib.hid (HS11.out.later hb)
  rw [decide_eq_true rfl]
  clear hb HS11 HT3 HT2 hle hlf hln hlt
  go_wp2_with fail
  refine (alike_any HS12.out.a HS12.out.b (by omega) (by omega)).mono ?_
  rintro e w13 ⟨b1, rfl, hb1, hb⟩
  have HS13 := Lib.hid (HS12.out.later hb)
  have HA1 := Lib.hid hb1
  clear hb hb1 HS12
  go_wp2_with fail
  refine (ralike_any HS13.out.x HS13.out.y (by omega) (by omega)).mono ?_
  rintro e w14 ⟨b2, rfl, hb2, hb⟩
  have HS14 := Lib.hid (HS13.out.later hb)
  obtain rfl : b2 = b1 := by rw [Bool.eq_iff_iff, hb2, HA1.out]
  clear hb hb2 HS13 HA1
  obtain ⟨qa, ka, rfl, _, ha⟩ := HS14.out.a
  have HC := Lib.hid ha
  clear ha
  obtain ⟨s, hs⟩ : ∃ s : Nat, (s : Int) = IntKind.u64.wrap c % (A.length : Int) ∨ A.length = 0 := by
    by_cases h : A.length = 0
    · exact ⟨0, Or.inr h⟩
    · refine ⟨(IntKind.u64.wrap c % (A.length : Int)).toNat, Or.inl ?_⟩
      have := Int.emod_nonneg (IntKind.u64.wrap c) (show (A.length : Int) ≠ 0 by omega)
      omega
  have HSs : Hid (A.length = 0 ∨ s < A.length) := Lib.hid (by
    rcases hs with h | h
    · by_cases h0 : A.length = 0
      · exact Or.inl h0
      · right
        have := Int.emod_lt_of_pos (IntKind.u64.wrap c) (show (0 : Int) < (A.length : Int) by omega)
        omega
    · exact Or.inl h)
  go_wp2_with fail
  go_loopg [9, 10] A.length (fun gk o i wx => ∃ k : Nat, k + gk = A.length ∧ i = .int .i64 (k : Int) ∧ Hid (wx.ownsRow w14.heap.size 24 2 o ((List.range k).map fun i => ptA A ((s + i) % A.length)).length (ptsL ((List.range k).map fun i => ptA A ((s + i) % A.length)))) ∧ Hid (Below w14.heap.size w14 wx))
  case atStart => exact ⟨0, by omega, rfl, Lib.hid (World.ownsRow_nil _ _ _ _), Lib.hid (Below.refl _ _)⟩
  case round =>
    obtain ⟨k, hkg, rfl, HO, HB⟩ := hrel
    cases gk with
    | zero =>
      have hkz : ¬ ((k : Int) < (A.length : Int)) := by omega
      have hkA : k = A.length := by omega
      have HF := Lib.hid (show PL wr _ (froL A s) from by have h := own_pl HO.out rfl; rw [hkA] at h; exact h)
      have HS15 := Lib.hid (HS14.out.later HB.out)
      have HQ := Lib.hid (alk_fro A s HSs.out)
      have hfl := froL_len A s
      clear hkA hs
      generalize froL A s = C at *
      go_wp2_with fail
      refine (known3_yes _).mono ?_
      rintro e w16 ⟨rfl, hb⟩
      have HS16 := Lib.hid (HS15.out.later hb)
      have HF16 := Lib.hid (HF.out.keep hb)
      clear hb HS15 HF
      go_wp2_with fail
      refine (alike_any HS16.out.a HF16.out (by omega) (by omega)).mono ?_
      rintro e w17 ⟨b3, rfl, hb3, hb⟩
      obtain rfl : b3 = true := hb3.2 HQ.out.2
      have HS17 := Lib.hid (HS16.out.later hb)
      have HF17 := Lib.hid (HF16.out.keep hb)
      clear hb hb3 HS16 HF16
      go_wp2_with fail
      refine (alike_any HF17.out HS17.out.a (by omega) (by omega)).mono ?_
      rintro e w18 ⟨b4, rfl, hb4, hb⟩
      obtain rfl : b4 = true := hb4.2 HQ.out.1
      have HS18 := Lib.hid (HS17.out.later hb)
      clear hb hb4 HS17 HF17
      go_wp2_with fail
      go_ret
      exact ⟨rfl, HS18.out.below⟩
    | succ gr =>
      have hkz : (k : Int) < (A.length : Int) := by omega
      have hsn : s < A.length := by rcases HSs.out with h | h; omega; exact h
      have hsU : (s : Int) = IntKind.u64.wrap c % (A.length : Int) := by rcases hs with h | h; exact h; omega
      obtain ⟨j, hj⟩ : ∃ j, j = (s + k) % A.length := ⟨_, rfl⟩
      have hjn : j < A.length := by rw [hj]; exact Nat.mod_lt _ (by omega)
      obtain ⟨b, off, rfl, hbl, c0, c1⟩ := HC.out j hjn
      have c0 := cell_later HB.out c0
      have c1 := cell_later HB.out c1
      have HJ : Hid (ptA A ((s + k) % A.length) = A[j]) := Lib.hid (by rw [← hj, ptA_at hjn])
      have hU0 : 0 ≤ IntKind.u64.wrap c := by rw [IntKind.wrap_u64]; omega
      have U2 : Hid ((IntKind.u64.wrap c).tmod (A.length : Int) = (s : Int)) := Lib.hid (by rw [Int.tmod_eq_emod_of_nonneg hU0]; exact hsU.symm)
      clear hsU hU0 hs
      have hs1000 : s ≤ 1000 := Nat.le_trans (Nat.le_of_lt hsn) (Nat.le_trans hlA (by decide))
      have hA1000 : A.length ≤ 1000 := Nat.le_trans hlA (by decide)
      have x1 : IntKind.i64.wrap ((s : Int) + (k : Int)) = (s : Int) + (k : Int) := IntWalk.i64_in _ (by omega)
      have x3 : ((s : Int) + (k : Int)) % (A.length : Int) = (j : Int) := by
        rw [show ((s : Int) + (k : Int)) % (A.length : Int) = (((s + k) % A.length : Nat) : Int) from by push_cast; rfl, ← hj]
      have x2 : ((s : Int) + (k : Int)).tmod (A.length : Int) = (j : Int) := by rw [Int.tmod_eq_emod_of_nonneg (by omega)]; exact x3
      have x4 : IntKind.i64.wrap (j : Int) = (j : Int) := IntWalk.i64_in _ (by omega)
      have hn0 : ¬ (A.length : Int) = 0 := by omega
      have hn1 : ¬ A.length = 0 := by omega
      have hlen := map_len (fun i => ptA A ((s + i) % A.length)) k
      have HLen := Lib.hid hlen
      have HY : Hid (((List.range k).map fun i => ptA A ((s + i) % A.length)).length + 1 ≤ maxLen ∧ (((List.range k).map fun i => ptA A ((s + i) % A.length)).length + 1) * 16 ≤ 140737488355328) := Lib.hid (by rw [hlen]; unfold maxLen; omega)
      clear hj hlen
      generalize hX : (List.range k).map (fun i => ptA A ((s + i) % A.length)) = X at *
      have HX := Lib.hid hX
      clear hX
      generalize A[j] = p at *
      have u1 := u64_nat A.length hA1000
      have u2 := U2.out
      have u3 := w64_nat s hs1000
      have u4 := i64_nat s hs1000
      have u5 := u64_nat s hs1000
      go_wp2_with (at_builtin; refine wpList_append_srcV rfl _ _ 22 rfl w14.heap.size 24 i0 (.agg #[.int .i64 0, .int .i64 0]) 2 16 Try.underlying22 hi hz0 hz1 hz2 rfl (by decide) _ _ _ rfl (HO.out.alloc _) _ 1 [.int .i64 p.1, .int .i64 p.2] rfl (src_new _ _ _ _) rfl two_cells HY.out.1 HY.out.2 (HB.out.alloc HB.out.size _).size ?_)
      intro v' w2 ho hg
      clear u1 u2 u3 u4 u5 x1 x2 x3 x4
      have HB2 : Hid (Below w14.heap.size w14 w2) := Lib.hid ((HB.out.alloc HB.out.size _).grown hg (by have := HB.out.size; simp <;> omega) (fun q hq => (own_block HO.out hq).1))
      have HO2 : Hid (w2.ownsRow w14.heap.size 24 2 v' ((List.range (k + 1)).map fun i => ptA A ((s + i) % A.length)).length (ptsL ((List.range (k + 1)).map fun i => ptA A ((s + i) % A.length)))) := Lib.hid (by
        have h := own_push (p := p) ho
        rw [← HJ.out, ← HX.out, range_push] at h
        exact h)
      clear ho hg
      go_wp2_with fail
      go_roundg gr
      case measure => omega
      case rel => exact ⟨k + 1, by omega, by go_num, HO2, HB2⟩
end Go.Proofs.Ytkibjbbhiclkmaa

namespace Go.Proofs.Ytkibjbbhiclkmaa
open Go.ChangeShapes Go.WideShapes Go.ChangeAt Go.RowKit

set_option maxRecDepth 100000 in
theorem ringTurns_lifted (os : Os) (started : os.Started) (H : Type) (enc : TypeId × Value → H) :
    ReturnsInHanded {} Try.checked os 4 .any (Rows.ringTurnsSpec.pre6 enc Try.prog Try.f4 Rows.ringTurnsRow.domain false) (Rows.ringTurnsSpec.post enc Try.prog Try.f4 false true false false) := by
  refine returnsInHanded_of_change (C := Try.checked) Try.own started (by kernel_rfl) Try.func4
    (ChangeSpec.witness6 (enc := enc) (C := Try.checked) false ⟨#[], #[.slice none 0 0, .slice none 0 0, .int .i64 0], []⟩ 8 (by kernel_rfl) (by kernel_rfl) (by kernel_rfl) (by kernel_rfl)) ?_
  intro W base args ds gs before hval0 hW _ _
  have hval : ∀ (j : Nat) t v, Try.f4.params[j]? = some t → args[j]? = some v → Value.okWide Try.prog W .any base t v := hval0
  have hW' := hW
  obtain ⟨p, q, hA0, hV, rfl, _, _⟩ := hW
  have hA : DataW.TrodAll enc Try.prog W 0 (fun _ => true) true Try.f4.params.toList args.toList ds p := hA0
  rw [Try.params4] at hA hval
  obtain ⟨v0, vs0, d0, ds0, p0, z0, hargs, rfl, rfl, h0, r0⟩ := trodAll_cons hA
  obtain ⟨v1, vs1, d1, ds1, p1, z1, rfl, rfl, rfl, h1, r1⟩ := trodAll_cons r0
  obtain ⟨v2, vs2, d2, ds2, p2, z2, rfl, rfl, rfl, h2, r2⟩ := trodAll_cons r1
  obtain ⟨rfl, rfl, rfl⟩ := trodAll_nil r2
  obtain rfl : args = #[v0, v1, v2] := by cases args; simp_all
  obtain ⟨L0, I0, n0⟩ := open_pl (hval 0 22 v0 rfl rfl) h0
  obtain ⟨L1, I1, n1⟩ := open_pl (hval 1 22 v1 rfl rfl) h1
  obtain ⟨x2, rfl, _, _, _⟩ := open_int Try.underlying3 (hval 2 3 v2 rfl rfl) h2
  refine (ringTurns_walk v0 v1 L0 L1 x2 W n0 n1 I0 I1).mono fun e W' ⟨he, hb⟩ => ?_
  subst he
  exact ⟨_, rfl, law_post rfl (by kernel_rfl) (by rw [Try.params4]; intro t ht; (have ht' : t ∈ [22, 22, 3] := ht); simp only [List.mem_cons, List.not_mem_nil, or_false] at ht'; (rcases ht' with rfl | rfl | rfl <;> exact ⟨by kernel_rfl, of_decide_eq_true (by kernel_rfl)⟩)) hW' rfl hb⟩

theorem ringTurns_holds : Rows.RingTurnsSaid :=
  OpenClaim.holds_of_wide 4 Try.f4 rfl rfl rfl rfl rfl rfl rfl ⟨rfl, rfl, rfl, rfl, rfl⟩ rfl rfl rfl rfl rfl (by kernel_rfl) Try.func4 (by kernel_rfl)
    (of_decide_eq_true (by kernel_rfl)) (by unfold Func.isWrapper; rw [if_neg (of_decide_eq_false (by kernel_rfl))]; exact ⟨rfl, rfl⟩)
    (fun os started H enc _ => ringTurns_lifted os started H enc)
end Go.Proofs.Ytkibjbbhiclkmaa
