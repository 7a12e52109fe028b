/- The law ProtoOnly. -/
import Derived.Test.YtcbgknlklpandaaProR
import Derived.Test.YtcbgknlklpandaaProS
namespace Go.Proofs.Ytcbgknlklpandaa
open Go.RowKit Go.Sort

def cutL (L : List Fd) : List Fd := (L.take 20).map cutF
theorem cutL_len (L : List Fd) : (cutL L).length ≤ 20 := by unfold cutL; rw [List.length_map, List.length_take]; omega
theorem cutL_in {L : List Fd} (h : ∀ f ∈ L, f.n < 18446744073709551616 ∧ ∀ x ∈ f.b, x < 256) : ∀ f ∈ cutL L, FdB 50 f := by
  intro f hf
  unfold cutL at hf
  obtain ⟨g, hg, rfl⟩ := List.mem_map.1 hf
  obtain ⟨h1, h2⟩ := h g (List.mem_of_mem_take hg)
  exact ⟨h1, fun x hx => h2 x (List.mem_of_mem_take hx), by unfold cutF; dsimp only; rw [List.length_take]; omega⟩
theorem ofN_in {num : Int} {L : List Fd} {f : Fd} (h : f ∈ ofN num L) : f ∈ L := (List.mem_filter.1 h).1
set_option maxRecDepth 100000 in
set_option maxHeartbeats 4000000 in
theorem onlyLaw_yes {w : World} {va vb : Value} {L0 M0 : List Fd} (hF : FL w va L0) (hG : FL w vb M0) (hL : ∀ f ∈ L0, f.n < 18446744073709551616 ∧ ∀ x ∈ f.b, x < 256) (hM : ∀ f ∈ M0, f.n < 18446744073709551616 ∧ ∀ x ∈ f.b, x < 256) (num : Int) :
    Calls Try.prog 8 #[va, vb, .int .i64 num] w fun e w' => e = .returned (.bool true) ∧ Below w.heap.size w w' := by
  have hmx : Try.prog.follows .mixedOrders = true := by kernel_rfl
  obtain ⟨i0, hi, hz0, hz1, hz2⟩ := info_parts infoD
  have HC1 := Lib.hid (lcut_any hF)
  have HC2 := Lib.hid (fun V (hV : Below w.heap.size w V) => lcut_any (w := V) (v := vb) (L := M0) (by
    obtain ⟨q, c, e, hl, hx⟩ := hG
    refine ⟨q, c, e, hl, fun i hi => ?_⟩
    obtain ⟨g, o, qb, cb, e2, c0, c1, c2, c3, hk⟩ := hx i hi
    exact ⟨g, o, qb, cb, e2, cell_later hV c0, cell_later hV c1, cell_later hV c2, cell_later hV c3, hk.keep hV⟩))
  have hA := cutL_in hL
  have hB := cutL_in hM
  have hAl := cutL_len L0
  have hBl := cutL_len M0
  unfold CuPost at HC1 HC2
  rw [show (L0.take 20).map cutF = cutL L0 from rfl] at HC1
  rw [show (M0.take 20).map cutF = cutL M0 from rfl] at HC2
  generalize cutL L0 = A at *
  generalize cutL M0 = Bm at *
  have HA := Lib.hid hA
  have HBb := Lib.hid hB
  have HFA : Hid (FB A) := Lib.hid (fun f hf => (HA.out f hf).2.1)
  have HFB : Hid (FB Bm) := Lib.hid (fun f hf => (HBb.out f hf).2.1)
  clear hF hG hL hM hA hB
  go_enter Try.func8, Try.ntmps8
  go_wp2_with fail
  refine HC1.out.mono ?_
  rintro en w1 ⟨u1, rfl, hf1, hb1⟩
  have HF1 := Lib.hid hf1
  have HB1 := Lib.hid hb1
  clear hf1 hb1 HC1
  go_wp2_with fail
  refine (HC2.out _ HB1.out).mono ?_
  rintro en w2 ⟨u2, rfl, hf2, hb2⟩
  have HG2 := Lib.hid hf2
  have HF2 := Lib.hid (HF1.out.keep hb2)
  have HB2 := Lib.hid (below_after HB1.out hb2)
  clear hf2 hb2 HC2 HF1 HB1
  go_wp2_with fail
  refine (lofs_any HF2.out (by omega)).mono ?_
  rintro en w3 ⟨u3, rfl, hr3, hb3⟩
  have HR3 := Lib.hid hr3
  have HF3 := Lib.hid (HF2.out.keep hb3)
  have HG3 := Lib.hid (HG2.out.keep hb3)
  have HB3 := Lib.hid (below_after HB2.out hb3)
  obtain ⟨q1, c1, rfl, _, _⟩ := HF3.out
  obtain ⟨q2, c2, rfl, _, _⟩ := HG3.out
  obtain ⟨q3, c3, rfl, _, hx3⟩ := hr3
  have HX3 := Lib.hid hx3
  clear hb3 hx3 HF2 HG2 HB2
  go_wp2_with fail
  go_loopg [8, 9] A.length (fun gk v i wx => ∃ k : Nat, k + gk = A.length ∧ i = .int .i64 (k : Int) ∧ Hid (wx.ownsRow w3.heap.size 81 4 v (ofN num (A.take k)).length (dcells (ofN num (A.take k))) ∧ Below w3.heap.size w3 wx))
  case atStart => exact ⟨0, by omega, rfl, Lib.hid ⟨World.ownsRow_nil _ _ _ _, Below.refl _ _⟩⟩
  case round =>
    obtain ⟨k, hkg, rfl, HS⟩ := hrel
    cases gk with
    | succ gr =>
      have hkz : (k : Int) < (A.length : Int) := by omega
      have hkl : k < A.length := by omega
      obtain ⟨g, o, rfl, d0, d1, d2, d3⟩ := HX3.out k hkl
      have d0 := cell_later HS.out.2 d0
      have d1 := cell_later HS.out.2 d1
      have d2 := cell_later HS.out.2 d2
      have d3 := cell_later HS.out.2 d3
      have HTk : Hid (A.take (k + 1) = A.take k ++ [A[k]]) := Lib.hid (List.take_succ_eq_append_getElem hkl)
      have hPl : (ofN num (A.take k)).length ≤ 20 := by have := ofN_len num (A.take k); rw [List.length_take] at this; omega
      generalize hP1 : A.take (k + 1) = P1 at *
      have HP1 := Lib.hid hP1
      clear hP1
      generalize A[k] = f at *
      generalize hP0 : A.take k = P0 at *
      clear hP0
      generalize hbb : bst f.b = bb at *
      have HBb := Lib.hid hbb
      clear hbb
      have HC : Hid (celD f = [.int .i64 f.num, .int .i64 f.kind, .int .u64 (f.n : Int), .string bb]) := Lib.hid (by unfold celD; rw [HBb.out])
      by_cases hn : f.num = num
      · have HE1 : Hid (ofN num P1 = ofN num P0 ++ [f]) := Lib.hid (by rw [HTk.out, ofN_yes hn])
        subst hn
        generalize hQ : ofN f.num P1 = Q1 at *
        have HQ := Lib.hid hQ
        clear hQ
        generalize ofN f.num P0 = P at *
        have HO1 := Lib.hid (World.ownsRow.alloc (w := wr) HS.out.1 (.cells #[.int .i64 f.num, .int .i64 f.kind, .int .u64 (f.n : Int), .string bb] 81))
        have HBa := Lib.hid (below_after HS.out.2 (below_alloc wr (.cells #[.int .i64 f.num, .int .i64 f.kind, .int .u64 (f.n : Int), .string bb] 81)))
        have hsz := HBa.out.size
        have HOne : Hid (∀ u ∈ ([.int .i64 f.num, .int .i64 f.kind, .int .u64 (f.n : Int), .string bb] : List Value), u.oneCell' = true) := Lib.hid (by intro u hu; simp at hu; rcases hu with rfl | rfl | rfl | rfl <;> rfl)
        go_wp2_with (at_builtin; refine wpList_append_srcO rfl (.tmp 29) (.tmp 34) 68 rfl w3.heap.size 81 i0 (.agg #[.int .i64 0, .int .i64 0, .int .u64 0, .string ⟨#[]⟩]) 4 40 Try.underlying68 hi hz0 hz1 hz2 rfl (by decide) _ P.length (dcells P) rfl HO1.out _ 1 ([.int .i64 f.num, .int .i64 f.kind, .int .u64 (f.n : Int), .string bb]) rfl (new_src4 _ _ _ _ _ _) (by rfl) HOne.out (by unfold maxLen; omega) (by omega) hsz ?_; intro v2 w2 ho2 hg2; (have HF9 : Hid (w2.ownsRow w3.heap.size 81 4 v2 Q1.length (dcells Q1) ∧ Below w3.heap.size w3 w2) := Lib.hid ⟨by rw [HE1.out, dcells_snoc, HC.out, List.length_append]; exact ho2, HBa.out.grown hg2 HBa.out.size (fun k e => (own_block HO1.out e).1)⟩); clear ho2 hg2)
        go_roundg gr
        case measure => omega
        case rel => exact ⟨k + 1, by omega, by go_num, by rw [HP1.out, HQ.out]; exact HF9⟩
      · have HE1 : Hid (ofN num P1 = ofN num P0) := Lib.hid (by rw [HTk.out, ofN_no hn])
        go_wp2_with fail
        go_roundg gr
        case measure => omega
        case rel => exact ⟨k + 1, by omega, by go_num, by rw [HP1.out, HE1.out]; exact HS⟩
    | zero =>
      obtain rfl : k = A.length := by omega
      have hkz : ¬ (A.length : Int) < (A.length : Int) := by omega
      have HS2 : Hid (wr.ownsRow w3.heap.size 81 4 u8 (ofN num A).length (dcells (ofN num A)) ∧ Below w3.heap.size w3 wr) := Lib.hid (by have h := HS.out; rwa [List.take_length] at h)
      have HRs := Lib.hid (own_rl HS2.out.1)
      have HF4 := Lib.hid (HF3.out.keep HS2.out.2)
      have HG4 := Lib.hid (HG3.out.keep HS2.out.2)
      have HB4 := Lib.hid (below_after HB3.out HS2.out.2)
      have hon := ofN_len num A
      have HOn : Hid (FB (ofN num A)) := Lib.hid (fun f hf => HFA.out f (ofN_in hf))
      obtain ⟨q8, c8, rfl, _, _⟩ := HRs.out
      clear HS HS2 HF3 HG3 HB3
      go_wp2_with fail
      refine (known8_yes _).mono ?_
      rintro en w5 ⟨rfl, hb5⟩
      have HF5 := Lib.hid (HF4.out.keep hb5)
      have HG5 := Lib.hid (HG4.out.keep hb5)
      have HRs5 := Lib.hid (HRs.out.keep hb5)
      have HB5 := Lib.hid (below_after HB4.out hb5)
      clear hb5 HF4 HG4 HRs HB4
      go_wp2_with fail
      refine (ponly_any HF5.out (by omega) (fun f hf => Nat.le_trans (HA.out f hf).2.2 (by omega)) num).mono ?_
      rintro en w6 ⟨u6, rfl, hf6, hb6⟩
      have HO6 := Lib.hid hf6
      have HF6 := Lib.hid (HF5.out.keep hb6)
      have HG6 := Lib.hid (HG5.out.keep hb6)
      have HRs6 := Lib.hid (HRs5.out.keep hb6)
      have HB6 := Lib.hid (below_after HB5.out hb6)
      obtain ⟨q6, c6, rfl, _, _⟩ := hf6
      clear hb6 HF5 HG5 HRs5 HB5
      go_wp2_with fail
      refine (lsame8_any (by omega) HO6.out HRs6.out HOn.out HOn.out).mono ?_
      rintro en w7 ⟨r7, rfl, hr7, hb7⟩
      obtain rfl : r7 = true := hr7.2 rfl
      have HF7 := Lib.hid (HF6.out.keep hb7)
      have HG7 := Lib.hid (HG6.out.keep hb7)
      have HB7 := Lib.hid (below_after HB6.out hb7)
      clear hr7 hb7 HF6 HG6 HRs6 HB6 HO6
      go_wp2_with fail
      refine (psame_any (by omega) HF7.out HG7.out HFA.out HFB.out).mono ?_
      rintro en w8 ⟨r8, rfl, hr8, hb8⟩
      have HR8 := Lib.hid hr8
      have HF8 := Lib.hid (HF7.out.keep hb8)
      have HG8 := Lib.hid (HG7.out.keep hb8)
      have HB8 := Lib.hid (below_after HB7.out hb8)
      clear hr8 hb8 HF7 HG7 HB7
      go_wp2_with fail
      refine (lofs_any HG8.out (by omega)).mono ?_
      rintro en w9 ⟨u9, rfl, hf9, hb9⟩
      have HO9 := Lib.hid hf9
      have HF9 := Lib.hid (HF8.out.keep hb9)
      have HB9 := Lib.hid (below_after HB8.out hb9)
      obtain ⟨q9, c9, rfl, _, _⟩ := hf9
      clear hb9 HF8 HG8 HB8
      go_wp2_with fail
      refine (lsame8_any (by omega) HF9.out HO9.out HFA.out HFB.out).mono ?_
      rintro en wa ⟨ra, rfl, hra, hba⟩
      obtain rfl : r8 = ra := by rw [Bool.eq_iff_iff, HR8.out, hra]
      have HFa := Lib.hid (HF9.out.keep hba)
      have HBa := Lib.hid (below_after HB9.out hba)
      clear hra hba HF9 HB9 HO9 HR8
      go_wp2_with fail
      refine (psame_any (by omega) HFa.out HFa.out HFA.out HFA.out).mono ?_
      rintro en wb ⟨rb, rfl, hrb, hbb⟩
      obtain rfl : rb = true := hrb.2 rfl
      have HBb := Lib.hid (below_after HBa.out hbb)
      clear hrb hbb
      go_wp2_with fail
      go_ret
      exact ⟨rfl, HBb.out⟩
end Go.Proofs.Ytcbgknlklpandaa
