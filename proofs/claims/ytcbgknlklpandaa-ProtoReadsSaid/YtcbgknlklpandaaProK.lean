/- Walks of proto: Write. -/
import Derived.Test.YtcbgknlklpandaaProJ
namespace Go.Proofs.Ytcbgknlklpandaa
open Go.RowKit Go.Sort

/-- A field of a row: its cells, and its bytes. -/
def FAt (W : World) (g o : Nat) (f : Fd) (qb : Option Addr) (cb : Nat) : Prop := W.cell? ⟨g, o, none⟩ = some (.int .i64 f.num) ∧ W.cell? ⟨g, o + 1, none⟩ = some (.int .i64 f.kind) ∧ W.cell? ⟨g, o + 2, none⟩ = some (.int .u64 (f.n : Int)) ∧ W.cell? ⟨g, o + 3, none⟩ = some (.slice qb f.b.length cb) ∧ KL .u8 W (.slice qb f.b.length cb) f.b
/-- A slice of fields. -/
def FL (W : World) (v : Value) (L : List Fd) : Prop := ∃ q c, v = .slice q L.length c ∧ L.length ≤ c ∧ ∀ i (h : i < L.length), ∃ g o qb cb, q = some ⟨g, o, none⟩ ∧ FAt W g (o + i * 4) L[i] qb cb
theorem FL.keep {W W1 : World} {v : Value} {L : List Fd} (h : FL W v L) (hb : Below W.heap.size W W1) : FL W1 v L := by
  obtain ⟨q, c, e, hl, hx⟩ := h
  refine ⟨q, c, e, hl, fun i hi => ?_⟩
  obtain ⟨g, o, qb, cb, e2, c0, c1, c2, c3, hk⟩ := hx i hi
  exact ⟨g, o, qb, cb, e2, cell_later hb c0, cell_later hb c1, cell_later hb c2, cell_later hb c3, hk.keep hb⟩
def FdB (m : Nat) (f : Fd) : Prop := f.n < 18446744073709551616 ∧ (∀ x ∈ f.b, x < 256) ∧ f.b.length ≤ m
def wrO (L : List Fd) : List Nat := if wrE L = 0 then wrB L else []
def WrPost (L : List Fd) (w : World) (e : Ending) (w' : World) : Prop := ∃ u, e = .returned (.tuple #[u, .int .i64 (wrE L : Int)]) ∧ w'.ownsRow w.heap.size 5 1 u (wrO L).length (kcl .u8 (wrO L)) ∧ Below w.heap.size w w'
theorem wrB_take {L : List Fd} {i : Nat} (h : i < L.length) : wrB (L.take (i + 1)) = wrB (L.take i) ++ fby L[i] := by rw [List.take_succ_eq_append_getElem h, wrB_snoc]
set_option maxRecDepth 100000 in
set_option maxHeartbeats 4000000 in
theorem pwrite_any {w : World} {v : Value} {L : List Fd} (hF : FL w v L) (hl : L.length ≤ 1000) (hB : ∀ f ∈ L, FdB 1000 f) (hT : ∀ i, i ≤ L.length → (∀ f ∈ L.take i, chk f = 0) → (wrB (L.take i)).length ≤ 100000) : Calls Try.prog 31 #[v] w (WrPost L w) := by
  have hmx : Try.prog.follows .mixedOrders = true := by kernel_rfl
  obtain ⟨q, c, rfl, hlc, hx⟩ := id hF
  have HX := Lib.hid hx
  have HBd := Lib.hid hB
  have HT := Lib.hid hT
  have HPo : Hid (∀ u e w', wrE L = e → w'.ownsRow w.heap.size 5 1 u (wrO L).length (kcl .u8 (wrO L)) → Below w.heap.size w w' → WrPost L w (.returned (.tuple #[u, .int .i64 (e : Int)])) w') := Lib.hid (fun u e w' he ho hb => ⟨u, by rw [he], ho, hb⟩)
  clear hx hB hT hF
  go_enter Try.func31, Try.ntmps31
  go_wp2_with fail
  go_loopg [4, 10] L.length (fun gk v i wx => ∃ k : Nat, k + gk = L.length ∧ i = .int .i64 (k : Int) ∧ Hid (∀ f ∈ L.take k, chk f = 0) ∧ Hid (wx.ownsRow w.heap.size 5 1 v (wrB (L.take k)).length (kcl .u8 (wrB (L.take k))) ∧ Below w.heap.size w wx))
  case atStart => exact ⟨0, by omega, rfl, Lib.hid (fun f hf => by simp at hf), Lib.hid ⟨World.ownsRow_nil _ _ _ _, Below.refl _ _⟩⟩
  case round =>
    obtain ⟨k, hkg, rfl, HC, HS⟩ := hrel
    cases gk with
    | zero =>
      obtain rfl : k = L.length := by omega
      have hkz : ¬ (L.length : Int) < (L.length : Int) := by omega
      have HE : Hid (wrE L = 0) := Lib.hid (wrE_of (by have h := HC.out; rwa [List.take_length] at h))
      have HFi : Hid (WrPost L w (.returned (.tuple #[u4, .int .i64 0])) wr) := Lib.hid (HPo.out u4 0 wr HE.out (by
        have h := HS.out.1
        rw [List.take_length] at h
        unfold wrO
        rw [if_pos HE.out]
        exact h) HS.out.2)
      clear HE HPo
      go_wp2_with fail
      exact bodyPost_ret (v := .tuple #[u4, .int .i64 0]) (by simp [results, Try.results31, go_sem]) rfl HFi.out
    | succ gr =>
      have hkz : (k : Int) < (L.length : Int) := by omega
      have hkl : k < L.length := by omega
      obtain ⟨g, o, qb, cb, rfl, c0, c1, c2, c3, hk⟩ := HX.out k hkl
      have HKb := Lib.hid hk
      have c0 := cell_later HS.out.2 c0
      have c1 := cell_later HS.out.2 c1
      have c2 := cell_later HS.out.2 c2
      have c3 := cell_later HS.out.2 c3
      have HB1 := Lib.hid (HBd.out _ (List.getElem_mem hkl))
      have HTk := Lib.hid (wrB_take hkl)
      have HWE := Lib.hid (fun h => wrE_at hkl HC.out h)
      have HCk := Lib.hid (fun h => pcheck_any L[k] qb cb h)
      have HTl := Lib.hid (HT.out k (by omega) HC.out)
      have HC2 : Hid (chk L[k] = 0 → ∀ f ∈ L.take (k + 1), chk f = 0) := Lib.hid (fun h f hf => by
        rw [List.take_succ_eq_append_getElem hkl] at hf
        rcases List.mem_append.1 hf with hf | hf
        · exact HC.out f hf
        · rw [List.mem_singleton] at hf; rw [hf]; exact h)
      unfold ChkPost at HCk
      clear hk
      generalize L[k] = f at *
      generalize hP1 : wrB (L.take (k + 1)) = P1 at *
      have HP1 := Lib.hid hP1
      clear hP1
      generalize wrB (L.take k) = P at *
      have HBa := Lib.hid (below_after HS.out.2 (below_alloc wr (.cells #[.int .i64 f.num, .int .i64 f.kind, .int .u64 (f.n : Int), .slice qb f.b.length cb] 77)))
      have HOa := Lib.hid (World.ownsRow.alloc (w := wr) HS.out.1 (.cells #[.int .i64 f.num, .int .i64 f.kind, .int .u64 (f.n : Int), .slice qb f.b.length cb] 77))
      have HFa := Lib.hid (F4.new wr 77 (.int .i64 f.num) (.int .i64 f.kind) (.int .u64 (f.n : Int)) (.slice qb f.b.length cb))
      by_cases he : chk f = 0
      · have HAd := Lib.hid (fun V v (hB : Below w.heap.size w V) (ho : V.ownsRow w.heap.size 5 1 v P.length (kcl .u8 P)) => padd_any hB ho HTl.out HKb.out HB1.out.2.2 HB1.out.1 he)
        have HC3 := Lib.hid (HC2.out he)
        rw [he] at HCk
        clear HWE HC2 HC he
        go_upto_region 5 with fail
        generalize wr.alloc (.cells #[.int .i64 f.num, .int .i64 f.kind, .int .u64 (f.n : Int), .slice qb f.b.length cb] 77) = V at *
        clear c0 c1 c2 c3
        obtain ⟨c0, c1, c2, c3⟩ := HFa.out.cells
        go_wp2_with fail
        refine (HCk.out _).mono ?_
        rintro en w1 ⟨rfl, hb1⟩
        have HB2 := Lib.hid (below_after HBa.out hb1)
        have HO2 := Lib.hid (own_keepB hb1 HOa.out)
        have HF2 := Lib.hid (HFa.out.keep hb1)
        clear hb1 c0 c1 c2 c3 HBa HOa HFa HCk
        obtain ⟨c0, c1, c2, c3⟩ := HF2.out.cells
        go_wp2_with fail
        refine (HAd.out _ _ HB2.out HO2.out).mono ?_
        rintro en w2 ⟨u2, rfl, ho2, hb2⟩
        have HFi : Hid (w2.ownsRow w.heap.size 5 1 u2 P1.length (kcl .u8 P1) ∧ Below w.heap.size w w2) := Lib.hid ⟨by rw [HTk.out]; exact ho2, hb2⟩
        clear c0 c1 c2 c3 ho2 hb2
        go_wp2_with fail
        go_roundg gr
        case measure => omega
        case rel => exact ⟨k + 1, by omega, by go_num, HC3, by rw [HP1.out]; exact HFi⟩
      · have HE := Lib.hid (HWE.out he)
        have hez : ¬ (chk f : Int) = 0 := by omega
        have HNi : Hid (wrO L = []) := Lib.hid (by unfold wrO; rw [if_neg (by rw [HE.out]; exact he)])
        generalize chk f = ee at *
        clear HWE HC2 HC
        go_upto_region 5 with fail
        generalize wr.alloc (.cells #[.int .i64 f.num, .int .i64 f.kind, .int .u64 (f.n : Int), .slice qb f.b.length cb] 77) = V at *
        clear c0 c1 c2 c3
        obtain ⟨c0, c1, c2, c3⟩ := HFa.out.cells
        go_wp2_with fail
        refine (HCk.out _).mono ?_
        rintro en w1 ⟨rfl, hb1⟩
        have HFi : Hid (WrPost L w (.returned (.tuple #[.slice none 0 0, .int .i64 (ee : Int)])) w1) := Lib.hid (HPo.out _ ee w1 HE.out (by rw [HNi.out]; exact World.ownsRow_nil _ _ _ _) (below_after HBa.out hb1))
        clear hb1 c0 c1 c2 c3 HPo HE HNi
        go_wp2_with fail
        exact bodyPost_ret (v := .tuple #[.slice none 0 0, .int .i64 (ee : Int)]) (by simp [results, Try.results31, go_sem]) rfl HFi.out
end Go.Proofs.Ytcbgknlklpandaa
