/- Walks of the document's fields: Write. -/
import Derived.Test.YtcbgknlklpandaaProO
namespace Go.Proofs.Ytcbgknlklpandaa
open Go.RowKit Go.Sort

def RwPost8 (L : List Fd) (w : World) (e : Ending) (w' : World) : Prop := ∃ u, e = .returned (.tuple #[u, .int .i64 (wrE L : Int)]) ∧ w'.ownsRow w.heap.size 5 1 u (wrO L).length (kcl .u8 (wrO L)) ∧ Below w.heap.size w w'
set_option maxRecDepth 100000 in
set_option maxHeartbeats 4000000 in
theorem rwrite8_any {w : World} {v : Value} {L : List Fd} (hF : RL8 w v L) (hl : L.length ≤ 1000) (hB : ∀ f ∈ L, FdB 1000 f) (hT : ∀ i, i ≤ L.length → (∀ f ∈ L.take i, chk f = 0) → (wrB (L.take i)).length ≤ 100000) : Calls Try.prog 32 #[v] w (RwPost8 L w) := by
  have hmx : Try.prog.follows .mixedOrders = true := by kernel_rfl
  obtain ⟨i0, hi, hz0, hz1, hz2⟩ := info_parts info8
  obtain ⟨q, c, rfl, hlc, hx⟩ := id hF
  have HX := Lib.hid hx
  have HBd := Lib.hid hB
  have HT := Lib.hid hT
  have HPo : Hid (∀ u e w', wrE L = e → w'.ownsRow w.heap.size 5 1 u (wrO L).length (kcl .u8 (wrO L)) → Below w.heap.size w w' → RwPost8 L w (.returned (.tuple #[u, .int .i64 (e : Int)])) w') := Lib.hid (fun u e w' he ho hb => ⟨u, by rw [he], ho, hb⟩)
  clear hx hB hT hF
  go_enter Try.func32, Try.ntmps32
  go_wp2_with fail
  go_loopg [4, 5] L.length (fun gk v i wx => ∃ k : Nat, k + gk = L.length ∧ i = .int .i64 (k : Int) ∧ Hid (∀ f ∈ L.take k, chk f = 0) ∧ Hid (wx.ownsRow w.heap.size 5 1 v (wrB (L.take k)).length (kcl .u8 (wrB (L.take k))) ∧ Below w.heap.size w wx))
  case atStart => exact ⟨0, by omega, rfl, Lib.hid (fun f hf => by simp at hf), Lib.hid ⟨World.ownsRow_nil _ _ _ _, Below.refl _ _⟩⟩
  case round =>
    obtain ⟨k, hkg, rfl, HC, HS⟩ := hrel
    cases gk with
    | zero =>
      obtain rfl : k = L.length := by omega
      have hkz : ¬ (L.length : Int) < (L.length : Int) := by omega
      have HE : Hid (wrE L = 0) := Lib.hid (wrE_of (by have h := HC.out; rwa [List.take_length] at h))
      have HFi : Hid (RwPost8 L w (.returned (.tuple #[u4, .int .i64 0])) wr) := Lib.hid (HPo.out u4 0 wr HE.out (by
        have h := HS.out.1
        rw [List.take_length] at h
        unfold wrO
        rw [if_pos HE.out]
        exact h) HS.out.2)
      clear HE HPo
      go_wp2_with fail
      exact bodyPost_ret (v := .tuple #[u4, .int .i64 0]) (by simp [results, Try.results32, go_sem]) rfl HFi.out
    | succ gr =>
      have hkz : (k : Int) < (L.length : Int) := by omega
      have hkl : k < L.length := by omega
      obtain ⟨g, o, rfl, c0, c1, c2, c3⟩ := HX.out k hkl
      have c0 := cell_later HS.out.2 c0
      have c1 := cell_later HS.out.2 c1
      have c2 := cell_later HS.out.2 c2
      have c3 := cell_later HS.out.2 c3
      have HB1 := Lib.hid (HBd.out _ (List.getElem_mem hkl))
      have HTk := Lib.hid (wrB_take hkl)
      have HWE := Lib.hid (fun h => wrE_at hkl HC.out h)
      have HCk := Lib.hid (rcheck_any L[k] wr)
      have HTl := HT.out k (by omega) HC.out
      have HC2 : Hid (chk L[k] = 0 → ∀ f ∈ L.take (k + 1), chk f = 0) := Lib.hid (fun h f hf => by
        rw [List.take_succ_eq_append_getElem hkl] at hf
        rcases List.mem_append.1 hf with hf | hf
        · exact HC.out f hf
        · rw [List.mem_singleton] at hf; rw [hf]; exact h)
      unfold RcPost at HCk
      generalize L[k] = f at *
      generalize hP1 : wrB (L.take (k + 1)) = P1 at *
      have HP1 := Lib.hid hP1
      clear hP1
      generalize wrB (L.take k) = P at *
      by_cases he : chk f = 0
      · have HBy := Lib.hid (fun V => rbytes8_any he HB1.out.1 HB1.out.2.2 HB1.out.2.1 V)
        have hfl := (fby_len he HB1.out.1 (Nat.le_trans HB1.out.2.2 (by omega))).2
        have hf1 := HB1.out.2.2
        have HC3 := Lib.hid (HC2.out he)
        rw [he] at HCk
        generalize fby f = X at *
        generalize bst f.b = sb at *
        have hX : X.length ≤ 2000 := by omega
        clear HWE HC2 HC he hfl hf1
        go_wp2_with fail
        refine HCk.out.mono ?_
        rintro en w1 ⟨rfl, hb1⟩
        have HB2 := Lib.hid (below_after HS.out.2 hb1)
        have HO2 := Lib.hid (own_keepB hb1 HS.out.1)
        have c0 := cell_later hb1 c0
        have c1 := cell_later hb1 c1
        have c2 := cell_later hb1 c2
        have c3 := cell_later hb1 c3
        clear hb1
        go_wp2_with fail
        refine (HBy.out _).mono ?_
        rintro en w2 ⟨u2, rfl, ho2, hb2⟩
        have HB3 := Lib.hid (below_after HB2.out hb2)
        have HO3 := Lib.hid (own_keepB hb2 HO2.out)
        have HX3 := Lib.hid (kl_src (kl_own rfl ho2))
        have hsz := HB3.out.size
        clear ho2 hb2 HB2 HO2 c0 c1 c2 c3 HCk HBy
        go_wp2_with (at_builtin; refine wpList_append_srcO rfl (.tmp 21) (.tmp 26) 62 rfl w.heap.size 5 i0 (.int .u8 0) 1 1 Try.underlying62 hi hz0 hz1 hz2 rfl (by decide) _ P.length (kcl .u8 P) rfl HO3.out _ X.length (kcl .u8 X) rfl HX3.out (by rw [kcl_len, Nat.mul_one]) (kcl_one _ _) (by unfold maxLen; omega) (by omega) hsz ?_; intro v3 w3 ho2 hg2; (have HF3 : Hid (w3.ownsRow w.heap.size 5 1 v3 P1.length (kcl .u8 P1) ∧ Below w.heap.size w w3) := Lib.hid ⟨by rw [HTk.out, kcl_app, List.length_append]; exact ho2, HB3.out.grown hg2 HB3.out.size (fun k e => (own_block HO3.out e).1)⟩); clear ho2 hg2)
        go_roundg gr
        case measure => omega
        case rel => exact ⟨k + 1, by omega, by go_num, HC3, by rw [HP1.out]; exact HF3⟩
      · have HE := Lib.hid (HWE.out he)
        have hez : ¬ (chk f : Int) = 0 := by omega
        have HNi : Hid (wrO L = []) := Lib.hid (by unfold wrO; rw [if_neg (by rw [HE.out]; exact he)])
        generalize chk f = ee at *
        generalize bst f.b = sb at *
        clear HWE HC2 HC
        go_wp2_with fail
        refine HCk.out.mono ?_
        rintro en w1 ⟨rfl, hb1⟩
        have HFi : Hid (RwPost8 L w (.returned (.tuple #[.slice none 0 0, .int .i64 (ee : Int)])) w1) := Lib.hid (HPo.out _ ee w1 HE.out (by rw [HNi.out]; exact World.ownsRow_nil _ _ _ _) (below_after HS.out.2 hb1))
        clear hb1 c0 c1 c2 c3 HPo HE HNi
        go_wp2_with fail
        exact bodyPost_ret (v := .tuple #[.slice none 0 0, .int .i64 (ee : Int)]) (by simp [results, Try.results32, go_sem]) rfl HFi.out
end Go.Proofs.Ytcbgknlklpandaa
