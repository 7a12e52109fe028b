/- Walks of the heap: entries, All. -/
import Derived.Test.YtbdmmgplpndobaaHeapV
import Derived.Test.YtbdmmgplpndobaaHeapG
import Derived.Test.YtbdmmgplpndobaaHeapC
namespace Go.Proofs.Ytbdmmgplpndobaa
open Go.RowKit Go.Sort Go.Deep

/-- All entries, each as often as it is there. -/
def bagL (P : List Pile) : List E3 := P.flatMap (fun p => List.replicate p.2.toNat p.1)
theorem bagL_len : ∀ {P : List Pile}, PosT P → ((bagL P).length : Int) = sumT P
  | [], _ => rfl
  | p :: P, h => by
    have h1 := bagL_len (P := P) (fun q hq => h q (List.mem_cons_of_mem _ hq))
    have h2 := h p List.mem_cons_self
    unfold bagL at *
    rw [List.flatMap_cons, List.length_append, List.length_replicate]
    simp only [sumT]
    push_cast
    omega
theorem bagL_cnt : ∀ {P : List Pile}, PosT P → ∀ x, ((bagL P).count x : Int) = cntE P x
  | [], _, x => by simp [bagL, cntE]
  | p :: P, h, x => by
    have h1 := bagL_cnt (P := P) (fun q hq => h q (List.mem_cons_of_mem _ hq)) x
    have h2 := h p List.mem_cons_self
    unfold bagL at *
    rw [List.flatMap_cons, List.count_append, List.count_replicate]
    simp only [cntE]
    push_cast
    by_cases c : p.1 = x
    · simp [c]; omega
    · simp [c]; omega
theorem bagL_take {P : List Pile} {k : Nat} (h : k < P.length) : bagL (P.take (k + 1)) = bagL (P.take k) ++ List.replicate (pA P k).2.toNat (pA P k).1 := by
  unfold bagL
  rw [List.take_succ_eq_append_getElem h, List.flatMap_append, pA_at h]
  simp
theorem bagL_part {P : List Pile} {k : Nat} : (bagL (P.take k)).length ≤ (bagL P).length := by
  have h : bagL P = bagL (P.take k) ++ bagL (P.drop k) := by
    unfold bagL
    rw [← List.flatMap_append, List.take_append_drop]
  rw [h, List.length_append]; omega
theorem make_runE (n : Nat) (hn : n ≤ 1000000) (w : World) : (Instr.makeSlice 39 (.int .i64 0) (.int .i64 (n : Int))).run Try.prog w = .ok (.slice (some ⟨w.heap.size, 0, none⟩) 0 n) (w.alloc (.cells (madeCells #[.int .i64 0, .int .i64 0, .int .i64 0] (n * 3)) 31)) := by
  obtain ⟨i0, hi, hz0, hz1, hz2⟩ := info_parts infoEn
  have h := run_make (P := Try.prog) w 39 31 i0 (.agg #[.int .i64 0, .int .i64 0, .int .i64 0]) Try.underlying39 hi hz0 .i64 .i64 0 (n : Int) (Int.le_refl _) (by omega) (by rw [hz2]; omega) (by omega)
  rw [hz1] at h
  simpa [Value.cells] using h
theorem made_ownE (W : World) (base n : Nat) (hb : base ≤ W.heap.size) (hn : n ≤ 1000000) : (W.alloc (.cells (madeCells #[.int .i64 0, .int .i64 0, .int .i64 0] (n * 3)) 31)).ownsRow base 31 3 (.slice (some ⟨W.heap.size, 0, none⟩) 0 n) 0 [] :=
  World.ownsRow_made W _ n hb (by unfold maxLen; omega) (by rw [size_madeCells])
theorem HpI.rowA {W : World} {B hb g mb : Nat} {P : List Pile} {cnt : Int} (h : HpI W B hb g mb P cnt) : ∃ q c, W.cell? ⟨hb, 0, none⟩ = some (.slice q P.length c) ∧
    (∀ i, i < P.length → ∃ k, q = some ⟨k, 0, none⟩ ∧ W.cell? ⟨k, i * 4, none⟩ = some (.int .i64 (pA P i).1.1) ∧ W.cell? ⟨k, i * 4 + 1, none⟩ = some (.int .i64 (pA P i).1.2.1) ∧ W.cell? ⟨k, i * 4 + 2, none⟩ = some (.int .i64 (pA P i).1.2.2) ∧ W.cell? ⟨k, i * 4 + 3, none⟩ = some (.int .i64 (pA P i).2)) := by
  rcases h.st with ⟨rfl, rfl, rfl, hz⟩ | ⟨cap, ps, H, G⟩
  · exact ⟨none, 0, hz.c0, fun i h => absurd h (by simp)⟩
  · refine ⟨_, cap, H.c0, fun i hi => ⟨g, rfl, ?_⟩⟩
    rw [pA_at hi]
    exact H.pile hi
theorem enCells_app (A B : List E3) : enCells (A ++ B) = enCells A ++ enCells B := by unfold enCells; rw [List.flatMap_append]
/-- A box of a pile. -/
def PlK (W : World) (k : Nat) (p : Pile) : Prop := PlB W k p
theorem PlK.keep {W W1 : World} {k : Nat} {p : Pile} (h : PlK W k p) (hb : Below W.heap.size W W1) : PlK W1 k p :=
  ⟨cell_later hb h.1, cell_later hb h.2.1, cell_later hb h.2.2.1, cell_later hb h.2.2.2⟩
theorem PlK.grown {W W1 : World} {k : Nat} {p : Pile} {row : Option Nat} (h : PlK W k p) (hg : W.grownBy W1 row) (hne : some k ≠ row) : PlK W1 k p :=
  ⟨hg.cell h.1 hne, hg.cell h.2.1 hne, hg.cell h.2.2.1 hne, hg.cell h.2.2.2 hne⟩
theorem plk_new (W : World) (p : Pile) (T : TypeId) : PlK (W.alloc (encPo p T)) W.heap.size p := by
  unfold PlK PlB encPo
  refine ⟨?_, ?_, ?_, ?_⟩ <;> go_simp
theorem new_srcE (W : World) (e : E3) (T : TypeId) : ∀ j u, (encE3l e)[j]? = some u → (W.alloc (.cells #[.int .i64 e.1, .int .i64 e.2.1, .int .i64 e.2.2] T)).cell? ((⟨W.heap.size, 0, none⟩ : Addr).add j) = some u := by
  intro j u hj
  match j, hj with
  | 0, hj => simp [encE3l] at hj; subst hj; rw [add_at]; go_simp
  | 1, hj => simp [encE3l] at hj; subst hj; rw [add_at]; go_simp
  | 2, hj => simp [encE3l] at hj; subst hj; rw [add_at]; go_simp
theorem encE3l_one (e : E3) : ∀ u ∈ encE3l e, u.oneCell' = true := by
  intro u hu
  simp [encE3l] at hu
  rcases hu with rfl | rfl | rfl <;> rfl
theorem enCells_rep (X : List E3) (j : Nat) (e : E3) : enCells (X ++ List.replicate (j + 1) e) = enCells (X ++ List.replicate j e) ++ encE3l e := by
  rw [List.replicate_succ', ← List.append_assoc, enCells_app]
  simp [enCells]
set_option maxRecDepth 100000 in
set_option maxHeartbeats 4000000 in
theorem lentries_any {W : World} {B hb g mb : Nat} {P : List Pile} {cnt : Int} (h : HpI W B hb g mb P cnt) (hc : cnt ≤ 1000000) :
    Calls Try.prog 41 #[.pointer (some ⟨hb, 0, none⟩)] W (EnPost W (bagL P)) := by
  obtain ⟨iE, hiE, _, hz1, _⟩ := info_parts infoEn
  have hbl := bagL_len h.pos
  have hsu := h.sum
  have hbd := h.pos.bound.1
  have HPos := Lib.hid h.pos
  obtain ⟨n, hn⟩ : ∃ n : Nat, (bagL P).length = n := ⟨_, rfl⟩
  have hcn : cnt = (n : Int) := by omega
  have c2 := h.c2
  rw [hcn] at c2
  have hn6 : n ≤ 1000000 := by omega
  obtain ⟨q, c, c0', hrow⟩ := h.rowA
  have hPl : P.length ≤ n := by omega
  have HRow := Lib.hid hrow
  have hmk := fun w => make_runE n hn6 w
  have hk := World.block_lt_of_cell? W _ c0'
  have HB0 := Lib.hid (below_alloc W (.cells (madeCells #[.int .i64 0, .int .i64 0, .int .i64 0] (n * 3)) 31))
  have c0 := cell_later HB0.out c0'
  have HO0 := Lib.hid (made_ownE W W.heap.size n (Nat.le_refl _) hn6)
  have HN := Lib.hid hn
  clear hrow hbl hsu hbd h hcn hc c0' hn
  go_enter Try.func41, Try.ntmps41
  go_upto_region 2 with fail
  generalize W.alloc (.cells (madeCells #[.int .i64 0, .int .i64 0, .int .i64 0] (n * 3)) 31) = W1 at *
  go_wp2_with fail
  go_loopg [3, 16] P.length (fun gk u s wx => ∃ k : Nat, gk = P.length - k ∧ k ≤ P.length ∧ u = .slice (some ⟨W.heap.size, 0, none⟩) (bagL (P.take k)).length n ∧ s = .int .i64 (k : Int) ∧ Hid (wx.ownsRow W.heap.size 31 3 (.slice (some ⟨W.heap.size, 0, none⟩) (bagL (P.take k)).length n) (bagL (P.take k)).length (enCells (bagL (P.take k)))) ∧ Hid (Below W.heap.size W wx))
  case atStart => exact ⟨0, rfl, by omega, rfl, rfl, HO0, HB0⟩
  case round =>
    obtain ⟨k, hgk, hk2, rfl, rfl, HO, HB⟩ := hrel
    by_cases hlt : k < P.length
    · obtain ⟨kq, rfl, a0, a1, a2, a3⟩ := HRow.out k hlt
      have a0 := cell_later HB.out a0
      have a1 := cell_later HB.out a1
      have a2 := cell_later HB.out a2
      have a3 := cell_later HB.out a3
      have hpos := HPos.out _ (pA_mem hlt)
      have HT := Lib.hid (bagL_take hlt)
      have hpart : (bagL (P.take (k + 1))).length ≤ n := by rw [← HN.out]; exact bagL_part
      generalize pA P k = p at *
      obtain ⟨⟨p1, p2, p3⟩, t⟩ := p
      obtain ⟨tn, rfl⟩ : ∃ tn : Nat, t = (tn : Int) := ⟨t.toNat, by simp at hpos; omega⟩
      simp only [Int.toNat_natCast] at HT
      rw [HT.out, List.length_append, List.length_replicate] at hpart
      have hgl : W.heap.size < wr.heap.size := (own_block HO.out rfl).2
      have HP := Lib.hid (plk_new wr ((p1, p2, p3), (tn : Int)) 89)
      have HO1 := Lib.hid (HO.out.alloc (encPo ((p1, p2, p3), (tn : Int)) 89))
      have HB1 := Lib.hid (HB.out.alloc HB.out.size (encPo ((p1, p2, p3), (tn : Int)) 89))
      unfold encPo at HP HO1 HB1
      have HT2 : Hid (bagL (P.take k) = bagL (P.take k)) := Lib.hid rfl
      generalize bagL (P.take k) = X at *
      clear HT2 hpos HO HB
      simp only at HP HO1 HB1 a0 a1 a2 a3
      go_upto_region 5 with fail
      generalize wr.alloc (.cells #[.int .i64 p1, .int .i64 p2, .int .i64 p3, .int .i64 (tn : Int)] 89) = V1 at *
      generalize wr.heap.size = kb at *
      obtain ⟨_, _, _, b3⟩ := HP.out
      simp only at b3
      clear a0 a1 a2 a3
      go_wp2_with fail
      go_loopg [3, 22] tn (fun gk u s wx => ∃ j : Nat, gk = tn - j ∧ j ≤ tn ∧ u = .slice (some ⟨W.heap.size, 0, none⟩) (X.length + j) n ∧ s = .int .i64 (j : Int) ∧ Hid (wx.ownsRow W.heap.size 31 3 (.slice (some ⟨W.heap.size, 0, none⟩) (X.length + j) n) (X.length + j) (enCells (X ++ List.replicate j (p1, p2, p3)))) ∧ Hid (Below W.heap.size W wx) ∧ Hid (PlK wx kb ((p1, p2, p3), (tn : Int))))
      case atStart => exact ⟨0, rfl, by omega, rfl, rfl, Lib.hid (by simpa using HO1.out), HB1, HP⟩
      case round =>
        obtain ⟨j, hgj, hj, rfl, rfl, HO2, HB2, HP2⟩ := hrel
        by_cases hjt : j < tn
        · obtain ⟨b0, b1, b2, _⟩ := HP2.out
          simp only at b0 b1 b2
          have hroom : X.length + j + 1 ≤ n := by omega
          have xj : (j : Int) < (tn : Int) := by omega
          go_wp2_with (at_builtin; refine wpList_append_roomV rfl (.tmp 24) (.tmp 27) 39 rfl W.heap.size 31 iE 3 Try.underlying39 hiE hz1 W.heap.size _ n (enCells (X ++ List.replicate j (p1, p2, p3))) rfl (HO2.out.alloc _) _ 1 (encE3l (p1, p2, p3)) rfl ⟨_, 1, rfl, fun _ => ⟨wr.heap.size, 0, rfl, new_srcE wr (p1, p2, p3) _⟩⟩ rfl (encE3l_one _) hroom ?_)
          intro w5 ho5 hg5
          have HO3 := Lib.hid ho5
          have HP3 : Hid (PlK w5 kb ((p1, p2, p3), (tn : Int))) := Lib.hid ((HP2.out.keep (below_alloc _ _)).grown hg5 (fun e => by injection e with e; omega))
          have HB3 : Hid (Below W.heap.size W w5) := Lib.hid ((HB2.out.alloc HB2.out.size _).grown hg5 (by have := HB2.out.size; rw [World.size_alloc]; omega) (fun q hq => by injection hq with hq; omega))
          clear ho5 hg5 HO2 HB2 HP2 b0 b1 b2
          go_wp2_with fail
          go_roundg (tn - (j + 1))
          case measure => omega
          case rel => exact ⟨j + 1, rfl, by omega, rfl, by push_cast; rfl, Lib.hid (by rw [enCells_rep]; exact HO3.out), HB3, HP3⟩
        · obtain rfl : j = tn := by omega
          go_wp2_with fail
          go_roundg (P.length - (k + 1))
          case measure => omega
          case rel => exact ⟨k + 1, rfl, by omega, by rw [HT.out, List.length_append, List.length_replicate], by push_cast; rfl, Lib.hid (by rw [HT.out, List.length_append, List.length_replicate]; exact HO2.out), HB2⟩
    · obtain rfl : k = P.length := by omega
      rw [List.take_length] at HO ⊢
      go_wp2_with fail
      go_ret
      exact ⟨_, rfl, HO.out, HB.out⟩
theorem own_srcE {W : World} {base : Nat} {u : Value} {L : List E3} (h : W.ownsRow base 31 3 u L.length (enCells L)) : SrcO W u L.length (enCells L) := by
  rcases id h.2 with ⟨rfl, hz⟩ | ⟨k, cap, cur, rfl, _⟩
  · exact ⟨none, 0, by rw [hz], fun h0 => absurd hz h0⟩
  · exact ⟨_, cap, rfl, fun _ => ⟨k, 0, rfl, fun j u hj => h.cells (g := k) rfl j u hj⟩⟩
set_option maxRecDepth 100000 in
theorem hall_any {W : World} {B hb g mb : Nat} {P : List Pile} {cnt : Int} (h : HpI W B hb g mb P cnt) (hc : cnt ≤ 1000000) :
    Calls Try.prog 16 #[.pointer (some ⟨hb, 0, none⟩)] W (SrPost W (bagL P)) := by
  have HL := Lib.hid (lentries_any h hc)
  have hl := bagL_len h.pos
  have hs := h.sum
  have hle : (bagL P).length ≤ 1000000 := by omega
  clear h hl hs hc
  go_enter Try.func16, Try.ntmps16
  go_wp2_with fail
  go_at_call 41
  refine HL.out.mono ?_
  rintro en w1 ⟨u, rfl, ho, hb1⟩
  have HS := Lib.hid (hsort_any (own_srcE ho) hle)
  have HB := Lib.hid hb1
  clear ho hb1 HL
  go_wp2_with fail
  go_at_call 40
  refine HS.out.mono ?_
  rintro en w2 ⟨M, u2, hp, hso, rfl, ho2, hb2⟩
  have HO := Lib.hid ho2
  have HB2 := Lib.hid (below_after HB.out hb2)
  have hsz := HB.out.size
  clear ho2 hb2
  go_wp2_with fail
  go_ret
  exact ⟨M, u2, hp, hso, rfl, own_base HO.out hsz, HB2.out⟩
end Go.Proofs.Ytbdmmgplpndobaa
