/- Walks of varint: all numbers of bytes; the document's. -/
import Derived.Test.YtenfaejdnphngaaVarS
import Derived.Test.YtenfaejdnphngaaAppAt
import Derived.Deep.Upon
namespace Go.Proofs.Ytenfaejdnphngaa
open Go.RowKit Go.Sort

theorem KL.of {kd : IntKind} {W W1 : World} {v : Value} {L : List Nat} (h : KL kd W v L) (e : ∀ k, k < W.heap.size → W1.heap[k]? = W.heap[k]?) : KL kd W1 v L := by
  obtain ⟨q, c, e1, hc, hx⟩ := h
  refine ⟨q, c, e1, hc, fun i hi => ?_⟩
  obtain ⟨g, o, e2, hc⟩ := hx i hi
  exact ⟨g, o, e2, (World.cell?_of_block (e g (World.block_lt_of_cell? W _ hc))).trans hc⟩
def RoPost7 (b : List Nat) (w : World) (e : Ending) (w' : World) : Prop := ∃ u, e = .returned (.tuple #[u, .int .i64 ((rowD b).2.1 : Int), .int .i64 ((rowD b).2.2 : Int)]) ∧ w'.ownsRow w.heap.size 43 1 u (rowD b).1.length (kcl .u64 (rowD b).1) ∧ Below w.heap.size w w'
theorem rd_step {b : List Nat} {i : Nat} (hb : ∀ x ∈ b, x < 256) (h : (rd (b.drop i)).2.2 = 0) : 0 < (rd (b.drop i)).2.1 ∧ i + (rd (b.drop i)).2.1 ≤ b.length ∧ (rd (b.drop i)).2.1 ≤ 10 ∧ (rd (b.drop i)).1 < 18446744073709551616 := by
  have hr : rd (b.drop i) = ((rd (b.drop i)).1, (rd (b.drop i)).2.1, 0) := by rw [← h]
  obtain ⟨k1, k2, k3, k4, k5⟩ := rd_ok hr (fun x hx => hb x (List.mem_of_mem_drop hx))
  rw [List.length_drop] at k2
  exact ⟨k1, by omega, k3, k5⟩
set_option maxRecDepth 100000 in
set_option maxHeartbeats 4000000 in
theorem rrow_any {w : World} {v : Value} {b : List Nat} (hK : KL .u8 w v b) (hb : ∀ x ∈ b, x < 256) (hl : b.length ≤ 100000) : Calls Try.prog 41 #[v] w (RoPost7 b w) := by
  have hmx : Try.prog.follows .mixedOrders = true := by kernel_rfl
  obtain ⟨i0, hi, hz0, hz1, hz2⟩ := info_parts info64
  have HK := Lib.hid hK
  have HBd := Lib.hid hb
  obtain ⟨q, c, rfl, _, _⟩ := hK
  clear hb
  go_enter Try.func41, Try.ntmps41
  go_wp2_with fail
  go_loopg [5, 6] (b.length + 1) (fun gk u x wx => ∃ (i : Nat) (acc : List Nat), x = .int .i64 (i : Int) ∧ i ≤ b.length ∧ b.length < i + gk ∧ acc.length ≤ i ∧ Hid (rowR gk b i acc = rowD b) ∧ Hid (wx.ownsRow w.heap.size 43 1 u acc.length (kcl .u64 acc) ∧ Below w.heap.size w wx))
  case atStart => exact ⟨0, [], rfl, Nat.zero_le _, by omega, Nat.zero_le _, Lib.hid rfl, Lib.hid ⟨World.ownsRow_nil _ _ _ _, Below.refl _ _⟩⟩
  case round =>
    obtain ⟨i, acc, rfl, hib, hg, ha, HE, HS⟩ := hrel
    cases gk with
    | zero => omega
    | succ gr =>
      by_cases hlt : i < b.length
      · have hiz : (i : Int) < (b.length : Int) := by omega
        have hiz2 : (i : Int) ≤ (b.length : Int) := by omega
        obtain ⟨g, o, rfl, hic, hKd⟩ := (HK.out.keep HS.out.2).drop hlt
        have y3 : ¬ i = c := by omega
        have y4 : ¬ c = i := by omega
        have y5 : ¬ c - i = 0 := by omega
        have y6 : (i : Int) ≤ (c : Int) := by omega
        have y7 : (b.length : Int) ≤ (c : Int) := by obtain ⟨_, _, e, h, _⟩ := HK.out; cases e; omega
        have HRd := Lib.hid (rrd_any hKd (fun x hx => HBd.out x (List.mem_of_mem_drop hx)) (by rw [List.length_drop]; omega))
        have HSt := Lib.hid (rd_step (b := b) (i := i) HBd.out)
        have HE2 : Hid ((if (rd (b.drop i)).2.2 = 0 then rowR gr b (i + (rd (b.drop i)).2.1) (acc ++ [(rd (b.drop i)).1]) else ([], i, (rd (b.drop i)).2.2)) = rowD b) := Lib.hid (by have h := HE.out; rw [rowR, if_pos hlt] at h; exact h)
        unfold RdPost at HRd
        generalize (rd (b.drop i)).1 = n at *
        generalize (rd (b.drop i)).2.1 = k at *
        generalize (rd (b.drop i)).2.2 = e at *
        clear hKd HE
        by_cases he : e = 0
        · subst he
          have HE3 := HE2.out
          rw [if_pos rfl] at HE3
          have HE4 := Lib.hid HE3
          obtain ⟨k1, k2, k3, k4⟩ := HSt.out rfl
          have xk : IntKind.i64.wrap ((i : Int) + (k : Int)) = ((i + k : Nat) : Int) := by rw [IntWalk.i64_in _ (by omega)]; omega
          clear HE2 HSt HE3
          go_upto_region 7 with (go_at_call 40; refine HRd.out.mono ?_; rintro e w1 ⟨rfl, hb1⟩; have HO1 : Hid ((w1.alloc (.cells #[.int .u64 (n : Int)] 43)).ownsRow w.heap.size 43 1 u5 acc.length (kcl .u64 acc)) := Lib.hid (World.ownsRow.alloc (w := w1) (own_keepB hb1 HS.out.1) _); have HB1 := Lib.hid (below_after (below_after HS.out.2 hb1) (below_alloc w1 (.cells #[.int .u64 (n : Int)] 43))); have hsz := HB1.out.size; clear hb1 HS)
          go_wp2_with (at_builtin; refine wpList_append_srcO rfl (.tmp 26) (.tmp 28) 60 rfl w.heap.size 43 i0 (.int .u64 0) 1 8 Try.underlying60 hi hz0 hz1 hz2 rfl (by decide) _ acc.length (kcl .u64 acc) rfl HO1.out _ 1 (kcl .u64 [n]) rfl (new_srcK _ _ _ _) (by rfl) (kcl_one _ _) (by unfold maxLen; omega) (by omega) hsz ?_)
          intro v2 w2 ho2 hg2
          have HF : Hid (w2.ownsRow w.heap.size 43 1 v2 (acc ++ [n]).length (kcl .u64 (acc ++ [n])) ∧ Below w.heap.size w w2) := Lib.hid ⟨by rw [kcl_app, List.length_append]; exact ho2, HB1.out.grown hg2 HB1.out.size (fun k e => (own_block HO1.out e).1)⟩
          clear ho2 hg2 HO1 HB1
          go_wp2_with fail
          go_roundg gr
          case measure => omega
          case rel => exact ⟨i + k, acc ++ [n], rfl, k2, by omega, by rw [List.length_append]; simp; omega, HE4, HF⟩
        · have hez : ¬ (e : Int) = 0 := by omega
          have HE3 := HE2.out
          rw [if_neg he] at HE3
          have HE4 := Lib.hid HE3
          clear HE2 HSt HE3
          go_wp2_with (go_at_call 40; refine HRd.out.mono ?_; rintro e w1 ⟨rfl, hb1⟩; have HB1 := Lib.hid (below_after HS.out.2 hb1); clear hb1)
          exact bodyPost_ret (v := .tuple #[.slice none 0 0, .int .i64 (i : Int), .int .i64 (e : Int)]) (by simp [results, Try.results41, go_sem]) rfl ⟨_, by rw [← HE4.out], by rw [← HE4.out]; exact World.ownsRow_nil _ _ _ _, HB1.out⟩
      · have hiz : ¬ (i : Int) < (b.length : Int) := by omega
        have HE2 : Hid ((acc, 0, 0) = rowD b) := Lib.hid (by have h := HE.out; rw [rowR, if_neg hlt] at h; exact h)
        have HF : Hid (RoPost7 b w (.returned (.tuple #[u5, .int .i64 0, .int .i64 0])) wr) := Lib.hid ⟨u5, by rw [← HE2.out]; rfl, by rw [← HE2.out]; exact HS.out.1, HS.out.2⟩
        clear HE HS
        go_wp2_with fail
        exact bodyPost_ret (v := .tuple #[u5, .int .i64 0, .int .i64 0]) (by simp [results, Try.results41, go_sem]) rfl HF.out
theorem own_blkV {W W1 : World} {base size n : Nat} {T : TypeId} {v : Value} {xs : List Value} (h : W.ownsRow base T size v n xs) (e : ∀ k, v.ownBlock = some k → W1.heap[k]? = W.heap[k]?) : W1.ownsRow base T size v n xs := by
  obtain ⟨hl, h⟩ := h
  refine ⟨hl, ?_⟩
  rcases h with h | ⟨g, c, cur, rfl, hg, hh, r⟩
  · exact .inl h
  · exact .inr ⟨g, c, cur, rfl, hg, (e g rfl).trans hh, r⟩
/-- Row's state: the bytes, the place, the row. -/
structure RwS (W0 : World) (bv : Value) (k1 k6 k5 : Nat) (acc : List Nat) (i : Nat) (V : World) : Prop where
  bl : Below W0.heap.size W0 V
  c1 : V.cell? ⟨k1, 0, none⟩ = some bv
  c6 : V.cell? ⟨k6, 0, none⟩ = some (.int .i64 (i : Int))
  f5 : V.frozen? ⟨k5, 0, none⟩ = false
  f6 : V.frozen? ⟨k6, 0, none⟩ = false
  ge : W0.heap.size ≤ k5 ∧ W0.heap.size ≤ k6
  ne : k1 ≠ k5 ∧ k1 ≠ k6 ∧ k5 ≠ k6
  st : ∃ u, V.cell? ⟨k5, 0, none⟩ = some u ∧ V.ownsRow W0.heap.size 43 1 u acc.length (kcl .u64 acc) ∧ u.ownBlock ≠ some k1 ∧ u.ownBlock ≠ some k5 ∧ u.ownBlock ≠ some k6
theorem RwS.keep {W0 V V1 : World} {bv : Value} {k1 k6 k5 i : Nat} {acc : List Nat} (h : RwS W0 bv k1 k6 k5 acc i V) (hb : Below V.heap.size V V1) : RwS W0 bv k1 k6 k5 acc i V1 := by
  obtain ⟨u, c5, o, n⟩ := h.st
  have l5 : k5 < V.heap.size := World.block_lt_of_cell? V _ c5
  have l6 : k6 < V.heap.size := World.block_lt_of_cell? V _ h.c6
  exact ⟨below_after h.bl hb, cell_later hb h.c1, cell_later hb h.c6, (hb.frozen (p := ⟨k5, 0, none⟩) l5).trans h.f5, (hb.frozen (p := ⟨k6, 0, none⟩) l6).trans h.f6, h.ge, h.ne, u, cell_later hb c5, own_keepB hb o, n⟩
/-- Behind the append. -/
theorem RwS.more {W0 V1 wB : World} {bv u v2 : Value} {k1 k6 k5 i n k : Nat} {acc : List Nat} (h : RwS W0 bv k1 k6 k5 acc i V1) (hc : V1.cell? ⟨k5, 0, none⟩ = some u) (hg : V1.grownBy wB u.ownBlock) (ho : wB.ownsRow W0.heap.size 43 1 v2 (acc.length + 1) (kcl .u64 acc ++ [.int .u64 (n : Int)])) (hv : v2.ownBlock = u.ownBlock ∨ v2.ownBlock = some V1.heap.size) :
    (wB.cell? ⟨k5, 0, none⟩ = some u ∧ wB.cell? ⟨k6, 0, none⟩ = some (.int .i64 (i : Int)) ∧ wB.frozen? ⟨k5, 0, none⟩ = false ∧ wB.frozen? ⟨k6, 0, none⟩ = false ∧ (wB.setCell ⟨k5, 0, none⟩ v2).cell? ⟨k6, 0, none⟩ = some (.int .i64 (i : Int)) ∧ (wB.setCell ⟨k5, 0, none⟩ v2).frozen? ⟨k6, 0, none⟩ = false) ∧ RwS W0 bv k1 k6 k5 (acc ++ [n]) k ((wB.setCell ⟨k5, 0, none⟩ v2).setCell ⟨k6, 0, none⟩ (.int .i64 (k : Int))) := by
  obtain ⟨u', c5, o, n1, n5, n6⟩ := h.st
  obtain rfl : u = u' := by rw [c5] at hc; injection hc with e; exact e.symm
  have l1 : k1 < V1.heap.size := World.block_lt_of_cell? V1 _ h.c1
  have l5 : k5 < V1.heap.size := World.block_lt_of_cell? V1 _ c5
  have l6 : k6 < V1.heap.size := World.block_lt_of_cell? V1 _ h.c6
  have e1 := hg.block k1 l1 (fun e => n1 e.symm)
  have e5 := hg.block k5 l5 (fun e => n5 e.symm)
  have e6 := hg.block k6 l6 (fun e => n6 e.symm)
  have hs := h.bl.size
  have d5 := (World.cell?_of_block e5).trans c5
  have d6 := (World.cell?_of_block (a := ⟨k6, 0, none⟩) e6).trans h.c6
  have g6 : (wB.setCell ⟨k5, 0, none⟩ v2).cell? ⟨k6, 0, none⟩ = some (.int .i64 (i : Int)) := (World.cell?_setCell_other _ _ _ _ (by intro e; injection e with e _; exact h.ne.2.2 e)).trans d6
  have b2 : ∀ j, j ≠ k5 → j ≠ k6 → ((wB.setCell ⟨k5, 0, none⟩ v2).setCell ⟨k6, 0, none⟩ (.int .i64 (k : Int))).heap[j]? = wB.heap[j]? := fun j h5 h6 => (Below.heap_setCell _ _ _ j h6).trans (Below.heap_setCell _ _ _ j h5)
  have vk : ∀ j, v2.ownBlock = some j → j ≠ k1 ∧ j ≠ k5 ∧ j ≠ k6 := fun j hj => by
    rcases hv with a | a
    · rw [a] at hj
      exact ⟨fun e => n1 (e ▸ hj), fun e => n5 (e ▸ hj), fun e => n6 (e ▸ hj)⟩
    · rw [a] at hj; injection hj with hj
      exact ⟨by omega, by omega, by omega⟩
  have f5 := (World.frozen?_of_block (a := ⟨k5, 0, none⟩) e5).trans h.f5
  have f6 := (World.frozen?_of_block (a := ⟨k6, 0, none⟩) e6).trans h.f6
  refine ⟨⟨d5, d6, f5, f6, g6, by simpa using f6⟩, (((h.bl.grown hg hs (fun k e => (own_block o e).1)).setCell h.ge.1 _).setCell h.ge.2 _), ?_, ?_, by simpa using f5, by simpa using f6, h.ge, h.ne, v2, ?_, ?_, fun e => (vk _ e).1 rfl, fun e => (vk _ e).2.1 rfl, fun e => (vk _ e).2.2 rfl⟩
  · exact (World.cell?_of_block (b2 k1 h.ne.1 h.ne.2.1)).trans ((World.cell?_of_block (a := ⟨k1, 0, none⟩) e1).trans h.c1)
  · rw [World.cell?_setCell_same _ _ _ g6]
  · rw [World.cell?_setCell_other _ _ _ _ (by intro e; injection e with e _; exact h.ne.2.2 e.symm)]
    exact World.cell?_setCell_same _ _ _ d5
  · rw [kcl_snoc, List.length_append, List.length_singleton]
    exact own_blkV ho (fun j hj => b2 j (vk j hj).2.1 (vk j hj).2.2)
def R1Post (W0 : World) (bv : Value) (k1 k6 k5 : Nat) (b acc : List Nat) (i : Nat) (e : Ending) (w' : World) : Prop := e = .returned (.int .i64 ((rd (b.drop i)).2.2 : Int)) ∧ ((rd (b.drop i)).2.2 = 0 → RwS W0 bv k1 k6 k5 (acc ++ [(rd (b.drop i)).1]) (i + (rd (b.drop i)).2.1) w') ∧ ((rd (b.drop i)).2.2 ≠ 0 → RwS W0 bv k1 k6 k5 acc i w')
theorem own_formV {W : World} {B n : Nat} {T : TypeId} {v : Value} {xs : List Value} (h : W.ownsRow B T 1 v (n + 1) xs) : ∃ g c, v = .slice (some ⟨g, 0, none⟩) (n + 1) c := by
  rcases h.2 with ⟨_, hz⟩ | ⟨g, c, cur, e, _⟩
  · omega
  · exact ⟨g, c, e⟩
set_option maxRecDepth 100000 in
set_option maxHeartbeats 4000000 in
theorem row1_any {W0 V : World} {bv : Value} {k1 k6 k5 i : Nat} {b acc : List Nat} (h : RwS W0 bv k1 k6 k5 acc i V) (hK : KL .u8 W0 bv b) (hb : ∀ x ∈ b, x < 256) (hl : b.length ≤ 100000) (hlt : i < b.length) (ha : acc.length ≤ i) :
    Calls Try.prog 57 #[.pointer (some ⟨k1, 0, none⟩), .pointer (some ⟨k6, 0, none⟩), .pointer (some ⟨k5, 0, none⟩)] V (R1Post W0 bv k1 k6 k5 b acc i) := by
  have hmx : Try.prog.follows .mixedOrders = true := by kernel_rfl
  obtain ⟨i0, hi, hz0, hz1, hz2⟩ := info_parts info64
  have hiz2 : (i : Int) ≤ (b.length : Int) := by omega
  obtain ⟨q, c, rfl, hbc, _⟩ := id hK
  obtain ⟨g, o, rfl, hic, hKd⟩ := (hK.of (W1 := V) (fun k hk => h.bl.block k hk)).drop hlt
  have y3 : ¬ i = c := by omega
  have y4 : ¬ c = i := by omega
  have y5 : ¬ c - i = 0 := by omega
  have y6 : (i : Int) ≤ (c : Int) := by omega
  have y7 : (b.length : Int) ≤ (c : Int) := by omega
  have HRd := Lib.hid (rd_any hKd (fun x hx => hb x (List.mem_of_mem_drop hx)) (by rw [List.length_drop]; omega))
  have HSt := Lib.hid (rd_step (b := b) (i := i) hb)
  have HFin : Hid (∀ w', ((rd (b.drop i)).2.2 = 0 → RwS W0 (.slice (some ⟨g, o, none⟩) b.length c) k1 k6 k5 (acc ++ [(rd (b.drop i)).1]) (i + (rd (b.drop i)).2.1) w') → ((rd (b.drop i)).2.2 ≠ 0 → RwS W0 (.slice (some ⟨g, o, none⟩) b.length c) k1 k6 k5 acc i w') → R1Post W0 (.slice (some ⟨g, o, none⟩) b.length c) k1 k6 k5 b acc i (.returned (.int .i64 ((rd (b.drop i)).2.2 : Int))) w') := Lib.hid (fun w' a c => ⟨rfl, a, c⟩)
  have c1 := h.c1
  have c6 := h.c6
  have H := Lib.hid h
  unfold RdPost at HRd
  generalize (rd (b.drop i)).1 = n at *
  generalize (rd (b.drop i)).2.1 = k at *
  generalize (rd (b.drop i)).2.2 = e at *
  clear hKd hK hb h
  by_cases he : e = 0
  · subst he
    obtain ⟨p1, p2, p3, p4⟩ := HSt.out rfl
    have xk : IntKind.i64.wrap ((i : Int) + (k : Int)) = ((i + k : Nat) : Int) := by rw [IntWalk.i64_in _ (by omega)]; omega
    clear HSt
    go_enter Try.func57, Try.ntmps57
    go_upto_region 3 with (go_at_call 39; refine HRd.out.mono ?_; rintro e w1 ⟨rfl, hb1⟩; have H1 := Lib.hid (H.out.keep hb1); clear hb1)
    have HV := Lib.hid (H1.out.keep ((Below.refl w1.heap.size w1).drew))
    have H8 := Lib.hid (HV.out.keep (below_alloc w1.drew (.cells #[.int .u64 (n : Int)] 43)))
    obtain ⟨u, c5, hoU, _⟩ := HV.out.st
    have d5 := cell_later (below_alloc w1.drew (.cells #[.int .u64 (n : Int)] 43)) c5
    have c6 := HV.out.c6
    have d6 := H8.out.c6
    have HO : Hid ((w1.drew.alloc (.cells #[.int .u64 (n : Int)] 43)).ownsRow W0.heap.size 43 1 u acc.length (kcl .u64 acc)) := Lib.hid (World.ownsRow.alloc (w := w1.drew) hoU _)
    have hsz := H8.out.bl.size
    obtain ⟨pu, cu, rfl⟩ : ∃ p c, u = .slice p acc.length c := by
      rcases hoU.2 with ⟨e, hz⟩ | ⟨g, c, cur, e, _⟩
      · exact ⟨none, 0, by rw [e, hz]⟩
      · exact ⟨_, c, e⟩
    clear H H1 c1 hoU HRd
    refine wp_region_held_drew (S := fun _ => True) (by kernel_rfl) trivial (fun hHeld => ?_)
    generalize w1.drew = V0 at *
    refine wpAnyH_take (i := 1) (oi := { dst := some 18, op := Op.move (Operand.tmp 4), type := 43, pos := "varint.go:72", after := #[], guard := none }) (v := ?_) rfl (by kernel_rfl) (by kernel_rfl) (by kernel_rfl) (fun _ _ _ h => h) (Or.inl ⟨by rfl, ?_⟩) (by with_reducible assumption) ?_
    rotate_left
    focus (intro wS hSw; (try dsimp only at hSw); go_simp <;> with_reducible rfl)
    try go_frame
    refine wpAnyH_take (i := 5) (oi := { dst := some 22, op := Op.move (Operand.tmp 5), type := 3, pos := "varint.go:72", after := #[], guard := none }) (v := ?_) rfl (by kernel_rfl) (by kernel_rfl) (by kernel_rfl) (fun _ _ _ h => h) (Or.inl ⟨by rfl, ?_⟩) (by with_reducible assumption) ?_
    rotate_left
    focus (intro wS hSw; (try dsimp only at hSw); go_simp <;> with_reducible rfl)
    try go_frame
    refine wpAnyH_ready (rs := [0, 2, 4]) (by kernel_rfl) (by simp) ?_
    refine AllReadyH.cons (i := 0) (o := { dst := some 17, op := Op.load 60 (Operand.tmp 2), type := 60, pos := "varint.go:72", after := #[], guard := none }) rfl (fun K hK => ?_) (AllReadyH.cons (i := 2) (o := { dst := some 19, op := Op.buildSlice 60 1 #[(0, Operand.tmp 18)], type := 60, pos := "varint.go:72", after := #[{ on := 1, ground := Ground.data }], guard := none }) rfl (fun K hK => ?_) (AllReadyH.cons (i := 4) (o := { dst := some 21, op := Op.load 3 (Operand.tmp 1), type := 3, pos := "varint.go:72", after := #[], guard := none }) rfl (fun K hK => ?_) AllReadyH.nil))
    · go_simp
      refine hK.out _ _ trivial (fun hHeld => ?_)
      clear hK K
      try go_frame
      refine wpAnyH_ready (rs := [2, 4]) (by kernel_rfl) (by simp) ?_
      refine AllReadyH.cons (i := 2) (o := { dst := some 19, op := Op.buildSlice 60 1 #[(0, Operand.tmp 18)], type := 60, pos := "varint.go:72", after := #[{ on := 1, ground := Ground.data }], guard := none }) rfl (fun K hK => ?_) (AllReadyH.cons (i := 4) (o := { dst := some 21, op := Op.load 3 (Operand.tmp 1), type := 3, pos := "varint.go:72", after := #[], guard := none }) rfl (fun K hK => ?_) AllReadyH.nil)
      · go_simp
        refine hK.out _ _ trivial (fun hHeld => ?_)
        clear hK K
        try go_frame
        refine wpAnyH_ready (rs := [3, 4]) (by kernel_rfl) (by simp) ?_
        refine AllReadyH.cons (i := 3) (o := { dst := some 20, op := Op.call { callee := Callee.builtin Builtin.append, args := #[Operand.tmp 17, Operand.tmp 19], argTypes := #[60, 60] }, type := 60, pos := "varint.go:72", after := #[{ on := 0, ground := Ground.data }, { on := 2, ground := Ground.data }], guard := none }) rfl (fun K hK => ?_) (AllReadyH.cons (i := 4) (o := { dst := some 21, op := Op.load 3 (Operand.tmp 1), type := 3, pos := "varint.go:72", after := #[], guard := none }) rfl (fun K hK => ?_) AllReadyH.nil)
        · refine step_append_at (by rfl) (.tmp 17) (.tmp 19) 60 (by rfl) W0.heap.size 43 i0 (.int .u64 0) 1 8 Try.underlying60 hi hz0 hz1 hz2 (by rfl) (by decide) (.slice pu acc.length cu) acc.length (kcl .u64 acc) (by rfl) HO.out ⟨V0.heap.size, 0, none⟩ 1 1 [.int .u64 (n : Int)] (by rfl) (by rfl) (fun j u hj => by match j, hj with | 0, hj => (simp at hj; subst hj; rw [add_at]; go_simp)) (by intro u hu; rw [List.mem_singleton] at hu; subst hu; rfl) (by unfold maxLen; omega) (by omega) hsz ?_
          intro v2 wB hoB hgB hvB
          obtain ⟨⟨b5, b6, f5, f6, g6, h6⟩, hP⟩ := H8.out.more (k := i + k) d5 hgB hoB hvB
          have HP := Lib.hid hP
          obtain ⟨g2, cp2, rfl⟩ := own_formV hoB
          clear hP hgB hvB hoB
          refine hK.out _ _ trivial (fun hHeld => ?_)
          clear hK K
          try go_frame
          refine wpAnyH_ready (rs := [4, 7]) (by kernel_rfl) (by simp) ?_
          refine AllReadyH.cons (i := 4) (o := { dst := some 21, op := Op.load 3 (Operand.tmp 1), type := 3, pos := "varint.go:72", after := #[], guard := none }) rfl (fun K hK => ?_) (AllReadyH.cons (i := 7) (o := { dst := none, op := Op.store 60 (Operand.tmp 2) (Operand.tmp 20), type := 0, pos := "varint.go:72", after := #[{ on := 3, ground := Ground.data }, { on := 3, ground := Ground.chain }, { on := 0, ground := Ground.phase }, { on := 1, ground := Ground.phase }, { on := 2, ground := Ground.phase }, { on := 3, ground := Ground.phase }, { on := 4, ground := Ground.textOnly Departure.inlinedCapture }, { on := 5, ground := Ground.textOnly Departure.lateStores }, { on := 6, ground := Ground.textOnly Departure.inlinedCapture }], guard := none }) rfl (fun K hK => ?_) AllReadyH.nil)
          · go_simp
            refine hK.out _ _ trivial (fun hHeld => ?_)
            clear hK K
            try go_frame
            refine wpAnyH_take (i := 6) (oi := { dst := some 23, op := Op.binOp BinOp.add 3 (Operand.tmp 21) (Operand.tmp 22) 3, type := 3, pos := "varint.go:72", after := #[{ on := 4, ground := Ground.data }, { on := 5, ground := Ground.data }], guard := none }) (v := ?_) rfl (by kernel_rfl) (by kernel_rfl) (by kernel_rfl) (fun _ _ _ h => h) (Or.inl ⟨by rfl, ?_⟩) (by with_reducible assumption) ?_
            rotate_left
            focus (intro wS hSw; (try dsimp only at hSw); go_simp <;> with_reducible rfl)
            try go_frame
            refine wpAnyH_ready (rs := [7]) (by kernel_rfl) (by simp) ?_
            refine AllReadyH.cons (i := 7) (o := { dst := none, op := Op.store 60 (Operand.tmp 2) (Operand.tmp 20), type := 0, pos := "varint.go:72", after := #[{ on := 3, ground := Ground.data }, { on := 3, ground := Ground.chain }, { on := 0, ground := Ground.phase }, { on := 1, ground := Ground.phase }, { on := 2, ground := Ground.phase }, { on := 3, ground := Ground.phase }, { on := 4, ground := Ground.textOnly Departure.inlinedCapture }, { on := 5, ground := Ground.textOnly Departure.lateStores }, { on := 6, ground := Ground.textOnly Departure.inlinedCapture }], guard := none }) rfl (fun K hK => ?_) AllReadyH.nil
            go_simp
            refine hK.out _ _ trivial (fun hHeld => ?_)
            clear hK K
            try go_frame
            refine wpAnyH_ready (rs := [8]) (by kernel_rfl) (by simp) ?_
            refine AllReadyH.cons (i := 8) (o := { dst := none, op := Op.store 3 (Operand.tmp 1) (Operand.tmp 23), type := 0, pos := "varint.go:72", after := #[{ on := 6, ground := Ground.data }, { on := 7, ground := Ground.chain }, { on := 0, ground := Ground.phase }, { on := 1, ground := Ground.phase }, { on := 2, ground := Ground.phase }, { on := 3, ground := Ground.phase }, { on := 4, ground := Ground.phase }, { on := 5, ground := Ground.phase }, { on := 6, ground := Ground.phase }, { on := 7, ground := Ground.phase }], guard := none }) rfl (fun K hK => ?_) AllReadyH.nil
            go_simp
            refine hK.out _ _ trivial (fun hHeld => ?_)
            clear hK K
            try go_frame
            refine wpAnyH_done (by kernel_rfl) ?_ _
            go_wp2_with fail
            go_ret
            exact HFin.out _ (fun _ => HP.out) (fun h0 => absurd rfl h0)
          · go_simp
            refine hK.out _ _ trivial (fun hHeld => ?_)
            clear hK K
            try go_frame
            refine wpAnyH_ready (rs := [4]) (by kernel_rfl) (by simp) ?_
            refine AllReadyH.cons (i := 4) (o := { dst := some 21, op := Op.load 3 (Operand.tmp 1), type := 3, pos := "varint.go:72", after := #[], guard := none }) rfl (fun K hK => ?_) AllReadyH.nil
            go_simp
            refine hK.out _ _ trivial (fun hHeld => ?_)
            clear hK K
            try go_frame
            refine wpAnyH_take (i := 6) (oi := { dst := some 23, op := Op.binOp BinOp.add 3 (Operand.tmp 21) (Operand.tmp 22) 3, type := 3, pos := "varint.go:72", after := #[{ on := 4, ground := Ground.data }, { on := 5, ground := Ground.data }], guard := none }) (v := ?_) rfl (by kernel_rfl) (by kernel_rfl) (by kernel_rfl) (fun _ _ _ h => h) (Or.inl ⟨by rfl, ?_⟩) (by with_reducible assumption) ?_
            rotate_left
            focus (intro wS hSw; (try dsimp only at hSw); go_simp <;> with_reducible rfl)
            try go_frame
            refine wpAnyH_ready (rs := [8]) (by kernel_rfl) (by simp) ?_
            refine AllReadyH.cons (i := 8) (o := { dst := none, op := Op.store 3 (Operand.tmp 1) (Operand.tmp 23), type := 0, pos := "varint.go:72", after := #[{ on := 6, ground := Ground.data }, { on := 7, ground := Ground.chain }, { on := 0, ground := Ground.phase }, { on := 1, ground := Ground.phase }, { on := 2, ground := Ground.phase }, { on := 3, ground := Ground.phase }, { on := 4, ground := Ground.phase }, { on := 5, ground := Ground.phase }, { on := 6, ground := Ground.phase }, { on := 7, ground := Ground.phase }], guard := none }) rfl (fun K hK => ?_) AllReadyH.nil
            go_simp
            refine hK.out _ _ trivial (fun hHeld => ?_)
            clear hK K
            try go_frame
            refine wpAnyH_done (by kernel_rfl) ?_ _
            go_wp2_with fail
            go_ret
            exact HFin.out _ (fun _ => HP.out) (fun h0 => absurd rfl h0)
        · go_simp
          refine hK.out _ _ trivial (fun hHeld => ?_)
          clear hK K
          try go_frame
          refine wpAnyH_take (i := 6) (oi := { dst := some 23, op := Op.binOp BinOp.add 3 (Operand.tmp 21) (Operand.tmp 22) 3, type := 3, pos := "varint.go:72", after := #[{ on := 4, ground := Ground.data }, { on := 5, ground := Ground.data }], guard := none }) (v := ?_) rfl (by kernel_rfl) (by kernel_rfl) (by kernel_rfl) (fun _ _ _ h => h) (Or.inl ⟨by rfl, ?_⟩) (by with_reducible assumption) ?_
          rotate_left
          focus (intro wS hSw; (try dsimp only at hSw); go_simp <;> with_reducible rfl)
          try go_frame
          refine wpAnyH_ready (rs := [3]) (by kernel_rfl) (by simp) ?_
          refine AllReadyH.cons (i := 3) (o := { dst := some 20, op := Op.call { callee := Callee.builtin Builtin.append, args := #[Operand.tmp 17, Operand.tmp 19], argTypes := #[60, 60] }, type := 60, pos := "varint.go:72", after := #[{ on := 0, ground := Ground.data }, { on := 2, ground := Ground.data }], guard := none }) rfl (fun K hK => ?_) AllReadyH.nil
          refine step_append_at (by rfl) (.tmp 17) (.tmp 19) 60 (by rfl) W0.heap.size 43 i0 (.int .u64 0) 1 8 Try.underlying60 hi hz0 hz1 hz2 (by rfl) (by decide) (.slice pu acc.length cu) acc.length (kcl .u64 acc) (by rfl) HO.out ⟨V0.heap.size, 0, none⟩ 1 1 [.int .u64 (n : Int)] (by rfl) (by rfl) (fun j u hj => by match j, hj with | 0, hj => (simp at hj; subst hj; rw [add_at]; go_simp)) (by intro u hu; rw [List.mem_singleton] at hu; subst hu; rfl) (by unfold maxLen; omega) (by omega) hsz ?_
          intro v2 wB hoB hgB hvB
          obtain ⟨⟨b5, b6, f5, f6, g6, h6⟩, hP⟩ := H8.out.more (k := i + k) d5 hgB hoB hvB
          have HP := Lib.hid hP
          obtain ⟨g2, cp2, rfl⟩ := own_formV hoB
          clear hP hgB hvB hoB
          refine hK.out _ _ trivial (fun hHeld => ?_)
          clear hK K
          try go_frame
          refine wpAnyH_ready (rs := [7]) (by kernel_rfl) (by simp) ?_
          refine AllReadyH.cons (i := 7) (o := { dst := none, op := Op.store 60 (Operand.tmp 2) (Operand.tmp 20), type := 0, pos := "varint.go:72", after := #[{ on := 3, ground := Ground.data }, { on := 3, ground := Ground.chain }, { on := 0, ground := Ground.phase }, { on := 1, ground := Ground.phase }, { on := 2, ground := Ground.phase }, { on := 3, ground := Ground.phase }, { on := 4, ground := Ground.textOnly Departure.inlinedCapture }, { on := 5, ground := Ground.textOnly Departure.lateStores }, { on := 6, ground := Ground.textOnly Departure.inlinedCapture }], guard := none }) rfl (fun K hK => ?_) AllReadyH.nil
          go_simp
          refine hK.out _ _ trivial (fun hHeld => ?_)
          clear hK K
          try go_frame
          refine wpAnyH_ready (rs := [8]) (by kernel_rfl) (by simp) ?_
          refine AllReadyH.cons (i := 8) (o := { dst := none, op := Op.store 3 (Operand.tmp 1) (Operand.tmp 23), type := 0, pos := "varint.go:72", after := #[{ on := 6, ground := Ground.data }, { on := 7, ground := Ground.chain }, { on := 0, ground := Ground.phase }, { on := 1, ground := Ground.phase }, { on := 2, ground := Ground.phase }, { on := 3, ground := Ground.phase }, { on := 4, ground := Ground.phase }, { on := 5, ground := Ground.phase }, { on := 6, ground := Ground.phase }, { on := 7, ground := Ground.phase }], guard := none }) rfl (fun K hK => ?_) AllReadyH.nil
          go_simp
          refine hK.out _ _ trivial (fun hHeld => ?_)
          clear hK K
          try go_frame
          refine wpAnyH_done (by kernel_rfl) ?_ _
          go_wp2_with fail
          go_ret
          exact HFin.out _ (fun _ => HP.out) (fun h0 => absurd rfl h0)
      · go_simp
        refine hK.out _ _ trivial (fun hHeld => ?_)
        clear hK K
        try go_frame
        refine wpAnyH_take (i := 6) (oi := { dst := some 23, op := Op.binOp BinOp.add 3 (Operand.tmp 21) (Operand.tmp 22) 3, type := 3, pos := "varint.go:72", after := #[{ on := 4, ground := Ground.data }, { on := 5, ground := Ground.data }], guard := none }) (v := ?_) rfl (by kernel_rfl) (by kernel_rfl) (by kernel_rfl) (fun _ _ _ h => h) (Or.inl ⟨by rfl, ?_⟩) (by with_reducible assumption) ?_
        rotate_left
        focus (intro wS hSw; (try dsimp only at hSw); go_simp <;> with_reducible rfl)
        try go_frame
        refine wpAnyH_ready (rs := [2]) (by kernel_rfl) (by simp) ?_
        refine AllReadyH.cons (i := 2) (o := { dst := some 19, op := Op.buildSlice 60 1 #[(0, Operand.tmp 18)], type := 60, pos := "varint.go:72", after := #[{ on := 1, ground := Ground.data }], guard := none }) rfl (fun K hK => ?_) AllReadyH.nil
        go_simp
        refine hK.out _ _ trivial (fun hHeld => ?_)
        clear hK K
        try go_frame
        refine wpAnyH_ready (rs := [3]) (by kernel_rfl) (by simp) ?_
        refine AllReadyH.cons (i := 3) (o := { dst := some 20, op := Op.call { callee := Callee.builtin Builtin.append, args := #[Operand.tmp 17, Operand.tmp 19], argTypes := #[60, 60] }, type := 60, pos := "varint.go:72", after := #[{ on := 0, ground := Ground.data }, { on := 2, ground := Ground.data }], guard := none }) rfl (fun K hK => ?_) AllReadyH.nil
        refine step_append_at (by rfl) (.tmp 17) (.tmp 19) 60 (by rfl) W0.heap.size 43 i0 (.int .u64 0) 1 8 Try.underlying60 hi hz0 hz1 hz2 (by rfl) (by decide) (.slice pu acc.length cu) acc.length (kcl .u64 acc) (by rfl) HO.out ⟨V0.heap.size, 0, none⟩ 1 1 [.int .u64 (n : Int)] (by rfl) (by rfl) (fun j u hj => by match j, hj with | 0, hj => (simp at hj; subst hj; rw [add_at]; go_simp)) (by intro u hu; rw [List.mem_singleton] at hu; subst hu; rfl) (by unfold maxLen; omega) (by omega) hsz ?_
        intro v2 wB hoB hgB hvB
        obtain ⟨⟨b5, b6, f5, f6, g6, h6⟩, hP⟩ := H8.out.more (k := i + k) d5 hgB hoB hvB
        have HP := Lib.hid hP
        obtain ⟨g2, cp2, rfl⟩ := own_formV hoB
        clear hP hgB hvB hoB
        refine hK.out _ _ trivial (fun hHeld => ?_)
        clear hK K
        try go_frame
        refine wpAnyH_ready (rs := [7]) (by kernel_rfl) (by simp) ?_
        refine AllReadyH.cons (i := 7) (o := { dst := none, op := Op.store 60 (Operand.tmp 2) (Operand.tmp 20), type := 0, pos := "varint.go:72", after := #[{ on := 3, ground := Ground.data }, { on := 3, ground := Ground.chain }, { on := 0, ground := Ground.phase }, { on := 1, ground := Ground.phase }, { on := 2, ground := Ground.phase }, { on := 3, ground := Ground.phase }, { on := 4, ground := Ground.textOnly Departure.inlinedCapture }, { on := 5, ground := Ground.textOnly Departure.lateStores }, { on := 6, ground := Ground.textOnly Departure.inlinedCapture }], guard := none }) rfl (fun K hK => ?_) AllReadyH.nil
        go_simp
        refine hK.out _ _ trivial (fun hHeld => ?_)
        clear hK K
        try go_frame
        refine wpAnyH_ready (rs := [8]) (by kernel_rfl) (by simp) ?_
        refine AllReadyH.cons (i := 8) (o := { dst := none, op := Op.store 3 (Operand.tmp 1) (Operand.tmp 23), type := 0, pos := "varint.go:72", after := #[{ on := 6, ground := Ground.data }, { on := 7, ground := Ground.chain }, { on := 0, ground := Ground.phase }, { on := 1, ground := Ground.phase }, { on := 2, ground := Ground.phase }, { on := 3, ground := Ground.phase }, { on := 4, ground := Ground.phase }, { on := 5, ground := Ground.phase }, { on := 6, ground := Ground.phase }, { on := 7, ground := Ground.phase }], guard := none }) rfl (fun K hK => ?_) AllReadyH.nil
        go_simp
        refine hK.out _ _ trivial (fun hHeld => ?_)
        clear hK K
        try go_frame
        refine wpAnyH_done (by kernel_rfl) ?_ _
        go_wp2_with fail
        go_ret
        exact HFin.out _ (fun _ => HP.out) (fun h0 => absurd rfl h0)
    · go_simp
      refine hK.out _ _ trivial (fun hHeld => ?_)
      clear hK K
      try go_frame
      refine wpAnyH_ready (rs := [0, 4]) (by kernel_rfl) (by simp) ?_
      refine AllReadyH.cons (i := 0) (o := { dst := some 17, op := Op.load 60 (Operand.tmp 2), type := 60, pos := "varint.go:72", after := #[], guard := none }) rfl (fun K hK => ?_) (AllReadyH.cons (i := 4) (o := { dst := some 21, op := Op.load 3 (Operand.tmp 1), type := 3, pos := "varint.go:72", after := #[], guard := none }) rfl (fun K hK => ?_) AllReadyH.nil)
      · go_simp
        refine hK.out _ _ trivial (fun hHeld => ?_)
        clear hK K
        try go_frame
        refine wpAnyH_ready (rs := [3, 4]) (by kernel_rfl) (by simp) ?_
        refine AllReadyH.cons (i := 3) (o := { dst := some 20, op := Op.call { callee := Callee.builtin Builtin.append, args := #[Operand.tmp 17, Operand.tmp 19], argTypes := #[60, 60] }, type := 60, pos := "varint.go:72", after := #[{ on := 0, ground := Ground.data }, { on := 2, ground := Ground.data }], guard := none }) rfl (fun K hK => ?_) (AllReadyH.cons (i := 4) (o := { dst := some 21, op := Op.load 3 (Operand.tmp 1), type := 3, pos := "varint.go:72", after := #[], guard := none }) rfl (fun K hK => ?_) AllReadyH.nil)
        · refine step_append_at (by rfl) (.tmp 17) (.tmp 19) 60 (by rfl) W0.heap.size 43 i0 (.int .u64 0) 1 8 Try.underlying60 hi hz0 hz1 hz2 (by rfl) (by decide) (.slice pu acc.length cu) acc.length (kcl .u64 acc) (by rfl) HO.out ⟨V0.heap.size, 0, none⟩ 1 1 [.int .u64 (n : Int)] (by rfl) (by rfl) (fun j u hj => by match j, hj with | 0, hj => (simp at hj; subst hj; rw [add_at]; go_simp)) (by intro u hu; rw [List.mem_singleton] at hu; subst hu; rfl) (by unfold maxLen; omega) (by omega) hsz ?_
          intro v2 wB hoB hgB hvB
          obtain ⟨⟨b5, b6, f5, f6, g6, h6⟩, hP⟩ := H8.out.more (k := i + k) d5 hgB hoB hvB
          have HP := Lib.hid hP
          obtain ⟨g2, cp2, rfl⟩ := own_formV hoB
          clear hP hgB hvB hoB
          refine hK.out _ _ trivial (fun hHeld => ?_)
          clear hK K
          try go_frame
          refine wpAnyH_ready (rs := [4, 7]) (by kernel_rfl) (by simp) ?_
          refine AllReadyH.cons (i := 4) (o := { dst := some 21, op := Op.load 3 (Operand.tmp 1), type := 3, pos := "varint.go:72", after := #[], guard := none }) rfl (fun K hK => ?_) (AllReadyH.cons (i := 7) (o := { dst := none, op := Op.store 60 (Operand.tmp 2) (Operand.tmp 20), type := 0, pos := "varint.go:72", after := #[{ on := 3, ground := Ground.data }, { on := 3, ground := Ground.chain }, { on := 0, ground := Ground.phase }, { on := 1, ground := Ground.phase }, { on := 2, ground := Ground.phase }, { on := 3, ground := Ground.phase }, { on := 4, ground := Ground.textOnly Departure.inlinedCapture }, { on := 5, ground := Ground.textOnly Departure.lateStores }, { on := 6, ground := Ground.textOnly Departure.inlinedCapture }], guard := none }) rfl (fun K hK => ?_) AllReadyH.nil)
          · go_simp
            refine hK.out _ _ trivial (fun hHeld => ?_)
            clear hK K
            try go_frame
            refine wpAnyH_take (i := 6) (oi := { dst := some 23, op := Op.binOp BinOp.add 3 (Operand.tmp 21) (Operand.tmp 22) 3, type := 3, pos := "varint.go:72", after := #[{ on := 4, ground := Ground.data }, { on := 5, ground := Ground.data }], guard := none }) (v := ?_) rfl (by kernel_rfl) (by kernel_rfl) (by kernel_rfl) (fun _ _ _ h => h) (Or.inl ⟨by rfl, ?_⟩) (by with_reducible assumption) ?_
            rotate_left
            focus (intro wS hSw; (try dsimp only at hSw); go_simp <;> with_reducible rfl)
            try go_frame
            refine wpAnyH_ready (rs := [7]) (by kernel_rfl) (by simp) ?_
            refine AllReadyH.cons (i := 7) (o := { dst := none, op := Op.store 60 (Operand.tmp 2) (Operand.tmp 20), type := 0, pos := "varint.go:72", after := #[{ on := 3, ground := Ground.data }, { on := 3, ground := Ground.chain }, { on := 0, ground := Ground.phase }, { on := 1, ground := Ground.phase }, { on := 2, ground := Ground.phase }, { on := 3, ground := Ground.phase }, { on := 4, ground := Ground.textOnly Departure.inlinedCapture }, { on := 5, ground := Ground.textOnly Departure.lateStores }, { on := 6, ground := Ground.textOnly Departure.inlinedCapture }], guard := none }) rfl (fun K hK => ?_) AllReadyH.nil
            go_simp
            refine hK.out _ _ trivial (fun hHeld => ?_)
            clear hK K
            try go_frame
            refine wpAnyH_ready (rs := [8]) (by kernel_rfl) (by simp) ?_
            refine AllReadyH.cons (i := 8) (o := { dst := none, op := Op.store 3 (Operand.tmp 1) (Operand.tmp 23), type := 0, pos := "varint.go:72", after := #[{ on := 6, ground := Ground.data }, { on := 7, ground := Ground.chain }, { on := 0, ground := Ground.phase }, { on := 1, ground := Ground.phase }, { on := 2, ground := Ground.phase }, { on := 3, ground := Ground.phase }, { on := 4, ground := Ground.phase }, { on := 5, ground := Ground.phase }, { on := 6, ground := Ground.phase }, { on := 7, ground := Ground.phase }], guard := none }) rfl (fun K hK => ?_) AllReadyH.nil
            go_simp
            refine hK.out _ _ trivial (fun hHeld => ?_)
            clear hK K
            try go_frame
            refine wpAnyH_done (by kernel_rfl) ?_ _
            go_wp2_with fail
            go_ret
            exact HFin.out _ (fun _ => HP.out) (fun h0 => absurd rfl h0)
          · go_simp
            refine hK.out _ _ trivial (fun hHeld => ?_)
            clear hK K
            try go_frame
            refine wpAnyH_ready (rs := [4]) (by kernel_rfl) (by simp) ?_
            refine AllReadyH.cons (i := 4) (o := { dst := some 21, op := Op.load 3 (Operand.tmp 1), type := 3, pos := "varint.go:72", after := #[], guard := none }) rfl (fun K hK => ?_) AllReadyH.nil
            go_simp
            refine hK.out _ _ trivial (fun hHeld => ?_)
            clear hK K
            try go_frame
            refine wpAnyH_take (i := 6) (oi := { dst := some 23, op := Op.binOp BinOp.add 3 (Operand.tmp 21) (Operand.tmp 22) 3, type := 3, pos := "varint.go:72", after := #[{ on := 4, ground := Ground.data }, { on := 5, ground := Ground.data }], guard := none }) (v := ?_) rfl (by kernel_rfl) (by kernel_rfl) (by kernel_rfl) (fun _ _ _ h => h) (Or.inl ⟨by rfl, ?_⟩) (by with_reducible assumption) ?_
            rotate_left
            focus (intro wS hSw; (try dsimp only at hSw); go_simp <;> with_reducible rfl)
            try go_frame
            refine wpAnyH_ready (rs := [8]) (by kernel_rfl) (by simp) ?_
            refine AllReadyH.cons (i := 8) (o := { dst := none, op := Op.store 3 (Operand.tmp 1) (Operand.tmp 23), type := 0, pos := "varint.go:72", after := #[{ on := 6, ground := Ground.data }, { on := 7, ground := Ground.chain }, { on := 0, ground := Ground.phase }, { on := 1, ground := Ground.phase }, { on := 2, ground := Ground.phase }, { on := 3, ground := Ground.phase }, { on := 4, ground := Ground.phase }, { on := 5, ground := Ground.phase }, { on := 6, ground := Ground.phase }, { on := 7, ground := Ground.phase }], guard := none }) rfl (fun K hK => ?_) AllReadyH.nil
            go_simp
            refine hK.out _ _ trivial (fun hHeld => ?_)
            clear hK K
            try go_frame
            refine wpAnyH_done (by kernel_rfl) ?_ _
            go_wp2_with fail
            go_ret
            exact HFin.out _ (fun _ => HP.out) (fun h0 => absurd rfl h0)
        · go_simp
          refine hK.out _ _ trivial (fun hHeld => ?_)
          clear hK K
          try go_frame
          refine wpAnyH_take (i := 6) (oi := { dst := some 23, op := Op.binOp BinOp.add 3 (Operand.tmp 21) (Operand.tmp 22) 3, type := 3, pos := "varint.go:72", after := #[{ on := 4, ground := Ground.data }, { on := 5, ground := Ground.data }], guard := none }) (v := ?_) rfl (by kernel_rfl) (by kernel_rfl) (by kernel_rfl) (fun _ _ _ h => h) (Or.inl ⟨by rfl, ?_⟩) (by with_reducible assumption) ?_
          rotate_left
          focus (intro wS hSw; (try dsimp only at hSw); go_simp <;> with_reducible rfl)
          try go_frame
          refine wpAnyH_ready (rs := [3]) (by kernel_rfl) (by simp) ?_
          refine AllReadyH.cons (i := 3) (o := { dst := some 20, op := Op.call { callee := Callee.builtin Builtin.append, args := #[Operand.tmp 17, Operand.tmp 19], argTypes := #[60, 60] }, type := 60, pos := "varint.go:72", after := #[{ on := 0, ground := Ground.data }, { on := 2, ground := Ground.data }], guard := none }) rfl (fun K hK => ?_) AllReadyH.nil
          refine step_append_at (by rfl) (.tmp 17) (.tmp 19) 60 (by rfl) W0.heap.size 43 i0 (.int .u64 0) 1 8 Try.underlying60 hi hz0 hz1 hz2 (by rfl) (by decide) (.slice pu acc.length cu) acc.length (kcl .u64 acc) (by rfl) HO.out ⟨V0.heap.size, 0, none⟩ 1 1 [.int .u64 (n : Int)] (by rfl) (by rfl) (fun j u hj => by match j, hj with | 0, hj => (simp at hj; subst hj; rw [add_at]; go_simp)) (by intro u hu; rw [List.mem_singleton] at hu; subst hu; rfl) (by unfold maxLen; omega) (by omega) hsz ?_
          intro v2 wB hoB hgB hvB
          obtain ⟨⟨b5, b6, f5, f6, g6, h6⟩, hP⟩ := H8.out.more (k := i + k) d5 hgB hoB hvB
          have HP := Lib.hid hP
          obtain ⟨g2, cp2, rfl⟩ := own_formV hoB
          clear hP hgB hvB hoB
          refine hK.out _ _ trivial (fun hHeld => ?_)
          clear hK K
          try go_frame
          refine wpAnyH_ready (rs := [7]) (by kernel_rfl) (by simp) ?_
          refine AllReadyH.cons (i := 7) (o := { dst := none, op := Op.store 60 (Operand.tmp 2) (Operand.tmp 20), type := 0, pos := "varint.go:72", after := #[{ on := 3, ground := Ground.data }, { on := 3, ground := Ground.chain }, { on := 0, ground := Ground.phase }, { on := 1, ground := Ground.phase }, { on := 2, ground := Ground.phase }, { on := 3, ground := Ground.phase }, { on := 4, ground := Ground.textOnly Departure.inlinedCapture }, { on := 5, ground := Ground.textOnly Departure.lateStores }, { on := 6, ground := Ground.textOnly Departure.inlinedCapture }], guard := none }) rfl (fun K hK => ?_) AllReadyH.nil
          go_simp
          refine hK.out _ _ trivial (fun hHeld => ?_)
          clear hK K
          try go_frame
          refine wpAnyH_ready (rs := [8]) (by kernel_rfl) (by simp) ?_
          refine AllReadyH.cons (i := 8) (o := { dst := none, op := Op.store 3 (Operand.tmp 1) (Operand.tmp 23), type := 0, pos := "varint.go:72", after := #[{ on := 6, ground := Ground.data }, { on := 7, ground := Ground.chain }, { on := 0, ground := Ground.phase }, { on := 1, ground := Ground.phase }, { on := 2, ground := Ground.phase }, { on := 3, ground := Ground.phase }, { on := 4, ground := Ground.phase }, { on := 5, ground := Ground.phase }, { on := 6, ground := Ground.phase }, { on := 7, ground := Ground.phase }], guard := none }) rfl (fun K hK => ?_) AllReadyH.nil
          go_simp
          refine hK.out _ _ trivial (fun hHeld => ?_)
          clear hK K
          try go_frame
          refine wpAnyH_done (by kernel_rfl) ?_ _
          go_wp2_with fail
          go_ret
          exact HFin.out _ (fun _ => HP.out) (fun h0 => absurd rfl h0)
      · go_simp
        refine hK.out _ _ trivial (fun hHeld => ?_)
        clear hK K
        try go_frame
        refine wpAnyH_take (i := 6) (oi := { dst := some 23, op := Op.binOp BinOp.add 3 (Operand.tmp 21) (Operand.tmp 22) 3, type := 3, pos := "varint.go:72", after := #[{ on := 4, ground := Ground.data }, { on := 5, ground := Ground.data }], guard := none }) (v := ?_) rfl (by kernel_rfl) (by kernel_rfl) (by kernel_rfl) (fun _ _ _ h => h) (Or.inl ⟨by rfl, ?_⟩) (by with_reducible assumption) ?_
        rotate_left
        focus (intro wS hSw; (try dsimp only at hSw); go_simp <;> with_reducible rfl)
        try go_frame
        refine wpAnyH_ready (rs := [0]) (by kernel_rfl) (by simp) ?_
        refine AllReadyH.cons (i := 0) (o := { dst := some 17, op := Op.load 60 (Operand.tmp 2), type := 60, pos := "varint.go:72", after := #[], guard := none }) rfl (fun K hK => ?_) AllReadyH.nil
        go_simp
        refine hK.out _ _ trivial (fun hHeld => ?_)
        clear hK K
        try go_frame
        refine wpAnyH_ready (rs := [3]) (by kernel_rfl) (by simp) ?_
        refine AllReadyH.cons (i := 3) (o := { dst := some 20, op := Op.call { callee := Callee.builtin Builtin.append, args := #[Operand.tmp 17, Operand.tmp 19], argTypes := #[60, 60] }, type := 60, pos := "varint.go:72", after := #[{ on := 0, ground := Ground.data }, { on := 2, ground := Ground.data }], guard := none }) rfl (fun K hK => ?_) AllReadyH.nil
        refine step_append_at (by rfl) (.tmp 17) (.tmp 19) 60 (by rfl) W0.heap.size 43 i0 (.int .u64 0) 1 8 Try.underlying60 hi hz0 hz1 hz2 (by rfl) (by decide) (.slice pu acc.length cu) acc.length (kcl .u64 acc) (by rfl) HO.out ⟨V0.heap.size, 0, none⟩ 1 1 [.int .u64 (n : Int)] (by rfl) (by rfl) (fun j u hj => by match j, hj with | 0, hj => (simp at hj; subst hj; rw [add_at]; go_simp)) (by intro u hu; rw [List.mem_singleton] at hu; subst hu; rfl) (by unfold maxLen; omega) (by omega) hsz ?_
        intro v2 wB hoB hgB hvB
        obtain ⟨⟨b5, b6, f5, f6, g6, h6⟩, hP⟩ := H8.out.more (k := i + k) d5 hgB hoB hvB
        have HP := Lib.hid hP
        obtain ⟨g2, cp2, rfl⟩ := own_formV hoB
        clear hP hgB hvB hoB
        refine hK.out _ _ trivial (fun hHeld => ?_)
        clear hK K
        try go_frame
        refine wpAnyH_ready (rs := [7]) (by kernel_rfl) (by simp) ?_
        refine AllReadyH.cons (i := 7) (o := { dst := none, op := Op.store 60 (Operand.tmp 2) (Operand.tmp 20), type := 0, pos := "varint.go:72", after := #[{ on := 3, ground := Ground.data }, { on := 3, ground := Ground.chain }, { on := 0, ground := Ground.phase }, { on := 1, ground := Ground.phase }, { on := 2, ground := Ground.phase }, { on := 3, ground := Ground.phase }, { on := 4, ground := Ground.textOnly Departure.inlinedCapture }, { on := 5, ground := Ground.textOnly Departure.lateStores }, { on := 6, ground := Ground.textOnly Departure.inlinedCapture }], guard := none }) rfl (fun K hK => ?_) AllReadyH.nil
        go_simp
        refine hK.out _ _ trivial (fun hHeld => ?_)
        clear hK K
        try go_frame
        refine wpAnyH_ready (rs := [8]) (by kernel_rfl) (by simp) ?_
        refine AllReadyH.cons (i := 8) (o := { dst := none, op := Op.store 3 (Operand.tmp 1) (Operand.tmp 23), type := 0, pos := "varint.go:72", after := #[{ on := 6, ground := Ground.data }, { on := 7, ground := Ground.chain }, { on := 0, ground := Ground.phase }, { on := 1, ground := Ground.phase }, { on := 2, ground := Ground.phase }, { on := 3, ground := Ground.phase }, { on := 4, ground := Ground.phase }, { on := 5, ground := Ground.phase }, { on := 6, ground := Ground.phase }, { on := 7, ground := Ground.phase }], guard := none }) rfl (fun K hK => ?_) AllReadyH.nil
        go_simp
        refine hK.out _ _ trivial (fun hHeld => ?_)
        clear hK K
        try go_frame
        refine wpAnyH_done (by kernel_rfl) ?_ _
        go_wp2_with fail
        go_ret
        exact HFin.out _ (fun _ => HP.out) (fun h0 => absurd rfl h0)
    · go_simp
      refine hK.out _ _ trivial (fun hHeld => ?_)
      clear hK K
      try go_frame
      refine wpAnyH_take (i := 6) (oi := { dst := some 23, op := Op.binOp BinOp.add 3 (Operand.tmp 21) (Operand.tmp 22) 3, type := 3, pos := "varint.go:72", after := #[{ on := 4, ground := Ground.data }, { on := 5, ground := Ground.data }], guard := none }) (v := ?_) rfl (by kernel_rfl) (by kernel_rfl) (by kernel_rfl) (fun _ _ _ h => h) (Or.inl ⟨by rfl, ?_⟩) (by with_reducible assumption) ?_
      rotate_left
      focus (intro wS hSw; (try dsimp only at hSw); go_simp <;> with_reducible rfl)
      try go_frame
      refine wpAnyH_ready (rs := [0, 2]) (by kernel_rfl) (by simp) ?_
      refine AllReadyH.cons (i := 0) (o := { dst := some 17, op := Op.load 60 (Operand.tmp 2), type := 60, pos := "varint.go:72", after := #[], guard := none }) rfl (fun K hK => ?_) (AllReadyH.cons (i := 2) (o := { dst := some 19, op := Op.buildSlice 60 1 #[(0, Operand.tmp 18)], type := 60, pos := "varint.go:72", after := #[{ on := 1, ground := Ground.data }], guard := none }) rfl (fun K hK => ?_) AllReadyH.nil)
      · go_simp
        refine hK.out _ _ trivial (fun hHeld => ?_)
        clear hK K
        try go_frame
        refine wpAnyH_ready (rs := [2]) (by kernel_rfl) (by simp) ?_
        refine AllReadyH.cons (i := 2) (o := { dst := some 19, op := Op.buildSlice 60 1 #[(0, Operand.tmp 18)], type := 60, pos := "varint.go:72", after := #[{ on := 1, ground := Ground.data }], guard := none }) rfl (fun K hK => ?_) AllReadyH.nil
        go_simp
        refine hK.out _ _ trivial (fun hHeld => ?_)
        clear hK K
        try go_frame
        refine wpAnyH_ready (rs := [3]) (by kernel_rfl) (by simp) ?_
        refine AllReadyH.cons (i := 3) (o := { dst := some 20, op := Op.call { callee := Callee.builtin Builtin.append, args := #[Operand.tmp 17, Operand.tmp 19], argTypes := #[60, 60] }, type := 60, pos := "varint.go:72", after := #[{ on := 0, ground := Ground.data }, { on := 2, ground := Ground.data }], guard := none }) rfl (fun K hK => ?_) AllReadyH.nil
        refine step_append_at (by rfl) (.tmp 17) (.tmp 19) 60 (by rfl) W0.heap.size 43 i0 (.int .u64 0) 1 8 Try.underlying60 hi hz0 hz1 hz2 (by rfl) (by decide) (.slice pu acc.length cu) acc.length (kcl .u64 acc) (by rfl) HO.out ⟨V0.heap.size, 0, none⟩ 1 1 [.int .u64 (n : Int)] (by rfl) (by rfl) (fun j u hj => by match j, hj with | 0, hj => (simp at hj; subst hj; rw [add_at]; go_simp)) (by intro u hu; rw [List.mem_singleton] at hu; subst hu; rfl) (by unfold maxLen; omega) (by omega) hsz ?_
        intro v2 wB hoB hgB hvB
        obtain ⟨⟨b5, b6, f5, f6, g6, h6⟩, hP⟩ := H8.out.more (k := i + k) d5 hgB hoB hvB
        have HP := Lib.hid hP
        obtain ⟨g2, cp2, rfl⟩ := own_formV hoB
        clear hP hgB hvB hoB
        refine hK.out _ _ trivial (fun hHeld => ?_)
        clear hK K
        try go_frame
        refine wpAnyH_ready (rs := [7]) (by kernel_rfl) (by simp) ?_
        refine AllReadyH.cons (i := 7) (o := { dst := none, op := Op.store 60 (Operand.tmp 2) (Operand.tmp 20), type := 0, pos := "varint.go:72", after := #[{ on := 3, ground := Ground.data }, { on := 3, ground := Ground.chain }, { on := 0, ground := Ground.phase }, { on := 1, ground := Ground.phase }, { on := 2, ground := Ground.phase }, { on := 3, ground := Ground.phase }, { on := 4, ground := Ground.textOnly Departure.inlinedCapture }, { on := 5, ground := Ground.textOnly Departure.lateStores }, { on := 6, ground := Ground.textOnly Departure.inlinedCapture }], guard := none }) rfl (fun K hK => ?_) AllReadyH.nil
        go_simp
        refine hK.out _ _ trivial (fun hHeld => ?_)
        clear hK K
        try go_frame
        refine wpAnyH_ready (rs := [8]) (by kernel_rfl) (by simp) ?_
        refine AllReadyH.cons (i := 8) (o := { dst := none, op := Op.store 3 (Operand.tmp 1) (Operand.tmp 23), type := 0, pos := "varint.go:72", after := #[{ on := 6, ground := Ground.data }, { on := 7, ground := Ground.chain }, { on := 0, ground := Ground.phase }, { on := 1, ground := Ground.phase }, { on := 2, ground := Ground.phase }, { on := 3, ground := Ground.phase }, { on := 4, ground := Ground.phase }, { on := 5, ground := Ground.phase }, { on := 6, ground := Ground.phase }, { on := 7, ground := Ground.phase }], guard := none }) rfl (fun K hK => ?_) AllReadyH.nil
        go_simp
        refine hK.out _ _ trivial (fun hHeld => ?_)
        clear hK K
        try go_frame
        refine wpAnyH_done (by kernel_rfl) ?_ _
        go_wp2_with fail
        go_ret
        exact HFin.out _ (fun _ => HP.out) (fun h0 => absurd rfl h0)
      · go_simp
        refine hK.out _ _ trivial (fun hHeld => ?_)
        clear hK K
        try go_frame
        refine wpAnyH_ready (rs := [0]) (by kernel_rfl) (by simp) ?_
        refine AllReadyH.cons (i := 0) (o := { dst := some 17, op := Op.load 60 (Operand.tmp 2), type := 60, pos := "varint.go:72", after := #[], guard := none }) rfl (fun K hK => ?_) AllReadyH.nil
        go_simp
        refine hK.out _ _ trivial (fun hHeld => ?_)
        clear hK K
        try go_frame
        refine wpAnyH_ready (rs := [3]) (by kernel_rfl) (by simp) ?_
        refine AllReadyH.cons (i := 3) (o := { dst := some 20, op := Op.call { callee := Callee.builtin Builtin.append, args := #[Operand.tmp 17, Operand.tmp 19], argTypes := #[60, 60] }, type := 60, pos := "varint.go:72", after := #[{ on := 0, ground := Ground.data }, { on := 2, ground := Ground.data }], guard := none }) rfl (fun K hK => ?_) AllReadyH.nil
        refine step_append_at (by rfl) (.tmp 17) (.tmp 19) 60 (by rfl) W0.heap.size 43 i0 (.int .u64 0) 1 8 Try.underlying60 hi hz0 hz1 hz2 (by rfl) (by decide) (.slice pu acc.length cu) acc.length (kcl .u64 acc) (by rfl) HO.out ⟨V0.heap.size, 0, none⟩ 1 1 [.int .u64 (n : Int)] (by rfl) (by rfl) (fun j u hj => by match j, hj with | 0, hj => (simp at hj; subst hj; rw [add_at]; go_simp)) (by intro u hu; rw [List.mem_singleton] at hu; subst hu; rfl) (by unfold maxLen; omega) (by omega) hsz ?_
        intro v2 wB hoB hgB hvB
        obtain ⟨⟨b5, b6, f5, f6, g6, h6⟩, hP⟩ := H8.out.more (k := i + k) d5 hgB hoB hvB
        have HP := Lib.hid hP
        obtain ⟨g2, cp2, rfl⟩ := own_formV hoB
        clear hP hgB hvB hoB
        refine hK.out _ _ trivial (fun hHeld => ?_)
        clear hK K
        try go_frame
        refine wpAnyH_ready (rs := [7]) (by kernel_rfl) (by simp) ?_
        refine AllReadyH.cons (i := 7) (o := { dst := none, op := Op.store 60 (Operand.tmp 2) (Operand.tmp 20), type := 0, pos := "varint.go:72", after := #[{ on := 3, ground := Ground.data }, { on := 3, ground := Ground.chain }, { on := 0, ground := Ground.phase }, { on := 1, ground := Ground.phase }, { on := 2, ground := Ground.phase }, { on := 3, ground := Ground.phase }, { on := 4, ground := Ground.textOnly Departure.inlinedCapture }, { on := 5, ground := Ground.textOnly Departure.lateStores }, { on := 6, ground := Ground.textOnly Departure.inlinedCapture }], guard := none }) rfl (fun K hK => ?_) AllReadyH.nil
        go_simp
        refine hK.out _ _ trivial (fun hHeld => ?_)
        clear hK K
        try go_frame
        refine wpAnyH_ready (rs := [8]) (by kernel_rfl) (by simp) ?_
        refine AllReadyH.cons (i := 8) (o := { dst := none, op := Op.store 3 (Operand.tmp 1) (Operand.tmp 23), type := 0, pos := "varint.go:72", after := #[{ on := 6, ground := Ground.data }, { on := 7, ground := Ground.chain }, { on := 0, ground := Ground.phase }, { on := 1, ground := Ground.phase }, { on := 2, ground := Ground.phase }, { on := 3, ground := Ground.phase }, { on := 4, ground := Ground.phase }, { on := 5, ground := Ground.phase }, { on := 6, ground := Ground.phase }, { on := 7, ground := Ground.phase }], guard := none }) rfl (fun K hK => ?_) AllReadyH.nil
        go_simp
        refine hK.out _ _ trivial (fun hHeld => ?_)
        clear hK K
        try go_frame
        refine wpAnyH_done (by kernel_rfl) ?_ _
        go_wp2_with fail
        go_ret
        exact HFin.out _ (fun _ => HP.out) (fun h0 => absurd rfl h0)
  · have hez : ¬ (e : Int) = 0 := by omega
    clear HSt
    go_enter Try.func57, Try.ntmps57
    go_wp2_with (go_at_call 39; refine HRd.out.mono ?_; rintro e w1 ⟨rfl, hb1⟩; have H1 := Lib.hid (H.out.keep hb1); clear hb1)
    go_ret
    exact HFin.out _ (fun h0 => absurd h0 he) (fun _ => H1.out)
end Go.Proofs.Ytenfaejdnphngaa
