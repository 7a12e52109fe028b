/- Walks of the index: Add. -/
import Derived.Test.YtenfaejdnphngaaRowsG
namespace Go.Proofs.Ytenfaejdnphngaa
open Go.RowKit

theorem IxI.box {W W1 : World} {B xb : Nat} {R : Nat → Rl} {L : List B4} {A : I2 → List Nat} {F : I2 → I2 → List Nat} {vb v2 : Value} {b : B4} (h : IxI W B xb R L A F) (hc : W.cell? ⟨xb, 0, none⟩ = some vb) (hB : B ≤ W.heap.size) (hg : W.grownBy W1 vb.ownBlock) (ho : W1.ownsRow B 25 4 v2 (L.length + 1) (bxCells L ++ bxCl b)) (hv : v2.ownBlock = vb.ownBlock ∨ v2.ownBlock = some W.heap.size) :
    IxI (W1.setCell ⟨xb, 0, none⟩ v2) B xb (newR W R v2 .bs) (L ++ [b]) A F ∧ FrQ (fun r => r ≠ .ix ∧ r ≠ .bs) R W (W1.setCell ⟨xb, 0, none⟩ v2) := by
  obtain ⟨vb', c0, r0⟩ := h.c0
  obtain rfl : vb = vb' := by rw [c0] at hc; injection hc with e; exact e.symm
  have hl := h.lt
  have e := newR_ext W R v2 .bs
  have f1 : FrQ (fun r => r ≠ .bs) R W W1 := FrQ.grown hg (fun k hk _ hq => hq (r0.role k hk))
  have hxr : newR W R v2 .bs xb = .ix := (e xb hl).trans h.role
  have rw1 := r0.more ho hv
  have f2 : FrQ (fun r => r ≠ .ix) (newR W R v2 .bs) W1 (W1.setCell ⟨xb, 0, none⟩ v2) := FrQ.setCell _ _ _ (fun hq => hq hxr)
  have nx : R xb ≠ .bs := by rw [h.role]; simp
  have d0 := f1.cell c0 nx
  have e1 : ExtR W1 (newR W R v2 .bs) (newR W R v2 .bs) := ExtR.refl _ _
  refine ⟨⟨hxr, h.ge, fun o => ?_, ⟨v2, World.cell?_setCell_same _ _ _ d0, ?_⟩, ?_, fun k hk => (e k (by omega)).trans (h.nob k hk)⟩, (f1.weak (fun r hr => hr.2)).trans (f2.weak (fun r hr => hr.1)) e⟩
  · rw [show (W1.setCell ⟨xb, 0, none⟩ v2).frozen? ⟨xb, o, none⟩ = W1.frozen? ⟨xb, o, none⟩ from by simp]
    exact (f1.frozen (a := ⟨xb, o, none⟩) hl nx).trans (h.frz o)
  · rw [bxCells_app, List.length_append, List.length_singleton]
    exact rw1.fr f2 e1 (by simp)
  · have ne : (⟨xb, 0, none⟩ : Addr) ≠ ⟨xb, 1, none⟩ := fun a => by injection a with _ e2; cases e2
    rcases h.c1 with ⟨c1, hA⟩ | ⟨mb, ps, c, c1, hr, hmB, hm, hgs, hn⟩
    · exact .inl ⟨by rw [World.cell?_setCell_other _ _ _ _ ne]; exact f1.cell c1 nx, hA⟩
    · have hm1 := hm.of (f1.block mb hm.size (by rw [hr]; simp))
      have er : newR W R v2 .bs mb = .gm := (e _ hm.size).trans hr
      refine .inr ⟨mb, ps, c, by rw [World.cell?_setCell_other _ _ _ _ ne]; exact f1.cell c1 nx, er, hmB, hm1.of (f2.block mb hm1.size (by rw [er]; simp)), fun p hp => ?_, hn⟩
      obtain ⟨gb, ev, g⟩ := hgs p hp
      exact ⟨gb, ev, (g.fr f1 e (by simp) (by simp) (by simp) (fun _ => by simp)).fr f2 e1 (by simp) (by simp) (by simp) (fun _ => by simp)⟩
/-- The index holds these boxes, and their numbers. -/
def IxL (W : World) (B xb : Nat) (R : Nat → Rl) (L : List B4) : Prop := IxI W B xb R L (numsL L) (stF L)
theorem numsL_add {b : B4} (L : List B4) (hb : rgtB b = true) : numsL (L ++ [b]) = updA (numsL L) (szB b) L.length := by
  funext s
  rw [numsL_snoc]
  unfold updA ofS
  by_cases h : s = szB b
  · simp [hb, h]
  · have h2 : szB b ≠ s := fun e => h e.symm
    simp [hb, h, h2]
theorem stF_add {b : B4} (L : List B4) (hb : rgtB b = true) : stF (L ++ [b]) = updFF (stF L) (szB b) L.length b := by
  funext s f
  rw [stF_snoc]
  unfold updFF ofS fldL cntF
  by_cases h : s = szB b
  · simp [hb, h]
  · have h2 : szB b ≠ s := fun e => h e.symm
    simp [hb, h, h2]
theorem numsL_off {b : B4} (L : List B4) (hb : rgtB b = false) : numsL (L ++ [b]) = numsL L := by
  funext s
  rw [numsL_snoc]
  simp [ofS, hb]
theorem stF_off {b : B4} (L : List B4) (hb : rgtB b = false) : stF (L ++ [b]) = stF L := by
  funext s f
  rw [stF_snoc]
  simp [ofS, hb]
theorem own_len {W : World} {base n size : Nat} {T : TypeId} {v : Value} {xs : List Value} (h : W.ownsRow base T size v n xs) : ∃ p c, v = .slice p n c := by
  rcases h.2 with ⟨e, hz⟩ | ⟨g, c, _, e, _⟩
  · exact ⟨none, 0, by rw [e, hz]⟩
  · exact ⟨_, c, e⟩
theorem below_drewW (V : World) : Below V.heap.size V V.drew := (Below.refl _ _).drew
/-- While boxes are added: what was there and belongs to nothing is as it was. -/
structure AlI (W : World) (B xb : Nat) (R : Nat → Rl) (L : List B4) (V : World) : Prop where
  st : ∃ R1, ExtR W R R1 ∧ IxL V B xb R1 L
  fr : FrQ (fun r => r = .no) R W V
/-- In a round: the box that is added lies in block nb. -/
structure AmI (W : World) (B xb : Nat) (R : Nat → Rl) (M : List B4) (A : I2 → List Nat) (F : I2 → I2 → List Nat) (nb : Nat) (b : B4) (R5 : Nat → Rl) (V : World) : Prop where
  e : ExtR W R R5
  ix : IxI V B xb R5 M A F
  no : R5 nb = .no
  bx : BxAt V nb 0 b
  fr : FrQ (fun r => r = .no) R W V
theorem AmI.lt {W V : World} {B xb nb : Nat} {R R5 : Nat → Rl} {M : List B4} {A : I2 → List Nat} {F : I2 → I2 → List Nat} {b : B4} (h : AmI W B xb R M A F nb b R5 V) : nb < V.heap.size := World.block_lt_of_cell? V _ h.bx.1
theorem AmI.keep {W V V1 : World} {B xb nb : Nat} {R R5 : Nat → Rl} {M : List B4} {A : I2 → List Nat} {F : I2 → I2 → List Nat} {b : B4} (h : AmI W B xb R M A F nb b R5 V) (hB : B ≤ W.heap.size) (hb : Below V.heap.size V V1) : AmI W B xb R M A F nb b R5 V1 :=
  ⟨h.e, h.ix.keep hb (ExtR.refl _ _) (Nat.le_trans hB h.fr.size), h.no, h.bx.keep hb, h.fr.trans (FrQ.below hb) h.e⟩
theorem AmI.frq {W V V1 : World} {B xb nb : Nat} {R R5 R6 : Nat → Rl} {M : List B4} {A A' : I2 → List Nat} {F F' : I2 → I2 → List Nat} {b : B4} {Q : Rl → Prop} (h : AmI W B xb R M A F nb b R5 V) (f : FrQ Q R5 V V1) (hq : Q .no) (e : ExtR V R5 R6) (i : IxI V1 B xb R6 M A' F') : AmI W B xb R M A' F' nb b R6 V1 := by
  have qn : Q (R5 nb) := by rw [h.no]; exact hq
  exact ⟨h.e.trans e h.fr.size, i, (e nb h.lt).trans h.no, ⟨f.cell h.bx.1 qn, f.cell h.bx.2.1 qn, f.cell h.bx.2.2.1 qn, f.cell h.bx.2.2.2 qn⟩, h.fr.trans (f.weak (fun r hr => by rw [hr]; exact hq)) h.e⟩
theorem AlI.box {W V w6 : World} {B xb : Nat} {R : Nat → Rl} {M : List B4} (h : AlI W B xb R M V) (hB : B ≤ W.heap.size) (b : B4) (hb : Below (V.alloc (.cells #[.int .i64 b.1, .int .i64 b.2.1, .int .i64 b.2.2.1, .int .i64 b.2.2.2] 25)).heap.size (V.alloc (.cells #[.int .i64 b.1, .int .i64 b.2.1, .int .i64 b.2.2.1, .int .i64 b.2.2.2] 25)) w6) :
    ∃ R5, AmI W B xb R M (numsL M) (stF M) V.heap.size b R5 w6 := by
  obtain ⟨R1, e1, hi⟩ := h.st
  have hs := h.fr.size
  have e5 : ExtR V R1 (fun k => if k < V.heap.size then R1 k else .no) := fun k hk => by simp [hk]
  have b0 := below_after (below_alloc V (.cells #[.int .i64 b.1, .int .i64 b.2.1, .int .i64 b.2.2.1, .int .i64 b.2.2.2] 25)) hb
  have bx : BxAt (V.alloc (.cells #[.int .i64 b.1, .int .i64 b.2.1, .int .i64 b.2.2.1, .int .i64 b.2.2.2] 25)) V.heap.size 0 b := by refine ⟨?_, ?_, ?_, ?_⟩ <;> go_simp
  exact ⟨_, e1.trans e5 hs, hi.keep b0 e5 (Nat.le_trans hB hs), if_neg (Nat.lt_irrefl _), bx.keep hb, h.fr.trans (FrQ.below b0) e1⟩
theorem AmI.done {W V W1 : World} {B xb nb : Nat} {R R5 : Nat → Rl} {M : List B4} {b : B4} {vb v2 : Value} (h : AmI W B xb R M (numsL (M ++ [b])) (stF (M ++ [b])) nb b R5 V) (hB : B ≤ W.heap.size) (hc : V.cell? ⟨xb, 0, none⟩ = some vb) (hg : V.grownBy W1 vb.ownBlock) (ho : W1.ownsRow B 25 4 v2 (M.length + 1) (bxCells M ++ bxCl b)) (hv : v2.ownBlock = vb.ownBlock ∨ v2.ownBlock = some V.heap.size) :
    AlI W B xb R (M ++ [b]) (W1.setCell ⟨xb, 0, none⟩ v2) := by
  have hs := h.fr.size
  obtain ⟨i, f⟩ := h.ix.box hc (Nat.le_trans hB hs) hg ho hv
  exact ⟨⟨_, h.e.trans (newR_ext _ _ _ _) hs, i⟩, h.fr.trans (f.weak (fun r hr => by rw [hr]; exact ⟨by simp, by simp⟩)) h.e⟩
theorem AmI.grow {W V W1 : World} {B xb nb : Nat} {R R5 : Nat → Rl} {M : List B4} {A : I2 → List Nat} {F : I2 → I2 → List Nat} {b : B4} {vb : Value} (h : AmI W B xb R M A F nb b R5 V) (hc : V.cell? ⟨xb, 0, none⟩ = some vb) (hg : V.grownBy W1 vb.ownBlock) :
    W1.cell? ⟨xb, 0, none⟩ = some vb ∧ W1.frozen? ⟨xb, 0, none⟩ = false ∧ BxAt W1 nb 0 b ∧ ∀ v2, BxAt (W1.setCell ⟨xb, 0, none⟩ v2) nb 0 b := by
  obtain ⟨vb', c0, r0⟩ := h.ix.c0
  obtain rfl : vb = vb' := by rw [c0] at hc; injection hc with e; exact e.symm
  have f : FrQ (fun r => r ≠ .bs) R5 V W1 := FrQ.grown hg (fun k hk _ hq => hq (r0.role k hk))
  have nx : R5 xb ≠ .bs := by rw [h.ix.role]; simp
  have nn : R5 nb ≠ .bs := by rw [h.no]; simp
  have ne : nb ≠ xb := fun e => by have h1 := h.no; rw [e, h.ix.role] at h1; cases h1
  have hb : BxAt W1 nb 0 b := ⟨f.cell h.bx.1 nn, f.cell h.bx.2.1 nn, f.cell h.bx.2.2.1 nn, f.cell h.bx.2.2.2 nn⟩
  have hk : ∀ (o : Nat) (v2 : Value), (W1.setCell ⟨xb, 0, none⟩ v2).cell? ⟨nb, o, none⟩ = W1.cell? ⟨nb, o, none⟩ := fun o v2 => World.cell?_setCell_far _ _ _ _ (fun e => ne e.symm)
  exact ⟨f.cell c0 nx, (f.frozen (a := ⟨xb, 0, none⟩) h.ix.lt nx).trans (h.ix.frz 0), hb, fun v2 => ⟨(hk _ v2).trans hb.1, (hk _ v2).trans hb.2.1, (hk _ v2).trans hb.2.2.1, (hk _ v2).trans hb.2.2.2⟩⟩
theorem bx_news (W : World) (b : B4) (T : TypeId) : ∀ (j : Nat) (u : Value), (bxCl b)[j]? = some u → (W.alloc (.cells #[.int .i64 b.1, .int .i64 b.2.1, .int .i64 b.2.2.1, .int .i64 b.2.2.2] T)).cell? (Addr.add ⟨W.heap.size, 0, none⟩ j) = some u := by
  intro j u h
  unfold bxCl at h
  match j with
  | 0 => simp at h; subst h; simp [Addr.add]
  | 1 => simp at h; subst h; simp [Addr.add]
  | 2 => simp at h; subst h; simp [Addr.add]
  | 3 => simp at h; subst h; simp [Addr.add]
  | j + 4 => simp at h
theorem infoBx : (Try.prog.info? 25).map (fun i => (i.zero, i.size, i.bytes)) = some (some (.agg #[.int .i64 0, .int .i64 0, .int .i64 0, .int .i64 0]), 4, 32) := by kernel_rfl
def BxRow (W : World) (g : Nat) (L : List B4) : Prop := ∀ i, i < L.length → BxAt W g (i * 4) (bxA L i)
def AdPost (W : World) (B xb : Nat) (R : Nat → Rl) (L : List B4) (en : Ending) (w' : World) : Prop := en = .returned (.int .i64 (L.length : Int)) ∧ AlI W B xb R L w'
set_option maxRecDepth 100000 in
set_option maxHeartbeats 4000000 in
theorem add_any {W : World} {B xb g cap : Nat} {R : Nat → Rl} {L0 : List B4} (L : List B4) (h : IxL W B xb R L0) (hB : B ≤ W.heap.size) (hL : L0.length + L.length ≤ 200) (hrow : BxRow W g L) (hr : R g = .no) :
    Calls Try.prog 20 #[.pointer (some ⟨xb, 0, none⟩), .slice (some ⟨g, 0, none⟩) L.length cap] W (AdPost W B xb R (L0 ++ L)) := by
  have hmx : Try.prog.follows .mixedOrders = true := by kernel_rfl
  have H0 : Hid (AlI W B xb R (L0 ++ L.take 0) W) := Lib.hid ⟨⟨R, ExtR.refl _ _, by simpa using h⟩, FrQ.refl _ _ _⟩
  have HRow := Lib.hid hrow
  clear h hrow
  have HRR := Lib.hid (fun b X => rright_any b X)
  have HZ := Lib.hid (fun b hb X => sizeof_any b hb X)
  obtain ⟨iB, hiB, hB0, hB1, hB2⟩ := info_parts infoBx
  go_enter Try.func20, Try.ntmps20
  go_wp2_with fail
  go_loopg [11] L.length (fun gk i wx => ∃ k : Nat, k + gk = L.length ∧ i = .int .i64 (k : Int) ∧ Hid (AlI W B xb R (L0 ++ L.take k) wx))
  case atStart => exact ⟨0, by omega, rfl, H0⟩
  case round =>
    obtain ⟨k, hkg, rfl, HB⟩ := hrel
    clear H0
    cases gk with
    | zero =>
      have hkz : ¬ ((k : Int) < (L.length : Int)) := by omega
      obtain ⟨R1, e1, hi⟩ := HB.out.st
      obtain ⟨vb, c0, r0⟩ := hi.c0
      obtain ⟨p, c, rfl⟩ := own_len r0.own
      have hlen : (L0 ++ L.take k).length = (L0 ++ L).length := by rw [show k = L.length from by omega, List.take_length]
      rw [hlen] at c0
      have HF : Hid (AlI W B xb R (L0 ++ L) wr) := Lib.hid (by
        have h := HB.out
        rwa [show k = L.length from by omega, List.take_length] at h)
      clear hi e1 r0 HB
      generalize hnn : (L0 ++ L).length = nn at *
      go_wp2_with fail
      go_ret
      exact ⟨by rw [hnn]; rfl, HF.out⟩
    | succ gr =>
      have hkz : (k : Int) < (L.length : Int) := by omega
      have hkn : k < L.length := by omega
      have HBx : Hid (BxAt wr g (k * 4) (bxA L k)) := Lib.hid (by
        have h := HRow.out k hkn
        exact ⟨HB.out.fr.cell h.1 hr, HB.out.fr.cell h.2.1 hr, HB.out.fr.cell h.2.2.1 hr, HB.out.fr.cell h.2.2.2 hr⟩)
      have HT : Hid (L0 ++ L.take (k + 1) = (L0 ++ L.take k) ++ [bxA L k]) := Lib.hid (by
        rw [List.take_succ_eq_append_getElem hkn, ← List.append_assoc, bxA_at hkn])
      have HMl : Hid ((L0 ++ L.take k).length < 200) := Lib.hid (by rw [List.length_append, List.length_take]; omega)
      generalize L0 ++ L.take k = M at *
      generalize bxA L k = b at *
      obtain ⟨q0, q1, q2, q3⟩ := HBx.out
      clear HBx HRow

      go_wp2_with (go_at_call 15; refine (HRR.out b _).mono ?_; rintro e w6 ⟨rfl, hb6⟩; have HB6 := Lib.hid hb6; clear hb6)
      · have hbt : rgtB b = true := by assumption
        obtain ⟨R5, hA⟩ := HB.out.box hB b HB6.out
        have HA := Lib.hid hA
        clear hA HB HB6 q0 q1 q2 q3
        generalize wr.heap.size = nb at *
        have HAd := Lib.hid (HA.out.keep hB (below_drewW w6))
        obtain ⟨vb, c0, r0⟩ := HAd.out.ix.c0
        obtain ⟨vp, vc, rfl⟩ := own_len r0.own
        have HR0 := Lib.hid r0
        have HSb : Hid ((fun X : World => X.cell? ⟨xb, 0, none⟩ = some (.slice vp M.length vc) ∧ X.cell? ⟨nb, 0, none⟩ = some (.int .i64 b.1) ∧ X.cell? ⟨nb, 1, none⟩ = some (.int .i64 b.2.1) ∧ X.cell? ⟨nb, 2, none⟩ = some (.int .i64 b.2.2.1) ∧ X.cell? ⟨nb, 3, none⟩ = some (.int .i64 b.2.2.2)) w6.drew) := Lib.hid ⟨c0, HAd.out.bx.1, HAd.out.bx.2.1, HAd.out.bx.2.2.1, HAd.out.bx.2.2.2⟩
        clear r0 HA
        refine wp_region_held_drew (S := (fun X : World => X.cell? ⟨xb, 0, none⟩ = some (.slice vp M.length vc) ∧ X.cell? ⟨nb, 0, none⟩ = some (.int .i64 b.1) ∧ X.cell? ⟨nb, 1, none⟩ = some (.int .i64 b.2.1) ∧ X.cell? ⟨nb, 2, none⟩ = some (.int .i64 b.2.2.1) ∧ X.cell? ⟨nb, 3, none⟩ = some (.int .i64 b.2.2.2))) (by kernel_rfl) HSb.out (fun hHeld => ?_)
        generalize w6.drew = w7 at *
        clear HSb
        refine wpAnyH_take (i := 0) (oi := { dst := some 17, op := Op.move (Operand.tmp 0), type := 44, pos := "index.go:31", after := #[], guard := none }) (v := ?_) rfl (by kernel_rfl) (by kernel_rfl) (by kernel_rfl) (fun _ _ _ h => h) (Or.inl ⟨by rfl, ?_⟩) (by with_reducible assumption) ?_
        rotate_left
        focus (intro wS hSw; (try dsimp only at hSw); go_simp <;> with_reducible rfl)
        try go_frame
        refine wpAnyH_take (i := 1) (oi := { dst := some 18, op := Op.load 25 (Operand.tmp 6), type := 25, pos := "index.go:31", after := #[], guard := none }) (v := ?_) rfl (by kernel_rfl) (by kernel_rfl) (by kernel_rfl) (fun _ _ _ h => h) (Or.inl ⟨by rfl, ?_⟩) (by with_reducible assumption) ?_
        rotate_left
        focus (intro wS hSw; (try dsimp only at hSw); go_simp <;> with_reducible rfl)
        try go_frame
        refine wpAnyH_take (i := 4) (oi := { dst := some 21, op := Op.move (Operand.tmp 0), type := 44, pos := "index.go:31", after := #[], guard := none }) (v := ?_) rfl (by kernel_rfl) (by kernel_rfl) (by kernel_rfl) (fun _ _ _ h => h) (Or.inl ⟨by rfl, ?_⟩) (by with_reducible assumption) ?_
        rotate_left
        focus (intro wS hSw; (try dsimp only at hSw); go_simp <;> with_reducible rfl)
        try go_frame
        refine wpAnyH_take (i := 5) (oi := { dst := some 22, op := Op.nilCheck (Operand.tmp 21), type := 0, pos := "index.go:31", after := #[{ on := 4, ground := Ground.data }], guard := none }) (v := ?_) rfl (by kernel_rfl) (by kernel_rfl) (by kernel_rfl) (fun _ _ _ h => h) (Or.inl ⟨by rfl, ?_⟩) (by with_reducible assumption) ?_
        rotate_left
        focus (intro wS hSw; (try dsimp only at hSw); go_simp <;> with_reducible rfl)
        try go_frame
        refine wpAnyH_take (i := 6) (oi := { dst := some 23, op := Op.fieldAddr 88 (Operand.tmp 22) 0, type := 0, pos := "index.go:31", after := #[{ on := 5, ground := Ground.data }], guard := none }) (v := ?_) rfl (by kernel_rfl) (by kernel_rfl) (by kernel_rfl) (fun _ _ _ h => h) (Or.inl ⟨by rfl, ?_⟩) (by with_reducible assumption) ?_
        rotate_left
        focus (intro wS hSw; (try dsimp only at hSw); go_simp <;> with_reducible rfl)
        try go_frame
        refine wpAnyH_take (i := 7) (oi := { dst := some 24, op := Op.load 42 (Operand.tmp 23), type := 42, pos := "index.go:31", after := #[{ on := 6, ground := Ground.data }], guard := none }) (v := ?_) rfl (by kernel_rfl) (by kernel_rfl) (by kernel_rfl) (fun _ _ _ h => h) (Or.inl ⟨by rfl, ?_⟩) (by with_reducible assumption) ?_
        rotate_left
        focus (intro wS hSw; (try dsimp only at hSw); go_simp <;> with_reducible rfl)
        try go_frame
        refine wpAnyH_take (i := 8) (oi := { dst := some 25, op := Op.call { callee := Callee.builtin Builtin.len, args := #[Operand.tmp 24], argTypes := #[42] }, type := 3, pos := "index.go:31", after := #[{ on := 7, ground := Ground.data }], guard := none }) (v := ?_) rfl (by kernel_rfl) (by kernel_rfl) (by kernel_rfl) (fun _ _ _ h => h) (Or.inl ⟨by rfl, ?_⟩) (by with_reducible assumption) ?_
        rotate_left
        focus (intro wS hSw; (try dsimp only at hSw); go_simp <;> with_reducible rfl)
        try go_frame
        refine wpAnyH_take (i := 9) (oi := { dst := some 26, op := Op.load 25 (Operand.tmp 6), type := 25, pos := "index.go:31", after := #[], guard := none }) (v := ?_) rfl (by kernel_rfl) (by kernel_rfl) (by kernel_rfl) (fun _ _ _ h => h) (Or.inl ⟨by rfl, ?_⟩) (by with_reducible assumption) ?_
        rotate_left
        focus (intro wS hSw; (try dsimp only at hSw); go_simp <;> with_reducible rfl)
        try go_frame
        refine wpAnyH_ready (rs := [2]) (by kernel_rfl) (by simp) ?_
        refine AllReadyH.cons (i := 2) (o := { dst := some 19, op := Op.call { callee := Callee.value (Operand.func 48), args := #[Operand.tmp 18], argTypes := #[25] }, type := 91, pos := "index.go:31", after := #[{ on := 1, ground := Ground.data }], guard := none }) rfl (fun K hK => ?_) AllReadyH.nil
        go_simp
        go_at_call 48
        refine Calls.mono (HZ.out b hbt _) ?_
        rintro e w8 ⟨rfl, hb1⟩
        have HA1 := Lib.hid (HAd.out.keep hB hb1)
        refine hK.out _ _ ⟨(cell_later hb1 c0), HA1.out.bx.1, HA1.out.bx.2.1, HA1.out.bx.2.2.1, HA1.out.bx.2.2.2⟩ (fun hHeld => ?_)
        clear hK K
        try go_frame
        refine wpAnyH_ready (rs := [3]) (by kernel_rfl) (by simp) ?_
        refine AllReadyH.cons (i := 3) (o := { dst := some 20, op := Op.call { callee := Callee.value (Operand.func 47), args := #[Operand.tmp 17, Operand.tmp 19], argTypes := #[44, 91] }, type := 89, pos := "index.go:31", after := #[{ on := 0, ground := Ground.data }, { on := 2, ground := Ground.data }, { on := 2, ground := Ground.chain }], guard := none }) rfl (fun K hK => ?_) AllReadyH.nil
        go_simp
        have c8 := cell_later hb1 c0
        clear hb1 c0 HAd HR0
        go_at_call 47
        refine Calls.mono (gridof_any HA1.out.ix (Nat.le_trans hB HA1.out.fr.size) (szB b) (by have h := szB_in hbt; omega)) ?_
        rintro e w9 ⟨gb, R6, rfl, e6, g6, f6, k6⟩
        have HA2 := Lib.hid (HA1.out.frq f6 ⟨by simp, by simp⟩ e6 g6.ix)
        have HG2 := Lib.hid g6
        have cg := k6 _ c8
        clear g6 f6 k6 e6 c8
        refine hK.out _ _ ⟨cg, HA2.out.bx.1, HA2.out.bx.2.1, HA2.out.bx.2.2.1, HA2.out.bx.2.2.2⟩ (fun hHeld => ?_)
        clear hK K
        try go_frame
        refine wpAnyH_ready (rs := [10]) (by kernel_rfl) (by simp) ?_
        refine AllReadyH.cons (i := 10) (o := { dst := some 27, op := Op.call { callee := Callee.value (Operand.func 49), args := #[Operand.tmp 20, Operand.tmp 25, Operand.tmp 26], argTypes := #[89, 3, 25] }, type := 0, pos := "index.go:31", after := #[{ on := 3, ground := Ground.data }, { on := 8, ground := Ground.data }, { on := 9, ground := Ground.data }, { on := 3, ground := Ground.chain }], guard := none }) rfl (fun K hK => ?_) AllReadyH.nil
        go_simp
        go_at_call 49
        refine Calls.mono (gadd_any b hbt HG2.out.gr M.length (Nat.le_trans hB HA2.out.fr.size) (Nat.le_trans (numsL_len M _) (by have := HMl.out; omega)) (fun f => Nat.le_trans (stF_len M _ f) (by have := HMl.out; omega))) ?_
        rintro e w10 ⟨rfl, R7, e7, f7, g7⟩
        have HA3 := HA2.out.frq f7 ⟨by simp, by simp, by simp, fun _ => by simp⟩ e7 (HG2.out.add (Nat.le_trans hB HA2.out.fr.size) e7 f7 g7)
        rw [← numsL_add M hbt, ← stF_add M hbt] at HA3
        have HA := Lib.hid HA3
        have ca := f7.cell cg (by rw [show R6 (Addr.mk xb 0 none).block = .ix from HA2.out.ix.role]; exact ⟨by simp, by simp, by simp, fun _ => by simp⟩)
        clear HA3 f7 g7 e7 cg
        refine hK.out _ _ ⟨ca, HA.out.bx.1, HA.out.bx.2.1, HA.out.bx.2.2.1, HA.out.bx.2.2.2⟩ (fun hHeld => ?_)
        clear hK K
        try go_frame
        refine wpAnyH_done (by kernel_rfl) ?_ _
        clear hHeld ca HA2 HG2 HA1
        go_upto_region 8 with fail
        skip
        have HAd := Lib.hid (HA.out.keep hB (below_drewW w10))
        obtain ⟨vb, c0, r0⟩ := HAd.out.ix.c0
        obtain ⟨vp, vc, rfl⟩ := own_len r0.own
        have HSb : Hid ((fun X : World => X.cell? ⟨nb, 0, none⟩ = some (.int .i64 b.1) ∧ X.cell? ⟨nb, 1, none⟩ = some (.int .i64 b.2.1) ∧ X.cell? ⟨nb, 2, none⟩ = some (.int .i64 b.2.2.1) ∧ X.cell? ⟨nb, 3, none⟩ = some (.int .i64 b.2.2.2)) w10.drew) := Lib.hid HAd.out.bx
        have HR0 := Lib.hid r0
        clear r0 HA
        refine wp_region_held_drew (S := (fun X : World => X.cell? ⟨nb, 0, none⟩ = some (.int .i64 b.1) ∧ X.cell? ⟨nb, 1, none⟩ = some (.int .i64 b.2.1) ∧ X.cell? ⟨nb, 2, none⟩ = some (.int .i64 b.2.2.1) ∧ X.cell? ⟨nb, 3, none⟩ = some (.int .i64 b.2.2.2))) (by kernel_rfl) HSb.out (fun hHeld => ?_)
        generalize w10.drew = w7 at *
        clear HSb
        have HA8 := Lib.hid (HAd.out.keep hB (below_alloc w7 (.cells #[.int .i64 b.1, .int .i64 b.2.1, .int .i64 b.2.2.1, .int .i64 b.2.2.2] 25)))
        have c8 := cell_later (below_alloc w7 (.cells #[.int .i64 b.1, .int .i64 b.2.1, .int .i64 b.2.2.1, .int .i64 b.2.2.2] 25)) c0
        have HOw : Hid ((w7.alloc (.cells #[.int .i64 b.1, .int .i64 b.2.1, .int .i64 b.2.2.1, .int .i64 b.2.2.2] 25)).ownsRow B 25 4 (.slice vp M.length vc) M.length (bxCells M)) := Lib.hid (World.ownsRow.alloc (w := w7) HR0.out.own _)
        have hB7 : B ≤ w7.heap.size := Nat.le_trans hB HAd.out.fr.size
        have hB8 : B ≤ (w7.alloc (.cells #[.int .i64 b.1, .int .i64 b.2.1, .int .i64 b.2.2.1, .int .i64 b.2.2.2] 25)).heap.size := by simp; omega
        have hM2 := HMl.out
        have HN8 := Lib.hid (bx_news w7 b 25)
        have HS8 : Hid ((fun X : World => X.cell? ⟨nb, 0, none⟩ = some (.int .i64 b.1) ∧ X.cell? ⟨nb, 1, none⟩ = some (.int .i64 b.2.1) ∧ X.cell? ⟨nb, 2, none⟩ = some (.int .i64 b.2.2.1) ∧ X.cell? ⟨nb, 3, none⟩ = some (.int .i64 b.2.2.2)) (w7.alloc (.cells #[.int .i64 b.1, .int .i64 b.2.1, .int .i64 b.2.2.1, .int .i64 b.2.2.2] 25))) := Lib.hid HA8.out.bx
        clear HR0 HAd
        refine wpAnyH_take (i := 0) (oi := { dst := some 28, op := Op.move (Operand.tmp 0), type := 44, pos := "index.go:33", after := #[], guard := none }) (v := ?_) rfl (by kernel_rfl) (by kernel_rfl) (by kernel_rfl) (fun _ _ _ h => h) (Or.inl ⟨by rfl, ?_⟩) (by with_reducible assumption) ?_
        rotate_left
        focus (intro wS hSw; (try dsimp only at hSw); go_simp <;> with_reducible rfl)
        try go_frame
        refine wpAnyH_take (i := 1) (oi := { dst := some 29, op := Op.move (Operand.tmp 0), type := 44, pos := "index.go:33", after := #[], guard := none }) (v := ?_) rfl (by kernel_rfl) (by kernel_rfl) (by kernel_rfl) (fun _ _ _ h => h) (Or.inl ⟨by rfl, ?_⟩) (by with_reducible assumption) ?_
        rotate_left
        focus (intro wS hSw; (try dsimp only at hSw); go_simp <;> with_reducible rfl)
        try go_frame
        refine wpAnyH_take (i := 2) (oi := { dst := some 30, op := Op.nilCheck (Operand.tmp 29), type := 0, pos := "index.go:33", after := #[{ on := 1, ground := Ground.data }], guard := none }) (v := ?_) rfl (by kernel_rfl) (by kernel_rfl) (by kernel_rfl) (fun _ _ _ h => h) (Or.inl ⟨by rfl, ?_⟩) (by with_reducible assumption) ?_
        rotate_left
        focus (intro wS hSw; (try dsimp only at hSw); go_simp <;> with_reducible rfl)
        try go_frame
        refine wpAnyH_take (i := 3) (oi := { dst := some 31, op := Op.fieldAddr 88 (Operand.tmp 30) 0, type := 0, pos := "index.go:33", after := #[{ on := 2, ground := Ground.data }], guard := none }) (v := ?_) rfl (by kernel_rfl) (by kernel_rfl) (by kernel_rfl) (fun _ _ _ h => h) (Or.inl ⟨by rfl, ?_⟩) (by with_reducible assumption) ?_
        rotate_left
        focus (intro wS hSw; (try dsimp only at hSw); go_simp <;> with_reducible rfl)
        try go_frame
        refine wpAnyH_take (i := 5) (oi := { dst := some 33, op := Op.load 25 (Operand.tmp 6), type := 25, pos := "index.go:33", after := #[], guard := none }) (v := ?_) rfl (by kernel_rfl) (by kernel_rfl) (by kernel_rfl) (fun _ _ _ h => h) (Or.inl ⟨by rfl, ?_⟩) (by with_reducible assumption) ?_
        rotate_left
        focus (intro wS hSw; (try dsimp only at hSw); go_simp <;> with_reducible rfl)
        try go_frame
        refine wpAnyH_ready (rs := [4, 6]) (by kernel_rfl) (by simp) ?_
        refine AllReadyH.cons (i := 4) (o := { dst := some 32, op := Op.load 42 (Operand.tmp 31), type := 42, pos := "index.go:33", after := #[{ on := 3, ground := Ground.data }], guard := none }) rfl (fun K hK => ?_) (AllReadyH.cons (i := 6) (o := { dst := some 34, op := Op.buildSlice 42 1 #[(0, Operand.tmp 33)], type := 42, pos := "index.go:33", after := #[{ on := 5, ground := Ground.data }], guard := none }) rfl (fun K hK => ?_) AllReadyH.nil)
        · go_simp
          refine hK.out _ _ (by with_reducible assumption) (fun hHeld => ?_)
          clear hK K
          try go_frame
          refine wpAnyH_ready (rs := [6]) (by kernel_rfl) (by simp) ?_
          refine AllReadyH.cons (i := 6) (o := { dst := some 34, op := Op.buildSlice 42 1 #[(0, Operand.tmp 33)], type := 42, pos := "index.go:33", after := #[{ on := 5, ground := Ground.data }], guard := none }) rfl (fun K hK => ?_) AllReadyH.nil
          go_simp
          refine hK.out _ _ HS8.out (fun hHeld => ?_)
          clear hK K
          try go_frame
          refine wpAnyH_ready (rs := [7]) (by kernel_rfl) (by simp) ?_
          refine AllReadyH.cons (i := 7) (o := { dst := some 35, op := Op.call { callee := Callee.builtin Builtin.append, args := #[Operand.tmp 32, Operand.tmp 34], argTypes := #[42, 42] }, type := 42, pos := "index.go:33", after := #[{ on := 4, ground := Ground.data }, { on := 6, ground := Ground.data }], guard := none }) rfl (fun K hK => ?_) AllReadyH.nil
          refine step_append_at (by rfl) (.tmp 32) (.tmp 34) 42 (by rfl) B 25 iB (.agg #[.int .i64 0, .int .i64 0, .int .i64 0, .int .i64 0]) 4 32 Try.underlying42 hiB hB0 hB1 hB2 (by rfl) (by decide) (.slice vp M.length vc) M.length (bxCells M) (by rfl) HOw.out ⟨w7.heap.size, 0, none⟩ 1 1 (bxCl b) (by rfl) (by rfl) HN8.out (by intro u hu; unfold bxCl at hu; simp only [List.mem_cons, List.not_mem_nil, or_false] at hu; rcases hu with rfl | rfl | rfl | rfl <;> rfl) (by unfold maxLen; omega) (by omega) hB8 ?_
          intro v2 wB hoB hgB hvB
          obtain ⟨g2, cp2, rfl⟩ := own_form1 hoB
          have HG := Lib.hid (HA8.out.grow c8 hgB)
          have HD := Lib.hid (HA8.out.done hB c8 hgB hoB hvB)
          have x0 := HG.out.1
          have x1 := HG.out.2.1
          clear hoB hgB hvB
          refine hK.out _ _ HG.out.2.2.1 (fun hHeld => ?_)
          clear hK K
          try go_frame
          refine wpAnyH_take (i := 8) (oi := { dst := some 36, op := Op.nilCheck (Operand.tmp 28), type := 0, pos := "index.go:33", after := #[{ on := 0, ground := Ground.data }, { on := 0, ground := Ground.phase }, { on := 1, ground := Ground.phase }, { on := 2, ground := Ground.phase }, { on := 3, ground := Ground.phase }, { on := 4, ground := Ground.phase }, { on := 5, ground := Ground.phase }, { on := 6, ground := Ground.phase }, { on := 7, ground := Ground.phase }], guard := none }) (v := ?_) rfl (by kernel_rfl) (by kernel_rfl) (by kernel_rfl) (fun _ _ _ h => h) (Or.inl ⟨by rfl, ?_⟩) (by with_reducible assumption) ?_
          rotate_left
          focus (intro wS hSw; (try dsimp only at hSw); go_simp <;> with_reducible rfl)
          try go_frame
          refine wpAnyH_take (i := 9) (oi := { dst := some 37, op := Op.fieldAddr 88 (Operand.tmp 36) 0, type := 0, pos := "index.go:33", after := #[{ on := 8, ground := Ground.data }, { on := 0, ground := Ground.phase }, { on := 1, ground := Ground.phase }, { on := 2, ground := Ground.phase }, { on := 3, ground := Ground.phase }, { on := 4, ground := Ground.phase }, { on := 5, ground := Ground.phase }, { on := 6, ground := Ground.phase }, { on := 7, ground := Ground.phase }], guard := none }) (v := ?_) rfl (by kernel_rfl) (by kernel_rfl) (by kernel_rfl) (fun _ _ _ h => h) (Or.inl ⟨by rfl, ?_⟩) (by with_reducible assumption) ?_
          rotate_left
          focus (intro wS hSw; (try dsimp only at hSw); go_simp <;> with_reducible rfl)
          try go_frame
          refine wpAnyH_ready (rs := [10]) (by kernel_rfl) (by simp) ?_
          refine AllReadyH.cons (i := 10) (o := { dst := none, op := Op.store 42 (Operand.tmp 37) (Operand.tmp 35), type := 0, pos := "index.go:33", after := #[{ on := 9, ground := Ground.data }, { on := 7, ground := Ground.data }, { on := 7, ground := Ground.chain }, { on := 0, ground := Ground.phase }, { on := 1, ground := Ground.phase }, { on := 2, ground := Ground.phase }, { on := 3, ground := Ground.phase }, { on := 4, ground := Ground.phase }, { on := 5, ground := Ground.phase }, { on := 6, ground := Ground.phase }, { on := 7, ground := Ground.phase }], guard := none }) rfl (fun K hK => ?_) AllReadyH.nil
          go_simp
          refine hK.out _ _ (HG.out.2.2.2 _) (fun hHeld => ?_)
          clear hK K
          try go_frame
          refine wpAnyH_done (by kernel_rfl) ?_ _
          go_wp2_with fail
          go_roundg gr
          case measure => omega
          case rel => exact ⟨k + 1, by omega, by go_num, by rw [HT.out]; exact HD⟩
        · go_simp
          refine hK.out _ _ HS8.out (fun hHeld => ?_)
          clear hK K
          try go_frame
          refine wpAnyH_ready (rs := [4]) (by kernel_rfl) (by simp) ?_
          refine AllReadyH.cons (i := 4) (o := { dst := some 32, op := Op.load 42 (Operand.tmp 31), type := 42, pos := "index.go:33", after := #[{ on := 3, ground := Ground.data }], guard := none }) rfl (fun K hK => ?_) AllReadyH.nil
          go_simp
          refine hK.out _ _ (by with_reducible assumption) (fun hHeld => ?_)
          clear hK K
          try go_frame
          refine wpAnyH_ready (rs := [7]) (by kernel_rfl) (by simp) ?_
          refine AllReadyH.cons (i := 7) (o := { dst := some 35, op := Op.call { callee := Callee.builtin Builtin.append, args := #[Operand.tmp 32, Operand.tmp 34], argTypes := #[42, 42] }, type := 42, pos := "index.go:33", after := #[{ on := 4, ground := Ground.data }, { on := 6, ground := Ground.data }], guard := none }) rfl (fun K hK => ?_) AllReadyH.nil
          refine step_append_at (by rfl) (.tmp 32) (.tmp 34) 42 (by rfl) B 25 iB (.agg #[.int .i64 0, .int .i64 0, .int .i64 0, .int .i64 0]) 4 32 Try.underlying42 hiB hB0 hB1 hB2 (by rfl) (by decide) (.slice vp M.length vc) M.length (bxCells M) (by rfl) HOw.out ⟨w7.heap.size, 0, none⟩ 1 1 (bxCl b) (by rfl) (by rfl) HN8.out (by intro u hu; unfold bxCl at hu; simp only [List.mem_cons, List.not_mem_nil, or_false] at hu; rcases hu with rfl | rfl | rfl | rfl <;> rfl) (by unfold maxLen; omega) (by omega) hB8 ?_
          intro v2 wB hoB hgB hvB
          obtain ⟨g2, cp2, rfl⟩ := own_form1 hoB
          have HG := Lib.hid (HA8.out.grow c8 hgB)
          have HD := Lib.hid (HA8.out.done hB c8 hgB hoB hvB)
          have x0 := HG.out.1
          have x1 := HG.out.2.1
          clear hoB hgB hvB
          refine hK.out _ _ HG.out.2.2.1 (fun hHeld => ?_)
          clear hK K
          try go_frame
          refine wpAnyH_take (i := 8) (oi := { dst := some 36, op := Op.nilCheck (Operand.tmp 28), type := 0, pos := "index.go:33", after := #[{ on := 0, ground := Ground.data }, { on := 0, ground := Ground.phase }, { on := 1, ground := Ground.phase }, { on := 2, ground := Ground.phase }, { on := 3, ground := Ground.phase }, { on := 4, ground := Ground.phase }, { on := 5, ground := Ground.phase }, { on := 6, ground := Ground.phase }, { on := 7, ground := Ground.phase }], guard := none }) (v := ?_) rfl (by kernel_rfl) (by kernel_rfl) (by kernel_rfl) (fun _ _ _ h => h) (Or.inl ⟨by rfl, ?_⟩) (by with_reducible assumption) ?_
          rotate_left
          focus (intro wS hSw; (try dsimp only at hSw); go_simp <;> with_reducible rfl)
          try go_frame
          refine wpAnyH_take (i := 9) (oi := { dst := some 37, op := Op.fieldAddr 88 (Operand.tmp 36) 0, type := 0, pos := "index.go:33", after := #[{ on := 8, ground := Ground.data }, { on := 0, ground := Ground.phase }, { on := 1, ground := Ground.phase }, { on := 2, ground := Ground.phase }, { on := 3, ground := Ground.phase }, { on := 4, ground := Ground.phase }, { on := 5, ground := Ground.phase }, { on := 6, ground := Ground.phase }, { on := 7, ground := Ground.phase }], guard := none }) (v := ?_) rfl (by kernel_rfl) (by kernel_rfl) (by kernel_rfl) (fun _ _ _ h => h) (Or.inl ⟨by rfl, ?_⟩) (by with_reducible assumption) ?_
          rotate_left
          focus (intro wS hSw; (try dsimp only at hSw); go_simp <;> with_reducible rfl)
          try go_frame
          refine wpAnyH_ready (rs := [10]) (by kernel_rfl) (by simp) ?_
          refine AllReadyH.cons (i := 10) (o := { dst := none, op := Op.store 42 (Operand.tmp 37) (Operand.tmp 35), type := 0, pos := "index.go:33", after := #[{ on := 9, ground := Ground.data }, { on := 7, ground := Ground.data }, { on := 7, ground := Ground.chain }, { on := 0, ground := Ground.phase }, { on := 1, ground := Ground.phase }, { on := 2, ground := Ground.phase }, { on := 3, ground := Ground.phase }, { on := 4, ground := Ground.phase }, { on := 5, ground := Ground.phase }, { on := 6, ground := Ground.phase }, { on := 7, ground := Ground.phase }], guard := none }) rfl (fun K hK => ?_) AllReadyH.nil
          go_simp
          refine hK.out _ _ (HG.out.2.2.2 _) (fun hHeld => ?_)
          clear hK K
          try go_frame
          refine wpAnyH_done (by kernel_rfl) ?_ _
          go_wp2_with fail
          go_roundg gr
          case measure => omega
          case rel => exact ⟨k + 1, by omega, by go_num, by rw [HT.out]; exact HD⟩
      · have hbf : rgtB b = false := by assumption
        obtain ⟨R5, hA⟩ := HB.out.box hB b HB6.out
        rw [← numsL_off M hbf, ← stF_off M hbf] at hA
        have HA := Lib.hid hA
        clear hA HB HB6 q0 q1 q2 q3
        generalize wr.heap.size = nb at *
        have HAd := Lib.hid (HA.out.keep hB (below_drewW w6))
        obtain ⟨vb, c0, r0⟩ := HAd.out.ix.c0
        obtain ⟨vp, vc, rfl⟩ := own_len r0.own
        have HSb : Hid ((fun X : World => X.cell? ⟨nb, 0, none⟩ = some (.int .i64 b.1) ∧ X.cell? ⟨nb, 1, none⟩ = some (.int .i64 b.2.1) ∧ X.cell? ⟨nb, 2, none⟩ = some (.int .i64 b.2.2.1) ∧ X.cell? ⟨nb, 3, none⟩ = some (.int .i64 b.2.2.2)) w6.drew) := Lib.hid HAd.out.bx
        have HR0 := Lib.hid r0
        clear r0 HA
        refine wp_region_held_drew (S := (fun X : World => X.cell? ⟨nb, 0, none⟩ = some (.int .i64 b.1) ∧ X.cell? ⟨nb, 1, none⟩ = some (.int .i64 b.2.1) ∧ X.cell? ⟨nb, 2, none⟩ = some (.int .i64 b.2.2.1) ∧ X.cell? ⟨nb, 3, none⟩ = some (.int .i64 b.2.2.2))) (by kernel_rfl) HSb.out (fun hHeld => ?_)
        generalize w6.drew = w7 at *
        clear HSb
        have HA8 := Lib.hid (HAd.out.keep hB (below_alloc w7 (.cells #[.int .i64 b.1, .int .i64 b.2.1, .int .i64 b.2.2.1, .int .i64 b.2.2.2] 25)))
        have c8 := cell_later (below_alloc w7 (.cells #[.int .i64 b.1, .int .i64 b.2.1, .int .i64 b.2.2.1, .int .i64 b.2.2.2] 25)) c0
        have HOw : Hid ((w7.alloc (.cells #[.int .i64 b.1, .int .i64 b.2.1, .int .i64 b.2.2.1, .int .i64 b.2.2.2] 25)).ownsRow B 25 4 (.slice vp M.length vc) M.length (bxCells M)) := Lib.hid (World.ownsRow.alloc (w := w7) HR0.out.own _)
        have hB7 : B ≤ w7.heap.size := Nat.le_trans hB HAd.out.fr.size
        have hB8 : B ≤ (w7.alloc (.cells #[.int .i64 b.1, .int .i64 b.2.1, .int .i64 b.2.2.1, .int .i64 b.2.2.2] 25)).heap.size := by simp; omega
        have hM2 := HMl.out
        have HN8 := Lib.hid (bx_news w7 b 25)
        have HS8 : Hid ((fun X : World => X.cell? ⟨nb, 0, none⟩ = some (.int .i64 b.1) ∧ X.cell? ⟨nb, 1, none⟩ = some (.int .i64 b.2.1) ∧ X.cell? ⟨nb, 2, none⟩ = some (.int .i64 b.2.2.1) ∧ X.cell? ⟨nb, 3, none⟩ = some (.int .i64 b.2.2.2)) (w7.alloc (.cells #[.int .i64 b.1, .int .i64 b.2.1, .int .i64 b.2.2.1, .int .i64 b.2.2.2] 25))) := Lib.hid HA8.out.bx
        clear HR0 HAd
        refine wpAnyH_take (i := 0) (oi := { dst := some 28, op := Op.move (Operand.tmp 0), type := 44, pos := "index.go:33", after := #[], guard := none }) (v := ?_) rfl (by kernel_rfl) (by kernel_rfl) (by kernel_rfl) (fun _ _ _ h => h) (Or.inl ⟨by rfl, ?_⟩) (by with_reducible assumption) ?_
        rotate_left
        focus (intro wS hSw; (try dsimp only at hSw); go_simp <;> with_reducible rfl)
        try go_frame
        refine wpAnyH_take (i := 1) (oi := { dst := some 29, op := Op.move (Operand.tmp 0), type := 44, pos := "index.go:33", after := #[], guard := none }) (v := ?_) rfl (by kernel_rfl) (by kernel_rfl) (by kernel_rfl) (fun _ _ _ h => h) (Or.inl ⟨by rfl, ?_⟩) (by with_reducible assumption) ?_
        rotate_left
        focus (intro wS hSw; (try dsimp only at hSw); go_simp <;> with_reducible rfl)
        try go_frame
        refine wpAnyH_take (i := 2) (oi := { dst := some 30, op := Op.nilCheck (Operand.tmp 29), type := 0, pos := "index.go:33", after := #[{ on := 1, ground := Ground.data }], guard := none }) (v := ?_) rfl (by kernel_rfl) (by kernel_rfl) (by kernel_rfl) (fun _ _ _ h => h) (Or.inl ⟨by rfl, ?_⟩) (by with_reducible assumption) ?_
        rotate_left
        focus (intro wS hSw; (try dsimp only at hSw); go_simp <;> with_reducible rfl)
        try go_frame
        refine wpAnyH_take (i := 3) (oi := { dst := some 31, op := Op.fieldAddr 88 (Operand.tmp 30) 0, type := 0, pos := "index.go:33", after := #[{ on := 2, ground := Ground.data }], guard := none }) (v := ?_) rfl (by kernel_rfl) (by kernel_rfl) (by kernel_rfl) (fun _ _ _ h => h) (Or.inl ⟨by rfl, ?_⟩) (by with_reducible assumption) ?_
        rotate_left
        focus (intro wS hSw; (try dsimp only at hSw); go_simp <;> with_reducible rfl)
        try go_frame
        refine wpAnyH_take (i := 5) (oi := { dst := some 33, op := Op.load 25 (Operand.tmp 6), type := 25, pos := "index.go:33", after := #[], guard := none }) (v := ?_) rfl (by kernel_rfl) (by kernel_rfl) (by kernel_rfl) (fun _ _ _ h => h) (Or.inl ⟨by rfl, ?_⟩) (by with_reducible assumption) ?_
        rotate_left
        focus (intro wS hSw; (try dsimp only at hSw); go_simp <;> with_reducible rfl)
        try go_frame
        refine wpAnyH_ready (rs := [4, 6]) (by kernel_rfl) (by simp) ?_
        refine AllReadyH.cons (i := 4) (o := { dst := some 32, op := Op.load 42 (Operand.tmp 31), type := 42, pos := "index.go:33", after := #[{ on := 3, ground := Ground.data }], guard := none }) rfl (fun K hK => ?_) (AllReadyH.cons (i := 6) (o := { dst := some 34, op := Op.buildSlice 42 1 #[(0, Operand.tmp 33)], type := 42, pos := "index.go:33", after := #[{ on := 5, ground := Ground.data }], guard := none }) rfl (fun K hK => ?_) AllReadyH.nil)
        · go_simp
          refine hK.out _ _ (by with_reducible assumption) (fun hHeld => ?_)
          clear hK K
          try go_frame
          refine wpAnyH_ready (rs := [6]) (by kernel_rfl) (by simp) ?_
          refine AllReadyH.cons (i := 6) (o := { dst := some 34, op := Op.buildSlice 42 1 #[(0, Operand.tmp 33)], type := 42, pos := "index.go:33", after := #[{ on := 5, ground := Ground.data }], guard := none }) rfl (fun K hK => ?_) AllReadyH.nil
          go_simp
          refine hK.out _ _ HS8.out (fun hHeld => ?_)
          clear hK K
          try go_frame
          refine wpAnyH_ready (rs := [7]) (by kernel_rfl) (by simp) ?_
          refine AllReadyH.cons (i := 7) (o := { dst := some 35, op := Op.call { callee := Callee.builtin Builtin.append, args := #[Operand.tmp 32, Operand.tmp 34], argTypes := #[42, 42] }, type := 42, pos := "index.go:33", after := #[{ on := 4, ground := Ground.data }, { on := 6, ground := Ground.data }], guard := none }) rfl (fun K hK => ?_) AllReadyH.nil
          refine step_append_at (by rfl) (.tmp 32) (.tmp 34) 42 (by rfl) B 25 iB (.agg #[.int .i64 0, .int .i64 0, .int .i64 0, .int .i64 0]) 4 32 Try.underlying42 hiB hB0 hB1 hB2 (by rfl) (by decide) (.slice vp M.length vc) M.length (bxCells M) (by rfl) HOw.out ⟨w7.heap.size, 0, none⟩ 1 1 (bxCl b) (by rfl) (by rfl) HN8.out (by intro u hu; unfold bxCl at hu; simp only [List.mem_cons, List.not_mem_nil, or_false] at hu; rcases hu with rfl | rfl | rfl | rfl <;> rfl) (by unfold maxLen; omega) (by omega) hB8 ?_
          intro v2 wB hoB hgB hvB
          obtain ⟨g2, cp2, rfl⟩ := own_form1 hoB
          have HG := Lib.hid (HA8.out.grow c8 hgB)
          have HD := Lib.hid (HA8.out.done hB c8 hgB hoB hvB)
          have x0 := HG.out.1
          have x1 := HG.out.2.1
          clear hoB hgB hvB
          refine hK.out _ _ HG.out.2.2.1 (fun hHeld => ?_)
          clear hK K
          try go_frame
          refine wpAnyH_take (i := 8) (oi := { dst := some 36, op := Op.nilCheck (Operand.tmp 28), type := 0, pos := "index.go:33", after := #[{ on := 0, ground := Ground.data }, { on := 0, ground := Ground.phase }, { on := 1, ground := Ground.phase }, { on := 2, ground := Ground.phase }, { on := 3, ground := Ground.phase }, { on := 4, ground := Ground.phase }, { on := 5, ground := Ground.phase }, { on := 6, ground := Ground.phase }, { on := 7, ground := Ground.phase }], guard := none }) (v := ?_) rfl (by kernel_rfl) (by kernel_rfl) (by kernel_rfl) (fun _ _ _ h => h) (Or.inl ⟨by rfl, ?_⟩) (by with_reducible assumption) ?_
          rotate_left
          focus (intro wS hSw; (try dsimp only at hSw); go_simp <;> with_reducible rfl)
          try go_frame
          refine wpAnyH_take (i := 9) (oi := { dst := some 37, op := Op.fieldAddr 88 (Operand.tmp 36) 0, type := 0, pos := "index.go:33", after := #[{ on := 8, ground := Ground.data }, { on := 0, ground := Ground.phase }, { on := 1, ground := Ground.phase }, { on := 2, ground := Ground.phase }, { on := 3, ground := Ground.phase }, { on := 4, ground := Ground.phase }, { on := 5, ground := Ground.phase }, { on := 6, ground := Ground.phase }, { on := 7, ground := Ground.phase }], guard := none }) (v := ?_) rfl (by kernel_rfl) (by kernel_rfl) (by kernel_rfl) (fun _ _ _ h => h) (Or.inl ⟨by rfl, ?_⟩) (by with_reducible assumption) ?_
          rotate_left
          focus (intro wS hSw; (try dsimp only at hSw); go_simp <;> with_reducible rfl)
          try go_frame
          refine wpAnyH_ready (rs := [10]) (by kernel_rfl) (by simp) ?_
          refine AllReadyH.cons (i := 10) (o := { dst := none, op := Op.store 42 (Operand.tmp 37) (Operand.tmp 35), type := 0, pos := "index.go:33", after := #[{ on := 9, ground := Ground.data }, { on := 7, ground := Ground.data }, { on := 7, ground := Ground.chain }, { on := 0, ground := Ground.phase }, { on := 1, ground := Ground.phase }, { on := 2, ground := Ground.phase }, { on := 3, ground := Ground.phase }, { on := 4, ground := Ground.phase }, { on := 5, ground := Ground.phase }, { on := 6, ground := Ground.phase }, { on := 7, ground := Ground.phase }], guard := none }) rfl (fun K hK => ?_) AllReadyH.nil
          go_simp
          refine hK.out _ _ (HG.out.2.2.2 _) (fun hHeld => ?_)
          clear hK K
          try go_frame
          refine wpAnyH_done (by kernel_rfl) ?_ _
          go_wp2_with fail
          go_roundg gr
          case measure => omega
          case rel => exact ⟨k + 1, by omega, by go_num, by rw [HT.out]; exact HD⟩
        · go_simp
          refine hK.out _ _ HS8.out (fun hHeld => ?_)
          clear hK K
          try go_frame
          refine wpAnyH_ready (rs := [4]) (by kernel_rfl) (by simp) ?_
          refine AllReadyH.cons (i := 4) (o := { dst := some 32, op := Op.load 42 (Operand.tmp 31), type := 42, pos := "index.go:33", after := #[{ on := 3, ground := Ground.data }], guard := none }) rfl (fun K hK => ?_) AllReadyH.nil
          go_simp
          refine hK.out _ _ (by with_reducible assumption) (fun hHeld => ?_)
          clear hK K
          try go_frame
          refine wpAnyH_ready (rs := [7]) (by kernel_rfl) (by simp) ?_
          refine AllReadyH.cons (i := 7) (o := { dst := some 35, op := Op.call { callee := Callee.builtin Builtin.append, args := #[Operand.tmp 32, Operand.tmp 34], argTypes := #[42, 42] }, type := 42, pos := "index.go:33", after := #[{ on := 4, ground := Ground.data }, { on := 6, ground := Ground.data }], guard := none }) rfl (fun K hK => ?_) AllReadyH.nil
          refine step_append_at (by rfl) (.tmp 32) (.tmp 34) 42 (by rfl) B 25 iB (.agg #[.int .i64 0, .int .i64 0, .int .i64 0, .int .i64 0]) 4 32 Try.underlying42 hiB hB0 hB1 hB2 (by rfl) (by decide) (.slice vp M.length vc) M.length (bxCells M) (by rfl) HOw.out ⟨w7.heap.size, 0, none⟩ 1 1 (bxCl b) (by rfl) (by rfl) HN8.out (by intro u hu; unfold bxCl at hu; simp only [List.mem_cons, List.not_mem_nil, or_false] at hu; rcases hu with rfl | rfl | rfl | rfl <;> rfl) (by unfold maxLen; omega) (by omega) hB8 ?_
          intro v2 wB hoB hgB hvB
          obtain ⟨g2, cp2, rfl⟩ := own_form1 hoB
          have HG := Lib.hid (HA8.out.grow c8 hgB)
          have HD := Lib.hid (HA8.out.done hB c8 hgB hoB hvB)
          have x0 := HG.out.1
          have x1 := HG.out.2.1
          clear hoB hgB hvB
          refine hK.out _ _ HG.out.2.2.1 (fun hHeld => ?_)
          clear hK K
          try go_frame
          refine wpAnyH_take (i := 8) (oi := { dst := some 36, op := Op.nilCheck (Operand.tmp 28), type := 0, pos := "index.go:33", after := #[{ on := 0, ground := Ground.data }, { on := 0, ground := Ground.phase }, { on := 1, ground := Ground.phase }, { on := 2, ground := Ground.phase }, { on := 3, ground := Ground.phase }, { on := 4, ground := Ground.phase }, { on := 5, ground := Ground.phase }, { on := 6, ground := Ground.phase }, { on := 7, ground := Ground.phase }], guard := none }) (v := ?_) rfl (by kernel_rfl) (by kernel_rfl) (by kernel_rfl) (fun _ _ _ h => h) (Or.inl ⟨by rfl, ?_⟩) (by with_reducible assumption) ?_
          rotate_left
          focus (intro wS hSw; (try dsimp only at hSw); go_simp <;> with_reducible rfl)
          try go_frame
          refine wpAnyH_take (i := 9) (oi := { dst := some 37, op := Op.fieldAddr 88 (Operand.tmp 36) 0, type := 0, pos := "index.go:33", after := #[{ on := 8, ground := Ground.data }, { on := 0, ground := Ground.phase }, { on := 1, ground := Ground.phase }, { on := 2, ground := Ground.phase }, { on := 3, ground := Ground.phase }, { on := 4, ground := Ground.phase }, { on := 5, ground := Ground.phase }, { on := 6, ground := Ground.phase }, { on := 7, ground := Ground.phase }], guard := none }) (v := ?_) rfl (by kernel_rfl) (by kernel_rfl) (by kernel_rfl) (fun _ _ _ h => h) (Or.inl ⟨by rfl, ?_⟩) (by with_reducible assumption) ?_
          rotate_left
          focus (intro wS hSw; (try dsimp only at hSw); go_simp <;> with_reducible rfl)
          try go_frame
          refine wpAnyH_ready (rs := [10]) (by kernel_rfl) (by simp) ?_
          refine AllReadyH.cons (i := 10) (o := { dst := none, op := Op.store 42 (Operand.tmp 37) (Operand.tmp 35), type := 0, pos := "index.go:33", after := #[{ on := 9, ground := Ground.data }, { on := 7, ground := Ground.data }, { on := 7, ground := Ground.chain }, { on := 0, ground := Ground.phase }, { on := 1, ground := Ground.phase }, { on := 2, ground := Ground.phase }, { on := 3, ground := Ground.phase }, { on := 4, ground := Ground.phase }, { on := 5, ground := Ground.phase }, { on := 6, ground := Ground.phase }, { on := 7, ground := Ground.phase }], guard := none }) rfl (fun K hK => ?_) AllReadyH.nil
          go_simp
          refine hK.out _ _ (HG.out.2.2.2 _) (fun hHeld => ?_)
          clear hK K
          try go_frame
          refine wpAnyH_done (by kernel_rfl) ?_ _
          go_wp2_with fail
          go_roundg gr
          case measure => omega
          case rel => exact ⟨k + 1, by omega, by go_num, by rw [HT.out]; exact HD⟩
end Go.Proofs.Ytenfaejdnphngaa
