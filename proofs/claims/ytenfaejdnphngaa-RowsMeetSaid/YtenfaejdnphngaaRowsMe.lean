/- Walks of the index: meeting, of few boxes. -/
import Derived.Test.YtenfaejdnphngaaRowsSp
import Derived.Test.YtenfaejdnphngaaRowsAd
import Derived.Laws.OwnMore
import Derived.Shelf.Abstract
namespace Go.Proofs.Ytenfaejdnphngaa
open Go.RowKit

/-- A use of numbers: what it holds, and that it leaves blocks N alone. -/
structure UseC (bd : Nat) (F0 : FuncId) (lb : Array Value) (J : (Nat → Prop) → List Nat → World → Prop) : Prop where
  ent : Enters Try.prog F0
  new : ∀ {N N' : Nat → Prop} {U : List Nat} {V V1 : World}, J N U V → Below V.heap.size V V1 → (∀ k, N' k → N k ∨ (V.heap.size ≤ k ∧ k < V1.heap.size)) → J N' U V1
  lt : ∀ {N : Nat → Prop} {U : List Nat} {V : World}, J N U V → ∀ k, N k → k < V.heap.size
  use : ∀ {N : Nat → Prop} {U : List Nat} {V : World} (i : Nat), i < bd → U.length ≤ 100000 → J N U V → Calls Try.prog F0 (#[.int .i64 (i : Int)] ++ lb) V fun e w' => e = .returned (.tuple #[]) ∧ J N (U ++ [i]) w' ∧ ∀ k, N k → w'.heap[k]? = V.heap[k]?
/-- The numbers below a limit whose boxes meet b. -/
def selA (L : List B4) (b : B4) (below : Int) : List Nat → List Nat
  | [] => []
  | i :: A => if (i : Int) < below then (if risB (comB b (bxA L i)) = true then i :: selA L b below A else selA L b below A) else []
/-- What meetingAny reads. -/
structure MaR (V : World) (xb gb : Nat) (L : List B4) (A : List Nat) (vp ap : Option Addr) (vc ac : Nat) : Prop where
  x0 : V.cell? ⟨xb, 0, none⟩ = some (.slice vp L.length vc)
  g2 : V.cell? ⟨gb, 2, none⟩ = some (.slice ap A.length ac)
  a : ∀ k (h : k < A.length), ∃ ga, ap = some ⟨ga, 0, none⟩ ∧ V.cell? ⟨ga, k, none⟩ = some (.int .i64 (A[k] : Int))
  b : ∀ i, i < L.length → ∃ gq, vp = some ⟨gq, 0, none⟩ ∧ BxAt V gq (i * 4) (bxA L i)
theorem selA_app (L : List B4) (b : B4) (below : Int) : ∀ (A : List Nat) (i : Nat), (∀ j ∈ A, (j : Int) < below) → selA L b below (A ++ [i]) = selA L b below A ++ (if (i : Int) < below then (if risB (comB b (bxA L i)) = true then [i] else []) else [])
  | [], i, _ => by simp [selA]
  | j :: A, i, h => by
    have h1 := h j List.mem_cons_self
    rw [List.cons_append, selA, selA, if_pos h1, if_pos h1, selA_app L b below A i (fun x hx => h x (List.mem_cons_of_mem _ hx))]
    split <;> rfl
theorem selA_stop (L : List B4) (b : B4) (below : Int) : ∀ (A : List Nat) (i : Nat) (T : List Nat), ¬ (i : Int) < below → selA L b below (A ++ i :: T) = selA L b below A
  | [], i, T, h => by simp [selA, h]
  | j :: A, i, T, h => by rw [List.cons_append, selA, selA, selA_stop L b below A i T h]
theorem selA_len (L : List B4) (b : B4) (below : Int) : ∀ A : List Nat, (selA L b below A).length ≤ A.length
  | [] => Nat.le_refl _
  | i :: A => by
    have h := selA_len L b below A
    rw [selA]
    split
    · split
      · rw [List.length_cons, List.length_cons]; omega
      · rw [List.length_cons]; omega
    · simp
/-- While numbers are gone through. -/
structure MaI (J : (Nat → Prop) → List Nat → World → Prop) (N1 : Nat → Prop) (W0 : World) (L : List B4) (A U : List Nat) (b : B4) (below : Int) (k : Nat) (V : World) : Prop where
  lo : ∀ j ∈ A.take k, (j : Int) < below
  j : J N1 (U ++ selA L b below (A.take k)) V
  eq : ∀ k, N1 k → V.heap[k]? = W0.heap[k]?
def MaPost (J : (Nat → Prop) → List Nat → World → Prop) (N : Nat → Prop) (U : List Nat) (W : World) (e : Ending) (w' : World) : Prop := e = .returned (.tuple #[]) ∧ J N U w' ∧ ∀ k, N k → w'.heap[k]? = W.heap[k]?
set_option maxRecDepth 100000 in
set_option maxHeartbeats 4000000 in
theorem meetany_any {W : World} {xb gb bd : Nat} {F0 : FuncId} {lb : Array Value} {J : (Nat → Prop) → List Nat → World → Prop} {L : List B4} {A U : List Nat} {vp ap : Option Addr} {vc ac : Nat} {N : Nat → Prop} (C : UseC bd F0 lb J) (h0 : J N U W) (hr : ∀ V, (∀ k, N k → V.heap[k]? = W.heap[k]?) → MaR V xb gb L A vp ap vc ac) (hA : ∀ i ∈ A, i < L.length) (hn : A.length ≤ 1000) (hl : L.length ≤ bd) (hU : U.length + A.length ≤ 100000) (b : B4) (below : Int) :
    Calls Try.prog 67 #[.pointer (some ⟨xb, 0, none⟩), encB b, .pointer (some ⟨gb, 0, none⟩), .int .i64 below, .func (.func F0) #[] lb] W (MaPost J N (U ++ selA L b below A) W) := by
  have hmx : Try.prog.follows .mixedOrders = true := by kernel_rfl
  have hE : ∀ (args : Array Value) (w : World), (callFunc F0 args).run Try.prog w = .ok (.enter F0 args) w := C.ent
  have HR := Lib.hid hr
  have HC := Lib.hid C
  clear C hr
  unfold encB
  go_enter Try.func67, Try.ntmps67
  have hR0 := HR.out (W.alloc (.cells #[.int .i64 b.1, .int .i64 b.2.1, .int .i64 b.2.2.1, .int .i64 b.2.2.2] 25)) (fun k hk => (below_alloc W _).block k (HC.out.lt h0 k hk))
  have g2 := hR0.g2
  have hnb : ∀ k, N k → k < W.heap.size := fun k hk => HC.out.lt h0 k hk
  have HJ0 : Hid (J (fun k => N k ∨ k = W.heap.size) U (W.alloc (.cells #[.int .i64 b.1, .int .i64 b.2.1, .int .i64 b.2.2.1, .int .i64 b.2.2.2] 25))) := Lib.hid (HC.out.new h0 (below_alloc _ _) (fun k hk => hk.elim .inl (fun e => .inr (by subst e; simp))))
  have HW0 : Hid (∀ k, N k → (W.alloc (.cells #[.int .i64 b.1, .int .i64 b.2.1, .int .i64 b.2.2.1, .int .i64 b.2.2.2] 25)).heap[k]? = W.heap[k]?) := Lib.hid (fun k hk => (below_alloc W _).block k (hnb k hk))
  have HBx : Hid (BxAt (W.alloc (.cells #[.int .i64 b.1, .int .i64 b.2.1, .int .i64 b.2.2.1, .int .i64 b.2.2.2] 25)) W.heap.size 0 b) := Lib.hid (by refine ⟨?_, ?_, ?_, ?_⟩ <;> go_simp)
  have HCm := Lib.hid (fun a b X => rowcommon_any a b X)
  have HA := Lib.hid hA
  have HFin : Hid (∀ w', J N (U ++ selA L b below A) w' → (∀ k, N k → w'.heap[k]? = W.heap[k]?) → MaPost J N (U ++ selA L b below A) W (.returned (.tuple #[])) w') := Lib.hid (fun w' h1 h2 => ⟨rfl, h1, h2⟩)
  clear hA hR0 h0
  go_wp2_with fail
  generalize (W.alloc (.cells #[.int .i64 b.1, .int .i64 b.2.1, .int .i64 b.2.2.1, .int .i64 b.2.2.2] 25)) = W0 at *
  generalize W.heap.size = nb at *
  go_loopg [17] A.length (fun gk i wx => ∃ k : Nat, k + gk = A.length ∧ i = .int .i64 (k : Int) ∧ Hid (MaI J (fun k => N k ∨ k = nb) W0 L A U b below k wx))
  case atStart => exact ⟨0, by omega, rfl, Lib.hid ⟨by simp, by simpa [selA] using HJ0.out, fun _ _ => rfl⟩⟩
  case round =>
    obtain ⟨k, hkg, rfl, HI⟩ := hrel
    clear HJ0
    have HE2 : Hid (∀ j, N j → wr.heap[j]? = W.heap[j]?) := Lib.hid (fun j hj => (HI.out.eq j (.inl hj)).trans (HW0.out j hj))
    cases gk with
    | zero =>
      have hkz : ¬ ((k : Int) < (A.length : Int)) := by omega
      have hJ := HI.out.j
      rw [show k = A.length from by omega, List.take_length] at hJ
      have HJe := Lib.hid (HC.out.new hJ (Below.refl _ _) (fun k hk => .inl (.inl hk)))
      clear hJ
      go_wp2_with fail
      go_end0
      exact HFin.out _ HJe.out HE2.out
    | succ gr =>
      have hkz : (k : Int) < (A.length : Int) := by omega
      have hkn : k < A.length := by omega
      have hRk := HR.out wr HE2.out
      obtain ⟨ga, hap, ca⟩ := hRk.a k hkn
      have hiL := HA.out A[k] (List.getElem_mem hkn)
      obtain ⟨gq, hvp, hbq⟩ := hRk.b A[k] hiL
      have x0 := hRk.x0
      subst hap hvp
      have HTk : Hid (A.take (k + 1) = A.take k ++ [A[k]]) := Lib.hid (List.take_succ_eq_append_getElem hkn)
      have HTd : Hid (A = A.take k ++ A[k] :: A.drop (k + 1)) := Lib.hid (by simp)
      have HLen : Hid ((selA L b below (A.take k)).length ≤ k) := Lib.hid (Nat.le_trans (selA_len _ _ _ _) (by rw [List.length_take]; omega))
      generalize A[k] = i at *
      by_cases hlt : (i : Int) < below
      · have hge : ¬ below ≤ (i : Int) := by omega
        have HSel := Lib.hid (selA_app L b below (A.take k) i HI.out.lo)
        have HLo : Hid (∀ j ∈ A.take (k + 1), (j : Int) < below) := Lib.hid (by
          intro j hj
          rw [HTk.out] at hj
          rcases List.mem_append.1 hj with hj | hj
          · exact HI.out.lo j hj
          · rw [List.mem_singleton] at hj; subst hj; exact hlt)
        rw [if_pos hlt] at HSel
        generalize bxA L i = bi at *
        have HRc := Lib.hid (fun X => rises_any (comB b bi) X)
        generalize risB (comB b bi) = rr at *
        have HBn : Hid (BxAt wr nb 0 b) := Lib.hid (by
          have e := HI.out.eq nb (.inr rfl)
          exact ⟨(World.cell?_of_block e).trans HBx.out.1, (World.cell?_of_block e).trans HBx.out.2.1, (World.cell?_of_block e).trans HBx.out.2.2.1, (World.cell?_of_block e).trans HBx.out.2.2.2⟩)
        have HSd : Hid (wr.drew.cell? ⟨xb, 0, none⟩ = some (.slice (some ⟨gq, 0, none⟩) L.length vc) ∧ wr.drew.cell? ⟨nb, 0, none⟩ = some (.int .i64 b.1) ∧ wr.drew.cell? ⟨nb, 1, none⟩ = some (.int .i64 b.2.1) ∧ wr.drew.cell? ⟨nb, 2, none⟩ = some (.int .i64 b.2.2.1) ∧ wr.drew.cell? ⟨nb, 3, none⟩ = some (.int .i64 b.2.2.2) ∧ wr.drew.cell? ⟨gq, i * 4, none⟩ = some (.int .i64 bi.1) ∧ wr.drew.cell? ⟨gq, i * 4 + 1, none⟩ = some (.int .i64 bi.2.1) ∧ wr.drew.cell? ⟨gq, i * 4 + 2, none⟩ = some (.int .i64 bi.2.2.1) ∧ wr.drew.cell? ⟨gq, i * 4 + 3, none⟩ = some (.int .i64 bi.2.2.2)) := Lib.hid ⟨x0, HBn.out.1, HBn.out.2.1, HBn.out.2.2.1, HBn.out.2.2.2, hbq.1, hbq.2.1, hbq.2.2.1, hbq.2.2.2⟩
        have HSk : Hid (∀ X X1 : World, (X.cell? ⟨xb, 0, none⟩ = some (.slice (some ⟨gq, 0, none⟩) L.length vc) ∧ X.cell? ⟨nb, 0, none⟩ = some (.int .i64 b.1) ∧ X.cell? ⟨nb, 1, none⟩ = some (.int .i64 b.2.1) ∧ X.cell? ⟨nb, 2, none⟩ = some (.int .i64 b.2.2.1) ∧ X.cell? ⟨nb, 3, none⟩ = some (.int .i64 b.2.2.2) ∧ X.cell? ⟨gq, i * 4, none⟩ = some (.int .i64 bi.1) ∧ X.cell? ⟨gq, i * 4 + 1, none⟩ = some (.int .i64 bi.2.1) ∧ X.cell? ⟨gq, i * 4 + 2, none⟩ = some (.int .i64 bi.2.2.1) ∧ X.cell? ⟨gq, i * 4 + 3, none⟩ = some (.int .i64 bi.2.2.2)) → Below X.heap.size X X1 → (X1.cell? ⟨xb, 0, none⟩ = some (.slice (some ⟨gq, 0, none⟩) L.length vc) ∧ X1.cell? ⟨nb, 0, none⟩ = some (.int .i64 b.1) ∧ X1.cell? ⟨nb, 1, none⟩ = some (.int .i64 b.2.1) ∧ X1.cell? ⟨nb, 2, none⟩ = some (.int .i64 b.2.2.1) ∧ X1.cell? ⟨nb, 3, none⟩ = some (.int .i64 b.2.2.2) ∧ X1.cell? ⟨gq, i * 4, none⟩ = some (.int .i64 bi.1) ∧ X1.cell? ⟨gq, i * 4 + 1, none⟩ = some (.int .i64 bi.2.1) ∧ X1.cell? ⟨gq, i * 4 + 2, none⟩ = some (.int .i64 bi.2.2.1) ∧ X1.cell? ⟨gq, i * 4 + 3, none⟩ = some (.int .i64 bi.2.2.2))) := Lib.hid (fun X X1 h k => ⟨cell_later k h.1, cell_later k h.2.1, cell_later k h.2.2.1, cell_later k h.2.2.2.1, cell_later k h.2.2.2.2.1, cell_later k h.2.2.2.2.2.1, cell_later k h.2.2.2.2.2.2.1, cell_later k h.2.2.2.2.2.2.2.1, cell_later k h.2.2.2.2.2.2.2.2⟩)
        clear hRk hbq x0 HBn
        go_upto_region 5 with fail
        refine wp_region_held_drew (S := (fun X : World => X.cell? ⟨xb, 0, none⟩ = some (.slice (some ⟨gq, 0, none⟩) L.length vc) ∧ X.cell? ⟨nb, 0, none⟩ = some (.int .i64 b.1) ∧ X.cell? ⟨nb, 1, none⟩ = some (.int .i64 b.2.1) ∧ X.cell? ⟨nb, 2, none⟩ = some (.int .i64 b.2.2.1) ∧ X.cell? ⟨nb, 3, none⟩ = some (.int .i64 b.2.2.2) ∧ X.cell? ⟨gq, i * 4, none⟩ = some (.int .i64 bi.1) ∧ X.cell? ⟨gq, i * 4 + 1, none⟩ = some (.int .i64 bi.2.1) ∧ X.cell? ⟨gq, i * 4 + 2, none⟩ = some (.int .i64 bi.2.2.1) ∧ X.cell? ⟨gq, i * 4 + 3, none⟩ = some (.int .i64 bi.2.2.2))) (by kernel_rfl) HSd.out (fun hHeld => ?_)
        clear HSd
        generalize hwd : wr.drew = wd at *
        refine wpAnyH_take (i := 0) (oi := { dst := some 24, op := Op.load 25 (Operand.tmp 6), type := 25, pos := "index.go:152", after := #[], guard := none }) (v := ?_) rfl (by kernel_rfl) (by kernel_rfl) (by kernel_rfl) (fun _ _ _ h => h) (Or.inl ⟨by rfl, ?_⟩) (by with_reducible assumption) ?_
        rotate_left
        focus (intro wS hSw; (try dsimp only at hSw); go_simp <;> with_reducible rfl)
        try go_frame
        refine wpAnyH_take (i := 1) (oi := { dst := some 25, op := Op.move (Operand.tmp 0), type := 44, pos := "index.go:152", after := #[], guard := none }) (v := ?_) rfl (by kernel_rfl) (by kernel_rfl) (by kernel_rfl) (fun _ _ _ h => h) (Or.inl ⟨by rfl, ?_⟩) (by with_reducible assumption) ?_
        rotate_left
        focus (intro wS hSw; (try dsimp only at hSw); go_simp <;> with_reducible rfl)
        try go_frame
        refine wpAnyH_take (i := 2) (oi := { dst := some 26, op := Op.nilCheck (Operand.tmp 25), type := 0, pos := "index.go:152", after := #[{ on := 1, ground := Ground.data }], guard := none }) (v := ?_) rfl (by kernel_rfl) (by kernel_rfl) (by kernel_rfl) (fun _ _ _ h => h) (Or.inl ⟨by rfl, ?_⟩) (by with_reducible assumption) ?_
        rotate_left
        focus (intro wS hSw; (try dsimp only at hSw); go_simp <;> with_reducible rfl)
        try go_frame
        refine wpAnyH_take (i := 3) (oi := { dst := some 27, op := Op.fieldAddr 88 (Operand.tmp 26) 0, type := 0, pos := "index.go:152", after := #[{ on := 2, ground := Ground.data }], guard := none }) (v := ?_) rfl (by kernel_rfl) (by kernel_rfl) (by kernel_rfl) (fun _ _ _ h => h) (Or.inl ⟨by rfl, ?_⟩) (by with_reducible assumption) ?_
        rotate_left
        focus (intro wS hSw; (try dsimp only at hSw); go_simp <;> with_reducible rfl)
        try go_frame
        refine wpAnyH_take (i := 4) (oi := { dst := some 28, op := Op.load 42 (Operand.tmp 27), type := 42, pos := "index.go:152", after := #[{ on := 3, ground := Ground.data }], guard := none }) (v := ?_) rfl (by kernel_rfl) (by kernel_rfl) (by kernel_rfl) (fun _ _ _ h => h) (Or.inl ⟨by rfl, ?_⟩) (by with_reducible assumption) ?_
        rotate_left
        focus (intro wS hSw; (try dsimp only at hSw); go_simp <;> with_reducible rfl)
        try go_frame
        refine wpAnyH_take (i := 5) (oi := { dst := some 29, op := Op.move (Operand.tmp 11), type := 3, pos := "index.go:152", after := #[], guard := none }) (v := ?_) rfl (by kernel_rfl) (by kernel_rfl) (by kernel_rfl) (fun _ _ _ h => h) (Or.inl ⟨by rfl, ?_⟩) (by with_reducible assumption) ?_
        rotate_left
        focus (intro wS hSw; (try dsimp only at hSw); go_simp <;> with_reducible rfl)
        try go_frame
        refine wpAnyH_take (i := 6) (oi := { dst := some 30, op := Op.indexAddr 42 (Operand.tmp 28) (Operand.tmp 29), type := 0, pos := "index.go:152", after := #[{ on := 4, ground := Ground.data }, { on := 5, ground := Ground.data }], guard := none }) (v := ?_) rfl (by kernel_rfl) (by kernel_rfl) (by kernel_rfl) (fun _ _ _ h => h) (Or.inl ⟨by rfl, ?_⟩) (by with_reducible assumption) ?_
        rotate_left
        focus (intro wS hSw; (try dsimp only at hSw); go_simp <;> with_reducible rfl)
        try go_frame
        refine wpAnyH_take (i := 7) (oi := { dst := some 31, op := Op.load 25 (Operand.tmp 30), type := 25, pos := "index.go:152", after := #[{ on := 6, ground := Ground.data }], guard := none }) (v := ?_) rfl (by kernel_rfl) (by kernel_rfl) (by kernel_rfl) (fun _ _ _ h => h) (Or.inl ⟨by rfl, ?_⟩) (by with_reducible assumption) ?_
        rotate_left
        focus (intro wS hSw; (try dsimp only at hSw); go_simp <;> with_reducible rfl)
        try go_frame
        refine wpAnyH_ready (rs := [8]) (by kernel_rfl) (by simp) ?_
        refine AllReadyH.cons (i := 8) (o := { dst := some 32, op := Op.call { callee := Callee.value (Operand.func 45), args := #[Operand.tmp 24, Operand.tmp 31], argTypes := #[25, 25] }, type := 25, pos := "index.go:152", after := #[{ on := 0, ground := Ground.data }, { on := 7, ground := Ground.data }], guard := none }) rfl (fun K hK => ?_) AllReadyH.nil
        go_simp
        go_at_call 45
        refine Calls.mono (HCm.out b bi _) ?_
        rintro e w1 ⟨rfl, hb1⟩
        refine hK.out _ _ (HSk.out _ _ hHeld hb1) (fun hHeld => ?_)
        clear hK K
        try go_frame
        have HB1 := Lib.hid hb1
        clear hb1
        refine wpAnyH_ready (rs := [9]) (by kernel_rfl) (by simp) ?_
        refine AllReadyH.cons (i := 9) (o := { dst := some 33, op := Op.call { callee := Callee.value (Operand.func 44), args := #[Operand.tmp 32], argTypes := #[25] }, type := 4, pos := "index.go:152", after := #[{ on := 8, ground := Ground.data }, { on := 8, ground := Ground.chain }], guard := none }) rfl (fun K hK => ?_) AllReadyH.nil
        go_simp
        go_at_call 44
        refine Calls.mono (HRc.out _) ?_
        rintro e w2 ⟨rfl, hb2⟩
        refine hK.out _ _ (HSk.out _ _ hHeld hb2) (fun hHeld => ?_)
        clear hK K
        try go_frame
        have HB2 := Lib.hid (below_after HB1.out hb2)
        clear hb2 HB1
        refine wpAnyH_done (by kernel_rfl) ?_ _
        have HBw : Hid (Below wr.heap.size wr w2) := Lib.hid (by
          have h := HB2.out
          rw [← hwd] at h
          exact below_after (below_drewW wr) h)
        have HJ2 : Hid (J (fun k => N k ∨ k = nb) (U ++ selA L b below (A.take k)) w2) := Lib.hid (HC.out.new HI.out.j HBw.out (fun k hk => .inl hk))
        have HQ2 : Hid (∀ k, (N k ∨ k = nb) → w2.heap[k]? = W0.heap[k]?) := Lib.hid (fun k hk => (HBw.out.block k (HC.out.lt HI.out.j k hk)).trans (HI.out.eq k hk))
        have HLU : Hid ((U ++ selA L b below (A.take k)).length ≤ 100000) := Lib.hid (by rw [List.length_append]; have := HLen.out; omega)
        clear hwd HB2 HBw hHeld
        cases rr with
        | true =>
          go_wp2_with (go_at_fn F0; refine (HC.out.use i (by omega) HLU.out HJ2.out).mono ?_; rintro e w3 ⟨rfl, hj3, he3⟩; have HJ3 := Lib.hid hj3; have HQ3 := Lib.hid he3; clear hj3 he3)
          go_roundg gr
          case measure => omega
          case rel => exact ⟨k + 1, by omega, by go_num, Lib.hid ⟨HLo.out, by rw [HTk.out, HSel.out, if_pos trivial, ← List.append_assoc]; exact HJ3.out, fun k hk => (HQ3.out k hk).trans (HQ2.out k hk)⟩⟩
        | false =>
          go_wp2_with fail
          go_roundg gr
          case measure => omega
          case rel => exact ⟨k + 1, by omega, by go_num, Lib.hid ⟨HLo.out, by rw [HTk.out, HSel.out, if_neg (by simp), List.append_nil]; exact HJ2.out, HQ2.out⟩⟩
      · have hge : below ≤ (i : Int) := by omega
        have hs := selA_stop L b below (A.take k) i (A.drop (k + 1)) hlt
        rw [← HTd.out] at hs
        have hJ := HI.out.j
        rw [← hs] at hJ
        have HJe := Lib.hid (HC.out.new hJ (Below.refl _ _) (fun k hk => .inl (.inl hk)))
        clear hJ hs hRk hbq
        go_wp2_with fail
        exact bodyPost_ret (v := .tuple #[]) (by simp [results, go_sem]) rfl (HFin.out _ HJe.out HE2.out)
end Go.Proofs.Ytenfaejdnphngaa

namespace Go.Proofs.Ytenfaejdnphngaa
open Go.RowKit

set_option maxRecDepth 100000 in
set_option maxHeartbeats 4000000 in
theorem meet_few {W : World} {xb gb bd : Nat} {F0 : FuncId} {lb : Array Value} {J : (Nat → Prop) → List Nat → World → Prop} {L : List B4} {A U : List Nat} {vp ap : Option Addr} {vc ac : Nat} {N : Nat → Prop} {s : I2} (C : UseC bd F0 lb J) (h0 : J N U W) (hr : ∀ V, (∀ k, N k → V.heap[k]? = W.heap[k]?) → MaR V xb gb L A vp ap vc ac ∧ V.cell? ⟨gb, 0, none⟩ = some (.int .i64 s.1) ∧ V.cell? ⟨gb, 1, none⟩ = some (.int .i64 s.2)) (hA : ∀ i ∈ A, i < L.length) (hn : A.length < 16) (hl : L.length ≤ bd) (hU : U.length + A.length ≤ 100000) (b : B4) (hb : rgtB b = true) (h1 : 0 ≤ s.1) (h2 : 0 ≤ s.2) (h3 : s.1 ≤ 60) (h4 : s.2 ≤ 60) (below : Int) :
    Calls Try.prog 54 #[.pointer (some ⟨xb, 0, none⟩), encB b, .pointer (some ⟨gb, 0, none⟩), .int .i64 below, .func (.func F0) #[] lb] W (MaPost J N (U ++ selA L b below A) W) := by
  have hmx : Try.prog.follows .mixedOrders = true := by kernel_rfl
  have hnb : ∀ k, N k → k < W.heap.size := fun k hk => C.lt h0 k hk
  have HSp : Hid (∀ V, Below W.heap.size W V → Calls Try.prog 66 #[.pointer (some ⟨gb, 0, none⟩), encB b] V (SpPost V A.length)) := Lib.hid (fun V hv => by
    obtain ⟨r, d0, d1⟩ := hr V (fun k hk => hv.block k (hnb k hk))
    exact sparse_any s b hb h1 h2 h3 h4 (by omega) d0 d1 r.g2)
  have HMa : Hid (∀ V, Below W.heap.size W V → Calls Try.prog 67 #[.pointer (some ⟨xb, 0, none⟩), encB b, .pointer (some ⟨gb, 0, none⟩), .int .i64 below, .func (.func F0) #[] lb] V (MaPost J N (U ++ selA L b below A) W)) := Lib.hid (fun V hv => by
    refine (meetany_any C (C.new h0 hv (fun k hk => .inl hk)) (vp := vp) (ap := ap) (vc := vc) (ac := ac) (fun X hX => (hr X (fun k hk => (hX k hk).trans (hv.block k (hnb k hk)))).1) hA (by omega) hl hU b below).mono ?_
    rintro e w' ⟨h1, h2, h3⟩
    exact ⟨h1, h2, fun k hk => (h3 k hk).trans (hv.block k (hnb k hk))⟩)
  have HFin : Hid (∀ e w', MaPost J N (U ++ selA L b below A) W e w' → e = .returned (.tuple #[]) ∧ MaPost J N (U ++ selA L b below A) W e w') := Lib.hid (fun e w' h => ⟨h.1, h⟩)
  generalize MaPost J N (U ++ selA L b below A) W = TP at *
  clear C h0 hr hA hU hb h1 h2 h3 h4 hnb
  unfold encB at *
  have HB5 : Hid (∀ A1 A2 A3 A4 A5 : Obj, Below W.heap.size W (((((W.alloc A1).alloc A2).alloc A3).alloc A4).alloc A5)) := Lib.hid (fun A1 A2 A3 A4 A5 => below_after (below_after (below_after (below_after (below_alloc _ _) (below_alloc _ _)) (below_alloc _ _)) (below_alloc _ _)) (below_alloc _ _))
  go_enter Try.func54, Try.ntmps54
  go_wp2_with fail
  refine wp_scope_straight ?_
  go_wp2_with (first
    | (go_at_call 66; refine (HSp.out _ (HB5.out _ _ _ _ _)).mono ?_; rintro e w1 ⟨r, rfl, hr, hb1⟩; have HB1 := Lib.hid (below_after (HB5.out _ _ _ _ _) hb1); have hr1 := hr hn; subst hr1; have h5 := cell_later hb1 (v := .pointer (some ⟨xb, 0, none⟩)) (a := ⟨W.heap.size, 0, none⟩) (by go_simp); have h6 := cell_later hb1 (v := .int .i64 b.1) (a := ⟨W.heap.size + 1, 0, none⟩) (by go_simp); have h61 := cell_later hb1 (v := .int .i64 b.2.1) (a := ⟨W.heap.size + 1, 1, none⟩) (by go_simp); have h62 := cell_later hb1 (v := .int .i64 b.2.2.1) (a := ⟨W.heap.size + 1, 2, none⟩) (by go_simp); have h63 := cell_later hb1 (v := .int .i64 b.2.2.2) (a := ⟨W.heap.size + 1, 3, none⟩) (by go_simp); have h7 := cell_later hb1 (v := .pointer (some ⟨gb, 0, none⟩)) (a := ⟨W.heap.size + 1 + 1, 0, none⟩) (by go_simp); have h8 := cell_later hb1 (v := .int .i64 below) (a := ⟨W.heap.size + 1 + 1 + 1, 0, none⟩) (by go_simp); have h9 := cell_later hb1 (v := .func (.func F0) #[] lb) (a := ⟨W.heap.size + 1 + 1 + 1 + 1, 0, none⟩) (by go_simp); clear hr hb1)
    | (go_at_call 67; refine (HMa.out _ HB1.out).mono ?_; intro e w2 hp; obtain ⟨rfl, hp⟩ := HFin.out _ _ hp; have HP := Lib.hid hp; clear hp))
  refine bodyPost_ret (v := .tuple #[]) ?_ rfl HP.out
  simp [results, Try.results54, go_sem]
end Go.Proofs.Ytenfaejdnphngaa
