/- Walks: the law's same. -/
import Derived.Test.YtcbgknlklpandaaProQ
namespace Go.Proofs.Ytcbgknlklpandaa
open Go.RowKit Go.Sort

theorem neq_FD (a b : Fd) (ha : ∀ x ∈ a.b, x < 256) (hb : ∀ x ∈ b.b, x < 256) (w : World) : Sem.run Try.prog (binOp .neq 81 (.agg #[.int .i64 a.num, .int .i64 a.kind, .int .u64 (a.n : Int), .string (bst a.b)]) (.agg #[.int .i64 b.num, .int .i64 b.kind, .int .u64 (b.n : Int), .string (bst b.b)])) w = .ok (.bool (!(eqFd a b))) w := by
  have h := equal_FD a b w
  rw [bytes_eq ha hb] at h
  have h2 : (a.num == b.num && a.kind == b.kind && a.n == b.n && decide (a.b = b.b)) = eqFd a b := rfl
  rw [h2] at h
  simp only [binOp]
  simp [Op.equal, Op.maxDepth, h]
structure LsS (w W : World) (g p g' p' : Nat) (f h : Fd) (qb : Option Addr) (cb : Nat) (sh : ByteArray) : Prop where
  bl : Below w.heap.size w W
  c0 : W.cell? ⟨g, p, none⟩ = some (.int .i64 f.num)
  c1 : W.cell? ⟨g, p + 1, none⟩ = some (.int .i64 f.kind)
  c2 : W.cell? ⟨g, p + 2, none⟩ = some (.int .u64 (f.n : Int))
  c3 : W.cell? ⟨g, p + 3, none⟩ = some (.slice qb f.b.length cb)
  d0 : W.cell? ⟨g', p', none⟩ = some (.int .i64 h.num)
  d1 : W.cell? ⟨g', p' + 1, none⟩ = some (.int .i64 h.kind)
  d2 : W.cell? ⟨g', p' + 2, none⟩ = some (.int .u64 (h.n : Int))
  d3 : W.cell? ⟨g', p' + 3, none⟩ = some (.string sh)
theorem LsS.keep {w W W1 : World} {g p g' p' : Nat} {f h : Fd} {qb : Option Addr} {cb : Nat} {sh : ByteArray} (a : LsS w W g p g' p' f h qb cb sh) (hb : Below W.heap.size W W1) : LsS w W1 g p g' p' f h qb cb sh :=
  ⟨below_after a.bl hb, cell_later hb a.c0, cell_later hb a.c1, cell_later hb a.c2, cell_later hb a.c3, cell_later hb a.d0, cell_later hb a.d1, cell_later hb a.d2, cell_later hb a.d3⟩
set_option maxRecDepth 100000 in
set_option maxHeartbeats 4000000 in
theorem lsame8_any {w : World} {va vb : Value} {L M : List Fd} (hl : L.length ≤ 1000) (hF : FL w va L) (hG : RL8 w vb M) (hL : FB L) (hM : FB M) : Calls Try.prog 37 #[va, vb] w (SamePost L M w) := by
  have hmx : Try.prog.follows .mixedOrders = true := by kernel_rfl
  obtain ⟨q, c, rfl, hlc, hx⟩ := hF
  obtain ⟨q', c', rfl, hlc', hx'⟩ := hG
  have HX := Lib.hid hx
  have HX' := Lib.hid hx'
  clear hx hx'
  by_cases hlen : L.length = M.length
  · have hz2 : ((L.length : Int) == (M.length : Int)) = true := by simp; omega
    have hz3 : ((L.length : Int) != (M.length : Int)) = false := by simp; omega
    have HLn := Lib.hid hlen
    have hle : L.length ≤ M.length := by omega
    have hge : M.length ≤ L.length := by omega
    clear hlen
    go_enter Try.func37, Try.ntmps37
    go_wp2_with fail
    clear hz2 hz3
    go_loopg [5] L.length (fun gk i wx => ∃ k : Nat, k + gk = L.length ∧ i = .int .i64 (k : Int) ∧ Hid (L.take k = M.take k) ∧ Hid (Below w.heap.size w wx))
    case atStart => exact ⟨0, by omega, rfl, Lib.hid rfl, Lib.hid (Below.refl _ _)⟩
    case round =>
      obtain ⟨k, hkg, rfl, HE, HS⟩ := hrel
      cases gk with
      | zero =>
        obtain rfl : k = L.length := by omega
        have hkz : ¬ (L.length : Int) < (L.length : Int) := by omega
        have HR : Hid (L = M) := Lib.hid (by have h := HE.out; rw [List.take_length, HLn.out, List.take_length] at h; exact h)
        go_wp2_with fail
        go_ret
        exact ⟨true, rfl, ⟨fun _ => HR.out, fun _ => rfl⟩, HS.out⟩
      | succ gr =>
        have hkz : (k : Int) < (L.length : Int) := by omega
        have hkl : k < L.length := by omega
        have hkm : k < M.length := by omega
        have hkz2 : (k : Int) < (M.length : Int) := by omega
        obtain ⟨g, o, qb, cb, rfl, c0, c1, c2, c3, hk⟩ := HX.out k hkl
        obtain ⟨g', o', rfl, d0, d1, d2, d3⟩ := HX'.out k hkm
        have HC := Lib.hid (fun V (hV : Below w.heap.size w V) => lof_any (f := L[k]) (hk.keep hV))
        have HT := Lib.hid (fun h => take_same HE.out hkl hkm h)
        have HN : Hid (L[k] ≠ M[k] → L ≠ M) := Lib.hid (fun h e => by subst e; exact h rfl)
        have hbf := hL _ (List.getElem_mem hkl)
        have hbh := hM _ (List.getElem_mem hkm)
        clear hk
        have c0 := cell_later HS.out c0
        have c1 := cell_later HS.out c1
        have c2 := cell_later HS.out c2
        have c3 := cell_later HS.out c3
        have d0 := cell_later HS.out d0
        have d1 := cell_later HS.out d1
        have d2 := cell_later HS.out d2
        have d3 := cell_later HS.out d3
        generalize L[k] = f at *
        generalize M[k] = h at *
        have hne := fun V => neq_FD f h hbf hbh V
        clear hbf hbh
        have HQ : Hid (eqFd f h = true ↔ f = h) := Lib.hid eqFd_iff
        unfold OfPost at HC
        generalize bst f.b = sf at *
        generalize bst h.b = sh at *
        generalize eqFd f h = r at *
        go_upto_region 6 with fail
        have HW := Lib.hid (show LsS w wr.drew g (o + k * 4) g' (o' + k * 4) f h qb cb sh from ⟨HS.out.drew, c0, c1, c2, c3, d0, d1, d2, d3⟩)
        clear c0 c1 c2 c3 d0 d1 d2 d3 HS
        refine wp_region_held_drew (S := fun W' => LsS w W' g (o + k * 4) g' (o' + k * 4) f h qb cb sh) (by kernel_rfl) HW.out (fun hHeld => ?_)
        generalize wr.drew = V0 at *
        refine wpAnyH_take (i := 0) (oi := { dst := some 17, op := Op.move (Operand.tmp 0), type := 60, pos := "law.go:50", after := #[], guard := none }) (v := ?_) rfl (by kernel_rfl) (by kernel_rfl) (by kernel_rfl) (fun _ _ _ h => h) (Or.inl ⟨by rfl, ?_⟩) (by with_reducible assumption) ?_
        rotate_left
        focus (intro wS hSw; obtain ⟨sb, s0, s1, s2, s3, t0, t1, t2, t3⟩ := hSw; go_simp <;> with_reducible rfl)
        try go_frame
        refine wpAnyH_take (i := 1) (oi := { dst := some 18, op := Op.move (Operand.tmp 5), type := 3, pos := "law.go:50", after := #[], guard := none }) (v := ?_) rfl (by kernel_rfl) (by kernel_rfl) (by kernel_rfl) (fun _ _ _ h => h) (Or.inl ⟨by rfl, ?_⟩) (by with_reducible assumption) ?_
        rotate_left
        focus (intro wS hSw; obtain ⟨sb, s0, s1, s2, s3, t0, t1, t2, t3⟩ := hSw; go_simp <;> with_reducible rfl)
        try go_frame
        refine wpAnyH_take (i := 2) (oi := { dst := some 19, op := Op.indexAddr 60 (Operand.tmp 17) (Operand.tmp 18), type := 0, pos := "law.go:50", after := #[{ on := 0, ground := Ground.data }, { on := 1, ground := Ground.data }], guard := none }) (v := ?_) rfl (by kernel_rfl) (by kernel_rfl) (by kernel_rfl) (fun _ _ _ h => h) (Or.inl ⟨by rfl, ?_⟩) (by with_reducible assumption) ?_
        rotate_left
        focus (intro wS hSw; obtain ⟨sb, s0, s1, s2, s3, t0, t1, t2, t3⟩ := hSw; go_simp <;> with_reducible rfl)
        try go_frame
        refine wpAnyH_take (i := 3) (oi := { dst := some 20, op := Op.load 77 (Operand.tmp 19), type := 77, pos := "law.go:50", after := #[{ on := 2, ground := Ground.data }], guard := none }) (v := ?_) rfl (by kernel_rfl) (by kernel_rfl) (by kernel_rfl) (fun _ _ _ h => h) (Or.inl ⟨by rfl, ?_⟩) (by with_reducible assumption) ?_
        rotate_left
        focus (intro wS hSw; obtain ⟨sb, s0, s1, s2, s3, t0, t1, t2, t3⟩ := hSw; go_simp <;> with_reducible rfl)
        try go_frame
        refine wpAnyH_take (i := 5) (oi := { dst := some 22, op := Op.move (Operand.tmp 1), type := 68, pos := "law.go:50", after := #[], guard := none }) (v := ?_) rfl (by kernel_rfl) (by kernel_rfl) (by kernel_rfl) (fun _ _ _ h => h) (Or.inl ⟨by rfl, ?_⟩) (by with_reducible assumption) ?_
        rotate_left
        focus (intro wS hSw; obtain ⟨sb, s0, s1, s2, s3, t0, t1, t2, t3⟩ := hSw; go_simp <;> with_reducible rfl)
        try go_frame
        refine wpAnyH_take (i := 6) (oi := { dst := some 23, op := Op.move (Operand.tmp 5), type := 3, pos := "law.go:50", after := #[], guard := none }) (v := ?_) rfl (by kernel_rfl) (by kernel_rfl) (by kernel_rfl) (fun _ _ _ h => h) (Or.inl ⟨by rfl, ?_⟩) (by with_reducible assumption) ?_
        rotate_left
        focus (intro wS hSw; obtain ⟨sb, s0, s1, s2, s3, t0, t1, t2, t3⟩ := hSw; go_simp <;> with_reducible rfl)
        try go_frame
        refine wpAnyH_take (i := 7) (oi := { dst := some 24, op := Op.indexAddr 68 (Operand.tmp 22) (Operand.tmp 23), type := 0, pos := "law.go:50", after := #[{ on := 5, ground := Ground.data }, { on := 6, ground := Ground.data }], guard := none }) (v := ?_) rfl (by kernel_rfl) (by kernel_rfl) (by kernel_rfl) (fun _ _ _ h => h) (Or.inl ⟨by rfl, ?_⟩) (by with_reducible assumption) ?_
        rotate_left
        focus (intro wS hSw; obtain ⟨sb, s0, s1, s2, s3, t0, t1, t2, t3⟩ := hSw; go_simp <;> with_reducible rfl)
        try go_frame
        refine wpAnyH_take (i := 8) (oi := { dst := some 25, op := Op.load 81 (Operand.tmp 24), type := 81, pos := "law.go:50", after := #[{ on := 7, ground := Ground.data }], guard := none }) (v := ?_) rfl (by kernel_rfl) (by kernel_rfl) (by kernel_rfl) (fun _ _ _ h => h) (Or.inl ⟨by rfl, ?_⟩) (by with_reducible assumption) ?_
        rotate_left
        focus (intro wS hSw; obtain ⟨sb, s0, s1, s2, s3, t0, t1, t2, t3⟩ := hSw; go_simp <;> with_reducible rfl)
        try go_frame
        refine wpAnyH_ready (rs := [4]) (by kernel_rfl) (by simp) ?_
        refine AllReadyH.cons (i := 4) (o := { dst := some 21, op := Op.call { callee := Callee.value (Operand.func 42), args := #[Operand.tmp 20], argTypes := #[77] }, type := 81, pos := "law.go:50", after := #[{ on := 3, ground := Ground.data }], guard := none }) rfl (fun K hK => ?_) AllReadyH.nil
        go_simp
        go_at_call 42
        refine (HC.out _ HW.out.bl).mono ?_
        rintro en w1 ⟨rfl, hb1⟩
        have HW1 := Lib.hid (HW.out.keep hb1)
        clear hb1
        refine hK.out _ _ HW1.out (fun hHeld => ?_)
        clear hK K
        try go_frame
        refine wpAnyH_take (i := 9) (oi := { dst := some 26, op := Op.binOp BinOp.neq 81 (Operand.tmp 21) (Operand.tmp 25) 81, type := 4, pos := "law.go:50", after := #[{ on := 4, ground := Ground.data }, { on := 8, ground := Ground.data }], guard := none }) (v := ?_) rfl (by kernel_rfl) (by kernel_rfl) (by kernel_rfl) (fun _ _ _ h => h) (Or.inl ⟨by rfl, ?_⟩) (by with_reducible assumption) ?_
        rotate_left
        focus (intro wS hSw; obtain ⟨sb, s0, s1, s2, s3, t0, t1, t2, t3⟩ := hSw; go_simp <;> with_reducible rfl)
        try go_frame
        refine wpAnyH_done (by kernel_rfl) ?_ _
        have HB3 := Lib.hid HW1.out.bl
        clear HW HW1
        cases hr : r
        · have HNe : Hid (L ≠ M) := Lib.hid (HN.out (fun e => by have := HQ.out.2 e; rw [hr] at this; cases this))
          subst hr
          go_wp2_with fail
          go_ret
          exact ⟨false, rfl, ⟨(fun h => by cases h), fun h => absurd h HNe.out⟩, HB3.out⟩
        · have HT1 := Lib.hid (HT.out (HQ.out.1 hr))
          subst hr
          go_wp2_with fail
          go_roundg gr
          case measure => omega
          case rel => exact ⟨k + 1, (by rw [Nat.add_assoc, Nat.add_comm 1 gr]; exact hkg), by go_num, HT1, HB3⟩
  · have hz2 : ((L.length : Int) != (M.length : Int)) = true := by simp; omega
    have hz3 : ((L.length : Int) == (M.length : Int)) = false := by simp; omega
    have HN : Hid (L ≠ M) := Lib.hid (fun e => hlen (by rw [e]))
    go_enter Try.func37, Try.ntmps37
    go_wp2_with fail
    go_ret
    exact ⟨false, rfl, ⟨(fun h => by cases h), fun h => absurd h HN.out⟩, Below.refl _ _⟩
end Go.Proofs.Ytcbgknlklpandaa
