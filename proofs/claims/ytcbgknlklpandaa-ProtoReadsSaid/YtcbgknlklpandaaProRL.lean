/- The law ProtoReads. -/
import Derived.Test.YtcbgknlklpandaaProV
import Derived.Test.YtcbgknlklpandaaProRA
import Derived.Test.YtcbgknlklpandaaProR
import Derived.Test.YtcbgknlklpandaaProS
namespace Go.Proofs.Ytcbgknlklpandaa
open Go.RowKit Go.Sort

theorem fby_pos (f : Fd) : 0 < (fby f).length := by
  unfold fby
  rw [List.length_append]
  have := nb_pos (key f)
  omega
theorem wrB_ge : ∀ (l : List Fd), l.length ≤ (wrB l).length
  | [] => Nat.zero_le _
  | f :: t => by
    have := wrB_ge t
    have h := fby_pos f
    rw [wrB_cons, List.length_append, List.length_cons]
    omega
theorem wrB_pre (l : List Fd) (i : Nat) : (wrB (l.take i)).length ≤ (wrB l).length := by
  have h := congrArg (fun x => (wrB x).length) (List.take_append_drop i l)
  simp only [wrB_app, List.length_append] at h
  omega
theorem al_bad : ∀ (g : Nat) (b : List Nat) (i : Nat) (acc : List Fd), (alR g b i acc).2.2 ≠ 0 → (alR g b i acc).1 = []
  | 0, _, _, _, h => absurd rfl h
  | g + 1, b, i, acc, h => by
    rw [alR] at h ⊢
    split
    · rename_i h1
      rw [if_pos h1] at h
      split
      · rename_i h2
        rw [if_pos h2] at h
        exact al_bad g b _ _ h
      · rfl
    · rename_i h1
      rw [if_neg h1] at h
      exact absurd rfl h
structure Rs8 (w W : World) (k3 k6 : Nat) (f : Fd) (q : Option Addr) (c : Nat) (sb : ByteArray) : Prop where
  bl : Below w.heap.size w W
  f3 : F4 W k3 77 (.int .i64 f.num) (.int .i64 f.kind) (.int .u64 (f.n : Int)) (.slice q f.b.length c)
  f6 : F4 W k6 81 (.int .i64 f.num) (.int .i64 f.kind) (.int .u64 (f.n : Int)) (.string sb)
theorem Rs8.keep {w W W1 : World} {k3 k6 : Nat} {f : Fd} {q : Option Addr} {c : Nat} {sb : ByteArray} (h : Rs8 w W k3 k6 f q c sb) (hb : Below W.heap.size W W1) : Rs8 w W1 k3 k6 f q c sb := ⟨below_after h.bl hb, h.f3.keep hb, h.f6.keep hb⟩
theorem neq_FDs (a : Fd) (w : World) : Sem.run Try.prog (binOp .neq 81 (.agg #[.int .i64 a.num, .int .i64 a.kind, .int .u64 (a.n : Int), .string (bst a.b)]) (.agg #[.int .i64 a.num, .int .i64 a.kind, .int .u64 (a.n : Int), .string (bst a.b)])) w = .ok (.bool false) w := by
  have h := equal_FD a a w
  simp only [BEq.rfl, Bool.and_self] at h
  simp only [binOp]
  simp [Op.equal, Op.maxDepth, h]
set_option maxRecDepth 100000 in
set_option maxHeartbeats 4000000 in
theorem readsLaw8_yes {w : World} {v : Value} {l0 : List Nat} (hK : KL .u8 w v l0) (hb0 : ∀ n ∈ l0, n < 256) :
    Calls Try.prog 7 #[v] w fun e w' => e = .returned (.bool true) ∧ Below w.heap.size w w' := by
  have hmx : Try.prog.follows .mixedOrders = true := by kernel_rfl
  obtain ⟨q, c, rfl, hc, _⟩ := id hK
  have hKm := hK.take (Nat.min_le_left l0.length 300)
  have hlm : (l0.take (min l0.length 300)).length = min l0.length 300 := by rw [List.length_take]; omega
  have hbm : ∀ x ∈ l0.take (min l0.length 300), x < 256 := fun x hx => hb0 x (List.mem_of_mem_take hx)
  have hmn : min (l0.length : Int) 300 = ((min l0.length 300 : Nat) : Int) := by omega
  have hm50 : min l0.length 300 ≤ 300 := Nat.min_le_right _ _
  have hmc : min l0.length 300 ≤ c := by omega
  generalize l0.take (min l0.length 300) = b at *
  generalize min l0.length 300 = m at *
  subst hlm
  have hcz : (b.length : Int) ≤ (c : Int) := by omega
  have HK := Lib.hid hKm
  have HR1 := Lib.hid (pread_any hKm hbm (by omega))
  have HR2 := Lib.hid (fun (V : World) (h : KL .u8 V (.slice q b.length c) b) => rread8_any h hbm (by omega))
  have HR3 := Lib.hid (fun (V : World) (h : KL .u8 V (.slice q b.length c) b) => pskip_any h hbm (by omega))
  have HA1 := Lib.hid (fun (V : World) (h : KL .u8 V (.slice q b.length c) b) => pall_any h hbm (by omega))
  have HA2 := Lib.hid (fun (V : World) (h : KL .u8 V (.slice q b.length c) b) => rall8_any h hbm (by omega))
  have HOk : Hid ((alD b).2.2 = 0 → wrE (alD b).1 = 0 ∧ wrB (alD b).1 = b ∧ (∀ f ∈ (alD b).1, FdB 1000 f)) := Lib.hid (fun h => by
    have hr : alD b = ((alD b).1, (alD b).2.1, 0) := by rw [← h]
    obtain ⟨k1, _, k3⟩ := alD_ok hbm hr
    exact ⟨wrE_of (fun f hf => (k3 f hf).1), k1, fun f hf => ⟨(k3 f hf).2.1, (k3 f hf).2.2.2, Nat.le_trans (k3 f hf).2.2.1 (by omega)⟩⟩)
  have HNo : Hid ((alD b).2.2 ≠ 0 → (alD b).1 = []) := Lib.hid (fun h => al_bad _ _ _ _ h)
  have HFB : Hid (FB (alD b).1 ∧ (alD b).1.length ≤ 300) := Lib.hid (by
    by_cases h : (alD b).2.2 = 0
    · obtain ⟨_, k2, k3⟩ := HOk.out h
      refine ⟨fun f hf => (k3 f hf).2.1, ?_⟩
      have := wrB_ge (alD b).1
      rw [k2] at this
      omega
    · rw [HNo.out h]
      exact ⟨(fun f hf => by cases hf), Nat.zero_le _⟩)
  unfold Rd8Post at HR1
  unfold R8Post at HR2
  unfold SkPost at HR3
  unfold AlPost at HA1
  unfold RaPost8 at HA2
  generalize rdF b = r at *
  obtain ⟨f, k, e⟩ := r
  generalize alD b = al at *
  obtain ⟨L, p, e2⟩ := al
  dsimp only at *
  have hne := neq_FDs f
  have HOf := Lib.hid (fun V (q1 : Option Addr) (c1 : Nat) (h : KL .u8 V (.slice q1 f.b.length c1) f.b) => lof_any (f := f) h)
  unfold OfPost at HOf
  generalize hsb : bst f.b = sb at *
  clear hsb hK hKm hbm hb0 hc
  go_enter Try.func7, Try.ntmps7
  go_wp2_with fail
  refine HR1.out.mono ?_
  rintro en w1 ⟨q1, c1, rfl, hk1, hb1⟩
  have HB1 := Lib.hid hb1
  have HK1 := Lib.hid hk1
  clear hk1 hb1
  go_upto_region 3 with fail
  have HF3 := Lib.hid (F4.new w1 77 (.int .i64 f.num) (.int .i64 f.kind) (.int .u64 (f.n : Int)) (.slice q1 f.b.length c1))
  have HB2 := Lib.hid (below_after HB1.out (below_alloc w1 (.cells #[.int .i64 f.num, .int .i64 f.kind, .int .u64 (f.n : Int), .slice q1 f.b.length c1] 77)))
  have HK2 := Lib.hid (HK1.out.keep (below_alloc w1 (.cells #[.int .i64 f.num, .int .i64 f.kind, .int .u64 (f.n : Int), .slice q1 f.b.length c1] 77)))
  generalize w1.alloc (.cells #[.int .i64 f.num, .int .i64 f.kind, .int .u64 (f.n : Int), .slice q1 f.b.length c1] 77) = w2 at *
  generalize w1.heap.size = k3 at *
  clear HB1 HK1
  go_wp2_with fail
  refine (HR2.out _ (HK.out.keep HB2.out)).mono ?_
  rintro en w3 ⟨rfl, hb3⟩
  have HB3 := Lib.hid (below_after HB2.out hb3)
  have HK3 := Lib.hid (HK2.out.keep hb3)
  have HF3b := Lib.hid (HF3.out.keep hb3)
  clear hb3 HB2 HK2 HF3
  go_upto_region 4 with fail
  have HS4 : Hid (Rs8 w (w3.alloc (.cells #[.int .i64 f.num, .int .i64 f.kind, .int .u64 (f.n : Int), .string sb] 81)) k3 w3.heap.size f q1 c1 sb) := Lib.hid ⟨below_after HB3.out (below_alloc _ _), HF3b.out.keep (below_alloc _ _), F4.new _ _ _ _ _ _⟩
  have HK4 := Lib.hid (HK3.out.keep (below_alloc w3 (.cells #[.int .i64 f.num, .int .i64 f.kind, .int .u64 (f.n : Int), .string sb] 81)))
  generalize w3.alloc (.cells #[.int .i64 f.num, .int .i64 f.kind, .int .u64 (f.n : Int), .string sb] 81) = w4 at *
  generalize w3.heap.size = k6 at *
  clear HB3 HK3 HF3b
  go_wp2_with fail
  refine (HR3.out _ (HK.out.keep HS4.out.bl)).mono ?_
  rintro en w5 ⟨rfl, hb5⟩
  have HS5 := Lib.hid (HS4.out.keep hb5)
  have HK5 := Lib.hid (HK4.out.keep hb5)
  clear hb5 HS4 HK4
  go_upto_region 5 with fail
  have HSd := Lib.hid (HS5.out.keep (Below.refl _ _).drew)
  have HKd := Lib.hid (HK5.out.keep (Below.refl w5.heap.size w5).drew)
  clear HS5 HK5
  refine wp_region_held_drew (S := fun W' => Rs8 w W' k3 k6 f q1 c1 sb) (by kernel_rfl) HSd.out (fun hHeld => ?_)
  generalize w5.drew = w6 at *
  refine wpAnyH_take (i := 0) (oi := { dst := some 41, op := Op.load 77 (Operand.tmp 3), type := 77, pos := "law.go:78", after := #[], guard := none }) (v := ?_) rfl (by kernel_rfl) (by kernel_rfl) (by kernel_rfl) (fun _ _ _ h => h) (Or.inl ⟨by rfl, ?_⟩) (by with_reducible assumption) ?_
  rotate_left
  focus (intro wS hSw; obtain ⟨s0, s1, s2, s3⟩ := hSw.f3.cells; obtain ⟨t0, t1, t2, t3⟩ := hSw.f6.cells; go_simp <;> with_reducible rfl)
  try go_frame
  refine wpAnyH_take (i := 2) (oi := { dst := some 43, op := Op.load 81 (Operand.tmp 6), type := 81, pos := "law.go:78", after := #[], guard := none }) (v := ?_) rfl (by kernel_rfl) (by kernel_rfl) (by kernel_rfl) (fun _ _ _ h => h) (Or.inl ⟨by rfl, ?_⟩) (by with_reducible assumption) ?_
  rotate_left
  focus (intro wS hSw; obtain ⟨s0, s1, s2, s3⟩ := hSw.f3.cells; obtain ⟨t0, t1, t2, t3⟩ := hSw.f6.cells; go_simp <;> with_reducible rfl)
  try go_frame
  refine wpAnyH_ready (rs := [1]) (by kernel_rfl) (by simp) ?_
  refine AllReadyH.cons (i := 1) (o := { dst := some 42, op := Op.call { callee := Callee.value (Operand.func 42), args := #[Operand.tmp 41], argTypes := #[77] }, type := 81, pos := "law.go:78", after := #[{ on := 0, ground := Ground.data }], guard := none }) rfl (fun K hK => ?_) AllReadyH.nil
  go_simp
  go_at_call 42
  refine (HOf.out _ q1 c1 HKd.out).mono ?_
  rintro en w7 ⟨rfl, hb7⟩
  have HS7 := Lib.hid (HSd.out.keep hb7)
  clear hb7
  refine hK.out _ _ HS7.out (fun hHeld => ?_)
  clear hK K
  try go_frame
  refine wpAnyH_take (i := 3) (oi := { dst := some 44, op := Op.binOp BinOp.neq 81 (Operand.tmp 42) (Operand.tmp 43) 81, type := 4, pos := "law.go:78", after := #[{ on := 1, ground := Ground.data }, { on := 2, ground := Ground.data }], guard := none }) (v := ?_) rfl (by kernel_rfl) (by kernel_rfl) (by kernel_rfl) (fun _ _ _ h => h) (Or.inl ⟨by rfl, ?_⟩) (by with_reducible assumption) ?_
  rotate_left
  focus (intro wS hSw; obtain ⟨s0, s1, s2, s3⟩ := hSw.f3.cells; obtain ⟨t0, t1, t2, t3⟩ := hSw.f6.cells; go_simp <;> with_reducible rfl)
  try go_frame
  refine wpAnyH_take (i := 4) (oi := { dst := some 45, op := Op.move (Operand.tmp 44), type := 4, pos := "law.go:78", after := #[{ on := 3, ground := Ground.data }, { on := 1, ground := Ground.chain }], guard := none }) (v := ?_) rfl (by kernel_rfl) (by kernel_rfl) (by kernel_rfl) (fun _ _ _ h => h) (Or.inl ⟨by rfl, ?_⟩) (by with_reducible assumption) ?_
  rotate_left
  focus (intro wS hSw; obtain ⟨s0, s1, s2, s3⟩ := hSw.f3.cells; obtain ⟨t0, t1, t2, t3⟩ := hSw.f6.cells; go_simp <;> with_reducible rfl)
  try go_frame
  refine wpAnyH_take (i := 5) (oi := { dst := some 46, op := Op.move (Operand.tmp 4), type := 3, pos := "law.go:78", after := #[{ on := 4, ground := Ground.guard }], guard := some (4, false) }) (v := ?_) rfl (by kernel_rfl) (by kernel_rfl) (by kernel_rfl) (fun _ _ _ h => h) (Or.inl ⟨by rfl, ?_⟩) (by with_reducible assumption) ?_
  rotate_left
  focus (intro wS hSw; obtain ⟨s0, s1, s2, s3⟩ := hSw.f3.cells; obtain ⟨t0, t1, t2, t3⟩ := hSw.f6.cells; go_simp <;> with_reducible rfl)
  try go_frame
  refine wpAnyH_take (i := 6) (oi := { dst := some 47, op := Op.move (Operand.tmp 7), type := 3, pos := "law.go:78", after := #[{ on := 4, ground := Ground.guard }], guard := some (4, false) }) (v := ?_) rfl (by kernel_rfl) (by kernel_rfl) (by kernel_rfl) (fun _ _ _ h => h) (Or.inl ⟨by rfl, ?_⟩) (by with_reducible assumption) ?_
  rotate_left
  focus (intro wS hSw; obtain ⟨s0, s1, s2, s3⟩ := hSw.f3.cells; obtain ⟨t0, t1, t2, t3⟩ := hSw.f6.cells; go_simp <;> with_reducible rfl)
  try go_frame
  refine wpAnyH_take (i := 7) (oi := { dst := some 48, op := Op.binOp BinOp.neq 3 (Operand.tmp 46) (Operand.tmp 47) 3, type := 4, pos := "law.go:78", after := #[{ on := 5, ground := Ground.data }, { on := 6, ground := Ground.data }, { on := 4, ground := Ground.guard }], guard := some (4, false) }) (v := ?_) rfl (by kernel_rfl) (by kernel_rfl) (by kernel_rfl) (fun _ _ _ h => h) (Or.inl ⟨by rfl, ?_⟩) (by with_reducible assumption) ?_
  rotate_left
  focus (intro wS hSw; obtain ⟨s0, s1, s2, s3⟩ := hSw.f3.cells; obtain ⟨t0, t1, t2, t3⟩ := hSw.f6.cells; go_simp <;> with_reducible rfl)
  try go_frame
  refine wpAnyH_take (i := 8) (oi := { dst := some 49, op := Op.pick (Operand.tmp 45) (Operand.const (Value.bool true)) (Operand.tmp 48), type := 4, pos := "law.go:78", after := #[{ on := 4, ground := Ground.data }, { on := 7, ground := Ground.data }], guard := none }) (v := ?_) rfl (by kernel_rfl) (by kernel_rfl) (by kernel_rfl) (fun _ _ _ h => h) (Or.inl ⟨by rfl, ?_⟩) (by with_reducible assumption) ?_
  rotate_left
  focus (intro wS hSw; obtain ⟨s0, s1, s2, s3⟩ := hSw.f3.cells; obtain ⟨t0, t1, t2, t3⟩ := hSw.f6.cells; go_simp <;> with_reducible rfl)
  try go_frame
  refine wpAnyH_take (i := 9) (oi := { dst := some 50, op := Op.move (Operand.tmp 49), type := 4, pos := "law.go:78", after := #[{ on := 8, ground := Ground.data }, { on := 4, ground := Ground.chain }], guard := none }) (v := ?_) rfl (by kernel_rfl) (by kernel_rfl) (by kernel_rfl) (fun _ _ _ h => h) (Or.inl ⟨by rfl, ?_⟩) (by with_reducible assumption) ?_
  rotate_left
  focus (intro wS hSw; obtain ⟨s0, s1, s2, s3⟩ := hSw.f3.cells; obtain ⟨t0, t1, t2, t3⟩ := hSw.f6.cells; go_simp <;> with_reducible rfl)
  try go_frame
  refine wpAnyH_take (i := 10) (oi := { dst := some 51, op := Op.move (Operand.tmp 5), type := 63, pos := "law.go:78", after := #[{ on := 9, ground := Ground.guard }], guard := some (9, false) }) (v := ?_) rfl (by kernel_rfl) (by kernel_rfl) (by kernel_rfl) (fun _ _ _ h => h) (Or.inl ⟨by rfl, ?_⟩) (by with_reducible assumption) ?_
  rotate_left
  focus (intro wS hSw; obtain ⟨s0, s1, s2, s3⟩ := hSw.f3.cells; obtain ⟨t0, t1, t2, t3⟩ := hSw.f6.cells; go_simp <;> with_reducible rfl)
  try go_frame
  refine wpAnyH_take (i := 11) (oi := { dst := some 52, op := Op.move (Operand.tmp 8), type := 3, pos := "law.go:78", after := #[{ on := 9, ground := Ground.guard }], guard := some (9, false) }) (v := ?_) rfl (by kernel_rfl) (by kernel_rfl) (by kernel_rfl) (fun _ _ _ h => h) (Or.inl ⟨by rfl, ?_⟩) (by with_reducible assumption) ?_
  rotate_left
  focus (intro wS hSw; obtain ⟨s0, s1, s2, s3⟩ := hSw.f3.cells; obtain ⟨t0, t1, t2, t3⟩ := hSw.f6.cells; go_simp <;> with_reducible rfl)
  try go_frame
  refine wpAnyH_take (i := 12) (oi := { dst := some 53, op := Op.binOp BinOp.neq 3 (Operand.tmp 51) (Operand.tmp 52) 3, type := 4, pos := "law.go:78", after := #[{ on := 10, ground := Ground.data }, { on := 11, ground := Ground.data }, { on := 9, ground := Ground.guard }], guard := some (9, false) }) (v := ?_) rfl (by kernel_rfl) (by kernel_rfl) (by kernel_rfl) (fun _ _ _ h => h) (Or.inl ⟨by rfl, ?_⟩) (by with_reducible assumption) ?_
  rotate_left
  focus (intro wS hSw; obtain ⟨s0, s1, s2, s3⟩ := hSw.f3.cells; obtain ⟨t0, t1, t2, t3⟩ := hSw.f6.cells; go_simp <;> with_reducible rfl)
  try go_frame
  refine wpAnyH_take (i := 13) (oi := { dst := some 54, op := Op.pick (Operand.tmp 50) (Operand.const (Value.bool true)) (Operand.tmp 53), type := 4, pos := "law.go:78", after := #[{ on := 9, ground := Ground.data }, { on := 12, ground := Ground.data }], guard := none }) (v := ?_) rfl (by kernel_rfl) (by kernel_rfl) (by kernel_rfl) (fun _ _ _ h => h) (Or.inl ⟨by rfl, ?_⟩) (by with_reducible assumption) ?_
  rotate_left
  focus (intro wS hSw; obtain ⟨s0, s1, s2, s3⟩ := hSw.f3.cells; obtain ⟨t0, t1, t2, t3⟩ := hSw.f6.cells; go_simp <;> with_reducible rfl)
  try go_frame
  refine wpAnyH_take (i := 14) (oi := { dst := some 55, op := Op.move (Operand.tmp 54), type := 4, pos := "law.go:78", after := #[{ on := 13, ground := Ground.data }, { on := 9, ground := Ground.chain }], guard := none }) (v := ?_) rfl (by kernel_rfl) (by kernel_rfl) (by kernel_rfl) (fun _ _ _ h => h) (Or.inl ⟨by rfl, ?_⟩) (by with_reducible assumption) ?_
  rotate_left
  focus (intro wS hSw; obtain ⟨s0, s1, s2, s3⟩ := hSw.f3.cells; obtain ⟨t0, t1, t2, t3⟩ := hSw.f6.cells; go_simp <;> with_reducible rfl)
  try go_frame
  refine wpAnyH_take (i := 15) (oi := { dst := some 56, op := Op.move (Operand.tmp 9), type := 3, pos := "law.go:78", after := #[{ on := 14, ground := Ground.guard }], guard := some (14, false) }) (v := ?_) rfl (by kernel_rfl) (by kernel_rfl) (by kernel_rfl) (fun _ _ _ h => h) (Or.inl ⟨by rfl, ?_⟩) (by with_reducible assumption) ?_
  rotate_left
  focus (intro wS hSw; obtain ⟨s0, s1, s2, s3⟩ := hSw.f3.cells; obtain ⟨t0, t1, t2, t3⟩ := hSw.f6.cells; go_simp <;> with_reducible rfl)
  try go_frame
  refine wpAnyH_take (i := 16) (oi := { dst := some 57, op := Op.move (Operand.tmp 4), type := 3, pos := "law.go:78", after := #[{ on := 14, ground := Ground.guard }], guard := some (14, false) }) (v := ?_) rfl (by kernel_rfl) (by kernel_rfl) (by kernel_rfl) (fun _ _ _ h => h) (Or.inl ⟨by rfl, ?_⟩) (by with_reducible assumption) ?_
  rotate_left
  focus (intro wS hSw; obtain ⟨s0, s1, s2, s3⟩ := hSw.f3.cells; obtain ⟨t0, t1, t2, t3⟩ := hSw.f6.cells; go_simp <;> with_reducible rfl)
  try go_frame
  refine wpAnyH_take (i := 17) (oi := { dst := some 58, op := Op.binOp BinOp.neq 3 (Operand.tmp 56) (Operand.tmp 57) 3, type := 4, pos := "law.go:78", after := #[{ on := 15, ground := Ground.data }, { on := 16, ground := Ground.data }, { on := 14, ground := Ground.guard }], guard := some (14, false) }) (v := ?_) rfl (by kernel_rfl) (by kernel_rfl) (by kernel_rfl) (fun _ _ _ h => h) (Or.inl ⟨by rfl, ?_⟩) (by with_reducible assumption) ?_
  rotate_left
  focus (intro wS hSw; obtain ⟨s0, s1, s2, s3⟩ := hSw.f3.cells; obtain ⟨t0, t1, t2, t3⟩ := hSw.f6.cells; go_simp <;> with_reducible rfl)
  try go_frame
  refine wpAnyH_take (i := 18) (oi := { dst := some 59, op := Op.pick (Operand.tmp 55) (Operand.const (Value.bool true)) (Operand.tmp 58), type := 4, pos := "law.go:78", after := #[{ on := 14, ground := Ground.data }, { on := 17, ground := Ground.data }], guard := none }) (v := ?_) rfl (by kernel_rfl) (by kernel_rfl) (by kernel_rfl) (fun _ _ _ h => h) (Or.inl ⟨by rfl, ?_⟩) (by with_reducible assumption) ?_
  rotate_left
  focus (intro wS hSw; obtain ⟨s0, s1, s2, s3⟩ := hSw.f3.cells; obtain ⟨t0, t1, t2, t3⟩ := hSw.f6.cells; go_simp <;> with_reducible rfl)
  try go_frame
  refine wpAnyH_take (i := 19) (oi := { dst := some 60, op := Op.move (Operand.tmp 59), type := 4, pos := "law.go:78", after := #[{ on := 18, ground := Ground.data }, { on := 14, ground := Ground.chain }], guard := none }) (v := ?_) rfl (by kernel_rfl) (by kernel_rfl) (by kernel_rfl) (fun _ _ _ h => h) (Or.inl ⟨by rfl, ?_⟩) (by with_reducible assumption) ?_
  rotate_left
  focus (intro wS hSw; obtain ⟨s0, s1, s2, s3⟩ := hSw.f3.cells; obtain ⟨t0, t1, t2, t3⟩ := hSw.f6.cells; go_simp <;> with_reducible rfl)
  try go_frame
  refine wpAnyH_take (i := 20) (oi := { dst := some 61, op := Op.move (Operand.tmp 10), type := 63, pos := "law.go:78", after := #[{ on := 19, ground := Ground.guard }], guard := some (19, false) }) (v := ?_) rfl (by kernel_rfl) (by kernel_rfl) (by kernel_rfl) (fun _ _ _ h => h) (Or.inl ⟨by rfl, ?_⟩) (by with_reducible assumption) ?_
  rotate_left
  focus (intro wS hSw; obtain ⟨s0, s1, s2, s3⟩ := hSw.f3.cells; obtain ⟨t0, t1, t2, t3⟩ := hSw.f6.cells; go_simp <;> with_reducible rfl)
  try go_frame
  refine wpAnyH_take (i := 21) (oi := { dst := some 62, op := Op.move (Operand.tmp 5), type := 63, pos := "law.go:78", after := #[{ on := 19, ground := Ground.guard }], guard := some (19, false) }) (v := ?_) rfl (by kernel_rfl) (by kernel_rfl) (by kernel_rfl) (fun _ _ _ h => h) (Or.inl ⟨by rfl, ?_⟩) (by with_reducible assumption) ?_
  rotate_left
  focus (intro wS hSw; obtain ⟨s0, s1, s2, s3⟩ := hSw.f3.cells; obtain ⟨t0, t1, t2, t3⟩ := hSw.f6.cells; go_simp <;> with_reducible rfl)
  try go_frame
  refine wpAnyH_take (i := 22) (oi := { dst := some 63, op := Op.binOp BinOp.neq 63 (Operand.tmp 61) (Operand.tmp 62) 63, type := 4, pos := "law.go:78", after := #[{ on := 20, ground := Ground.data }, { on := 21, ground := Ground.data }, { on := 19, ground := Ground.guard }], guard := some (19, false) }) (v := ?_) rfl (by kernel_rfl) (by kernel_rfl) (by kernel_rfl) (fun _ _ _ h => h) (Or.inl ⟨by rfl, ?_⟩) (by with_reducible assumption) ?_
  rotate_left
  focus (intro wS hSw; obtain ⟨s0, s1, s2, s3⟩ := hSw.f3.cells; obtain ⟨t0, t1, t2, t3⟩ := hSw.f6.cells; go_simp <;> with_reducible rfl)
  try go_frame
  refine wpAnyH_take (i := 23) (oi := { dst := some 64, op := Op.pick (Operand.tmp 60) (Operand.const (Value.bool true)) (Operand.tmp 63), type := 4, pos := "law.go:78", after := #[{ on := 19, ground := Ground.data }, { on := 22, ground := Ground.data }], guard := none }) (v := ?_) rfl (by kernel_rfl) (by kernel_rfl) (by kernel_rfl) (fun _ _ _ h => h) (Or.inl ⟨by rfl, ?_⟩) (by with_reducible assumption) ?_
  rotate_left
  focus (intro wS hSw; obtain ⟨s0, s1, s2, s3⟩ := hSw.f3.cells; obtain ⟨t0, t1, t2, t3⟩ := hSw.f6.cells; go_simp <;> with_reducible rfl)
  try go_frame
  refine wpAnyH_done (by kernel_rfl) ?_ _
  go_wp2_with fail
  refine (HA1.out _ (HK.out.keep HS7.out.bl)).mono ?_
  rintro en w8 ⟨u8, rfl, hf8, hb8⟩
  have HF8 := Lib.hid hf8
  have HB8 := Lib.hid (below_after HS7.out.bl hb8)
  obtain ⟨q8, c8, rfl, _, _⟩ := hf8
  clear hb8 HS7
  go_wp2_with fail
  refine (HA2.out _ (HK.out.keep HB8.out)).mono ?_
  rintro en w9 ⟨u9, rfl, hf9, hb9⟩
  have HG9 := Lib.hid hf9
  have HF9 := Lib.hid (HF8.out.keep hb9)
  have HB9 := Lib.hid (below_after HB8.out hb9)
  obtain ⟨q9, c9, rfl, _, _⟩ := hf9
  clear hb9 HF8 HB8
  go_wp2_with fail
  refine (lsame8_any (by have := HFB.out.2; omega) HF9.out HG9.out HFB.out.1 HFB.out.1).mono ?_
  rintro en wa ⟨ra, rfl, hra, hba⟩
  obtain rfl : ra = true := hra.2 rfl
  have HFa := Lib.hid (HF9.out.keep hba)
  have HBa := Lib.hid (below_after HB9.out hba)
  clear hra hba HF9 HG9 HB9
  by_cases he2 : e2 = 0
  · subst he2
    obtain ⟨e3, e4, e5⟩ := HOk.out rfl
    have HE3 := Lib.hid e3
    have HWO : Hid (wrO L = b) := Lib.hid (by unfold wrO; rw [if_pos e3, e4])
    have HPw := Lib.hid (fun V (h : FL V (.slice q8 L.length c8) L) => pwrite_any h (by have := HFB.out.2; omega) e5 (fun i _ _ => by have := wrB_pre L i; rw [e4] at this; omega))
    unfold WrPost at HPw
    rw [e3, HWO.out] at HPw
    clear e3 e4 e5 HOk HNo
    go_wp2_with fail
    refine (HPw.out _ HFa.out).mono ?_
    rintro en wb ⟨ub, rfl, hob, hbb⟩
    have HUb := Lib.hid (kl_own (L := b) rfl hob)
    have HBb := Lib.hid (below_after HBa.out hbb)
    obtain ⟨qb, cb, rfl, _⟩ := HUb.out
    clear hob hbb HBa
    go_wp2_with fail
    refine (known8_yes _).mono ?_
    rintro en wc ⟨rfl, hbc⟩
    have HUc := Lib.hid (HUb.out.keep hbc)
    have HBc := Lib.hid (below_after HBb.out hbc)
    clear hbc HUb HBb
    go_wp2_with fail
    refine (rsame_any (HK.out.keep HBc.out) HUc.out (by omega)).mono ?_
    rintro en wd ⟨rfl, hbd⟩
    have HBd := Lib.hid (below_after HBc.out hbd)
    clear hbd
    go_wp2_with fail
    go_ret
    exact ⟨rfl, HBd.out⟩
  · have hez : ¬ (e2 : Int) = 0 := by omega
    go_wp2_with fail
    refine (known8_yes _).mono ?_
    rintro en wc ⟨rfl, hbc⟩
    have HBc := Lib.hid (below_after HBa.out hbc)
    clear hbc
    go_wp2_with fail
    go_ret
    exact ⟨rfl, HBc.out⟩
end Go.Proofs.Ytcbgknlklpandaa
