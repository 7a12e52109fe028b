/- Walks of proto: look, Read, Skip. -/
import Derived.Test.YtcbgknlklpandaaProD
import Derived.Test.YtcbgknlklpandaaProE
import Derived.Test.YtcbgknlklpandaaProF
import Derived.Laws.CopyOwn
namespace Go.Proofs.Ytcbgknlklpandaa
open Go.RowKit Go.Sort

theorem plook_any {w : World} {v : Value} {b : List Nat} (hK : KL .u8 w v b) (hb : ∀ x ∈ b, x < 256) (hl : b.length ≤ 1000000) : Calls Try.prog 84 #[v] w (LkPost v b w) := by
  by_cases he : (rd b).2.2 = 0
  · by_cases hE : kyE (rd b).1 = 0
    · have hk := (kyE_no hE).2
      rw [kdB_iff] at hk
      by_cases h0 : (rd b).1 % 8 = 0
      · exact look_c hK hb hl he hE h0
      · by_cases h2 : (rd b).1 % 8 = 2
        · exact look_d hK hb hl he hE h2
        · by_cases h1 : (rd b).1 % 8 = 1
          · exact look_e hK hb hl he hE h1
          · exact look_f hK hb hl he hE (by omega)
    · exact look_b hK hb hl he hE
  · exact look_a hK hb hl he
def SkPost (b : List Nat) (w : World) (e : Ending) (w' : World) : Prop := e = .returned (.tuple #[.int .i64 ((rdF b).2.1 : Int), .int .i64 ((rdF b).2.2 : Int)]) ∧ Below w.heap.size w w'
set_option maxRecDepth 100000 in
set_option maxHeartbeats 1000000 in
theorem pskip_any {w : World} {v : Value} {b : List Nat} (hK : KL .u8 w v b) (hb : ∀ x ∈ b, x < 256) (hl : b.length ≤ 1000000) : Calls Try.prog 41 #[v] w (SkPost b w) := by
  have HL := Lib.hid (plook_any hK hb hl)
  unfold LkPost at HL
  unfold SkPost
  generalize rdF b = r at *
  obtain ⟨f, k, e⟩ := r
  dsimp only at *
  go_enter Try.func41, Try.ntmps41
  go_wp2_with (go_at_call 84; refine HL.out.mono ?_; rintro en w1 ⟨q, c, rfl, _, hb1⟩; have HB := Lib.hid hb1; clear hb1)
  refine bodyPost_ret (v := .tuple #[.int .i64 (k : Int), .int .i64 (e : Int)]) (by simp [results, Try.results41, go_sem]) rfl ?_
  exact ⟨rfl, below_after HB.out (below_alloc _ _)⟩
theorem make_run8n (n : Nat) (hn : n ≤ 1000000) (w : World) : (Instr.makeSlice 62 (.int .i64 (n : Int)) (.int .i64 (n : Int))).run Try.prog w = .ok (.slice (some ⟨w.heap.size, 0, none⟩) n n) (w.alloc (.cells (madeCells #[.int .u8 0] n) 5)) := by
  obtain ⟨i0, hi, hz0, hz1, hz2⟩ := info_parts info8
  have h := run_make (P := Try.prog) w 62 5 i0 (.int .u8 0) Try.underlying62 hi hz0 .i64 .i64 (n : Int) (n : Int) (by omega) (Int.le_refl _) (by rw [hz2]; omega) (by omega)
  rw [hz1] at h
  simpa [Value.cells] using h
def OwPost8 (f : Fd) (w : World) (e : Ending) (w' : World) : Prop := ∃ q c, e = .returned (.agg #[.int .i64 f.num, .int .i64 f.kind, .int .u64 (f.n : Int), .slice q f.b.length c]) ∧ w'.ownsRow w.heap.size 5 1 (.slice q f.b.length c) f.b.length (kcl .u8 f.b) ∧ Below w.heap.size w w'
theorem kl_setO {W : World} {g o n c B p : Nat} {b : List Nat} {kd : IntKind} {u : Value} (h : KL kd W (.slice (some ⟨g, o, none⟩) n c) b) (hne : g ≠ B) : KL kd (W.setCell ⟨B, p, none⟩ u) (.slice (some ⟨g, o, none⟩) n c) b := by
  obtain ⟨q, c', e, hl, h2⟩ := h
  refine ⟨q, c', e, hl, fun i hi => ?_⟩
  obtain ⟨g', o', e', hc⟩ := h2 i hi
  have e2 : g' = g := by
    injection e with e1 _ _
    rw [← e1] at e'
    injection e' with e'
    injection e' with e1 _ _
    exact e1.symm
  refine ⟨g', o', e', ?_⟩
  rw [World.cell?_setCell_far _ _ _ _ (by show B ≠ g'; omega)]
  exact hc
theorem own_setO {W : World} {B0 g n c B p : Nat} {T : TypeId} {xs : List Value} {u : Value} (h : W.ownsRow B0 T 1 (.slice (some ⟨g, 0, none⟩) n c) n xs) (hne : g ≠ B) : (W.setCell ⟨B, p, none⟩ u).ownsRow B0 T 1 (.slice (some ⟨g, 0, none⟩) n c) n xs :=
  own_blkV h (fun k hk => by simp only [Value.ownBlock, Option.some.injEq] at hk; subst hk; exact Below.heap_setCell W ⟨B, p, none⟩ u g hne)
theorem own_rowN {W : World} {g B0 : Nat} {b : List Nat} {T : TypeId} {kd : IntKind} {cur : List Value} (h : W.heap[g]? = some (.cells cur.toArray T (0, 0))) (hc : cur = kcl kd b) (hB : B0 ≤ g) (hl : b.length ≤ 1000000) : W.ownsRow B0 T 1 (.slice (some ⟨g, 0, none⟩) b.length b.length) b.length (kcl kd b) := by
  subst hc
  exact ⟨by rw [kcl_len, Nat.mul_one], .inr ⟨g, b.length, _, rfl, hB, h, Nat.le_refl _, by unfold maxLen; omega, by simp [kcl], by rw [Nat.mul_one]; exact List.take_of_length_le (by simp [kcl])⟩⟩
set_option maxRecDepth 100000 in
set_option maxHeartbeats 1000000 in
theorem pown_any {w : World} {f : Fd} {q : Option Addr} {c : Nat} (hK : KL .u8 w (.slice q f.b.length c) f.b) (hl : f.b.length ≤ 1000000) : Calls Try.prog 80 #[.agg #[.int .i64 f.num, .int .i64 f.kind, .int .u64 (f.n : Int), .slice q f.b.length c]] w (OwPost8 f w) := by
  have hmx : Try.prog.follows .mixedOrders = true := by kernel_rfl
  obtain ⟨num, kind, n, b⟩ := f
  dsimp only at *
  by_cases h0 : b.length = 0
  · have hb : b = [] := List.eq_nil_of_length_eq_zero h0
    subst hb
    clear hK h0
    go_enter Try.func80, Try.ntmps80
    go_wp2_with fail
    refine bodyPost_ret (v := .agg #[.int .i64 num, .int .i64 kind, .int .u64 (n : Int), .slice none 0 0]) (by simp [results, Try.results80, go_sem]) rfl ?_
    exact ⟨none, 0, rfl, World.ownsRow_nil _ _ _ _, below_after (below_alloc _ _) (below_alloc _ _)⟩
  · have h0z : ¬ (b.length : Int) = 0 := by omega
    obtain ⟨g, o, rfl, _⟩ := hK.from (Nat.zero_le _) (by omega)
    have HK := Lib.hid hK
    have hmk := make_run8n b.length hl
    have HB := Lib.hid (below_after (below_alloc w (.cells #[.int .i64 num, .int .i64 kind, .int .u64 (n : Int), .slice (some ⟨g, o, none⟩) b.length c] 77)) (below_alloc _ (.cells #[.int .i64 0, .int .i64 0, .int .u64 0, .slice none 0 0] 77)))
    have HP := Lib.hid ((F4.new w 77 (.int .i64 num) (.int .i64 kind) (.int .u64 (n : Int)) (.slice (some ⟨g, o, none⟩) b.length c)).keep (below_alloc _ (.cells #[.int .i64 0, .int .i64 0, .int .u64 0, .slice none 0 0] 77)))
    have HZ : Hid (F4 ((w.alloc (.cells #[.int .i64 num, .int .i64 kind, .int .u64 (n : Int), .slice (some ⟨g, o, none⟩) b.length c] 77)).alloc (.cells #[.int .i64 0, .int .i64 0, .int .u64 0, .slice none 0 0] 77)) (w.heap.size + 1) 77 (.int .i64 0) (.int .i64 0) (.int .u64 0) (.slice none 0 0)) := Lib.hid (by simpa using F4.new (w.alloc (.cells #[.int .i64 num, .int .i64 kind, .int .u64 (n : Int), .slice (some ⟨g, o, none⟩) b.length c] 77)) 77 (.int .i64 0) (.int .i64 0) (.int .u64 0) (.slice none 0 0))
    clear hK
    go_enter Try.func80, Try.ntmps80
    go_upto_region 5 with fail
    clear hmk
    generalize hV : (w.alloc (.cells #[.int .i64 num, .int .i64 kind, .int .u64 (n : Int), .slice (some ⟨g, o, none⟩) b.length c] 77)).alloc (.cells #[.int .i64 0, .int .i64 0, .int .u64 0, .slice none 0 0] 77) = V at *
    have hVs : V.heap.size = w.heap.size + 1 + 1 := by rw [← hV]; simp
    clear hV
    have c0 := (HP.out.keep (below_alloc V (.cells (madeCells #[.int .u8 0] b.length) 5))).cells.2.2.2
    have hg0 : (V.alloc (.cells (madeCells #[.int .u8 0] b.length) 5)).heap[w.heap.size + 1 + 1]? = some (.cells (madeCells #[.int .u8 0] b.length).toList.toArray 5 (0, 0)) := by
      rw [← hVs]
      show (V.heap.push _)[V.heap.size]? = _
      simp
    have HKV := Lib.hid (kl_src ((HK.out.keep HB.out).keep (below_alloc V (.cells (madeCells #[.int .u8 0] b.length) 5))))
    have hml : (madeCells #[.int .u8 0] b.length).toList.length = b.length := by rw [Array.length_toList, size_madeCells]
    have HN : Hid ((kcl .u8 b).length = Nat.min b.length b.length) := Lib.hid (by rw [kcl_len]; exact (Nat.min_self _).symm)
    have HFit : Hid (0 + (kcl .u8 b).length ≤ (madeCells #[.int .u8 0] b.length).toList.length) := Lib.hid (by rw [kcl_len, hml]; omega)
    have HSp : Hid (splice (madeCells #[.int .u8 0] b.length).toList 0 (kcl .u8 b) = kcl .u8 b) := Lib.hid (by unfold splice; rw [List.take_zero, List.nil_append, List.drop_of_length_le (by rw [hml, kcl_len]; omega), List.append_nil])
    have HPos : Hid (0 < (kcl .u8 b).length → (some ⟨w.heap.size + 1 + 1, 0, none⟩ : Option Addr) = some ⟨w.heap.size + 1 + 1, 0, none⟩ ∧ ∃ ad, (some ⟨g, o, none⟩ : Option Addr) = some ad ∧ ∀ j v, (kcl .u8 b)[j]? = some v → (V.alloc (.cells (madeCells #[.int .u8 0] b.length) 5)).cell? (ad.add j) = some v) := Lib.hid (by
      intro _
      obtain ⟨q', c', e, h⟩ := HKV.out
      cases e
      obtain ⟨k, off, e, h2⟩ := h (by omega)
      cases e
      exact ⟨rfl, _, rfl, h2⟩)
    have HG0 := Lib.hid hg0
    have HBs : Hid (V.heap.size ≤ w.heap.size + 1 + 1) := Lib.hid (by rw [hVs]; exact Nat.le_refl _)
    clear hVs hml hg0 HKV
    go_upto_region 6 with (with_reducible refine wpList_copy_splice rfl (.tmp 14) (.tmp 16) 62 62 rfl 5 rfl (by kernel_rfl) _ _ b.length b.length b.length c rfl rfl (w.heap.size + 1 + 1) 0 (madeCells #[.int .u8 0] b.length).toList 5 HG0.out (kcl .u8 b) HN.out HPos.out HFit.out (kcl_one _ _) V.heap.size V (below_alloc _ _) HBs.out ?_)
    intro w4 hg4 hb4
    have HKL : Hid (w4.ownsRow w.heap.size 5 1 (.slice (some ⟨w.heap.size + 1 + 1, 0, none⟩) b.length b.length) b.length (kcl .u8 b)) := Lib.hid (own_rowN hg4.out HSp.out (by omega) hl)
    have HB4 := Lib.hid hb4
    have HP4 := Lib.hid (HP.out.keep hb4)
    have HZ4 := Lib.hid (HZ.out.keep hb4)
    clear hg4 hb4 HN HFit HSp HPos HG0 c0 HP HZ
    go_upto_region 6 with fail
    obtain ⟨c0, c1, c2, c3⟩ := HP4.out.cells
    obtain ⟨f0, f1, f2, f3⟩ := HP4.out.frozen
    have hne : w.heap.size ≠ w.heap.size + 1 := by omega
    have HP5 := Lib.hid (HP4.out.set3 (.slice (some ⟨w.heap.size + 1 + 1, 0, none⟩) b.length b.length))
    have HZ5 := Lib.hid (HZ4.out.other (Ne.symm hne) (o := 3) (B' := w.heap.size) (.slice (some ⟨w.heap.size + 1 + 1, 0, none⟩) b.length b.length))
    have HB5 := Lib.hid ((below_after HB.out HB4.out).setCell (p := ⟨w.heap.size, 3, none⟩) (Nat.le_refl _) (.slice (some ⟨w.heap.size + 1 + 1, 0, none⟩) b.length b.length))
    have HKL5 : Hid ((w4.setCell ⟨w.heap.size, 3, none⟩ (.slice (some ⟨w.heap.size + 1 + 1, 0, none⟩) b.length b.length)).ownsRow w.heap.size 5 1 (.slice (some ⟨w.heap.size + 1 + 1, 0, none⟩) b.length b.length) b.length (kcl .u8 b)) := Lib.hid (own_setO HKL.out (by omega))
    go_upto_region 7 with fail
    generalize w4.setCell ⟨w.heap.size, 3, none⟩ (.slice (some ⟨w.heap.size + 1 + 1, 0, none⟩) b.length b.length) = w5 at *
    clear c0 c1 c2 c3 f0 f1 f2 f3 HP4 HZ4 HB4 HKL
    obtain ⟨c0, c1, c2, c3⟩ := HP5.out.cells
    obtain ⟨z0, z1, z2, z3⟩ := HZ5.out.cells
    obtain ⟨f0, f1, f2, f3⟩ := HZ5.out.frozen
    have HB6 := Lib.hid (below_put4 HB5.out (B := w.heap.size + 1) (by omega) (.int .i64 num) (.int .i64 kind) (.int .u64 (n : Int)) (.slice (some ⟨w.heap.size + 1 + 1, 0, none⟩) b.length b.length))
    obtain ⟨d0, d1, d2, d3⟩ := (HZ5.out.put (.int .i64 num) (.int .i64 kind) (.int .u64 (n : Int)) (.slice (some ⟨w.heap.size + 1 + 1, 0, none⟩) b.length b.length)).cells
    have HKL6 : Hid ((put4 w5 (w.heap.size + 1) (.int .i64 num) (.int .i64 kind) (.int .u64 (n : Int)) (.slice (some ⟨w.heap.size + 1 + 1, 0, none⟩) b.length b.length)).ownsRow w.heap.size 5 1 (.slice (some ⟨w.heap.size + 1 + 1, 0, none⟩) b.length b.length) b.length (kcl .u8 b)) := Lib.hid (own_setO (own_setO (own_setO (own_setO HKL5.out (by omega)) (by omega)) (by omega)) (by omega))
    have HD0 := Lib.hid d0
    have HD1 := Lib.hid d1
    have HD2 := Lib.hid d2
    have HD3 := Lib.hid d3
    clear d0 d1 d2 d3
    unfold put4 at HB6 HD0 HD1 HD2 HD3 HKL6
    go_wp2_with fail
    refine bodyPost_ret (v := .agg #[.int .i64 num, .int .i64 kind, .int .u64 (n : Int), .slice (some ⟨w.heap.size + 1 + 1, 0, none⟩) b.length b.length]) (by simp [results, Try.results80, go_sem, HD0.out, HD1.out, HD2.out, HD3.out]) rfl ?_
    exact ⟨_, _, rfl, HKL6.out, HB6.out⟩
end Go.Proofs.Ytcbgknlklpandaa
