/- Walks of proto: Read. -/
import Derived.Test.YtcbgknlklpandaaProH
namespace Go.Proofs.Ytcbgknlklpandaa
open Go.RowKit Go.Sort

/-- A row of bytes does not lie in a block of a field. -/
theorem kl_put4 {W : World} {v : Value} {B : Nat} {b : List Nat} {a0 a1 : Int} {m0 : Value} {m1 : Value} {u0 u1 u2 u3 : Value} (h : KL .u8 W v b) (hF : F4 W B 77 (.int .i64 a0) (.int .i64 a1) m0 m1) (h2 : ∃ n : Int, m0 = .int .u64 n) (h3 : ∃ q n c, m1 = .slice q n c) : KL .u8 (put4 W B u0 u1 u2 u3) v b := by
  obtain ⟨q, c, e, hl, hx⟩ := h
  obtain ⟨n2, rfl⟩ := h2
  obtain ⟨q3, n3, c3, rfl⟩ := h3
  obtain ⟨c0, c1, c2, c3'⟩ := hF.cells
  have hnot : ∀ i (hi : i < b.length) g o, q = some ⟨g, o, none⟩ → W.cell? ⟨g, o + i, none⟩ = some (.int .u8 (b[i] : Int)) → g ≠ B := by
    intro i hi g o _ hc hg
    subst hg
    have hlt : o + i < 4 := by
      rcases Nat.lt_or_ge (o + i) 4 with h | h
      · exact h
      · unfold F4 at hF
        simp [World.cell?, hF] at hc
        rw [List.getElem?_eq_none (by simpa using h)] at hc
        cases hc
    have h4 : o + i = 0 ∨ o + i = 1 ∨ o + i = 2 ∨ o + i = 3 := by omega
    rcases h4 with h4 | h4 | h4 | h4
    · rw [h4, c0] at hc; simp at hc
    · rw [h4, c1] at hc; simp at hc
    · rw [h4, c2] at hc; simp at hc
    · rw [h4, c3'] at hc; simp at hc
  refine ⟨q, c, e, hl, fun i hi => ?_⟩
  obtain ⟨g, o, e2, hc⟩ := hx i hi
  have hne := hnot i hi g o e2 hc
  refine ⟨g, o, e2, ?_⟩
  unfold put4
  rw [World.cell?_setCell_far _ _ _ _ (by show B ≠ g; omega), World.cell?_setCell_far _ _ _ _ (by show B ≠ g; omega), World.cell?_setCell_far _ _ _ _ (by show B ≠ g; omega), World.cell?_setCell_far _ _ _ _ (by show B ≠ g; omega)]
  exact hc
theorem rdF_blen {b : List Nat} (hb : ∀ x ∈ b, x < 256) : (rdF b).1.b.length ≤ b.length := by
  by_cases h : (rdF b).2.2 = 0
  · have hr : rdF b = ((rdF b).1, (rdF b).2.1, 0) := by rw [← h]
    exact (rdF_ok hb hr).2.2.2.2.2.1
  · have : (rdF b).1 = fdZ := by
      unfold rdF at h ⊢
      split
      · rfl
      · rename_i h1
        rw [if_neg h1] at h
        split
        · rfl
        · rename_i h2
          rw [if_neg h2] at h
          split
          · rfl
          · rename_i h3
            rw [if_neg h3] at h
            split
            · rename_i h4
              rw [if_pos h4] at h
              split
              · rfl
              · rename_i h5
                rw [if_neg h5] at h
                exact absurd rfl h
            · rename_i h4
              rw [if_neg h4] at h
              split
              · rename_i h5
                rw [if_pos h5] at h
                split
                · rfl
                · rename_i h6
                  rw [if_neg h6] at h
                  split
                  · rfl
                  · rename_i h7
                    rw [if_neg h7] at h
                    exact absurd rfl h
              · rename_i h5
                rw [if_neg h5] at h
                split
                · rfl
                · rename_i h6
                  rw [if_neg h6] at h
                  exact absurd rfl h
    rw [this]
    exact Nat.zero_le _
def Rd8Post (b : List Nat) (w : World) (e : Ending) (w' : World) : Prop :=
  ∃ q c, e = .returned (.tuple #[.agg #[.int .i64 (rdF b).1.num, .int .i64 (rdF b).1.kind, .int .u64 ((rdF b).1.n : Int), .slice q (rdF b).1.b.length c], .int .i64 ((rdF b).2.1 : Int), .int .i64 ((rdF b).2.2 : Int)]) ∧ KL .u8 w' (.slice q (rdF b).1.b.length c) (rdF b).1.b ∧ Below w.heap.size w w'
set_option maxRecDepth 100000 in
set_option maxHeartbeats 1000000 in
theorem pread_any {w : World} {v : Value} {b : List Nat} (hK : KL .u8 w v b) (hb : ∀ x ∈ b, x < 256) (hl : b.length ≤ 1000000) : Calls Try.prog 39 #[v] w (Rd8Post b w) := by
  have hmx : Try.prog.follows .mixedOrders = true := by kernel_rfl
  have HL := Lib.hid (fun V (h : KL .u8 V v b) => plook_any h hb hl)
  have HO := Lib.hid (fun V q c (h : KL .u8 V (.slice q (rdF b).1.b.length c) (rdF b).1.b) => pown_any h (Nat.le_trans (rdF_blen hb) hl))
  have HK := Lib.hid hK
  have HZ := Lib.hid (F4.new w 77 (.int .i64 0) (.int .i64 0) (.int .u64 0) (.slice none 0 0))
  unfold LkPost at HL
  unfold Rd8Post
  unfold OwPost8 at HO
  generalize rdF b = r at *
  obtain ⟨f, k, e⟩ := r
  dsimp only at *
  clear hK hb
  go_enter Try.func39, Try.ntmps39
  go_wp2_with fail
  refine (HL.out _ (HK.out.keep (below_alloc _ _))).mono ?_
  rintro en w1 ⟨q, c, rfl, hkl, hb1⟩
  have HB1 := Lib.hid (below_after (below_alloc w (.cells #[.int .i64 0, .int .i64 0, .int .u64 0, .slice none 0 0] 77)) hb1)
  have HK1 := Lib.hid (hkl w1 ((HK.out.keep (below_alloc _ _)).keep hb1))
  have HZ1 := Lib.hid (HZ.out.keep hb1)
  clear hkl hb1 HL HK HZ
  go_upto_region 2 with fail
  have HB2 := Lib.hid (below_after HB1.out (below_alloc w1 (.cells #[.int .i64 f.num, .int .i64 f.kind, .int .u64 (f.n : Int), .slice q f.b.length c] 77)))
  have HK2 := Lib.hid (HK1.out.keep (below_alloc w1 (.cells #[.int .i64 f.num, .int .i64 f.kind, .int .u64 (f.n : Int), .slice q f.b.length c] 77)))
  have HZ2 := Lib.hid (HZ1.out.keep (below_alloc w1 (.cells #[.int .i64 f.num, .int .i64 f.kind, .int .u64 (f.n : Int), .slice q f.b.length c] 77)))
  clear HB1 HK1 HZ1
  go_wp2_with fail
  refine (HO.out _ q c HK2.out).mono ?_
  rintro en w3 ⟨q3, c3, rfl, hk3, hb3⟩
  have hk3 := kl_own rfl hk3
  have HB3 := Lib.hid (below_after HB2.out hb3)
  have HZ3 := Lib.hid (HZ2.out.keep hb3)
  have HK3 := Lib.hid hk3
  clear hb3 hk3 HB2 HK2 HZ2 HO
  obtain ⟨z0, z1, z2, z3⟩ := HZ3.out.cells
  obtain ⟨f0, f1, f2, f3⟩ := HZ3.out.frozen
  have HB6 := Lib.hid (below_put4 HB3.out (B := w.heap.size) (Nat.le_refl _) (.int .i64 f.num) (.int .i64 f.kind) (.int .u64 (f.n : Int)) (.slice q3 f.b.length c3))
  obtain ⟨d0, d1, d2, d3⟩ := (HZ3.out.put (.int .i64 f.num) (.int .i64 f.kind) (.int .u64 (f.n : Int)) (.slice q3 f.b.length c3)).cells
  have HK6 : Hid (KL .u8 (put4 w3 w.heap.size (.int .i64 f.num) (.int .i64 f.kind) (.int .u64 (f.n : Int)) (.slice q3 f.b.length c3)) (.slice q3 f.b.length c3) f.b) := Lib.hid (kl_put4 HK3.out HZ3.out ⟨0, rfl⟩ ⟨none, 0, 0, rfl⟩)
  have HD0 := Lib.hid d0
  have HD1 := Lib.hid d1
  have HD2 := Lib.hid d2
  have HD3 := Lib.hid d3
  clear d0 d1 d2 d3
  unfold put4 at HB6 HD0 HD1 HD2 HD3 HK6
  go_wp2_with fail
  refine bodyPost_ret (v := .tuple #[.agg #[.int .i64 f.num, .int .i64 f.kind, .int .u64 (f.n : Int), .slice q3 f.b.length c3], .int .i64 (k : Int), .int .i64 (e : Int)]) (by simp [results, Try.results39, go_sem, HD0.out, HD1.out, HD2.out, HD3.out]) rfl ?_
  exact ⟨_, _, rfl, HK6.out, HB6.out⟩
end Go.Proofs.Ytcbgknlklpandaa
