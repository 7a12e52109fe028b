/- Walks of proto: look. -/
import Derived.Test.YtcbgknlklpandaaProB
namespace Go.Proofs.Ytcbgknlklpandaa
open Go.RowKit Go.Sort

/-- A block of four cells. -/
def F4 (W : World) (B : Nat) (T : TypeId) (v0 v1 v2 v3 : Value) : Prop := W.heap[B]? = some (.cells #[v0, v1, v2, v3] T (0, 0))
theorem F4.cells {W : World} {B : Nat} {T : TypeId} {v0 v1 v2 v3 : Value} (h : F4 W B T v0 v1 v2 v3) : W.cell? ⟨B, 0, none⟩ = some v0 ∧ W.cell? ⟨B, 1, none⟩ = some v1 ∧ W.cell? ⟨B, 2, none⟩ = some v2 ∧ W.cell? ⟨B, 3, none⟩ = some v3 := by
  unfold F4 at h
  exact ⟨by simp [World.cell?, h], by simp [World.cell?, h], by simp [World.cell?, h], by simp [World.cell?, h]⟩
theorem F4.frozen {W : World} {B : Nat} {T : TypeId} {v0 v1 v2 v3 : Value} (h : F4 W B T v0 v1 v2 v3) : W.frozen? ⟨B, 0, none⟩ = false ∧ W.frozen? ⟨B, 1, none⟩ = false ∧ W.frozen? ⟨B, 2, none⟩ = false ∧ W.frozen? ⟨B, 3, none⟩ = false := by
  unfold F4 at h
  exact ⟨by simp [World.frozen?, h], by simp [World.frozen?, h], by simp [World.frozen?, h], by simp [World.frozen?, h]⟩
theorem F4.lt {W : World} {B : Nat} {T : TypeId} {v0 v1 v2 v3 : Value} (h : F4 W B T v0 v1 v2 v3) : B < W.heap.size := (Array.getElem?_eq_some_iff.1 h).1
theorem F4.new (W : World) (T : TypeId) (v0 v1 v2 v3 : Value) : F4 (W.alloc (.cells #[v0, v1, v2, v3] T)) W.heap.size T v0 v1 v2 v3 := by
  show (W.heap.push _)[W.heap.size]? = _
  simp
theorem F4.keep {W W1 : World} {B : Nat} {T : TypeId} {v0 v1 v2 v3 : Value} (h : F4 W B T v0 v1 v2 v3) (hb : Below W.heap.size W W1) : F4 W1 B T v0 v1 v2 v3 := (hb.block B h.lt).trans h
theorem F4.other {W : World} {B B' o : Nat} {T : TypeId} {v0 v1 v2 v3 : Value} (h : F4 W B T v0 v1 v2 v3) (hne : B ≠ B') (u : Value) : F4 (W.setCell ⟨B', o, none⟩ u) B T v0 v1 v2 v3 := (Below.heap_setCell W ⟨B', o, none⟩ u B hne).trans h
theorem F4.set {W : World} {B o : Nat} {T : TypeId} {v0 v1 v2 v3 : Value} (u : Value) (h : F4 W B T v0 v1 v2 v3) : (W.setCell ⟨B, o, none⟩ u).heap[B]? = some (.cells (#[v0, v1, v2, v3].setIfInBounds o u) T (0, 0)) := by
  obtain ⟨hlt, hk⟩ := Array.getElem?_eq_some_iff.1 h
  show (W.heap.modify B _)[B]? = _
  rw [Array.getElem?_eq_getElem (by rw [Array.size_modify]; exact hlt), Array.getElem_modify_self, hk]
  rfl
theorem F4.set0 {W : World} {B : Nat} {T : TypeId} {v0 v1 v2 v3 : Value} (u : Value) (h : F4 W B T v0 v1 v2 v3) : F4 (W.setCell ⟨B, 0, none⟩ u) B T u v1 v2 v3 := F4.set (o := 0) u h
theorem F4.set1 {W : World} {B : Nat} {T : TypeId} {v0 v1 v2 v3 : Value} (u : Value) (h : F4 W B T v0 v1 v2 v3) : F4 (W.setCell ⟨B, 1, none⟩ u) B T v0 u v2 v3 := F4.set (o := 1) u h
theorem F4.set2 {W : World} {B : Nat} {T : TypeId} {v0 v1 v2 v3 : Value} (u : Value) (h : F4 W B T v0 v1 v2 v3) : F4 (W.setCell ⟨B, 2, none⟩ u) B T v0 v1 u v3 := F4.set (o := 2) u h
theorem F4.set3 {W : World} {B : Nat} {T : TypeId} {v0 v1 v2 v3 : Value} (u : Value) (h : F4 W B T v0 v1 v2 v3) : F4 (W.setCell ⟨B, 3, none⟩ u) B T v0 v1 v2 u := F4.set (o := 3) u h
/-- Four stores into one block. -/
def put4 (W : World) (B : Nat) (v0 v1 v2 v3 : Value) : World := (((W.setCell ⟨B, 0, none⟩ v0).setCell ⟨B, 1, none⟩ v1).setCell ⟨B, 2, none⟩ v2).setCell ⟨B, 3, none⟩ v3
theorem F4.put {W : World} {B : Nat} {T : TypeId} {v0 v1 v2 v3 : Value} (h : F4 W B T v0 v1 v2 v3) (u0 u1 u2 u3 : Value) : F4 (put4 W B u0 u1 u2 u3) B T u0 u1 u2 u3 := (((h.set0 u0).set1 u1).set2 u2).set3 u3
theorem F4.putO {W : World} {B B' : Nat} {T : TypeId} {v0 v1 v2 v3 : Value} (h : F4 W B T v0 v1 v2 v3) (hne : B ≠ B') (u0 u1 u2 u3 : Value) : F4 (put4 W B' u0 u1 u2 u3) B T v0 v1 v2 v3 := (((h.other hne u0).other hne u1).other hne u2).other hne u3
theorem below_put4 {w W : World} (hb : Below w.heap.size w W) {B : Nat} (hB : w.heap.size ≤ B) (u0 u1 u2 u3 : Value) : Below w.heap.size w (put4 W B u0 u1 u2 u3) := (((hb.setCell (p := ⟨B, 0, none⟩) hB u0).setCell (p := ⟨B, 1, none⟩) hB u1).setCell (p := ⟨B, 2, none⟩) hB u2).setCell (p := ⟨B, 3, none⟩) hB u3
/-- A jump ahead, with a frame that is known and a world of which something is. -/
theorem wp_scope_onceS {P : Program} {a : Act} {w : World} {Q : Exit → Act → World → Prop} {c rest : Code} (l : Nat) (A : Act) (S : World → Prop) (hf : findLabel c l = some rest)
    (first : c.wp P (Exit.jump l (fun a' w' => A = a' ∧ S w') Q) a w) (pass : ∀ W, S W → rest.wp P (Exit.jump l (fun _ _ => False) Q) A W) : (Code.scope c).wp P Q a w := by
  refine wp_scope_jumps l (fun a' w' => A = a' ∧ S w') (fun _ _ => 0) hf first ?_
  rintro a' w' ⟨rfl, hS⟩
  refine Code.wp_mono ?_ (pass w' hS)
  intro e a w h
  cases e <;> first | exact h | exact h.2.elim
theorem kyE_no {u : Nat} (h : kyE u = 0) : ¬ (u / 8 < 1 ∨ 536870911 < u / 8) ∧ kdB ((u % 8 : Nat) : Int) = true := by
  unfold kyE at h
  split at h
  · omega
  · rename_i h1
    split at h
    · omega
    · rename_i h2
      have := numB_yes.1 (by simpa using h1)
      exact ⟨by omega, by simpa using h2⟩
theorem rdF_e1 {b : List Nat} (h : (rd b).2.2 ≠ 0) : rdF b = (fdZ, 0, (rd b).2.2) := by unfold rdF; rw [if_pos h]
theorem rdF_e2 {b : List Nat} (h : (rd b).2.2 = 0) (k : kyE (rd b).1 ≠ 0) : rdF b = (fdZ, 0, kyE (rd b).1) := by
  unfold rdF
  rw [if_neg (by omega)]
  unfold kyE at k ⊢
  generalize (rd b).1 / 8 = a at *
  generalize (((rd b).1 % 8 : Nat) : Int) = r at *
  cases hn : numB (a : Int)
  · have := numB_no.1 hn
    rw [if_pos rfl, if_pos (by omega)]
  · have := numB_yes.1 hn
    cases hk : kdB r
    · rw [if_neg (by omega), if_pos rfl, if_neg (by simp), if_pos rfl]
    · rw [hn, hk, if_neg (by simp), if_neg (by simp)] at k
      exact absurd rfl k
theorem rdF_n {b : List Nat} (h : (rd b).2.2 = 0) (k : kyE (rd b).1 = 0) (h0 : (rd b).1 % 8 = 0) : rdF b = if (rd (b.drop (rd b).2.1)).2.2 ≠ 0 then (fdZ, 0, (rd (b.drop (rd b).2.1)).2.2) else (⟨((rd b).1 / 8 : Nat), 0, (rd (b.drop (rd b).2.1)).1, []⟩, (rd b).2.1 + (rd (b.drop (rd b).2.1)).2.1, 0) := by
  obtain ⟨k1, k2⟩ := kyE_no k
  unfold rdF
  rw [if_neg (by omega), if_neg k1, if_neg (by rw [k2]; simp), if_pos h0]
theorem rdF_b {b : List Nat} (h : (rd b).2.2 = 0) (k : kyE (rd b).1 = 0) (h0 : (rd b).1 % 8 = 2) : rdF b = if (cnt (b.drop (rd b).2.1)).2.2 ≠ 0 then (fdZ, 0, (cnt (b.drop (rd b).2.1)).2.2) else (⟨((rd b).1 / 8 : Nat), 2, 0, (cnt (b.drop (rd b).2.1)).1⟩, (rd b).2.1 + (cnt (b.drop (rd b).2.1)).2.1, 0) := by
  obtain ⟨k1, k2⟩ := kyE_no k
  unfold rdF cnt
  rw [if_neg (by omega), if_neg k1, if_neg (by rw [k2]; simp), if_neg (by omega), if_pos h0, List.length_drop]
  by_cases h2 : (rd (b.drop (rd b).2.1)).2.2 = 0
  · by_cases h3 : b.length - (rd b).2.1 - (rd (b.drop (rd b).2.1)).2.1 < (rd (b.drop (rd b).2.1)).1
    · simp [h2, h3]
    · simp [h2, h3, List.drop_drop, Nat.add_assoc]
  · simp [h2]
theorem rdF_w {b : List Nat} (h : (rd b).2.2 = 0) (k : kyE (rd b).1 = 0) (h0 : (rd b).1 % 8 ≠ 0) (h2 : (rd b).1 % 8 ≠ 2) : rdF b = if (b.drop (rd b).2.1).length < wid (((rd b).1 % 8 : Nat) : Int) then (fdZ, 0, 4) else (⟨((rd b).1 / 8 : Nat), ((rd b).1 % 8 : Nat), unl ((b.drop (rd b).2.1).take (wid (((rd b).1 % 8 : Nat) : Int))), []⟩, (rd b).2.1 + wid (((rd b).1 % 8 : Nat) : Int), 0) := by
  obtain ⟨k1, k2⟩ := kyE_no k
  unfold rdF
  rw [if_neg (by omega), if_neg k1, if_neg (by rw [k2]; simp), if_neg h0, if_neg h2, List.length_drop]
def LkPost (v : Value) (b : List Nat) (w : World) (e : Ending) (w' : World) : Prop :=
  ∃ q c, e = .returned (.tuple #[.agg #[.int .i64 (rdF b).1.num, .int .i64 (rdF b).1.kind, .int .u64 ((rdF b).1.n : Int), .slice q (rdF b).1.b.length c], .int .i64 ((rdF b).2.1 : Int), .int .i64 ((rdF b).2.2 : Int)]) ∧ (∀ V, KL .u8 V v b → KL .u8 V (.slice q (rdF b).1.b.length c) (rdF b).1.b) ∧ Below w.heap.size w w'
theorem lk_bad {v : Value} {b : List Nat} {w w' : World} {e : Nat} (h : rdF b = (fdZ, 0, e)) (hb : Below w.heap.size w w') : LkPost v b w (.returned (.tuple #[.agg #[.int .i64 0, .int .i64 0, .int .u64 0, .slice none 0 0], .int .i64 0, .int .i64 (e : Int)])) w' := by
  unfold LkPost
  rw [h]
  exact ⟨none, 0, rfl, fun _ _ => kl_none _ _ _ _, hb⟩
/-- look's state: what is to be answered, and the field. -/
structure Lk (w W : World) (v0 v1 v2 v3 : Value) : Prop where
  bl : Below w.heap.size w W
  z : F4 W w.heap.size 77 (.int .i64 0) (.int .i64 0) (.int .u64 0) (.slice none 0 0)
  f : F4 W (w.heap.size + 1) 77 v0 v1 v2 v3
theorem Lk.keep {w W W1 : World} {v0 v1 v2 v3 : Value} (h : Lk w W v0 v1 v2 v3) (hb : Below W.heap.size W W1) : Lk w W1 v0 v1 v2 v3 := ⟨below_after h.bl hb, h.z.keep hb, h.f.keep hb⟩
theorem Lk.start (w : World) : Lk w ((w.alloc (.cells #[.int .i64 0, .int .i64 0, .int .u64 0, .slice none 0 0] 77)).alloc (.cells #[.int .i64 0, .int .i64 0, .int .u64 0, .slice none 0 0] 77)) (.int .i64 0) (.int .i64 0) (.int .u64 0) (.slice none 0 0) :=
  ⟨below_after (below_alloc _ _) (below_alloc _ _), (F4.new w _ _ _ _ _).keep (below_alloc _ _), by
    have h := F4.new (w.alloc (.cells #[.int .i64 0, .int .i64 0, .int .u64 0, .slice none 0 0] 77)) 77 (.int .i64 0) (.int .i64 0) (.int .u64 0) (.slice none 0 0)
    simpa using h⟩
theorem Lk.put {w W : World} {v0 v1 v2 v3 : Value} (h : Lk w W v0 v1 v2 v3) (u0 u1 u2 u3 : Value) : Lk w (put4 W (w.heap.size + 1) u0 u1 u2 u3) u0 u1 u2 u3 :=
  ⟨below_put4 h.bl (by omega) _ _ _ _, h.z.putO (by omega) _ _ _ _, h.f.put _ _ _ _⟩
theorem Lk.set2 {w W : World} {v0 v1 v2 v3 : Value} (h : Lk w W v0 v1 v2 v3) (u : Value) : Lk w (W.setCell ⟨w.heap.size + 1, 2, none⟩ u) v0 v1 u v3 :=
  ⟨h.bl.setCell (p := ⟨w.heap.size + 1, 2, none⟩) (by show w.heap.size ≤ w.heap.size + 1; omega) u, h.z.other (by omega) u, h.f.set2 u⟩
theorem Lk.set3 {w W : World} {v0 v1 v2 v3 : Value} (h : Lk w W v0 v1 v2 v3) (u : Value) : Lk w (W.setCell ⟨w.heap.size + 1, 3, none⟩ u) v0 v1 v2 u :=
  ⟨h.bl.setCell (p := ⟨w.heap.size + 1, 3, none⟩) (by show w.heap.size ≤ w.heap.size + 1; omega) u, h.z.other (by omega) u, h.f.set3 u⟩
theorem pkeyed_ok {u : Nat} (hu : u < 18446744073709551616) (h : kyE u = 0) {a r : Nat} (ha : u / 8 = a) (hr : u % 8 = r) (w : World) : Calls Try.prog 113 #[.int .u64 (u : Int)] w fun e w' => e = .returned (.tuple #[.agg #[.int .i64 (a : Int), .int .i64 (r : Int), .int .u64 0, .slice none 0 0], .int .i64 0]) ∧ Below w.heap.size w w' := by
  refine (pkeyed_any u hu w).mono ?_
  rintro e w' ⟨a', k', rfl, h2, _, hb⟩
  obtain ⟨rfl, rfl⟩ := h2 h
  rw [h, ha, hr]
  exact ⟨rfl, hb⟩
theorem pkeyed_bad {u : Nat} (hu : u < 18446744073709551616) {ee : Nat} (h : kyE u = ee) (h0 : ee ≠ 0) (w : World) : Calls Try.prog 113 #[.int .u64 (u : Int)] w fun e w' => e = .returned (.tuple #[.agg #[.int .i64 0, .int .i64 0, .int .u64 0, .slice none 0 0], .int .i64 (ee : Int)]) ∧ Below w.heap.size w w' := by
  refine (pkeyed_any u hu w).mono ?_
  rintro e w' ⟨a', k', rfl, _, h2, hb⟩
  obtain ⟨rfl, rfl⟩ := h2 (by rw [h]; exact h0)
  rw [h]
  exact ⟨rfl, hb⟩
theorem rd_k10 (b : List Nat) (hb : ∀ x ∈ b, x < 256) : (rd b).2.1 ≤ 10 := by
  by_cases h : (rd b).2.2 = 0
  · have hr : rd b = ((rd b).1, (rd b).2.1, 0) := by rw [← h]
    exact (rd_ok hr hb).2.2.1
  · unfold rd at h ⊢
    split
    · exact Nat.zero_le _
    · split
      · exact Nat.zero_le _
      · split
        · exact Nat.zero_le _
        · split
          · exact Nat.zero_le _
          · rename_i h1 h2 h3 h4
            rw [if_neg h1, if_neg h2, if_neg h3, if_neg h4] at h
            exact absurd rfl h
theorem rd_lt {b : List Nat} {k : Nat} (h : (rd (b.drop k)).2.2 = 0) : k < b.length := by
  rcases Nat.lt_or_ge k b.length with h1 | h1
  · exact h1
  · rw [List.drop_of_length_le h1] at h
    exact absurd h (by decide)
set_option maxRecDepth 100000 in
set_option maxHeartbeats 4000000 in
theorem look_a {w : World} {v : Value} {b : List Nat} (hK : KL .u8 w v b) (hb : ∀ x ∈ b, x < 256) (hl : b.length ≤ 1000000) (he : (rd b).2.2 ≠ 0) : Calls Try.prog 84 #[v] w (LkPost v b w) := by
  have hmx : Try.prog.follows .mixedOrders = true := by kernel_rfl
  have HRd := Lib.hid (fun V (h : KL .u8 V v b) => rd_any h hb hl)
  have HK := Lib.hid hK
  have HS0 := Lib.hid (Lk.start w)
  have HF := Lib.hid (fun w' (h : Below w.heap.size w w') => lk_bad (v := v) (w := w) (w' := w') (rdF_e1 he) h)
  unfold RdPost at HRd
  generalize hrb : rd b = rb at *
  obtain ⟨n, k, e⟩ := rb
  dsimp only at *
  have hez : ¬ (e : Int) = 0 := by omega
  clear hrb
  go_enter Try.func84, Try.ntmps84
  go_wp2_with fail
  apply wp_scope_onceS (l := 0) (S := fun W => Below w.heap.size w W ∧ F4 W w.heap.size 77 (.int .i64 0) (.int .i64 0) (.int .u64 0) (.slice none 0 0)) (hf := rfl)
  case first =>
    go_wp2_with fail
    refine (HRd.out _ (HK.out.keep HS0.out.bl)).mono ?_
    rintro en w1 ⟨rfl, hb1⟩
    have HS1 := Lib.hid (HS0.out.keep hb1)
    clear hb1
    go_wp2_with fail
    go_step3
    exact ⟨rfl, rfl, HS1.out.bl, HS1.out.z⟩
  case pass =>
    rintro W ⟨hBl, hZ⟩
    obtain ⟨z0, z1, z2, z3⟩ := hZ.cells
    obtain ⟨y0, y1, y2, y3⟩ := hZ.frozen
    have HB := Lib.hid (below_put4 hBl (Nat.le_refl _) (.int .i64 0) (.int .i64 0) (.int .u64 0) (.slice none 0 0))
    obtain ⟨d0, d1, d2, d3⟩ := (hZ.put (.int .i64 0) (.int .i64 0) (.int .u64 0) (.slice none 0 0)).cells
    have HD0 := Lib.hid d0
    have HD1 := Lib.hid d1
    have HD2 := Lib.hid d2
    have HD3 := Lib.hid d3
    clear d0 d1 d2 d3 hBl hZ
    unfold put4 at *
    go_wp2_with fail
    refine bodyPost_ret (v := .tuple #[.agg #[.int .i64 0, .int .i64 0, .int .u64 0, .slice none 0 0], .int .i64 0, .int .i64 (e : Int)]) (by simp [results, Try.results84, go_sem, HD0.out, HD1.out, HD2.out, HD3.out]) rfl ?_
    exact HF.out _ HB.out
set_option maxRecDepth 100000 in
set_option maxHeartbeats 4000000 in
theorem look_b {w : World} {v : Value} {b : List Nat} (hK : KL .u8 w v b) (hb : ∀ x ∈ b, x < 256) (hl : b.length ≤ 1000000) (he : (rd b).2.2 = 0) (hE : kyE (rd b).1 ≠ 0) : Calls Try.prog 84 #[v] w (LkPost v b w) := by
  have hmx : Try.prog.follows .mixedOrders = true := by kernel_rfl
  have HRd := Lib.hid (fun V (h : KL .u8 V v b) => rd_any h hb hl)
  have HK := Lib.hid hK
  have HS0 := Lib.hid (Lk.start w)
  have hr : rd b = ((rd b).1, (rd b).2.1, 0) := by rw [← he]
  obtain ⟨t1, t2, t3, _, k5⟩ := rd_ok hr hb
  clear hr
  obtain ⟨qv, c, rfl, hlc, _⟩ := id hK
  obtain ⟨g, o, rfl, HG⟩ := hK.from t2 (by omega)
  clear hK
  have HKy := Lib.hid (fun V => pkeyed_bad k5 (ee := kyE (rd b).1) rfl hE V)
  have HF := Lib.hid (fun w' (h : Below w.heap.size w w') => lk_bad (v := .slice (some ⟨g, o, none⟩) b.length c) (w := w) (w' := w') (rdF_e2 he hE) h)
  unfold RdPost at HRd
  rw [he] at HRd
  generalize kyE (rd b).1 = ee at *
  generalize (rd b).1 = u at *
  generalize (rd b).2.1 = k at *
  have hez : ¬ (ee : Int) = 0 := by omega
  go_enter Try.func84, Try.ntmps84
  go_wp2_with fail
  apply wp_scope_onceS (l := 0) (S := fun W => Below w.heap.size w W ∧ F4 W w.heap.size 77 (.int .i64 0) (.int .i64 0) (.int .u64 0) (.slice none 0 0)) (hf := rfl)
  case first =>
    go_wp2_with fail
    refine (HRd.out _ (HK.out.keep HS0.out.bl)).mono ?_
    rintro en w1 ⟨rfl, hb1⟩
    have HS1 := Lib.hid (HS0.out.keep hb1)
    clear hb1
    go_wp2_with fail
    refine (HKy.out _).mono ?_
    rintro en w2 ⟨rfl, hb2⟩
    have HS2 := Lib.hid (HS1.out.keep hb2)
    obtain ⟨c0, c1, c2, c3⟩ := HS2.out.f.cells
    obtain ⟨g0, g1, g2, g3⟩ := HS2.out.f.frozen
    have HS3 := Lib.hid (HS2.out.put (.int .i64 0) (.int .i64 0) (.int .u64 0) (.slice none 0 0))
    clear hb2
    go_wp2_with fail
    go_step3
    exact ⟨rfl, rfl, HS3.out.bl, HS3.out.z⟩
  case pass =>
    rintro W ⟨hBl, hZ⟩
    obtain ⟨z0, z1, z2, z3⟩ := hZ.cells
    obtain ⟨y0, y1, y2, y3⟩ := hZ.frozen
    have HB := Lib.hid (below_put4 hBl (Nat.le_refl _) (.int .i64 0) (.int .i64 0) (.int .u64 0) (.slice none 0 0))
    obtain ⟨d0, d1, d2, d3⟩ := (hZ.put (.int .i64 0) (.int .i64 0) (.int .u64 0) (.slice none 0 0)).cells
    have HD0 := Lib.hid d0
    have HD1 := Lib.hid d1
    have HD2 := Lib.hid d2
    have HD3 := Lib.hid d3
    clear d0 d1 d2 d3 hBl hZ
    unfold put4 at *
    go_wp2_with fail
    refine bodyPost_ret (v := .tuple #[.agg #[.int .i64 0, .int .i64 0, .int .u64 0, .slice none 0 0], .int .i64 0, .int .i64 (ee : Int)]) (by simp [results, Try.results84, go_sem, HD0.out, HD1.out, HD2.out, HD3.out]) rfl ?_
    exact HF.out _ HB.out
end Go.Proofs.Ytcbgknlklpandaa
