/- Walks of the document's own heap: Push. -/
import Derived.Test.YtbdmmgplpndobaaHeapM
import Derived.Test.YtbdmmgplpndobaaHeapJ
namespace Go.Proofs.Ytbdmmgplpndobaa
open Go.RowKit Go.Sort Go.Deep

theorem infoR5 : (Try.prog.info? 36).map (fun i => (i.zero, i.size, i.bytes)) = some (some (.agg #[.int .i64 0, .int .i64 0, .int .i64 0]), 3, 24) := by kernel_rfl
theorem src_takeE {W : World} {q : Option Addr} {n c k : Nat} {L : List E3} (h : SrcO W (.slice q n c) n (enCells L)) (hk : k ≤ n) : SrcO W (.slice q k c) k (enCells (L.take k)) := by
  obtain ⟨q1, c1, e, h⟩ := h
  cases e
  refine ⟨q, c, rfl, fun hn => ?_⟩
  obtain ⟨g, o, e, hc⟩ := h (by omega)
  refine ⟨g, o, e, fun j u hj => hc j u ?_⟩
  have hL : enCells L = enCells (L.take k) ++ enCells (L.drop k) := by rw [← enCells_app, List.take_append_drop]
  rw [hL, List.getElem?_append_left (List.getElem?_eq_some_iff.1 hj).1]
  exact hj
theorem src_dropE {W : World} {g o n c k : Nat} {L : List E3} (h : SrcO W (.slice (some ⟨g, o, none⟩) n c) n (enCells L)) (hl : L.length = n) (hk : k ≤ n) : SrcO W (.slice (some ⟨g, o + k * 3, none⟩) (n - k) (c - k)) (n - k) (enCells (L.drop k)) := by
  obtain ⟨q1, c1, e, h⟩ := h
  cases e
  refine ⟨_, _, rfl, fun hn => ⟨g, o + k * 3, rfl, fun j u hj => ?_⟩⟩
  obtain ⟨g1, o1, e, hc⟩ := h (by omega)
  cases e
  have hL : enCells L = enCells (L.take k) ++ enCells (L.drop k) := by rw [← enCells_app, List.take_append_drop]
  have hT : (enCells (L.take k)).length = k * 3 := by rw [enCells_len, List.length_take, Nat.min_eq_left (by omega)]
  have := hc (k * 3 + j) u (by rw [hL, List.getElem?_append_right (by omega), hT, Nat.add_sub_cancel_left]; exact hj)
  rw [add_at] at this ⊢
  rw [Nat.add_assoc]; exact this
theorem src_blkE {W : World} {k : Nat} {T : TypeId} {e1 e2 e3 : Int} (h : W.heap[k]? = some (.cells #[.int .i64 e1, .int .i64 e2, .int .i64 e3] T)) : SrcO W (.slice (some ⟨k, 0, none⟩) 1 1) 1 (encE3l (e1, e2, e3)) :=
  own_srcO (T := T) (base := 0) (size := 3) ⟨rfl, .inr ⟨k, 1, _, rfl, Nat.zero_le _, h, Nat.le_refl _, by unfold maxLen; omega, rfl, rfl⟩⟩
theorem keepS3 {W1 W w1 : World} {row : Option Nat} {g : Nat} {v v' v2 : Value} (hg : W.grownBy w1 row) (h : W.cell? ⟨g, 0, none⟩ = some v ∧ W.cell? ⟨g, 1, none⟩ = some v' ∧ W.cell? ⟨g, 2, none⟩ = some v2 ∧ Below W1.heap.size W1 W) (hr : ∀ q, row = some q → W1.heap.size ≤ q) (hgl : g < W1.heap.size) :
    w1.cell? ⟨g, 0, none⟩ = some v ∧ w1.cell? ⟨g, 1, none⟩ = some v' ∧ w1.cell? ⟨g, 2, none⟩ = some v2 ∧ Below W1.heap.size W1 w1 := by
  have hb : Below W1.heap.size W w1 := (Below.refl _ _).grown hg h.2.2.2.size (fun q hq => hr q hq)
  exact ⟨(hb.cell (p := ⟨g, 0, none⟩) hgl).trans h.1, (hb.cell (p := ⟨g, 1, none⟩) hgl).trans h.2.1, (hb.cell (p := ⟨g, 2, none⟩) hgl).trans h.2.2.1, h.2.2.2.trans hb⟩
theorem keepS3d {W1 W : World} {a0 a1 a2 : Addr} {v0 v1 v2 : Value} (h : W.cell? a0 = some v0 ∧ W.cell? a1 = some v1 ∧ W.cell? a2 = some v2 ∧ Below W1.heap.size W1 W) : W.drew.cell? a0 = some v0 ∧ W.drew.cell? a1 = some v1 ∧ W.drew.cell? a2 = some v2 ∧ Below W1.heap.size W1 W.drew := ⟨h.1, h.2.1, h.2.2.1, h.2.2.2.drew⟩
theorem keepS3a {W1 W : World} {o : Obj} {a0 a1 a2 : Addr} {v0 v1 v2 : Value} (h : W.cell? a0 = some v0 ∧ W.cell? a1 = some v1 ∧ W.cell? a2 = some v2 ∧ Below W1.heap.size W1 W) : (W.alloc o).cell? a0 = some v0 ∧ (W.alloc o).cell? a1 = some v1 ∧ (W.alloc o).cell? a2 = some v2 ∧ Below W1.heap.size W1 (W.alloc o) :=
  ⟨cell_later (below_alloc _ _) h.1, cell_later (below_alloc _ _) h.2.1, cell_later (below_alloc _ _) h.2.2.1, below_after h.2.2.2 (below_alloc _ _)⟩
def PutAtE (e : E3) (L : List E3) (k : Nat) : Prop := k ≤ L.length ∧ (∀ i (h : i < L.length), i < k → ltE e L[i] = false) ∧ (∀ h : k < L.length, ltE e L[k] = true)
def R5Post (e : E3) (L : List E3) (w : World) (en : Ending) (w' : World) : Prop :=
  ∃ k u, PutAtE e L k ∧ en = .returned u ∧ w'.ownsRow w.heap.size 36 3 u (L.take k ++ e :: L.drop k).length (enCells (L.take k ++ e :: L.drop k)) ∧ Below w.heap.size w w'
set_option maxRecDepth 100000 in
set_option maxHeartbeats 4000000 in
theorem r5push_any {w : World} {hb g mb : Nat} {v : Value} {L : List E3} (hI : EI w hb g mb v L) (hL : L.length ≤ 1000) (e : E3) : Calls Try.prog 11 #[v, encE3 e] w (R5Post e L w) := by
  have hmx : Try.prog.follows .mixedOrders = true := by kernel_rfl
  obtain ⟨i0, hi, hz0, hz1, hz2⟩ := info_parts infoR5
  obtain ⟨e1, e2, e3⟩ := e
  have HSr := Lib.hid hI.srcO
  have HI := Lib.hid hI
  obtain ⟨q, c, rfl, hc, hx⟩ := hI
  clear hx
  have HB0 := Lib.hid (below_alloc w (.cells #[.int .i64 e1, .int .i64 e2, .int .i64 e3] 36))
  have hE0 : (w.alloc (.cells #[.int .i64 e1, .int .i64 e2, .int .i64 e3] 36)).cell? ⟨w.heap.size, 0, none⟩ = some (.int .i64 e1) ∧ (w.alloc (.cells #[.int .i64 e1, .int .i64 e2, .int .i64 e3] 36)).cell? ⟨w.heap.size, 1, none⟩ = some (.int .i64 e2) ∧ (w.alloc (.cells #[.int .i64 e1, .int .i64 e2, .int .i64 e3] 36)).cell? ⟨w.heap.size, 2, none⟩ = some (.int .i64 e3) := by
    refine ⟨?_, ?_, ?_⟩ <;> go_simp
  have HE0 := Lib.hid hE0
  clear hE0
  have HI := Lib.hid (HI.out.frm (Frm.below HB0.out))
  have HSr := Lib.hid (HSr.out.keep HB0.out)
  unfold encE3
  go_enter Try.func11, Try.ntmps11
  go_upto_block 0 with fail
  generalize w.alloc (.cells #[.int .i64 e1, .int .i64 e2, .int .i64 e3] 36) = V at *
  generalize hkb : w.heap.size = kb at *
  go_cut [5] from 7 to 21 (fun s wx => ∃ k : Nat, s = .int .i64 (k : Int) ∧ PutAtE (e1, e2, e3) L k ∧ Hid (Below V.heap.size V wx))
  case first =>
    go_wp2_with fail
    go_loopg [5] L.length (fun gk s wx => ∃ k : Nat, gk = L.length - k ∧ s = .int .i64 (k : Int) ∧ k ≤ L.length ∧ Hid (∀ j (h : j < L.length), j < k → ltE (e1, e2, e3) L[j] = false) ∧ Hid (Below V.heap.size V wx))
    case atStart => exact ⟨0, rfl, rfl, Nat.zero_le _, Lib.hid (fun j h k => absurd k (by omega)), Lib.hid (Below.refl _ _)⟩
    case round =>
      obtain ⟨k, hgk, rfl, hk, HG, HW⟩ := hrel
      obtain ⟨b0, b1, b2⟩ := HE0.out
      have b0 := cell_later HW.out b0
      have b1 := cell_later HW.out b1
      have b2 := cell_later HW.out b2
      have r0 := fun d os => cell_regrown b0 d os
      have r1 := fun d os => cell_regrown b1 d os
      have r2 := fun d os => cell_regrown b2 d os
      clear b0 b1 b2
      by_cases hlt : k < L.length
      · obtain ⟨gr, o, rfl, d0, d1, d2⟩ := HI.out.at hlt
        have d0 := cell_later HW.out d0
        have d1 := cell_later HW.out d1
        have d2 := cell_later HW.out d2
        have x5 : (k : Int) < (L.length : Int) := by omega
        have HYf : Hid (ltE (e1, e2, e3) L[k] = false → ∀ j (h : j < L.length), j < k + 1 → ltE (e1, e2, e3) L[j] = false) := Lib.hid (fun hf j h hj => by
          by_cases c : j = k
          · subst c; exact hf
          · exact HG.out j h (by omega))
        have HYt : Hid (ltE (e1, e2, e3) L[k] = true → PutAtE (e1, e2, e3) L k) := Lib.hid (fun ht => ⟨hk, HG.out, fun _ => ht⟩)
        have hle : Hid (∀ b, ltE (e1, e2, e3) L[k] = b → ltE (e1, e2, e3) L[k] = b) := Lib.hid (fun _ h => h)
        obtain ⟨b, hbb⟩ : ∃ b, ltE (e1, e2, e3) L[k] = b := ⟨_, rfl⟩
        rw [hbb] at HYf HYt
        have HBB := Lib.hid hbb
        clear hbb hle HG
        generalize L[k] = m at *
        obtain ⟨m1, m2, m3⟩ := m
        have KC : Hid (∀ (d : Nat) (os : Array Obj), Calls Try.prog 18 #[.agg #[.int .i64 e1, .int .i64 e2, .int .i64 e3], .agg #[.int .i64 m1, .int .i64 m2, .int .i64 m3]] (grow (redrawn wr d) os) fun e w'' => e = .returned (.bool b) ∧ ∃ p : Regrown, w'' = grow (redrawn wr p.d) p.os) :=
          Lib.hid (fun d os => Calls.regrown_of ((r5less_any (e1, e2, e3) (m1, m2, m3) _).mono (fun e w' h => ⟨by rw [h.1, HBB.out], h.2⟩)))
        have s0 := fun d os => cell_regrown d0 d os
        have s1 := fun d os => cell_regrown d1 d os
        have s2 := fun d os => cell_regrown d2 d os
        simp only at s0 s1 s2
        clear d0 d1 d2 HBB
        cases b
        · have HYf2 := Lib.hid (HYf.out rfl)
          clear HYf HYt
          go_wp2_with fail
          refine wp_region_quiet_below (by assumption) (by kernel_rfl) ?_
          repeat (go_big_quiet_step (with_reducible exact KC.out _ _))
          refine wpQuiet_nil ?_
          rintro _ ⟨pg, rfl⟩
          have hb9 := Lib.hid (below_regrown wr pg.d pg.os)
          clear r0 r1 r2 s0 s1 s2 KC
          generalize grow (redrawn wr pg.d) pg.os = W2 at *
          go_wp2_with fail
          go_roundg (L.length - (k + 1))
          case measure => omega
          case rel => exact ⟨k + 1, rfl, by push_cast; rfl, by omega, HYf2, Lib.hid (below_after HW.out hb9.out)⟩
        · have HYt2 := Lib.hid (HYt.out rfl)
          clear HYf HYt
          go_wp2_with fail
          refine wp_region_quiet_below (by assumption) (by kernel_rfl) ?_
          repeat (go_big_quiet_step (with_reducible exact KC.out _ _))
          refine wpQuiet_nil ?_
          rintro _ ⟨pg, rfl⟩
          have hb9 := Lib.hid (below_regrown wr pg.d pg.os)
          clear r0 r1 r2 s0 s1 s2 KC
          generalize grow (redrawn wr pg.d) pg.os = W2 at *
          go_wp2_with fail
          go_meet
          exact ⟨k, rfl, HYt2.out, Lib.hid (below_after HW.out hb9.out)⟩
      · obtain rfl : k = L.length := by omega
        go_wp2_with fail
        refine wp_region_quiet_below (by assumption) (by kernel_rfl) ?_
        repeat (go_big_quiet_step (fail))
        refine wpQuiet_nil ?_
        rintro _ ⟨pg, rfl⟩
        have hb9 := Lib.hid (below_regrown wr pg.d pg.os)
        clear r0 r1 r2
        generalize grow (redrawn wr pg.d) pg.os = W2 at *
        go_wp2_with fail
        go_meet
        exact ⟨_, rfl, ⟨Nat.le_refl _, HG.out, fun h => absurd h (by omega)⟩, Lib.hid (below_after HW.out hb9.out)⟩
  case rest =>
    obtain ⟨k, rfl, hPA, HW⟩ := hcut
    obtain ⟨W1, hW1⟩ : ∃ W, W = wc := ⟨_, rfl⟩
    subst hW1
    have HSX := Lib.hid (HSr.out.keep HW.out)
    have hk := hPA.1
    have HPA := Lib.hid hPA
    obtain ⟨c0, c1, c2⟩ := HE0.out
    have c0' := cell_later HW.out c0
    have c1' := cell_later HW.out c1
    have c2' := cell_later HW.out c2
    have hgl : kb < W1.heap.size := World.block_lt_of_cell? W1 _ c0'
    have HBw : Hid (∀ V2, Below W1.heap.size W1 V2 → Below kb w V2) := Lib.hid (fun V2 h => by
      have h1 := HB0.out
      have h2 := HW.out
      subst hkb
      exact below_after (below_after h1 h2) h)
    clear c0 c1 c2 hPA
    have HSk : Hid (SrcO W1 (.slice q k c) k (enCells (L.take k))) := Lib.hid (src_takeE HSX.out hk)
    have HLk : Hid ((enCells (L.take k)).length = k * 3) := Lib.hid (by rw [enCells_len, List.length_take]; omega)
    have hkc : k ≤ c := by omega
    go_upto_region 4 with fail
    go_cut [6] (fun s wx => Hid (wx.ownsRow W1.heap.size 36 3 s (k + 1) (enCells (L.take k) ++ encE3l (e1, e2, e3))) ∧ Hid (Below W1.heap.size W1 wx))
    case first =>
      have HSrc2 : Hid (∀ V : World, (V.cell? ⟨kb, 0, none⟩ = some (.int .i64 e1) ∧ V.cell? ⟨kb, 1, none⟩ = some (.int .i64 e2) ∧ V.cell? ⟨kb, 2, none⟩ = some (.int .i64 e3) ∧ Below W1.heap.size W1 V) → SrcO V (.slice q k c) k (enCells (L.take k))) := Lib.hid (fun V h => HSk.out.keep h.2.2.2)
      clear HPA HSX HSk HI HSr HE0 HB0 HW HBw
      go_region_held3 (fun w' => w'.cell? ⟨kb, 0, none⟩ = some (.int .i64 e1) ∧ w'.cell? ⟨kb, 1, none⟩ = some (.int .i64 e2) ∧ w'.cell? ⟨kb, 2, none⟩ = some (.int .i64 e3) ∧ Below W1.heap.size W1 w') (repeat (first | (with_reducible assumption) | (with_reducible exact ⟨c0', c1', c2', Below.refl _ _⟩) | (with_reducible refine keepS3d ?_) | (with_reducible refine keepS3a ?_))) (first | ((refine step_append_srcO (by rfl) (.tmp 22) (.tmp 25) 29 (by rfl) W1.heap.size 36 i0 (.agg #[.int .i64 0, .int .i64 0, .int .i64 0]) 3 24 Try.underlying29 hi hz0 hz1 hz2 (by rfl) (by decide) _ 0 [] (by rfl) (own_zeroI (by first | omega | (simp; done) | (simp; omega)) (by repeat (first | (with_reducible exact hp_new (by first | (with_reducible rfl) | (simp; done) | omega | (simp; omega))) | (with_reducible refine hp_drew ?_) | (with_reducible refine hp_alloc ?_)))) _ k (enCells (L.take k)) (by rfl) (HSrc2.out _ (by with_reducible assumption)) HLk.out (enCells_one _) (by unfold maxLen; omega) (by omega) (by first | omega | (simp; done) | (simp; omega)) ?_); intro v1 wB ho1' hgB; have HO1 := Lib.hid ho1'; clear ho1'; have hzB : W1.heap.size ≤ wB.heap.size := Nat.le_trans (by first | omega | (simp; done) | (simp; omega)) hgB.size; have hS6 := keepS3 (W1 := W1) hgB (by with_reducible assumption) (by intro q hq; simp only [Value.ownBlock, Option.some.injEq] at hq; subst hq; first | omega | (simp; done) | (simp; omega)) hgl) | ((refine step_append_srcO (by rfl) (.tmp 26) (.tmp 28) 29 (by rfl) W1.heap.size 36 i0 (.agg #[.int .i64 0, .int .i64 0, .int .i64 0]) 3 24 Try.underlying29 hi hz0 hz1 hz2 (by rfl) (by decide) v1 (0 + k) ([] ++ enCells (L.take k)) (by rfl) (by first | (with_reducible exact HO1.out) | (with_reducible exact HO1.out.alloc _)) _ 1 (encE3l (e1, e2, e3)) (by rfl) (src_blkE (by repeat (first | (with_reducible exact hp_new (by first | (with_reducible rfl) | (simp; done) | omega | (simp; omega))) | (with_reducible refine hp_drew ?_) | (with_reducible refine hp_grown hgB ?_ (by simp only [Value.ownBlock, ne_eq, Option.some.injEq]; first | omega | (simp; done) | (simp; omega))) | (with_reducible refine hp_alloc ?_)))) (by rfl) (encE3l_one _) (by unfold maxLen; omega) (by omega) (by first | omega | (simp; done) | (simp; omega)) ?_); intro v2 wC ho2' hgC; have HO2 := Lib.hid ho2'; clear ho2'; have hS7 := keepS3 (W1 := W1) hgC (by with_reducible assumption) (fun q hq => (own_block HO1.out hq).1) hgl))
      all_goals
        have HS7 := Lib.hid hS7.2.2.2
        have HO3 : Hid (wC.ownsRow W1.heap.size 36 3 v2 (k + 1) (enCells (L.take k) ++ encE3l (e1, e2, e3))) := Lib.hid (by have := HO2.out; rw [Nat.zero_add, List.nil_append] at this; exact this)
        clear hS7 HO1 HO2
        go_wp2_with fail
        go_meet
        exact ⟨HO3, HS7⟩
    case rest =>
      obtain ⟨HO, HW2⟩ := hcut
      obtain ⟨w2, hw2⟩ : ∃ W, W = wc := ⟨_, rfl⟩
      subst hw2
      have hWk : kb ≤ W1.heap.size := by omega
      clear HSk HI HSr HE0 HB0 HW
      have fin : ∀ (v3 : Value) (w3 : World) (n : Nat), w3.ownsRow W1.heap.size 36 3 v3 n (enCells (L.take k) ++ encE3l (e1, e2, e3) ++ enCells (L.drop k)) → n = L.length + 1 → Below W1.heap.size W1 w3 → R5Post (e1, e2, e3) L w (.returned v3) w3 := by
        intro v3 w3 n ho hn hb
        have e : (L.take k ++ (e1, e2, e3) :: L.drop k).length = n := by rw [List.length_append, List.length_cons, List.length_take, List.length_drop]; omega
        refine ⟨k, v3, HPA.out, rfl, ?_, by subst hkb; exact HBw.out _ hb⟩
        rw [e, enCells_app, show enCells ((e1, e2, e3) :: L.drop k) = encE3l (e1, e2, e3) ++ enCells (L.drop k) from by simp [enCells], ← List.append_assoc]
        subst hkb
        exact own_base ho hWk
      have HFin := Lib.hid fin
      clear fin
      by_cases hn : L.length = 0
      · obtain rfl : L = [] := List.eq_nil_of_length_eq_zero hn
        obtain rfl : k = 0 := by simp at hk; exact hk
        clear HSX HLk
        go_wp2_with (at_builtin; refine wpList_append_srcO rfl (.tmp 30) (.tmp 33) 29 rfl W1.heap.size 36 i0 (.agg #[.int .i64 0, .int .i64 0, .int .i64 0]) 3 24 Try.underlying29 hi hz0 hz1 hz2 rfl (by decide) _ (0 + 1) (enCells (List.take 0 []) ++ encE3l (e1, e2, e3)) rfl HO.out _ 0 (enCells []) rfl ⟨_, _, rfl, fun h => absurd rfl h⟩ rfl (enCells_one _) (by unfold maxLen; omega) (by omega) HW2.out.size ?_)
        intro v3 w3 ho3 hg3
        have HB3 : Hid (Below W1.heap.size W1 w3) := Lib.hid (HW2.out.grown hg3 HW2.out.size (fun k hk => (own_block HO.out hk).1))
        have HN := Lib.hid (HFin.out v3 w3 _ (by simpa [enCells] using ho3) (by simp) HB3.out)
        clear ho3 hg3
        go_wp2_with fail
        go_ret
        exact HN.out
      · obtain ⟨g2, o2, rfl, _⟩ : ∃ g o, q = some ⟨g, o, none⟩ ∧ True := by
          obtain ⟨q1, c1, e, h⟩ := HSX.out
          cases e
          obtain ⟨g, o, e, _⟩ := h hn
          exact ⟨g, o, e, trivial⟩
        by_cases hck : c = k
        · subst hck
          have e : L.length = c := by omega
          rw [e]
          have HE := Lib.hid e
          clear e hc hkc hk
          go_wp2_with (at_builtin; refine wpList_append_srcO rfl (.tmp 30) (.tmp 33) 29 rfl W1.heap.size 36 i0 (.agg #[.int .i64 0, .int .i64 0, .int .i64 0]) 3 24 Try.underlying29 hi hz0 hz1 hz2 rfl (by decide) _ (c + 1) (enCells (L.take c) ++ encE3l (e1, e2, e3)) rfl HO.out _ 0 (enCells []) rfl ⟨_, _, rfl, fun h => absurd rfl h⟩ rfl (enCells_one _) (by have := HE.out; unfold maxLen; omega) (by have := HE.out; omega) HW2.out.size ?_)
          intro v3 w3 ho3 hg3
          have HB3 : Hid (Below W1.heap.size W1 w3) := Lib.hid (HW2.out.grown hg3 HW2.out.size (fun k hk => (own_block HO.out hk).1))
          have HN := Lib.hid (HFin.out v3 w3 (c + 1) (by rw [List.drop_eq_nil_of_le (Nat.le_of_eq HE.out)]; simpa [List.append_assoc] using ho3) (by have := HE.out; omega) HB3.out)
          clear ho3 hg3
          go_wp2_with fail
          go_ret
          exact HN.out
        · have HSd : Hid (SrcO W1 (.slice (some ⟨g2, o2 + k * 3, none⟩) (L.length - k) (c - k)) (L.length - k) (enCells (L.drop k))) := Lib.hid (src_dropE HSX.out rfl hk)
          have HLd : Hid ((enCells (L.drop k)).length = (L.length - k) * 3) := Lib.hid (by rw [enCells_len, List.length_drop])
          have hnk : ((L.length : Nat) : Int) ≤ (c : Int) := by omega
          go_wp2_with (at_builtin; refine wpList_append_srcO rfl (.tmp 30) (.tmp 33) 29 rfl W1.heap.size 36 i0 (.agg #[.int .i64 0, .int .i64 0, .int .i64 0]) 3 24 Try.underlying29 hi hz0 hz1 hz2 rfl (by decide) _ (k + 1) (enCells (L.take k) ++ encE3l (e1, e2, e3)) rfl HO.out _ (L.length - k) (enCells (L.drop k)) rfl (HSd.out.keep HW2.out) HLd.out (enCells_one _) (by unfold maxLen; omega) (by omega) HW2.out.size ?_)
          intro v3 w3 ho3 hg3
          have HB3 : Hid (Below W1.heap.size W1 w3) := Lib.hid (HW2.out.grown hg3 HW2.out.size (fun k hk => (own_block HO.out hk).1))
          have HN := Lib.hid (HFin.out v3 w3 (k + 1 + (L.length - k)) (by simpa [List.append_assoc] using ho3) (by omega) HB3.out)
          clear ho3 hg3
          go_wp2_with fail
          go_ret
          exact HN.out
end Go.Proofs.Ytbdmmgplpndobaa
