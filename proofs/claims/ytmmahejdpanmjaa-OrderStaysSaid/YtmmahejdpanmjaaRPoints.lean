/- The document's Points. -/
import Derived.Test.YtmmahejdpanmjaaPointsI
namespace Go.Proofs.Ytmmahejdpanmjaa
open Go.RowKit Go.Sort

def RpPost (L : List (Int × Int)) (w : World) (e : Ending) (w' : World) : Prop :=
  ∃ u R, e = .returned u ∧ R.Perm L ∧ srtd plt R ∧ w'.ownsRow w.heap.size 85 2 u R.length (pcells R) ∧ Below w.heap.size w w'
/-- The first points, in order. -/
structure RpS (w W : World) (u : Value) (L : List (Int × Int)) (i : Nat) (X : List (Int × Int)) : Prop where
  own : W.ownsRow w.heap.size 85 2 u X.length (pcells X)
  perm : X.Perm (L.take i)
  srt : srtd plt X
  below : Below w.heap.size w W
theorem RpS.len {w W : World} {u : Value} {L X : List (Int × Int)} {i : Nat} (h : RpS w W u L i X) : X.length ≤ i := by
  rw [h.perm.length_eq, List.length_take]; omega
theorem RpS.keep {w W w1 : World} {u : Value} {L X : List (Int × Int)} {i : Nat} (hb : Below W.heap.size W w1) (h : RpS w W u L i X) : RpS w w1 u L i X :=
  ⟨ownk hb h.own, h.perm, h.srt, below_after h.below hb⟩
def PutAtP (x : Int × Int) (L : List (Int × Int)) (k : Nat) : Prop := k ≤ L.length ∧ (∀ i (h : i < L.length), k ≤ i → plt x L[i] = true) ∧ (∀ i (h : i < L.length), i + 1 = k → plt x L[i] = false)
theorem keepC4 {w W w1 : World} {a0 a1 a2 a3 : Addr} {v0 v1 v2 v3 : Value} (hb : Below W.heap.size W w1) (h : W.cell? a0 = some v0 ∧ W.cell? a1 = some v1 ∧ W.cell? a2 = some v2 ∧ W.cell? a3 = some v3 ∧ Below w.heap.size w W) :
    w1.cell? a0 = some v0 ∧ w1.cell? a1 = some v1 ∧ w1.cell? a2 = some v2 ∧ w1.cell? a3 = some v3 ∧ Below w.heap.size w w1 :=
  ⟨cell_later hb h.1, cell_later hb h.2.1, cell_later hb h.2.2.1, cell_later hb h.2.2.2.1, below_after h.2.2.2.2 hb⟩
theorem keepS2 {W1 W w1 : World} {row : Option Nat} {g o o' : Nat} {v v' : Value} (hg : W.grownBy w1 row) (h : W.cell? ⟨g, o, none⟩ = some v ∧ W.cell? ⟨g, o', none⟩ = some v' ∧ Below W1.heap.size W1 W) (hr : ∀ q, row = some q → W1.heap.size ≤ q) (hgl : g < W1.heap.size) :
    w1.cell? ⟨g, o, none⟩ = some v ∧ w1.cell? ⟨g, o', none⟩ = some v' ∧ Below W1.heap.size W1 w1 := by
  have hb : Below W1.heap.size W w1 := (Below.refl _ _).grown hg h.2.2.size (fun q hq => hr q hq)
  exact ⟨(hb.cell (p := ⟨g, o, none⟩) hgl).trans h.1, (hb.cell (p := ⟨g, o', none⟩) hgl).trans h.2.1, h.2.2.trans hb⟩
theorem keepS2d {W1 W : World} {a0 a1 : Addr} {v0 v1 : Value} (h : W.cell? a0 = some v0 ∧ W.cell? a1 = some v1 ∧ Below W1.heap.size W1 W) : W.drew.cell? a0 = some v0 ∧ W.drew.cell? a1 = some v1 ∧ Below W1.heap.size W1 W.drew := ⟨h.1, h.2.1, h.2.2.drew⟩
theorem keepS2a {W1 W : World} {o : Obj} {a0 a1 : Addr} {v0 v1 : Value} (h : W.cell? a0 = some v0 ∧ W.cell? a1 = some v1 ∧ Below W1.heap.size W1 W) : (W.alloc o).cell? a0 = some v0 ∧ (W.alloc o).cell? a1 = some v1 ∧ Below W1.heap.size W1 (W.alloc o) :=
  ⟨cell_later (below_alloc _ _) h.1, cell_later (below_alloc _ _) h.2.1, below_after h.2.2 (below_alloc _ _)⟩
theorem src_blkP {W : World} {k : Nat} {T : TypeId} {p : Int × Int} (h : W.heap[k]? = some (.cells #[.int .i64 p.1, .int .i64 p.2] T)) : SrcO W (.slice (some ⟨k, 0, none⟩) 1 1) 1 (encP p) :=
  own_srcO (T := T) (base := 0) (size := 2) ⟨rfl, .inr ⟨k, 1, _, rfl, Nat.zero_le _, h, Nat.le_refl _, by unfold maxLen; omega, rfl, rfl⟩⟩
set_option maxRecDepth 100000 in
set_option maxHeartbeats 4000000 in
theorem rpoints_any {w : World} {gt : Nat} {v : Value} {L : List (Int × Int)} (hI : PI w gt v L) (hL : L.length ≤ 1000) : Calls Try.prog 15 #[v] w (RpPost L w) := by
  have hmx : Try.prog.follows .mixedOrders = true := by kernel_rfl
  obtain ⟨i0, hi, hz0, hz1, hz2⟩ := info_parts infoRP
  have HI := Lib.hid hI
  obtain ⟨q, c, rfl, _, hx⟩ := hI
  clear hx
  go_enter Try.func15, Try.ntmps15
  go_wp2_with fail
  go_loopg [3, 4] L.length (fun gk u s wx => ∃ (i : Nat) (X : List (Int × Int)), gk = L.length - i ∧ i ≤ L.length ∧ s = .int .i64 (i : Int) ∧ Hid (RpS w wx u L i X))
  case atStart => exact ⟨0, [], rfl, by omega, rfl, Lib.hid ⟨⟨rfl, .inl ⟨rfl, rfl⟩⟩, by simp, by simp [srtd], Below.refl _ _⟩⟩
  case round =>
    obtain ⟨i, X, hgk, hi9, rfl, HX⟩ := hrel
    have hXl := HX.out.len
    by_cases hlt : i < L.length
    · obtain ⟨qx, cx, rfl, hcx, hx⟩ := id (own_PI HX.out.own)
      clear hx
      go_upto_block 2 with fail
      go_cut [5] from 15 to 30 (fun s wx => ∃ k : Nat, s = .int .i64 (k : Int) ∧ PutAtP L[i] X k ∧ Hid (Below wr.heap.size wr wx))
      case first =>
        obtain ⟨W0, hW0⟩ : ∃ W, W = wr := ⟨_, rfl⟩
        subst hW0
        have HXi := Lib.hid (own_PI HX.out.own)
        have HBw := Lib.hid HX.out.below
        clear HX
        go_wp2_with fail
        go_loopg [5] X.length (fun gk s wx => ∃ k : Nat, gk = k ∧ s = .int .i64 (k : Int) ∧ k ≤ X.length ∧ Hid (∀ j (h : j < X.length), k ≤ j → plt L[i] X[j] = true) ∧ Hid (Below W0.heap.size W0 wx))
        case atStart => exact ⟨X.length, rfl, rfl, Nat.le_refl _, Lib.hid (fun j h k => absurd h (by omega)), Lib.hid (Below.refl _ _)⟩
        case round =>
          obtain ⟨k, hgk, rfl, hk, HG, HW⟩ := hrel
          by_cases h0 : k = 0
          · subst h0
            go_wp2_with fail
            go_quiet (fail)
            go_wp2
            go_meet
            exact ⟨0, rfl, ⟨Nat.zero_le _, HG.out, fun _ _ h => absurd h (by omega)⟩, Lib.hid (below_drewN HW.out _)⟩
          · obtain ⟨g, o, rfl, c0', c1'⟩ := HI.out.at hlt
            obtain ⟨g2, o2, rfl, d0', d1'⟩ := HXi.out.at (i := k - 1) (by omega)
            have hB0 := below_after HBw.out HW.out
            have c0 := cell_later hB0 c0'
            have c1 := cell_later hB0 c1'
            have d0 := cell_later HW.out d0'
            have d1 := cell_later HW.out d1'
            clear c0' c1' d0' d1'
            have x1 : IntKind.i64.wrap ((k : Int) - 1) = (k : Int) - 1 := IntWalk.i64_in _ (by omega)
            have x2 : ((k : Int) - 1).toNat = k - 1 := by omega
            have x3 : 0 ≤ (k : Int) - 1 := by omega
            have x4 : (k : Int) - 1 < (X.length : Int) := by omega
            have x5 : 0 < (k : Int) := by omega
            have x6 : (i : Int) < (L.length : Int) := by omega
            have hle : Hid (plt L[i] X[k - 1] = lessB L[i].1 L[i].2 X[k - 1].1 X[k - 1].2) := Lib.hid rfl
            have HY : Hid (∀ b : Bool, plt L[i] X[k - 1] = b → (b = true → ∀ j (h : j < X.length), k - 1 ≤ j → plt L[i] X[j] = true) ∧ (b = false → PutAtP L[i] X k)) := Lib.hid (fun b hb => ⟨fun e j h hj => by
              by_cases e2 : j = k - 1
              · subst e2; rw [hb, e]
              · exact HG.out j h (by omega), fun e => ⟨hk, HG.out, fun j h hj => by
                obtain rfl : j = k - 1 := by omega
                rw [hb, e]⟩⟩)
            have hd1 : decide (0 < k) = true := by simp; omega
            clear hB0 HG
            generalize hb : plt L[i] X[k - 1] = b at *
            have HY2 := Lib.hid (HY.out b rfl)
            clear HY hb
            generalize L[i] = p at *
            generalize X[k - 1] = r at *
            have HYt := Lib.hid HY2.out.1
            have HYf := Lib.hid HY2.out.2
            clear HY2
            have KC : Hid (∀ (d : Nat) (os : Array Obj), Calls Try.prog 47 #[.agg #[.int .i64 p.1, .int .i64 p.2], .agg #[.int .i64 r.1, .int .i64 r.2]] (grow (redrawn wr d) os) fun e w'' => e = .returned (.bool b) ∧ ∃ p : Regrown, w'' = grow (redrawn wr p.d) p.os) :=
              Lib.hid (fun d os => Calls.regrown_of ((rless_any p.1 p.2 r.1 r.2 _).mono (fun e w' h => ⟨by rw [h.1, ← hle.out], h.2⟩)))
            clear hle
            have r0 := fun d os => cell_regrown c0 d os
            have r1 := fun d os => cell_regrown c1 d os
            have r2 := fun d os => cell_regrown d0 d os
            have r3 := fun d os => cell_regrown d1 d os
            clear c0 c1 d0 d1
            cases b
            · have HYf2 := Lib.hid (HYf.out rfl)
              clear HYf HYt
              go_wp2_with fail
              refine wp_region_quiet_below (by assumption) (by kernel_rfl) ?_
              repeat (go_big_quiet_step (with_reducible exact KC.out _ _))
              refine wpQuiet_nil ?_
              rintro _ ⟨pg, rfl⟩
              have hb9 := Lib.hid (below_regrown wr pg.d pg.os)
              clear r0 r1 r2 r3 KC
              generalize grow (redrawn wr pg.d) pg.os = W2 at *
              go_wp2_with fail
              go_meet
              exact ⟨k, rfl, HYf2.out, Lib.hid (below_after HW.out hb9.out)⟩
            · have HYt2 := Lib.hid (HYt.out rfl)
              clear HYf HYt
              go_wp2_with fail
              refine wp_region_quiet_below (by assumption) (by kernel_rfl) ?_
              repeat (go_big_quiet_step (with_reducible exact KC.out _ _))
              refine wpQuiet_nil ?_
              rintro _ ⟨pg, rfl⟩
              have hb9 := Lib.hid (below_regrown wr pg.d pg.os)
              clear r0 r1 r2 r3 KC
              generalize grow (redrawn wr pg.d) pg.os = W2 at *
              go_wp2_with fail
              go_roundg (k - 1)
              case measure => omega
              case rel => exact ⟨k - 1, rfl, by show Value.int .i64 ((k : Int) - 1) = _; congr 1; omega, by omega, HYt2, Lib.hid (below_after HW.out hb9.out)⟩
      case rest =>
        obtain ⟨k, rfl, hPA, HW⟩ := hcut
        obtain ⟨W1, hW1⟩ : ∃ W, W = wc := ⟨_, rfl⟩
        subst hW1
        have HXk := Lib.hid (HX.out.keep HW.out)
        have hk := hPA.1
        have HPA := Lib.hid hPA
        obtain ⟨g, o, rfl, c0, c1⟩ := HI.out.at hlt
        have hB0 := HXk.out.below
        have c0' := cell_later hB0 c0
        have c1' := cell_later hB0 c1
        have hgl : g < W1.heap.size := World.block_lt_of_cell? W1 _ c0'
        clear c0 c1 hB0 HX HW hPA
        have HSX := Lib.hid (own_srcO HXk.out.own)
        have HSk : Hid (SrcO W1 (.slice qx k cx) k (pcells (X.take k))) := Lib.hid (src_takeP HSX.out hk)
        have HLk : Hid ((pcells (X.take k)).length = k * 2) := Lib.hid (by rw [pcells_len, List.length_take]; omega)
        have hkc : k ≤ cx := by omega
        have x6 : (i : Int) < (L.length : Int) := by omega
        have HNx : Hid (∀ (w2 : World) (u : Value) (R : List (Int × Int)), InsP plt L[i] X R → w2.ownsRow w.heap.size 85 2 u R.length (pcells R) → Below w.heap.size w w2 → RpS w w2 u L (i + 1) R) := Lib.hid (fun w2 u R hins ho hb => ⟨ho, by
          refine hins.perm.trans ((List.Perm.cons _ HXk.out.perm).trans ?_)
          rw [List.take_succ_eq_append_getElem hlt]
          exact (List.perm_append_singleton _ _).symm, hins.srtd plt_sto HXk.out.srt, hb⟩)
        generalize L[i] = p at *
        go_upto_region 8 with fail
        go_cut [6] (fun s wx => Hid (wx.ownsRow W1.heap.size 85 2 s (k + 1) (pcells (X.take k) ++ encP p)) ∧ Hid (Below W1.heap.size W1 wx))
        case first =>
          have HSrc2 : Hid (∀ V : World, (V.cell? ⟨g, o + i * 2, none⟩ = some (.int .i64 p.1) ∧ V.cell? ⟨g, o + i * 2 + 1, none⟩ = some (.int .i64 p.2) ∧ Below W1.heap.size W1 V) → SrcO V (.slice qx k cx) k (pcells (X.take k))) := Lib.hid (fun V h => HSk.out.keep h.2.2)
          clear HNx HPA HXk HSX HSk
          go_region_held3 (fun w' => w'.cell? ⟨g, o + i * 2, none⟩ = some (.int .i64 p.1) ∧ w'.cell? ⟨g, o + i * 2 + 1, none⟩ = some (.int .i64 p.2) ∧ Below W1.heap.size W1 w') (repeat (first | (with_reducible assumption) | (with_reducible exact ⟨c0', c1', Below.refl _ _⟩) | (with_reducible refine keepS2d ?_) | (with_reducible refine keepS2a ?_))) (first | ((refine step_append_srcO (by rfl) (.tmp 31) (.tmp 34) 29 (by rfl) W1.heap.size 85 i0 (.agg #[.int .i64 0, .int .i64 0]) 2 16 Try.underlying29 hi hz0 hz1 hz2 (by rfl) (by decide) _ 0 [] (by rfl) (own_zeroI (by first | omega | (simp; done) | (simp; omega)) (by repeat (first | (with_reducible exact hp_new (by first | (with_reducible rfl) | (simp; done) | omega | (simp; omega))) | (with_reducible refine hp_drew ?_) | (with_reducible refine hp_alloc ?_)))) _ k (pcells (X.take k)) (by rfl) (HSrc2.out _ (by with_reducible assumption)) HLk.out (pcells_one _) (by unfold maxLen; omega) (by omega) (by first | omega | (simp; done) | (simp; omega)) ?_); intro v1 wB ho1' hgB; have HO1 := Lib.hid ho1'; clear ho1'; have hzB : W1.heap.size ≤ wB.heap.size := Nat.le_trans (by first | omega | (simp; done) | (simp; omega)) hgB.size; have hS6 := keepS2 (W1 := W1) hgB (by with_reducible assumption) (by intro q hq; simp only [Value.ownBlock, Option.some.injEq] at hq; subst hq; first | omega | (simp; done) | (simp; omega)) hgl) | ((refine step_append_srcO (by rfl) (.tmp 35) (.tmp 40) 29 (by rfl) W1.heap.size 85 i0 (.agg #[.int .i64 0, .int .i64 0]) 2 16 Try.underlying29 hi hz0 hz1 hz2 (by rfl) (by decide) v1 (0 + k) ([] ++ pcells (X.take k)) (by rfl) (by first | (with_reducible exact HO1.out) | (with_reducible exact HO1.out.alloc _)) _ 1 (encP p) (by rfl) (src_blkP (by repeat (first | (with_reducible exact hp_new (by first | (with_reducible rfl) | (simp; done) | omega | (simp; omega))) | (with_reducible refine hp_drew ?_) | (with_reducible refine hp_grown hgB ?_ (by simp only [Value.ownBlock, ne_eq, Option.some.injEq]; first | omega | (simp; done) | (simp; omega))) | (with_reducible refine hp_alloc ?_)))) (by rfl) (encP_one _) (by unfold maxLen; omega) (by omega) (by first | omega | (simp; done) | (simp; omega)) ?_); intro v2 wC ho2' hgC; have HO2 := Lib.hid ho2'; clear ho2'; have hS7 := keepS2 (W1 := W1) hgC (by with_reducible assumption) (fun q hq => (own_block HO1.out hq).1) hgl))
          all_goals
            have HS7 := Lib.hid hS7.2.2
            have HO3 : Hid (wC.ownsRow W1.heap.size 85 2 v2 (k + 1) (pcells (X.take k) ++ encP p)) := Lib.hid (by have := HO2.out; rw [Nat.zero_add, List.nil_append] at this; exact this)
            clear hS7 HO1 HO2
            go_wp2_with fail
            go_meet
            exact ⟨HO3, HS7⟩
        case rest =>
          obtain ⟨HO, HW2⟩ := hcut
          have hXL : X.length ≤ 1000 := by omega
          by_cases hn : X.length = 0
          · obtain rfl : X = [] := List.eq_nil_of_length_eq_zero hn
            obtain rfl : k = 0 := by simp at hk; exact hk
            clear HSk HSX HLk
            go_wp2_with (at_builtin; refine wpList_append_srcO rfl (.tmp 42) (.tmp 45) 29 rfl W1.heap.size 85 i0 (.agg #[.int .i64 0, .int .i64 0]) 2 16 Try.underlying29 hi hz0 hz1 hz2 rfl (by decide) _ (0 + 1) (pcells (List.take 0 []) ++ encP p) rfl HO.out _ 0 (pcells []) rfl (src_none _ _ _) rfl (pcells_one _) (by unfold maxLen; omega) (by omega) HW2.out.size ?_)
            intro v3 w3 ho3 hg3
            have HB3 : Hid (Below w.heap.size w w3) := Lib.hid ((below_after HXk.out.below HW2.out).grown hg3 (Nat.le_trans HXk.out.below.size HW2.out.size) (fun k hk => Nat.le_trans HXk.out.below.size (own_block HO.out hk).1))
            have HN := Lib.hid (HNx.out w3 v3 (List.take 0 [] ++ p :: List.drop 0 []) ⟨0, HPA.out.1, HPA.out.2.1, HPA.out.2.2, rfl⟩ (by
              have e : (List.take 0 [] ++ p :: List.drop 0 []).length = 1 := by rw [List.length_append, List.length_cons, List.length_take, List.length_drop]; omega
              rw [e, pcells_app, pcells_cons]
              refine own_base ?_ HXk.out.below.size
              simpa [pcells_nil] using ho3) HB3.out)
            clear ho3 hg3
            go_wp2_with fail
            go_roundg (L.length - (i + 1))
            case measure => omega
            case rel => exact ⟨i + 1, _, rfl, by omega, by push_cast; rfl, HN⟩
          · obtain ⟨g2, o2, rfl, _, _⟩ := (own_PI HXk.out.own).at (i := 0) (by omega)
            by_cases hck : cx = k
            · subst hck
              have e : X.length = cx := by omega
              rw [e]
              have HE := Lib.hid e
              clear e hcx hkc hk
              go_wp2_with (at_builtin; refine wpList_append_srcO rfl (.tmp 42) (.tmp 45) 29 rfl W1.heap.size 85 i0 (.agg #[.int .i64 0, .int .i64 0]) 2 16 Try.underlying29 hi hz0 hz1 hz2 rfl (by decide) _ (cx + 1) (pcells (X.take cx) ++ encP p) rfl HO.out _ 0 (pcells []) rfl (src_none _ _ _) rfl (pcells_one _) (by have := HE.out; unfold maxLen; omega) (by have := HE.out; omega) HW2.out.size ?_)
              intro v3 w3 ho3 hg3
              have HB3 : Hid (Below w.heap.size w w3) := Lib.hid ((below_after HXk.out.below HW2.out).grown hg3 (Nat.le_trans HXk.out.below.size HW2.out.size) (fun k hk => Nat.le_trans HXk.out.below.size (own_block HO.out hk).1))
              have HN := Lib.hid (HNx.out w3 v3 (X.take cx ++ p :: X.drop cx) ⟨cx, HPA.out.1, HPA.out.2.1, HPA.out.2.2, rfl⟩ (by
                have e : (X.take cx ++ p :: X.drop cx).length = cx + 1 := by rw [List.length_append, List.length_cons, List.length_take, List.length_drop]; have := HE.out; omega
                rw [e, pcells_app, pcells_cons]
                refine own_base ?_ HXk.out.below.size
                simpa [pcells_nil, List.drop_of_length_le (Nat.le_of_eq HE.out)] using ho3) HB3.out)
              clear ho3 hg3
              go_wp2_with fail
              go_roundg (L.length - (i + 1))
              case measure => omega
              case rel => exact ⟨i + 1, _, rfl, by omega, by push_cast; rfl, HN⟩
            · have HSd : Hid (SrcO W1 (.slice (some ⟨g2, o2 + k * 2, none⟩) (X.length - k) (cx - k)) (X.length - k) (pcells (X.drop k))) := Lib.hid (src_dropP HSX.out hk)
              have HLd : Hid ((pcells (X.drop k)).length = (X.length - k) * 2) := Lib.hid (by rw [pcells_len, List.length_drop])
              have hnk : ((X.length : Nat) : Int) ≤ (cx : Int) := by omega
              go_wp2_with (at_builtin; refine wpList_append_srcO rfl (.tmp 42) (.tmp 45) 29 rfl W1.heap.size 85 i0 (.agg #[.int .i64 0, .int .i64 0]) 2 16 Try.underlying29 hi hz0 hz1 hz2 rfl (by decide) _ (k + 1) (pcells (X.take k) ++ encP p) rfl HO.out _ (X.length - k) (pcells (X.drop k)) rfl (HSd.out.keep HW2.out) HLd.out (pcells_one _) (by unfold maxLen; omega) (by omega) HW2.out.size ?_)
              intro v3 w3 ho3 hg3
              have HB3 : Hid (Below w.heap.size w w3) := Lib.hid ((below_after HXk.out.below HW2.out).grown hg3 (Nat.le_trans HXk.out.below.size HW2.out.size) (fun k hk => Nat.le_trans HXk.out.below.size (own_block HO.out hk).1))
              have HN := Lib.hid (HNx.out w3 v3 (X.take k ++ p :: X.drop k) ⟨k, HPA.out.1, HPA.out.2.1, HPA.out.2.2, rfl⟩ (by
                have e : (X.take k ++ p :: X.drop k).length = k + 1 + (X.length - k) := by rw [List.length_append, List.length_cons, List.length_take, List.length_drop]; omega
                rw [e, pcells_app, pcells_cons]
                refine own_base ?_ HXk.out.below.size
                simpa [pcells_nil] using ho3) HB3.out)
              clear ho3 hg3
              go_wp2_with fail
              go_roundg (L.length - (i + 1))
              case measure => omega
              case rel => exact ⟨i + 1, _, rfl, by omega, by push_cast; rfl, HN⟩
    · have HP := Lib.hid HX.out
      go_wp2_with fail
      go_ret
      exact ⟨_, X, rfl, by have h := HP.out.perm; rw [List.take_of_length_le (by omega)] at h; exact h, HP.out.srt, HP.out.own, HP.out.below⟩
end Go.Proofs.Ytmmahejdpanmjaa
