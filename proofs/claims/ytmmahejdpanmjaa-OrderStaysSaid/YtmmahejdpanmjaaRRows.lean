/- The document's Rows. -/
import Derived.Test.YtmmahejdpanmjaaIntsI
namespace Go.Proofs.Ytmmahejdpanmjaa
open Go.RowKit Go.Sort Go.Deep

def RrPost (R : List (List Int)) (w : World) (e : Ending) (w' : World) : Prop :=
  ∃ u X, e = .returned u ∧ X.Perm (nums R.length) ∧ srtd (rltT R) X ∧ w'.ownsRow w.heap.size 3 1 u X.length (icells X) ∧ Below w.heap.size w w'
/-- The first numbers, in the order of the rows. -/
structure RrS (w W : World) (u : Value) (R : List (List Int)) (i : Nat) (X : List Int) : Prop where
  own : W.ownsRow w.heap.size 3 1 u X.length (icells X)
  perm : X.Perm (nums i)
  srt : srtd (rltT R) X
  below : Below w.heap.size w W
theorem RrS.len {w W : World} {u : Value} {R : List (List Int)} {X : List Int} {i : Nat} (h : RrS w W u R i X) : X.length = i := by
  rw [h.perm.length_eq, nums_len]
theorem RrS.keep {w W w1 : World} {u : Value} {R : List (List Int)} {X : List Int} {i : Nat} (hb : Below W.heap.size W w1) (h : RrS w W u R i X) : RrS w w1 u R i X :=
  ⟨ownk hb h.own, h.perm, h.srt, below_after h.below hb⟩
theorem RrS.at {w W : World} {u : Value} {R : List (List Int)} {X : List Int} {i : Nat} (h : RrS w W u R i X) {k : Nat} (hk : k < X.length) : ∃ m : Nat, X[k] = (m : Int) ∧ m < i := by
  have := mem_nums.1 (h.perm.mem_iff.1 (List.getElem_mem hk))
  exact ⟨X[k].toNat, by omega, by omega⟩
theorem nums_succ (n : Nat) : nums (n + 1) = nums n ++ [(n : Int)] := by
  unfold nums; rw [List.range_succ, List.map_append]; rfl
theorem icells_cons1 (x : Int) (L : List Int) : icells (x :: L) = icells [x] ++ icells L := rfl
def PutAtR (R : List (List Int)) (x : Int) (L : List Int) (k : Nat) : Prop := k ≤ L.length ∧ (∀ i (h : i < L.length), k ≤ i → rltT R x L[i] = true) ∧ (∀ i (h : i < L.length), i + 1 = k → rltT R x L[i] = false)
set_option maxRecDepth 100000 in
set_option maxHeartbeats 4000000 in
theorem rrows_any {w : World} {v : Value} {L : List (List Int)} (hI : RL w v L) (hL : L.length ≤ 1000) (hl : ∀ x ∈ L, x.length ≤ 9223372036854775807) : Calls Try.prog 19 #[v] w (RrPost L w) := by
  have hmx : Try.prog.follows .mixedOrders = true := by kernel_rfl
  obtain ⟨i0, hi, hz0, hz1, hz2⟩ := info_parts infoI
  have HI := Lib.hid hI
  have HLn := Lib.hid hl
  clear hl
  obtain ⟨q, c, rfl, _, hx⟩ := hI
  clear hx
  go_enter Try.func19, Try.ntmps19
  go_wp2_with fail
  go_loopg [3, 4] L.length (fun gk u s wx => ∃ (i : Nat) (X : List Int), gk = L.length - i ∧ i ≤ L.length ∧ s = .int .i64 (i : Int) ∧ Hid (RrS w wx u L i X))
  case atStart => exact ⟨0, [], rfl, by omega, rfl, Lib.hid ⟨⟨rfl, .inl ⟨rfl, rfl⟩⟩, by simp [nums], by simp [srtd], Below.refl _ _⟩⟩
  case round =>
    obtain ⟨i, X, hgk, hi9, rfl, HX⟩ := hrel
    have hXl := Nat.le_of_eq HX.out.len
    by_cases hlt : i < L.length
    · obtain ⟨qx, cx, rfl, hcx, hx⟩ := id (own_IL HX.out.own)
      clear hx
      go_upto_block 2 with fail
      go_cut [5] from 15 to 34 (fun s wx => ∃ k : Nat, s = .int .i64 (k : Int) ∧ PutAtR L (i : Int) X k ∧ Hid (Below wr.heap.size wr wx))
      case first =>
        obtain ⟨W0, hW0⟩ : ∃ W, W = wr := ⟨_, rfl⟩
        subst hW0
        have HXi := Lib.hid (own_IL HX.out.own)
        have HBw := Lib.hid HX.out.below
        have HXm : Hid (∀ k (h : k < X.length), ∃ m : Nat, X[k] = (m : Int) ∧ m < i) := Lib.hid (fun k h => HX.out.at h)
        clear HX
        go_wp2_with fail
        go_loopg [5] X.length (fun gk s wx => ∃ k : Nat, gk = k ∧ s = .int .i64 (k : Int) ∧ k ≤ X.length ∧ Hid (∀ j (h : j < X.length), k ≤ j → rltT L (i : Int) X[j] = true) ∧ Hid (Below W0.heap.size W0 wx))
        case atStart => exact ⟨X.length, rfl, rfl, Nat.le_refl _, Lib.hid (fun j h k => absurd h (by omega)), Lib.hid (Below.refl _ _)⟩
        case round =>
          obtain ⟨k, hgk, rfl, hk, HG, HW⟩ := hrel
          by_cases h0 : k = 0
          · subst h0
            go_wp2_with fail
            go_quiet (fail)
            go_wp2
            go_meet
            exact ⟨0, rfl, ⟨Nat.zero_le _, HG.out, fun _ _ h => absurd h (by omega)⟩, Lib.hid (below_drewN HW.out _)⟩
          · obtain ⟨g, o, ea, rfl, c0', IA⟩ := HI.out.at hlt
            obtain ⟨m, hm, hmi⟩ := HXm.out (k - 1) (by omega)
            obtain ⟨g9, o9, eb, hq9, c1', IB⟩ := HI.out.at (i := m) (by omega)
            cases hq9
            obtain ⟨g2, o2, rfl, d0'⟩ := HXi.out.at (i := k - 1) (by omega)
            have hB0 := below_after HBw.out HW.out
            have c0 := cell_later hB0 c0'
            have c1 := cell_later hB0 c1'
            have d0 := cell_later HW.out d0'
            have HIA := Lib.hid (IA.keep hB0)
            have HIB := Lib.hid (IB.keep hB0)
            have lA := HLn.out L[i] (List.getElem_mem _)
            have lB := HLn.out L[m] (List.getElem_mem _)
            clear c0' c1' d0' IA IB
            have x1 : IntKind.i64.wrap ((k : Int) - 1) = (k : Int) - 1 := IntWalk.i64_in _ (by omega)
            have x2 : ((k : Int) - 1).toNat = k - 1 := by omega
            have x3 : 0 ≤ (k : Int) - 1 := by omega
            have x4 : (k : Int) - 1 < (X.length : Int) := by omega
            have x5 : 0 < (k : Int) := by omega
            have x6 : (i : Int) < (L.length : Int) := by omega
            have x7 : (m : Int) < (L.length : Int) := by omega
            have hle : Hid (rltT L (i : Int) X[k - 1] = decide (cmpL L[i] L[m] < 0)) := Lib.hid (by
              rw [hm, rlt_below (by omega)]; unfold rlt; rw [rowAt_at hlt, rowAt_at (by omega)])
            rw [hm] at d0
            have HY : Hid (∀ b : Bool, rltT L (i : Int) X[k - 1] = b → (b = true → ∀ j (h : j < X.length), k - 1 ≤ j → rltT L (i : Int) X[j] = true) ∧ (b = false → PutAtR L (i : Int) X k)) := Lib.hid (fun b hb => ⟨fun e j h hj => by
              by_cases e2 : j = k - 1
              · subst e2; rw [hb, e]
              · exact HG.out j h (by omega), fun e => ⟨hk, HG.out, fun j h hj => by
                obtain rfl : j = k - 1 := by omega
                rw [hb, e]⟩⟩)
            have hd1 : decide (0 < k) = true := by simp; omega
            clear hB0 HG hm
            generalize hb : rltT L (i : Int) X[k - 1] = b at *
            have HY2 := Lib.hid (HY.out b rfl)
            clear HY hb
            generalize L[i] = A at *
            generalize L[m] = B at *
            have HYt := Lib.hid HY2.out.1
            have HYf := Lib.hid HY2.out.2
            clear HY2
            have KC : Hid (∀ (d : Nat) (os : Array Obj), Calls Try.prog 11 #[ea, eb] (grow (redrawn wr d) os) fun e w'' => e = .returned (.int .i64 (cmpL A B)) ∧ ∃ p : Regrown, w'' = grow (redrawn wr p.d) p.os) :=
              Lib.hid (fun d os => Calls.regrown_of ((rcmp_any (HIA.out.keep (below_regrown wr d os)) (HIB.out.keep (below_regrown wr d os)) lA lB).mono (fun e w' h => h)))
            generalize cmpL A B = cv at *
            have r0 := fun d os => cell_regrown c0 d os
            have r1 := fun d os => cell_regrown c1 d os
            have r2 := fun d os => cell_regrown d0 d os
            clear c0 c1 d0 lA lB HIA HIB
            cases b
            · have hcv : ¬ cv < 0 := by simpa using hle.out
              clear hle
              have HYf2 := Lib.hid (HYf.out rfl)
              clear HYf HYt
              go_wp2_with fail
              refine wp_region_quiet_below (by assumption) (by kernel_rfl) ?_
              repeat (go_big_quiet_step (with_reducible exact KC.out _ _))
              refine wpQuiet_nil ?_
              rintro _ ⟨pg, rfl⟩
              have hb9 := Lib.hid (below_regrown wr pg.d pg.os)
              clear r0 r1 r2 KC
              generalize grow (redrawn wr pg.d) pg.os = W2 at *
              go_wp2_with fail
              go_meet
              exact ⟨k, rfl, HYf2.out, Lib.hid (below_after HW.out hb9.out)⟩
            · have hcv : cv < 0 := by simpa using hle.out
              clear hle
              have HYt2 := Lib.hid (HYt.out rfl)
              clear HYf HYt
              go_wp2_with fail
              refine wp_region_quiet_below (by assumption) (by kernel_rfl) ?_
              repeat (go_big_quiet_step (with_reducible exact KC.out _ _))
              refine wpQuiet_nil ?_
              rintro _ ⟨pg, rfl⟩
              have hb9 := Lib.hid (below_regrown wr pg.d pg.os)
              clear r0 r1 r2 KC
              generalize grow (redrawn wr pg.d) pg.os = W2 at *
              go_wp2_with fail
              go_roundg (k - 1)
              case measure => omega
              case rel => exact ⟨k - 1, rfl, by show Value.int .i64 ((k : Int) - 1) = _; congr 1; omega, by omega, HYt2, Lib.hid (below_after HW.out hb9.out)⟩
      case rest =>
        obtain ⟨k, rfl, hPA, HW⟩ := hcut
        obtain ⟨W1, hW1⟩ : ∃ W, W = wc := ⟨_, rfl⟩
        subst hW1
        have HXk := Lib.hid (HX.out.keep HW.out)
        have hk := hPA.1
        have HPA := Lib.hid hPA
        clear HX HW hPA
        have HSX := Lib.hid (own_srcO HXk.out.own)
        have HSk : Hid (SrcO W1 (.slice qx k cx) k (icells (X.take k))) := Lib.hid (src_take HSX.out rfl hk)
        have HLk : Hid ((icells (X.take k)).length = k * 1) := Lib.hid (by rw [icells_len, List.length_take]; omega)
        have hkc : k ≤ cx := by omega
        have HNx : Hid (∀ (w2 : World) (u : Value) (R : List Int), InsP (rltT L) (i : Int) X R → w2.ownsRow w.heap.size 3 1 u R.length (icells R) → Below w.heap.size w w2 → RrS w w2 u L (i + 1) R) := Lib.hid (fun w2 u R hins ho hb => ⟨ho, by
          refine hins.perm.trans ((List.Perm.cons _ HXk.out.perm).trans ?_)
          rw [nums_succ]
          exact (List.perm_append_singleton _ _).symm, hins.srtd (rltT_sto L) HXk.out.srt, hb⟩)
        have HB0 : Hid (Below W1.heap.size W1 (W1.alloc (.cells #[] 3))) := Lib.hid (below_alloc _ _)
        have hXL : X.length ≤ 1000 := by omega
        go_upto_region 8 with fail
        go_cut [6] (fun s wx => Hid (wx.ownsRow W1.heap.size 3 1 s (k + 1) (icells (X.take k) ++ icells [(i : Int)])) ∧ Hid (Below W1.heap.size W1 wx))
        case first =>
          clear HNx HPA HXk HSX
          go_wp2_with (at_builtin; refine wpList_append_srcO rfl (.tmp 35) (.tmp 38) 24 rfl W1.heap.size 3 i0 (.int .i64 0) 1 8 Try.underlying24 hi hz0 hz1 hz2 rfl (by decide) _ 0 [] rfl (own_zeroI (Nat.le_refl _) (hp_new rfl)) _ k (icells (X.take k)) rfl (HSk.out.keep HB0.out) HLk.out (icells_one _) (by unfold maxLen; omega) (by omega) HB0.out.size ?_)
          intro v1 w1 ho1 hg1
          have HO1 : Hid (w1.ownsRow W1.heap.size 3 1 v1 k (icells (X.take k))) := Lib.hid (by simpa using ho1)
          have HB1 : Hid (Below W1.heap.size W1 w1) := Lib.hid (HB0.out.grown hg1 HB0.out.size (fun k hk => by cases hk; exact Nat.le_refl _))
          clear ho1 hg1 HB0 HSk
          go_wp2_with (at_builtin; refine wpList_append_srcO rfl (.tmp 39) (.tmp 41) 24 rfl W1.heap.size 3 i0 (.int .i64 0) 1 8 Try.underlying24 hi hz0 hz1 hz2 rfl (by decide) _ k (icells (X.take k)) rfl (HO1.out.alloc _) _ 1 (icells [(i : Int)]) rfl (new_srcO _ _ _) rfl (icells_one _) (by unfold maxLen; omega) (by omega) (by have := HB1.out.size; rw [World.size_alloc]; omega) ?_)
          intro v2 w2 ho2 hg2
          have HB2 : Hid (Below W1.heap.size W1 w2) := Lib.hid ((HB1.out.alloc HB1.out.size _).grown hg2 (by have := HB1.out.size; rw [World.size_alloc]; omega) (fun k hk => (own_block HO1.out hk).1))
          have HO2 := Lib.hid ho2
          clear ho2 hg2 HB1 HO1
          go_wp2_with fail
          go_meet
          exact ⟨HO2, HB2⟩
        case rest =>
          obtain ⟨HO, HW2⟩ := hcut
          by_cases hn : X.length = 0
          · obtain rfl : X = [] := List.eq_nil_of_length_eq_zero hn
            obtain rfl : k = 0 := by simp at hk; exact hk
            clear HSk HSX HLk
            go_wp2_with (at_builtin; refine wpList_append_srcO rfl (.tmp 43) (.tmp 46) 24 rfl W1.heap.size 3 i0 (.int .i64 0) 1 8 Try.underlying24 hi hz0 hz1 hz2 rfl (by decide) _ (0 + 1) (icells (List.take 0 []) ++ icells [(i : Int)]) rfl HO.out _ 0 (icells []) rfl (src_none _ _ _) rfl (icells_one _) (by unfold maxLen; omega) (by omega) HW2.out.size ?_)
            intro v3 w3 ho3 hg3
            have HB3 : Hid (Below w.heap.size w w3) := Lib.hid ((below_after HXk.out.below HW2.out).grown hg3 (Nat.le_trans HXk.out.below.size HW2.out.size) (fun k hk => Nat.le_trans HXk.out.below.size (own_block HO.out hk).1))
            have HN := Lib.hid (HNx.out w3 v3 (List.take 0 [] ++ (i : Int) :: List.drop 0 []) ⟨0, HPA.out.1, HPA.out.2.1, HPA.out.2.2, rfl⟩ (by
              have e : (List.take 0 [] ++ (i : Int) :: List.drop 0 []).length = 1 := by rw [List.length_append, List.length_cons, List.length_take, List.length_drop]; omega
              rw [e, icells_app, icells_cons1]
              refine own_base ?_ HXk.out.below.size
              simpa [icells_nil] using ho3) HB3.out)
            clear ho3 hg3
            go_wp2_with fail
            go_roundg (L.length - (i + 1))
            case measure => omega
            case rel => exact ⟨i + 1, _, rfl, by omega, by push_cast; rfl, HN⟩
          · obtain ⟨g2, o2, rfl, _⟩ := (own_IL HXk.out.own).at (i := 0) (by omega)
            by_cases hck : cx = k
            · subst hck
              have e : X.length = cx := by omega
              rw [e]
              have HE := Lib.hid e
              clear e hcx hkc hk
              go_wp2_with (at_builtin; refine wpList_append_srcO rfl (.tmp 43) (.tmp 46) 24 rfl W1.heap.size 3 i0 (.int .i64 0) 1 8 Try.underlying24 hi hz0 hz1 hz2 rfl (by decide) _ (cx + 1) (icells (X.take cx) ++ icells [(i : Int)]) rfl HO.out _ 0 (icells []) rfl (src_none _ _ _) rfl (icells_one _) (by have := HE.out; unfold maxLen; omega) (by have := HE.out; omega) HW2.out.size ?_)
              intro v3 w3 ho3 hg3
              have HB3 : Hid (Below w.heap.size w w3) := Lib.hid ((below_after HXk.out.below HW2.out).grown hg3 (Nat.le_trans HXk.out.below.size HW2.out.size) (fun k hk => Nat.le_trans HXk.out.below.size (own_block HO.out hk).1))
              have HN := Lib.hid (HNx.out w3 v3 (X.take cx ++ (i : Int) :: X.drop cx) ⟨cx, HPA.out.1, HPA.out.2.1, HPA.out.2.2, rfl⟩ (by
                have e : (X.take cx ++ (i : Int) :: X.drop cx).length = cx + 1 := by rw [List.length_append, List.length_cons, List.length_take, List.length_drop]; have := HE.out; omega
                rw [e, icells_app, icells_cons1]
                refine own_base ?_ HXk.out.below.size
                simpa [icells_nil, List.drop_of_length_le (Nat.le_of_eq HE.out)] using ho3) HB3.out)
              clear ho3 hg3
              go_wp2_with fail
              go_roundg (L.length - (i + 1))
              case measure => omega
              case rel => exact ⟨i + 1, _, rfl, by omega, by push_cast; rfl, HN⟩
            · have HSd : Hid (SrcO W1 (.slice (some ⟨g2, o2 + k, none⟩) (X.length - k) (cx - k)) (X.length - k) (icells (X.drop k))) := Lib.hid (src_drop HSX.out rfl hk)
              have HLd : Hid ((icells (X.drop k)).length = (X.length - k) * 1) := Lib.hid (by rw [icells_len, List.length_drop])
              have hnk : ((X.length : Nat) : Int) ≤ (cx : Int) := by omega
              go_wp2_with (at_builtin; refine wpList_append_srcO rfl (.tmp 43) (.tmp 46) 24 rfl W1.heap.size 3 i0 (.int .i64 0) 1 8 Try.underlying24 hi hz0 hz1 hz2 rfl (by decide) _ (k + 1) (icells (X.take k) ++ icells [(i : Int)]) rfl HO.out _ (X.length - k) (icells (X.drop k)) rfl (HSd.out.keep HW2.out) HLd.out (icells_one _) (by unfold maxLen; omega) (by omega) HW2.out.size ?_)
              intro v3 w3 ho3 hg3
              have HB3 : Hid (Below w.heap.size w w3) := Lib.hid ((below_after HXk.out.below HW2.out).grown hg3 (Nat.le_trans HXk.out.below.size HW2.out.size) (fun k hk => Nat.le_trans HXk.out.below.size (own_block HO.out hk).1))
              have HN := Lib.hid (HNx.out w3 v3 (X.take k ++ (i : Int) :: X.drop k) ⟨k, HPA.out.1, HPA.out.2.1, HPA.out.2.2, rfl⟩ (by
                have e : (X.take k ++ (i : Int) :: X.drop k).length = k + 1 + (X.length - k) := by rw [List.length_append, List.length_cons, List.length_take, List.length_drop]; omega
                rw [e, icells_app, icells_cons1]
                refine own_base ?_ HXk.out.below.size
                simpa [icells_nil] using ho3) HB3.out)
              clear ho3 hg3
              go_wp2_with fail
              go_roundg (L.length - (i + 1))
              case measure => omega
              case rel => exact ⟨i + 1, _, rfl, by omega, by push_cast; rfl, HN⟩
    · have HP := Lib.hid HX.out
      go_wp2_with fail
      go_ret
      exact ⟨_, X, rfl, by have h := HP.out.perm; rw [show i = L.length from by omega] at h; exact h, HP.out.srt, HP.out.own, HP.out.below⟩
end Go.Proofs.Ytmmahejdpanmjaa
