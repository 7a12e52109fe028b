/- The walk of order.merged at points. -/
import Derived.Test.YtmmahejdpanmjaaRowP
namespace Go.Proofs.Ytmmahejdpanmjaa
open Go.RowKit Go.Sort

def MgFP (sto sa sb fv : Value) (a : Act) : Prop := ∃ x4 x5 x6 x7 x9 x10 x11 x12 x13 x14 x15 x16 x17 x18 x19 x20 x21 x22 x23 x24 x25 x26 x27 x28 x29 x30 x31 x32 x33 x34 x35 x36 x37 x38 x39 x40 x41 x42 x43 x44 x45 : Value, a = { tmps := #[sto, sa, sb, fv, x4, x5, x6, x7, .slice none 0 0, x9, x10, x11, x12, x13, x14, x15, x16, x17, x18, x19, x20, x21, x22, x23, x24, x25, x26, x27, x28, x29, x30, x31, x32, x33, x34, x35, x36, x37, x38, x39, x40, x41, x42, x43, x44, x45], defers := [] }
/-- What holds at the label: what is merged, what is left, and that together they come to R. -/
structure MgSP (w : World) (base gt cap : Nat) (R : List (Int × Int)) (W : World) (sa sb : Value) (X A B : List (Int × Int)) : Prop where
  own : W.ownsRow base 47 2 (.slice (some ⟨gt, 0, none⟩) X.length cap) X.length (pcells X)
  a : PI W gt sa A
  b : PI W gt sb B
  grown : w.grownBy W (some gt)
  room : X.length + A.length + B.length ≤ cap
def MgJP (w : World) (base gt cap : Nat) (lt : Int × Int → Int × Int → Bool) (fv : Value) (R : List (Int × Int)) (ok : Int × Int → Prop) (last : Bool) (a : Act) (W : World) : Prop :=
  ∃ (X A B : List (Int × Int)) (sa sb : Value), MgFP (.slice (some ⟨gt, 0, none⟩) X.length cap) sa sb fv a ∧ MgSP w base gt cap R W sa sb X A B ∧ X ++ mrg lt A B = R ∧ (∀ x ∈ A, ok x) ∧ (∀ x ∈ B, ok x) ∧ (last = true → A = [] ∨ B = [])
def MgPostP (w : World) (base gt cap : Nat) (R : List (Int × Int)) (e : Ending) (w' : World) : Prop :=
  e = .returned (.slice (some ⟨gt, 0, none⟩) R.length cap) ∧ w'.ownsRow base 47 2 (.slice (some ⟨gt, 0, none⟩) R.length cap) R.length (pcells R) ∧ w.grownBy w' (some gt)

/-- One number more is merged. -/
theorem MgSP.pushB {w W w1 : World} {base gt cap : Nat} {R X A B : List (Int × Int)} {sa sb sb' : Value} {y : Int × Int} (h : MgSP w base gt cap R W sa sb X A (y :: B)) (hg : W.grownBy w1 (some gt))
    (ho : w1.ownsRow base 47 2 (.slice (some ⟨gt, 0, none⟩) (X.length + 1) cap) (X.length + 1) (pcells X ++ encP y)) (hb : PI w1 gt sb' B) : MgSP w base gt cap R w1 sa sb' (X ++ [y]) A B := by
  have hr := h.room
  refine ⟨?_, h.a.grown hg, hb, h.grown.trans hg, by rw [List.length_append]; simp at hr ⊢; omega⟩
  rw [List.length_append, pcells_app]; exact ho
theorem MgSP.pushA {w W w1 : World} {base gt cap : Nat} {R X A B : List (Int × Int)} {sa sb sa' : Value} {x : Int × Int} (h : MgSP w base gt cap R W sa sb X (x :: A) B) (hg : W.grownBy w1 (some gt))
    (ho : w1.ownsRow base 47 2 (.slice (some ⟨gt, 0, none⟩) (X.length + 1) cap) (X.length + 1) (pcells X ++ encP x)) (ha : PI w1 gt sa' A) : MgSP w base gt cap R w1 sa' sb (X ++ [x]) A B := by
  have hr := h.room
  refine ⟨?_, ha, h.b.grown hg, h.grown.trans hg, by rw [List.length_append]; simp at hr ⊢; omega⟩
  rw [List.length_append, pcells_app]; exact ho
set_option maxRecDepth 100000 in
set_option maxHeartbeats 4000000 in
theorem merged_anyP (F : FuncId) (lb : Array Value) (lt : Int × Int → Int × Int → Bool) (ok : Int × Int → Prop) {w : World} {base gt cap : Nat} {sa sb : Value} {X A B : List (Int × Int)}
    (hS : MgSP w base gt cap (X ++ mrg lt A B) w sa sb X A B) (hA : ∀ x ∈ A, ok x) (hB : ∀ x ∈ B, ok x)
    (hF : ∀ (args : Array Value) (W : World), Sem.run Try.prog (callFunc F args) W = .ok (Next.enter F args) W)
    (hK : ∀ (W : World) (x y : Int × Int), w.grownBy W (some gt) → ok x → ok y → Calls Try.prog F (#[.agg #[.int .i64 x.1, .int .i64 x.2], .agg #[.int .i64 y.1, .int .i64 y.2]] ++ lb) W fun e w' => e = .returned (.bool (lt x y)) ∧ Below W.heap.size W w') :
    Calls Try.prog 64 #[.slice (some ⟨gt, 0, none⟩) X.length cap, sa, sb, .func (.func F) #[] lb] w (MgPostP w base gt cap (X ++ mrg lt A B)) := by
  have hmx : Try.prog.follows .mixedOrders = true := by kernel_rfl
  obtain ⟨i0, hi, hz0, hz1, hz2⟩ := info_parts infoAP
  have HS := Lib.hid hS
  have HA := Lib.hid hA
  have HB := Lib.hid hB
  have HK := Lib.hid hK
  clear hS hA hB hK
  generalize hR : X ++ mrg lt A B = R at *
  have HR := Lib.hid hR
  clear hR
  go_enter Try.func64, Try.ntmps64
  go_wp2_with fail
  refine wp_scope_back 1 0 (MgJP w base gt cap lt (.func (.func F) #[] lb) R ok false) (MgJP w base gt cap lt (.func (.func F) #[] lb) R ok true) (fun a _ => lenV (a.tmps.getD 1 undef) + lenV (a.tmps.getD 2 undef)) rfl ⟨X, A, B, sa, sb, ⟨_, _, _, _, _, _, _, _, _, _, _, _, _, _, _, _, _, _, _, _, _, _, _, _, _, _, _, _, _, _, _, _, _, _, _, _, _, _, _, _, _, rfl⟩, HS.out, HR.out, HA.out, HB.out, fun h => by cases h⟩ ?_ ?_
  · rintro a W ⟨X, A, B, sa, sb, ⟨x4, x5, x6, x7, x9, x10, x11, x12, x13, x14, x15, x16, x17, x18, x19, x20, x21, x22, x23, x24, x25, x26, x27, x28, x29, x30, x31, x32, x33, x34, x35, x36, x37, x38, x39, x40, x41, x42, x43, x44, x45, rfl⟩, hS, hR, hA, hB, _⟩
    have HS2 := Lib.hid hS
    have HR2 := Lib.hid hR
    have HA2 := Lib.hid hA
    have HB2 := Lib.hid hB
    obtain ⟨qa, ca, rfl, hca, hia⟩ := hS.a
    obtain ⟨qb, cb, rfl, hcb, hib⟩ := hS.b
    clear hS hR hA hB
    cases A with
    | nil =>
      clear hia hib
      simp only [List.length_nil] at *
      go_wp2_with fail
      go_step3
      exact Or.inr ⟨rfl, X, [], B, _, _, ⟨_, _, _, _, _, _, _, _, _, _, _, _, _, _, _, _, _, _, _, _, _, _, _, _, _, _, _, _, _, _, _, _, _, _, _, _, _, _, _, _, _, rfl⟩, HS2.out, HR2.out, HA2.out, HB2.out, fun _ => Or.inl rfl⟩
    | cons x A =>
      have hla : (((x :: A).length : Int) == 0) = false := beq_eq_false_iff_ne.2 (by simp; omega)
      cases B with
      | nil =>
        clear hia hib
        generalize hn : (x :: A).length = na at *
        simp only [List.length_nil] at *
        go_wp2_with fail
        go_step3
        exact Or.inr ⟨rfl, X, x :: A, [], _, _, ⟨_, _, _, _, _, _, _, _, _, _, _, _, _, _, _, _, _, _, _, _, _, _, _, _, _, _, _, _, _, _, _, _, _, _, _, _, _, _, _, _, _, rfl⟩, HS2.out, HR2.out, HA2.out, HB2.out, fun _ => Or.inr rfl⟩
      | cons y B =>
        have HSA := Lib.hid HS2.out.a
        have HSB := Lib.hid HS2.out.b
        have HO := Lib.hid HS2.out.own
        have HRm : Hid (X.length + 1 ≤ cap) := Lib.hid (by have := HS2.out.room; simp at this; omega)
        obtain ⟨ga, oa, rfl, hga, a0, a0'⟩ := hia 0 (by simp)
        obtain ⟨gb, ob, rfl, hgb, b0, b0'⟩ := hib 0 (by simp)
        simp only [List.getElem_cons_zero, Nat.zero_mul, Nat.add_zero] at a0 b0 a0' b0'
        clear hia hib
        have hlb : (((y :: B).length : Int) == 0) = false := beq_eq_false_iff_ne.2 (by simp; omega)
        have hca1 : 1 ≤ ca := by simp at hca; omega
        have hcb1 : 1 ≤ cb := by simp at hcb; omega
        have hna : (0 : Int) < ((x :: A).length : Int) := by simp <;> omega
        have hnb : (0 : Int) < ((y :: B).length : Int) := by simp <;> omega
        have hnaN : 0 < (x :: A).length := by simp
        have hnbN : 0 < (y :: B).length := by simp
        have hna1 : (1 : Int) ≤ ((x :: A).length : Int) := by simp <;> omega
        have hnb1 : (1 : Int) ≤ ((y :: B).length : Int) := by simp <;> omega
        have KC : Hid (∀ (d : Nat) (os : Array Obj), Calls Try.prog F (#[.agg #[.int .i64 y.1, .int .i64 y.2], .agg #[.int .i64 x.1, .int .i64 x.2]] ++ lb) (grow (redrawn W d) os) fun e w'' => e = .returned (.bool (lt y x)) ∧ ∃ p : Regrown, w'' = grow (redrawn W p.d) p.os) :=
          Lib.hid (fun d os => Calls.regrown_of (HK.out _ y x (HS2.out.grown.trans (grown_below (below_regrown W d os))) (HB2.out y (by simp)) (HA2.out x (by simp))))
        have HLt : Hid (mrg lt (x :: A) (y :: B) = if lt y x then y :: mrg lt (x :: A) B else x :: mrg lt A (y :: B)) := Lib.hid (by rw [mrg])
        have r0 := fun d os => cell_regrown a0 d os
        have r1 := fun d os => cell_regrown b0 d os
        have r0' := fun d os => cell_regrown a0' d os
        have r1' := fun d os => cell_regrown b0' d os
        have HTA : Hid (∀ W', PI W' gt (.slice (some ⟨ga, oa, none⟩) (x :: A).length ca) (x :: A) → PI W' gt (.slice (some ⟨ga, oa + 2, none⟩) ((x :: A).length - 1) (ca - 1)) A) := Lib.hid (fun W' h => h.tail)
        have HTB : Hid (∀ W', PI W' gt (.slice (some ⟨gb, ob, none⟩) (y :: B).length cb) (y :: B) → PI W' gt (.slice (some ⟨gb, ob + 2, none⟩) ((y :: B).length - 1) (cb - 1)) B) := Lib.hid (fun W' h => h.tail)
        generalize (x :: A).length = na at *
        generalize (y :: B).length = nb at *
        generalize lt y x = l at *
        go_wp2_with fail
        refine wp_region_quiet_below (by assumption) (by kernel_rfl) ?_
        repeat (go_big_quiet_step (with_reducible exact KC.out _ _))
        refine wpQuiet_nil ?_
        rintro _ ⟨pg, rfl⟩
        have hb9 := below_regrown W pg.d pg.os
        have a1 := cell_regrown a0 pg.d pg.os
        have b1 := cell_regrown b0 pg.d pg.os
        have a1' := cell_regrown a0' pg.d pg.os
        have b1' := cell_regrown b0' pg.d pg.os
        clear r0 r1 KC a0 b0 r0' r1' a0' b0'
        generalize grow (redrawn W pg.d) pg.os = W2 at *
        have HG : Hid (W.grownBy W2 (some gt)) := Lib.hid (grown_below hb9)
        have HO2 : Hid (W2.ownsRow base 47 2 (.slice (some ⟨gt, 0, none⟩) X.length cap) X.length (pcells X)) := Lib.hid (ownk hb9 HO.out)
        clear hb9
        cases l
        · have HL2 : Hid (X ++ [x] ++ mrg lt A (y :: B) = R) := Lib.hid (by have h := HR2.out; rw [HLt.out] at h; simpa using h)
          have hS3 := a1
          have hS3' := a1'
          clear a1 b1 a1' b1'
          have HTl := Lib.hid (HTA.out W2 (HSA.out.grown HG.out))
          by_cases hc1 : ca = 1
          · subst hc1
            have hn1 : na = 1 := by omega
            go_wp2_with fail
            go_region_held3 (fun W' => W'.cell? ⟨ga, oa, none⟩ = some (.int .i64 x.1) ∧ W'.cell? ⟨ga, oa + 1, none⟩ = some (.int .i64 x.2) ∧ W2.grownBy W' (some gt)) (first | assumption | exact ⟨hS3, hS3', grown_drew _ _⟩ | exact keepG2 (by assumption) (World.grownBy_alloc _ _ _) hga) (first | ((refine step_append_roomV (by rfl) (.tmp 33) (.tmp 37) 22 (by rfl) base 47 i0 2 Try.underlying22 hi hz1 gt X.length cap (pcells X) (by rfl) (World.ownsRow.alloc (w := W2.drew) HO2.out _) _ 1 (encP x) (by rfl) (new_srcP _ _ _) (by rfl) (encP_one _) HRm.out ?_); intro wB hoB hgB; have hS6 := keepG2 (by assumption) hgB hga))
            have hz : A = [] := List.eq_nil_of_length_eq_zero (by have := HTl.out.len; omega)
            subst hz
            have HP := Lib.hid (HS2.out.pushA (HG.out.trans hS6.2.2) hoB (PI.nil _ _ (some ⟨ga, oa, none⟩) 0))
            clear hS6 hoB hgB hS3 hS3'
            go_wp2_with fail
            go_step3
            exact Or.inl ⟨rfl, ⟨X ++ [x], [], y :: B, _, _, ⟨_, _, _, _, _, _, _, _, _, _, _, _, _, _, _, _, _, _, _, _, _, _, _, _, _, _, _, _, _, _, _, _, _, _, _, _, _, _, _, _, _, by rw [List.length_append]; rfl⟩, HP.out, HL2.out, fun z hz => HA2.out z (by simp [hz]), HB2.out, fun h => by cases h⟩, by simp only [lenV, Array.getD]; simp; omega⟩
          · have hc2 : 1 < ca := by omega
            have hc3 : ¬ ca - 1 = 0 := by omega
            go_wp2_with fail
            go_region_held3 (fun W' => W'.cell? ⟨ga, oa, none⟩ = some (.int .i64 x.1) ∧ W'.cell? ⟨ga, oa + 1, none⟩ = some (.int .i64 x.2) ∧ W2.grownBy W' (some gt)) (first | assumption | exact ⟨hS3, hS3', grown_drew _ _⟩ | exact keepG2 (by assumption) (World.grownBy_alloc _ _ _) hga) (first | ((refine step_append_roomV (by rfl) (.tmp 33) (.tmp 37) 22 (by rfl) base 47 i0 2 Try.underlying22 hi hz1 gt X.length cap (pcells X) (by rfl) (World.ownsRow.alloc (w := W2.drew) HO2.out _) _ 1 (encP x) (by rfl) (new_srcP _ _ _) (by rfl) (encP_one _) HRm.out ?_); intro wB hoB hgB; have hS6 := keepG2 (by assumption) hgB hga))
            have HP := Lib.hid (HS2.out.pushA (HG.out.trans hS6.2.2) hoB (HTl.out.grown hS6.2.2))
            clear hS6 hoB hgB hS3 hS3'
            go_wp2_with fail
            go_step3
            exact Or.inl ⟨rfl, ⟨X ++ [x], A, y :: B, _, _, ⟨_, _, _, _, _, _, _, _, _, _, _, _, _, _, _, _, _, _, _, _, _, _, _, _, _, _, _, _, _, _, _, _, _, _, _, _, _, _, _, _, _, by rw [List.length_append]; rfl⟩, HP.out, HL2.out, fun z hz => HA2.out z (by simp [hz]), HB2.out, fun h => by cases h⟩, by simp only [lenV, Array.getD]; simp; omega⟩
        · have HL2 : Hid (X ++ [y] ++ mrg lt (x :: A) B = R) := Lib.hid (by have h := HR2.out; rw [HLt.out] at h; simpa using h)
          have hS3 := b1
          have hS3' := b1'
          clear a1 b1 a1' b1'
          have HTl := Lib.hid (HTB.out W2 (HSB.out.grown HG.out))
          by_cases hc1 : cb = 1
          · subst hc1
            have hn1 : nb = 1 := by omega
            go_wp2_with fail
            go_region_held3 (fun W' => W'.cell? ⟨gb, ob, none⟩ = some (.int .i64 y.1) ∧ W'.cell? ⟨gb, ob + 1, none⟩ = some (.int .i64 y.2) ∧ W2.grownBy W' (some gt)) (first | assumption | exact ⟨hS3, hS3', grown_drew _ _⟩ | exact keepG2 (by assumption) (World.grownBy_alloc _ _ _) hgb) (first | ((refine step_append_roomV (by rfl) (.tmp 25) (.tmp 29) 22 (by rfl) base 47 i0 2 Try.underlying22 hi hz1 gt X.length cap (pcells X) (by rfl) (World.ownsRow.alloc (w := W2.drew) HO2.out _) _ 1 (encP y) (by rfl) (new_srcP _ _ _) (by rfl) (encP_one _) HRm.out ?_); intro wB hoB hgB; have hS6 := keepG2 (by assumption) hgB hgb))
            have hz : B = [] := List.eq_nil_of_length_eq_zero (by have := HTl.out.len; omega)
            subst hz
            have HP := Lib.hid (HS2.out.pushB (HG.out.trans hS6.2.2) hoB (PI.nil _ _ (some ⟨gb, ob, none⟩) 0))
            clear hS6 hoB hgB hS3 hS3'
            go_wp2_with fail
            go_step3
            exact Or.inl ⟨rfl, ⟨X ++ [y], x :: A, [], _, _, ⟨_, _, _, _, _, _, _, _, _, _, _, _, _, _, _, _, _, _, _, _, _, _, _, _, _, _, _, _, _, _, _, _, _, _, _, _, _, _, _, _, _, by rw [List.length_append]; rfl⟩, HP.out, HL2.out, HA2.out, fun z hz => HB2.out z (by simp [hz]), fun h => by cases h⟩, by simp only [lenV, Array.getD]; simp; omega⟩
          · have hc2 : 1 < cb := by omega
            have hc3 : ¬ cb - 1 = 0 := by omega
            go_wp2_with fail
            go_region_held3 (fun W' => W'.cell? ⟨gb, ob, none⟩ = some (.int .i64 y.1) ∧ W'.cell? ⟨gb, ob + 1, none⟩ = some (.int .i64 y.2) ∧ W2.grownBy W' (some gt)) (first | assumption | exact ⟨hS3, hS3', grown_drew _ _⟩ | exact keepG2 (by assumption) (World.grownBy_alloc _ _ _) hgb) (first | ((refine step_append_roomV (by rfl) (.tmp 25) (.tmp 29) 22 (by rfl) base 47 i0 2 Try.underlying22 hi hz1 gt X.length cap (pcells X) (by rfl) (World.ownsRow.alloc (w := W2.drew) HO2.out _) _ 1 (encP y) (by rfl) (new_srcP _ _ _) (by rfl) (encP_one _) HRm.out ?_); intro wB hoB hgB; have hS6 := keepG2 (by assumption) hgB hgb))
            have HP := Lib.hid (HS2.out.pushB (HG.out.trans hS6.2.2) hoB (HTl.out.grown hS6.2.2))
            clear hS6 hoB hgB hS3 hS3'
            go_wp2_with fail
            go_step3
            exact Or.inl ⟨rfl, ⟨X ++ [y], x :: A, B, _, _, ⟨_, _, _, _, _, _, _, _, _, _, _, _, _, _, _, _, _, _, _, _, _, _, _, _, _, _, _, _, _, _, _, _, _, _, _, _, _, _, _, _, _, by rw [List.length_append]; rfl⟩, HP.out, HL2.out, HA2.out, fun z hz => HB2.out z (by simp [hz]), fun h => by cases h⟩, by simp only [lenV, Array.getD]; simp; omega⟩
  · rintro a W ⟨X, A, B, sa, sb, ⟨x4, x5, x6, x7, x9, x10, x11, x12, x13, x14, x15, x16, x17, x18, x19, x20, x21, x22, x23, x24, x25, x26, x27, x28, x29, x30, x31, x32, x33, x34, x35, x36, x37, x38, x39, x40, x41, x42, x43, x44, x45, rfl⟩, hS, hR, hA, hB, hlast⟩
    have HX : Hid (X ++ A ++ B = R) := Lib.hid (by
      rw [← hR, List.append_assoc]
      congr 1
      rcases hlast rfl with rfl | rfl
      · simp [mrg]
      · rw [mrg_nil]; simp)
    have hroom := hS.room
    go_wp2_with (at_builtin; refine wpList_append_roomV rfl _ _ 22 rfl base 47 i0 2 Try.underlying22 hi hz1 gt _ cap _ rfl hS.own _ A.length (pcells A) rfl hS.a.src (pcells_len A) (pcells_one A) (by omega) ?_)
    intro w1 ho hg
    go_wp2_with (at_builtin; refine wpList_append_roomV rfl _ _ 22 rfl base 47 i0 2 Try.underlying22 hi hz1 gt _ cap _ rfl ho _ B.length (pcells B) rfl (hS.b.grown hg).src (pcells_len B) (pcells_one B) (by omega) ?_)
    intro w2 ho2 hg2
    have HG := Lib.hid ((hS.grown.trans hg).trans hg2)
    have HO : Hid (X.length + A.length + B.length = R.length ∧ w2.ownsRow base 47 2 (.slice (some ⟨gt, 0, none⟩) R.length cap) R.length (pcells R)) := Lib.hid (by
      have e : X.length + A.length + B.length = R.length := by rw [← HX.out, List.length_append, List.length_append]
      refine ⟨e, ?_⟩
      have e2 : pcells X ++ (pcells A ++ pcells B) = pcells R := by rw [← HX.out, pcells_app, pcells_app, List.append_assoc]
      rw [e] at ho2
      first
        | (rw [e2] at ho2; exact ho2)
        | (rw [List.append_assoc, e2] at ho2; exact ho2))
    clear ho hg ho2 hg2 hS hR hA hB hlast hroom
    go_wp2_with fail
    simp only [Exit.two]
    go_ret
    exact ⟨by rw [HO.out.1]; rfl, HO.out.2, HG.out⟩
end Go.Proofs.Ytmmahejdpanmjaa
