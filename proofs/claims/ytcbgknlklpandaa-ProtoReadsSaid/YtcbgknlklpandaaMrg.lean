/- The walk of order.merged at numbers. -/
import Derived.Test.YtcbgknlklpandaaOrd
namespace Go.Proofs.Ytcbgknlklpandaa
open Go.RowKit Go.Sort

theorem wp_scope_back {P : Program} {a : Act} {w : World} {Q : Exit → Act → World → Prop} {b r2 : Code} (l1 l2 : Nat) (J1 J2 : Act → World → Prop) (μ : Act → World → Nat)
    (hf2 : findLabel ((Code.label l1).seq b) l2 = some r2) (start : J1 a w)
    (pass1 : ∀ a w, J1 a w → b.wp P (Exit.two l1 l2 (fun a' w' => J1 a' w' ∧ μ a' w' < μ a w) J2 Q) a w)
    (pass2 : ∀ a w, J2 a w → r2.wp P (Exit.two l1 l2 (fun _ _ => False) (fun _ _ => False) Q) a w) : (Code.scope ((Code.label l1).seq b)).wp P Q a w := by
  refine wp_scope_two (r1 := Code.skip.seq b) l1 l2 J1 J2 μ (by simp [findLabel]) hf2 (wp_seq (wp_label ?_)) (fun a w h => wp_seq (wp_skip (pass1 a w h))) pass2
  show b.wp P (Exit.two l1 l2 J1 J2 Q) a w
  refine wp_mono (pass1 a w start) ?_
  intro e a' w' h
  cases e with
  | goto l' =>
    rcases h with ⟨h1, h2, _⟩ | h
    · exact Or.inl ⟨h1, h2⟩
    · exact Or.inr h
  | normal => exact h
  | exit id => exact h
  | ret => exact h
  | panic ch => exact h
  | outgrown => exact h
def lenV : Value → Nat
  | .slice _ n _ => n
  | _ => 0
def MgF (sto sa sb fv : Value) (a : Act) : Prop := ∃ x4 x5 x6 x7 x9 x10 x11 x12 x13 x14 x15 x16 x17 x18 x19 x20 x21 x22 x23 x24 x25 x26 x27 x28 x29 x30 x31 x32 x33 x34 x35 x36 x37 x38 x39 x40 x41 x42 x43 x44 x45 : Value, a = { tmps := #[sto, sa, sb, fv, x4, x5, x6, x7, .slice none 0 0, x9, x10, x11, x12, x13, x14, x15, x16, x17, x18, x19, x20, x21, x22, x23, x24, x25, x26, x27, x28, x29, x30, x31, x32, x33, x34, x35, x36, x37, x38, x39, x40, x41, x42, x43, x44, x45], defers := [] }
/-- What holds at the label: what is merged, what is left, and that together they come to R. -/
structure MgS (w : World) (base gt cap : Nat) (R : List Int) (W : World) (sa sb : Value) (X A B : List Int) : Prop where
  own : W.ownsRow base 3 1 (.slice (some ⟨gt, 0, none⟩) X.length cap) X.length (icells X)
  a : IL W gt sa A
  b : IL W gt sb B
  grown : w.grownBy W (some gt)
  room : X.length + A.length + B.length ≤ cap
def MgJ (w : World) (base gt cap : Nat) (lt : Int → Int → Bool) (fv : Value) (R : List Int) (ok : Int → Prop) (last : Bool) (a : Act) (W : World) : Prop :=
  ∃ (X A B : List Int) (sa sb : Value), MgF (.slice (some ⟨gt, 0, none⟩) X.length cap) sa sb fv a ∧ MgS w base gt cap R W sa sb X A B ∧ X ++ mrg lt A B = R ∧ (∀ x ∈ A, ok x) ∧ (∀ x ∈ B, ok x) ∧ (last = true → A = [] ∨ B = [])
def MgPost (w : World) (base gt cap : Nat) (R : List Int) (e : Ending) (w' : World) : Prop :=
  e = .returned (.slice (some ⟨gt, 0, none⟩) R.length cap) ∧ w'.ownsRow base 3 1 (.slice (some ⟨gt, 0, none⟩) R.length cap) R.length (icells R) ∧ w.grownBy w' (some gt)

theorem IL.nil (W : World) (gt : Nat) (q : Option Addr) (c : Nat) : IL W gt (.slice q 0 c) [] := ⟨q, c, rfl, Nat.zero_le _, fun i h => absurd h (by simp)⟩
theorem IL.tail {W : World} {gt g o c : Nat} {x : Int} {L : List Int} (h : IL W gt (.slice (some ⟨g, o, none⟩) (x :: L).length c) (x :: L)) : IL W gt (.slice (some ⟨g, o + 1, none⟩) L.length (c - 1)) L := by
  obtain ⟨q, c', e, hc, hi⟩ := h
  injection e with e1 _ e3
  subst e1; subst e3
  rw [List.length_cons] at hc
  refine ⟨_, _, rfl, by omega, fun i hlt => ?_⟩
  obtain ⟨g', o', e, hne, hcell⟩ := hi (i + 1) (by rw [List.length_cons]; omega)
  injection e with e
  injection e with e1 e2
  subst e1; subst e2
  refine ⟨g, o + 1, rfl, hne, ?_⟩
  rw [show o + 1 + i = o + (i + 1) from by omega]
  simpa using hcell
theorem new_src1 (W : World) (T : TypeId) (x : Int) : ∃ q c, Value.slice (some ⟨W.heap.size, 0, none⟩) 1 1 = .slice q 1 c ∧ (1 ≠ 0 → ∃ g o, q = some ⟨g, o, none⟩ ∧ ∀ j u, ([.int .i64 x] : List Value)[j]? = some u → (W.alloc (.cells #[.int .i64 x] T)).cell? ((⟨g, o, none⟩ : Addr).add j) = some u) := by
  refine ⟨_, _, rfl, fun _ => ⟨_, _, rfl, fun j u hj => ?_⟩⟩
  match j, hj with
  | 0, hj => simp at hj; subst hj; rw [add_at]; go_simp
theorem one_cell {x : Int} : ∀ u ∈ ([.int .i64 x] : List Value), u.oneCell' = true := by
  intro u hu; simp at hu; subst hu; rfl
theorem grown_below {W w1 : World} {row : Option Nat} (h : Below W.heap.size W w1) : W.grownBy w1 row := ⟨h.os, h.tape, h.output, h.size, fun k hk _ => h.block k hk⟩
theorem grown_drew (W : World) (row : Option Nat) : W.grownBy W.drew row := ⟨rfl, rfl, rfl, Nat.le_refl _, fun _ _ _ => rfl⟩
/-- One number more is merged. -/
theorem MgS.pushB {w W w1 : World} {base gt cap : Nat} {R X A B : List Int} {sa sb sb' : Value} {y : Int} (h : MgS w base gt cap R W sa sb X A (y :: B)) (hg : W.grownBy w1 (some gt))
    (ho : w1.ownsRow base 3 1 (.slice (some ⟨gt, 0, none⟩) (X.length + 1) cap) (X.length + 1) (icells X ++ [.int .i64 y])) (hb : IL w1 gt sb' B) : MgS w base gt cap R w1 sa sb' (X ++ [y]) A B := by
  have hr := h.room
  refine ⟨?_, h.a.grown hg, hb, h.grown.trans hg, by rw [List.length_append]; simp at hr ⊢; omega⟩
  rw [List.length_append, icells_app]; exact ho
theorem MgS.pushA {w W w1 : World} {base gt cap : Nat} {R X A B : List Int} {sa sb sa' : Value} {x : Int} (h : MgS w base gt cap R W sa sb X (x :: A) B) (hg : W.grownBy w1 (some gt))
    (ho : w1.ownsRow base 3 1 (.slice (some ⟨gt, 0, none⟩) (X.length + 1) cap) (X.length + 1) (icells X ++ [.int .i64 x])) (ha : IL w1 gt sa' A) : MgS w base gt cap R w1 sa' sb (X ++ [x]) A B := by
  have hr := h.room
  refine ⟨?_, ha, h.b.grown hg, h.grown.trans hg, by rw [List.length_append]; simp at hr ⊢; omega⟩
  rw [List.length_append, icells_app]; exact ho
theorem keepG {W w1 w2 : World} {gt g o : Nat} {v : Value} (h : w1.cell? ⟨g, o, none⟩ = some v ∧ W.grownBy w1 (some gt)) (hg : w1.grownBy w2 (some gt)) (hne : g ≠ gt) : w2.cell? ⟨g, o, none⟩ = some v ∧ W.grownBy w2 (some gt) :=
  ⟨hg.cell h.1 (by simp [hne]), h.2.trans hg⟩
theorem IL.len {W : World} {gt : Nat} {q : Option Addr} {n c : Nat} {L : List Int} (h : IL W gt (.slice q n c) L) : L.length = n := by
  obtain ⟨_, _, e, _⟩ := h
  injection e with _ e2
  exact e2.symm
theorem infoI : (Try.prog.info? 3).map (fun i => (i.zero, i.size, i.bytes)) = some (some (.int .i64 0), 1, 8) := by kernel_rfl

set_option maxRecDepth 100000 in
set_option maxHeartbeats 4000000 in
theorem merged_any (F : FuncId) (lb : Array Value) (lt : Int → Int → Bool) (ok : Int → Prop) {w : World} {base gt cap : Nat} {sa sb : Value} {X A B : List Int}
    (hS : MgS w base gt cap (X ++ mrg lt A B) w sa sb X A B) (hA : ∀ x ∈ A, ok x) (hB : ∀ x ∈ B, ok x)
    (hF : ∀ (args : Array Value) (W : World), Sem.run Try.prog (callFunc F args) W = .ok (Next.enter F args) W)
    (hK : ∀ (W : World) (x y : Int), w.grownBy W (some gt) → ok x → ok y → Calls Try.prog F (#[.int .i64 x, .int .i64 y] ++ lb) W fun e w' => e = .returned (.bool (lt x y)) ∧ Below W.heap.size W w') :
    Calls Try.prog 122 #[.slice (some ⟨gt, 0, none⟩) X.length cap, sa, sb, .func (.func F) #[] lb] w (MgPost w base gt cap (X ++ mrg lt A B)) := by
  have hmx : Try.prog.follows .mixedOrders = true := by kernel_rfl
  obtain ⟨i0, hi, hz0, hz1, hz2⟩ := info_parts infoI
  have HS := Lib.hid hS
  have HA := Lib.hid hA
  have HB := Lib.hid hB
  have HK := Lib.hid hK
  clear hS hA hB hK
  generalize hR : X ++ mrg lt A B = R at *
  have HR := Lib.hid hR
  clear hR
  go_enter Try.func122, Try.ntmps122
  go_wp2_with fail
  refine wp_scope_back 1 0 (MgJ w base gt cap lt (.func (.func F) #[] lb) R ok false) (MgJ w base gt cap lt (.func (.func F) #[] lb) R ok true) (fun a _ => lenV (a.tmps.getD 1 undef) + lenV (a.tmps.getD 2 undef)) rfl ⟨X, A, B, sa, sb, ⟨_, _, _, _, _, _, _, _, _, _, _, _, _, _, _, _, _, _, _, _, _, _, _, _, _, _, _, _, _, _, _, _, _, _, _, _, _, _, _, _, _, rfl⟩, HS.out, HR.out, HA.out, HB.out, fun h => by cases h⟩ ?_ ?_
  · rintro a W ⟨X, A, B, sa, sb, ⟨x4, x5, x6, x7, x9, x10, x11, x12, x13, x14, x15, x16, x17, x18, x19, x20, x21, x22, x23, x24, x25, x26, x27, x28, x29, x30, x31, x32, x33, x34, x35, x36, x37, x38, x39, x40, x41, x42, x43, x44, x45, rfl⟩, hS, hR, hA, hB, _⟩
    have HS2 := Lib.hid hS
    have HR2 := Lib.hid hR
    have HA2 := Lib.hid hA
    have HB2 := Lib.hid hB
    obtain ⟨qa, ca, rfl, hca, hia⟩ := hS.a
    obtain ⟨qb, cb, rfl, hcb, hib⟩ := hS.b
    clear hS hR hA hB
    cases A with
    | nil =>
      clear hia hib
      simp only [List.length_nil] at *
      go_wp2_with fail
      go_step3
      exact Or.inr ⟨rfl, X, [], B, _, _, ⟨_, _, _, _, _, _, _, _, _, _, _, _, _, _, _, _, _, _, _, _, _, _, _, _, _, _, _, _, _, _, _, _, _, _, _, _, _, _, _, _, _, rfl⟩, HS2.out, HR2.out, HA2.out, HB2.out, fun _ => Or.inl rfl⟩
    | cons x A =>
      have hla : (((x :: A).length : Int) == 0) = false := beq_eq_false_iff_ne.2 (by simp; omega)
      cases B with
      | nil =>
        clear hia hib
        generalize hn : (x :: A).length = na at *
        simp only [List.length_nil] at *
        go_wp2_with fail
        go_step3
        exact Or.inr ⟨rfl, X, x :: A, [], _, _, ⟨_, _, _, _, _, _, _, _, _, _, _, _, _, _, _, _, _, _, _, _, _, _, _, _, _, _, _, _, _, _, _, _, _, _, _, _, _, _, _, _, _, rfl⟩, HS2.out, HR2.out, HA2.out, HB2.out, fun _ => Or.inr rfl⟩
      | cons y B =>
        have HSA := Lib.hid HS2.out.a
        have HSB := Lib.hid HS2.out.b
        have HO := Lib.hid HS2.out.own
        have HRm : Hid (X.length + 1 ≤ cap) := Lib.hid (by have := HS2.out.room; simp at this; omega)
        obtain ⟨ga, oa, rfl, hga, a0⟩ := hia 0 (by simp)
        obtain ⟨gb, ob, rfl, hgb, b0⟩ := hib 0 (by simp)
        simp only [List.getElem_cons_zero, Nat.add_zero] at a0 b0
        clear hia hib
        have hlb : (((y :: B).length : Int) == 0) = false := beq_eq_false_iff_ne.2 (by simp; omega)
        have hca1 : 1 ≤ ca := by simp at hca; omega
        have hcb1 : 1 ≤ cb := by simp at hcb; omega
        have hna : (0 : Int) < ((x :: A).length : Int) := by simp <;> omega
        have hnb : (0 : Int) < ((y :: B).length : Int) := by simp <;> omega
        have hnaN : 0 < (x :: A).length := by simp
        have hnbN : 0 < (y :: B).length := by simp
        have hna1 : (1 : Int) ≤ ((x :: A).length : Int) := by simp <;> omega
        have hnb1 : (1 : Int) ≤ ((y :: B).length : Int) := by simp <;> omega
        have KC : Hid (∀ (d : Nat) (os : Array Obj), Calls Try.prog F (#[.int .i64 y, .int .i64 x] ++ lb) (grow (redrawn W d) os) fun e w'' => e = .returned (.bool (lt y x)) ∧ ∃ p : Regrown, w'' = grow (redrawn W p.d) p.os) :=
          Lib.hid (fun d os => Calls.regrown_of (HK.out _ y x (HS2.out.grown.trans (grown_below (below_regrown W d os))) (HB2.out y (by simp)) (HA2.out x (by simp))))
        have HLt : Hid (mrg lt (x :: A) (y :: B) = if lt y x then y :: mrg lt (x :: A) B else x :: mrg lt A (y :: B)) := Lib.hid (by rw [mrg])
        have r0 := fun d os => cell_regrown a0 d os
        have r1 := fun d os => cell_regrown b0 d os
        have HTA : Hid (∀ W', IL W' gt (.slice (some ⟨ga, oa, none⟩) (x :: A).length ca) (x :: A) → IL W' gt (.slice (some ⟨ga, oa + 1, none⟩) ((x :: A).length - 1) (ca - 1)) A) := Lib.hid (fun W' h => h.tail)
        have HTB : Hid (∀ W', IL W' gt (.slice (some ⟨gb, ob, none⟩) (y :: B).length cb) (y :: B) → IL W' gt (.slice (some ⟨gb, ob + 1, none⟩) ((y :: B).length - 1) (cb - 1)) B) := Lib.hid (fun W' h => h.tail)
        generalize (x :: A).length = na at *
        generalize (y :: B).length = nb at *
        generalize lt y x = l at *
        go_wp2_with fail
        refine wp_region_quiet_below (by assumption) (by kernel_rfl) ?_
        repeat (go_big_quiet_step (with_reducible exact KC.out _ _))
        refine wpQuiet_nil ?_
        rintro _ ⟨pg, rfl⟩
        have hb9 := below_regrown W pg.d pg.os
        have a1 := cell_regrown a0 pg.d pg.os
        have b1 := cell_regrown b0 pg.d pg.os
        clear r0 r1 KC a0 b0
        generalize grow (redrawn W pg.d) pg.os = W2 at *
        have HG : Hid (W.grownBy W2 (some gt)) := Lib.hid (grown_below hb9)
        have HO2 : Hid (W2.ownsRow base 3 1 (.slice (some ⟨gt, 0, none⟩) X.length cap) X.length (icells X)) := Lib.hid (ownk hb9 HO.out)
        clear hb9
        cases l
        · have HL2 : Hid (X ++ [x] ++ mrg lt A (y :: B) = R) := Lib.hid (by have h := HR2.out; rw [HLt.out] at h; simpa using h)
          have hS3 := a1
          clear a1 b1
          have HTl := Lib.hid (HTA.out W2 (HSA.out.grown HG.out))
          by_cases hc1 : ca = 1
          · subst hc1
            have hn1 : na = 1 := by omega
            go_wp2_with fail
            go_region_held3 (fun W' => W'.cell? ⟨ga, oa, none⟩ = some (.int .i64 x) ∧ W2.grownBy W' (some gt)) (first | assumption | exact ⟨hS3, grown_drew _ _⟩ | exact keepG (by assumption) (World.grownBy_alloc _ _ _) hga) (first | ((refine step_append_roomV (by rfl) (.tmp 33) (.tmp 37) 41 (by rfl) base 3 i0 1 Try.underlying41 hi hz1 gt X.length cap (icells X) (by rfl) (World.ownsRow.alloc (w := W2.drew) HO2.out _) _ 1 [.int .i64 x] (by rfl) (new_src1 _ _ _) (by rfl) one_cell HRm.out ?_); intro wB hoB hgB; have hS6 := keepG (by assumption) hgB hga))
            have hz : A = [] := List.eq_nil_of_length_eq_zero (by have := HTl.out.len; omega)
            subst hz
            have HP := Lib.hid (HS2.out.pushA (HG.out.trans hS6.2) hoB (IL.nil _ _ (some ⟨ga, oa, none⟩) 0))
            clear hS6 hoB hgB hS3
            go_wp2_with fail
            go_step3
            exact Or.inl ⟨rfl, ⟨X ++ [x], [], y :: B, _, _, ⟨_, _, _, _, _, _, _, _, _, _, _, _, _, _, _, _, _, _, _, _, _, _, _, _, _, _, _, _, _, _, _, _, _, _, _, _, _, _, _, _, _, by rw [List.length_append]; rfl⟩, HP.out, HL2.out, fun z hz => HA2.out z (by simp [hz]), HB2.out, fun h => by cases h⟩, by simp only [lenV, Array.getD]; simp; omega⟩
          · have hc2 : 1 < ca := by omega
            have hc3 : ¬ ca - 1 = 0 := by omega
            go_wp2_with fail
            go_region_held3 (fun W' => W'.cell? ⟨ga, oa, none⟩ = some (.int .i64 x) ∧ W2.grownBy W' (some gt)) (first | assumption | exact ⟨hS3, grown_drew _ _⟩ | exact keepG (by assumption) (World.grownBy_alloc _ _ _) hga) (first | ((refine step_append_roomV (by rfl) (.tmp 33) (.tmp 37) 41 (by rfl) base 3 i0 1 Try.underlying41 hi hz1 gt X.length cap (icells X) (by rfl) (World.ownsRow.alloc (w := W2.drew) HO2.out _) _ 1 [.int .i64 x] (by rfl) (new_src1 _ _ _) (by rfl) one_cell HRm.out ?_); intro wB hoB hgB; have hS6 := keepG (by assumption) hgB hga))
            have HP := Lib.hid (HS2.out.pushA (HG.out.trans hS6.2) hoB (HTl.out.grown hS6.2))
            clear hS6 hoB hgB hS3
            go_wp2_with fail
            go_step3
            exact Or.inl ⟨rfl, ⟨X ++ [x], A, y :: B, _, _, ⟨_, _, _, _, _, _, _, _, _, _, _, _, _, _, _, _, _, _, _, _, _, _, _, _, _, _, _, _, _, _, _, _, _, _, _, _, _, _, _, _, _, by rw [List.length_append]; rfl⟩, HP.out, HL2.out, fun z hz => HA2.out z (by simp [hz]), HB2.out, fun h => by cases h⟩, by simp only [lenV, Array.getD]; simp; omega⟩
        · have HL2 : Hid (X ++ [y] ++ mrg lt (x :: A) B = R) := Lib.hid (by have h := HR2.out; rw [HLt.out] at h; simpa using h)
          have hS3 := b1
          clear a1 b1
          have HTl := Lib.hid (HTB.out W2 (HSB.out.grown HG.out))
          by_cases hc1 : cb = 1
          · subst hc1
            have hn1 : nb = 1 := by omega
            go_wp2_with fail
            go_region_held3 (fun W' => W'.cell? ⟨gb, ob, none⟩ = some (.int .i64 y) ∧ W2.grownBy W' (some gt)) (first | assumption | exact ⟨hS3, grown_drew _ _⟩ | exact keepG (by assumption) (World.grownBy_alloc _ _ _) hgb) (first | ((refine step_append_roomV (by rfl) (.tmp 25) (.tmp 29) 41 (by rfl) base 3 i0 1 Try.underlying41 hi hz1 gt X.length cap (icells X) (by rfl) (World.ownsRow.alloc (w := W2.drew) HO2.out _) _ 1 [.int .i64 y] (by rfl) (new_src1 _ _ _) (by rfl) one_cell HRm.out ?_); intro wB hoB hgB; have hS6 := keepG (by assumption) hgB hgb))
            have hz : B = [] := List.eq_nil_of_length_eq_zero (by have := HTl.out.len; omega)
            subst hz
            have HP := Lib.hid (HS2.out.pushB (HG.out.trans hS6.2) hoB (IL.nil _ _ (some ⟨gb, ob, none⟩) 0))
            clear hS6 hoB hgB hS3
            go_wp2_with fail
            go_step3
            exact Or.inl ⟨rfl, ⟨X ++ [y], x :: A, [], _, _, ⟨_, _, _, _, _, _, _, _, _, _, _, _, _, _, _, _, _, _, _, _, _, _, _, _, _, _, _, _, _, _, _, _, _, _, _, _, _, _, _, _, _, by rw [List.length_append]; rfl⟩, HP.out, HL2.out, HA2.out, fun z hz => HB2.out z (by simp [hz]), fun h => by cases h⟩, by simp only [lenV, Array.getD]; simp; omega⟩
          · have hc2 : 1 < cb := by omega
            have hc3 : ¬ cb - 1 = 0 := by omega
            go_wp2_with fail
            go_region_held3 (fun W' => W'.cell? ⟨gb, ob, none⟩ = some (.int .i64 y) ∧ W2.grownBy W' (some gt)) (first | assumption | exact ⟨hS3, grown_drew _ _⟩ | exact keepG (by assumption) (World.grownBy_alloc _ _ _) hgb) (first | ((refine step_append_roomV (by rfl) (.tmp 25) (.tmp 29) 41 (by rfl) base 3 i0 1 Try.underlying41 hi hz1 gt X.length cap (icells X) (by rfl) (World.ownsRow.alloc (w := W2.drew) HO2.out _) _ 1 [.int .i64 y] (by rfl) (new_src1 _ _ _) (by rfl) one_cell HRm.out ?_); intro wB hoB hgB; have hS6 := keepG (by assumption) hgB hgb))
            have HP := Lib.hid (HS2.out.pushB (HG.out.trans hS6.2) hoB (HTl.out.grown hS6.2))
            clear hS6 hoB hgB hS3
            go_wp2_with fail
            go_step3
            exact Or.inl ⟨rfl, ⟨X ++ [y], x :: A, B, _, _, ⟨_, _, _, _, _, _, _, _, _, _, _, _, _, _, _, _, _, _, _, _, _, _, _, _, _, _, _, _, _, _, _, _, _, _, _, _, _, _, _, _, _, by rw [List.length_append]; rfl⟩, HP.out, HL2.out, HA2.out, fun z hz => HB2.out z (by simp [hz]), fun h => by cases h⟩, by simp only [lenV, Array.getD]; simp; omega⟩
  · rintro a W ⟨X, A, B, sa, sb, ⟨x4, x5, x6, x7, x9, x10, x11, x12, x13, x14, x15, x16, x17, x18, x19, x20, x21, x22, x23, x24, x25, x26, x27, x28, x29, x30, x31, x32, x33, x34, x35, x36, x37, x38, x39, x40, x41, x42, x43, x44, x45, rfl⟩, hS, hR, hA, hB, hlast⟩
    have HX : Hid (X ++ A ++ B = R) := Lib.hid (by
      rw [← hR, List.append_assoc]
      congr 1
      rcases hlast rfl with rfl | rfl
      · simp [mrg]
      · rw [mrg_nil]; simp)
    have hroom := hS.room
    go_wp2_with (at_builtin; refine wpList_append_roomV rfl _ _ 41 rfl base 3 i0 1 Try.underlying41 hi hz1 gt _ cap _ rfl hS.own _ A.length (icells A) rfl hS.a.src (icells_len A) (icells_one A) (by omega) ?_)
    intro w1 ho hg
    go_wp2_with (at_builtin; refine wpList_append_roomV rfl _ _ 41 rfl base 3 i0 1 Try.underlying41 hi hz1 gt _ cap _ rfl ho _ B.length (icells B) rfl (hS.b.grown hg).src (icells_len B) (icells_one B) (by omega) ?_)
    intro w2 ho2 hg2
    have HG := Lib.hid ((hS.grown.trans hg).trans hg2)
    have HO : Hid (X.length + A.length + B.length = R.length ∧ w2.ownsRow base 3 1 (.slice (some ⟨gt, 0, none⟩) R.length cap) R.length (icells R)) := Lib.hid (by
      have e : X.length + A.length + B.length = R.length := by rw [← HX.out, List.length_append, List.length_append]
      refine ⟨e, ?_⟩
      have e2 : icells X ++ (icells A ++ icells B) = icells R := by rw [← HX.out, icells_app, icells_app, List.append_assoc]
      rw [e] at ho2
      first
        | (rw [e2] at ho2; exact ho2)
        | (rw [List.append_assoc, e2] at ho2; exact ho2))
    clear ho hg ho2 hg2 hS hR hA hB hlast hroom
    go_wp2_with fail
    simp only [Exit.two]
    go_ret
    exact ⟨by rw [HO.out.1]; rfl, HO.out.2, HG.out⟩
end Go.Proofs.Ytcbgknlklpandaa
