/- The walk of ring.Beside. -/
import Derived.Test.YtkibjbbhiclkmaaBes
import Derived.Test.YtkibjbbhiclkmaaBox
import Derived.Deep.DeepCutAuto
import Derived.BigRegion
import Derived.RegionTactic
namespace Go.Proofs.Ytkibjbbhiclkmaa
open Go.RowKit Go.Shelf Go.Sort

def besMay (L : List (Int × Int)) (A B : Int × Int) : Bool := !eqB A.1 A.2 B.1 B.2 && ok2 A.1 A.2 B.1 B.2 && okL L
/-- What Beside answers. -/
def besOk (L : List (Int × Int)) (A B : Int × Int) : Bool := besMay L A B && arB (hsB (A.1 + B.1) (A.2 + B.2) A B) L
def besN (L : List (Int × Int)) (A B : Int × Int) : Int := if besMay L A B then arN (abB (A.2 + B.2) A B) (hsB (A.1 + B.1) (A.2 + B.2) A B) (lfB A B) L else 0
theorem bes_no {L : List (Int × Int)} {A B : Int × Int} (h : besMay L A B = false) : besN L A B = 0 ∧ besOk L A B = false := by
  unfold besN besOk; rw [h]; exact ⟨rfl, rfl⟩
theorem bes_yes {L : List (Int × Int)} {A B : Int × Int} (h : besMay L A B = true) : besN L A B = arN (abB (A.2 + B.2) A B) (hsB (A.1 + B.1) (A.2 + B.2) A B) (lfB A B) L ∧ besOk L A B = arB (hsB (A.1 + B.1) (A.2 + B.2) A B) L := by
  unfold besN besOk; rw [h]; exact ⟨rfl, rfl⟩
structure BS4 (w W : World) (A B : Int × Int) : Prop where
  a0 : W.cell? ⟨w.heap.size, 0, none⟩ = some (.int .i64 A.1)
  a1 : W.cell? ⟨w.heap.size, 1, none⟩ = some (.int .i64 A.2)
  b0 : W.cell? ⟨w.heap.size + 1, 0, none⟩ = some (.int .i64 B.1)
  b1 : W.cell? ⟨w.heap.size + 1, 1, none⟩ = some (.int .i64 B.2)
  below : Below w.heap.size w W
theorem BS4.later {w W w1 : World} {A B : Int × Int} (h : BS4 w W A B) (hb : Below W.heap.size W w1) : BS4 w w1 A B :=
  ⟨cell_later hb h.a0, cell_later hb h.a1, cell_later hb h.b0, cell_later hb h.b1, h.below.trans (hb.mono h.below.size)⟩

structure BS6 (w W : World) (PX PY : Nat) (x y : Int) (A B : Int × Int) : Prop where
  four : BS4 w W A B
  x : W.cell? ⟨PX, 0, none⟩ = some (.int .i64 x)
  y : W.cell? ⟨PY, 0, none⟩ = some (.int .i64 y)
theorem BS6.drew {w W : World} {PX PY : Nat} {x y : Int} {A B : Int × Int} (d : Nat) (h : BS6 w W PX PY x y A B) : BS6 w { W with drawn := d } PX PY x y A B :=
  ⟨⟨h.four.a0, h.four.a1, h.four.b0, h.four.b1, ⟨h.four.below.os, h.four.below.tape, h.four.below.output, h.four.below.size, h.four.below.block⟩⟩, h.x, h.y⟩
theorem BS6.one {w W : World} {x y : Int} {A B : Int × Int} {T : TypeId} (h : BS4 w W A B) : BS6 w ((W.alloc (.cells #[.int .i64 x] T)).alloc (.cells #[.int .i64 y] T)) W.heap.size (W.heap.size + 1) x y A B :=
  ⟨h.later (b2 _ _ _), by go_simp, by go_simp⟩
theorem BS6.two {w W : World} {x y : Int} {A B : Int × Int} {T : TypeId} (h : BS4 w W A B) : BS6 w ((W.alloc (.cells #[.int .i64 y] T)).alloc (.cells #[.int .i64 x] T)) (W.heap.size + 1) W.heap.size x y A B :=
  ⟨h.later (b2 _ _ _), by go_simp, by go_simp⟩

set_option maxRecDepth 100000 in
set_option maxHeartbeats 4000000 in
theorem beside_any (v : Value) (L : List (Int × Int)) (A B : Int × Int) (w : World) (hL : L.length ≤ 1000) (hI : PL w v L) :
    Calls Try.prog 20 #[v, .agg #[.int .i64 A.1, .int .i64 A.2], .agg #[.int .i64 B.1, .int .i64 B.2]] w fun e w' => e = .returned (.tuple #[.int .i64 (besN L A B), .bool (besOk L A B)]) ∧ Below w.heap.size w w' := by
  have hmx : Try.prog.follows .mixedOrders = true := by kernel_rfl
  have HI := Lib.hid hI
  have HS0 : Hid (BS4 w ((w.alloc (.cells #[.int .i64 A.1, .int .i64 A.2] 24)).alloc (.cells #[.int .i64 B.1, .int .i64 B.2] 24)) A B) :=
    Lib.hid ⟨by go_simp, by go_simp, by go_simp, by go_simp, b2 _ _ _⟩
  clear hI
  have q1 := eq_pt A.1 A.2 B.1 B.2
  cases h1 : eqB A.1 A.2 B.1 B.2
  · cases h2 : ok2 A.1 A.2 B.1 B.2
    · have HV := Lib.hid (bes_no (L := L) (A := A) (B := B) (by unfold besMay; rw [h1, h2]; rfl))
      have H2 := Lib.hid h2
      rw [h1] at q1
      clear h1 h2
      go_enter Try.func20, Try.ntmps20
      go_wp2_with fail
      refine (right2 _ _ A.1 A.2 B.1 B.2 (by simp) (by go_simp) (by go_simp) (by go_simp) (by go_simp)).mono ?_
      rintro e w1 ⟨rfl, hb1⟩
      rw [H2.out]
      have HS1 := Lib.hid (HS0.out.later ((b1 _ _).trans (hb1.mono (by simp <;> omega))))
      clear hb1
      go_wp2_with fail
      go_ret2
      exact ⟨ret_ib HV.out.1.symm HV.out.2.symm, HS1.out.below⟩
    · cases h3 : okL L
      · have HV := Lib.hid (bes_no (L := L) (A := A) (B := B) (by unfold besMay; rw [h3, Bool.and_false]))
        have H2 := Lib.hid h2
        have H3 := Lib.hid h3
        rw [h1] at q1
        clear h1 h2 h3
        go_enter Try.func20, Try.ntmps20
        go_wp2_with fail
        refine (right2 _ _ A.1 A.2 B.1 B.2 (by simp) (by go_simp) (by go_simp) (by go_simp) (by go_simp)).mono ?_
        rintro e w1 ⟨rfl, hb1⟩
        rw [H2.out]
        have HS1 := Lib.hid (HS0.out.later ((b1 _ _).trans (hb1.mono (by simp <;> omega))))
        clear hb1
        have KR := Lib.hid (right_pl (HI.out.keep HS1.out.below) (by omega))
        go_wp2_with fail
        refine KR.out.mono ?_
        rintro e w2 ⟨rfl, hb2⟩
        rw [H3.out]
        have HS2 := Lib.hid (HS1.out.later hb2)
        clear hb2 KR
        go_wp2_with fail
        go_ret2
        exact ⟨ret_ib HV.out.1.symm HV.out.2.symm, HS2.out.below⟩
      · have HV := Lib.hid (bes_yes (L := L) (A := A) (B := B) (by unfold besMay; rw [h1, h2, h3]; rfl))
        have H2 := Lib.hid h2
        have H3 := Lib.hid h3
        rw [h1] at q1
        have hbd : (-16777216 ≤ A.1 ∧ A.1 ≤ 16777216) ∧ (-16777216 ≤ A.2 ∧ A.2 ≤ 16777216) ∧ (-16777216 ≤ B.1 ∧ B.1 ≤ 16777216) ∧ (-16777216 ≤ B.2 ∧ B.2 ≤ 16777216) := by
          unfold ok2 at h2; rw [Bool.and_eq_true] at h2
          have := okp_yes h2.1; have := okp_yes h2.2
          omega
        have x1 : IntKind.i64.wrap (A.1 + B.1) = A.1 + B.1 := IntWalk.i64_in _ (by omega)
        have x2 : IntKind.i64.wrap (A.2 + B.2) = A.2 + B.2 := IntWalk.i64_in _ (by omega)
        clear h1 h2 h3 hbd
        go_enter Try.func20, Try.ntmps20
        go_wp2_with fail
        refine (right2 _ _ A.1 A.2 B.1 B.2 (by simp) (by go_simp) (by go_simp) (by go_simp) (by go_simp)).mono ?_
        rintro e w1 ⟨rfl, hb1⟩
        rw [H2.out]
        have HS1 := Lib.hid (HS0.out.later ((b1 _ _).trans (hb1.mono (by simp <;> omega))))
        clear hb1
        have KR := Lib.hid (right_pl (HI.out.keep HS1.out.below) (by omega))
        go_wp2_with fail
        refine KR.out.mono ?_
        rintro e w2 ⟨rfl, hb2⟩
        rw [H3.out]
        have HS2 := Lib.hid (HS1.out.later hb2)
        clear hb2 KR
        have c0 := HS2.out.a0
        have c1 := HS2.out.a1
        have c2 := HS2.out.b0
        have c3 := HS2.out.b1
        have d0 := World.block_lt_of_cell? w2 ⟨w.heap.size, 0, none⟩ c0
        have d1 := World.block_lt_of_cell? w2 ⟨w.heap.size + 1, 0, none⟩ c2
        simp only [] at d0 d1
        have n0 : w.heap.size ≠ w2.heap.size := by omega
        have n1 : w.heap.size ≠ w2.heap.size + 1 := by omega
        have n2 : w.heap.size + 1 ≠ w2.heap.size := by omega
        have n3 : w.heap.size + 1 ≠ w2.heap.size + 1 := by omega
        go_upto_region 3 with fail
        go_cut [8, 9] (fun s8 s9 wx => ∃ PX PY : Nat, s8 = .pointer (some ⟨PX, 0, none⟩) ∧ s9 = .pointer (some ⟨PY, 0, none⟩) ∧ BS6 w wx PX PY (A.1 + B.1) (A.2 + B.2) A B)
        case first =>
          go_region
          · go_wp2_with fail
            go_meet
            exact ⟨w2.heap.size, w2.heap.size + 1, rfl, rfl, (BS6.one HS2.out).drew _⟩
          · go_wp2_with fail
            go_meet
            exact ⟨w2.heap.size + 1, w2.heap.size, rfl, rfl, (BS6.two HS2.out).drew _⟩
        case rest =>
          obtain ⟨PX, PY, rfl, rfl, hS⟩ := hcut
          have HS3 := Lib.hid hS
          clear hS c0 c1 c2 c3 d0 d1 n0 n1 n2 n3
          have hW5 : Hid (∀ F : Value, Below w.heap.size w (wc.alloc (.cells #[F] 84)) ∧ (F = .func (.func 64) #[] #[.pointer (some ⟨w.heap.size, 0, none⟩), .pointer (some ⟨w.heap.size + 1, 0, none⟩)] → BesS (wc.alloc (.cells #[F] 84)) PX PY wc.heap.size w.heap.size (w.heap.size + 1) (A.1 + B.1) (A.2 + B.2) A B)) := by
            refine Lib.hid fun F => ⟨HS3.out.four.below.trans ((b1 _ _).mono HS3.out.four.below.size), fun hF => ?_⟩
            subst hF
            have hb := b1 wc (.cells #[.func (.func 64) #[] #[.pointer (some ⟨w.heap.size, 0, none⟩), .pointer (some ⟨w.heap.size + 1, 0, none⟩)]] 84)
            exact ⟨cell_later hb HS3.out.x, cell_later hb HS3.out.y, by go_simp, cell_later hb HS3.out.four.a0, cell_later hb HS3.out.four.a1, cell_later hb HS3.out.four.b0, cell_later hb HS3.out.four.b1⟩
          go_wp2_with fail
          obtain ⟨hb5, hs5⟩ := hW5.out (.func (.func 64) #[] #[.pointer (some ⟨w.heap.size, 0, none⟩), .pointer (some ⟨w.heap.size + 1, 0, none⟩)])
          have HS5 := Lib.hid (hs5 rfl)
          have HB5 := Lib.hid hb5
          clear hW5 hs5 hb5
          generalize wc.alloc (.cells #[.func (.func 64) #[] #[.pointer (some ⟨w.heap.size, 0, none⟩), .pointer (some ⟨w.heap.size + 1, 0, none⟩)]] 84) = w5 at *
          have KW := Lib.hid (aroundB_any w5 PX PY wc.heap.size w.heap.size (w.heap.size + 1) (abB (A.2 + B.2) A B) (hsB (A.1 + B.1) (A.2 + B.2) A B) (lfB A B)
            (Lib.hid fun V p hV => bes2_any PX PY wc.heap.size w.heap.size (w.heap.size + 1) (A.1 + B.1) (A.2 + B.2) A B p V (HS5.out.later hV))
            (Lib.hid fun V p q hV => bes3_any PX PY wc.heap.size w.heap.size (w.heap.size + 1) (A.1 + B.1) (A.2 + B.2) A B p q V (HS5.out.later hV))
            (Lib.hid fun V p q hV => bes4_any PX PY wc.heap.size w.heap.size (w.heap.size + 1) (A.1 + B.1) (A.2 + B.2) A B p q V (HS5.out.later hV)) v L hL (HI.out.keep HB5.out))
          refine KW.out.mono ?_
          rintro e w6 ⟨rfl, hb6⟩
          have HB6 := Lib.hid (HB5.out.trans (hb6.mono HB5.out.size))
          clear hb6 KW
          go_wp2_with fail
          go_ret2
          exact ⟨ret_ib HV.out.1.symm HV.out.2.symm, HB6.out⟩
  · have HV := Lib.hid (bes_no (L := L) (A := A) (B := B) (by unfold besMay; rw [h1]; rfl))
    rw [h1] at q1
    clear h1
    go_enter Try.func20, Try.ntmps20
    go_wp2_with fail
    go_ret2
    exact ⟨ret_ib HV.out.1.symm HV.out.2.symm, HS0.out.below⟩
end Go.Proofs.Ytkibjbbhiclkmaa
