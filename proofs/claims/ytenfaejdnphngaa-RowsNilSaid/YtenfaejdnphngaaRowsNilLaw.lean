/- The walk of the law RowsNil. -/
import Derived.Test.YtenfaejdnphngaaKnown6
import Derived.Test.YtenfaejdnphngaaRowsN
namespace Go.Proofs.Ytenfaejdnphngaa
open Go.RowKit

set_option maxRecDepth 100000 in
theorem pairs_nil (w : World) : Calls Try.prog 22 #[.pointer none] w fun e w' => (∃ q c, e = .returned (.slice q 0 c)) ∧ Below w.heap.size w w' := by
  have hmx : Try.prog.follows .mixedOrders = true := by kernel_rfl
  have hmk := make_runS 0 (by omega) w
  simp only [Int.natCast_zero] at hmk
  go_enter Try.func22, Try.ntmps22
  go_upto_region 2 with (go_at_call 21; refine (rlen_nil _).mono ?_; rintro e w1 ⟨rfl, rfl⟩)
  clear hmk
  have HB : Hid (Below w.heap.size w (((w.alloc (.cells (madeCells #[.slice none 0 0] 0) 48)).alloc (.cells #[.slice (some ⟨w.heap.size, 0, none⟩) 0 0] 94)).alloc (.cells #[.int .i64 0] 3))) := Lib.hid (below_after (below_after (below_alloc _ _) (below_alloc _ _)) (below_alloc _ _))
  have c3 : (((w.alloc (.cells (madeCells #[.slice none 0 0] 0) 48)).alloc (.cells #[.slice (some ⟨w.heap.size, 0, none⟩) 0 0] 94)).alloc (.cells #[.int .i64 0] 3)).cell? ⟨w.heap.size + 1, 0, none⟩ = some (.slice (some ⟨w.heap.size, 0, none⟩) 0 0) := by go_simp
  have c4 : (((w.alloc (.cells (madeCells #[.slice none 0 0] 0) 48)).alloc (.cells #[.slice (some ⟨w.heap.size, 0, none⟩) 0 0] 94)).alloc (.cells #[.int .i64 0] 3)).cell? ⟨w.heap.size + 1 + 1, 0, none⟩ = some (.int .i64 0) := by go_simp
  generalize ((w.alloc (.cells (madeCells #[.slice none 0 0] 0) 48)).alloc (.cells #[.slice (some ⟨w.heap.size, 0, none⟩) 0 0] 94)).alloc (.cells #[.int .i64 0] 3) = V at *
  generalize w.heap.size + 1 + 1 = kc at *
  generalize w.heap.size + 1 = kg at *
  go_wp2_with fail
  go_loopg [16] 0 (fun _ i wx => i = .int .i64 0 ∧ V = wx)
  case atStart => exact ⟨rfl, rfl⟩
  case round =>
    obtain ⟨rfl, rfl⟩ := hrel
    have hmk := make_run2 0 (by omega) V
    simp only [Int.natCast_zero] at hmk
    have HB2 : Hid (Below w.heap.size w (V.alloc (.cells (madeCells #[.int .i64 0, .int .i64 0] (0 * 2)) 52))) := Lib.hid (below_after HB.out (below_alloc _ _))
    have c5 := cell_later (below_alloc V (.cells (madeCells #[.int .i64 0, .int .i64 0] (0 * 2)) 52)) c3
    clear HB
    go_wp2_with fail
    clear hmk c3 c4 c5
    generalize V.alloc (.cells (madeCells #[.int .i64 0, .int .i64 0] (0 * 2)) 52) = V2 at *
    go_loopg [6, 28] 0 (fun _ v i wx => v = .slice (some ⟨V.heap.size, 0, none⟩) 0 0 ∧ i = .int .i64 0 ∧ V2 = wx)
    case atStart => exact ⟨rfl, rfl, rfl⟩
    case round =>
      obtain ⟨rfl, rfl, rfl⟩ := hrel
      go_wp2_with fail
      go_ret
      exact ⟨⟨_, _, rfl⟩, HB2.out⟩
/-- What the law holds in cells. -/
def NlC (k1 k2 k3 : Nat) (b : B4) (x y : Int) (X : World) : Prop := BxAt X k1 0 b ∧ (X.cell? ⟨k2, 0, none⟩ = some (.int .i64 x) ∧ X.cell? ⟨k2, 1, none⟩ = some (.int .i64 y)) ∧ BxAt X k3 0 (0, 0, 0, 0)
theorem NlC.keep {k1 k2 k3 : Nat} {b : B4} {x y : Int} {X X1 : World} (h : NlC k1 k2 k3 b x y X) (hb : Below X.heap.size X X1) : NlC k1 k2 k3 b x y X1 := ⟨h.1.keep hb, ⟨cell_later hb h.2.1.1, cell_later hb h.2.1.2⟩, h.2.2.keep hb⟩
set_option maxRecDepth 100000 in
set_option maxHeartbeats 4000000 in
theorem nillaw6_yes (w : World) (b : B4) (x y n : Int) : Calls Try.prog 5 #[encB b, .agg #[.int .i64 x, .int .i64 y], .int .i64 n] w fun e w' => e = .returned (.bool true) ∧ Below w.heap.size w w' := by
  have hmx : Try.prog.follows .mixedOrders = true := by kernel_rfl
  have HF := Lib.hid (fun V => rfind_nil b V)
  have HBx := Lib.hid (fun V => rbox_nil n V)
  have heq : ∀ W, Sem.run Try.prog (Op.equalIn 10000 25 (.agg #[.int .i64 0, .int .i64 0, .int .i64 0, .int .i64 0]) (.agg #[.int .i64 0, .int .i64 0, .int .i64 0, .int .i64 0])) W = .ok true W := fun W => by simpa [encB] using equal_Bx (0, 0, 0, 0) (0, 0, 0, 0) W
  unfold encB at *
  have HPn := Lib.hid (fun V => pairs_nil V)
  go_enter Try.func5, Try.ntmps5
  go_upto_region 3 with (go_at_call 24; refine (HBx.out _).mono ?_; rintro e w1 ⟨rfl, hb1⟩; have HB1 := Lib.hid hb1; clear hb1)
  have HC1 : Hid (NlC w.heap.size (w.heap.size + 1) w1.heap.size b x y (w1.alloc (.cells #[.int .i64 0, .int .i64 0, .int .i64 0, .int .i64 0] 25)) ∧ Below w.heap.size w (w1.alloc (.cells #[.int .i64 0, .int .i64 0, .int .i64 0, .int .i64 0] 25))) := Lib.hid (by
    refine ⟨⟨(BxAt.keep ?_ HB1.out).keep (below_alloc _ _), ⟨cell_later (below_alloc _ _) (cell_later HB1.out ?_), cell_later (below_alloc _ _) (cell_later HB1.out ?_)⟩, bx_new w1 (0, 0, 0, 0) _⟩, below_after (below_after (below_after (below_alloc _ _) (below_alloc _ _)) HB1.out) (below_alloc _ _)⟩
    · exact (bx_new w b _).keep (below_alloc _ _)
    · go_simp
    · go_simp)
  clear HB1 HBx
  generalize w1.alloc (.cells #[.int .i64 0, .int .i64 0, .int .i64 0, .int .i64 0] 25) = V1 at *
  generalize w1.heap.size = k3 at *
  generalize w.heap.size + 1 = k2 at *
  generalize hk1 : w.heap.size = k1 at *
  go_wp2_with (first
    | (go_at_call 14; refine (known6_yes _).mono ?_; rintro e w2 ⟨rfl, hb2⟩; have HC2 := Lib.hid (And.intro (HC1.out.1.keep hb2) (below_after (by rw [hk1]; exact HC1.out.2) hb2)); obtain ⟨⟨a0, a1, a2, a3⟩, _, _⟩ := HC2.out.1; clear HC1 hb2)
    | (go_at_call 20; refine (radd_nil _ _).mono ?_; rintro e w3 ⟨rfl, hw3⟩; have HC3 : Hid (NlC k1 k2 k3 b x y w3 ∧ Below w.heap.size w w3) := Lib.hid (by rw [← hw3]; exact ⟨HC2.out.1.keep (below_alloc _ _), below_after HC2.out.2 (below_alloc _ _)⟩); obtain ⟨⟨b0, b1, b2, b3⟩, _, _⟩ := HC3.out.1; clear HC2 hw3 a0 a1 a2 a3)
    | (go_at_call 26; refine (HF.out _).mono ?_; rintro e w4 ⟨rfl, hb4⟩; have HC4 := Lib.hid (And.intro (HC3.out.1.keep hb4) (below_after HC3.out.2 hb4)); obtain ⟨_, ⟨p0, p1⟩, _⟩ := HC4.out.1; clear HC3 hb4 b0 b1 b2 b3)
    | (go_at_call 27; refine (rat_nil _ _ _).mono ?_; rintro e w5 ⟨rfl, hb5⟩; have HC5 := Lib.hid (And.intro (HC4.out.1.keep hb5) (below_after HC4.out.2 hb5)); clear HC4 hb5 p0 p1)
    | (go_at_call 22; refine (HPn.out _).mono ?_; rintro e w6 ⟨⟨q6, c6, rfl⟩, hb6⟩; have HC6 := Lib.hid (And.intro (HC5.out.1.keep hb6) (below_after HC5.out.2 hb6)); obtain ⟨_, _, ⟨z0, z1, z2, z3⟩⟩ := HC6.out.1; clear HC5 hb6)
    | (go_at_call 21; refine (rlen_nil _).mono ?_; rintro e w7 ⟨rfl, rfl⟩))
  go_ret
  exact ⟨by simp, HC6.out.2⟩
end Go.Proofs.Ytenfaejdnphngaa
