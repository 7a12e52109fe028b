/- Boxes: what is plain of them; walks of rises, common, Right, Meet. -/
import Derived.Test.YtenfaejdnphngaaRight
import Derived.Test.YtenfaejdnphngaaKeep
import Derived.Test.YtenfaejdnphngaaMapE
import Derived.Test.YtenfaejdnphngaaBox
import Derived.Test.YtenfaejdnphngaaPutI
import Derived.Deep.RegionHeld3
namespace Go.Proofs.Ytenfaejdnphngaa
open Go.RowKit

/-- A box: Low's numbers, High's. -/
abbrev B4 := Int × Int × Int × Int
def encB (b : B4) : Value := .agg #[.int .i64 b.1, .int .i64 b.2.1, .int .i64 b.2.2.1, .int .i64 b.2.2.2]
def risB (b : B4) : Bool := decide (b.1 ≤ b.2.2.1) && decide (b.2.1 ≤ b.2.2.2)
def rgtB (b : B4) : Bool := ok2 b.1 b.2.1 b.2.2.1 b.2.2.2 && risB b
def comB (a b : B4) : B4 := (max a.1 b.1, max a.2.1 b.2.1, min a.2.2.1 b.2.2.1, min a.2.2.2 b.2.2.2)
def metB (a b : B4) : Bool := rgtB a && rgtB b && risB (comB a b)
def BxAt (W : World) (k o : Nat) (b : B4) : Prop :=
  W.cell? ⟨k, o, none⟩ = some (.int .i64 b.1) ∧ W.cell? ⟨k, o + 1, none⟩ = some (.int .i64 b.2.1) ∧ W.cell? ⟨k, o + 2, none⟩ = some (.int .i64 b.2.2.1) ∧ W.cell? ⟨k, o + 3, none⟩ = some (.int .i64 b.2.2.2)
theorem BxAt.keep {W W1 : World} {k o : Nat} {b : B4} (h : BxAt W k o b) (hb : Below W.heap.size W W1) : BxAt W1 k o b :=
  ⟨cell_later hb h.1, cell_later hb h.2.1, cell_later hb h.2.2.1, cell_later hb h.2.2.2⟩
theorem bx_new (W : World) (b : B4) (T : TypeId) : BxAt (W.alloc (.cells #[.int .i64 b.1, .int .i64 b.2.1, .int .i64 b.2.2.1, .int .i64 b.2.2.2] T)) W.heap.size 0 b := by
  refine ⟨?_, ?_, ?_, ?_⟩ <;> go_simp
set_option maxRecDepth 100000 in
set_option maxHeartbeats 2000000 in
theorem rises_any (b : B4) (w : World) : Calls Try.prog 44 #[encB b] w fun e w' => e = .returned (.bool (risB b)) ∧ Below w.heap.size w w' := by
  obtain ⟨x, y, u, v⟩ := b
  have HB : Hid (∀ A : Obj, Below w.heap.size w (w.alloc A)) := Lib.hid (fun A => below_alloc _ _)
  unfold encB
  go_enter Try.func44, Try.ntmps44
  by_cases h1 : x ≤ u
  · have x1 : decide (x ≤ u) = true := by simpa using h1
    have HR : Hid (risB (x, y, u, v) = decide (y ≤ v)) := Lib.hid (by unfold risB; simp [h1])
    generalize risB (x, y, u, v) = r at *
    clear h1
    go_wp2_with fail
    go_ret
    exact ⟨by rw [HR.out]; rfl, HB.out _⟩
  · have x1 : decide (x ≤ u) = false := by simpa using h1
    have HR : Hid (risB (x, y, u, v) = false) := Lib.hid (by unfold risB; simp [h1])
    generalize risB (x, y, u, v) = r at *
    clear h1
    go_wp2_with fail
    go_ret
    exact ⟨by rw [HR.out]; rfl, HB.out _⟩
theorem ret4 {a b c d a' b' c' d' : Int} (h1 : a = a') (h2 : b = b') (h3 : c = c') (h4 : d = d') : Ending.returned (.agg #[.int .i64 a, .int .i64 b, .int .i64 c, .int .i64 d]) = Ending.returned (.agg #[.int .i64 a', .int .i64 b', .int .i64 c', .int .i64 d']) := by
  subst h1 h2 h3 h4; rfl
set_option maxRecDepth 100000 in
set_option maxHeartbeats 2000000 in
theorem rowcommon_any (a b : B4) (w : World) : Calls Try.prog 45 #[encB a, encB b] w fun e w' => e = .returned (encB (comB a b)) ∧ Below w.heap.size w w' := by
  obtain ⟨a1, a2, a3, a4⟩ := a
  obtain ⟨b1, b2, b3, b4⟩ := b
  have HB : Hid (∀ A B C : Obj, Below w.heap.size w (((w.alloc A).alloc B).alloc C)) := Lib.hid (fun A B C => below_after (below_after (below_alloc _ _) (below_alloc _ _)) (below_alloc _ _))
  unfold encB comB
  simp only
  go_enter Try.func45, Try.ntmps45
  go_wp2_with fail
  all_goals
    refine bodyPost_ret (v := .agg #[_, _, _, _]) (by simp [results, Try.results45, go_sem]; exact ⟨rfl, rfl, rfl, rfl⟩) rfl ⟨ret4 (by omega) (by omega) (by omega) (by omega), ?_⟩
    exact HB.out _ _ _
set_option maxRecDepth 100000 in
set_option maxHeartbeats 2000000 in
theorem rright_any (b : B4) (w : World) : Calls Try.prog 15 #[encB b] w fun e w' => e = .returned (.bool (rgtB b)) ∧ Below w.heap.size w w' := by
  have HR := Lib.hid (fun W => rises_any b W)
  have HX : Hid (rgtB b = (ok2 b.1 b.2.1 b.2.2.1 b.2.2.2 && risB b)) := Lib.hid rfl
  generalize rgtB b = r at *
  generalize risB b = r2 at *
  obtain ⟨x, y, u, v⟩ := b
  have HR2 := Lib.hid (fun W b hb => right2 W b x y u v hb)
  simp only at HX
  unfold encB at *
  generalize ok2 x y u v = r1 at *
  have HB : Hid (∀ A B : Obj, Below w.heap.size w ((w.alloc A).alloc B)) := Lib.hid (fun A B => b2 _ _ _)
  have HN : Hid (∀ A B : Obj, BxAt (w.alloc A) w.heap.size 0 (x, y, u, v) → BxAt ((w.alloc A).alloc B) w.heap.size 0 (x, y, u, v)) := Lib.hid (fun A B h => h.keep (below_alloc _ _))
  have HN1 := Lib.hid (bx_new w (x, y, u, v) 25)
  go_enter Try.func15, Try.ntmps15
  go_wp2_with fail
  go_at_call 46
  refine (HR2.out _ _ (by simp) (by go_simp) (by go_simp) (by go_simp) (by go_simp)).mono ?_
  rintro e w1 ⟨rfl, hb⟩
  obtain ⟨c0, c1, c2, c3⟩ := (HN.out _ _ HN1.out).keep hb
  have HB1 := Lib.hid (below_after (HB.out _ _) hb)
  simp only at c0 c1 c2 c3
  clear hb HN HN1 HR2
  cases r1
  · go_wp2_with fail
    go_ret
    exact ⟨by rw [HX.out]; rfl, HB1.out⟩
  · go_wp2_with fail
    go_at_call 44
    refine (HR.out _).mono ?_
    rintro e w2 ⟨rfl, hb2⟩
    have HB2 := Lib.hid (below_after HB1.out hb2)
    clear hb2
    go_wp2_with fail
    go_ret
    exact ⟨by rw [HX.out]; rfl, HB2.out⟩
end Go.Proofs.Ytenfaejdnphngaa
