/- A region that draws its order, whose operations and callees keep a class of worlds: one walk, in the order of the text. -/
import Derived.Test.YtoojifpgdmhmcaaLeaf
import Derived.BigQuiet
import Derived.Deep.RegionHeld3
namespace Go.Proofs.Ytoojifpgdmhmcaa
open Go.RowKit

section
variable {P : Program} {C : World → Prop} {ops : Array Oper} {Q : Act → Prop} {a : Act} {o : Oper} {rest : List Oper}
theorem wp_region_class {id : Nat} {R : Exit → Act → World → Prop} {w : World} {l : List Oper} (hm : P.follows .mixedOrders = true) (hB : Region.lexB .any l.toArray = true) (hC : C w.drew)
    (h : wpQuiet P l.toArray C (fun a' => ∀ w', C w' → R .normal a' w') l a) : (Code.region id l.toArray true).wp P R a w :=
  wp_region_quiet (C := C) hm hB hC (by simpa using h)
theorem quiet_value {K : Act → Prop} (v : Value) (h : ∀ w, C w → (execOp a.eval o).run P w = .ok (.value v) w) (hk : K (a.put o.dst v)) : o.quiet P a C K :=
  ⟨v, fun w hw => by unfold Oper.quietAt; rw [h w hw]; exact ⟨rfl, rfl⟩, hk⟩
theorem quiet_call {K : Act → Prop} (v : Value) {f : FuncId} {args : Array Value} (h : ∀ w, C w → (execOp a.eval o).run P w = .ok (.enter f args) w)
    (hc : ∀ w, C w → Calls P f args w (fun e w'' => e = .returned v ∧ C w'')) (hk : K (a.put o.dst v)) : o.quiet P a C K :=
  ⟨v, fun w hw => by unfold Oper.quietAt; rw [h w hw]; exact ⟨rfl, hc w hw⟩, hk⟩
end

/-- A point is loaded, whole. -/
theorem quiet_load_pt {C : World → Prop} {a : Act} {o : Oper} {K : Act → Prop} {b off : Nat} {X Y : Int} (x : Operand) (h : o.op = .load 23 x) (he : a.eval x = .pointer (some ⟨b, off, none⟩))
    (hc : ∀ w, C w → w.cell? ⟨b, off, none⟩ = some (.int .i64 X) ∧ w.cell? ⟨b, off + 1, none⟩ = some (.int .i64 Y)) (hk : K (a.put o.dst (.agg #[.int .i64 X, .int .i64 Y]))) : o.quiet Try.prog a C K := by
  refine quiet_value _ (fun w hC => ?_) hk
  obtain ⟨c0, c1⟩ := hc w hC
  obtain ⟨dst, op, type, pos, after, guard⟩ := o
  subst h
  simp only [execOp, he]
  go_simp
end Go.Proofs.Ytoojifpgdmhmcaa
