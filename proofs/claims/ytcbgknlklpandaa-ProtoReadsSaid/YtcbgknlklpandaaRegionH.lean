/- A region that draws its order, in a loop's round: by the walk of one that stands outside. Nothing of the program. -/
import Derived.Test.YtcbgknlklpandaaRegion
import Derived.OrdersHeld
import Derived.Deep.RegionHeld
namespace Go.Proofs.Ytcbgknlklpandaa
open Go.RowKit

/-- .. and every row. -/
structure OpenR (F : Fence) (P : Program) : Prop extends Open F P where
  rows : ∀ m row args w R, Rows P row args w R → RowsIn F m P row args w R
theorem rowsIn_of {m : Nat} {P : Program} {row : String} {args : Array Value} {w : World} {R : Value → World → Prop} (h : Rows P row args w R) : RowsIn Fence.wide m P row args w R :=
  fun c cs _ => let ⟨v, w', r, s⟩ := h c cs; ⟨v, w', r, stepsIn_wide.2 s⟩
theorem OpenR.wide (P : Program) : OpenR Fence.wide P := ⟨Open.wide P, fun _ _ _ _ _ h => rowsIn_of h⟩
theorem OpenR.round (P : Program) (l : Nat) : OpenR (Fence.wide.inRound l) P := ⟨Open.round P l, fun _ _ _ _ _ h => rowsIn_of h⟩
section
variable {F : Fence} {n : Nat} {P : Program} {Q : Exit → Act → World → Prop}

/-- It ends as it should. -/
def NormQ (Q : Exit → Act → World → Prop) : Exit → Act → World → Prop := fun e a w => e = .normal ∧ Q .normal a w
theorem NormQ.lets : ¬ LetsOut (NormQ Q) := fun ⟨_, _, h, _⟩ => by cases h

theorem opIn_of (hF : OpenR F P) {o : Oper} {a : Act} {w : World} {K K' : Act → World → Prop} (hnd : ∀ c, o.op ≠ .defer c) (hK : ∀ a w, K a w → K' a w) (h : o.wp P a w K (NormQ Q)) : o.wpIn F n P a w K' Q := by
  unfold Oper.wpIn
  refine ⟨fun f _ => hF.fn f, ?_⟩
  rw [Oper.semAt_eq _ _ _ hnd]
  unfold Oper.wp at h
  generalize (execOp a.eval o).run P w = r at *
  cases r with
  | ok x w' =>
    cases x <;> simp only [Oper.upon] at h <;> simp only [Oper.uponIn]
    case value u => exact hK _ _ h
    case skip => exact hK _ _ h
    case defer d => exact hK _ _ h
    case enter f args =>
      refine ⟨(fun hd => (by rw [hF.depth] at hd; cases hd)), (hF.calls _ _ _ _ _ h).mono fun e w'' he => ?_⟩
      cases e with
      | returned v => exact hK _ _ he
      | panicked c => exact absurd he.1 (by simp)
      | outgrown => exact absurd he NormQ.lets
    case row row args => exact ⟨(fun hd => (by rw [hF.depth] at hd; cases hd)), (hF.rows _ _ _ _ _ h).mono fun v w'' he => hK _ _ he⟩
  | halt x w' =>
    cases x <;> simp only [Oper.upon] at h <;> simp only [Oper.uponIn]
    all_goals first | exact absurd h.1 (by simp) | trivial
theorem wpOpIn_of (hF : OpenR F P) {ops : Array Oper} (hnd : ∀ (i : Nat) o, ops[i]? = some o → ∀ c, o.op ≠ .defer c) {i : Nat} {a : Act} {w : World} {K K' : Act → World → Prop} (hK : ∀ a w, K a w → K' a w) (h : wpOp P ops (NormQ Q) i K a w) : wpOpIn F n P ops Q i K' a w := by
  unfold wpOp at h
  unfold wpOpIn
  cases ho : ops[i]? with
  | none => rw [ho] at h; exact hK _ _ h
  | some o =>
    rw [ho] at h
    simp only at h ⊢
    split
    · rename_i hw
      rw [if_pos hw] at h
      rcases h with h | h
      · exact opIn_of hF (hnd i o ho) hK h
      · exact absurd h.2 NormQ.lets
    · rename_i hw
      rw [if_neg hw] at h
      exact ⟨fun f _ => hF.fn f, hK _ _ h⟩
theorem wpAnyIn_of (hF : OpenR F P) {ops : Array Oper} {md : Region.Mode} (hnd : ∀ (i : Nat) o, ops[i]? = some o → ∀ c, o.op ≠ .defer c) : ∀ (fuel : Nat) (listed : Array Bool) (a : Act) (w : World), wpAny P md ops (NormQ Q) fuel listed a w → wpAnyIn F n P md ops Q fuel listed a w
  | 0, _, _, _, h => ⟨h.1, h.2.2⟩
  | fuel + 1, _, _, _, h => ⟨fun hr => (h.1 hr).2, fun i hi => wpOpIn_of hF hnd (fun a w hh => wpAnyIn_of hF hnd fuel _ a w hh) (h.2 i hi)⟩
def allNoDefer (l : List Oper) : Bool := l.all Oper.noDefer
/-- **The region in a round**: walked as if it stood outside, with a condition S on the world that is shown anew behind each operation. -/
theorem region_held_in (hF : OpenR F P) {id : Nat} {l : List Oper} {a : Act} {w : World} {S : World → Prop} (hm : P.follows .mixedOrders = true) (hn : allNoDefer l = true) (hS : S w.drew)
    (h : S w.drew → wpAnyH P .any l.toArray (NormQ Q) S l.toArray.size (Array.replicate l.toArray.size false) a w.drew) : (Code.region id l.toArray true).wpIn F n P Q a w := by
  refine wpIn_region_any hm (wpAnyIn_of hF (fun i o ho => ?_) _ _ _ _ (wpAny_of_held _ _ _ _ (h hS)))
  have hmem : o ∈ l := by
    rw [List.getElem?_toArray] at ho
    exact List.mem_of_getElem? ho
  unfold allNoDefer at hn
  rw [List.all_eq_true] at hn
  exact noDefer_ne (hn o hmem)
/-- The same, cut behind the region: what the frame and the world then are. -/
def CutJ (J : Act → World → Prop) : Exit → Act → World → Prop := fun e a w => e = .normal ∧ J a w
theorem region_cut_in {J : Act → World → Prop} (hF : OpenR F P) {id : Nat} {l : List Oper} {a : Act} {w : World} {S : World → Prop} (hm : P.follows .mixedOrders = true) (hn : allNoDefer l = true) (hS : S w.drew)
    (h : S w.drew → wpAnyH P .any l.toArray (NormQ (CutJ J)) S l.toArray.size (Array.replicate l.toArray.size false) a w.drew) (hJ : ∀ a' w', J a' w' → Q .normal a' w') : (Code.region id l.toArray true).wpIn F n P Q a w := by
  have h1 := region_held_in (F := F) (n := n) (Q := fun e a w => e = .normal ∧ Q .normal a w) (id := id) (a := a) hF hm hn hS (fun hs => ?_)
  · exact fun b k cs hro hb hr => let ⟨e, a', w', q, r⟩ := h1 b k cs hro hb hr; ⟨e, a', w', by obtain ⟨rfl, q⟩ := q; exact q, r⟩
  · have h2 := h hs
    have mono : ∀ (fuel : Nat) (listed : Array Bool) (a : Act) (w : World), wpAnyH P .any l.toArray (NormQ (CutJ J)) S fuel listed a w → wpAnyH P .any l.toArray (NormQ (fun e a w => e = .normal ∧ Q .normal a w)) S fuel listed a w := by
      intro fuel
      induction fuel with
      | zero => exact fun listed a w h => ⟨h.1, rfl, rfl, by obtain ⟨_, _, hx⟩ := h.2; exact hJ _ _ hx⟩
      | succ fuel ih =>
        intro listed a w h
        refine ⟨fun hr => ⟨rfl, rfl, by obtain ⟨_, _, hx⟩ := h.1 hr; exact hJ _ _ hx⟩, fun i hi => ?_⟩
        have h3 := wpOp_mono (fun a' w' h' => (⟨h'.1, ih _ _ _ h'.2⟩ : S w' ∧ wpAnyH P .any l.toArray (NormQ (fun e a w => e = .normal ∧ Q .normal a w)) S fuel (listed.setIfInBounds i true) a' w')) (h.2 i hi)
        revert h3
        unfold wpOp
        cases l.toArray[i]? with
        | none => exact fun h => h
        | some o =>
          simp only
          split
          · rintro (h3 | h3)
            · refine .inl ?_
              unfold Oper.wp at *
              generalize (execOp a.eval o).run P w = r at *
              cases r with
              | ok x w' =>
                cases x <;> simp only [Oper.upon] at h3 ⊢
                case value u => exact h3
                case skip => exact h3
                case defer d => exact h3
                case enter f args => exact Calls.mono h3 fun e w'' he => by cases e with | returned v => exact he | panicked c => exact absurd he.1 (by simp) | outgrown => exact absurd he NormQ.lets
                case row row args => exact h3
              | halt x w' =>
                cases x <;> simp only [Oper.upon] at h3 ⊢
                all_goals first | exact absurd h3.1 (by simp) | trivial
            · exact absurd h3.2 NormQ.lets
          · exact fun h => h
    exact mono _ _ _ _ h2
end
end Go.Proofs.Ytcbgknlklpandaa
