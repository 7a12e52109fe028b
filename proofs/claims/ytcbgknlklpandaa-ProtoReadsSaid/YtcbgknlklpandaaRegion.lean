/- Regions that draw their order, in a loop's round too: all but the last operations leave the world in one class; these come last, in the text's order. Nothing of the program. -/
import Derived.RangeFuncCalls
import Derived.Deep.Quiet
import Derived.TacticsIn
import Derived.OrdersIn
import Derived.RegionTactic
import Derived.Test.YtcbgknlklpandaaProg
namespace Go.Proofs.Ytcbgknlklpandaa
open Go.RowKit

section
variable {F : Fence} {n : Nat} {P : Program} {Q : Exit → Act → World → Prop} {C : World → Prop}

/-- A fence that lets every call by. -/
structure Open (F : Fence) (P : Program) : Prop where
  fn : ∀ f, F.fn f
  depth : F.depth = none
  calls : ∀ m f args w R, Calls P f args w R → CallsIn F m P f args w R
theorem Open.wide (P : Program) : Open Fence.wide P := ⟨fun _ => trivial, rfl, fun _ _ _ _ _ h => callsIn_wide.2 h⟩
theorem Open.round (P : Program) (l : Nat) : Open (Fence.wide.inRound l) P := ⟨fun _ => trivial, rfl, fun _ _ _ _ _ h => CallsIn.inRound l (callsIn_wide.2 h)⟩

theorem wpIn_of_quiet_open (hF : Open F P) {o : Oper} {a : Act} {K : Act → Prop} {K' : Act → World → Prop} {w : World} (hnd : ∀ c, o.op ≠ .defer c) (hw : C w) (h : ∀ a w', C w' → K a → K' a w') (hh : o.quiet P a C K) : o.wpIn F n P a w K' Q := by
  obtain ⟨v, h1, h2⟩ := hh
  have h3 := h1 w hw
  unfold Oper.quietAt at h3
  unfold Oper.wpIn
  refine ⟨fun f _ => hF.fn f, ?_⟩
  rw [Oper.semAt_eq _ _ _ hnd]
  generalize (execOp a.eval o).run P w = r at *
  cases r with
  | ok x w' =>
    cases x <;> simp only [Oper.quietUpon] at h3 <;> simp only [Oper.uponIn]
    case value u =>
      obtain ⟨e1, e2⟩ := h3
      rw [e1, e2]
      exact h _ _ hw h2
    case skip =>
      obtain ⟨e1, e2⟩ := h3
      rw [e1, ← e2]
      exact h _ _ hw h2
    case enter f args =>
      obtain ⟨e1, hc⟩ := h3
      rw [e1]
      refine ⟨(fun hd => (by rw [hF.depth] at hd; cases hd)), (hF.calls _ _ _ _ _ hc).mono fun e w'' ⟨he, hw''⟩ => ?_⟩
      subst he; exact h _ _ hw'' h2
  | halt x w' => simp only [Oper.quietUpon] at h3

def Oper.noDefer (o : Oper) : Bool := match o.op with | .defer _ => false | _ => true
theorem noDefer_ne {o : Oper} (h : Oper.noDefer o = true) : ∀ c, o.op ≠ .defer c := by
  intro c hc
  unfold Oper.noDefer at h
  rw [hc] at h; cases h

def arr (N k : Nat) : Array Bool := (List.replicate k true ++ List.replicate (N - k) false).toArray
def bindsOn (o : Oper) (p : Nat) : Bool := o.after.any fun e => Region.binds .any e && e.on == p
/-- The first m operations may come in any order; the others come behind them, in the text's order. -/
def thenB (l : List Oper) (m : Nat) : Bool :=
  Region.lexB .any (l.take m).toArray && l.all (fun o => o.guard.isNone && Oper.noDefer o) && decide (m < l.length)
    && (List.range m).all (fun i => ((l[i]?).map fun o => o.after.all fun e => !Region.binds .any e || decide (e.on < i)).getD false)
    && (List.range m).all (fun p => (List.range (m + 1)).any fun q => decide (p < q) && ((l[q]?).map fun o => bindsOn o p).getD false)
    && (List.range (l.length - m)).all (fun k => Region.ready .any l.toArray (arr l.length (m + k)) == [m + k])
    && (Region.ready .any l.toArray (arr l.length l.length)).isEmpty

theorem mem_ready {ops : Array Oper} {listed : Array Bool} {i : Nat} : i ∈ Region.ready .any ops listed ↔ i < ops.size ∧ listed.getD i true = false ∧ ∃ o, ops[i]? = some o ∧ ∀ e ∈ o.after, Region.binds .any e = true → listed.getD e.on false = true := by
  unfold Region.ready
  rw [List.mem_filter, List.mem_range]
  constructor
  · rintro ⟨h1, h2⟩
    rw [Bool.and_eq_true] at h2
    refine ⟨h1, by simpa using h2.1, ops[i], by simp [h1], fun e he hb => ?_⟩
    have h3 := h2.2
    rw [show ops[i]? = some ops[i] from by simp [h1]] at h3
    simp only [Option.map_some, Option.getD_some, Array.all_eq_true_iff_forall_mem] at h3
    have := h3 e he
    rw [hb] at this
    simpa using this
  · rintro ⟨h1, h2, o, ho, h3⟩
    refine ⟨h1, ?_⟩
    rw [Bool.and_eq_true]
    refine ⟨by rw [h2]; rfl, ?_⟩
    rw [ho]
    simp only [Option.map_some, Option.getD_some, Array.all_eq_true_iff_forall_mem]
    intro e he
    cases hb : Region.binds .any e
    · rfl
    · rw [h3 e he hb]; rfl

theorem arr_at (N k i : Nat) (h : k ≤ N) : (arr N k)[i]? = if i < k then some true else if i < N then some false else none := by
  unfold arr
  rw [List.getElem?_toArray, List.getElem?_append, List.length_replicate]
  split
  · rename_i h1; rw [List.getElem?_replicate, if_pos h1]
  · rename_i h1
    rw [List.getElem?_replicate]
    split
    · rename_i h2; rw [if_pos (by omega)]
    · rename_i h2; rw [if_neg (by omega)]

theorem arr_set (N k : Nat) (h : k < N) : (arr N k).setIfInBounds k true = arr N (k + 1) := by
  apply Array.ext_getElem?
  intro i
  rw [Array.getElem?_setIfInBounds, arr_at N (k + 1) i (by omega)]
  have hs : (arr N k).size = N := by unfold arr; simp; omega
  by_cases e : k = i
  · subst e; rw [if_pos rfl, if_pos (by omega), if_pos (by omega)]
  · rw [if_neg e, arr_at N k i (by omega)]
    by_cases h1 : i < k
    · rw [if_pos h1, if_pos (by omega)]
    · rw [if_neg h1, if_neg (by omega : ¬ i < k + 1)]

/-- The last operations, one behind the other. -/
theorem tail_any {l : List Oper} {m : Nat} (hd : l.all (fun o => o.guard.isNone && Oper.noDefer o) = true) (ht : (List.range (l.length - m)).all (fun k => Region.ready .any l.toArray (arr l.length (m + k)) == [m + k]) = true)
    (he : (Region.ready .any l.toArray (arr l.length l.length)).isEmpty = true) : ∀ (r k fuel : Nat) (a : Act) (w : World), r + k = l.length - m → m + k ≤ l.length → r ≤ fuel → wpListIn F n P l.toArray Q (l.drop (m + k)) a w → wpAnyIn F n P .any l.toArray Q fuel (arr l.length (m + k)) a w
  | 0, k, fuel, a, w, hr, hk, _, h => by
    have e : m + k = l.length := by omega
    rw [e] at h ⊢
    rw [List.drop_length] at h
    exact wpAnyIn_done (by simpa using he) h fuel
  | r + 1, k, 0, a, w, hr, hk, hf, h => by omega
  | r + 1, k, fuel + 1, a, w, hr, hk, hf, h => by
    have hlt : m + k < l.length := by omega
    have hready : Region.ready .any l.toArray (arr l.length (m + k)) = [m + k] := by
      rw [List.all_eq_true] at ht
      have := ht k (by rw [List.mem_range]; omega)
      simpa using this
    refine ⟨(fun h0 => (by rw [hready] at h0; cases h0)), fun i hi => ?_⟩
    rw [hready] at hi
    obtain rfl := List.mem_singleton.1 hi
    rw [List.drop_eq_getElem_cons hlt] at h
    unfold wpListIn at h
    unfold wpOpIn
    rw [show l.toArray[m + k]? = some l[m + k] from by simp [hlt], arr_set _ _ hlt]
    simp only
    have ih := fun a w => tail_any hd ht he r (k + 1) fuel a w (by omega) (by omega) (by omega)
    split
    · rename_i hw
      rw [if_pos hw] at h
      exact Oper.wpIn_mono (fun a w h => ih a w h) h
    · rename_i hw
      rw [if_neg hw] at h
      exact ⟨h.1, ih _ _ h.2⟩

def Down (opsP : Array Oper) (listed : Array Bool) : Prop := ∀ (i : Nat) (o : Oper), opsP[i]? = some o → listed.getD i false = true → ∀ e ∈ o.after, Region.binds .any e = true → listed.getD e.on false = true
def Rel (N m : Nat) (lp lf : Array Bool) : Prop := lp.size = m ∧ ∀ i, lf[i]? = if i < m then lp[i]? else if i < N then some false else none

theorem wpQuiet_ops {ops ops' : Array Oper} {Qa : Act → Prop} : ∀ (l : List Oper) (a : Act), (∀ o ∈ l, o.guard = none) → wpQuiet P ops C Qa l a → wpQuiet P ops' C Qa l a
  | [], _, _, h => h
  | o :: l, a, hg, h => by
    have e : ∀ y, Region.wanted o y = true := fun y => by simp [Region.wanted, hg o (by simp)]
    unfold wpQuiet at h ⊢
    rw [e] at h ⊢
    simp only [if_true] at h ⊢
    exact Oper.quiet_mono (fun a ha => wpQuiet_ops l a (fun o ho => hg o (by simp [ho])) ha) h
theorem thenB_of {l : List Oper} {m : Nat} (h : thenB l m = true) : (Region.lexB .any (l.take m).toArray = true ∧ l.all (fun o => o.guard.isNone && Oper.noDefer o) = true ∧ m < l.length)
    ∧ (∀ i o, i < m → l[i]? = some o → ∀ e ∈ o.after, Region.binds .any e = true → e.on < i) ∧ (∀ p, p < m → ∃ q o, p < q ∧ q ≤ m ∧ l[q]? = some o ∧ bindsOn o p = true)
    ∧ (List.range (l.length - m)).all (fun k => Region.ready .any l.toArray (arr l.length (m + k)) == [m + k]) = true ∧ (Region.ready .any l.toArray (arr l.length l.length)).isEmpty = true := by
  unfold thenB at h
  simp only [Bool.and_eq_true] at h
  obtain ⟨⟨⟨⟨⟨⟨h1, h2⟩, h3⟩, h4⟩, h5⟩, h6⟩, h7⟩ := h
  refine ⟨⟨h1, h2, of_decide_eq_true h3⟩, fun i o hi ho e he hb => ?_, fun p hp => ?_, h6, h7⟩
  · rw [List.all_eq_true] at h4
    have := h4 i (List.mem_range.2 hi)
    rw [ho] at this
    simp only [Option.map_some, Option.getD_some, Array.all_eq_true_iff_forall_mem] at this
    have := this e he
    rw [hb] at this
    simpa using this
  · rw [List.all_eq_true] at h5
    have := h5 p (List.mem_range.2 hp)
    rw [List.any_eq_true] at this
    obtain ⟨q, hq, hh⟩ := this
    rw [Bool.and_eq_true] at hh
    rw [List.mem_range] at hq
    cases ho : l[q]? with
    | none => rw [ho] at hh; simp at hh
    | some o =>
      rw [ho] at hh
      exact ⟨q, o, of_decide_eq_true hh.1, by omega, ho, by simpa using hh.2⟩
theorem bindsOn_mem {o : Oper} {p : Nat} (h : bindsOn o p = true) : ∃ e ∈ o.after, Region.binds .any e = true ∧ e.on = p := by
  unfold bindsOn at h
  rw [← Array.any_toList, List.any_eq_true] at h
  obtain ⟨e, he, hh⟩ := h
  rw [Bool.and_eq_true] at hh
  exact ⟨e, Array.mem_toList_iff.1 he, hh.1, by simpa using hh.2⟩
theorem getD_at (A : Array Bool) (i : Nat) (d : Bool) : A.getD i d = (A[i]?).getD d := by
  rw [Array.getD_eq_getD_getElem?]

/-- All of the first ones are listed as soon as the next one is ready. -/
theorem all_listed {l : List Oper} {m : Nat} {lp lf : Array Bool} (hcov : ∀ p, p < m → ∃ q o, p < q ∧ q ≤ m ∧ l[q]? = some o ∧ bindsOn o p = true) (hR : Rel l.length m lp lf) (hD : Down (l.take m).toArray lp)
    (hm : m ∈ Region.ready .any l.toArray lf) : ∀ p, p < m → lp.getD p false = true := by
  have key : ∀ d p, p + d + 1 = m → lp.getD p false = true := by
    intro d
    induction d using Nat.strongRecOn with
    | ind d ih =>
      intro p hp
      obtain ⟨q, o, h1, h2, ho, hb⟩ := hcov p (by omega)
      obtain ⟨e, he, hbe, rfl⟩ := bindsOn_mem hb
      by_cases hq : q = m
      · subst hq
        obtain ⟨_, _, o', ho', hl⟩ := mem_ready.1 hm
        have : o' = o := by rw [List.getElem?_toArray] at ho'; rw [ho] at ho'; exact (Option.some.inj ho').symm
        subst this
        have := hl e he hbe
        rw [getD_at, hR.2, if_pos (by omega)] at this
        rw [getD_at]; exact this
      · have hq' : lp.getD q false = true := ih (m - q - 1) (by omega) q (by omega)
        exact hD q o (by rw [List.getElem?_toArray, List.getElem?_take, if_pos (by omega)]; exact ho) hq' e he hbe
  intro p hp
  exact key (m - p - 1) p (by omega)

theorem then_any (hF : Open F P) {l : List Oper} {m : Nat} (hB : thenB l m = true) : ∀ (fuel : Nat) (lp lf : Array Bool) (a : Act) (w : World), Rel l.length m lp lf → Down (l.take m).toArray lp → C w →
    wpAnyQ P .any (l.take m).toArray C (fun a' => ∀ w', C w' → wpListIn F n P l.toArray Q (l.drop m) a' w') fuel lp a → wpAnyIn F n P .any l.toArray Q (fuel + (l.length - m)) lf a w := by
  obtain ⟨⟨_, hgd, hml⟩, hlow, hcov, htail, hend⟩ := thenB_of hB
  have hszP : (l.take m).toArray.size = m := by simp; omega
  -- nothing more of the first ones is ready: all are listed
  have fin : ∀ (lp lf : Array Bool), Rel l.length m lp lf → Region.ready .any (l.take m).toArray lp = [] → lf = arr l.length m := by
    intro lp lf hR h0
    have hall : ∀ i, i < m → lp[i]? = some true := by
      intro i
      induction i using Nat.strongRecOn with
      | ind i ih =>
        intro hi
        have hs : i < lp.size := by rw [hR.1]; exact hi
        cases hv : lp[i] with
        | true => rw [Array.getElem?_eq_getElem hs, hv]
        | false =>
          exfalso
          have hil : i < l.length := by omega
          have : i ∈ Region.ready .any (l.take m).toArray lp := by
            refine mem_ready.2 ⟨by rw [hszP]; exact hi, by rw [getD_at, Array.getElem?_eq_getElem hs, hv]; rfl, l[i], by rw [List.getElem?_toArray, List.getElem?_take, if_pos hi, List.getElem?_eq_getElem hil], fun e he hb => ?_⟩
            have h1 := hlow i l[i] hi (List.getElem?_eq_getElem hil) e he hb
            rw [getD_at, ih e.on h1 (by omega)]; rfl
          rw [h0] at this; cases this
    apply Array.ext_getElem?
    intro i
    rw [hR.2, arr_at _ _ _ (by omega)]
    split
    · rename_i h; exact hall i h
    · rfl
  -- while some of the first ones are left, just they may be ready
  have same : ∀ (lp lf : Array Bool), Rel l.length m lp lf → Down (l.take m).toArray lp → Region.ready .any (l.take m).toArray lp ≠ [] → ∀ i, i ∈ Region.ready .any l.toArray lf ↔ i ∈ Region.ready .any (l.take m).toArray lp := by
    intro lp lf hR hD hne i
    constructor
    · intro hi
      obtain ⟨h1, h2, o, ho, h3⟩ := mem_ready.1 hi
      rw [List.getElem?_toArray] at ho
      rcases Nat.lt_trichotomy i m with hlt | heq | hgt
      · refine mem_ready.2 ⟨by rw [hszP]; exact hlt, ?_, o, by rw [List.getElem?_toArray, List.getElem?_take, if_pos hlt]; exact ho, fun e he hb => ?_⟩
        · rw [getD_at, hR.2, if_pos hlt] at h2; rw [getD_at]; exact h2
        · have := hlow i o hlt ho e he hb
          have h4 := h3 e he hb
          rw [getD_at, hR.2, if_pos (by omega)] at h4
          rw [getD_at]; exact h4
      · subst heq
        exfalso
        have hall := all_listed hcov hR hD hi
        obtain ⟨j, hj⟩ := List.exists_mem_of_ne_nil _ hne
        obtain ⟨k1, k2, _⟩ := mem_ready.1 hj
        rw [hszP] at k1
        have := hall j k1
        rw [getD_at] at this k2
        cases hv : lp[j]? with
        | none => rw [hv] at this; cases this
        | some b => rw [hv] at this k2; simp at this k2; rw [this] at k2; cases k2
      · exfalso
        have hr := (List.all_eq_true.1 htail) 0 (by rw [List.mem_range]; omega)
        have hr : Region.ready .any l.toArray (arr l.length m) = [m] := by simpa using hr
        have : i ∈ Region.ready .any l.toArray (arr l.length m) := by
          refine mem_ready.2 ⟨h1, ?_, o, by rw [List.getElem?_toArray]; exact ho, fun e he hb => ?_⟩
          · have : i < l.length := by simpa using h1
            rw [getD_at, arr_at _ _ _ (by omega), if_neg (by omega), if_pos this]; rfl
          · have h4 := h3 e he hb
            rw [getD_at, hR.2] at h4
            rw [getD_at, arr_at _ _ _ (by omega)]
            split
            · rfl
            · rename_i hh; rw [if_neg hh] at h4; exact h4
        rw [hr, List.mem_singleton] at this
        omega
    · intro hi
      obtain ⟨h1, h2, o, ho, h3⟩ := mem_ready.1 hi
      rw [hszP] at h1
      rw [List.getElem?_toArray, List.getElem?_take, if_pos h1] at ho
      refine mem_ready.2 ⟨by simp; omega, by rw [getD_at, hR.2, if_pos h1, ← getD_at]; exact h2, o, by rw [List.getElem?_toArray]; exact ho, fun e he hb => ?_⟩
      have := hlow i o h1 ho e he hb
      have h4 := h3 e he hb
      rw [getD_at, hR.2, if_pos (by omega), ← getD_at]; exact h4
  have gd : ∀ o ∈ l, o.guard = none ∧ Oper.noDefer o = true := by
    intro o ho
    have := (List.all_eq_true.1 hgd) o ho
    rw [Bool.and_eq_true] at this
    exact ⟨by simpa using this.1, this.2⟩
  have tl : ∀ (fuel : Nat) (lp lf : Array Bool) (a : Act) (w : World), Rel l.length m lp lf → Region.ready .any (l.take m).toArray lp = [] → l.length - m ≤ fuel → wpListIn F n P l.toArray Q (l.drop m) a w → wpAnyIn F n P .any l.toArray Q fuel lf a w := by
    intro fuel lp lf a w hR h0 hf h
    rw [fin lp lf hR h0]
    exact tail_any hgd htail hend (l.length - m) 0 fuel a w (by omega) (by omega) hf h
  intro fuel
  induction fuel with
  | zero =>
    intro lp lf a w hR hD hw h
    exact tl _ lp lf a w hR h.1 (by omega) (h.2 w hw)
  | succ fuel ih =>
    intro lp lf a w hR hD hw h
    by_cases h0 : Region.ready .any (l.take m).toArray lp = []
    · exact tl _ lp lf a w hR h0 (by omega) (h.1 h0 w hw)
    · have hs := same lp lf hR hD h0
      rw [Nat.add_right_comm]
      refine ⟨fun h1 => ?_, fun i hi => ?_⟩
      · obtain ⟨j, hj⟩ := List.exists_mem_of_ne_nil _ h0
        have := (hs j).2 hj
        rw [h1] at this; cases this
      · have hiP := (hs i).1 hi
        obtain ⟨k1, k2, o, ho, k3⟩ := mem_ready.1 hiP
        rw [hszP] at k1
        have ho' : l[i]? = some o := by rw [List.getElem?_toArray, List.getElem?_take, if_pos k1] at ho; exact ho
        have hmem : o ∈ l := List.mem_of_getElem? ho'
        have hq := h.2 i hiP
        unfold qOp at hq
        rw [ho] at hq
        have e : ∀ y, Region.wanted o y = true := fun y => by simp [Region.wanted, (gd o hmem).1]
        simp only [e, if_true] at hq
        unfold wpOpIn
        rw [List.getElem?_toArray, ho']
        simp only [e, if_true]
        refine wpIn_of_quiet_open hF (noDefer_ne (gd o hmem).2) hw (fun a' w' hw' ha' => ih _ _ a' w' ?_ ?_ hw' ha') hq
        · refine ⟨by rw [Array.size_setIfInBounds]; exact hR.1, fun j => ?_⟩
          rw [Array.getElem?_setIfInBounds, Array.getElem?_setIfInBounds, hR.2]
          have hlp : i < lp.size := by rw [hR.1]; exact k1
          have hlfs : i < lf.size := by
            rcases Nat.lt_or_ge i lf.size with q | q
            · exact q
            · have := hR.2 i
              have h2 : lp[i]? = some lp[i] := Array.getElem?_eq_getElem hlp
              have h3 : lf[i]? = none := Array.getElem?_eq_none (by omega)
              rw [if_pos k1, h2, h3] at this; cases this
          by_cases e : i = j
          · subst e; rw [if_pos rfl, if_pos hlfs, if_pos k1, if_pos rfl, if_pos hlp]
          · rw [if_neg e, if_neg e]
        · intro j oj hj hl e he hb
          have up : ∀ x, lp.getD x false = true → (lp.setIfInBounds i true).getD x false = true := by
            intro x hx
            rw [getD_at, Array.getElem?_setIfInBounds]
            by_cases ex : i = x
            · subst ex; rw [if_pos rfl, if_pos (by rw [hR.1]; exact k1)]; rfl
            · rw [if_neg ex, ← getD_at]; exact hx
          by_cases ej : i = j
          · subst ej
            rw [ho] at hj
            obtain rfl := Option.some.inj hj
            exact up _ (k3 e he hb)
          · rw [getD_at, Array.getElem?_setIfInBounds, if_neg ej, ← getD_at] at hl
            exact up _ (hD j oj hj hl e he hb)

/-- **A region that draws its order: the first m operations quietly, then the others.** -/
theorem region_then (hF : Open F P) {id : Nat} {a : Act} {w : World} {l : List Oper} (m : Nat) (hm : P.follows .mixedOrders = true) (hB : thenB l m = true) (hC : C { w with drawn := w.drawn + 1 })
    (h : wpQuiet P l.toArray C (fun a' => ∀ w', C w' → wpListIn F n P l.toArray Q (l.drop m) a' w') (l.take m) a) : (Code.region id l.toArray true).wpIn F n P Q a w := by
  obtain ⟨⟨hlex, hgd, hml⟩, _, _, _, _⟩ := thenB_of hB
  have gd : ∀ o ∈ l, o.guard = none := by
    intro o ho
    have := (List.all_eq_true.1 hgd) o ho
    rw [Bool.and_eq_true] at this
    simpa using this.1
  have h' := wpQuiet_ops (ops' := (l.take m).toArray) (l.take m) a (fun o ho => gd o (List.mem_of_mem_take ho)) h
  simp only [Region.lexB, Bool.and_eq_true] at hlex
  have hq := wpAnyQ_lex (C := C) (md := .any) hlex.1 (l.take m) 0 (Array.replicate (l.take m).toArray.size false) a (by simp) (by simpa using hlex.2) h'
  have hsz : (l.take m).length = m := by simp; omega
  refine wpIn_region_any hm ?_
  have := then_any (F := F) (n := n) (Q := Q) hF hB (l.take m).length (Array.replicate (l.take m).toArray.size false) (Array.replicate l.toArray.size false) a _ ?_ ?_ hC hq
  · rw [hsz, show m + (l.length - m) = l.toArray.size from by simp; omega] at this
    exact this
  · refine ⟨by simp; omega, fun i => ?_⟩
    rw [Array.getElem?_replicate, Array.getElem?_replicate]
    simp only [List.size_toArray, hsz]
    split <;> split <;> (try split) <;> first | rfl | omega
  · intro i o _ hl
    rw [getD_at, Array.getElem?_replicate] at hl
    split at hl <;> cases hl
end
end Go.Proofs.Ytcbgknlklpandaa
