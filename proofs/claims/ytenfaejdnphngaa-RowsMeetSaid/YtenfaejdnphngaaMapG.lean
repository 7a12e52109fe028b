/- Maps whose keys are pairs of numbers: what look-ups, entries and stores do. -/
import Derived.Test.YtenfaejdnphngaaRowsB
import Derived.ChangeKeysEq
import Derived.Maps.RangeRun
namespace Go.Proofs.Ytenfaejdnphngaa
open Go.RowKit Go.ChangeMaps

abbrev I2 := Int × Int
theorem infoInt : ∃ i, Try.prog.info? 3 = some i := by
  cases h : Try.prog.info? 3 with
  | none => exact absurd (show (Try.prog.info? 3).isSome = true by kernel_rfl) (by rw [h]; simp)
  | some i => exact ⟨i, rfl⟩
theorem equal_i (d : Nat) (a b : Int) (w : World) : (Op.equalIn (d + 1) 3 (.int .i64 a) (.int .i64 b)).run Try.prog w = .ok (a == b) w := by
  unfold Op.equalIn
  simp [run_underlying Try.underlying3]
theorem equal_A {T : TypeId} (u : Try.prog.underlying T = some (.array 2 3)) (a b : I2) (w : World) : (Op.equalIn 10000 T (enc2 a) (enc2 b)).run Try.prog w = .ok (decide (a = b)) w := by
  obtain ⟨a1, a2⟩ := a
  obtain ⟨b1, b2⟩ := b
  obtain ⟨i, hi⟩ := infoInt
  have hc : Try.prog.cellsOf 3 = 1 := by kernel_rfl
  unfold enc2
  rw [show (10000 : Nat) = 9999 + 1 from rfl, run_equalIn_array w 9999 _ _ u hi, hc, show List.range 2 = [0, 1] from rfl]
  have e1 := equal_i 9998 a1 b1 w
  have e2 := equal_i 9998 a2 b2 w
  simp [Op.eqItems, part, e1, e2]
  by_cases h1 : a1 = b1 <;> by_cases h2 : a2 = b2 <;> simp [h1, h2]
theorem check_A {T : TypeId} (u : Try.prog.underlying T = some (.array 2 3)) (em : Bool) (a : I2) (w : World) : (Instr.checkKey em 10000 T (enc2 a)).run Try.prog w = .ok () w := by
  obtain ⟨a1, a2⟩ := a
  obtain ⟨i, hi⟩ := infoInt
  have hcc : Try.prog.cellsOf 3 = 1 := by kernel_rfl
  have h1 := check_int em 9998 a1 w
  have h2 := check_int em 9998 a2 w
  unfold enc2
  rw [show (10000 : Nat) = 9999 + 1 from rfl]
  unfold Instr.checkKey
  simp [run_underlying u, List.range'_succ, part, run_sizeOf w hi, hcc, h1, h2]
/-- An entry: its key, its value, its stamp. -/
abbrev EnG := I2 × Value × Nat
def entG (p : EnG) : MapEntry := { key := enc2 p.1, val := p.2.1, born := p.2.2 }
def ixG : List EnG → I2 → Option (Nat × EnG)
  | [], _ => none
  | p :: M, k => if p.1 = k then some (0, p) else (ixG M k).map fun q => (q.1 + 1, q.2)
def lkG (ps : List EnG) (k : I2) : Option Value := (ixG ps k).map (·.2.2.1)
theorem ixG_some : ∀ {ps : List EnG} {k : I2} {i : Nat} {p : EnG}, ixG ps k = some (i, p) → ps[i]? = some p ∧ p.1 = k
  | [], _, _, _, h => by simp [ixG] at h
  | q :: M, k, i, p, h => by
    unfold ixG at h
    by_cases hk : q.1 = k
    · rw [if_pos hk] at h
      injection h with h
      injection h with h1 h2
      subst h1 h2
      exact ⟨rfl, hk⟩
    · rw [if_neg hk] at h
      cases hq : ixG M k with
      | none => rw [hq] at h; cases h
      | some r =>
        obtain ⟨j, p'⟩ := r
        rw [hq] at h
        simp at h
        obtain ⟨rfl, rfl⟩ := h
        have := ixG_some hq
        exact ⟨by simpa using this.1, this.2⟩
theorem ixG_none : ∀ {ps : List EnG} {k : I2}, ixG ps k = none → ∀ p ∈ ps, p.1 ≠ k
  | [], _, _, p, hp => by simp at hp
  | q :: M, k, h, p, hp => by
    unfold ixG at h
    by_cases hk : q.1 = k
    · rw [if_pos hk] at h; cases h
    · rw [if_neg hk] at h
      have h2 : ixG M k = none := by cases hq : ixG M k <;> simp_all
      rcases List.mem_cons.1 hp with rfl | hp
      · exact hk
      · exact ixG_none h2 p hp
theorem lkG_cons (p : EnG) (M : List EnG) (k : I2) : lkG (p :: M) k = if p.1 = k then some p.2.1 else lkG M k := by
  unfold lkG; rw [ixG]; split
  · rfl
  · rw [Option.map_map]; rfl
theorem lkG_mem : ∀ {ps : List EnG} (_ : ps.Pairwise (fun p q => p.1 ≠ q.1)) {p : EnG}, p ∈ ps → lkG ps p.1 = some p.2.1
  | [], _, p, hp => by simp at hp
  | q :: M, hn, p, hp => by
    rw [List.pairwise_cons] at hn
    rw [lkG_cons]
    rcases List.mem_cons.1 hp with rfl | hp
    · rw [if_pos rfl]
    · rw [if_neg (hn.1 p hp), lkG_mem hn.2 hp]
theorem lkG_app (ps : List EnG) (p : EnG) (k : I2) : lkG (ps ++ [p]) k = (lkG ps k).or (if p.1 = k then some p.2.1 else none) := by
  induction ps with
  | nil => simp [lkG, ixG]
  | cons q M ih => rw [List.cons_append, lkG_cons, lkG_cons, ih]; split <;> simp
def setG (ps : List EnG) (k : I2) (u : Value) : List EnG := ps.map (fun p => if p.1 = k then (p.1, u, p.2.2) else p)
theorem lkG_set (ps : List EnG) (k : I2) (u : Value) (f : I2) : lkG (setG ps k u) f = if f = k then (lkG ps k).map (fun _ => u) else lkG ps f := by
  induction ps with
  | nil => simp [setG, lkG, ixG]
  | cons q M ih =>
    unfold setG at *
    rw [List.map_cons, lkG_cons, ih, lkG_cons, lkG_cons]
    by_cases hq : q.1 = k
    · subst hq
      by_cases hf : f = q.1
      · subst hf; simp
      · have : ¬ q.1 = f := fun e => hf e.symm
        simp [hf, this]
    · rw [if_neg hq, if_neg hq]
      by_cases hf : f = k
      · subst hf; simp [hq]
      · simp [hf]
theorem setG_keys (ps : List EnG) (k : I2) (u : Value) : (setG ps k u).map (·.1) = ps.map (·.1) := by
  unfold setG; rw [List.map_map]; apply List.map_congr_left; intro p _; simp only [Function.comp]; split <;> rfl
theorem setG_borns (ps : List EnG) (k : I2) (u : Value) : (setG ps k u).map (·.2.2) = ps.map (·.2.2) := by
  unfold setG; rw [List.map_map]; apply List.map_congr_left; intro p _; simp only [Function.comp]; split <;> rfl
/-- A map's block: its entries in the order in which they stand. -/
structure MapG (W : World) (mb : Nat) (ps : List EnG) (clock : Nat) : Prop where
  blk : ∃ xs : Array MapEntry, W.heap[mb]? = some (.map xs clock) ∧ xs.toList = ps.map entG
  nd : ps.Pairwise (fun p q => p.1 ≠ q.1)
  bd : (ps.map (·.2.2)).Nodup
  lt : ∀ p ∈ ps, p.2.2 < clock
theorem MapG.size {W : World} {mb c : Nat} {ps : List EnG} (h : MapG W mb ps c) : mb < W.heap.size := by
  obtain ⟨⟨xs, hb, _⟩, _⟩ := h
  rcases Nat.lt_or_ge mb W.heap.size with k | k
  · exact k
  · rw [Array.getElem?_eq_none (by simpa using k)] at hb; cases hb
theorem MapG.of {W W1 : World} {mb c : Nat} {ps : List EnG} (h : MapG W mb ps c) (e : W1.heap[mb]? = W.heap[mb]?) : MapG W1 mb ps c := by
  obtain ⟨⟨xs, hb, he⟩, h1, h2, h3⟩ := h
  exact ⟨⟨xs, e.trans hb, he⟩, h1, h2, h3⟩
theorem MapG.nocell {W : World} {mb c : Nat} {ps : List EnG} (h : MapG W mb ps c) (o : Nat) : W.cell? ⟨mb, o, none⟩ = none := by
  obtain ⟨⟨xs, hb, _⟩, _⟩ := h
  unfold World.cell?
  simp [hb]
set_option maxRecDepth 20000 in
theorem ask_G {T : TypeId} (u : Try.prog.underlying T = some (.array 2 3)) (k : I2) (w : World) : ∀ (ps : List EnG) (i : Nat),
    (Instr.findAsking T (enc2 k) (ps.map entG) i).run Try.prog w = .ok ((ixG ps k).map fun p => (i + p.1, p.2.2.1)) w
  | [], i => by simp [Instr.findAsking, ixG]
  | p :: ps, i => by
    have ih := ask_G u k w ps (i + 1)
    have he := equal_A u k p.1 w
    rw [List.map_cons]
    unfold Instr.findAsking
    unfold Op.equal Op.maxDepth
    simp only [Sem.run_bind, entG, he, Result.andThen_ok]
    unfold ixG
    by_cases hk : p.1 = k
    · simp [hk]
    · have : ¬ k = p.1 := fun c => hk c.symm
      simp only [this, hk, decide_false, Bool.false_eq_true, if_false]
      rw [ih]
      simp only [Option.map_map]
      congr 2
      funext q
      simp; omega
set_option maxRecDepth 20000 in
theorem find_G {T : TypeId} (u : Try.prog.underlying T = some (.array 2 3)) (k : I2) (w : World) (ps : List EnG) :
    (Instr.findKey T (enc2 k) (ps.map entG)).run Try.prog w = .ok ((ixG ps k).map fun p => (p.1, p.2.2.1)) w := by
  unfold Instr.findKey
  have ha := ask_G u k w ps 0
  cases ps with
  | nil => simp [run_underlying u, Instr.findNow, ixG]
  | cons p M =>
    simp only [Sem.run_bind, run_underlying u, Result.andThen_ok]
    rw [List.map_cons] at *
    unfold Instr.findNow
    simp only [Instr.sameNow]
    rw [ha]
    simp
theorem stays_A (k : I2) (w : World) : (Instr.keyThatStays (enc2 k) (enc2 k)).run Try.prog w = .ok (enc2 k) w := by
  unfold Instr.keyThatStays
  rw [if_pos (by unfold enc2; simp [Instr.sameBits])]
  rfl
theorem grown_block {W : World} {mb : Nat} {xs : Array MapEntry} {c : Nat} (o : Obj) (hb : W.heap[mb]? = some (.map xs c)) : W.grownBy (setBlock W mb o) (some mb) :=
  ⟨rfl, rfl, rfl, by simp [setBlock], fun k _ hk => heap_setBlock_other hb _ (fun e => hk (by rw [e]))⟩
/-- A look-up: what stands there, or the zero value. -/
theorem run_lookG {mt kt et : TypeId} {z : Value} (um : Try.prog.underlying mt = some (.map kt et)) (uk : Try.prog.underlying kt = some (.array 2 3)) (hz : ∀ W, (zeroValue et).run Try.prog W = .ok z W) {W : World} {mb c : Nat} {ps : List EnG} (h : MapG W mb ps c) (k : I2) :
    (Instr.lookup mt (.map (some mb)) (enc2 k) false).run Try.prog W = .ok ((lkG ps k).getD z) W := by
  obtain ⟨⟨xs, hb, he⟩, _⟩ := h
  have hf := find_G uk k W ps
  rw [← he] at hf
  have hk := check_A uk xs.isEmpty k W
  unfold Instr.lookup
  simp only [Sem.run_bind, run_underlying um, Result.andThen_ok, MapKept.run_getObj_map hb, Sem.run_pure, hk, hf]
  unfold lkG
  cases ixG ps k with
  | none => simp [hz]
  | some p => simp
/-- A store of a key that isn't there. -/
theorem run_newG {mt kt et : TypeId} (um : Try.prog.underlying mt = some (.map kt et)) (uk : Try.prog.underlying kt = some (.array 2 3)) {W : World} {mb c : Nat} {ps : List EnG} (h : MapG W mb ps c) (k : I2) (v : Value) (hn : lkG ps k = none) :
    ∃ W', (Instr.mapUpdate mt (.map (some mb)) (enc2 k) v).run Try.prog W = .ok () W' ∧ MapG W' mb (ps ++ [(k, v, c)]) (c + 1) ∧ W.grownBy W' (some mb) := by
  have hix : ixG ps k = none := by unfold lkG at hn; cases hq : ixG ps k <;> simp_all
  obtain ⟨⟨xs, hb, he⟩, h1, h2, h3⟩ := h
  have hf := find_G uk k W ps
  rw [← he, hix] at hf
  have hk := check_A uk false k W
  refine ⟨setBlock W mb (.map (xs.push { key := enc2 k, val := v, born := c }) (c + 1)), ?_, ⟨⟨_, heap_setBlock_same hb _, ?_⟩, ?_, ?_, ?_⟩, grown_block _ hb⟩
  · simp [Instr.mapUpdate, run_underlying um, MapKept.run_getObj_map hb, hk, hf, MapKept.run_setObj_map _ hb, Result.andThen, setBlock]
  · rw [Array.toList_push, he, List.map_append]; rfl
  · rw [List.pairwise_append]
    exact ⟨h1, List.pairwise_singleton _ _, fun p hp q hq => by rw [List.mem_singleton] at hq; subst hq; exact ixG_none hix p hp⟩
  · rw [List.map_append, List.nodup_append]
    refine ⟨h2, by simp, fun a ha b hb => ?_⟩
    obtain ⟨p, hp, rfl⟩ := List.mem_map.1 ha
    simp at hb
    subst hb
    exact Nat.ne_of_lt (h3 p hp)
  · intro p hp
    rcases List.mem_append.1 hp with hp | hp
    · exact Nat.lt_succ_of_lt (h3 p hp)
    · rw [List.mem_singleton] at hp; subst hp; exact Nat.lt_succ_self _
/-- An entry of a key, made if it isn't there: its value, its stamp. -/
theorem run_entryG {mt kt et : TypeId} {z : Value} (um : Try.prog.underlying mt = some (.map kt et)) (uk : Try.prog.underlying kt = some (.array 2 3)) (hz : ∀ W, (zeroValue et).run Try.prog W = .ok z W) {W : World} {mb c : Nat} {ps : List EnG} (h : MapG W mb ps c) (k : I2) :
    ∃ W' ps1 c1 b, (Instr.mapEntry mt (.map (some mb)) (enc2 k)).run Try.prog W = .ok (.tuple #[(lkG ps k).getD z, .int .i64 (b : Nat)]) W' ∧ MapG W' mb ps1 c1 ∧ W.grownBy W' (some mb) ∧ (k, (lkG ps k).getD z, b) ∈ ps1 ∧
      (∀ f, f ≠ k → lkG ps1 f = lkG ps f) ∧ lkG ps1 k = some ((lkG ps k).getD z) := by
  obtain ⟨⟨xs, hb, he⟩, h1, h2, h3⟩ := id h
  have hf := find_G uk k W ps
  rw [← he] at hf
  have hk := check_A uk false k W
  cases hix : ixG ps k with
  | none =>
    have hl : lkG ps k = none := by unfold lkG; rw [hix]; rfl
    rw [hix] at hf
    have hne := ixG_none hix
    refine ⟨setBlock W mb (.map (xs.push { key := enc2 k, val := z, born := c }) (c + 1)), ps ++ [(k, z, c)], c + 1, c, ?_, ⟨⟨_, heap_setBlock_same hb _, ?_⟩, ?_, ?_, ?_⟩, grown_block _ hb, by rw [hl]; simp, fun f hne => ?_, ?_⟩
    · rw [hl]
      simp [Instr.mapEntry, run_underlying um, MapKept.run_getObj_map hb, hk, hf, hz, MapKept.run_setObj_map _ hb, Result.andThen, setBlock, goInt]
    · rw [Array.toList_push, he, List.map_append]; rfl
    · rw [List.pairwise_append]
      exact ⟨h1, List.pairwise_singleton _ _, fun p hp q hq => by rw [List.mem_singleton] at hq; subst hq; exact hne p hp⟩
    · rw [List.map_append, List.nodup_append]
      refine ⟨h2, by simp, fun a ha b hb => ?_⟩
      obtain ⟨p, hp, rfl⟩ := List.mem_map.1 ha
      simp at hb
      subst hb
      exact Nat.ne_of_lt (h3 p hp)
    · intro p hp
      rcases List.mem_append.1 hp with hp | hp
      · exact Nat.lt_succ_of_lt (h3 p hp)
      · rw [List.mem_singleton] at hp; subst hp; exact Nat.lt_succ_self _
    · rw [lkG_app, if_neg (fun e => hne e.symm)]; simp
    · rw [lkG_app, hl]; simp
  | some r =>
    obtain ⟨i, p⟩ := r
    obtain ⟨hi, hpk⟩ := ixG_some hix
    have hl : lkG ps k = some p.2.1 := by unfold lkG; rw [hix]; rfl
    rw [hix] at hf
    have hx : xs[i]? = some (entG p) := by rw [← Array.getElem?_toList, he, List.getElem?_map, hi]; rfl
    have hs := stays_A k W
    have hm : p ∈ ps := List.mem_of_getElem? hi
    have hmod : (xs.modify i fun e => { e with key := enc2 k }).toList = ps.map entG := by
      rw [Array.toList_modify, he]
      apply List.ext_getElem?
      intro j
      rw [List.getElem?_modify]
      by_cases hj : i = j
      · subst hj
        rw [List.getElem?_map, hi]
        simp [entG, hpk]
      · simp [hj]
    have hpe : (k, (lkG ps k).getD z, p.2.2) = p := by rw [hl, ← hpk]; rfl
    refine ⟨setBlock W mb (.map (xs.modify i fun e => { e with key := enc2 k }) c), ps, c, p.2.2, ?_, ⟨⟨_, heap_setBlock_same hb _, hmod⟩, h1, h2, h3⟩, grown_block _ hb, by rw [hpe]; exact hm, fun _ _ => rfl, by rw [hl]; rfl⟩
    rw [hl]
    simp [Instr.mapEntry, run_underlying um, MapKept.run_getObj_map hb, hk, hf, hx, entG, hpk, hs, MapKept.run_setObj_map _ hb, Result.andThen, setBlock, goInt]
/-- A store by an entry's stamp. -/
theorem run_storeG {mt : TypeId} {W : World} {mb c : Nat} {ps : List EnG} (h : MapG W mb ps c) {k : I2} {v u : Value} {b : Nat} (hm : (k, v, b) ∈ ps) :
    ∃ W', (Instr.entryStore mt (.map (some mb)) (.int .i64 (b : Int)) u).run Try.prog W = .ok () W' ∧ MapG W' mb (setG ps k u) c ∧ W.grownBy W' (some mb) := by
  obtain ⟨⟨xs, hb, he⟩, h1, h2, h3⟩ := id h
  obtain ⟨i, hi, hie⟩ := List.getElem_of_mem hm
  have hxl : xs.toList.length = ps.length := by rw [he, List.length_map]
  have hsz : xs.size = ps.length := by rw [← Array.length_toList]; exact hxl
  have hfind : xs.findIdx? (fun e => (e.born : Int) == (b : Int)) = some i := by
    rw [Array.findIdx?_eq_some_iff_getElem]
    refine ⟨by omega, ?_, fun j hj => ?_⟩
    · have : xs[i]'(by omega) = entG (k, v, b) := by
        rw [← Array.getElem_toList]
        simp only [he, List.getElem_map, hie]
      rw [this]; simp [entG]
    · have : xs[j]'(by omega) = entG (ps[j]'(by omega)) := by
        rw [← Array.getElem_toList]
        simp only [he, List.getElem_map]
      rw [this]
      have hne := (List.pairwise_iff_getElem.1 h2) j i (by simp; omega) (by simp; omega) hj
      simp only [List.getElem_map, hie] at hne
      simp only [entG, beq_iff_eq]
      intro e
      exact hne (by omega)
  refine ⟨setBlock W mb (.map (xs.modify i fun e => { e with val := u }) c), ?_, ⟨⟨_, heap_setBlock_same hb _, ?_⟩, ?_, by rw [setG_borns]; exact h2, ?_⟩, grown_block _ hb⟩
  · simp [Instr.entryStore, MapKept.run_getObj_map hb, asInt, asIntOf, hfind, MapKept.run_setObj_map _ hb, Result.andThen, setBlock]
  · rw [Array.toList_modify, he]
    apply List.ext_getElem?
    intro j
    unfold setG
    rw [List.getElem?_modify, List.getElem?_map, List.getElem?_map, List.getElem?_map]
    by_cases hj : i = j
    · subst hj
      rw [List.getElem?_eq_getElem hi, hie]
      simp [entG]
    · cases hq : ps[j]? with
      | none => simp [hj]
      | some p =>
        obtain ⟨hjl, hje⟩ := List.getElem?_eq_some_iff.1 hq
        have hpk : p.1 ≠ k := by
          intro e
          rcases Nat.lt_trichotomy i j with hij | hij | hij
          · have := (List.pairwise_iff_getElem.1 h1) i j hi hjl hij
            rw [hie, hje] at this; exact this e.symm
          · exact hj hij
          · have := (List.pairwise_iff_getElem.1 h1) j i hjl hi hij
            rw [hie, hje] at this; exact this e
        simp [hj, hpk, entG]
  · have := setG_keys ps k u
    have h1' : (ps.map (·.1)).Nodup := by unfold List.Nodup; rw [List.pairwise_map]; exact h1
    rw [← this] at h1'
    unfold List.Nodup at h1'
    rw [List.pairwise_map] at h1'
    exact h1'
  · intro p hp
    unfold setG at hp
    obtain ⟨q, hq, rfl⟩ := List.mem_map.1 hp
    have := h3 q hq
    split <;> exact this
/-- A map, made. -/
theorem mapG_new {W : World} {mb : Nat} (h : W.heap[mb]? = some (.map #[] 0)) : MapG W mb [] 0 := ⟨⟨#[], h, rfl⟩, .nil, by simp, fun p hp => by simp at hp⟩
end Go.Proofs.Ytenfaejdnphngaa
