/- Walks of the index: grid. -/
import Derived.Test.YtenfaejdnphngaaRowsX
import Derived.Deep.CutBlock
namespace Go.Proofs.Ytenfaejdnphngaa
open Go.RowKit

theorem map_nil_eqG (x : Option Nat) (w : World) : Sem.run Try.prog (binOp .eql 86 (.map x) (.map none)) w = .ok (.bool x.isNone) w := by
  have u := Try.underlying86
  have h : (Op.equalIn (9999 + 1) 86 (.map x) (.map none)).run Try.prog w = .ok x.isNone w := by
    unfold Op.equalIn
    cases x <;> simp [run_underlying u]
  simp only [binOp]
  simp [Op.equal, Op.maxDepth, h]
theorem zeroPt (W : World) : (zeroValue 89).run Try.prog W = .ok (.pointer none) W := by
  have h : (Try.prog.info? 89).map (fun i => i.zero) = some (some (.pointer none)) := by kernel_rfl
  cases hi : Try.prog.info? 89 with
  | none => rw [hi] at h; cases h
  | some i =>
    rw [hi] at h
    simp only [Option.map_some, Option.some.injEq] at h
    simp [zeroValue, typeInfo, hi, h]
theorem lkG_some : ∀ {ps : List EnG} {s : I2} {v : Value}, lkG ps s = some v → ∃ b, (s, v, b) ∈ ps
  | [], s, v, h => by simp [lkG, ixG] at h
  | p :: M, s, v, h => by
    rw [lkG_cons] at h
    split at h
    · rename_i e
      injection h with h
      exact ⟨p.2.2, by rw [← e, ← h]; exact List.mem_cons_self⟩
    · obtain ⟨b, hb⟩ := lkG_some h
      exact ⟨b, List.mem_cons_of_mem _ hb⟩
/-- The index with a map. -/
def IxM (W : World) (B xb : Nat) (R : Nat → Rl) (L : List B4) (A : I2 → List Nat) (F : I2 → I2 → List Nat) (mb : Nat) (ps : List EnG) (c : Nat) : Prop :=
  IxI W B xb R L A F ∧ W.cell? ⟨xb, 1, none⟩ = some (.map (some mb)) ∧ R mb = .gm ∧ B ≤ mb ∧ MapG W mb ps c ∧
    (∀ p ∈ ps, ∃ gb, p.2.1 = .pointer (some ⟨gb, 0, none⟩) ∧ GrI W B R p.1 gb (A p.1) (F p.1)) ∧ ∀ s, lkG ps s = none → A s = [] ∧ ∀ f, F s f = []
theorem IxI.newmap {V : World} {B xb : Nat} {R : Nat → Rl} {L : List B4} {A : I2 → List Nat} {F : I2 → I2 → List Nat} (h : IxI V B xb R L A F) (c1 : V.cell? ⟨xb, 1, none⟩ = some (.map none)) (hA : ∀ s, A s = [] ∧ ∀ f, F s f = []) (hB : B ≤ V.heap.size) :
    ∃ R2, ExtR V R R2 ∧ IxM ((V.alloc (.map #[] 0)).setCell ⟨xb, 1, none⟩ (.map (some V.heap.size))) B xb R2 L A F V.heap.size [] 0 ∧ FrQ (fun r => r ≠ .ix ∧ r ≠ .gm) R V ((V.alloc (.map #[] 0)).setCell ⟨xb, 1, none⟩ (.map (some V.heap.size))) ∧ ∀ v, V.cell? ⟨xb, 0, none⟩ = some v → ((V.alloc (.map #[] 0)).setCell ⟨xb, 1, none⟩ (.map (some V.heap.size))).cell? ⟨xb, 0, none⟩ = some v := by
  have e : ExtR V R (fun k => if k = V.heap.size then .gm else R k) := fun k hk => if_neg (by omega)
  have hx := h.lt
  have hxn : xb ≠ V.heap.size := by omega
  obtain ⟨vb, c0, r0⟩ := h.c0
  have f0 : FrQ (fun _ => True) R V (V.alloc (.map #[] 0)) := FrQ.below (below_alloc _ _)
  have hrx : (fun k => if k = V.heap.size then Rl.gm else R k) xb = .ix := (e xb hx).trans h.role
  have f1 : FrQ (fun r => r ≠ .ix) (fun k => if k = V.heap.size then Rl.gm else R k) (V.alloc (.map #[] 0)) ((V.alloc (.map #[] 0)).setCell ⟨xb, 1, none⟩ (.map (some V.heap.size))) := FrQ.setCell _ _ _ (fun hq => hq hrx)
  have fA := (f0.weak (Q' := fun r => r ≠ .ix ∧ r ≠ .gm) (fun _ _ => trivial)).trans (f1.weak (fun r hr => hr.1)) e
  have d1 : (V.alloc (.map #[] 0)).cell? ⟨xb, 1, none⟩ = some (.map none) := cell_later (below_alloc _ _) c1
  have k1 : ((V.alloc (.map #[] 0)).setCell ⟨xb, 1, none⟩ (.map (some V.heap.size))).cell? ⟨xb, 1, none⟩ = some (.map (some V.heap.size)) := World.cell?_setCell_same _ _ _ d1
  have hm : MapG ((V.alloc (.map #[] 0)).setCell ⟨xb, 1, none⟩ (.map (some V.heap.size))) V.heap.size [] 0 := mapG_new (by
    rw [Below.heap_setCell _ _ _ _ (fun e => hxn e.symm)]
    exact heap_alloc_new V _)
  have hix : IxI ((V.alloc (.map #[] 0)).setCell ⟨xb, 1, none⟩ (.map (some V.heap.size))) B xb (fun k => if k = V.heap.size then .gm else R k) L A F := by
    refine ⟨hrx, h.ge, fun o => ?_, ⟨vb, ?_, ?_⟩, .inr ⟨_, [], 0, k1, if_pos rfl, hB, hm, fun p hp => by simp at hp, fun s _ => hA s⟩, fun k hk => (e k (by omega)).trans (h.nob k hk)⟩
    · rw [show ((V.alloc (.map #[] 0)).setCell ⟨xb, 1, none⟩ (.map (some V.heap.size))).frozen? ⟨xb, o, none⟩ = (V.alloc (.map #[] 0)).frozen? ⟨xb, o, none⟩ from by simp]
      exact (f0.frozen (a := ⟨xb, o, none⟩) hx trivial).trans (h.frz o)
    · rw [World.cell?_setCell_other _ _ _ _ (by intro e; injection e with _ e2; cases e2)]
      exact f0.cell c0 trivial
    · exact (r0.fr f0 e trivial).fr f1 (ExtR.refl _ _) (by simp)
  exact ⟨_, e, ⟨hix, k1, if_pos rfl, hB, hm, fun p hp => by simp at hp, fun s _ => hA s⟩, fA, fun v hv => by rw [World.cell?_setCell_other _ _ _ _ (by intro e; injection e with _ e2; cases e2)]; exact cell_later (below_alloc _ _) hv⟩
/-- A grid more, behind the store into the map. -/
theorem IxM.newgrid {U U3 : World} {B xb mb gb fb c : Nat} {R : Nat → Rl} {L : List B4} {A : I2 → List Nat} {F : I2 → I2 → List Nat} {ps : List EnG} {s : I2} (h : IxM U B xb R L A F mb ps c) (hl : lkG ps s = none) (hsz : 0 ≤ s.1 ∧ s.1 ≤ 60 ∧ 0 ≤ s.2 ∧ s.2 ≤ 60)
    (hgB : B ≤ gb) (hfB : B ≤ fb) (hgr : R gb = .gd s) (hfr : R fb = .fm s) (d0 : U.cell? ⟨gb, 0, none⟩ = some (.int .i64 s.1)) (d1 : U.cell? ⟨gb, 1, none⟩ = some (.int .i64 s.2)) (d2 : U.cell? ⟨gb, 2, none⟩ = some (.slice none 0 0)) (d3 : U.cell? ⟨gb, 3, none⟩ = some (.map (some fb))) (dz : ∀ o, U.frozen? ⟨gb, o, none⟩ = false) (hf : U.heap[fb]? = some (.map #[] 0))
    (hg : U.grownBy U3 (some mb)) (hm : MapG U3 mb (ps ++ [(s, .pointer (some ⟨gb, 0, none⟩), c)]) (c + 1)) :
    IxG U3 B xb R L A F s gb ∧ FrQ (fun r => r ≠ .gm) R U U3 := by
  obtain ⟨hi, c1, hr, hmB, hm0, hgs, hn⟩ := h
  have f : FrQ (fun r => r ≠ .gm) R U U3 := FrQ.grown hg (fun k hk _ hq => by injection hk with hk; subst hk; exact hq hr)
  have qx : R xb ≠ .gm := by rw [hi.role]; simp
  have qg : R gb ≠ .gm := by rw [hgr]; simp
  have hgl := World.block_lt_of_cell? U _ d0
  have hfl := (Array.getElem?_eq_some_iff.1 hf).1
  obtain ⟨vb, c0, r0⟩ := hi.c0
  obtain ⟨hA0, hF0⟩ := hn s hl
  have hnew : GrI U3 B R s gb (A s) (F s) := by
    rw [hA0, show F s = fun _ => [] from funext hF0]
    refine ⟨hgr, hgB, f.cell d0 qg, f.cell d1 qg, ⟨_, f.cell d2 qg, RwI.nil _ _ _ _ _ _⟩, ⟨fb, [], 0, f.cell d3 qg, hfr, hfB, mapG_new ((f.block fb hfl (by rw [hfr]; simp)).trans hf), fun g => ?_⟩, fun o => (f.frozen (a := ⟨gb, o, none⟩) hgl qg).trans (dz o), hsz⟩
    exact RwI.nil _ _ _ _ _ _
  refine ⟨⟨⟨hi.role, hi.ge, fun o => (f.frozen (a := ⟨xb, o, none⟩) hi.lt qx).trans (hi.frz o), ⟨vb, f.cell c0 qx, r0.fr f (ExtR.refl _ _) (by simp)⟩, .inr ⟨mb, _, _, f.cell c1 qx, hr, hmB, hm, fun p hp => ?_, fun t ht => ?_⟩, hi.nob⟩, ⟨mb, _, _, f.cell c1 qx, hr, hm, ?_⟩⟩, f⟩
  · rcases List.mem_append.1 hp with hp | hp
    · obtain ⟨g', hv, gr⟩ := hgs p hp
      exact ⟨g', hv, gr.fr f (ExtR.refl _ _) (by simp) (by simp) (by simp) (fun _ => by simp)⟩
    · rw [List.mem_singleton] at hp
      subst hp
      exact ⟨gb, rfl, hnew⟩
  · rw [lkG_app] at ht
    refine hn t ?_
    cases hq : lkG ps t with
    | none => rfl
    | some v => rw [hq] at ht; simp at ht
  · rw [lkG_app, hl]
    simp
theorem IxM.keep {W W1 : World} {B xb mb c : Nat} {R R1 : Nat → Rl} {L : List B4} {A : I2 → List Nat} {F : I2 → I2 → List Nat} {ps : List EnG} (h : IxM W B xb R L A F mb ps c) (hb : Below W.heap.size W W1) (e : ExtR W R R1) (hB : B ≤ W.heap.size) : IxM W1 B xb R1 L A F mb ps c := by
  obtain ⟨hi, c1, hr, hmB, hm, hg, hn⟩ := h
  have f : FrQ (fun _ => True) R W W1 := FrQ.below hb
  exact ⟨hi.keep hb e hB, f.cell c1 trivial, (e _ hm.size).trans hr, hmB, hm.of (f.block _ hm.size trivial), fun p hp => by
      obtain ⟨gb, e1, g⟩ := hg p hp
      exact ⟨gb, e1, g.fr f e trivial trivial trivial (fun _ => trivial)⟩, hn⟩
theorem IxG.keep {W W1 : World} {B xb gb : Nat} {R R1 : Nat → Rl} {L : List B4} {A : I2 → List Nat} {F : I2 → I2 → List Nat} {s : I2} (h : IxG W B xb R L A F s gb) (hb : Below W.heap.size W W1) (e : ExtR W R R1) (hB : B ≤ W.heap.size) : IxG W1 B xb R1 L A F s gb := by
  obtain ⟨hi, mb, ps, c, c1, hr, hm, hl⟩ := h
  have f : FrQ (fun _ => True) R W W1 := FrQ.below hb
  exact ⟨hi.keep hb e hB, mb, ps, c, f.cell c1 trivial, (e _ hm.size).trans hr, hm.of (f.block _ hm.size trivial), hl⟩
theorem IxM.newgrid2 {V : World} {B xb mb c : Nat} {R : Nat → Rl} {L : List B4} {A : I2 → List Nat} {F : I2 → I2 → List Nat} {ps : List EnG} {s : I2} (h : IxM V B xb R L A F mb ps c) (hl : lkG ps s = none) (hsz : 0 ≤ s.1 ∧ s.1 ≤ 60 ∧ 0 ≤ s.2 ∧ s.2 ≤ 60) (hB : B ≤ V.heap.size) :
    ∃ U3 R2, ExtR V R R2 ∧ (Instr.mapUpdate 86 (.map (some mb)) (.agg #[.int .i64 s.1, .int .i64 s.2]) (.pointer (some ⟨V.heap.size + 1, 0, none⟩))).run Try.prog ((V.alloc (.map #[] 0)).alloc (.cells #[.int .i64 s.1, .int .i64 s.2, .slice none 0 0, .map (some V.heap.size)] 105)) = .ok () U3 ∧
      IxG U3 B xb R2 L A F s (V.heap.size + 1) ∧ FrQ (fun r => r ≠ .ix ∧ r ≠ .gm) R V U3 ∧ U3.cell? ⟨xb, 1, none⟩ = some (.map (some mb)) ∧ ∀ v, V.cell? ⟨xb, 0, none⟩ = some v → U3.cell? ⟨xb, 0, none⟩ = some v := by
  have e : ExtR V R (fun k => if k = V.heap.size then .fm s else if k = V.heap.size + 1 then .gd s else R k) := fun k hk => by
    dsimp only
    rw [if_neg (by omega), if_neg (by omega)]
  have hs1 : (V.alloc (.map #[] 0)).heap.size = V.heap.size + 1 := by simp
  have b1 : Below V.heap.size V (V.alloc (.map #[] 0)) := below_alloc _ _
  have b2 : Below V.heap.size V ((V.alloc (.map #[] 0)).alloc (.cells #[.int .i64 s.1, .int .i64 s.2, .slice none 0 0, .map (some V.heap.size)] 105)) := b1.trans ((below_alloc _ _).mono (by omega))
  have hM := h.keep b2 e hB
  obtain ⟨U3, run3, m3, g3⟩ := run_newG (mt := 86) Try.underlying86 Try.underlying91 hM.2.2.2.2.1 s (.pointer (some ⟨V.heap.size + 1, 0, none⟩)) hl
  have hf : ((V.alloc (.map #[] 0)).alloc (.cells #[.int .i64 s.1, .int .i64 s.2, .slice none 0 0, .map (some V.heap.size)] 105)).heap[V.heap.size]? = some (.map #[] 0) :=
    ((below_alloc _ _).block _ (by omega)).trans (heap_alloc_new V _)
  obtain ⟨hG, f⟩ := hM.newgrid (s := s) hl hsz (gb := V.heap.size + 1) (fb := V.heap.size) (by omega) hB (by simp) (by simp) (by go_simp) (by go_simp) (by go_simp) (by go_simp) (by intro o; go_simp) hf g3 m3
  exact ⟨U3, _, e, run3, hG, (FrQ.below b2).trans (f.weak (fun r hr => hr.2)) e, f.cell hM.2.1 (by rw [hM.1.role]; simp), fun v hv => f.cell ((FrQ.below (Q := fun _ => True) (R := R) b2).cell hv trivial) (by rw [hM.1.role]; simp)⟩
def GoPost (W : World) (B xb : Nat) (R : Nat → Rl) (L : List B4) (A : I2 → List Nat) (F : I2 → I2 → List Nat) (s : I2) (en : Ending) (w' : World) : Prop :=
  ∃ gb R1, en = .returned (.pointer (some ⟨gb, 0, none⟩)) ∧ ExtR W R R1 ∧ IxG w' B xb R1 L A F s gb ∧ FrQ (fun r => r ≠ .ix ∧ r ≠ .gm) R W w' ∧ ∀ v, W.cell? ⟨xb, 0, none⟩ = some v → w'.cell? ⟨xb, 0, none⟩ = some v
set_option maxRecDepth 100000 in
set_option maxHeartbeats 4000000 in
theorem gridof_any {W : World} {B xb : Nat} {R : Nat → Rl} {L : List B4} {A : I2 → List Nat} {F : I2 → I2 → List Nat} (h : IxI W B xb R L A F) (hB : B ≤ W.heap.size) (s : I2) (hsz : 0 ≤ s.1 ∧ s.1 ≤ 60 ∧ 0 ≤ s.2 ∧ s.2 ≤ 60) :
    Calls Try.prog 47 #[.pointer (some ⟨xb, 0, none⟩), enc2 s] W (GoPost W B xb R L A F s) := by
  have hmx : Try.prog.follows .mixedOrders = true := by kernel_rfl
  have HE0 : Hid (ExtR W R (fun k => if k < W.heap.size then R k else .no)) := Lib.hid (fun k hk => by simp [hk])
  have H0 := Lib.hid (h.keep (below_alloc W (.cells #[.int .i64 s.1, .int .i64 s.2] 91)) HE0.out hB)
  have HX := Lib.hid h.lt
  have HSZ := Lib.hid hsz
  clear hsz
  have HFr0 : Hid (FrQ (fun r => r ≠ .ix ∧ r ≠ .gm) R W (W.alloc (.cells #[.int .i64 s.1, .int .i64 s.2] 91))) := Lib.hid (FrQ.below (below_alloc _ _))
  have HV0 : Hid (∀ v, W.cell? ⟨xb, 0, none⟩ = some v → (W.alloc (.cells #[.int .i64 s.1, .int .i64 s.2] 91)).cell? ⟨xb, 0, none⟩ = some v) := Lib.hid (fun v hv => cell_later (below_alloc _ _) hv)
  have HS0 : Hid (P2At (W.alloc (.cells #[.int .i64 s.1, .int .i64 s.2] 91)) W.heap.size s) := Lib.hid (by constructor <;> go_simp)
  clear h
  unfold enc2
  go_enter Try.func47, Try.ntmps47
  go_upto_region 1 with fail
  have HSz : Hid ((W.alloc (.cells #[.int .i64 s.1, .int .i64 s.2] 91)).heap.size = W.heap.size + 1) := Lib.hid (by simp)
  generalize W.alloc (.cells #[.int .i64 s.1, .int .i64 s.2] 91) = V at *
  have hmm := fun (W : World) => run_makeMap (P := Try.prog) 86 W
  have hmn := fun x W => map_nil_eqG x W
  rcases H0.out.c1 with ⟨c1, hA⟩ | ⟨mb, ps, c, c1, hr, hmB, hm, hg, hn⟩
  · have f1 := H0.out.frz 1
    have c1m := cell_later (below_alloc V (.map #[] 0)) c1
    have f1m : (V.alloc (.map #[] 0)).frozen? ⟨xb, 1, none⟩ = false := ((below_alloc V (.map #[] 0)).frozen (p := ⟨xb, 1, none⟩) H0.out.lt).trans f1
    obtain ⟨R1, e1, hM, hF, hV⟩ := H0.out.newmap c1 hA (by have := HSz.out; omega)
    have hlt : W.heap.size < V.heap.size := by have := HSz.out; omega
    have HM : Hid (∃ c, IxM ((V.alloc (.map #[] 0)).setCell ⟨xb, 1, none⟩ (.map (some V.heap.size))) B xb R1 L A F V.heap.size [] c) := Lib.hid ⟨0, hM⟩
    have HE : Hid (ExtR W R R1) := Lib.hid (HE0.out.trans e1 (Nat.le_of_lt hlt))
    have HFr : Hid (FrQ (fun r => r ≠ .ix ∧ r ≠ .gm) R W ((V.alloc (.map #[] 0)).setCell ⟨xb, 1, none⟩ (.map (some V.heap.size)))) := Lib.hid (HFr0.out.trans hF HE0.out)
    have HR0 : Hid (R1 W.heap.size = .no) := Lib.hid ((e1 _ hlt).trans (if_neg (Nat.lt_irrefl _)))
    have hno : (fun k => if k < W.heap.size then R k else Rl.no) W.heap.size ≠ .ix ∧ (fun k => if k < W.heap.size then R k else Rl.no) W.heap.size ≠ .gm := by
      rw [show (fun k => if k < W.heap.size then R k else Rl.no) W.heap.size = .no from if_neg (Nat.lt_irrefl _)]
      exact ⟨by simp, by simp⟩
    have HS : Hid (P2At ((V.alloc (.map #[] 0)).setCell ⟨xb, 1, none⟩ (.map (some V.heap.size))) W.heap.size s) := Lib.hid ⟨hF.cell HS0.out.1 hno, hF.cell HS0.out.2 hno⟩
    have HV : Hid (∀ v, W.cell? ⟨xb, 0, none⟩ = some v → ((V.alloc (.map #[] 0)).setCell ⟨xb, 1, none⟩ (.map (some V.heap.size))).cell? ⟨xb, 0, none⟩ = some v) := Lib.hid (fun v hv => hV v (HV0.out v hv))
    clear hA e1 hM hF hlt hno H0 HFr0 HS0 HSz HV0 hV
    go_upto_region 3 with fail
    generalize (V.alloc (.map #[] 0)).setCell ⟨xb, 1, none⟩ (.map (some V.heap.size)) = V3 at *
    generalize V.heap.size = mb at *
    generalize hps : ([] : List EnG) = ps at *
    clear c1 f1 c1m f1m hps hmm hmn HE0
    obtain ⟨c, hM⟩ := HM.out
    have hBV : B ≤ V3.heap.size := Nat.le_trans hB HFr.out.size
    have hLk : ∀ W1 : World, W1.heap[mb]? = V3.heap[mb]? → (Instr.lookup 86 (.map (some mb)) (.agg #[.int .i64 s.1, .int .i64 s.2]) false).run Try.prog W1 = .ok ((lkG ps s).getD (.pointer none)) W1 := fun W1 e =>
      run_lookG (mt := 86) (et := 89) Try.underlying86 Try.underlying91 zeroPt (hM.2.2.2.2.1.of e) s
    have hL3 := hLk V3.drew rfl
    have c1d : V3.drew.cell? ⟨xb, 1, none⟩ = some (.map (some mb)) := hM.2.1
    clear hLk
    cases hl : lkG ps s with
    | some v =>
      obtain ⟨b, hp⟩ := lkG_some hl
      obtain ⟨gb, hv, hg1⟩ := hM.2.2.2.2.2.1 _ hp
      dsimp only at hv
      subst hv
      rw [hl] at hL3
      simp only [Option.getD_some] at hL3
      have HG0 : Hid (IxG V3 B xb R1 L A F s gb) := Lib.hid ⟨hM.1, mb, ps, c, hM.2.1, hM.2.2.1, hM.2.2.2.2.1, hl⟩
      have HG : Hid (IxG V3.drew B xb R1 L A F s gb) := Lib.hid (HG0.out.keep (Below.refl _ _).drew (ExtR.refl _ _) hBV)
      clear hM hl hp hg1 HM HG0
      refine wp_region_held_drew (S := (fun X : World => X.cell? ⟨xb, 1, none⟩ = some (.map (some mb)) ∧ X.cell? ⟨W.heap.size, 0, none⟩ = some (.int .i64 s.1) ∧ X.cell? ⟨W.heap.size, 1, none⟩ = some (.int .i64 s.2) ∧ (Instr.lookup 86 (.map (some mb)) (.agg #[.int .i64 s.1, .int .i64 s.2]) false).run Try.prog X = .ok ((.pointer (some ⟨gb, 0, none⟩))) X)) (by kernel_rfl) ⟨c1d, HS.out.1, HS.out.2, hL3⟩ (fun hHeld => ?_)
      refine wpAnyH_take (i := 0) (oi := { dst := some 14, op := Op.move (Operand.tmp 0), type := 44, pos := "index.go:43", after := #[], guard := none }) (v := ?_) rfl (by kernel_rfl) (by kernel_rfl) (by kernel_rfl) (fun _ _ _ h => h) (Or.inl ⟨by rfl, ?_⟩) (by with_reducible assumption) ?_
      rotate_left
      focus (intro wS hSw; (try dsimp only at hSw); go_simp <;> with_reducible rfl)
      try go_frame
      refine wpAnyH_take (i := 1) (oi := { dst := some 15, op := Op.nilCheck (Operand.tmp 14), type := 0, pos := "index.go:43", after := #[{ on := 0, ground := Ground.data }], guard := none }) (v := ?_) rfl (by kernel_rfl) (by kernel_rfl) (by kernel_rfl) (fun _ _ _ h => h) (Or.inl ⟨by rfl, ?_⟩) (by with_reducible assumption) ?_
      rotate_left
      focus (intro wS hSw; (try dsimp only at hSw); go_simp <;> with_reducible rfl)
      try go_frame
      refine wpAnyH_take (i := 2) (oi := { dst := some 16, op := Op.fieldAddr 88 (Operand.tmp 15) 1, type := 0, pos := "index.go:43", after := #[{ on := 1, ground := Ground.data }], guard := none }) (v := ?_) rfl (by kernel_rfl) (by kernel_rfl) (by kernel_rfl) (fun _ _ _ h => h) (Or.inl ⟨by rfl, ?_⟩) (by with_reducible assumption) ?_
      rotate_left
      focus (intro wS hSw; (try dsimp only at hSw); go_simp <;> with_reducible rfl)
      try go_frame
      refine wpAnyH_take (i := 3) (oi := { dst := some 17, op := Op.load 86 (Operand.tmp 16), type := 86, pos := "index.go:43", after := #[{ on := 2, ground := Ground.data }], guard := none }) (v := ?_) rfl (by kernel_rfl) (by kernel_rfl) (by kernel_rfl) (fun _ _ _ h => h) (Or.inl ⟨by rfl, ?_⟩) (by with_reducible assumption) ?_
      rotate_left
      focus (intro wS hSw; (try dsimp only at hSw); go_simp <;> with_reducible rfl)
      try go_frame
      refine wpAnyH_take (i := 4) (oi := { dst := some 18, op := Op.load 91 (Operand.tmp 3), type := 91, pos := "index.go:43", after := #[], guard := none }) (v := ?_) rfl (by kernel_rfl) (by kernel_rfl) (by kernel_rfl) (fun _ _ _ h => h) (Or.inl ⟨by rfl, ?_⟩) (by with_reducible assumption) ?_
      rotate_left
      focus (intro wS hSw; (try dsimp only at hSw); go_simp <;> with_reducible rfl)
      try go_frame
      refine wpAnyH_take (i := 5) (oi := { dst := some 19, op := Op.lookup 86 (Operand.tmp 17) (Operand.tmp 18) false, type := 89, pos := "index.go:43", after := #[{ on := 3, ground := Ground.data }, { on := 4, ground := Ground.data }], guard := none }) (v := ?_) rfl (by kernel_rfl) (by kernel_rfl) (by kernel_rfl) (fun _ _ _ h => h) (Or.inl ⟨by rfl, ?_⟩) (by with_reducible assumption) ?_
      rotate_left
      focus (intro wS hSw; (try dsimp only at hSw); go_simp <;> with_reducible rfl)
      try go_frame
      refine wpAnyH_take (i := 6) (oi := { dst := some 20, op := Op.binOp BinOp.eql 89 (Operand.tmp 19) (Operand.const (Value.pointer none)) 89, type := 4, pos := "index.go:43", after := #[{ on := 5, ground := Ground.data }], guard := none }) (v := ?_) rfl (by kernel_rfl) (by kernel_rfl) (by kernel_rfl) (fun _ _ _ h => h) (Or.inl ⟨by rfl, ?_⟩) (by with_reducible assumption) ?_
      rotate_left
      focus (intro wS hSw; (try dsimp only at hSw); go_simp <;> with_reducible rfl)
      try go_frame
      refine wpAnyH_done (by kernel_rfl) ?_ _
      go_upto_region 5 with fail
      clear c1d hL3 hHeld
      have HS5 : Hid (P2At V3.drew W.heap.size s) := Lib.hid ⟨HS.out.1, HS.out.2⟩
      have HE5 := HE
      have HF5 : Hid (FrQ (fun r => r ≠ .ix ∧ r ≠ .gm) R W V3.drew) := Lib.hid (HFr.out.trans (FrQ.below (Below.refl _ _).drew) HE.out)
      have HB5 : Hid (B ≤ V3.drew.heap.size) := Lib.hid hBV
      have HV5 : Hid (∀ v, W.cell? ⟨xb, 0, none⟩ = some v → V3.drew.cell? ⟨xb, 0, none⟩ = some v) := Lib.hid (fun v hv => HV.out v hv)
      clear HS HE HFr hBV HV
      generalize V3.drew = U at *
      generalize R1 = R2 at *
      obtain ⟨mb5, ps5, c5, e5, hr5, hm5, hl5⟩ := HG.out.at'
      have e5d : U.drew.cell? ⟨xb, 1, none⟩ = some (.map (some mb5)) := e5
      have hL5 : (Instr.lookup 86 (.map (some mb5)) (.agg #[.int .i64 s.1, .int .i64 s.2]) false).run Try.prog U.drew = .ok ((.pointer (some ⟨gb, 0, none⟩))) U.drew := by
        have h := run_lookG (mt := 86) (et := 89) Try.underlying86 Try.underlying91 zeroPt (hm5.of (W1 := U.drew) rfl) s
        rw [hl5] at h
        exact h
      clear hm5 hl5 hr5
      refine wp_region_held_drew (S := (fun X : World => X.cell? ⟨xb, 1, none⟩ = some (.map (some mb5)) ∧ X.cell? ⟨W.heap.size, 0, none⟩ = some (.int .i64 s.1) ∧ X.cell? ⟨W.heap.size, 1, none⟩ = some (.int .i64 s.2) ∧ (Instr.lookup 86 (.map (some mb5)) (.agg #[.int .i64 s.1, .int .i64 s.2]) false).run Try.prog X = .ok ((.pointer (some ⟨gb, 0, none⟩))) X)) (by kernel_rfl) ⟨e5d, HS5.out.1, HS5.out.2, hL5⟩ (fun hHeld => ?_)
      refine wpAnyH_take (i := 0) (oi := { dst := some 30, op := Op.move (Operand.tmp 0), type := 44, pos := "index.go:46", after := #[], guard := none }) (v := ?_) rfl (by kernel_rfl) (by kernel_rfl) (by kernel_rfl) (fun _ _ _ h => h) (Or.inl ⟨by rfl, ?_⟩) (by with_reducible assumption) ?_
      rotate_left
      focus (intro wS hSw; (try dsimp only at hSw); go_simp <;> with_reducible rfl)
      try go_frame
      refine wpAnyH_take (i := 1) (oi := { dst := some 31, op := Op.nilCheck (Operand.tmp 30), type := 0, pos := "index.go:46", after := #[{ on := 0, ground := Ground.data }], guard := none }) (v := ?_) rfl (by kernel_rfl) (by kernel_rfl) (by kernel_rfl) (fun _ _ _ h => h) (Or.inl ⟨by rfl, ?_⟩) (by with_reducible assumption) ?_
      rotate_left
      focus (intro wS hSw; (try dsimp only at hSw); go_simp <;> with_reducible rfl)
      try go_frame
      refine wpAnyH_take (i := 2) (oi := { dst := some 32, op := Op.fieldAddr 88 (Operand.tmp 31) 1, type := 0, pos := "index.go:46", after := #[{ on := 1, ground := Ground.data }], guard := none }) (v := ?_) rfl (by kernel_rfl) (by kernel_rfl) (by kernel_rfl) (fun _ _ _ h => h) (Or.inl ⟨by rfl, ?_⟩) (by with_reducible assumption) ?_
      rotate_left
      focus (intro wS hSw; (try dsimp only at hSw); go_simp <;> with_reducible rfl)
      try go_frame
      refine wpAnyH_take (i := 3) (oi := { dst := some 33, op := Op.load 86 (Operand.tmp 32), type := 86, pos := "index.go:46", after := #[{ on := 2, ground := Ground.data }], guard := none }) (v := ?_) rfl (by kernel_rfl) (by kernel_rfl) (by kernel_rfl) (fun _ _ _ h => h) (Or.inl ⟨by rfl, ?_⟩) (by with_reducible assumption) ?_
      rotate_left
      focus (intro wS hSw; (try dsimp only at hSw); go_simp <;> with_reducible rfl)
      try go_frame
      refine wpAnyH_take (i := 4) (oi := { dst := some 34, op := Op.load 91 (Operand.tmp 3), type := 91, pos := "index.go:46", after := #[], guard := none }) (v := ?_) rfl (by kernel_rfl) (by kernel_rfl) (by kernel_rfl) (fun _ _ _ h => h) (Or.inl ⟨by rfl, ?_⟩) (by with_reducible assumption) ?_
      rotate_left
      focus (intro wS hSw; (try dsimp only at hSw); go_simp <;> with_reducible rfl)
      try go_frame
      refine wpAnyH_take (i := 5) (oi := { dst := some 35, op := Op.lookup 86 (Operand.tmp 33) (Operand.tmp 34) false, type := 89, pos := "index.go:46", after := #[{ on := 3, ground := Ground.data }, { on := 4, ground := Ground.data }], guard := none }) (v := ?_) rfl (by kernel_rfl) (by kernel_rfl) (by kernel_rfl) (fun _ _ _ h => h) (Or.inl ⟨by rfl, ?_⟩) (by with_reducible assumption) ?_
      rotate_left
      focus (intro wS hSw; (try dsimp only at hSw); go_simp <;> with_reducible rfl)
      try go_frame
      refine wpAnyH_take (i := 6) (oi := { dst := some 4, op := Op.assign (Operand.tmp 35), type := 89, pos := "index.go:46", after := #[{ on := 5, ground := Ground.data }, { on := 0, ground := Ground.phase }, { on := 1, ground := Ground.phase }, { on := 2, ground := Ground.phase }, { on := 3, ground := Ground.phase }, { on := 4, ground := Ground.phase }, { on := 5, ground := Ground.phase }], guard := none }) (v := ?_) rfl (by kernel_rfl) (by kernel_rfl) (by kernel_rfl) (fun _ _ _ h => h) (Or.inl ⟨by rfl, ?_⟩) (by with_reducible assumption) ?_
      rotate_left
      focus (intro wS hSw; (try dsimp only at hSw); go_simp <;> with_reducible rfl)
      try go_frame
      refine wpAnyH_done (by kernel_rfl) ?_ _
      go_wp2_with fail
      go_ret
      exact ⟨gb, R2, rfl, HE5.out, HG.out.keep (Below.refl _ _).drew (ExtR.refl _ _) HB5.out, HF5.out.trans (FrQ.below (Below.refl _ _).drew) HE5.out, fun v hv => HV5.out v hv⟩
    | none =>
      rw [hl] at hL3
      simp only [Option.getD_none] at hL3
      have HM3 : Hid (IxM V3.drew.drew B xb R1 L A F mb ps c) := Lib.hid (hM.keep (Below.refl _ _).drew.drew (ExtR.refl _ _) hBV)
      have HFd : Hid (FrQ (fun r => r ≠ .ix ∧ r ≠ .gm) R W V3.drew.drew) := Lib.hid (HFr.out.trans (FrQ.below (Below.refl _ _).drew.drew) HE.out)
      have HBd : Hid (B ≤ V3.drew.drew.heap.size) := Lib.hid hBV
      have HV4 : Hid (∀ v, W.cell? ⟨xb, 0, none⟩ = some v → V3.drew.drew.cell? ⟨xb, 0, none⟩ = some v) := Lib.hid (fun v hv => HV.out v hv)
      clear hM HM HV
      refine wp_region_held_drew (S := (fun X : World => X.cell? ⟨xb, 1, none⟩ = some (.map (some mb)) ∧ X.cell? ⟨W.heap.size, 0, none⟩ = some (.int .i64 s.1) ∧ X.cell? ⟨W.heap.size, 1, none⟩ = some (.int .i64 s.2) ∧ (Instr.lookup 86 (.map (some mb)) (.agg #[.int .i64 s.1, .int .i64 s.2]) false).run Try.prog X = .ok ((.pointer none)) X)) (by kernel_rfl) ⟨c1d, HS.out.1, HS.out.2, hL3⟩ (fun hHeld => ?_)
      refine wpAnyH_take (i := 0) (oi := { dst := some 14, op := Op.move (Operand.tmp 0), type := 44, pos := "index.go:43", after := #[], guard := none }) (v := ?_) rfl (by kernel_rfl) (by kernel_rfl) (by kernel_rfl) (fun _ _ _ h => h) (Or.inl ⟨by rfl, ?_⟩) (by with_reducible assumption) ?_
      rotate_left
      focus (intro wS hSw; (try dsimp only at hSw); go_simp <;> with_reducible rfl)
      try go_frame
      refine wpAnyH_take (i := 1) (oi := { dst := some 15, op := Op.nilCheck (Operand.tmp 14), type := 0, pos := "index.go:43", after := #[{ on := 0, ground := Ground.data }], guard := none }) (v := ?_) rfl (by kernel_rfl) (by kernel_rfl) (by kernel_rfl) (fun _ _ _ h => h) (Or.inl ⟨by rfl, ?_⟩) (by with_reducible assumption) ?_
      rotate_left
      focus (intro wS hSw; (try dsimp only at hSw); go_simp <;> with_reducible rfl)
      try go_frame
      refine wpAnyH_take (i := 2) (oi := { dst := some 16, op := Op.fieldAddr 88 (Operand.tmp 15) 1, type := 0, pos := "index.go:43", after := #[{ on := 1, ground := Ground.data }], guard := none }) (v := ?_) rfl (by kernel_rfl) (by kernel_rfl) (by kernel_rfl) (fun _ _ _ h => h) (Or.inl ⟨by rfl, ?_⟩) (by with_reducible assumption) ?_
      rotate_left
      focus (intro wS hSw; (try dsimp only at hSw); go_simp <;> with_reducible rfl)
      try go_frame
      refine wpAnyH_take (i := 3) (oi := { dst := some 17, op := Op.load 86 (Operand.tmp 16), type := 86, pos := "index.go:43", after := #[{ on := 2, ground := Ground.data }], guard := none }) (v := ?_) rfl (by kernel_rfl) (by kernel_rfl) (by kernel_rfl) (fun _ _ _ h => h) (Or.inl ⟨by rfl, ?_⟩) (by with_reducible assumption) ?_
      rotate_left
      focus (intro wS hSw; (try dsimp only at hSw); go_simp <;> with_reducible rfl)
      try go_frame
      refine wpAnyH_take (i := 4) (oi := { dst := some 18, op := Op.load 91 (Operand.tmp 3), type := 91, pos := "index.go:43", after := #[], guard := none }) (v := ?_) rfl (by kernel_rfl) (by kernel_rfl) (by kernel_rfl) (fun _ _ _ h => h) (Or.inl ⟨by rfl, ?_⟩) (by with_reducible assumption) ?_
      rotate_left
      focus (intro wS hSw; (try dsimp only at hSw); go_simp <;> with_reducible rfl)
      try go_frame
      refine wpAnyH_take (i := 5) (oi := { dst := some 19, op := Op.lookup 86 (Operand.tmp 17) (Operand.tmp 18) false, type := 89, pos := "index.go:43", after := #[{ on := 3, ground := Ground.data }, { on := 4, ground := Ground.data }], guard := none }) (v := ?_) rfl (by kernel_rfl) (by kernel_rfl) (by kernel_rfl) (fun _ _ _ h => h) (Or.inl ⟨by rfl, ?_⟩) (by with_reducible assumption) ?_
      rotate_left
      focus (intro wS hSw; (try dsimp only at hSw); go_simp <;> with_reducible rfl)
      try go_frame
      refine wpAnyH_take (i := 6) (oi := { dst := some 20, op := Op.binOp BinOp.eql 89 (Operand.tmp 19) (Operand.const (Value.pointer none)) 89, type := 4, pos := "index.go:43", after := #[{ on := 5, ground := Ground.data }], guard := none }) (v := ?_) rfl (by kernel_rfl) (by kernel_rfl) (by kernel_rfl) (fun _ _ _ h => h) (Or.inl ⟨by rfl, ?_⟩) (by with_reducible assumption) ?_
      rotate_left
      focus (intro wS hSw; (try dsimp only at hSw); go_simp <;> with_reducible rfl)
      try go_frame
      refine wpAnyH_done (by kernel_rfl) ?_ _
      go_upto_region 4 with fail
      clear hL3 hHeld hBV
      have q0 : V3.drew.drew.cell? ⟨W.heap.size, 0, none⟩ = some (.int .i64 s.1) := HS.out.1
      have q1 : V3.drew.drew.cell? ⟨W.heap.size, 1, none⟩ = some (.int .i64 s.2) := HS.out.2
      have c1e : V3.drew.drew.cell? ⟨xb, 1, none⟩ = some (.map (some mb)) := c1d
      refine wp_region_held_drew (S := (fun X : World => X.cell? ⟨xb, 1, none⟩ = some (.map (some mb)) ∧ X.cell? ⟨W.heap.size, 0, none⟩ = some (.int .i64 s.1) ∧ X.cell? ⟨W.heap.size, 1, none⟩ = some (.int .i64 s.2))) (by kernel_rfl) ⟨c1e, q0, q1⟩ (fun hHeld => ?_)
      clear hHeld c1d HS HFr
      generalize V3.drew.drew = V4 at *
      obtain ⟨U, R2, e4, run4, hG, hf, hc5, hv5⟩ := HM3.out.newgrid2 hl HSZ.out HBd.out
      have HE5 : Hid (ExtR W R R2) := Lib.hid (HE.out.trans e4 HFd.out.size)
      have HF5 : Hid (FrQ (fun r => r ≠ .ix ∧ r ≠ .gm) R W U) := Lib.hid (HFd.out.trans hf HE.out)
      have HG := Lib.hid hG
      have HC5 := Lib.hid hc5
      have HV5 : Hid (∀ v, W.cell? ⟨xb, 0, none⟩ = some v → U.cell? ⟨xb, 0, none⟩ = some v) := Lib.hid (fun v hv => hv5 v (HV4.out v hv))
      have HB5 : Hid (B ≤ U.heap.size) := Lib.hid (Nat.le_trans HBd.out hf.size)
      have HS5 : Hid (P2At U W.heap.size s) := Lib.hid ⟨hf.cell q0 (by rw [show R1 (Addr.mk W.heap.size 0 none).block = .no from HR0.out]; exact ⟨by simp, by simp⟩), hf.cell q1 (by rw [show R1 (Addr.mk W.heap.size 1 none).block = .no from HR0.out]; exact ⟨by simp, by simp⟩)⟩
      have k1 : V4.cell? ⟨xb, 1, none⟩ = some (.map (some mb)) ∧ V4.cell? ⟨W.heap.size, 0, none⟩ = some (.int .i64 s.1) ∧ V4.cell? ⟨W.heap.size, 1, none⟩ = some (.int .i64 s.2) := ⟨c1e, q0, q1⟩
      have k2 : (V4.alloc (.map #[] 0)).cell? ⟨xb, 1, none⟩ = some (.map (some mb)) ∧ (V4.alloc (.map #[] 0)).cell? ⟨W.heap.size, 0, none⟩ = some (.int .i64 s.1) ∧ (V4.alloc (.map #[] 0)).cell? ⟨W.heap.size, 1, none⟩ = some (.int .i64 s.2) := ⟨cell_later (below_alloc _ _) c1e, cell_later (below_alloc _ _) q0, cell_later (below_alloc _ _) q1⟩
      have k3 := And.intro (cell_later (below_alloc (V4.alloc (.map #[] 0)) (.cells #[.int .i64 s.1, .int .i64 s.2, .slice none 0 0, .map (some V4.heap.size)] 105)) k2.1) (And.intro (cell_later (below_alloc _ (.cells #[.int .i64 s.1, .int .i64 s.2, .slice none 0 0, .map (some V4.heap.size)] 105)) k2.2.1) (cell_later (below_alloc _ (.cells #[.int .i64 s.1, .int .i64 s.2, .slice none 0 0, .map (some V4.heap.size)] 105)) k2.2.2))
      clear hG hf e4 hl HM3 hc5 hv5
      have k4 : U.cell? ⟨xb, 1, none⟩ = some (.map (some mb)) ∧ U.cell? ⟨W.heap.size, 0, none⟩ = some (.int .i64 s.1) ∧ U.cell? ⟨W.heap.size, 1, none⟩ = some (.int .i64 s.2) := ⟨HC5.out, HS5.out.1, HS5.out.2⟩
      refine wpAnyH_take (i := 0) (oi := { dst := some 21, op := Op.move (Operand.tmp 0), type := 44, pos := "index.go:44", after := #[], guard := none }) (v := ?_) rfl (by kernel_rfl) (by kernel_rfl) (by kernel_rfl) (fun _ _ _ h => h) (Or.inl ⟨by rfl, ?_⟩) (by with_reducible assumption) ?_
      rotate_left
      focus (intro wS hSw; (try dsimp only at hSw); go_simp <;> with_reducible rfl)
      try go_frame
      refine wpAnyH_take (i := 1) (oi := { dst := some 22, op := Op.nilCheck (Operand.tmp 21), type := 0, pos := "index.go:44", after := #[{ on := 0, ground := Ground.data }], guard := none }) (v := ?_) rfl (by kernel_rfl) (by kernel_rfl) (by kernel_rfl) (fun _ _ _ h => h) (Or.inl ⟨by rfl, ?_⟩) (by with_reducible assumption) ?_
      rotate_left
      focus (intro wS hSw; (try dsimp only at hSw); go_simp <;> with_reducible rfl)
      try go_frame
      refine wpAnyH_take (i := 2) (oi := { dst := some 23, op := Op.fieldAddr 88 (Operand.tmp 22) 1, type := 0, pos := "index.go:44", after := #[{ on := 1, ground := Ground.data }], guard := none }) (v := ?_) rfl (by kernel_rfl) (by kernel_rfl) (by kernel_rfl) (fun _ _ _ h => h) (Or.inl ⟨by rfl, ?_⟩) (by with_reducible assumption) ?_
      rotate_left
      focus (intro wS hSw; (try dsimp only at hSw); go_simp <;> with_reducible rfl)
      try go_frame
      refine wpAnyH_take (i := 3) (oi := { dst := some 24, op := Op.load 86 (Operand.tmp 23), type := 86, pos := "index.go:44", after := #[{ on := 2, ground := Ground.data }], guard := none }) (v := ?_) rfl (by kernel_rfl) (by kernel_rfl) (by kernel_rfl) (fun _ _ _ h => h) (Or.inl ⟨by rfl, ?_⟩) (by with_reducible assumption) ?_
      rotate_left
      focus (intro wS hSw; (try dsimp only at hSw); go_simp <;> with_reducible rfl)
      try go_frame
      refine wpAnyH_take (i := 4) (oi := { dst := some 25, op := Op.load 91 (Operand.tmp 3), type := 91, pos := "index.go:44", after := #[], guard := none }) (v := ?_) rfl (by kernel_rfl) (by kernel_rfl) (by kernel_rfl) (fun _ _ _ h => h) (Or.inl ⟨by rfl, ?_⟩) (by with_reducible assumption) ?_
      rotate_left
      focus (intro wS hSw; (try dsimp only at hSw); go_simp <;> with_reducible rfl)
      try go_frame
      refine wpAnyH_take (i := 5) (oi := { dst := some 26, op := Op.load 91 (Operand.tmp 3), type := 91, pos := "index.go:44", after := #[], guard := none }) (v := ?_) rfl (by kernel_rfl) (by kernel_rfl) (by kernel_rfl) (fun _ _ _ h => h) (Or.inl ⟨by rfl, ?_⟩) (by with_reducible assumption) ?_
      rotate_left
      focus (intro wS hSw; (try dsimp only at hSw); go_simp <;> with_reducible rfl)
      try go_frame
      refine wpAnyH_ready (rs := [6]) (by kernel_rfl) (by simp) ?_
      refine AllReadyH.cons (i := 6) (o := { dst := some 27, op := Op.makeMap 103 none, type := 103, pos := "index.go:44", after := #[], guard := none }) rfl (fun K hK => ?_) AllReadyH.nil
      go_simp
      refine hK.out _ _ k2 (fun hHeld => ?_)
      clear hK K
      try go_frame
      refine wpAnyH_take (i := 7) (oi := { dst := some 28, op := Op.build 105 #[(0, Operand.tmp 26), (2, Operand.tmp 27)], type := 105, pos := "index.go:44", after := #[{ on := 5, ground := Ground.data }, { on := 6, ground := Ground.data }], guard := none }) (v := ?_) rfl (by kernel_rfl) (by kernel_rfl) (by kernel_rfl) (fun _ _ _ h => h) (Or.inl ⟨by rfl, ?_⟩) (by with_reducible assumption) ?_
      rotate_left
      focus (intro wS hSw; (try dsimp only at hSw); go_simp <;> with_reducible rfl)
      try go_frame
      refine wpAnyH_ready (rs := [8]) (by kernel_rfl) (by simp) ?_
      refine AllReadyH.cons (i := 8) (o := { dst := some 29, op := Op.box 105 (Operand.tmp 28), type := 89, pos := "index.go:44", after := #[{ on := 7, ground := Ground.data }], guard := none }) rfl (fun K hK => ?_) AllReadyH.nil
      go_simp
      refine hK.out _ _ k3 (fun hHeld => ?_)
      clear hK K
      try go_frame
      refine wpAnyH_ready (rs := [9]) (by kernel_rfl) (by simp) ?_
      refine AllReadyH.cons (i := 9) (o := { dst := none, op := Op.mapUpdate 86 (Operand.tmp 24) (Operand.tmp 25) (Operand.tmp 29), type := 0, pos := "index.go:44", after := #[{ on := 3, ground := Ground.data }, { on := 4, ground := Ground.data }, { on := 8, ground := Ground.data }, { on := 0, ground := Ground.phase }, { on := 1, ground := Ground.phase }, { on := 2, ground := Ground.phase }, { on := 3, ground := Ground.phase }, { on := 4, ground := Ground.phase }, { on := 5, ground := Ground.phase }, { on := 6, ground := Ground.phase }, { on := 7, ground := Ground.phase }, { on := 8, ground := Ground.phase }], guard := none }) rfl (fun K hK => ?_) AllReadyH.nil
      go_simp
      refine hK.out _ _ k4 (fun hHeld => ?_)
      clear hK K
      try go_frame
      refine wpAnyH_done (by kernel_rfl) ?_ _
      go_upto_region 5 with fail
      generalize V4.heap.size + 1 = gb at *
      obtain ⟨mb5, ps5, c5, e5, hr5, hm5, hl5⟩ := HG.out.at'
      have e5d : U.drew.cell? ⟨xb, 1, none⟩ = some (.map (some mb5)) := e5
      have hL5 : (Instr.lookup 86 (.map (some mb5)) (.agg #[.int .i64 s.1, .int .i64 s.2]) false).run Try.prog U.drew = .ok ((.pointer (some ⟨gb, 0, none⟩))) U.drew := by
        have h := run_lookG (mt := 86) (et := 89) Try.underlying86 Try.underlying91 zeroPt (hm5.of (W1 := U.drew) rfl) s
        rw [hl5] at h
        exact h
      clear hm5 hl5 hr5
      refine wp_region_held_drew (S := (fun X : World => X.cell? ⟨xb, 1, none⟩ = some (.map (some mb5)) ∧ X.cell? ⟨W.heap.size, 0, none⟩ = some (.int .i64 s.1) ∧ X.cell? ⟨W.heap.size, 1, none⟩ = some (.int .i64 s.2) ∧ (Instr.lookup 86 (.map (some mb5)) (.agg #[.int .i64 s.1, .int .i64 s.2]) false).run Try.prog X = .ok ((.pointer (some ⟨gb, 0, none⟩))) X)) (by kernel_rfl) ⟨e5d, HS5.out.1, HS5.out.2, hL5⟩ (fun hHeld => ?_)
      refine wpAnyH_take (i := 0) (oi := { dst := some 30, op := Op.move (Operand.tmp 0), type := 44, pos := "index.go:46", after := #[], guard := none }) (v := ?_) rfl (by kernel_rfl) (by kernel_rfl) (by kernel_rfl) (fun _ _ _ h => h) (Or.inl ⟨by rfl, ?_⟩) (by with_reducible assumption) ?_
      rotate_left
      focus (intro wS hSw; (try dsimp only at hSw); go_simp <;> with_reducible rfl)
      try go_frame
      refine wpAnyH_take (i := 1) (oi := { dst := some 31, op := Op.nilCheck (Operand.tmp 30), type := 0, pos := "index.go:46", after := #[{ on := 0, ground := Ground.data }], guard := none }) (v := ?_) rfl (by kernel_rfl) (by kernel_rfl) (by kernel_rfl) (fun _ _ _ h => h) (Or.inl ⟨by rfl, ?_⟩) (by with_reducible assumption) ?_
      rotate_left
      focus (intro wS hSw; (try dsimp only at hSw); go_simp <;> with_reducible rfl)
      try go_frame
      refine wpAnyH_take (i := 2) (oi := { dst := some 32, op := Op.fieldAddr 88 (Operand.tmp 31) 1, type := 0, pos := "index.go:46", after := #[{ on := 1, ground := Ground.data }], guard := none }) (v := ?_) rfl (by kernel_rfl) (by kernel_rfl) (by kernel_rfl) (fun _ _ _ h => h) (Or.inl ⟨by rfl, ?_⟩) (by with_reducible assumption) ?_
      rotate_left
      focus (intro wS hSw; (try dsimp only at hSw); go_simp <;> with_reducible rfl)
      try go_frame
      refine wpAnyH_take (i := 3) (oi := { dst := some 33, op := Op.load 86 (Operand.tmp 32), type := 86, pos := "index.go:46", after := #[{ on := 2, ground := Ground.data }], guard := none }) (v := ?_) rfl (by kernel_rfl) (by kernel_rfl) (by kernel_rfl) (fun _ _ _ h => h) (Or.inl ⟨by rfl, ?_⟩) (by with_reducible assumption) ?_
      rotate_left
      focus (intro wS hSw; (try dsimp only at hSw); go_simp <;> with_reducible rfl)
      try go_frame
      refine wpAnyH_take (i := 4) (oi := { dst := some 34, op := Op.load 91 (Operand.tmp 3), type := 91, pos := "index.go:46", after := #[], guard := none }) (v := ?_) rfl (by kernel_rfl) (by kernel_rfl) (by kernel_rfl) (fun _ _ _ h => h) (Or.inl ⟨by rfl, ?_⟩) (by with_reducible assumption) ?_
      rotate_left
      focus (intro wS hSw; (try dsimp only at hSw); go_simp <;> with_reducible rfl)
      try go_frame
      refine wpAnyH_take (i := 5) (oi := { dst := some 35, op := Op.lookup 86 (Operand.tmp 33) (Operand.tmp 34) false, type := 89, pos := "index.go:46", after := #[{ on := 3, ground := Ground.data }, { on := 4, ground := Ground.data }], guard := none }) (v := ?_) rfl (by kernel_rfl) (by kernel_rfl) (by kernel_rfl) (fun _ _ _ h => h) (Or.inl ⟨by rfl, ?_⟩) (by with_reducible assumption) ?_
      rotate_left
      focus (intro wS hSw; (try dsimp only at hSw); go_simp <;> with_reducible rfl)
      try go_frame
      refine wpAnyH_take (i := 6) (oi := { dst := some 4, op := Op.assign (Operand.tmp 35), type := 89, pos := "index.go:46", after := #[{ on := 5, ground := Ground.data }, { on := 0, ground := Ground.phase }, { on := 1, ground := Ground.phase }, { on := 2, ground := Ground.phase }, { on := 3, ground := Ground.phase }, { on := 4, ground := Ground.phase }, { on := 5, ground := Ground.phase }], guard := none }) (v := ?_) rfl (by kernel_rfl) (by kernel_rfl) (by kernel_rfl) (fun _ _ _ h => h) (Or.inl ⟨by rfl, ?_⟩) (by with_reducible assumption) ?_
      rotate_left
      focus (intro wS hSw; (try dsimp only at hSw); go_simp <;> with_reducible rfl)
      try go_frame
      refine wpAnyH_done (by kernel_rfl) ?_ _
      go_wp2_with fail
      go_ret
      exact ⟨gb, R2, rfl, HE5.out, HG.out.keep (Below.refl _ _).drew (ExtR.refl _ _) HB5.out, HF5.out.trans (FrQ.below (Below.refl _ _).drew) HE5.out, fun v hv => HV5.out v hv⟩
  · have hN := hmn (some mb)
    have HM : Hid (∃ c, IxM V B xb _ L A F mb ps c) := Lib.hid ⟨c, H0.out, c1, hr, hmB, hm, hg, hn⟩
    have HR0 : Hid ((fun k => if k < W.heap.size then R k else Rl.no) W.heap.size = .no) := Lib.hid (if_neg (Nat.lt_irrefl _))
    have HE := HE0
    have HFr := HFr0
    have HS := HS0
    have HV := HV0
    clear hmn hr hmB hm hg hn
    simp only [Option.isNone_some] at hN
    go_upto_region 3 with fail
    generalize (fun k => if k < W.heap.size then R k else Rl.no) = R1 at *
    clear hN c1 H0 HFr0 HS0 HSz HE0 hmm HV0
    generalize hV3 : V = V3 at *
    clear hV3
    obtain ⟨c, hM⟩ := HM.out
    have hBV : B ≤ V3.heap.size := Nat.le_trans hB HFr.out.size
    have hLk : ∀ W1 : World, W1.heap[mb]? = V3.heap[mb]? → (Instr.lookup 86 (.map (some mb)) (.agg #[.int .i64 s.1, .int .i64 s.2]) false).run Try.prog W1 = .ok ((lkG ps s).getD (.pointer none)) W1 := fun W1 e =>
      run_lookG (mt := 86) (et := 89) Try.underlying86 Try.underlying91 zeroPt (hM.2.2.2.2.1.of e) s
    have hL3 := hLk V3.drew rfl
    have c1d : V3.drew.cell? ⟨xb, 1, none⟩ = some (.map (some mb)) := hM.2.1
    clear hLk
    cases hl : lkG ps s with
    | some v =>
      obtain ⟨b, hp⟩ := lkG_some hl
      obtain ⟨gb, hv, hg1⟩ := hM.2.2.2.2.2.1 _ hp
      dsimp only at hv
      subst hv
      rw [hl] at hL3
      simp only [Option.getD_some] at hL3
      have HG0 : Hid (IxG V3 B xb R1 L A F s gb) := Lib.hid ⟨hM.1, mb, ps, c, hM.2.1, hM.2.2.1, hM.2.2.2.2.1, hl⟩
      have HG : Hid (IxG V3.drew B xb R1 L A F s gb) := Lib.hid (HG0.out.keep (Below.refl _ _).drew (ExtR.refl _ _) hBV)
      clear hM hl hp hg1 HM HG0
      refine wp_region_held_drew (S := (fun X : World => X.cell? ⟨xb, 1, none⟩ = some (.map (some mb)) ∧ X.cell? ⟨W.heap.size, 0, none⟩ = some (.int .i64 s.1) ∧ X.cell? ⟨W.heap.size, 1, none⟩ = some (.int .i64 s.2) ∧ (Instr.lookup 86 (.map (some mb)) (.agg #[.int .i64 s.1, .int .i64 s.2]) false).run Try.prog X = .ok ((.pointer (some ⟨gb, 0, none⟩))) X)) (by kernel_rfl) ⟨c1d, HS.out.1, HS.out.2, hL3⟩ (fun hHeld => ?_)
      refine wpAnyH_take (i := 0) (oi := { dst := some 14, op := Op.move (Operand.tmp 0), type := 44, pos := "index.go:43", after := #[], guard := none }) (v := ?_) rfl (by kernel_rfl) (by kernel_rfl) (by kernel_rfl) (fun _ _ _ h => h) (Or.inl ⟨by rfl, ?_⟩) (by with_reducible assumption) ?_
      rotate_left
      focus (intro wS hSw; (try dsimp only at hSw); go_simp <;> with_reducible rfl)
      try go_frame
      refine wpAnyH_take (i := 1) (oi := { dst := some 15, op := Op.nilCheck (Operand.tmp 14), type := 0, pos := "index.go:43", after := #[{ on := 0, ground := Ground.data }], guard := none }) (v := ?_) rfl (by kernel_rfl) (by kernel_rfl) (by kernel_rfl) (fun _ _ _ h => h) (Or.inl ⟨by rfl, ?_⟩) (by with_reducible assumption) ?_
      rotate_left
      focus (intro wS hSw; (try dsimp only at hSw); go_simp <;> with_reducible rfl)
      try go_frame
      refine wpAnyH_take (i := 2) (oi := { dst := some 16, op := Op.fieldAddr 88 (Operand.tmp 15) 1, type := 0, pos := "index.go:43", after := #[{ on := 1, ground := Ground.data }], guard := none }) (v := ?_) rfl (by kernel_rfl) (by kernel_rfl) (by kernel_rfl) (fun _ _ _ h => h) (Or.inl ⟨by rfl, ?_⟩) (by with_reducible assumption) ?_
      rotate_left
      focus (intro wS hSw; (try dsimp only at hSw); go_simp <;> with_reducible rfl)
      try go_frame
      refine wpAnyH_take (i := 3) (oi := { dst := some 17, op := Op.load 86 (Operand.tmp 16), type := 86, pos := "index.go:43", after := #[{ on := 2, ground := Ground.data }], guard := none }) (v := ?_) rfl (by kernel_rfl) (by kernel_rfl) (by kernel_rfl) (fun _ _ _ h => h) (Or.inl ⟨by rfl, ?_⟩) (by with_reducible assumption) ?_
      rotate_left
      focus (intro wS hSw; (try dsimp only at hSw); go_simp <;> with_reducible rfl)
      try go_frame
      refine wpAnyH_take (i := 4) (oi := { dst := some 18, op := Op.load 91 (Operand.tmp 3), type := 91, pos := "index.go:43", after := #[], guard := none }) (v := ?_) rfl (by kernel_rfl) (by kernel_rfl) (by kernel_rfl) (fun _ _ _ h => h) (Or.inl ⟨by rfl, ?_⟩) (by with_reducible assumption) ?_
      rotate_left
      focus (intro wS hSw; (try dsimp only at hSw); go_simp <;> with_reducible rfl)
      try go_frame
      refine wpAnyH_take (i := 5) (oi := { dst := some 19, op := Op.lookup 86 (Operand.tmp 17) (Operand.tmp 18) false, type := 89, pos := "index.go:43", after := #[{ on := 3, ground := Ground.data }, { on := 4, ground := Ground.data }], guard := none }) (v := ?_) rfl (by kernel_rfl) (by kernel_rfl) (by kernel_rfl) (fun _ _ _ h => h) (Or.inl ⟨by rfl, ?_⟩) (by with_reducible assumption) ?_
      rotate_left
      focus (intro wS hSw; (try dsimp only at hSw); go_simp <;> with_reducible rfl)
      try go_frame
      refine wpAnyH_take (i := 6) (oi := { dst := some 20, op := Op.binOp BinOp.eql 89 (Operand.tmp 19) (Operand.const (Value.pointer none)) 89, type := 4, pos := "index.go:43", after := #[{ on := 5, ground := Ground.data }], guard := none }) (v := ?_) rfl (by kernel_rfl) (by kernel_rfl) (by kernel_rfl) (fun _ _ _ h => h) (Or.inl ⟨by rfl, ?_⟩) (by with_reducible assumption) ?_
      rotate_left
      focus (intro wS hSw; (try dsimp only at hSw); go_simp <;> with_reducible rfl)
      try go_frame
      refine wpAnyH_done (by kernel_rfl) ?_ _
      go_upto_region 5 with fail
      clear c1d hL3 hHeld
      have HS5 : Hid (P2At V3.drew W.heap.size s) := Lib.hid ⟨HS.out.1, HS.out.2⟩
      have HE5 := HE
      have HF5 : Hid (FrQ (fun r => r ≠ .ix ∧ r ≠ .gm) R W V3.drew) := Lib.hid (HFr.out.trans (FrQ.below (Below.refl _ _).drew) HE.out)
      have HB5 : Hid (B ≤ V3.drew.heap.size) := Lib.hid hBV
      have HV5 : Hid (∀ v, W.cell? ⟨xb, 0, none⟩ = some v → V3.drew.cell? ⟨xb, 0, none⟩ = some v) := Lib.hid (fun v hv => HV.out v hv)
      clear HS HE HFr hBV HV
      generalize V3.drew = U at *
      generalize R1 = R2 at *
      obtain ⟨mb5, ps5, c5, e5, hr5, hm5, hl5⟩ := HG.out.at'
      have e5d : U.drew.cell? ⟨xb, 1, none⟩ = some (.map (some mb5)) := e5
      have hL5 : (Instr.lookup 86 (.map (some mb5)) (.agg #[.int .i64 s.1, .int .i64 s.2]) false).run Try.prog U.drew = .ok ((.pointer (some ⟨gb, 0, none⟩))) U.drew := by
        have h := run_lookG (mt := 86) (et := 89) Try.underlying86 Try.underlying91 zeroPt (hm5.of (W1 := U.drew) rfl) s
        rw [hl5] at h
        exact h
      clear hm5 hl5 hr5
      refine wp_region_held_drew (S := (fun X : World => X.cell? ⟨xb, 1, none⟩ = some (.map (some mb5)) ∧ X.cell? ⟨W.heap.size, 0, none⟩ = some (.int .i64 s.1) ∧ X.cell? ⟨W.heap.size, 1, none⟩ = some (.int .i64 s.2) ∧ (Instr.lookup 86 (.map (some mb5)) (.agg #[.int .i64 s.1, .int .i64 s.2]) false).run Try.prog X = .ok ((.pointer (some ⟨gb, 0, none⟩))) X)) (by kernel_rfl) ⟨e5d, HS5.out.1, HS5.out.2, hL5⟩ (fun hHeld => ?_)
      refine wpAnyH_take (i := 0) (oi := { dst := some 30, op := Op.move (Operand.tmp 0), type := 44, pos := "index.go:46", after := #[], guard := none }) (v := ?_) rfl (by kernel_rfl) (by kernel_rfl) (by kernel_rfl) (fun _ _ _ h => h) (Or.inl ⟨by rfl, ?_⟩) (by with_reducible assumption) ?_
      rotate_left
      focus (intro wS hSw; (try dsimp only at hSw); go_simp <;> with_reducible rfl)
      try go_frame
      refine wpAnyH_take (i := 1) (oi := { dst := some 31, op := Op.nilCheck (Operand.tmp 30), type := 0, pos := "index.go:46", after := #[{ on := 0, ground := Ground.data }], guard := none }) (v := ?_) rfl (by kernel_rfl) (by kernel_rfl) (by kernel_rfl) (fun _ _ _ h => h) (Or.inl ⟨by rfl, ?_⟩) (by with_reducible assumption) ?_
      rotate_left
      focus (intro wS hSw; (try dsimp only at hSw); go_simp <;> with_reducible rfl)
      try go_frame
      refine wpAnyH_take (i := 2) (oi := { dst := some 32, op := Op.fieldAddr 88 (Operand.tmp 31) 1, type := 0, pos := "index.go:46", after := #[{ on := 1, ground := Ground.data }], guard := none }) (v := ?_) rfl (by kernel_rfl) (by kernel_rfl) (by kernel_rfl) (fun _ _ _ h => h) (Or.inl ⟨by rfl, ?_⟩) (by with_reducible assumption) ?_
      rotate_left
      focus (intro wS hSw; (try dsimp only at hSw); go_simp <;> with_reducible rfl)
      try go_frame
      refine wpAnyH_take (i := 3) (oi := { dst := some 33, op := Op.load 86 (Operand.tmp 32), type := 86, pos := "index.go:46", after := #[{ on := 2, ground := Ground.data }], guard := none }) (v := ?_) rfl (by kernel_rfl) (by kernel_rfl) (by kernel_rfl) (fun _ _ _ h => h) (Or.inl ⟨by rfl, ?_⟩) (by with_reducible assumption) ?_
      rotate_left
      focus (intro wS hSw; (try dsimp only at hSw); go_simp <;> with_reducible rfl)
      try go_frame
      refine wpAnyH_take (i := 4) (oi := { dst := some 34, op := Op.load 91 (Operand.tmp 3), type := 91, pos := "index.go:46", after := #[], guard := none }) (v := ?_) rfl (by kernel_rfl) (by kernel_rfl) (by kernel_rfl) (fun _ _ _ h => h) (Or.inl ⟨by rfl, ?_⟩) (by with_reducible assumption) ?_
      rotate_left
      focus (intro wS hSw; (try dsimp only at hSw); go_simp <;> with_reducible rfl)
      try go_frame
      refine wpAnyH_take (i := 5) (oi := { dst := some 35, op := Op.lookup 86 (Operand.tmp 33) (Operand.tmp 34) false, type := 89, pos := "index.go:46", after := #[{ on := 3, ground := Ground.data }, { on := 4, ground := Ground.data }], guard := none }) (v := ?_) rfl (by kernel_rfl) (by kernel_rfl) (by kernel_rfl) (fun _ _ _ h => h) (Or.inl ⟨by rfl, ?_⟩) (by with_reducible assumption) ?_
      rotate_left
      focus (intro wS hSw; (try dsimp only at hSw); go_simp <;> with_reducible rfl)
      try go_frame
      refine wpAnyH_take (i := 6) (oi := { dst := some 4, op := Op.assign (Operand.tmp 35), type := 89, pos := "index.go:46", after := #[{ on := 5, ground := Ground.data }, { on := 0, ground := Ground.phase }, { on := 1, ground := Ground.phase }, { on := 2, ground := Ground.phase }, { on := 3, ground := Ground.phase }, { on := 4, ground := Ground.phase }, { on := 5, ground := Ground.phase }], guard := none }) (v := ?_) rfl (by kernel_rfl) (by kernel_rfl) (by kernel_rfl) (fun _ _ _ h => h) (Or.inl ⟨by rfl, ?_⟩) (by with_reducible assumption) ?_
      rotate_left
      focus (intro wS hSw; (try dsimp only at hSw); go_simp <;> with_reducible rfl)
      try go_frame
      refine wpAnyH_done (by kernel_rfl) ?_ _
      go_wp2_with fail
      go_ret
      exact ⟨gb, R2, rfl, HE5.out, HG.out.keep (Below.refl _ _).drew (ExtR.refl _ _) HB5.out, HF5.out.trans (FrQ.below (Below.refl _ _).drew) HE5.out, fun v hv => HV5.out v hv⟩
    | none =>
      rw [hl] at hL3
      simp only [Option.getD_none] at hL3
      have HM3 : Hid (IxM V3.drew.drew B xb R1 L A F mb ps c) := Lib.hid (hM.keep (Below.refl _ _).drew.drew (ExtR.refl _ _) hBV)
      have HFd : Hid (FrQ (fun r => r ≠ .ix ∧ r ≠ .gm) R W V3.drew.drew) := Lib.hid (HFr.out.trans (FrQ.below (Below.refl _ _).drew.drew) HE.out)
      have HBd : Hid (B ≤ V3.drew.drew.heap.size) := Lib.hid hBV
      have HV4 : Hid (∀ v, W.cell? ⟨xb, 0, none⟩ = some v → V3.drew.drew.cell? ⟨xb, 0, none⟩ = some v) := Lib.hid (fun v hv => HV.out v hv)
      clear hM HM HV
      refine wp_region_held_drew (S := (fun X : World => X.cell? ⟨xb, 1, none⟩ = some (.map (some mb)) ∧ X.cell? ⟨W.heap.size, 0, none⟩ = some (.int .i64 s.1) ∧ X.cell? ⟨W.heap.size, 1, none⟩ = some (.int .i64 s.2) ∧ (Instr.lookup 86 (.map (some mb)) (.agg #[.int .i64 s.1, .int .i64 s.2]) false).run Try.prog X = .ok ((.pointer none)) X)) (by kernel_rfl) ⟨c1d, HS.out.1, HS.out.2, hL3⟩ (fun hHeld => ?_)
      refine wpAnyH_take (i := 0) (oi := { dst := some 14, op := Op.move (Operand.tmp 0), type := 44, pos := "index.go:43", after := #[], guard := none }) (v := ?_) rfl (by kernel_rfl) (by kernel_rfl) (by kernel_rfl) (fun _ _ _ h => h) (Or.inl ⟨by rfl, ?_⟩) (by with_reducible assumption) ?_
      rotate_left
      focus (intro wS hSw; (try dsimp only at hSw); go_simp <;> with_reducible rfl)
      try go_frame
      refine wpAnyH_take (i := 1) (oi := { dst := some 15, op := Op.nilCheck (Operand.tmp 14), type := 0, pos := "index.go:43", after := #[{ on := 0, ground := Ground.data }], guard := none }) (v := ?_) rfl (by kernel_rfl) (by kernel_rfl) (by kernel_rfl) (fun _ _ _ h => h) (Or.inl ⟨by rfl, ?_⟩) (by with_reducible assumption) ?_
      rotate_left
      focus (intro wS hSw; (try dsimp only at hSw); go_simp <;> with_reducible rfl)
      try go_frame
      refine wpAnyH_take (i := 2) (oi := { dst := some 16, op := Op.fieldAddr 88 (Operand.tmp 15) 1, type := 0, pos := "index.go:43", after := #[{ on := 1, ground := Ground.data }], guard := none }) (v := ?_) rfl (by kernel_rfl) (by kernel_rfl) (by kernel_rfl) (fun _ _ _ h => h) (Or.inl ⟨by rfl, ?_⟩) (by with_reducible assumption) ?_
      rotate_left
      focus (intro wS hSw; (try dsimp only at hSw); go_simp <;> with_reducible rfl)
      try go_frame
      refine wpAnyH_take (i := 3) (oi := { dst := some 17, op := Op.load 86 (Operand.tmp 16), type := 86, pos := "index.go:43", after := #[{ on := 2, ground := Ground.data }], guard := none }) (v := ?_) rfl (by kernel_rfl) (by kernel_rfl) (by kernel_rfl) (fun _ _ _ h => h) (Or.inl ⟨by rfl, ?_⟩) (by with_reducible assumption) ?_
      rotate_left
      focus (intro wS hSw; (try dsimp only at hSw); go_simp <;> with_reducible rfl)
      try go_frame
      refine wpAnyH_take (i := 4) (oi := { dst := some 18, op := Op.load 91 (Operand.tmp 3), type := 91, pos := "index.go:43", after := #[], guard := none }) (v := ?_) rfl (by kernel_rfl) (by kernel_rfl) (by kernel_rfl) (fun _ _ _ h => h) (Or.inl ⟨by rfl, ?_⟩) (by with_reducible assumption) ?_
      rotate_left
      focus (intro wS hSw; (try dsimp only at hSw); go_simp <;> with_reducible rfl)
      try go_frame
      refine wpAnyH_take (i := 5) (oi := { dst := some 19, op := Op.lookup 86 (Operand.tmp 17) (Operand.tmp 18) false, type := 89, pos := "index.go:43", after := #[{ on := 3, ground := Ground.data }, { on := 4, ground := Ground.data }], guard := none }) (v := ?_) rfl (by kernel_rfl) (by kernel_rfl) (by kernel_rfl) (fun _ _ _ h => h) (Or.inl ⟨by rfl, ?_⟩) (by with_reducible assumption) ?_
      rotate_left
      focus (intro wS hSw; (try dsimp only at hSw); go_simp <;> with_reducible rfl)
      try go_frame
      refine wpAnyH_take (i := 6) (oi := { dst := some 20, op := Op.binOp BinOp.eql 89 (Operand.tmp 19) (Operand.const (Value.pointer none)) 89, type := 4, pos := "index.go:43", after := #[{ on := 5, ground := Ground.data }], guard := none }) (v := ?_) rfl (by kernel_rfl) (by kernel_rfl) (by kernel_rfl) (fun _ _ _ h => h) (Or.inl ⟨by rfl, ?_⟩) (by with_reducible assumption) ?_
      rotate_left
      focus (intro wS hSw; (try dsimp only at hSw); go_simp <;> with_reducible rfl)
      try go_frame
      refine wpAnyH_done (by kernel_rfl) ?_ _
      go_upto_region 4 with fail
      clear hL3 hHeld hBV
      have q0 : V3.drew.drew.cell? ⟨W.heap.size, 0, none⟩ = some (.int .i64 s.1) := HS.out.1
      have q1 : V3.drew.drew.cell? ⟨W.heap.size, 1, none⟩ = some (.int .i64 s.2) := HS.out.2
      have c1e : V3.drew.drew.cell? ⟨xb, 1, none⟩ = some (.map (some mb)) := c1d
      refine wp_region_held_drew (S := (fun X : World => X.cell? ⟨xb, 1, none⟩ = some (.map (some mb)) ∧ X.cell? ⟨W.heap.size, 0, none⟩ = some (.int .i64 s.1) ∧ X.cell? ⟨W.heap.size, 1, none⟩ = some (.int .i64 s.2))) (by kernel_rfl) ⟨c1e, q0, q1⟩ (fun hHeld => ?_)
      clear hHeld c1d HS HFr
      generalize V3.drew.drew = V4 at *
      obtain ⟨U, R2, e4, run4, hG, hf, hc5, hv5⟩ := HM3.out.newgrid2 hl HSZ.out HBd.out
      have HE5 : Hid (ExtR W R R2) := Lib.hid (HE.out.trans e4 HFd.out.size)
      have HF5 : Hid (FrQ (fun r => r ≠ .ix ∧ r ≠ .gm) R W U) := Lib.hid (HFd.out.trans hf HE.out)
      have HG := Lib.hid hG
      have HC5 := Lib.hid hc5
      have HV5 : Hid (∀ v, W.cell? ⟨xb, 0, none⟩ = some v → U.cell? ⟨xb, 0, none⟩ = some v) := Lib.hid (fun v hv => hv5 v (HV4.out v hv))
      have HB5 : Hid (B ≤ U.heap.size) := Lib.hid (Nat.le_trans HBd.out hf.size)
      have HS5 : Hid (P2At U W.heap.size s) := Lib.hid ⟨hf.cell q0 (by rw [show R1 (Addr.mk W.heap.size 0 none).block = .no from HR0.out]; exact ⟨by simp, by simp⟩), hf.cell q1 (by rw [show R1 (Addr.mk W.heap.size 1 none).block = .no from HR0.out]; exact ⟨by simp, by simp⟩)⟩
      have k1 : V4.cell? ⟨xb, 1, none⟩ = some (.map (some mb)) ∧ V4.cell? ⟨W.heap.size, 0, none⟩ = some (.int .i64 s.1) ∧ V4.cell? ⟨W.heap.size, 1, none⟩ = some (.int .i64 s.2) := ⟨c1e, q0, q1⟩
      have k2 : (V4.alloc (.map #[] 0)).cell? ⟨xb, 1, none⟩ = some (.map (some mb)) ∧ (V4.alloc (.map #[] 0)).cell? ⟨W.heap.size, 0, none⟩ = some (.int .i64 s.1) ∧ (V4.alloc (.map #[] 0)).cell? ⟨W.heap.size, 1, none⟩ = some (.int .i64 s.2) := ⟨cell_later (below_alloc _ _) c1e, cell_later (below_alloc _ _) q0, cell_later (below_alloc _ _) q1⟩
      have k3 := And.intro (cell_later (below_alloc (V4.alloc (.map #[] 0)) (.cells #[.int .i64 s.1, .int .i64 s.2, .slice none 0 0, .map (some V4.heap.size)] 105)) k2.1) (And.intro (cell_later (below_alloc _ (.cells #[.int .i64 s.1, .int .i64 s.2, .slice none 0 0, .map (some V4.heap.size)] 105)) k2.2.1) (cell_later (below_alloc _ (.cells #[.int .i64 s.1, .int .i64 s.2, .slice none 0 0, .map (some V4.heap.size)] 105)) k2.2.2))
      clear hG hf e4 hl HM3 hc5 hv5
      have k4 : U.cell? ⟨xb, 1, none⟩ = some (.map (some mb)) ∧ U.cell? ⟨W.heap.size, 0, none⟩ = some (.int .i64 s.1) ∧ U.cell? ⟨W.heap.size, 1, none⟩ = some (.int .i64 s.2) := ⟨HC5.out, HS5.out.1, HS5.out.2⟩
      refine wpAnyH_take (i := 0) (oi := { dst := some 21, op := Op.move (Operand.tmp 0), type := 44, pos := "index.go:44", after := #[], guard := none }) (v := ?_) rfl (by kernel_rfl) (by kernel_rfl) (by kernel_rfl) (fun _ _ _ h => h) (Or.inl ⟨by rfl, ?_⟩) (by with_reducible assumption) ?_
      rotate_left
      focus (intro wS hSw; (try dsimp only at hSw); go_simp <;> with_reducible rfl)
      try go_frame
      refine wpAnyH_take (i := 1) (oi := { dst := some 22, op := Op.nilCheck (Operand.tmp 21), type := 0, pos := "index.go:44", after := #[{ on := 0, ground := Ground.data }], guard := none }) (v := ?_) rfl (by kernel_rfl) (by kernel_rfl) (by kernel_rfl) (fun _ _ _ h => h) (Or.inl ⟨by rfl, ?_⟩) (by with_reducible assumption) ?_
      rotate_left
      focus (intro wS hSw; (try dsimp only at hSw); go_simp <;> with_reducible rfl)
      try go_frame
      refine wpAnyH_take (i := 2) (oi := { dst := some 23, op := Op.fieldAddr 88 (Operand.tmp 22) 1, type := 0, pos := "index.go:44", after := #[{ on := 1, ground := Ground.data }], guard := none }) (v := ?_) rfl (by kernel_rfl) (by kernel_rfl) (by kernel_rfl) (fun _ _ _ h => h) (Or.inl ⟨by rfl, ?_⟩) (by with_reducible assumption) ?_
      rotate_left
      focus (intro wS hSw; (try dsimp only at hSw); go_simp <;> with_reducible rfl)
      try go_frame
      refine wpAnyH_take (i := 3) (oi := { dst := some 24, op := Op.load 86 (Operand.tmp 23), type := 86, pos := "index.go:44", after := #[{ on := 2, ground := Ground.data }], guard := none }) (v := ?_) rfl (by kernel_rfl) (by kernel_rfl) (by kernel_rfl) (fun _ _ _ h => h) (Or.inl ⟨by rfl, ?_⟩) (by with_reducible assumption) ?_
      rotate_left
      focus (intro wS hSw; (try dsimp only at hSw); go_simp <;> with_reducible rfl)
      try go_frame
      refine wpAnyH_take (i := 4) (oi := { dst := some 25, op := Op.load 91 (Operand.tmp 3), type := 91, pos := "index.go:44", after := #[], guard := none }) (v := ?_) rfl (by kernel_rfl) (by kernel_rfl) (by kernel_rfl) (fun _ _ _ h => h) (Or.inl ⟨by rfl, ?_⟩) (by with_reducible assumption) ?_
      rotate_left
      focus (intro wS hSw; (try dsimp only at hSw); go_simp <;> with_reducible rfl)
      try go_frame
      refine wpAnyH_take (i := 5) (oi := { dst := some 26, op := Op.load 91 (Operand.tmp 3), type := 91, pos := "index.go:44", after := #[], guard := none }) (v := ?_) rfl (by kernel_rfl) (by kernel_rfl) (by kernel_rfl) (fun _ _ _ h => h) (Or.inl ⟨by rfl, ?_⟩) (by with_reducible assumption) ?_
      rotate_left
      focus (intro wS hSw; (try dsimp only at hSw); go_simp <;> with_reducible rfl)
      try go_frame
      refine wpAnyH_ready (rs := [6]) (by kernel_rfl) (by simp) ?_
      refine AllReadyH.cons (i := 6) (o := { dst := some 27, op := Op.makeMap 103 none, type := 103, pos := "index.go:44", after := #[], guard := none }) rfl (fun K hK => ?_) AllReadyH.nil
      go_simp
      refine hK.out _ _ k2 (fun hHeld => ?_)
      clear hK K
      try go_frame
      refine wpAnyH_take (i := 7) (oi := { dst := some 28, op := Op.build 105 #[(0, Operand.tmp 26), (2, Operand.tmp 27)], type := 105, pos := "index.go:44", after := #[{ on := 5, ground := Ground.data }, { on := 6, ground := Ground.data }], guard := none }) (v := ?_) rfl (by kernel_rfl) (by kernel_rfl) (by kernel_rfl) (fun _ _ _ h => h) (Or.inl ⟨by rfl, ?_⟩) (by with_reducible assumption) ?_
      rotate_left
      focus (intro wS hSw; (try dsimp only at hSw); go_simp <;> with_reducible rfl)
      try go_frame
      refine wpAnyH_ready (rs := [8]) (by kernel_rfl) (by simp) ?_
      refine AllReadyH.cons (i := 8) (o := { dst := some 29, op := Op.box 105 (Operand.tmp 28), type := 89, pos := "index.go:44", after := #[{ on := 7, ground := Ground.data }], guard := none }) rfl (fun K hK => ?_) AllReadyH.nil
      go_simp
      refine hK.out _ _ k3 (fun hHeld => ?_)
      clear hK K
      try go_frame
      refine wpAnyH_ready (rs := [9]) (by kernel_rfl) (by simp) ?_
      refine AllReadyH.cons (i := 9) (o := { dst := none, op := Op.mapUpdate 86 (Operand.tmp 24) (Operand.tmp 25) (Operand.tmp 29), type := 0, pos := "index.go:44", after := #[{ on := 3, ground := Ground.data }, { on := 4, ground := Ground.data }, { on := 8, ground := Ground.data }, { on := 0, ground := Ground.phase }, { on := 1, ground := Ground.phase }, { on := 2, ground := Ground.phase }, { on := 3, ground := Ground.phase }, { on := 4, ground := Ground.phase }, { on := 5, ground := Ground.phase }, { on := 6, ground := Ground.phase }, { on := 7, ground := Ground.phase }, { on := 8, ground := Ground.phase }], guard := none }) rfl (fun K hK => ?_) AllReadyH.nil
      go_simp
      refine hK.out _ _ k4 (fun hHeld => ?_)
      clear hK K
      try go_frame
      refine wpAnyH_done (by kernel_rfl) ?_ _
      go_upto_region 5 with fail
      generalize V4.heap.size + 1 = gb at *
      obtain ⟨mb5, ps5, c5, e5, hr5, hm5, hl5⟩ := HG.out.at'
      have e5d : U.drew.cell? ⟨xb, 1, none⟩ = some (.map (some mb5)) := e5
      have hL5 : (Instr.lookup 86 (.map (some mb5)) (.agg #[.int .i64 s.1, .int .i64 s.2]) false).run Try.prog U.drew = .ok ((.pointer (some ⟨gb, 0, none⟩))) U.drew := by
        have h := run_lookG (mt := 86) (et := 89) Try.underlying86 Try.underlying91 zeroPt (hm5.of (W1 := U.drew) rfl) s
        rw [hl5] at h
        exact h
      clear hm5 hl5 hr5
      refine wp_region_held_drew (S := (fun X : World => X.cell? ⟨xb, 1, none⟩ = some (.map (some mb5)) ∧ X.cell? ⟨W.heap.size, 0, none⟩ = some (.int .i64 s.1) ∧ X.cell? ⟨W.heap.size, 1, none⟩ = some (.int .i64 s.2) ∧ (Instr.lookup 86 (.map (some mb5)) (.agg #[.int .i64 s.1, .int .i64 s.2]) false).run Try.prog X = .ok ((.pointer (some ⟨gb, 0, none⟩))) X)) (by kernel_rfl) ⟨e5d, HS5.out.1, HS5.out.2, hL5⟩ (fun hHeld => ?_)
      refine wpAnyH_take (i := 0) (oi := { dst := some 30, op := Op.move (Operand.tmp 0), type := 44, pos := "index.go:46", after := #[], guard := none }) (v := ?_) rfl (by kernel_rfl) (by kernel_rfl) (by kernel_rfl) (fun _ _ _ h => h) (Or.inl ⟨by rfl, ?_⟩) (by with_reducible assumption) ?_
      rotate_left
      focus (intro wS hSw; (try dsimp only at hSw); go_simp <;> with_reducible rfl)
      try go_frame
      refine wpAnyH_take (i := 1) (oi := { dst := some 31, op := Op.nilCheck (Operand.tmp 30), type := 0, pos := "index.go:46", after := #[{ on := 0, ground := Ground.data }], guard := none }) (v := ?_) rfl (by kernel_rfl) (by kernel_rfl) (by kernel_rfl) (fun _ _ _ h => h) (Or.inl ⟨by rfl, ?_⟩) (by with_reducible assumption) ?_
      rotate_left
      focus (intro wS hSw; (try dsimp only at hSw); go_simp <;> with_reducible rfl)
      try go_frame
      refine wpAnyH_take (i := 2) (oi := { dst := some 32, op := Op.fieldAddr 88 (Operand.tmp 31) 1, type := 0, pos := "index.go:46", after := #[{ on := 1, ground := Ground.data }], guard := none }) (v := ?_) rfl (by kernel_rfl) (by kernel_rfl) (by kernel_rfl) (fun _ _ _ h => h) (Or.inl ⟨by rfl, ?_⟩) (by with_reducible assumption) ?_
      rotate_left
      focus (intro wS hSw; (try dsimp only at hSw); go_simp <;> with_reducible rfl)
      try go_frame
      refine wpAnyH_take (i := 3) (oi := { dst := some 33, op := Op.load 86 (Operand.tmp 32), type := 86, pos := "index.go:46", after := #[{ on := 2, ground := Ground.data }], guard := none }) (v := ?_) rfl (by kernel_rfl) (by kernel_rfl) (by kernel_rfl) (fun _ _ _ h => h) (Or.inl ⟨by rfl, ?_⟩) (by with_reducible assumption) ?_
      rotate_left
      focus (intro wS hSw; (try dsimp only at hSw); go_simp <;> with_reducible rfl)
      try go_frame
      refine wpAnyH_take (i := 4) (oi := { dst := some 34, op := Op.load 91 (Operand.tmp 3), type := 91, pos := "index.go:46", after := #[], guard := none }) (v := ?_) rfl (by kernel_rfl) (by kernel_rfl) (by kernel_rfl) (fun _ _ _ h => h) (Or.inl ⟨by rfl, ?_⟩) (by with_reducible assumption) ?_
      rotate_left
      focus (intro wS hSw; (try dsimp only at hSw); go_simp <;> with_reducible rfl)
      try go_frame
      refine wpAnyH_take (i := 5) (oi := { dst := some 35, op := Op.lookup 86 (Operand.tmp 33) (Operand.tmp 34) false, type := 89, pos := "index.go:46", after := #[{ on := 3, ground := Ground.data }, { on := 4, ground := Ground.data }], guard := none }) (v := ?_) rfl (by kernel_rfl) (by kernel_rfl) (by kernel_rfl) (fun _ _ _ h => h) (Or.inl ⟨by rfl, ?_⟩) (by with_reducible assumption) ?_
      rotate_left
      focus (intro wS hSw; (try dsimp only at hSw); go_simp <;> with_reducible rfl)
      try go_frame
      refine wpAnyH_take (i := 6) (oi := { dst := some 4, op := Op.assign (Operand.tmp 35), type := 89, pos := "index.go:46", after := #[{ on := 5, ground := Ground.data }, { on := 0, ground := Ground.phase }, { on := 1, ground := Ground.phase }, { on := 2, ground := Ground.phase }, { on := 3, ground := Ground.phase }, { on := 4, ground := Ground.phase }, { on := 5, ground := Ground.phase }], guard := none }) (v := ?_) rfl (by kernel_rfl) (by kernel_rfl) (by kernel_rfl) (fun _ _ _ h => h) (Or.inl ⟨by rfl, ?_⟩) (by with_reducible assumption) ?_
      rotate_left
      focus (intro wS hSw; (try dsimp only at hSw); go_simp <;> with_reducible rfl)
      try go_frame
      refine wpAnyH_done (by kernel_rfl) ?_ _
      go_wp2_with fail
      go_ret
      exact ⟨gb, R2, rfl, HE5.out, HG.out.keep (Below.refl _ _).drew (ExtR.refl _ _) HB5.out, HF5.out.trans (FrQ.below (Below.refl _ _).drew) HE5.out, fun v hv => HV5.out v hv⟩
end Go.Proofs.Ytenfaejdnphngaa
