/- The walk of around and of its counting closure, for the closures of Winding. (Written by mk_around.py.) -/
import Derived.Test.YtkibjbbhiclkmaaRing
namespace Go.Proofs.Ytkibjbbhiclkmaa
open Go.RowKit Go.Shelf Go.Sort
attribute [local go_sem] Oper.semAt_some

/-- The spot's closures. -/
def SpW (W : World) (S : Nat) (P : Nat) : Prop := W.cell? ⟨S, 0, none⟩ = some (.func (.func 57) #[] #[.pointer (some ⟨P, 0, none⟩)]) ∧ W.cell? ⟨S, 1, none⟩ = some (.func (.func 58) #[] #[.pointer (some ⟨P, 0, none⟩)]) ∧ W.cell? ⟨S, 2, none⟩ = some (.func (.func 60) #[] #[.pointer (some ⟨P, 0, none⟩)])
theorem SpW.keep {W w1 : World} {S P : Nat} (hb : Below W.heap.size W w1) (h : SpW W S P) : SpW w1 S P := ⟨cell_later hb h.1, cell_later hb h.2.1, cell_later hb h.2.2⟩

set_option maxRecDepth 100000 in
set_option maxHeartbeats 4000000 in
theorem countW_any (w : World) (P : Nat) (ab : Int × Int → Bool) (lf : Int × Int → Int × Int → Bool)
    (KA : Hid (∀ (V : World) (p : Int × Int), Below w.heap.size w V → Calls Try.prog 57 #[.agg #[.int .i64 p.1, .int .i64 p.2], .pointer (some ⟨P, 0, none⟩)] V fun e w' => e = .returned (.bool (ab p)) ∧ Below V.heap.size V w'))
    (KL : Hid (∀ (V : World) (p q : Int × Int), Below w.heap.size w V → Calls Try.prog 60 #[.agg #[.int .i64 p.1, .int .i64 p.2], .agg #[.int .i64 q.1, .int .i64 q.2], .pointer (some ⟨P, 0, none⟩)] V fun e w' => e = .returned (.bool (lf p q)) ∧ Below V.heap.size V w'))
    (a b : Int × Int) (S T : Nat) (t : Int) (W : World) (hb : Below w.heap.size w W) (hS : SpW W S P) (hT : Boxed W T 3 (.int .i64 t)) (ht : -1000000 ≤ t ∧ t ≤ 1000000) :
    Calls Try.prog 95 #[.agg #[.int .i64 a.1, .int .i64 a.2], .agg #[.int .i64 b.1, .int .i64 b.2], .pointer (some ⟨S, 0, none⟩), .pointer (some ⟨T, 0, none⟩)] W
      fun e w' => e = .returned (.tuple #[]) ∧ Boxed w' T 3 (.int .i64 (t + hW (ab a) (ab b) (lf a b))) ∧ W.grownBy w' (some T) := by
  have hI : (fun V : World => V.cell? ⟨S, 0, none⟩ = some (.func (.func 57) #[] #[.pointer (some ⟨P, 0, none⟩)]) ∧ V.cell? ⟨S, 2, none⟩ = some (.func (.func 60) #[] #[.pointer (some ⟨P, 0, none⟩)]) ∧ V.cell? ⟨W.heap.size, 0, none⟩ = some (.int .i64 a.1) ∧ V.cell? ⟨W.heap.size, 1, none⟩ = some (.int .i64 a.2) ∧ V.cell? ⟨W.heap.size + 1, 0, none⟩ = some (.int .i64 b.1) ∧ V.cell? ⟨W.heap.size + 1, 1, none⟩ = some (.int .i64 b.2) ∧ Below W.heap.size W V) ((W.alloc (.cells #[.int .i64 a.1, .int .i64 a.2] 24)).alloc (.cells #[.int .i64 b.1, .int .i64 b.2] 24)) :=
    ⟨cell_later (b2 _ _ _) hS.1, cell_later (b2 _ _ _) hS.2.2, by go_simp, by go_simp, by go_simp, by go_simp, b2 _ _ _⟩
  have HT := Lib.hid hT
  have HB := Lib.hid hb
  have HI := Lib.hid hI
  have hTl := hT.lt
  clear hI hS hT hb
  have fin : Hid (∀ V : World, Below W.heap.size W V → Boxed V T 3 (.int .i64 t) ∧ W.grownBy V (some T)) := Lib.hid fun V hV =>
    ⟨(hV.block T hTl).trans HT.out, ⟨hV.os, hV.tape, hV.output, hV.size, fun k hk _ => hV.block k hk⟩⟩
  have fin2 : Hid (∀ (V : World) (u : Int), Below W.heap.size W V → Boxed (V.setCell ⟨T, 0, none⟩ (.int .i64 u)) T 3 (.int .i64 u) ∧ W.grownBy (V.setCell ⟨T, 0, none⟩ (.int .i64 u)) (some T)) := Lib.hid fun V u hV => by
    have h0 : Boxed V T 3 (.int .i64 t) := (hV.block T hTl).trans HT.out
    have hg := grownBy_setCell' V T (.int .i64 u)
    refine ⟨h0.set _, ⟨hg.os.trans hV.os, hg.tape.trans hV.tape, hg.output.trans hV.output, Nat.le_trans hV.size hg.size, fun k hk hne => (hg.block k (Nat.lt_of_lt_of_le hk hV.size) hne).trans (hV.block k hk)⟩⟩
  cases hu : ab b <;> cases hf : ab a
  · have KB := Lib.hid (fun V h => KA.out V b h)
    rw [hu] at KB
    have KF := Lib.hid (fun V h => KA.out V a h)
    rw [hf] at KF
    have hS0 := HI.out
    clear hu hf
    as_aux_lemma =>
    go_enter Try.func95, Try.ntmps95
    go_wp2_with fail
    refine (KB.out _ (HB.out.trans (HI.out.2.2.2.2.2.2.mono HB.out.size))).mono ?_
    rintro e w2 ⟨rfl, hb2⟩
    have hS2 := keep6 hb2 HI.out
    have HS2 := Lib.hid hS2
    clear hb2
    go_wp2_with fail
    refine (KF.out _ (HB.out.trans (HS2.out.2.2.2.2.2.2.mono HB.out.size))).mono ?_
    rintro e w3 ⟨rfl, hb3⟩
    have hS3 := keep6 hb3 HS2.out
    have HS3 := Lib.hid hS3
    clear hb3 hS2
    have HF := Lib.hid (fin.out _ HS3.out.2.2.2.2.2.2)
    clear fin fin2
    go_wp2_with fail
    go_end0
    exact ⟨rfl, by rw [show t + hW false false (lf a b) = t from by simp [hW]]; exact HF.out.1, HF.out.2⟩
  · have KB := Lib.hid (fun V h => KA.out V b h)
    rw [hu] at KB
    have KF := Lib.hid (fun V h => KA.out V a h)
    rw [hf] at KF
    have hS0 := HI.out
    clear hu hf
    as_aux_lemma =>
    go_enter Try.func95, Try.ntmps95
    go_wp2_with fail
    refine (KB.out _ (HB.out.trans (HI.out.2.2.2.2.2.2.mono HB.out.size))).mono ?_
    rintro e w2 ⟨rfl, hb2⟩
    have hS2 := keep6 hb2 HI.out
    have HS2 := Lib.hid hS2
    clear hb2
    go_wp2_with fail
    refine (KF.out _ (HB.out.trans (HS2.out.2.2.2.2.2.2.mono HB.out.size))).mono ?_
    rintro e w3 ⟨rfl, hb3⟩
    have hS3 := keep6 hb3 HS2.out
    have HS3 := Lib.hid hS3
    clear hb3 hS2
    cases hg : lf a b
    · have KG := Lib.hid (KL.out w3 a b (HB.out.trans (HS3.out.2.2.2.2.2.2.mono HB.out.size)))
      rw [hg] at KG
      have HG := Lib.hid hg
      clear hg
      go_wp2_with fail
      refine KG.out.mono ?_
      rintro e w4 ⟨rfl, hb4⟩
      have HS4 := Lib.hid (keep6 hb4 HS3.out)
      clear hb4 hS3
      have hbx := (fin.out _ HS4.out.2.2.2.2.2.2).1
      have c0 := hbx.cell
      have c1 := hbx.frozen
      have HF := Lib.hid (fin2.out _ (t - 1) HS4.out.2.2.2.2.2.2)
      have x1 : IntKind.i64.wrap (t - 1) = t - 1 := IntWalk.i64_in _ (by omega)
      clear fin fin2 hbx
      go_wp2_with fail
      go_end0
      exact ⟨rfl, by rw [HG.out, show t + hW true false false = t - 1 from by simp [hW]; try omega]; exact HF.out.1, HF.out.2⟩
    · have KG := Lib.hid (KL.out w3 a b (HB.out.trans (HS3.out.2.2.2.2.2.2.mono HB.out.size)))
      rw [hg] at KG
      have HG := Lib.hid hg
      clear hg
      go_wp2_with fail
      refine KG.out.mono ?_
      rintro e w4 ⟨rfl, hb4⟩
      have HS4 := Lib.hid (keep6 hb4 HS3.out)
      clear hb4 hS3
      have HF := Lib.hid (fin.out _ HS4.out.2.2.2.2.2.2)
      clear fin fin2
      go_wp2_with fail
      go_end0
      exact ⟨rfl, by rw [HG.out, show t + hW true false true = t from by simp [hW]]; exact HF.out.1, HF.out.2⟩
  · have KB := Lib.hid (fun V h => KA.out V b h)
    rw [hu] at KB
    have KF := Lib.hid (fun V h => KA.out V a h)
    rw [hf] at KF
    have hS0 := HI.out
    clear hu hf
    as_aux_lemma =>
    go_enter Try.func95, Try.ntmps95
    go_wp2_with fail
    refine (KB.out _ (HB.out.trans (HI.out.2.2.2.2.2.2.mono HB.out.size))).mono ?_
    rintro e w2 ⟨rfl, hb2⟩
    have hS2 := keep6 hb2 HI.out
    have HS2 := Lib.hid hS2
    clear hb2
    go_wp2_with fail
    refine (KF.out _ (HB.out.trans (HS2.out.2.2.2.2.2.2.mono HB.out.size))).mono ?_
    rintro e w3 ⟨rfl, hb3⟩
    have hS3 := keep6 hb3 HS2.out
    have HS3 := Lib.hid hS3
    clear hb3 hS2
    cases hg : lf a b
    · have KG := Lib.hid (KL.out w3 a b (HB.out.trans (HS3.out.2.2.2.2.2.2.mono HB.out.size)))
      rw [hg] at KG
      have HG := Lib.hid hg
      clear hg
      go_wp2_with fail
      refine KG.out.mono ?_
      rintro e w4 ⟨rfl, hb4⟩
      have HS4 := Lib.hid (keep6 hb4 HS3.out)
      clear hb4 hS3
      have HF := Lib.hid (fin.out _ HS4.out.2.2.2.2.2.2)
      clear fin fin2
      go_wp2_with fail
      go_end0
      exact ⟨rfl, by rw [HG.out, show t + hW false true false = t from by simp [hW]]; exact HF.out.1, HF.out.2⟩
    · have KG := Lib.hid (KL.out w3 a b (HB.out.trans (HS3.out.2.2.2.2.2.2.mono HB.out.size)))
      rw [hg] at KG
      have HG := Lib.hid hg
      clear hg
      go_wp2_with fail
      refine KG.out.mono ?_
      rintro e w4 ⟨rfl, hb4⟩
      have HS4 := Lib.hid (keep6 hb4 HS3.out)
      clear hb4 hS3
      have hbx := (fin.out _ HS4.out.2.2.2.2.2.2).1
      have c0 := hbx.cell
      have c1 := hbx.frozen
      have HF := Lib.hid (fin2.out _ (t + 1) HS4.out.2.2.2.2.2.2)
      have x1 : IntKind.i64.wrap (t + 1) = t + 1 := IntWalk.i64_in _ (by omega)
      clear fin fin2 hbx
      go_wp2_with fail
      go_end0
      exact ⟨rfl, by rw [HG.out, show t + hW false true true = t + 1 from by simp [hW]; try omega]; exact HF.out.1, HF.out.2⟩
  · have KB := Lib.hid (fun V h => KA.out V b h)
    rw [hu] at KB
    have KF := Lib.hid (fun V h => KA.out V a h)
    rw [hf] at KF
    have hS0 := HI.out
    clear hu hf
    as_aux_lemma =>
    go_enter Try.func95, Try.ntmps95
    go_wp2_with fail
    refine (KB.out _ (HB.out.trans (HI.out.2.2.2.2.2.2.mono HB.out.size))).mono ?_
    rintro e w2 ⟨rfl, hb2⟩
    have hS2 := keep6 hb2 HI.out
    have HS2 := Lib.hid hS2
    clear hb2
    go_wp2_with fail
    refine (KF.out _ (HB.out.trans (HS2.out.2.2.2.2.2.2.mono HB.out.size))).mono ?_
    rintro e w3 ⟨rfl, hb3⟩
    have hS3 := keep6 hb3 HS2.out
    have HS3 := Lib.hid hS3
    clear hb3 hS2
    have HF := Lib.hid (fin.out _ HS3.out.2.2.2.2.2.2)
    clear fin fin2
    go_wp2_with fail
    go_end0
    exact ⟨rfl, by rw [show t + hW true true (lf a b) = t from by simp [hW]]; exact HF.out.1, HF.out.2⟩
end Go.Proofs.Ytkibjbbhiclkmaa
