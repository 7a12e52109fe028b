/- slices.SortFunc over points, by the distance from the first end. -/
import Derived.Test.YtmhmccicnebhaaaPts
namespace Go.Proofs.Ytmhmccicnebhaaa
open Go.RowKit Go.Sort Go.Shelf Go.Lib

theorem to_pb : ∀ L : List (Int × Int), (∀ p ∈ L, okp p.1 p.2 = true) → ∃ d : List PB, d.map (·.1) = L
  | [], _ => ⟨[], rfl⟩
  | p :: L, h => by
    obtain ⟨d, hd⟩ := to_pb L (fun q hq => h q (by simp [hq]))
    exact ⟨⟨p, h p (by simp)⟩ :: d, by rw [List.map_cons, hd]⟩

theorem ltB (a : Int × Int) (x y : PB) : ltOf (cfB a) x y = decide (dist a x.1 < dist a y.1) := by
  unfold ltOf cfB
  by_cases h : dist a x.1 < dist a y.1
  · have : dist a x.1 - dist a y.1 < 0 := by omega
    simp [h, this]
  · have : ¬ dist a x.1 - dist a y.1 < 0 := by omega
    simp [h, this]
theorem swoB (a : Int × Int) : SWO (ltOf (cfB a)) where
  irrefl x := by rw [ltB]; simp
  trans x y z h1 h2 := by rw [ltB] at *; simp at *; omega
  ntrans x y z h1 h2 := by rw [ltB] at *; simp at *; omega

def SortPost (base : Nat) (a : Int × Int) (v : Value) (L : List (Int × Int)) (W : World) (e : Ending) (w' : World) : Prop :=
  e = .returned (.tuple #[]) ∧ ∃ M : List (Int × Int), M.Perm L ∧ M.Pairwise (fun p q => dist a p ≤ dist a q) ∧ w'.ownsRow base 23 2 v L.length (cells M) ∧ (∀ B0 w0, Below B0 w0 W → B0 ≤ base → B0 ≤ W.heap.size → Below B0 w0 w')

theorem sort_pts (base : Nat) (ax ay : Int) (B B1 : Nat) (v : Value) (L : List (Int × Int)) (W : World) (hown : W.ownsRow base 23 2 v L.length (cells L)) (ha' : L ≠ [] → okp ax ay = true) (hL : ∀ p ∈ L, okp p.1 p.2 = true) (hn : L.length < 4611686018427387904)
    (hb : v.ownBlock ≠ some B) (hb1 : v.ownBlock ≠ some B1) (h0 : W.cell? ⟨B, 0, none⟩ = some (.int .i64 ax)) (h1 : W.cell? ⟨B, 1, none⟩ = some (.int .i64 ay))
    (h2 : W.cell? ⟨B1, 0, none⟩ = some (.func (.func 93) #[] #[.pointer (some ⟨B, 0, none⟩)])) :
    Calls Try.prog 95 #[v, .func (.func 96) #[] #[.pointer (some ⟨B1, 0, none⟩)]] W (SortPost base (ax, ay) v L W) := by
  by_cases hz : L = []
  · subst hz
    obtain ⟨p, cap, rfl⟩ := own_nil hown
    refine (AnyF.slices_SortFunc_none Try.sortPt p cap _ W).mono ?_
    rintro e w' ⟨rfl, rfl⟩
    exact ⟨rfl, [], List.Perm.refl _, .nil, hown, fun _ _ h _ _ => h⟩
  · have ha := ha' hz
    clear ha'
    obtain ⟨g, cap, rfl, hg, hgl, _, _, _⟩ := own_cells hown hz
    obtain ⟨d, rfl⟩ := to_pb L hL
    rw [List.length_map] at hown hn ⊢
    have hd : d.toArray.size = d.length := by simp
    have hown' : W.ownsRow base 23 2 (.slice (some ⟨g, 0, none⟩) d.toArray.size cap) d.toArray.size (cells (d.toArray.toList.map (·.1))) := by
      rw [hd]; exact hown
    have hH := own_holds hown'
    have nB : (⟨B, 0, none⟩ : Addr).block ≠ g := fun k => hb (by show some g = some B; rw [← k])
    have nB1 : (⟨B1, 0, none⟩ : Addr).block ≠ g := fun k => hb1 (by show some g = some B1; rw [← k])
    have lB : B < W.heap.size := World.block_lt_of_cell? W ⟨B, 0, none⟩ h0
    have lB1 : B1 < W.heap.size := World.block_lt_of_cell? W ⟨B1, 0, none⟩ h2
    have hcmp : CmpLays Try.prog 96 #[.pointer (some ⟨B1, 0, none⟩)] encB 2 (cfB (ax, ay)) g 0 d.toArray.size W := by
      intro m os dk hs x y
      exact cmp_any ax ay B B1 _ ha x y
        ((cell?_sortWorldK_other encB 2 W g 0 m dk os ⟨B, 0, none⟩ nB lB).trans h0)
        ((cell?_sortWorldK_other encB 2 W g 0 m dk os ⟨B, 1, none⟩ nB lB).trans h1)
        ((cell?_sortWorldK_other encB 2 W g 0 m dk os ⟨B1, 0, none⟩ nB1 lB1).trans h2)
    have eg : ∀ args w, (callFunc 96 args).run Try.prog w = .ok (.enter 96 args) w := enters_of Try.func96 (by kernel_rfl) rfl
    have hcon := AnyQ.slices_SortFunc Try.sortPt 2 Try.isAgg23 Try.sizeOf23 encB (fun _ => rfl) (fun x v hv => by simp [encB] at hv; rcases hv with rfl | rfl <;> rfl) (cfB (ax, ay)) (swoB (ax, ay)) 96 #[.pointer (some ⟨B1, 0, none⟩)] g 0 cap d.toArray W eg hcmp hH hgl (by rw [hd]; exact hn)
    rw [hd] at hcon
    refine Calls.mono hcon ?_
    rintro e w' ⟨rfl, d', n, os, hp, hs, rfl⟩
    have hds : d'.size = d.length := by rw [hp.1, hd]
    refine ⟨rfl, d'.toList.map (·.1), ?_, ?_, ?_, fun B0 w0 h k1 k2 => below_sorted os h (by omega) k2⟩
    · have h3 := hp.2.2
      rw [← hd] at h3
      have e1 : (d'.extract 0 d.toArray.size).toList = d'.toList := by rw [hd, ← hds]; simp
      have e2 : (d.toArray.extract 0 d.toArray.size).toList = d := by simp
      rw [e1, e2] at h3
      exact h3.map _
    · rw [List.pairwise_map, List.pairwise_iff_getElem]
      intro i j hi hj hij
      have hi' : i < d'.size := by simpa using hi
      have hj' : j < d'.size := by simpa using hj
      have := hs i j (Nat.zero_le _) hij (by omega)
      rw [ltB, decide_eq_false_iff_not, getElem!_pos d' i hi', getElem!_pos d' j hj'] at this
      rw [Array.getElem_toList, Array.getElem_toList]
      omega
    · rw [List.length_map]; exact own_sorted os hown hds
end Go.Proofs.Ytmhmccicnebhaaa
