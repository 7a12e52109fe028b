/- order.Points; the document's Points, Same, and Ofs at rows of points. -/
import Derived.Test.YtmmahejdpanmjaaSortedP
import Derived.Laws.StructEq
namespace Go.Proofs.Ytmmahejdpanmjaa
open Go.RowKit Go.Sort

def plt (p q : Int × Int) : Bool := lessB p.1 p.2 q.1 q.2
theorem plt_sto : STO plt := by
  constructor
  · intro a; simp [plt, lessB]
  · intro a b c h k
    unfold plt lessB at *
    split at h <;> split at k <;> simp at h k <;> (split <;> simp <;> omega)
  · intro a b h k
    unfold plt lessB at *
    rcases a with ⟨a1, a2⟩
    rcases b with ⟨b1, b2⟩
    simp only at *
    by_cases e : a1 = b1
    · subst e
      simp at h k
      congr 1; omega
    · rw [if_neg e] at h
      rw [if_neg (fun c => e c.symm)] at k
      simp at h k
      omega
set_option maxRecDepth 100000 in
theorem opoints_any {w : World} {gt : Nat} {v : Value} {L : List (Int × Int)} (hI : PI w gt v L) (hL : L.length ≤ 1000) : Calls Try.prog 14 #[v] w (SoPostP plt L w) := by
  have HS := Lib.hid (sorted_anyP 46 #[] plt (fun _ => True) (hI.new (Nat.le_refl _)) hL (fun _ _ => trivial) (fun args W => by first | rfl | simp [callFunc]) (fun W x y _ _ _ => less_any x.1 x.2 y.1 y.2 W))
  obtain ⟨q, c, rfl, _, hx⟩ := hI
  clear hx
  go_enter Try.func14, Try.ntmps14
  go_wp2_with fail
  go_at_call 45
  refine Calls.mono HS.out ?_
  rintro e w1 ⟨u, rfl, ho, hb⟩
  have HO := Lib.hid ho
  have HB := Lib.hid hb
  clear ho hb
  go_wp2_with fail
  go_ret
  exact ⟨u, rfl, HO.out, HB.out⟩
def OfsPostP (L : List (Int × Int)) (w : World) (e : Ending) (w' : World) : Prop :=
  ∃ u, e = .returned u ∧ w'.ownsRow w.heap.size 85 2 u L.length (pcells L) ∧ Below w.heap.size w w'
theorem pcells_push {L : List (Int × Int)} {k : Nat} (h : k < L.length) : pcells (L.take (k + 1)) = pcells (L.take k) ++ encP L[k] := by
  rw [List.take_succ_eq_append_getElem h, pcells_app]
  simp [pcells]
set_option maxRecDepth 100000 in
set_option maxHeartbeats 2000000 in
theorem ofs_anyP {w : World} {gt : Nat} {v : Value} {L : List (Int × Int)} (hI : PI w gt v L) (hL : L.length ≤ 1000) : Calls Try.prog 16 #[v] w (OfsPostP L w) := by
  obtain ⟨i0, hi, hz0, hz1, hz2⟩ := info_parts infoRP
  have HI := Lib.hid hI
  obtain ⟨q, c, rfl, _, hx⟩ := hI
  clear hx
  go_enter Try.func16, Try.ntmps16
  go_wp2_with fail
  go_loopg [3, 4] L.length (fun gk u s wx => ∃ k : Nat, gk = L.length - k ∧ k ≤ L.length ∧ s = .int .i64 (k : Int) ∧ Hid (wx.ownsRow w.heap.size 85 2 u k (pcells (L.take k))) ∧ Hid (Below w.heap.size w wx))
  case atStart => exact ⟨0, rfl, by omega, rfl, Lib.hid ⟨by simp [pcells], .inl ⟨rfl, rfl⟩⟩, Lib.hid (Below.refl _ _)⟩
  case round =>
    obtain ⟨k, hgk, hk, rfl, HO, HB⟩ := hrel
    by_cases hlt : k < L.length
    · obtain ⟨g, o, rfl, c0, c1⟩ := HI.out.at hlt
      have c0 := cell_later HB.out c0
      have c1 := cell_later HB.out c1
      have HPu := Lib.hid (pcells_push hlt)
      generalize L[k] = p at *
      go_wp2_with fail
      refine (of_any _ _ _).mono ?_
      rintro e w1 ⟨rfl, hb1⟩
      have HO1 := Lib.hid (ownk hb1 HO.out)
      have HB1 := Lib.hid (below_after HB.out hb1)
      clear hb1 HO HB c0 c1
      go_wp2_with (at_builtin; refine wpList_append_srcO rfl (.tmp 11) (.tmp 17) 29 rfl w.heap.size 85 i0 (.agg #[.int .i64 0, .int .i64 0]) 2 16 Try.underlying29 hi hz0 hz1 hz2 rfl (by decide) _ k (pcells (L.take k)) rfl (HO1.out.alloc _) _ 1 (encP p) rfl (new_srcP _ _ _) rfl (encP_one _) (by unfold maxLen; omega) (by omega) (by have := HB1.out.size; rw [World.size_alloc]; omega) ?_)
      intro v2 w2 ho2 hg2
      have HO2 : Hid (w2.ownsRow w.heap.size 85 2 v2 (k + 1) (pcells (L.take (k + 1)))) := Lib.hid (by rw [HPu.out]; exact ho2)
      have HB2 : Hid (Below w.heap.size w w2) := Lib.hid ((HB1.out.alloc HB1.out.size _).grown hg2 (by have := HB1.out.size; rw [World.size_alloc]; omega) (fun k hk => (own_block HO1.out hk).1))
      clear ho2 hg2 HO1 HB1
      go_wp2_with fail
      go_roundg (L.length - (k + 1))
      case measure => omega
      case rel => exact ⟨k + 1, rfl, by omega, by push_cast; rfl, HO2, HB2⟩
    · obtain rfl : k = L.length := by omega
      go_wp2_with fail
      go_ret
      have HO2 := HO.out
      rw [List.take_length] at HO2
      exact ⟨_, rfl, HO2, HB.out⟩
def eqP (p q : Int × Int) : Bool := decide (p.1 = q.1) && decide (p.2 = q.2)
theorem eqP_self (p : Int × Int) : eqP p p = true := by simp [eqP]
theorem rne_ptP (p q : Int × Int) (w : World) : Sem.run Try.prog (binOp .neq 85 (.agg #[.int .i64 p.1, .int .i64 p.2]) (.agg #[.int .i64 q.1, .int .i64 q.2])) w = .ok (.bool (!eqP p q)) w := by
  have u3 := Try.underlying3
  have hS : Try.prog.underlying 85 = some (.struct (Try.prog.fieldsOf 85)) := by kernel_rfl
  have hp : Try.prog.stoodInHeld 85 = false := by kernel_rfl
  rw [run_neq_struct, show (10000 : Nat) = 9999 + 1 from rfl, run_equalIn_agg w 9999 85 _ _ hS hp]
  simp only [Program.fieldsOf, Try.underlying85]
  unfold eqP
  go_simp
  by_cases h1 : p.1 = q.1 <;> by_cases h2 : p.2 = q.2 <;> simp [h1, h2]
set_option maxRecDepth 100000 in
set_option maxHeartbeats 2000000 in
theorem rsame_anyP {w : World} {ga gb : Nat} {va vb : Value} {A B : List (Int × Int)} (hA : PI w ga va A) (hB : PI w gb vb B) (h : A = B) (hL : A.length ≤ 1000000) : Calls Try.prog 44 #[va, vb] w fun e w' => e = .returned (.bool true) ∧ Below w.heap.size w w' := by
  have hmx : Try.prog.follows .mixedOrders = true := by kernel_rfl
  subst h
  have HA := Lib.hid hA
  have HB := Lib.hid hB
  obtain ⟨qa, ca, rfl, _, hx⟩ := hA
  clear hx
  obtain ⟨qb, cb, rfl, _, hx⟩ := hB
  clear hx
  go_enter Try.func44, Try.ntmps44
  go_wp2_with fail
  go_loopg [5] A.length (fun gk s wx => ∃ k : Nat, gk = A.length - k ∧ k ≤ A.length ∧ s = .int .i64 (k : Int) ∧ Hid (Below w.heap.size w wx))
  case atStart => exact ⟨0, rfl, by omega, rfl, Lib.hid (Below.refl _ _)⟩
  case round =>
    obtain ⟨k, hgk, hk, rfl, HW⟩ := hrel
    by_cases hlt : k < A.length
    · obtain ⟨g, o, rfl, c0, c1⟩ := HA.out.at hlt
      obtain ⟨g', o', rfl, d0, d1⟩ := HB.out.at hlt
      have c0 := cell_later HW.out c0
      have c1 := cell_later HW.out c1
      have d0 := cell_later HW.out d0
      have d1 := cell_later HW.out d1
      have hq := fun W => rne_ptP A[k] A[k] W
      rw [eqP_self] at hq
      have hlz : ((k : Nat) : Int) < ((A.length : Nat) : Int) := by omega
      generalize A[k] = p at *
      have HW2 := Lib.hid HW.out.drew
      go_wp2_with fail
      go_region
      go_wp2_with fail
      go_roundg (A.length - (k + 1))
      case measure => omega
      case rel => exact ⟨k + 1, rfl, by omega, by push_cast; rfl, HW2⟩
    · obtain rfl : k = A.length := by omega
      go_wp2_with fail
      go_ret
      exact ⟨rfl, HW.out⟩
end Go.Proofs.Ytmmahejdpanmjaa
