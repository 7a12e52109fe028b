/- The walk of the law HeapRises. -/
import Derived.Test.YtbdmmgplpndobaaHeapG
import Derived.Test.YtbdmmgplpndobaaHeapC
import Derived.Test.YtbdmmgplpndobaaKnown5
import Derived.Deep.QuietTactic
namespace Go.Proofs.Ytbdmmgplpndobaa
open Go.RowKit Go.Sort Go.Deep

/-- While the heap is emptied: what is left of the sorted row. -/
structure RsI (w : World) (B3 hb g mb : Nat) (u : Value) (S : List E3) (i : Nat) (V : World) : Prop where
  below : Below w.heap.size w V
  own : V.ownsRow B3 31 3 u S.length (enCells S)
  lts : hb < B3 ∧ g < B3 ∧ mb < B3 ∧ w.heap.size ≤ hb ∧ w.heap.size ≤ g ∧ w.heap.size ≤ mb
  hp : ∃ P, HpI V w.heap.size hb g mb P ((S.length : Int) - i) ∧ hO P ∧ ∀ x, cntE P x = ((S.drop i).count x : Int)
theorem RsI.keep {w V V1 : World} {B3 hb g mb : Nat} {u : Value} {S : List E3} {i : Nat} (h : RsI w B3 hb g mb u S i V) (k : Below V.heap.size V V1) : RsI w B3 hb g mb u S i V1 := by
  obtain ⟨P, H, o, c⟩ := h.hp
  exact ⟨below_after h.below k, ownk k h.own, h.lts, P, H.keep k, o, c⟩
theorem RsI.pop {w V : World} {B3 hb g mb : Nat} {u : Value} {S : List E3} {i : Nat} (h : RsI w B3 hb g mb u S i V) (hi : i < S.length) (hs : S.Pairwise (fun p q => ltE q p = false)) (hS : S.length ≤ 1000) :
    Calls Try.prog 8 #[.pointer (some ⟨hb, 0, none⟩)] V fun en w' => en = .returned (.tuple #[encE3 S[i], .bool true]) ∧ RsI w B3 hb g mb u S (i + 1) w' := by
  obtain ⟨P, H, o, c⟩ := h.hp
  obtain ⟨f0, f1⟩ := first_is H.pos o hs hi c
  refine (hpop_any H (by omega)).mono ?_
  rintro en w' (⟨e, _⟩ | ⟨_, rfl, hf, H1⟩)
  · subst e; simp at f0
  · have hl := h.lts
    refine ⟨by rw [f1], hf.belowed h.below hl.2.2.2.1 hl.2.2.2.2.1 hl.2.2.2.2.2, ?_, hl, takF P 0, ?_, takF_ord o f0, fun x => ?_⟩
    · have ho := h.own
      rcases id ho.2 with ⟨rfl, _⟩ | ⟨k, cap, cur, rfl, hk, hh, _⟩
      · exact ⟨ho.1, .inl ⟨rfl, by have := ho.2; rcases this with ⟨_, z⟩ | ⟨_, _, _, e, _⟩; exact z; cases e⟩⟩
      · exact own_of ho (hf.block k (Array.getElem?_eq_some_iff.1 hh).1 (by omega) (by omega) (by omega))
    · have : (S.length : Int) - ((i + 1 : Nat) : Int) = (S.length : Int) - i - 1 := by push_cast; omega
      rw [this]; exact H1
    · rw [takF_cnt f0, f1, c, drop_cnt hi]
theorem hlen_any {W : World} {B hb g mb : Nat} {P : List Pile} {cnt : Int} (h : HpI W B hb g mb P cnt) :
    Calls Try.prog 14 #[.pointer (some ⟨hb, 0, none⟩)] W fun en w' => en = .returned (.int .i64 cnt) ∧ w' = W := by
  have c2 := h.c2
  clear h
  go_enter Try.func14, Try.ntmps14
  go_wp2_with fail
  go_ret
  exact ⟨rfl, rfl⟩
theorem RsI.row {w V : World} {B3 hb g mb : Nat} {u : Value} {S : List E3} {i : Nat} (h : RsI w B3 hb g mb u S i V) : ∃ q c, u = .slice q S.length c ∧ ∀ j (hj : j < S.length), ∃ k, q = some ⟨k, 0, none⟩ ∧ V.cell? ⟨k, j * 3, none⟩ = some (.int .i64 S[j].1) ∧ V.cell? ⟨k, j * 3 + 1, none⟩ = some (.int .i64 S[j].2.1) ∧ V.cell? ⟨k, j * 3 + 2, none⟩ = some (.int .i64 S[j].2.2) := by
  have ho := h.own
  rcases id ho.2 with ⟨rfl, hz⟩ | ⟨k, cap, cur, rfl, _⟩
  · exact ⟨none, 0, by rw [hz], fun j hj => by omega⟩
  · refine ⟨_, cap, rfl, fun j hj => ⟨k, rfl, ?_⟩⟩
    have hc := ho.cells (g := k) rfl
    have a0 := flatMap_at encE3l_len S j 0 hj (by omega)
    have a1 := flatMap_at encE3l_len S j 1 hj (by omega)
    have a2 := flatMap_at encE3l_len S j 2 hj (by omega)
    have q0 := hc _ _ (show (enCells S)[j * 3 + 0]? = some (.int .i64 S[j].1) from a0)
    have q1 := hc _ _ (show (enCells S)[j * 3 + 1]? = some (.int .i64 S[j].2.1) from a1)
    have q2 := hc _ _ (show (enCells S)[j * 3 + 2]? = some (.int .i64 S[j].2.2) from a2)
    rw [add_at, Nat.zero_add] at q0 q1 q2
    exact ⟨q0, q1, q2⟩
theorem neq_E_self (a : E3) (w : World) : Sem.run Try.prog (binOp .neq 31 (encE3 a) (encE3 a)) w = .ok (.bool false) w := by
  have h := equal_E a a w
  rw [show eqE a a = true from by simp [eqE]] at h
  unfold encE3 at *
  simp only [binOp]
  simp [Op.equal, Op.maxDepth, h]
theorem EI.upto {W : World} {hb g mb : Nat} {q : Option Addr} {n c : Nat} {L : List E3} (h : EI W hb g mb (.slice q n c) L) (m : Nat) : EI W hb g mb (.slice q (min n m) c) (L.take m) := by
  obtain ⟨q1, c1, e, hc, hi⟩ := h
  cases e
  refine ⟨q, c, by rw [List.length_take, Nat.min_comm], by rw [List.length_take]; omega, fun i hi' => ?_⟩
  rw [List.length_take] at hi'
  obtain ⟨k, o, e, h1, h2, h3, c0⟩ := hi i (by omega)
  exact ⟨k, o, e, h1, h2, h3, by rw [List.getElem_take]; exact c0⟩
end Go.Proofs.Ytbdmmgplpndobaa
