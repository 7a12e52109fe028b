/- The heap's state from outside: its piles, how many entries they are; what one more does. Plain, but for HpS. -/
import Derived.Test.YtbdmmgplpndobaaHeapB
namespace Go.Proofs.Ytbdmmgplpndobaa
open Go.RowKit Go.Sort Go.Deep

theorem swpL_perm {P : List Pile} {a b : Nat} (ha : a < P.length) (hb : b < P.length) : (swpL P a b).Perm P := by
  unfold swpL
  rw [pA_at ha, pA_at hb]
  exact List.set_set_perm ha hb
theorem riseF_perm : ∀ (n : Nat) (P : List Pile) (i : Nat), i < P.length → (riseF n P i).Perm P
  | 0, _, _, _ => .refl _
  | n + 1, P, i, h => by
    unfold riseF
    split
    · exact .refl _
    · split
      · exact (riseF_perm n _ _ (by rw [swpL_len]; omega)).trans (swpL_perm h (by omega))
      · exact .refl _
theorem sinkF_perm : ∀ (n : Nat) (P : List Pile) (i : Nat), i < P.length → (sinkF n P i).Perm P
  | 0, _, _, _ => .refl _
  | n + 1, P, i, h => by
    have := least2_lt h
    unfold sinkF
    split
    · exact .refl _
    · exact (sinkF_perm n _ _ (by rw [swpL_len]; omega)).trans (swpL_perm h (by omega))
/-- How many entries. -/
def sumT : List Pile → Int
  | [] => 0
  | p :: P => p.2 + sumT P
def PosT (P : List Pile) : Prop := ∀ p ∈ P, 1 ≤ p.2
theorem sumT_perm {P Q : List Pile} (h : P.Perm Q) : sumT P = sumT Q := by
  induction h with
  | nil => rfl
  | cons x _ ih => simp only [sumT]; omega
  | swap x y l => simp only [sumT]; omega
  | trans _ _ h1 h2 => exact h1.trans h2
theorem PosT.perm {P Q : List Pile} (h : PosT P) (k : Q.Perm P) : PosT Q := fun p hp => h p (k.mem_iff.1 hp)
theorem PosT.bound : ∀ {P : List Pile}, PosT P → (P.length : Int) ≤ sumT P ∧ ∀ p ∈ P, p.2 ≤ sumT P
  | [], _ => ⟨by simp [sumT], fun p hp => by simp at hp⟩
  | q :: P, h => by
    obtain ⟨h1, h2⟩ := PosT.bound (P := P) (fun p hp => h p (List.mem_cons_of_mem _ hp))
    have hq := h q List.mem_cons_self
    refine ⟨by simp only [sumT, List.length_cons]; omega, fun p hp => ?_⟩
    simp only [sumT]
    rcases List.mem_cons.1 hp with e | e
    · subst e; omega
    · have := h2 p e; omega
theorem pA_mem {P : List Pile} {i : Nat} (h : i < P.length) : pA P i ∈ P := by rw [pA_at h]; exact List.getElem_mem h
theorem PosT.at {P : List Pile} (h : PosT P) : ∀ i, i < P.length → 0 ≤ (pA P i).2 ∧ (pA P i).2 ≤ sumT P := fun i hi => by
  have h1 := h _ (pA_mem hi)
  have h2 := h.bound.2 _ (pA_mem hi)
  omega
theorem sumT_set : ∀ (P : List Pile) (i : Nat) (p : Pile), i < P.length → sumT (P.set i p) = sumT P - (pA P i).2 + p.2
  | [], _, _, h => by simp at h
  | q :: P, 0, p, _ => by simp only [List.set_cons_zero, sumT, pA, List.getD_cons_zero]; omega
  | q :: P, i + 1, p, h => by
    have := sumT_set P i p (by simpa using h)
    simp only [List.set_cons_succ, sumT, pA, List.getD_cons_succ] at *
    omega
theorem PosT.set {P : List Pile} (h : PosT P) (i : Nat) {p : Pile} (hp : 1 ≤ p.2) : PosT (P.set i p) := fun q hq => by
  rcases List.mem_or_eq_of_mem_set hq with e | e
  · exact h q e
  · subst e; exact hp
theorem addF_perm (P : List Pile) (e : E3) : (addF P e).Perm ((e, 1) :: P) := by
  unfold addF
  exact (riseF_perm _ _ _ (by simp)).trans List.perm_append_comm
/-- One entry more. -/
def AdS (P : List Pile) (e : E3) (P' : List Pile) : Prop :=
  ((∀ i, i < P.length → (pA P i).1 ≠ e) ∧ P' = addF P e) ∨ (∃ i, i < P.length ∧ (pA P i).1 = e ∧ P' = P.set i ((pA P i).1, (pA P i).2 + 1))
theorem AdS.pos {P P' : List Pile} {e : E3} (h : AdS P e P') (hp : PosT P) : PosT P' ∧ sumT P' = sumT P + 1 := by
  rcases h with ⟨_, rfl⟩ | ⟨i, hi, _, rfl⟩
  · refine ⟨PosT.perm (fun q hq => ?_) (addF_perm P e), ?_⟩
    · rcases List.mem_cons.1 hq with c | c
      · subst c; exact Int.le_refl _
      · exact hp q c
    · rw [sumT_perm (addF_perm P e)]; simp only [sumT]; omega
  · have := hp _ (pA_mem hi)
    refine ⟨hp.set i (by simp only; omega), ?_⟩
    rw [sumT_set _ _ _ hi]; simp only; omega
/-- Entries more, one by one. -/
def AdR : List Pile → List E3 → List Pile → Prop
  | P, [], P' => P' = P
  | P, e :: L, P' => ∃ P1, AdS P e P1 ∧ AdR P1 L P'
theorem AdR.more : ∀ {L : List E3} {P P1 P2 : List Pile} {e : E3}, AdR P L P1 → AdS P1 e P2 → AdR P (L ++ [e]) P2
  | [], _, _, _, _, h, k => by cases h; exact ⟨_, k, rfl⟩
  | _ :: _, _, _, _, _, ⟨Q, h1, h2⟩, k => ⟨Q, h1, h2.more k⟩
/-- The heap: the zero one, or one with a row and a map. -/
structure HpI (W : World) (B hb g mb : Nat) (P : List Pile) (cnt : Int) : Prop where
  st : (P = [] ∧ g = hb ∧ mb = hb ∧ HpZ W B hb cnt) ∨ ∃ cap ps, HpG W B hb g mb cap P cnt ps ∧ Gd P ps
  pos : PosT P
  sum : sumT P = cnt
def AdP (W : World) (B hb g mb : Nat) (P : List Pile) (cnt : Int) (e : E3) (en : Ending) (w' : World) : Prop :=
  en = .returned (.tuple #[]) ∧ Frm hb g mb W w' ∧ ∃ g' mb' P', (g' = g ∨ W.heap.size ≤ g') ∧ (mb' = mb ∨ W.heap.size ≤ mb') ∧ HpI w' B hb g' mb' P' (cnt + 1) ∧ AdS P e P'
theorem ladd_any {W : World} {B hb g mb : Nat} {P : List Pile} {cnt : Int} (h : HpI W B hb g mb P cnt) (hc : cnt < 1000000) (e : E3) :
    Calls Try.prog 39 #[.pointer (some ⟨hb, 0, none⟩), encE3 e] W (AdP W B hb g mb P cnt e) := by
  have hb1 := h.pos.bound.1
  have hbt := h.pos.at
  have hsu := h.sum
  have key : ∀ en w', AdPost W B hb g mb P cnt e en w' → AdP W B hb g mb P cnt e en w' := by
    rintro en w' ⟨he, hf, g', mb', cap', ps', P', hg, hm, H, G, hs⟩
    have := AdS.pos hs h.pos
    exact ⟨he, hf, g', mb', P', hg, hm, ⟨.inr ⟨cap', ps', H, G⟩, this.1, by omega⟩, hs⟩
  rcases h.st with ⟨rfl, rfl, rfl, hz⟩ | ⟨cap, ps, H, G⟩
  · exact (ladd_z hz (by simp [sumT] at hsu; omega) e).mono key
  · exact (ladd_g H G (by omega) (by omega) (fun i hi => by have := hbt i hi; omega) e).mono key
theorem HpI.keep {W W1 : World} {B hb g mb : Nat} {P : List Pile} {cnt : Int} (h : HpI W B hb g mb P cnt) (k : Below W.heap.size W W1) : HpI W1 B hb g mb P cnt := by
  refine ⟨?_, h.pos, h.sum⟩
  rcases h.st with ⟨h1, h2, h3, hz⟩ | ⟨cap, ps, H, G⟩
  · exact .inl ⟨h1, h2, h3, hz.keep k⟩
  · exact .inr ⟨cap, ps, H.keep k, G⟩
theorem HpI.c2 {W : World} {B hb g mb : Nat} {P : List Pile} {cnt : Int} (h : HpI W B hb g mb P cnt) : W.cell? ⟨hb, 2, none⟩ = some (.int .i64 cnt) := by
  rcases h.st with ⟨_, _, _, hz⟩ | ⟨cap, ps, H, G⟩
  · exact hz.c2
  · exact H.c2
theorem HpI.lts {W : World} {B hb g mb : Nat} {P : List Pile} {cnt : Int} (h : HpI W B hb g mb P cnt) : hb < W.heap.size ∧ g < W.heap.size ∧ mb < W.heap.size := by
  rcases h.st with ⟨_, rfl, rfl, hz⟩ | ⟨cap, ps, H, G⟩
  · have := World.block_lt_of_cell? W _ hz.c0; exact ⟨this, this, this⟩
  · exact ⟨H.hlt, H.glt.2, H.map.lt⟩
end Go.Proofs.Ytbdmmgplpndobaa
