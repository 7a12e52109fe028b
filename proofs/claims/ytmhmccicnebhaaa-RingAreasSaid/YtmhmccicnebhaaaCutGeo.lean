/- Plain facts on the cuts of a segment by lines. Nothing of the program. -/
import Derived.Test.YtmhmccicnebhaaaPlain
namespace Go.Proofs.Ytmhmccicnebhaaa

theorem rd_spec (n d : Int) (hd : 1 ≤ d) : 2 * (d * rdP n d) ≤ 2 * n + d ∧ 2 * n + d < 2 * (d * rdP n d) + 2 * d := by
  have h : d * (n / d) + n % d = n := Int.mul_ediv_add_emod n d
  have h1 := emod_bounds n d hd
  unfold rdP
  split
  · rw [Int.mul_add]; omega
  · omega
theorem rd_mono {n1 d1 n2 d2 : Int} (h1 : 1 ≤ d1) (h2 : 1 ≤ d2) (h : n1 * d2 ≤ n2 * d1) : rdP n1 d1 ≤ rdP n2 d2 := by
  have s1 := (rd_spec n1 d1 h1).1
  have s2 := (rd_spec n2 d2 h2).2
  generalize rdP n1 d1 = r1 at *
  generalize rdP n2 d2 = r2 at *
  rcases Int.lt_or_le r2 r1 with k | k
  · exfalso
    have m1 := Int.mul_le_mul_of_nonneg_right s1 (show (0 : Int) ≤ d2 by omega)
    have m2 := Int.mul_lt_mul_of_pos_right s2 (show (0 : Int) < d1 by omega)
    have m3 := Int.mul_le_mul_of_nonneg_left (show r2 + 1 ≤ r1 by omega) (Int.mul_nonneg (show (0 : Int) ≤ d1 by omega) (show (0 : Int) ≤ d2 by omega))
    have e1 : 2 * (d1 * r1) * d2 = 2 * (d1 * d2 * r1) := by grind
    have e2 : (2 * n1 + d1) * d2 = 2 * (n1 * d2) + d1 * d2 := by grind
    have e3 : (2 * n2 + d2) * d1 = 2 * (n2 * d1) + d1 * d2 := by grind
    have e4 : (2 * (d2 * r2) + 2 * d2) * d1 = 2 * (d1 * d2 * (r2 + 1)) := by grind
    omega
  · exact k
theorem rd_one (m : Int) : rdP m 1 = m := by
  have := rd_spec m 1 (by omega)
  omega
theorem rd_mul (m d : Int) (hd : 1 ≤ d) : rdP (m * d) d = m := by
  have h1 := rd_mono (n1 := m * d) (d1 := d) (n2 := m) (d2 := 1) hd (by omega) (by omega)
  have h2 := rd_mono (n1 := m) (d1 := 1) (n2 := m * d) (d2 := d) (by omega) hd (by omega)
  rw [rd_one] at h1 h2
  omega
theorem rd_add (m n d : Int) (hd : 1 ≤ d) : rdP (m * d + n) d = m + rdP n d := by
  have s1 := rd_spec (m * d + n) d hd
  have s2 := rd_spec n d hd
  generalize rdP (m * d + n) d = r1 at *
  generalize rdP n d = r2 at *
  have e : d * (m + r2) = m * d + d * r2 := by grind
  rcases Int.lt_trichotomy r1 (m + r2) with k | k | k
  · have := Int.mul_le_mul_of_nonneg_left (show r1 + 1 ≤ m + r2 by omega) (show (0 : Int) ≤ d by omega)
    rw [Int.mul_add] at this; omega
  · exact k
  · have := Int.mul_le_mul_of_nonneg_left (show m + r2 + 1 ≤ r1 by omega) (show (0 : Int) ≤ d by omega)
    rw [Int.mul_add] at this; omega

/-- A segment from x to u, by its first numbers, is cut at c. -/
def cutB (x u c : Int) : Bool := (decide (x < c) && decide (c < u)) || (decide (u < c) && decide (c < x))
theorem cutB_iff (x u c : Int) : cutB x u c = true ↔ (x < c ∧ c < u) ∨ (u < c ∧ c < x) := by simp [cutB]
/-- The other number, rounded. -/
def cutI (x y u v c : Int) : Int := if u - x < 0 then rdP (-(y * (u - c) + v * (c - x))) (-(u - x)) else rdP (y * (u - c) + v * (c - x)) (u - x)
theorem cutI_up {x y u v c : Int} (h : x < u) : cutI x y u v c = y + rdP ((v - y) * (c - x)) (u - x) := by
  unfold cutI
  rw [if_neg (by omega), ← rd_add _ _ _ (by omega)]
  congr 1
  grind
theorem cutI_dn {x y u v c : Int} (h : u < x) : cutI x y u v c = y + rdP ((v - y) * (x - c)) (x - u) := by
  unfold cutI
  rw [if_pos (by omega), ← rd_add _ _ _ (by omega)]
  have : -(u - x) = x - u := by omega
  rw [this]
  congr 1
  grind
theorem cutI_flip {x y u v c : Int} (h : x ≠ u) : cutI u v x y c = cutI x y u v c := by
  unfold cutI
  rcases Int.lt_or_gt_of_ne h with k | k
  · rw [if_pos (by omega), if_neg (by omega)]
    have e1 : -(v * (x - c) + y * (c - u)) = y * (u - c) + v * (c - x) := by grind
    have e2 : -(x - u) = u - x := by omega
    rw [e1, e2]
  · rw [if_neg (by omega), if_pos (by omega)]
    have e1 : v * (x - c) + y * (c - u) = -(y * (u - c) + v * (c - x)) := by grind
    have e2 : x - u = -(u - x) := by omega
    rw [e1, e2]
theorem cutI_move (x y u v c s t : Int) : cutI (x + s) (y + t) (u + s) (v + t) (c + s) = if x = u then cutI (x + s) (y + t) (u + s) (v + t) (c + s) else cutI x y u v c + t := by
  split
  · rfl
  · rename_i h
    rcases Int.lt_or_gt_of_ne h with k | k
    · rw [cutI_up (by omega), cutI_up k]
      have e1 : v + t - (y + t) = v - y := by omega
      have e2 : c + s - (x + s) = c - x := by omega
      have e3 : u + s - (x + s) = u - x := by omega
      rw [e1, e2, e3]; omega
    · rw [cutI_dn (by omega), cutI_dn k]
      have e1 : v + t - (y + t) = v - y := by omega
      have e2 : x + s - (c + s) = x - c := by omega
      have e3 : x + s - (u + s) = x - u := by omega
      rw [e1, e2, e3]; omega

/-- The rounded point N of D of the way from a to b. -/
def way (a b : Int × Int) (N D : Int) (p : Int × Int) : Prop := 0 < N ∧ N < D ∧ p.1 = a.1 + rdP ((b.1 - a.1) * N) D ∧ p.2 = a.2 + rdP ((b.2 - a.2) * N) D
def dist (a p : Int × Int) : Int := ((p.1 - a.1).natAbs : Int) + ((p.2 - a.2).natAbs : Int)

theorem coord (k N D N' D' : Int) (h0 : 0 < N) (h1 : N < D) (h0' : 0 < N') (h1' : N' < D') (h : N * D' ≤ N' * D) :
    (0 ≤ k ∧ 0 ≤ rdP (k * N) D ∧ rdP (k * N) D ≤ rdP (k * N') D' ∧ rdP (k * N') D' ≤ k) ∨ (k ≤ 0 ∧ k ≤ rdP (k * N') D' ∧ rdP (k * N') D' ≤ rdP (k * N) D ∧ rdP (k * N) D ≤ 0) := by
  have z : rdP 0 1 = 0 := rd_one 0
  rcases Int.lt_or_le k 0 with hk | hk
  · right
    refine ⟨by omega, ?_, ?_, ?_⟩
    · have := rd_mono (n1 := k) (d1 := 1) (n2 := k * N') (d2 := D') (by omega) (by omega) (by
        have := Int.mul_le_mul_of_nonpos_left (a := k) (by omega) (show N' ≤ D' by omega); omega)
      rw [rd_one] at this; exact this
    · refine rd_mono (by omega) (by omega) ?_
      have := Int.mul_le_mul_of_nonpos_left (a := k) (by omega) h
      rw [Int.mul_assoc, Int.mul_assoc]; exact this
    · have := rd_mono (n1 := k * N) (d1 := D) (n2 := 0) (d2 := 1) (by omega) (by omega) (by
        have := Int.mul_nonpos_of_nonpos_of_nonneg (show k ≤ 0 by omega) (show 0 ≤ N by omega); omega)
      omega
  · left
    refine ⟨by omega, ?_, ?_, ?_⟩
    · have := rd_mono (n1 := 0) (d1 := 1) (n2 := k * N) (d2 := D) (by omega) (by omega) (by
        have := Int.mul_nonneg hk (show 0 ≤ N by omega); omega)
      omega
    · refine rd_mono (by omega) (by omega) ?_
      have := Int.mul_le_mul_of_nonneg_left h hk
      rw [Int.mul_assoc, Int.mul_assoc]; exact this
    · have := rd_mono (n1 := k * N') (d1 := D') (n2 := k) (d2 := 1) (by omega) (by omega) (by
        have := Int.mul_le_mul_of_nonneg_left (show N' ≤ D' by omega) hk; omega)
      rw [rd_one] at this; exact this

/-- Farther by the way: farther by both numbers. -/
theorem way_le {a b p q : Int × Int} {N D N' D' : Int} (hp : way a b N D p) (hq : way a b N' D' q) (h : N * D' ≤ N' * D) :
    ((a.1 ≤ p.1 ∧ p.1 ≤ q.1 ∧ q.1 ≤ b.1) ∨ (b.1 ≤ q.1 ∧ q.1 ≤ p.1 ∧ p.1 ≤ a.1)) ∧ ((a.2 ≤ p.2 ∧ p.2 ≤ q.2 ∧ q.2 ≤ b.2) ∨ (b.2 ≤ q.2 ∧ q.2 ≤ p.2 ∧ p.2 ≤ a.2)) := by
  obtain ⟨h0, h1, h2, h3⟩ := hp
  obtain ⟨k0, k1, k2, k3⟩ := hq
  have cx := coord (b.1 - a.1) N D N' D' h0 h1 k0 k1 h
  have cy := coord (b.2 - a.2) N D N' D' h0 h1 k0 k1 h
  omega
/-- Between, in both numbers. -/
def mid (a p q : Int × Int) : Prop := ((a.1 ≤ p.1 ∧ p.1 ≤ q.1) ∨ (q.1 ≤ p.1 ∧ p.1 ≤ a.1)) ∧ ((a.2 ≤ p.2 ∧ p.2 ≤ q.2) ∨ (q.2 ≤ p.2 ∧ p.2 ≤ a.2))
theorem mid_dist {a p q : Int × Int} (h : mid a p q) : dist a p ≤ dist a q ∧ (dist a p = dist a q → p = q) ∧ dist a p + dist p q = dist a q := by
  unfold mid at h; unfold dist
  refine ⟨by omega, fun e => Prod.ext (by omega) (by omega), by omega⟩
theorem way_mid {a b p q : Int × Int} {N D N' D' : Int} (hp : way a b N D p) (hq : way a b N' D' q) (h : N * D' ≤ N' * D) : mid a p q ∧ mid a q b := by
  have := way_le hp hq h
  unfold mid
  omega
theorem way_in {a b p : Int × Int} {N D : Int} (hp : way a b N D p) : mid a p b := (way_mid hp hp (Int.le_refl _)).2
/-- Of two cuts one lies between the first end and the other. -/
theorem way_chain {a b p q : Int × Int} {N D N' D' : Int} (hp : way a b N D p) (hq : way a b N' D' q) : mid a p q ∨ mid a q p := by
  rcases Int.le_total (N * D') (N' * D) with h | h
  · exact .inl (way_mid hp hq h).1
  · exact .inr (way_mid hq hp h).1

def xCut (a b : Int × Int) (c : Int) : Option (Int × Int) := if cutB a.1 b.1 c then some (c, cutI a.1 a.2 b.1 b.2 c) else none
def yCut (a b : Int × Int) (c : Int) : Option (Int × Int) := if cutB a.2 b.2 c then some (cutI a.2 a.1 b.2 b.1 c, c) else none
/-- Each line's cut. -/
def rawL (a b : Int × Int) (xs ys : List Int) : List (Int × Int) := xs.filterMap (xCut a b) ++ ys.filterMap (yCut a b)

theorem xCut_way {a b p : Int × Int} {c : Int} (h : xCut a b c = some p) : ∃ N D, way a b N D p ∧ p.1 = c ∧ ((a.1 < c ∧ c < b.1) ∨ (b.1 < c ∧ c < a.1)) ∧ N = ((c - a.1).natAbs : Int) ∧ D = ((b.1 - a.1).natAbs : Int) := by
  unfold xCut at h
  cases hc : cutB a.1 b.1 c
  · rw [hc] at h; simp at h
  · rw [hc] at h
    simp at h
    subst h
    have hc' := (cutB_iff _ _ _).1 hc
    rcases hc' with ⟨k1, k2⟩ | ⟨k1, k2⟩
    · refine ⟨c - a.1, b.1 - a.1, ⟨by omega, by omega, ?_, ?_⟩, rfl, by omega, by omega, by omega⟩
      · show c = _
        rw [Int.mul_comm, rd_mul _ _ (by omega)]; omega
      · exact cutI_up (by omega)
    · refine ⟨a.1 - c, a.1 - b.1, ⟨by omega, by omega, ?_, ?_⟩, rfl, by omega, by omega, by omega⟩
      · show c = _
        have e : (b.1 - a.1) * (a.1 - c) = (c - a.1) * (a.1 - b.1) := by grind
        rw [e, rd_mul _ _ (by omega)]; omega
      · exact cutI_dn (by omega)
theorem yCut_x (a b : Int × Int) (c : Int) : yCut a b c = (xCut (a.2, a.1) (b.2, b.1) c).map fun p => (p.2, p.1) := by
  unfold yCut xCut
  split <;> rfl
theorem yCut_way {a b p : Int × Int} {c : Int} (h : yCut a b c = some p) : ∃ N D, way a b N D p ∧ p.2 = c ∧ ((a.2 < c ∧ c < b.2) ∨ (b.2 < c ∧ c < a.2)) ∧ N = ((c - a.2).natAbs : Int) ∧ D = ((b.2 - a.2).natAbs : Int) := by
  rw [yCut_x, Option.map_eq_some_iff] at h
  obtain ⟨q, hq, rfl⟩ := h
  obtain ⟨N, D, ⟨h0, h1, h2, h3⟩, e, hc, hn, hd⟩ := xCut_way hq
  exact ⟨N, D, ⟨h0, h1, h3, h2⟩, e, hc, hn, hd⟩
theorem raw_way {a b p : Int × Int} {xs ys : List Int} (h : p ∈ rawL a b xs ys) : ∃ N D, way a b N D p := by
  unfold rawL at h
  rw [List.mem_append, List.mem_filterMap, List.mem_filterMap] at h
  rcases h with ⟨c, _, h⟩ | ⟨c, _, h⟩
  · obtain ⟨N, D, h, _⟩ := xCut_way h; exact ⟨N, D, h⟩
  · obtain ⟨N, D, h, _⟩ := yCut_way h; exact ⟨N, D, h⟩
/-- No cut is an end. -/
theorem raw_ne {a b p : Int × Int} {xs ys : List Int} (h : p ∈ rawL a b xs ys) : p ≠ a ∧ p ≠ b := by
  unfold rawL at h
  rw [List.mem_append, List.mem_filterMap, List.mem_filterMap] at h
  rcases h with ⟨c, _, h⟩ | ⟨c, _, h⟩
  · obtain ⟨_, _, _, e, hc, _⟩ := xCut_way h
    constructor <;> (rintro rfl; omega)
  · obtain ⟨_, _, _, e, hc, _⟩ := yCut_way h
    constructor <;> (rintro rfl; omega)
theorem raw_chain {a b p q : Int × Int} {xs ys : List Int} (hp : p ∈ rawL a b xs ys) (hq : q ∈ rawL a b xs ys) : mid a p q ∨ mid a q p := by
  obtain ⟨_, _, h1⟩ := raw_way hp
  obtain ⟨_, _, h2⟩ := raw_way hq
  exact way_chain h1 h2
theorem raw_same {a b p q : Int × Int} {xs ys : List Int} (hp : p ∈ rawL a b xs ys) (hq : q ∈ rawL a b xs ys) (h : dist a p = dist a q) : p = q := by
  rcases raw_chain hp hq with k | k
  · exact (mid_dist k).2.1 h
  · exact ((mid_dist k).2.1 h.symm).symm

/-- The cuts, from a to b. -/
def IsCuts (a b : Int × Int) (xs ys : List Int) (L : List (Int × Int)) : Prop := L.Pairwise (fun p q => dist a p < dist a q) ∧ ∀ p, p ∈ L ↔ p ∈ rawL a b xs ys

theorem rising_same {α : Type} (f : α → Int) : ∀ (L M : List α), L.Pairwise (fun p q => f p < f q) → M.Pairwise (fun p q => f p < f q) → (∀ p, p ∈ L ↔ p ∈ M) → L = M
  | [], [], _, _, _ => rfl
  | [], q :: M, _, _, h => by have := (h q).2 (by simp); simp at this
  | p :: L, [], _, _, h => by have := (h p).1 (by simp); simp at this
  | p :: L, q :: M, hL, hM, h => by
    rw [List.pairwise_cons] at hL hM
    have e : p = q := by
      have h1 := (h p).1 (by simp)
      have h2 := (h q).2 (by simp)
      rw [List.mem_cons] at h1 h2
      rcases h1 with h1 | h1
      · exact h1
      · rcases h2 with h2 | h2
        · exact h2.symm
        · have := hM.1 p h1
          have := hL.1 q h2
          omega
    subst e
    have := rising_same f L M hL.2 hM.2 (fun x => by
      have hx := h x
      rw [List.mem_cons, List.mem_cons] at hx
      constructor
      · intro k
        rcases hx.1 (.inr k) with rfl | m
        · have := hL.1 _ k; omega
        · exact m
      · intro k
        rcases hx.2 (.inr k) with rfl | m
        · have := hM.1 _ k; omega
        · exact m)
    rw [this]
theorem cuts_same {a b : Int × Int} {xs ys : List Int} {L M : List (Int × Int)} (hL : IsCuts a b xs ys L) (hM : IsCuts a b xs ys M) : L = M :=
  rising_same (dist a) L M hL.1 hM.1 (fun p => (hL.2 p).trans (hM.2 p).symm)

/-- One more, where they are gone through in order. -/
def Half (a : Int × Int) (S : List (Int × Int)) (L : List (Int × Int)) (h : Int × Int) : Prop :=
  L.Pairwise (fun p q => dist a p < dist a q) ∧ (∀ p, p ∈ L ↔ p ∈ S) ∧ ((h = a ∧ L = []) ∨ (h ≠ a ∧ h ∈ L ∧ ∀ p ∈ L, dist a p ≤ dist a h))
theorem Half.start (a : Int × Int) : Half a [] [] a := ⟨.nil, fun _ => Iff.rfl, .inl ⟨rfl, rfl⟩⟩
theorem Half.skip {a h : Int × Int} {S L : List (Int × Int)} (hh : Half a S L h) (hne : h ≠ a) : Half a (S ++ [h]) L h := by
  obtain ⟨h1, h2, h3⟩ := hh
  refine ⟨h1, fun p => ?_, h3⟩
  rcases h3 with ⟨e, _⟩ | ⟨_, hm, _⟩
  · exact absurd e hne
  · rw [List.mem_append, h2, List.mem_singleton]
    exact ⟨.inl, fun k => k.elim id (fun e => e ▸ (h2 h).1 hm)⟩
theorem Half.more {a h p : Int × Int} {S L : List (Int × Int)} (hh : Half a S L h) (hp : p ≠ a) (hlt : h ≠ a → dist a h < dist a p) : Half a (S ++ [p]) (L ++ [p]) p := by
  obtain ⟨h1, h2, h3⟩ := hh
  have all : ∀ q ∈ L, dist a q < dist a p := by
    intro q hq
    rcases h3 with ⟨_, e⟩ | ⟨hn, hm, hl⟩
    · subst e; cases hq
    · have := hl q hq
      have := hlt hn
      omega
  refine ⟨?_, fun q => ?_, .inr ⟨hp, by simp, fun q hq => ?_⟩⟩
  · rw [List.pairwise_append]
    exact ⟨h1, by simp, fun x hx y hy => by rw [List.mem_singleton] at hy; subst hy; exact all x hx⟩
  · rw [List.mem_append, List.mem_append, h2]
  · rw [List.mem_append, List.mem_singleton] at hq
    rcases hq with hq | rfl
    · exact Int.le_of_lt (all q hq)
    · exact Int.le_refl _
theorem Half.mem {a h : Int × Int} {S L : List (Int × Int)} (hh : Half a S L h) : h = a ∨ h ∈ S := by
  rcases hh.2.2 with ⟨e, _⟩ | ⟨_, hm, _⟩
  · exact .inl e
  · exact .inr ((hh.2.1 h).1 hm)
/-- A step: the next of a list of cuts that rises (not strictly). -/
theorem Half.step {a b h p : Int × Int} {xs ys : List Int} {S L : List (Int × Int)} (hh : Half a S L h) (hS : ∀ q ∈ S, q ∈ rawL a b xs ys ∧ dist a q ≤ dist a p) (hp : p ∈ rawL a b xs ys) :
    (p = h → Half a (S ++ [p]) L h) ∧ (p ≠ h → Half a (S ++ [p]) (L ++ [p]) p) := by
  have hpa := (raw_ne hp).1
  constructor
  · rintro rfl; exact hh.skip hpa
  · intro hne
    refine hh.more hpa (fun hn => ?_)
    rcases hh.mem with e | m
    · exact absurd e hn
    · obtain ⟨hr, hle⟩ := hS h m
      rcases Int.lt_or_eq_of_le hle with k | k
      · exact k
      · exact absurd (raw_same hr hp k).symm hne
theorem Half.cuts {a b h : Int × Int} {xs ys : List Int} {S L : List (Int × Int)} (hh : Half a S L h) (hS : ∀ p, p ∈ S ↔ p ∈ rawL a b xs ys) : IsCuts a b xs ys L :=
  ⟨hh.1, fun p => (hh.2.1 p).trans (hS p)⟩
end Go.Proofs.Ytmhmccicnebhaaa
