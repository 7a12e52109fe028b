/- Plain facts on cuts: from the other end, moved; pieces lie between lines; a list in order of the way. Nothing of the program. -/
import Derived.Test.YtmhmccicnebhaaaCutGeo
import Derived.Test.YtmhmccicnebhaaaGeo
namespace Go.Proofs.Ytmhmccicnebhaaa

theorem xCut_flip (a b : Int × Int) (c : Int) : xCut b a c = xCut a b c := by
  unfold xCut
  have e : cutB b.1 a.1 c = cutB a.1 b.1 c := by rw [Bool.eq_iff_iff, cutB_iff, cutB_iff]; omega
  rw [e]
  cases h : cutB a.1 b.1 c
  · rfl
  · rw [cutB_iff] at h
    rw [cutI_flip (by omega)]
theorem yCut_flip (a b : Int × Int) (c : Int) : yCut b a c = yCut a b c := by
  rw [yCut_x, yCut_x, xCut_flip]
theorem raw_flip (a b : Int × Int) (xs ys : List Int) : rawL b a xs ys = rawL a b xs ys := by
  unfold rawL
  rw [show xCut b a = xCut a b from funext (xCut_flip a b), show yCut b a = yCut a b from funext (yCut_flip a b)]
theorem dist_comm (p q : Int × Int) : dist p q = dist q p := by unfold dist; omega
theorem cuts_turn {a b : Int × Int} {xs ys : List Int} {L : List (Int × Int)} (h : IsCuts a b xs ys L) : IsCuts b a xs ys L.reverse := by
  refine ⟨?_, fun p => by rw [List.mem_reverse, raw_flip]; exact h.2 p⟩
  rw [List.pairwise_reverse]
  refine h.1.imp_of_mem (fun {p q} hp hq k => ?_)
  obtain ⟨_, _, hp⟩ := raw_way ((h.2 p).1 hp)
  obtain ⟨_, _, hq⟩ := raw_way ((h.2 q).1 hq)
  have e1 := (mid_dist (way_in hp)).2.2
  have e2 := (mid_dist (way_in hq)).2.2
  rw [dist_comm b q, dist_comm b p]
  omega

def mv (d p : Int × Int) : Int × Int := (p.1 + d.1, p.2 + d.2)
theorem xCut_move (a b d : Int × Int) (c : Int) : xCut (mv d a) (mv d b) (c + d.1) = (xCut a b c).map (mv d) := by
  unfold xCut mv
  have e : cutB (a.1 + d.1) (b.1 + d.1) (c + d.1) = cutB a.1 b.1 c := by rw [Bool.eq_iff_iff, cutB_iff, cutB_iff]; omega
  rw [e]
  cases h : cutB a.1 b.1 c
  · rfl
  · rw [cutB_iff] at h
    simp only [if_true, Option.map_some]
    rw [cutI_move, if_neg (by omega)]
theorem yCut_move (a b d : Int × Int) (c : Int) : yCut (mv d a) (mv d b) (c + d.2) = (yCut a b c).map (mv d) := by
  rw [yCut_x, yCut_x]
  have := xCut_move (a.2, a.1) (b.2, b.1) (d.2, d.1) c
  unfold mv at *
  rw [this, Option.map_map, Option.map_map]
  rfl
theorem raw_move (a b d : Int × Int) (xs ys : List Int) : rawL (mv d a) (mv d b) (xs.map (· + d.1)) (ys.map (· + d.2)) = (rawL a b xs ys).map (mv d) := by
  unfold rawL
  rw [List.filterMap_map, List.filterMap_map, List.map_append, List.map_filterMap, List.map_filterMap]
  congr 1
  · congr 1; funext c; exact xCut_move a b d c
  · congr 1; funext c; exact yCut_move a b d c
theorem dist_move (d p q : Int × Int) : dist (mv d p) (mv d q) = dist p q := by unfold dist mv; simp only []; omega
theorem mv_inj {d p q : Int × Int} (h : mv d p = mv d q) : p = q := by
  unfold mv at h; injection h with h1 h2; exact Prod.ext (by omega) (by omega)
theorem cuts_move {a b : Int × Int} {xs ys : List Int} {L : List (Int × Int)} (d : Int × Int) (h : IsCuts a b xs ys L) : IsCuts (mv d a) (mv d b) (xs.map (· + d.1)) (ys.map (· + d.2)) (L.map (mv d)) := by
  refine ⟨?_, fun p => ?_⟩
  · rw [List.pairwise_map]
    exact h.1.imp (fun {p q} k => by rw [dist_move, dist_move]; exact k)
  · rw [raw_move, List.mem_map, List.mem_map]
    constructor
    · rintro ⟨q, hq, rfl⟩; exact ⟨q, (h.2 q).1 hq, rfl⟩
    · rintro ⟨q, hq, rfl⟩; exact ⟨q, (h.2 q).2 hq, rfl⟩

/-- All, with both ends. -/
def allP (a b : Int × Int) (L : List (Int × Int)) : List (Int × Int) := a :: (L ++ [b])
theorem mid_a (a q : Int × Int) : mid a a q := by unfold mid; omega
theorem mid_b (a q : Int × Int) : mid a q q := by unfold mid; omega
theorem dist_self (a : Int × Int) : dist a a = 0 := by unfold dist; omega
theorem dist_nn (a p : Int × Int) : 0 ≤ dist a p := by unfold dist; omega
theorem far1 {a p q r : Int} (h1 : (a ≤ p ∧ p ≤ r) ∨ (r ≤ p ∧ p ≤ a)) (h2 : (a ≤ q ∧ q ≤ r) ∨ (r ≤ q ∧ q ≤ a)) (h : (p < r ∧ r < q) ∨ (q < r ∧ r < p)) : False := by omega
theorem far2 {a b p q r : Int} (h1 : (a ≤ r ∧ r ≤ p) ∨ (p ≤ r ∧ r ≤ a)) (h2 : (a ≤ r ∧ r ≤ q) ∨ (q ≤ r ∧ r ≤ a)) (h3 : (a ≤ p ∧ p ≤ b) ∨ (b ≤ p ∧ p ≤ a)) (h4 : (a ≤ q ∧ q ≤ b) ∨ (b ≤ q ∧ q ≤ a)) (h : (p < r ∧ r < q) ∨ (q < r ∧ r < p)) : False := by omega
section
variable {a b : Int × Int} {xs ys : List Int} {L : List (Int × Int)} (h : IsCuts a b xs ys L)
include h
theorem all_mem {p : Int × Int} (hp : p ∈ allP a b L) : p = a ∨ p = b ∨ p ∈ rawL a b xs ys := by
  unfold allP at hp
  rw [List.mem_cons, List.mem_append, List.mem_singleton] at hp
  rcases hp with rfl | hp | rfl
  · exact .inl rfl
  · exact .inr (.inr ((h.2 p).1 hp))
  · exact .inr (.inl rfl)
theorem all_in {p : Int × Int} (hp : p ∈ allP a b L) : mid a p b := by
  rcases all_mem h hp with rfl | rfl | hp
  · exact mid_a _ _
  · exact mid_b _ _
  · obtain ⟨_, _, hw⟩ := raw_way hp; exact way_in hw
theorem all_chain {p r : Int × Int} (hp : p ∈ allP a b L) (hr : r ∈ rawL a b xs ys) : mid a p r ∨ mid a r p := by
  rcases all_mem h hp with rfl | rfl | hp
  · exact .inl (mid_a _ _)
  · obtain ⟨_, _, hw⟩ := raw_way hr; exact .inr (way_in hw)
  · exact raw_chain hp hr
theorem all_rise : (allP a b L).Pairwise (fun p q => dist a p ≤ dist a q) := by
  unfold allP
  rw [List.pairwise_cons, List.pairwise_append]
  refine ⟨fun q _ => by rw [dist_self]; exact dist_nn _ _, h.1.imp (fun {p q} k => Int.le_of_lt k), by simp, fun p hp q hq => ?_⟩
  rw [List.mem_singleton] at hq
  subst hq
  obtain ⟨_, _, hw⟩ := raw_way ((h.2 p).1 hp)
  exact (mid_dist (way_in hw)).1
/-- No cut's way lies between two that are one behind the other. -/
theorem all_gap {i : Nat} (hi : i + 1 < (allP a b L).length) {r : Int × Int} (hr : r ∈ rawL a b xs ys) :
    ¬ (dist a (allP a b L)[i] < dist a r ∧ dist a r < dist a (allP a b L)[i + 1]) := by
  rintro ⟨k1, k2⟩
  have hm : r ∈ allP a b L := by
    unfold allP
    rw [List.mem_cons, List.mem_append]
    exact .inr (.inl ((h.2 r).2 hr))
  obtain ⟨j, hj, rfl⟩ := List.getElem_of_mem hm
  have hs := List.pairwise_iff_getElem.1 (all_rise h)
  rcases Nat.lt_trichotomy j i with q | q | q
  · have := hs j i hj (by omega) q; omega
  · subst q; omega
  · rcases Nat.lt_or_eq_of_le (show i + 1 ≤ j from q) with m | m
    · have := hs (i + 1) j hi hj m; omega
    · subst m; omega
theorem pieces_gap {i : Nat} (hi : i + 1 < (allP a b L).length) {r : Int × Int} (hr : r ∈ rawL a b xs ys)
    (hx : ((allP a b L)[i].1 < r.1 ∧ r.1 < (allP a b L)[i + 1].1) ∨ ((allP a b L)[i + 1].1 < r.1 ∧ r.1 < (allP a b L)[i].1) ∨ ((allP a b L)[i].2 < r.2 ∧ r.2 < (allP a b L)[i + 1].2) ∨ ((allP a b L)[i + 1].2 < r.2 ∧ r.2 < (allP a b L)[i].2)) : False := by
  have hp : (allP a b L)[i] ∈ allP a b L := List.getElem_mem _
  have hq : (allP a b L)[i + 1] ∈ allP a b L := List.getElem_mem _
  have hg := all_gap h hi hr
  have hs := List.pairwise_iff_getElem.1 (all_rise h) i (i + 1) (by omega) hi (by omega)
  have c1 := all_chain h hp hr
  have c2 := all_chain h hq hr
  have i1 := all_in h hp
  have i2 := all_in h hq
  generalize (allP a b L)[i] = p at *
  generalize (allP a b L)[i + 1] = q at *
  rcases c1 with c1 | c1 <;> rcases c2 with c2 | c2
  · obtain ⟨x1, y1⟩ := c1
    obtain ⟨x2, y2⟩ := c2
    clear hs hg i1 i2 hp hq hr h
    rcases hx with hx | hx | hx | hx
    · exact far1 x1 x2 (.inl hx)
    · exact far1 x1 x2 (.inr hx)
    · exact far1 y1 y2 (.inl hx)
    · exact far1 y1 y2 (.inr hx)
  · have e1 := mid_dist c1
    have e2 := mid_dist c2
    rcases Int.lt_or_eq_of_le e1.1 with k | k
    · rcases Int.lt_or_eq_of_le e2.1 with m | m
      · exact hg ⟨k, m⟩
      · have := e2.2.1 m
        subst this
        clear hs hg i1 i2 hp hq hr h c1 c2 e1 e2
        omega
    · have := e1.2.1 k
      subst this
      clear hs hg i1 i2 hp hq hr h c1 c2 e1 e2
      omega
  · have e1 := mid_dist c1
    have e2 := mid_dist c2
    have k : dist a r = dist a p := by clear hx hp hq hr h hg; omega
    have := e1.2.1 k
    subst this
    clear hs hg i1 i2 hp hq hr h c1 c2 e1 e2
    omega
  · obtain ⟨x1, y1⟩ := c1
    obtain ⟨x2, y2⟩ := c2
    obtain ⟨x3, y3⟩ := i1
    obtain ⟨x4, y4⟩ := i2
    clear hs hg hp hq hr h
    rcases hx with hx | hx | hx | hx
    · exact far2 x1 x2 x3 x4 (.inl hx)
    · exact far2 x1 x2 x3 x4 (.inr hx)
    · exact far2 y1 y2 y3 y4 (.inl hx)
    · exact far2 y1 y2 y3 y4 (.inr hx)
/-- Between two lines next to each other lie both ends of each piece. -/
theorem pieces_x {i : Nat} (hi : i + 1 < (allP a b L).length) {c : Int} (hc : c ∈ xs) : ¬ (((allP a b L)[i].1 < c ∧ (allP a b L)[i + 1].1 > c) ∨ ((allP a b L)[i + 1].1 < c ∧ (allP a b L)[i].1 > c)) := by
  intro hx
  have hp := all_in h (p := (allP a b L)[i]) (List.getElem_mem _)
  have hq := all_in h (p := (allP a b L)[i + 1]) (List.getElem_mem _)
  have hb : cutB a.1 b.1 c = true := by rw [cutB_iff]; unfold mid at hp hq; omega
  have hr : (c, cutI a.1 a.2 b.1 b.2 c) ∈ rawL a b xs ys := by
    unfold rawL
    rw [List.mem_append, List.mem_filterMap]
    exact .inl ⟨c, hc, by unfold xCut; rw [hb]; rfl⟩
  exact pieces_gap h hi hr (by show _ ∨ _; simp only []; omega)
theorem pieces_y {i : Nat} (hi : i + 1 < (allP a b L).length) {c : Int} (hc : c ∈ ys) : ¬ (((allP a b L)[i].2 < c ∧ (allP a b L)[i + 1].2 > c) ∨ ((allP a b L)[i + 1].2 < c ∧ (allP a b L)[i].2 > c)) := by
  intro hx
  have hp := all_in h (p := (allP a b L)[i]) (List.getElem_mem _)
  have hq := all_in h (p := (allP a b L)[i + 1]) (List.getElem_mem _)
  have hb : cutB a.2 b.2 c = true := by rw [cutB_iff]; unfold mid at hp hq; omega
  have hr : (cutI a.2 a.1 b.2 b.1 c, c) ∈ rawL a b xs ys := by
    unfold rawL
    rw [List.mem_append, List.mem_filterMap, List.mem_filterMap]
    exact .inr ⟨c, hc, by unfold yCut; rw [hb]; rfl⟩
  exact pieces_gap h hi hr (by show _ ∨ _; simp only []; omega)
omit h in
theorem near_way {k N D r : Int} (hD : 1 ≤ D) (hr : r = rdP (k * N) D) : -D ≤ 2 * (D * r - k * N) ∧ 2 * (D * r - k * N) ≤ D := by
  subst hr
  have := rd_spec (k * N) D hD
  omega
/-- Each cut is near: half a unit at most. -/
theorem all_near {p : Int × Int} (hp : p ∈ allP a b L) : 2 * ((crI a.1 a.2 b.1 b.2 p.1 p.2).natAbs : Int) ≤ max ((a.1 - b.1).natAbs : Int) ((a.2 - b.2).natAbs : Int) := by
  rcases all_mem h hp with rfl | rfl | hp
  · have : crI p.1 p.2 b.1 b.2 p.1 p.2 = 0 := by unfold crI; grind
    omega
  · have : crI a.1 a.2 p.1 p.2 p.1 p.2 = 0 := by unfold crI; grind
    omega
  · unfold rawL at hp
    rw [List.mem_append, List.mem_filterMap, List.mem_filterMap] at hp
    unfold crI
    rcases hp with ⟨c, _, hp⟩ | ⟨c, _, hp⟩
    · obtain ⟨N, D, ⟨h0, h1, h2, h3⟩, e, hc, hn, hd⟩ := xCut_way hp
      have hw := near_way (k := b.2 - a.2) (N := N) (D := D) (by omega) rfl
      rcases hc with hc | hc
      · have e1 : b.1 - a.1 = D := by omega
        have e2 : p.1 - a.1 = N := by omega
        have e3 : p.2 - a.2 = rdP ((b.2 - a.2) * N) D := by omega
        rw [e1, e2, e3]
        omega
      · have e1 : b.1 - a.1 = -D := by omega
        have e2 : p.1 - a.1 = -N := by omega
        have e3 : p.2 - a.2 = rdP ((b.2 - a.2) * N) D := by omega
        rw [e1, e2, e3, Int.neg_mul, Int.mul_neg]
        omega
    · obtain ⟨N, D, ⟨h0, h1, h2, h3⟩, e, hc, hn, hd⟩ := yCut_way hp
      have hw := near_way (k := b.1 - a.1) (N := N) (D := D) (by omega) rfl
      rcases hc with hc | hc
      · have e1 : b.2 - a.2 = D := by omega
        have e2 : p.2 - a.2 = N := by omega
        have e3 : p.1 - a.1 = rdP ((b.1 - a.1) * N) D := by omega
        rw [e1, e2, e3]
        omega
      · have e1 : b.2 - a.2 = -D := by omega
        have e2 : p.2 - a.2 = -N := by omega
        have e3 : p.1 - a.1 = rdP ((b.1 - a.1) * N) D := by omega
        rw [e1, e2, e3, Int.neg_mul, Int.mul_neg]
        omega
end
end Go.Proofs.Ytmhmccicnebhaaa
