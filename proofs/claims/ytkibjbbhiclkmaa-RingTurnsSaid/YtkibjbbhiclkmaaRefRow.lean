/- Ofs and All over rings. -/
import Derived.Test.YtkibjbbhiclkmaaRing
import Derived.Test.YtkibjbbhiclkmaaOfs
namespace Go.Proofs.Ytkibjbbhiclkmaa
open Go.RowKit

theorem ofs_zero (p : Option Addr) (cap : Nat) (w : World) : Calls Try.prog 13 #[.slice p 0 cap] w fun e w' => e = .returned (.slice none 0 0) ∧ w' = w := by
  go_enter Try.func13, Try.ntmps13
  go_wp2
  go_loopw [3, 4] (fun v i wr => i = .int .i64 0 ∧ v = .slice none 0 0 ∧ wr = w) (fun _ _ _ => 0)
  case atStart => exact ⟨rfl, rfl, rfl⟩
  case round =>
    obtain ⟨rfl, rfl, rfl⟩ := hrel
    go_wp2
    go_ret
    exact ⟨rfl, rfl⟩
theorem all_zero (p : Option Addr) (cap : Nat) (w : World) : Calls Try.prog 15 #[.slice p 0 cap] w fun e w' => e = .returned (.bool true) ∧ w = w' := by
  go_enter Try.func15, Try.ntmps15
  go_wp2
  go_loop [3] (fun i => i = .int .i64 0) (fun _ => 0)
  case atStart => rfl
  case round =>
    subst hrel
    go_wp2
    go_ret
    exact ⟨rfl, rfl⟩
theorem pl_own {W : World} {base : Nat} {T : TypeId} {u : Value} {L : List (Int × Int)} (h : W.ownsRow base T 2 u L.length (pts (fun i => (ptA L i).1) (fun i => (ptA L i).2) L.length)) : PL W u L := by
  obtain ⟨_, h1⟩ := h
  rcases h1 with ⟨rfl, h0⟩ | ⟨k, cap, cur, rfl, _, hc, hn, hm, hz, ht⟩
  · refine ⟨none, 0, by rw [h0], by omega, fun i hi => by omega⟩
  · refine ⟨_, cap, rfl, hn, fun i hi => ⟨k, 0, rfl, (Array.getElem?_eq_some_iff.1 hc).1, ?_⟩⟩
    have cell : ∀ (o : Nat) (x : Value), o < L.length * 2 → (pts (fun i => (ptA L i).1) (fun i => (ptA L i).2) L.length)[o]? = some x → W.cell? ⟨k, o, none⟩ = some x := by
      intro o x ho hx
      rw [← ht, List.getElem?_take_of_lt ho] at hx
      have hx' : cur[o]? = some x := by rw [← Array.getElem?_toList]; exact hx
      simp [World.cell?, hc, hx']
    obtain ⟨e0, e1⟩ := pts_at (fun i => (ptA L i).1) (fun i => (ptA L i).2) L.length i hi
    rw [Nat.zero_add, ← ptA_at hi]
    exact ⟨cell _ _ (by omega) e0, cell _ _ (by omega) e1⟩
theorem ofs_pl {w : World} {v : Value} {L : List (Int × Int)} (hI : PL w v L) (hL : L.length ≤ 50) : Calls Try.prog 13 #[v] w fun e w' => ∃ u, e = .returned u ∧ PL w' u L ∧ Below w.heap.size w w' := by
  obtain ⟨p, cap, rfl, hc, hi⟩ := hI
  by_cases hz : L = []
  · subst hz
    refine (ofs_zero p cap w).mono ?_
    rintro e w' ⟨rfl, rfl⟩
    exact ⟨_, rfl, ⟨none, 0, rfl, by simp, fun i hi => absurd hi (by simp)⟩, Below.refl _ _⟩
  · obtain ⟨b, off, rfl, hb, _, _⟩ := hi 0 (List.length_pos_iff.2 hz)
    have hs : Sl w b off L.length (fun i => (ptA L i).1) (fun i => (ptA L i).2) := by
      refine ⟨hb, fun i hil => ?_⟩
      obtain ⟨b', off', e, _, c0, c1⟩ := hi i hil
      obtain ⟨rfl, rfl⟩ : b' = b ∧ off' = off := by injection e with e; injection e with e1 e2; exact ⟨e1.symm, e2.symm⟩
      simp only [ptA_at hil]; exact ⟨c0, c1⟩
    refine (ofs_any b off L.length cap _ _ w hL (Lib.hid hs)).mono ?_
    rintro e w' ⟨u, rfl, ho, hb⟩
    exact ⟨u, rfl, pl_own ho, hb⟩
theorem rall_pl {w : World} {v : Value} {L : List (Int × Int)} (hI : PL w v L) (hL : L.length ≤ 1000000) : Calls Try.prog 15 #[v] w fun e w' => e = .returned (.bool (okL L)) ∧ Below w.heap.size w w' := by
  obtain ⟨p, cap, rfl, hc, hi⟩ := hI
  rw [← okL_pall]
  by_cases hz : L = []
  · subst hz
    refine Calls.mono (all_zero p cap w) ?_
    rintro e w' ⟨rfl, rfl⟩
    exact ⟨rfl, Below.refl _ _⟩
  · obtain ⟨b, off, rfl, hb, _, _⟩ := hi 0 (List.length_pos_iff.2 hz)
    have key : ∀ i, i < L.length → w.cell? ⟨b, off + i * 2, none⟩ = some (.int .i64 (ptA L i).1) ∧ w.cell? ⟨b, off + i * 2 + 1, none⟩ = some (.int .i64 (ptA L i).2) := by
      intro i hil
      obtain ⟨b', off', e, _, c0, c1⟩ := hi i hil
      obtain ⟨rfl, rfl⟩ : b' = b ∧ off' = off := by injection e with e; injection e with e1 e2; exact ⟨e1.symm, e2.symm⟩
      rw [ptA_at hil]; exact ⟨c0, c1⟩
    exact all_any b off L.length cap _ _ w (by omega) hb (fun i hil => (key i hil).1) (fun i hil => (key i hil).2)
end Go.Proofs.Ytkibjbbhiclkmaa
