/- Walks of Ofs, and of All over what it made. -/
import Derived.Test.YtenfaejdnphngaaBox
import Derived.Laws.AppendOwn
namespace Go.Proofs.Ytenfaejdnphngaa
open Go.RowKit

/-- The numbers of the points up to place k, one behind the other. -/
def pts (f g : Nat → Int) (k : Nat) : List Value := (List.range k).flatMap fun j => [.int .i64 (f j), .int .i64 (g j)]
theorem pts_succ (f g : Nat → Int) (k : Nat) : pts f g (k + 1) = pts f g k ++ [.int .i64 (f k), .int .i64 (g k)] := by
  simp [pts, List.range_succ]
theorem pts_length (f g : Nat → Int) : ∀ k, (pts f g k).length = k * 2
  | 0 => rfl
  | k + 1 => by rw [pts_succ, List.length_append, pts_length f g k]; simp; omega
theorem pts_at (f g : Nat → Int) : ∀ (k i : Nat), i < k → (pts f g k)[i * 2]? = some (.int .i64 (f i)) ∧ (pts f g k)[i * 2 + 1]? = some (.int .i64 (g i))
  | 0, i, h => absurd h (by omega)
  | k + 1, i, h => by
    rw [pts_succ]
    by_cases e : i = k
    · subst e
      have hl := pts_length f g i
      constructor
      · rw [List.getElem?_append_right (by omega), hl]; simp
      · rw [List.getElem?_append_right (by omega), hl]; simp
    · obtain ⟨h0, h1⟩ := pts_at f g k i (by omega)
      have hl := pts_length f g k
      exact ⟨by rw [List.getElem?_append_left (by omega)]; exact h0, by rw [List.getElem?_append_left (by omega)]; exact h1⟩
/-- What is owned stays owned below. -/
theorem own_keep {W w1 : World} {base : Nat} {e : TypeId} {size : Nat} {v : Value} {n : Nat} {xs : List Value} (hb : Below W.heap.size W w1) (h : W.ownsRow base e size v n xs) : w1.ownsRow base e size v n xs := by
  obtain ⟨h0, h1⟩ := h
  refine ⟨h0, ?_⟩
  rcases h1 with h1 | ⟨g, cap, cur, hv, hg, hc, r⟩
  · exact .inl h1
  · refine .inr ⟨g, cap, cur, hv, hg, ?_, r⟩
    have hl : g < W.heap.size := by
      rcases Nat.lt_or_ge g W.heap.size with k | k
      · exact k
      · rw [Array.getElem?_eq_none (by simpa using k)] at hc; cases hc
    rw [hb.block g hl]; exact hc

def OfsPost (f g : Nat → Int) (n : Nat) (w : World) (e : Ending) (w' : World) : Prop :=
  ∃ v : Value, e = .returned v ∧ w'.ownsRow w.heap.size 36 2 v n (pts f g n) ∧ Below w.heap.size w w'
theorem infoP : (Try.prog.info? 36).map (fun i => (i.zero, i.size, i.bytes)) = some (some (.agg #[.int .i64 0, .int .i64 0]), 2, 16) := by kernel_rfl

set_option maxHeartbeats 2000000 in
theorem ofs_any (b off n cap : Nat) (f g : Nat → Int) (w : World) (hn : n ≤ 50) (hs : Hid (Sl w b off n f g)) :
    Calls Try.prog 11 #[.slice (some ⟨b, off, none⟩) n cap] w (OfsPost f g n w) := by
  obtain ⟨i0, hi, hz0, hz1, hz2⟩ := info_parts infoP
  go_enter Try.func11, Try.ntmps11
  go_wp2
  go_loopw [3, 4] (fun v i wr => ∃ k : Nat, k ≤ n ∧ i = .int .i64 k ∧ wr.ownsRow w.heap.size 36 2 v k (pts f g k) ∧ Below w.heap.size w wr) (fun _ i _ => n - (intOf i).toNat)
  case atStart => exact ⟨0, by omega, rfl, ⟨rfl, .inl ⟨rfl, rfl⟩⟩, Below.refl _ _⟩
  case round =>
    rename_i v wr
    obtain ⟨k, hk, rfl, hown, hbe⟩ := hrel
    by_cases hlt : k < n
    · obtain ⟨c0, c1⟩ := (hs.out.keep hbe).2 k hlt
      have HO := Lib.hid hown
      have HB := Lib.hid hbe
      clear hown hbe
      go_wp2_with fail
      refine (of_any _ _ _).mono ?_
      rintro e w1 ⟨rfl, hb1⟩
      have HO1 := Lib.hid (own_keep (hb1.trans (b1 w1 (.cells #[.int .i64 (f k), .int .i64 (g k)] 36) |>.mono hb1.size)) HO.out)
      go_wp2_with (at_builtin; refine wpList_append_own _ rfl (.tmp 11) (.tmp 17) 29 rfl w.heap.size 36 i0 (.agg #[.int .i64 0, .int .i64 0]) 2 16 Try.underlying29 hi hz0 hz1 hz2 rfl (by decide) _ k (pts f g k) rfl HO1.out ⟨w1.heap.size, 0, none⟩ 1 1 [.int .i64 (f k), .int .i64 (g k)] rfl rfl ?c1 ?c2 ?c3 ?c4 ?c5 ?_)
      case c1 =>
        intro j u hj
        match j, hj with
        | 0, hj => simp at hj; subst hj; go_simp
        | 1, hj => simp at hj; subst hj; go_simp
      case c2 => intro u hu; simp at hu; rcases hu with rfl | rfl <;> rfl
      case c3 => unfold maxLen; omega
      case c4 => omega
      case c5 => have := HB.out.size; have := hb1.size; simp; omega
      intro v' w2 hown' hgrow _
      have hB2 : Below w.heap.size w w2 := ((HB.out.trans (hb1.mono HB.out.size)).alloc (by have := HB.out.size; have := hb1.size; omega) _).grown hgrow (by have := HB.out.size; have := hb1.size; simp; omega) (by
        intro q hq
        rcases HO1.out.2 with ⟨hv, _⟩ | ⟨g', cap', cur', hv, hg', _⟩
        · rw [hv] at hq; cases hq
        · rw [hv] at hq; simp only [Value.ownBlock, Option.some.injEq] at hq; omega)
      rw [← pts_succ] at hown'
      have HO2 := Lib.hid hown'
      have HB2 := Lib.hid hB2
      clear hown' hgrow hB2
      go_wp2
      go_roundw
      case rel => exact ⟨k + 1, by omega, by go_num, HO2.out, HB2.out⟩
      case measure => simp [intOf]; omega
    · obtain rfl : k = n := by omega
      go_wp2
      go_ret
      exact ⟨_, rfl, hown, hbe⟩

/-- All over the points that were made. -/
theorem all_own {W : World} {base n : Nat} {v : Value} {f g : Nat → Int} (h : W.ownsRow base 36 2 v n (pts f g n)) :
    Calls Try.prog 12 #[v] W fun e w' => e = .returned (.bool (pall n f g)) ∧ Below W.heap.size W w' := by
  obtain ⟨_, h1⟩ := h
  rcases h1 with ⟨rfl, rfl⟩ | ⟨k, cap, cur, rfl, _, hc, hn, hm, hz, ht⟩
  · exact (all_nil W).mono fun e w' ⟨he, hw⟩ => ⟨he, hw ▸ Below.refl _ _⟩
  · have cell : ∀ (o : Nat) (x : Value), o < n * 2 → (pts f g n)[o]? = some x → W.cell? ⟨k, o, none⟩ = some x := by
      intro o x ho hx
      rw [← ht, List.getElem?_take_of_lt ho] at hx
      have hx' : cur[o]? = some x := by rw [← Array.getElem?_toList]; exact hx
      simp [World.cell?, hc, hx']
    have hb : k < W.heap.size := by
      rcases Nat.lt_or_ge k W.heap.size with q | q
      · exact q
      · rw [Array.getElem?_eq_none (by simpa using q)] at hc; cases hc
    refine all_any k 0 n cap f g W (by unfold maxLen at hm; omega) hb ?_ ?_
    · intro i hi
      rw [Nat.zero_add]
      exact cell _ _ (by omega) (pts_at f g n i hi).1
    · intro i hi
      rw [Nat.zero_add]
      exact cell _ _ (by omega) (pts_at f g n i hi).2
end Go.Proofs.Ytenfaejdnphngaa
