/- Walks: slices.Clone at entries, heap.Sort. -/
import Derived.Test.YtbdmmgplpndobaaHeapU
import Derived.Test.YtbdmmgplpndobaaEnSort
namespace Go.Proofs.Ytbdmmgplpndobaa
open Go.RowKit Go.Sort Go.Deep

theorem infoEn : (Try.prog.info? 31).map (fun i => (i.zero, i.size, i.bytes)) = some (some (.agg #[.int .i64 0, .int .i64 0, .int .i64 0]), 3, 24) := by kernel_rfl
theorem enCells_len (L : List E3) : (enCells L).length = L.length * 3 := flatMap_len encE3l_len L
theorem enCells_one (L : List E3) : ∀ u ∈ enCells L, u.oneCell' = true := by
  intro u hu
  unfold enCells at hu
  rw [List.mem_flatMap] at hu
  obtain ⟨e, _, he⟩ := hu
  simp [encE3l] at he
  rcases he with rfl | rfl | rfl <;> rfl
theorem EI.srcO {W : World} {hb g mb : Nat} {v : Value} {L : List E3} (h : EI W hb g mb v L) : SrcO W v L.length (enCells L) := by
  obtain ⟨q, c, rfl, hc, hi⟩ := h
  refine ⟨q, c, rfl, fun h0 => ?_⟩
  obtain ⟨k, o, rfl, _⟩ := hi 0 (by omega)
  refine ⟨k, o, rfl, fun j u hj => ?_⟩
  have hjl := (List.getElem?_eq_some_iff.1 hj).1
  rw [enCells_len] at hjl
  obtain ⟨k', o', e, _, _, _, c0, c1, c2⟩ := hi (j / 3) (by omega)
  cases e
  have hat := flatMap_at encE3l_len L (j / 3) (j % 3) (by omega) (by omega)
  rw [show j / 3 * 3 + j % 3 = j from by omega] at hat
  unfold enCells at hj
  rw [hj] at hat
  rw [add_at]
  have hm : j % 3 = 0 ∨ j % 3 = 1 ∨ j % 3 = 2 := by omega
  rcases hm with hm | hm | hm
  · rw [hm] at hat; simp [encE3l] at hat; subst hat
    rw [show o + j = o + j / 3 * 3 from by omega]; exact c0
  · rw [hm] at hat; simp [encE3l] at hat; subst hat
    rw [show o + j = o + j / 3 * 3 + 1 from by omega]; exact c1
  · rw [hm] at hat; simp [encE3l] at hat; subst hat
    rw [show o + j = o + j / 3 * 3 + 2 from by omega]; exact c2
def EnPost (W : World) (L : List E3) (en : Ending) (w' : World) : Prop := ∃ u, en = .returned u ∧ w'.ownsRow W.heap.size 31 3 u L.length (enCells L) ∧ Below W.heap.size W w'
set_option maxRecDepth 100000 in
set_option maxHeartbeats 2000000 in
theorem hclone_any {w : World} {v : Value} {L : List E3} (hI : SrcO w v L.length (enCells L)) (hL : L.length ≤ 1000000) :
    Calls Try.prog 59 #[v] w (EnPost w L) := by
  obtain ⟨i0, hi, hz0, hz1, hz2⟩ := info_parts infoEn
  have HI := Lib.hid hI
  obtain ⟨q, c, rfl, hq⟩ := hI
  have qn : ∀ (w : World) (a : Option Addr) (n c n' c' : Nat), (binOp .eql 39 (.slice a n c) (.slice none n' c')).run Try.prog w = .ok (.bool a.isNone) w := fun w a n c n' c' => Lib.run_eql_slice_nil w _ _ a n c n' c' Try.underlying39
  cases q with
  | none =>
    have h0 : L = [] := by
      apply List.eq_nil_of_length_eq_zero
      rcases Nat.eq_zero_or_pos L.length with h | h
      · exact h
      · obtain ⟨_, _, e, _⟩ := hq (by omega)
        cases e
    subst h0
    clear hq HI
    go_enter Try.func59, Try.ntmps59
    go_wp2
    go_ret
    exact ⟨_, rfl, World.ownsRow_nil _ _ _ _, Below.refl _ _⟩
  | some a =>
    clear hq
    go_enter Try.func59, Try.ntmps59
    go_wp2_with (at_builtin; refine wpList_append_srcO rfl (.tmp 5) (.tmp 6) 39 rfl w.heap.size 31 i0 (.agg #[.int .i64 0, .int .i64 0, .int .i64 0]) 3 24 Try.underlying39 hi hz0 hz1 hz2 rfl (by decide) _ 0 [] rfl (World.ownsRow_made w #[] 0 (Nat.le_refl _) (Nat.zero_le _) (by simp)) _ L.length (enCells L) rfl (HI.out.keep (below_alloc _ _)) (enCells_len L) (enCells_one L) (by unfold maxLen; omega) (by omega) (by simp) ?_)
    intro v' w1 hown hgrow
    go_wp2
    go_ret
    refine ⟨v', rfl, by simpa using hown, ?_⟩
    exact ((Below.refl _ w).alloc (Nat.le_refl _) _).grown hgrow (by simp) (by intro k hk; simp [Value.ownBlock] at hk; omega)
def SrPost (W : World) (L : List E3) (en : Ending) (w' : World) : Prop :=
  ∃ M u, M.Perm L ∧ M.Pairwise (fun p q => ltE q p = false) ∧ en = .returned u ∧ w'.ownsRow W.heap.size 31 3 u M.length (enCells M) ∧ Below W.heap.size W w'
theorem hsortfunc_any {w0 w : World} {u : Value} {L : List E3} (ho : w.ownsRow w0.heap.size 31 3 u L.length (enCells L)) (hb : Below w0.heap.size w0 w) (hL : L.length ≤ 1000000) :
    Calls Try.prog 60 #[u, .func (.func 42) #[] #[]] w fun en w' => en = .returned (.tuple #[]) ∧ ∃ M : List E3, M.Perm L ∧ M.Pairwise (fun p q => ltE q p = false) ∧ w'.ownsRow w0.heap.size 31 3 u M.length (enCells M) ∧ Below w0.heap.size w0 w' := by
  by_cases h0 : L = []
  · subst h0
    have hu : ∃ p cap, u = .slice p 0 cap := by
      rcases ho.2 with ⟨rfl, _⟩ | ⟨g, cap, _, rfl, _⟩
      · exact ⟨_, _, rfl⟩
      · exact ⟨_, _, rfl⟩
    obtain ⟨p, cap, rfl⟩ := hu
    refine (AnyF.slices_SortFunc_none Try.sortEn p cap _ w).mono ?_
    rintro en w' ⟨rfl, rfl⟩
    exact ⟨rfl, [], .refl _, .nil, ho, hb⟩
  · refine (sort_ens w0.heap.size u L w ho (by omega) h0).mono ?_
    rintro en w' ⟨rfl, M, hp, hs, ho2, hb2, _⟩
    exact ⟨rfl, M, hp, hs, by rw [hp.length_eq]; exact ho2, hb2 _ _ hb (Nat.le_refl _) hb.size⟩
set_option maxRecDepth 100000 in
theorem hsort_any {w : World} {v : Value} {L : List E3} (hI : SrcO w v L.length (enCells L)) (hL : L.length ≤ 1000000) :
    Calls Try.prog 40 #[v] w (SrPost w L) := by
  have HC := Lib.hid (hclone_any hI hL)
  clear hI
  go_enter Try.func40, Try.ntmps40
  go_wp2_with fail
  go_at_call 59
  refine HC.out.mono ?_
  rintro en w1 ⟨u, rfl, ho, hb⟩
  have HS := Lib.hid (hsortfunc_any ho hb hL)
  clear ho hb HC
  go_wp2_with fail
  go_at_call 60
  refine HS.out.mono ?_
  rintro en w2 ⟨rfl, M, hp, hs, ho2, hb2⟩
  have HO := Lib.hid ho2
  have HB := Lib.hid hb2
  clear ho2 hb2
  go_wp2_with fail
  go_ret
  exact ⟨M, u, hp, hs, rfl, HO.out, HB.out⟩
end Go.Proofs.Ytbdmmgplpndobaa
