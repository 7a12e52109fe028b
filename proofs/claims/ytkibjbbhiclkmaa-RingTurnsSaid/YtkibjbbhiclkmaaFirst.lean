/- The walks of slices.Grow, slices.Concat, ring.First. -/
import Derived.Test.YtkibjbbhiclkmaaMoved
import Derived.Test.YtkibjbbhiclkmaaCut3
import Derived.Lib.AppendZerosOnto
import Derived.Deep.RegionHeld3
namespace Go.Proofs.Ytkibjbbhiclkmaa
open Go.RowKit Go.Sort

/-- A point written. -/
theorem Rw.put {W : World} {B k n : Nat} {P : Nat → Int × Int} (h : Rw W B k n P) (i : Nat) (hi : i < n) (x y : Int) : Rw ((W.setCell ⟨k, i * 2, none⟩ (.int .i64 x)).setCell ⟨k, i * 2 + 1, none⟩ (.int .i64 y)) B k n (fun j => if j = i then (x, y) else P j) :=
  ((h.set0 i hi x).set1 i hi y).congr fun j _ => by
    by_cases e : j = i
    · subst e; simp
    · simp [e]
def revP (P : Nat → Int × Int) (s m r j : Nat) : Int × Int := if s ≤ j ∧ j < s + m ∧ (j - s < r ∨ m - 1 - (j - s) < r) then P (s + (m - 1 - (j - s))) else P j
theorem rev_zero (P : Nat → Int × Int) (s m j : Nat) : revP P s m 0 j = P j := by unfold revP; rw [if_neg (by omega)]
theorem rev_step (P : Nat → Int × Int) (s m r jn : Nat) (h : jn + r + 1 = m) (hr : r < jn) (j : Nat) :
    (if j = s + jn then revP P s m r (s + r) else if j = s + r then revP P s m r (s + jn) else revP P s m r j) = revP P s m (r + 1) j := by
  unfold revP
  by_cases e1 : j = s + jn
  · subst e1
    rw [if_pos rfl, if_neg (by omega), if_pos (by omega), show s + (m - 1 - (s + jn - s)) = s + r from by omega]
  · rw [if_neg e1]
    by_cases e2 : j = s + r
    · subst e2
      rw [if_pos rfl, if_neg (by omega), if_pos (by omega), show s + (m - 1 - (s + r - s)) = s + jn from by omega]
    · rw [if_neg e2]
      by_cases e3 : s ≤ j ∧ j < s + m ∧ (j - s < r ∨ m - 1 - (j - s) < r)
      · rw [if_pos e3, if_pos (by omega)]
      · rw [if_neg e3, if_neg (by omega)]
theorem rev_done (P : Nat → Int × Int) (s m r jn N : Nat) (h : jn + r + 1 = m) (hr : ¬ r < jn) (hs : s + m = N) (j : Nat) (hj : j < N) : revP P s m r j = if s ≤ j then P (s + (N - 1 - j)) else P j := by
  unfold revP
  by_cases e1 : s ≤ j
  · rw [if_pos e1]
    by_cases e2 : s ≤ j ∧ j < s + m ∧ (j - s < r ∨ m - 1 - (j - s) < r)
    · rw [if_pos e2, show s + (m - 1 - (j - s)) = s + (N - 1 - j) from by omega]
    · rw [if_neg e2, show s + (N - 1 - j) = j from by omega]
  · rw [if_neg e1, if_neg (by omega)]

set_option maxRecDepth 100000 in
set_option maxHeartbeats 2000000 in
theorem reverse_any {W : World} {B k N : Nat} {P : Nat → Int × Int} (s m cap : Nat) (h : Rw W B k N P) (hs : s + m = N) (hm0 : 0 < m) (hm : m ≤ 1000000) :
    Calls Try.prog 75 #[.slice (some ⟨k, s * 2, none⟩) m cap] W fun e w' => e = .returned (.tuple #[]) ∧ Rw w' B k N (fun j => if s ≤ j then P (s + (N - 1 - j)) else P j) ∧ Below B W w' := by
  have H0 : Hid (Rw W B k N (revP P s m 0) ∧ Below B W W) := Lib.hid ⟨h.congr fun i _ => (rev_zero P s m i).symm, Below.refl _ _⟩
  have x0 : IntKind.i64.wrap ((m : Int) - 1) = (m : Int) - 1 := IntWalk.i64_in _ (by omega)
  have HS := Lib.hid hs
  clear h hs
  go_enter Try.func75, Try.ntmps75
  go_wp2_with fail
  go_loopg [2, 3] (m / 2) (fun gk i j wx => ∃ r jn : Nat, r + gk = m / 2 ∧ jn + r + 1 = m ∧ i = .int .i64 (r : Int) ∧ j = .int .i64 (jn : Int) ∧ Hid (Rw wx B k N (revP P s m r) ∧ Below B W wx))
  case atStart => exact ⟨0, m - 1, by omega, by omega, rfl, by rw [show ((m - 1 : Nat) : Int) = (m : Int) - 1 from by omega], H0⟩
  case round =>
    obtain ⟨r, jn, hrg, hj, rfl, rfl, HB⟩ := hrel
    cases gk with
    | zero =>
      have hkz : ¬ ((r : Int) < (jn : Int)) := by omega
      have HF := Lib.hid (HB.out.1.congr (rev_done P s m r jn N hj (by omega) HS.out))
      go_wp2_with fail
      go_end0
      exact ⟨rfl, HF.out, HB.out.2⟩
    | succ gr =>
      have hkz : (r : Int) < (jn : Int) := by omega
      have h1 : r < m := by omega
      have h2 : jn < m := by omega
      have hN := HS.out
      have c0 := HB.out.1.c0 (s + r) (by omega)
      have c1 := HB.out.1.c1 (s + r) (by omega)
      have f0 := HB.out.1.f0 (s + r) (by omega)
      have f1 := HB.out.1.f1 (s + r) (by omega)
      have d0 := HB.out.1.c0 (s + jn) (by omega)
      have d1 := HB.out.1.c1 (s + jn) (by omega)
      have g0 := HB.out.1.f0 (s + jn) (by omega)
      have g1 := HB.out.1.f1 (s + jn) (by omega)
      rw [Nat.add_mul] at c0 c1 f0 f1 d0 d1 g0 g1
      have n1 : ¬ s * 2 + r * 2 = s * 2 + jn * 2 := by omega
      have n2 : ¬ s * 2 + jn * 2 = s * 2 + r * 2 := by omega
      have HP : Hid (Rw (((((wr.setCell ⟨k, s * 2 + r * 2, none⟩ (.int .i64 (revP P s m r (s + jn)).1)).setCell ⟨k, s * 2 + r * 2 + 1, none⟩ (.int .i64 (revP P s m r (s + jn)).2)).setCell ⟨k, s * 2 + jn * 2, none⟩ (.int .i64 (revP P s m r (s + r)).1)).setCell ⟨k, s * 2 + jn * 2 + 1, none⟩ (.int .i64 (revP P s m r (s + r)).2)).drew) B k N (revP P s m (r + 1))) := by
        have h1 := (HB.out.1.put (s + r) (by omega) (revP P s m r (s + jn)).1 (revP P s m r (s + jn)).2).put (s + jn) (by omega) (revP P s m r (s + r)).1 (revP P s m r (s + r)).2
        rw [Nat.add_mul, Nat.add_mul] at h1
        exact Lib.hid (h1.drew.congr fun j _ => rev_step P s m r jn hj (by omega) j)
      have HW := Lib.hid HB.out.2
      have hBk := HB.out.1.base
      have HQ : Hid (Below B W (((((wr.setCell ⟨k, s * 2 + r * 2, none⟩ (.int .i64 (revP P s m r (s + jn)).1)).setCell ⟨k, s * 2 + r * 2 + 1, none⟩ (.int .i64 (revP P s m r (s + jn)).2)).setCell ⟨k, s * 2 + jn * 2, none⟩ (.int .i64 (revP P s m r (s + r)).1)).setCell ⟨k, s * 2 + jn * 2 + 1, none⟩ (.int .i64 (revP P s m r (s + r)).2)).drew)) :=
        Lib.hid ((((HB.out.2.setCell (p := ⟨k, _, none⟩) hBk _).setCell (p := ⟨k, _, none⟩) hBk _).setCell (p := ⟨k, _, none⟩) hBk _).setCell (p := ⟨k, _, none⟩) hBk _).drew
      have x1 : IntKind.i64.wrap ((r : Int) + 1) = (r : Int) + 1 := IntWalk.i64_in _ (by omega)
      have x2 : IntKind.i64.wrap ((jn : Int) - 1) = (jn : Int) - 1 := IntWalk.i64_in _ (by omega)
      generalize (revP P s m r (s + jn)).1 = X at *
      generalize (revP P s m r (s + jn)).2 = Y at *
      generalize (revP P s m r (s + r)).1 = U at *
      generalize (revP P s m r (s + r)).2 = V at *
      clear hBk hN
      go_wp2_with fail
      go_region
      go_wp2_with fail
      go_roundg gr
      case measure => omega
      case rel => exact ⟨r + 1, jn - 1, by omega, by omega, by go_num, by rw [show ((jn - 1 : Nat) : Int) = (jn : Int) - 1 from by omega], Lib.hid ⟨HP.out, HQ.out⟩⟩

set_option maxRecDepth 100000 in
theorem reverse_none (a : Option Addr) (cap : Nat) (W : World) : Calls Try.prog 75 #[.slice a 0 cap] W fun e w' => e = .returned (.tuple #[]) ∧ w' = W := by
  go_enter Try.func75, Try.ntmps75
  go_wp2_with fail
  go_loopg [2, 3] 0 (fun gk i j wx => i = .int .i64 0 ∧ j = .int .i64 (-1) ∧ wx = W)
  case atStart => exact ⟨rfl, rfl, rfl⟩
  case round =>
    obtain ⟨rfl, rfl, rfl⟩ := hrel
    go_wp2_with fail
    go_end0
    exact ⟨rfl, rfl⟩
def turL (L : List (Int × Int)) : List (Int × Int) := (List.range L.length).map fun i => ptA L ((L.length - i) % L.length)
theorem turL_len (L : List (Int × Int)) : (turL L).length = L.length := by unfold turL; rw [List.length_map, List.length_range]
theorem turL_at (L : List (Int × Int)) (i : Nat) (hi : i < L.length) : ptA (turL L) i = ptA L ((L.length - i) % L.length) := by
  rw [ptA_at (by rw [turL_len]; exact hi)]
  unfold turL
  simp
set_option maxRecDepth 100000 in
set_option maxHeartbeats 2000000 in
theorem turned_any {w : World} {v : Value} {L : List (Int × Int)} (hI : PL w v L) (hL : L.length ≤ 1000) :
    Calls Try.prog 26 #[v] w fun e w' => ∃ u, e = .returned u ∧ PL w' u (turL L) ∧ Below w.heap.size w w' := by
  have HI := Lib.hid hI
  obtain ⟨q0, cap0, rfl, _, _⟩ := hI
  by_cases hz : L.length = 0
  · have h0 : L = [] := List.eq_nil_of_length_eq_zero hz
    subst h0
    clear HI hz
    go_enter Try.func26, Try.ntmps26
    go_wp2_with fail
    go_ret
    exact ⟨.slice none 0 0, rfl, by rw [show turL [] = [] from rfl]; exact ⟨none, 0, rfl, by simp, fun i hi => absurd hi (by simp)⟩, Below.refl _ _⟩
  · have hz1 : ¬ (L.length : Int) = 0 := by omega
    go_enter Try.func26, Try.ntmps26
    go_wp2_with fail
    refine (clone_any HI.out (by omega)).mono ?_
    rintro e w1 ⟨u, rfl, hu, hb1⟩
    rcases hu with ⟨_, rfl⟩ | ⟨g, cap, rfl, hcap, hmax, hr⟩
    · exact absurd rfl hz
    · have HR := Lib.hid hr
      have HB1 := Lib.hid hb1
      clear hr hb1 HI
      by_cases h1 : L.length = 1
      · have HF : Hid (PL w1 (.slice (some ⟨g, 0, none⟩) L.length cap) (turL L)) := Lib.hid (by
          have h2 : Rw w1 w.heap.size g (turL L).length (ptA (turL L)) := by
            rw [turL_len]
            refine HR.out.congr fun i hi => ?_
            rw [turL_at L i hi, show i = 0 from by omega, Nat.sub_zero, Nat.mod_self]
          have := h2.pl (cap := cap) (by rw [turL_len]; exact hcap)
          rw [turL_len] at this
          exact this)
        have h1i : (L.length : Int) = 1 := by omega
        clear hz hz1
        by_cases hc1 : cap = 1
        · subst hc1
          rw [h1] at HF
          simp only [h1]
          go_wp2_with fail
          refine (reverse_none _ _ _).mono ?_
          rintro e w2 ⟨rfl, rfl⟩
          go_wp2_with fail
          go_ret
          exact ⟨_, rfl, HF.out, HB1.out⟩
        · have hc2 : 1 < cap := by omega
          rw [h1] at HF
          simp only [h1]
          go_wp2_with fail
          refine (reverse_none _ _ _).mono ?_
          rintro e w2 ⟨rfl, rfl⟩
          go_wp2_with fail
          go_ret
          exact ⟨_, rfl, HF.out, HB1.out⟩
      · have hc1 : 1 < cap := by omega
        go_wp2_with fail
        refine (reverse_any 1 (L.length - 1) (cap - 1) HR.out (by omega) (by omega) (by omega)).mono ?_
        rintro e w2 ⟨rfl, hr2, hb2⟩
        have HF : Hid (PL w2 (.slice (some ⟨g, 0, none⟩) L.length cap) (turL L)) := Lib.hid (by
          have h2 : Rw w2 w.heap.size g (turL L).length (ptA (turL L)) := by
            rw [turL_len]
            refine hr2.congr fun i hi => ?_
            rw [turL_at L i hi]
            by_cases e : 1 ≤ i
            · rw [if_pos e, show 1 + (L.length - 1 - i) = L.length - i from by omega, Nat.mod_eq_of_lt (by omega)]
            · rw [if_neg e, show i = 0 from by omega, Nat.sub_zero, Nat.mod_self]
          have := h2.pl (cap := cap) (by rw [turL_len]; exact hcap)
          rw [turL_len] at this
          exact this)
        have HB2 := Lib.hid (HB1.out.trans hb2)
        clear hr2 hb2
        go_wp2_with fail
        go_ret
        exact ⟨_, rfl, HF.out, HB2.out⟩
end Go.Proofs.Ytkibjbbhiclkmaa

namespace Go.Proofs.Ytkibjbbhiclkmaa
open Go.RowKit Go.Sort

/-- append of k > 0 zero values onto nil. -/
theorem wp_append_zeros {P : Program} {w : World} {o : Oper} {a : Act} {K : Act → World → Prop} {Q : Exit → Act → World → Prop} (s x : Operand) (t tn : TypeId)
    (ho : o.op = .call { callee := .builtin .append, args := #[s, x], argTypes := #[t, tn] })
    (e : TypeId) (i : TypeInfo) (z : Value) (size bytes : Nat) (kn : IntKind) (ht : P.underlying t = some (.slice e)) (htn : P.underlying tn = some (.int kn)) (hi : P.info? e = some i) (hz : i.zero = some z)
    (hsize : i.size = size) (hby : i.bytes = bytes) (hzs : z.cells.size = size) (hsz : 0 < size) (k : Nat) (hs : a.eval s = .slice none 0 0) (hx : a.eval x = .int .i64 k) (h0 : 0 < k) (h63 : k ≤ maxLen) (hbytes : k * bytes ≤ 140737488355328)
    (h : ∀ c w', k ≤ c → c ≤ maxLen → (∃ cur : Array Value, w'.heap[w.heap.size]? = some (.cells cur e) ∧ cur.size = c * size) → Below w.heap.size w w' → K (a.put o.dst (.slice (some ⟨w.heap.size, 0, none⟩) k c)) w') : o.wp P a w K Q := by
  subst hsize
  subst hby
  unfold maxLen at h63
  have hr := Go.Lib.run_append_grow_zeros (P := P) w t tn o.type e i z .i64 kn ht htn hi hz none 0 0 [] (run_firstCells_none w.drew i.size 0 0 0) k h0 hsz (by omega) (by omega) (by omega) (by unfold Builtin.nextslicecap; rw [if_pos (by omega), Nat.zero_add]; omega)
  have hge := grownCap_ge w (0 + k) 0 e
  have hle := grownCap_le_maxLen w (0 + k) 0 e (by unfold maxLen; omega)
  unfold Oper.wp execOp
  simp only [ho, resolve, invoke, builtin, Sem.run_bind, Sem.run_pure, Result.andThen_ok, List.map_toArray, List.map_cons, List.map_nil, hs, hx, hr]
  rw [Nat.zero_add] at hge hle ⊢
  refine h _ _ hge hle ⟨_, heap_alloc_new w.drew _, ?_⟩ ((Below.refl _ w).drew.alloc (Nat.le_refl _) _)
  simp only [Array.size_append, List.size_toArray, size_zeroCells, hzs, List.length_nil, Nat.zero_add]
  rw [← Nat.add_mul]
  congr 1
  omega
theorem wpList_append_zeros {P : Program} {w : World} {ops : Array Oper} {rest : List Oper} {o : Oper} {a : Act} {Q : Exit → Act → World → Prop} (hgd : o.guard = none) (s x : Operand) (t tn : TypeId)
    (ho : o.op = .call { callee := .builtin .append, args := #[s, x], argTypes := #[t, tn] })
    (e : TypeId) (i : TypeInfo) (z : Value) (size bytes : Nat) (kn : IntKind) (ht : P.underlying t = some (.slice e)) (htn : P.underlying tn = some (.int kn)) (hi : P.info? e = some i) (hz : i.zero = some z)
    (hsize : i.size = size) (hby : i.bytes = bytes) (hzs : z.cells.size = size) (hsz : 0 < size) (k : Nat) (hs : a.eval s = .slice none 0 0) (hx : a.eval x = .int .i64 k) (h0 : 0 < k) (h63 : k ≤ maxLen) (hbytes : k * bytes ≤ 140737488355328)
    (h : ∀ c w', k ≤ c → c ≤ maxLen → (∃ cur : Array Value, w'.heap[w.heap.size]? = some (.cells cur e) ∧ cur.size = c * size) → Below w.heap.size w w' → wpList P ops Q rest (a.put o.dst (.slice (some ⟨w.heap.size, 0, none⟩) k c)) w') : wpList P ops Q (o :: rest) a w :=
  wpList_plain hgd fun _ hK => wp_append_zeros s x t tn ho e i z size bytes kn ht htn hi hz hsize hby hzs hsz k hs hx h0 h63 hbytes fun c w' h1 h2 h3 h4 => hK _ _ (h c w' h1 h2 h3 h4)

set_option maxRecDepth 100000 in
set_option maxHeartbeats 2000000 in
theorem grow_any (n : Nat) (w : World) (hn : n ≤ 1000000) :
    Calls Try.prog 99 #[.slice none 0 0, .int .i64 n] w fun e w' => ∃ v, e = .returned v ∧ w'.ownsRow w.heap.size 24 2 v 0 [] ∧ Below w.heap.size w w' := by
  obtain ⟨i0, hi, hz0, hz1, hz2⟩ := info_parts infoAP
  have g0 : ¬ ((n : Int) < 0) := by omega
  have x1 : IntKind.i64.wrap (n : Int) = (n : Int) := IntWalk.i64_in _ (by omega)
  by_cases h0 : n = 0
  · subst h0
    go_enter Try.func99, Try.ntmps99
    go_wp2_with fail
    go_ret
    exact ⟨_, rfl, World.ownsRow_nil _ _ _ _, Below.refl _ _⟩
  · have g1 : (0 : Int) < (n : Int) := by omega
    go_enter Try.func99, Try.ntmps99
    go_wp2_with (at_builtin; refine wpList_append_zeros rfl _ _ 22 3 rfl 24 i0 (.agg #[.int .i64 0, .int .i64 0]) 2 16 .i64 Try.underlying22 Try.underlying3 hi hz0 hz1 hz2 rfl (by decide) n rfl rfl (by omega) (by unfold maxLen; omega) (by omega) ?_)
    intro c w1 hc1 hc2 cur h1 h2 hb
    have HB := Lib.hid hb
    have HO : Hid (w1.ownsRow w.heap.size 24 2 (.slice (some ⟨w.heap.size, 0, none⟩) 0 c) 0 []) := Lib.hid (by
      exact ⟨rfl, .inr ⟨_, c, cur, rfl, Nat.le_refl _, h1, Nat.zero_le _, hc2, h2, rfl⟩⟩)
    clear h1 h2 hb
    go_wp2_with fail
    go_ret
    exact ⟨_, rfl, HO.out, HB.out⟩

theorem own_pl {W : World} {base : Nat} {T : TypeId} {u : Value} {n : Nat} {L : List (Int × Int)} (h : W.ownsRow base T 2 u n (ptsL L)) (hn : n = L.length) : PL W u L := by
  subst hn
  exact pl_own h
set_option maxRecDepth 100000 in
set_option maxHeartbeats 4000000 in
theorem concat2_any {W : World} {bs : Nat} {v1 v2 : Value} {L1 L2 : List (Int × Int)} (h0 : W.cell? ⟨bs, 0, none⟩ = some v1) (h1 : W.cell? ⟨bs, 1, none⟩ = some v2) (p1 : PL W v1 L1) (p2 : PL W v2 L2) (l1 : L1.length ≤ 1000) (l2 : L2.length ≤ 1000) :
    Calls Try.prog 77 #[.slice (some ⟨bs, 0, none⟩) 2 2] W fun e w' => ∃ u, e = .returned u ∧ PL w' u (L1 ++ L2) ∧ Below W.heap.size W w' := by
  obtain ⟨i0, hi, hz0, hz1, hz2⟩ := info_parts infoAP
  have P1 := Lib.hid (pl_srcV p1)
  have P2 := Lib.hid (pl_srcV p2)
  obtain ⟨q1, c1, rfl, _, _⟩ := p1
  obtain ⟨q2, c2, rfl, _, _⟩ := p2
  have x1 : IntKind.i64.wrap (0 + (L1.length : Int)) = (L1.length : Int) := by rw [Int.zero_add]; exact IntWalk.i64_in _ (by omega)
  have x2 : IntKind.i64.wrap (L1.length : Int) = (L1.length : Int) := IntWalk.i64_in _ (by omega)
  have x3 : IntKind.i64.wrap ((L1.length : Int) + (L2.length : Int)) = (L1.length : Int) + (L2.length : Int) := IntWalk.i64_in _ (by omega)
  have n1 : ¬ ((L1.length : Int) < 0) := by omega
  have n2 : ¬ ((L1.length : Int) + (L2.length : Int) < 0) := by omega
  have H0 := Lib.hid h0
  have H1 := Lib.hid h1
  go_enter Try.func77, Try.ntmps77
  go_wp2_with fail
  go_loopg [3, 11] 2 (fun gk s i wx => wx = W ∧ ((gk = 2 ∧ i = .int .i64 0 ∧ s = .int .i64 0) ∨ (gk = 1 ∧ i = .int .i64 1 ∧ s = .int .i64 L1.length) ∨ (gk = 0 ∧ i = .int .i64 2 ∧ s = .int .i64 (L1.length + L2.length))))
  case atStart => exact ⟨rfl, Or.inl ⟨rfl, rfl, rfl⟩⟩
  case round =>
    obtain ⟨hw, ⟨rfl, rfl, rfl⟩ | ⟨rfl, rfl, rfl⟩ | ⟨rfl, rfl, rfl⟩⟩ := hrel <;> (have hw' := hw.symm; clear hw; subst hw')
    · go_wp2_with fail
      go_roundg 1
      case measure => omega
      case rel => exact ⟨rfl, Or.inr (Or.inl ⟨rfl, rfl, rfl⟩)⟩
    · go_wp2_with fail
      go_roundg 0
      case measure => omega
      case rel => exact ⟨rfl, Or.inr (Or.inr ⟨rfl, rfl, rfl⟩)⟩
    · have KG : Hid (Calls Try.prog 99 #[.slice none 0 0, .int .i64 ((L1.length : Int) + (L2.length : Int))] W fun e w' => ∃ v, e = .returned v ∧ w'.ownsRow W.heap.size 24 2 v 0 [] ∧ Below W.heap.size W w') :=
        Lib.hid (by rw [show (L1.length : Int) + (L2.length : Int) = ((L1.length + L2.length : Nat) : Int) from by push_cast; rfl]; exact grow_any _ _ (by omega))
      go_wp2_with fail
      refine KG.out.mono ?_
      rintro e w1 ⟨v, rfl, ho, hb1⟩
      have HO := Lib.hid ho
      have HB := Lib.hid hb1
      clear ho hb1 KG x1 x2 x3 n1 n2 h0 h1
      go_wp2_with fail
      go_loopg [6, 27] 2 (fun gk v i wx => Hid (Below W.heap.size W wx) ∧ ((gk = 2 ∧ i = .int .i64 0 ∧ Hid (wx.ownsRow W.heap.size 24 2 v 0 [])) ∨ (gk = 1 ∧ i = .int .i64 1 ∧ Hid (wx.ownsRow W.heap.size 24 2 v L1.length (ptsL L1))) ∨ (gk = 0 ∧ i = .int .i64 2 ∧ Hid (wx.ownsRow W.heap.size 24 2 v (L1.length + L2.length) (ptsL L1 ++ ptsL L2)))))
      case atStart => exact ⟨HB, Or.inl ⟨rfl, rfl, HO⟩⟩
      case round =>
        obtain ⟨HBr, ⟨rfl, rfl, HOr⟩ | ⟨rfl, rfl, HOr⟩ | ⟨rfl, rfl, HOr⟩⟩ := hrel
        · have d0 := cell_later HBr.out H0.out
          go_wp2_with (at_builtin; refine wpList_append_srcV rfl _ _ 22 rfl W.heap.size 24 i0 (.agg #[.int .i64 0, .int .i64 0]) 2 16 Try.underlying22 hi hz0 hz1 hz2 rfl (by decide) _ _ _ rfl HOr.out _ L1.length (ptsL L1) rfl (P1.out.keep HBr.out) (pts_length _ _ _) ptsL_cells (by unfold maxLen; omega) (by omega) HBr.out.size ?_)
          intro v' w' ho hg
          have HO2 := Lib.hid ho
          have HB2 := Lib.hid (HBr.out.grown hg HBr.out.size (fun q hq => (own_block HOr.out hq).1))
          clear ho hg d0
          go_wp2_with fail
          go_roundg 1
          case measure => omega
          case rel => exact ⟨HB2, Or.inr (Or.inl ⟨rfl, rfl, HO2⟩)⟩
        · have d0 := cell_later HBr.out H1.out
          go_wp2_with (at_builtin; refine wpList_append_srcV rfl _ _ 22 rfl W.heap.size 24 i0 (.agg #[.int .i64 0, .int .i64 0]) 2 16 Try.underlying22 hi hz0 hz1 hz2 rfl (by decide) _ _ _ rfl HOr.out _ L2.length (ptsL L2) rfl (P2.out.keep HBr.out) (pts_length _ _ _) ptsL_cells (by unfold maxLen; omega) (by omega) HBr.out.size ?_)
          intro v' w' ho hg
          have HO2 := Lib.hid ho
          have HB2 := Lib.hid (HBr.out.grown hg HBr.out.size (fun q hq => (own_block HOr.out hq).1))
          clear ho hg d0
          go_wp2_with fail
          go_roundg 0
          case measure => omega
          case rel => exact ⟨HB2, Or.inr (Or.inr ⟨rfl, rfl, HO2⟩)⟩
        · go_wp2_with fail
          go_ret
          refine ⟨_, rfl, ?_, HBr.out⟩
          have h := HOr.out
          rw [← ptsL_app] at h
          exact own_pl h (by rw [List.length_append])

/-- The first place of the least of the first k + 1 points. -/
def fsI (P : Nat → Int × Int) : Nat → Nat
  | 0 => 0
  | k + 1 => if lessB (P k).1 (P k).2 (P (fsI P k)).1 (P (fsI P k)).2 then k else fsI P k
theorem fsI_lt (P : Nat → Int × Int) : ∀ k, 0 < k → fsI P k < k
  | 0, h => absurd h (by omega)
  | k + 1, _ => by
    unfold fsI
    split
    · omega
    · rcases Nat.eq_zero_or_pos k with rfl | h
      · show fsI P 0 < 1
        unfold fsI; omega
      · have := fsI_lt P k h; omega
/-- The ring begun at its least point. -/
def firL (L : List (Int × Int)) : List (Int × Int) := L.drop (fsI (ptA L) L.length) ++ L.take (fsI (ptA L) L.length)
theorem rot_at (L : List (Int × Int)) (s : Nat) (hs : s ≤ L.length) (i : Nat) (hi : i < L.length) : ptA (L.drop s ++ L.take s) i = ptA L ((i + s) % L.length) := by
  have hl : (L.drop s ++ L.take s).length = L.length := by rw [List.length_append, List.length_drop, List.length_take]; omega
  rw [ptA_at (by omega)]
  by_cases h : i < L.length - s
  · rw [List.getElem_append_left (by rw [List.length_drop]; exact h), List.getElem_drop, Nat.mod_eq_of_lt (by omega), ptA_at (by omega)]
    congr 1; omega
  · rw [List.getElem_append_right (by rw [List.length_drop]; omega), List.getElem_take, Nat.mod_eq_sub_mod (by omega), Nat.mod_eq_of_lt (by omega), ptA_at (by omega)]
    congr 1
    rw [List.length_drop]; omega
theorem PL.drop {W : World} {p : Option Addr} {b off cap : Nat} {L : List (Int × Int)} (h : PL W (.slice p L.length cap) L) (hp : p = some ⟨b, off, none⟩) (s : Nat) (hs : s ≤ L.length) : PL W (.slice (some ⟨b, off + s * 2, none⟩) (L.length - s) (cap - s)) (L.drop s) := by
  obtain ⟨p', cap', e, hc, hi⟩ := h
  injection e with e1 _ e3
  subst e1; subst e3; subst hp
  refine ⟨_, _, by rw [List.length_drop], by rw [List.length_drop]; omega, fun i hi' => ?_⟩
  rw [List.length_drop] at hi'
  obtain ⟨b', off', e, hb, c0, c1⟩ := hi (s + i) (by omega)
  obtain ⟨rfl, rfl⟩ : b' = b ∧ off' = off := by injection e with e; injection e with e1 e2; exact ⟨e1.symm, e2.symm⟩
  refine ⟨b', off' + s * 2, rfl, hb, ?_⟩
  rw [List.getElem_drop, show off' + s * 2 + i * 2 = off' + (s + i) * 2 from by omega]
  exact ⟨c0, c1⟩

set_option maxRecDepth 100000 in
set_option maxHeartbeats 4000000 in
theorem first_any {w : World} {v : Value} {L : List (Int × Int)} (hI : PL w v L) (hL : L.length ≤ 1000) :
    Calls Try.prog 28 #[v] w fun e w' => ∃ u, e = .returned u ∧ PL w' u (firL L) ∧ Below w.heap.size w w' := by
  have hmx : Try.prog.follows .mixedOrders = true := by kernel_rfl
  have HI := Lib.hid hI
  obtain ⟨p, cap, rfl, hc, hi⟩ := hI
  have HC := Lib.hid hi
  clear hi
  go_enter Try.func28, Try.ntmps28
  go_wp2_with fail
  go_loopg [3, 8] L.length (fun gk s i wx => ∃ k : Nat, k + gk = L.length ∧ i = .int .i64 (k : Int) ∧ s = .int .i64 (fsI (ptA L) k : Nat) ∧ Hid (Below w.heap.size w wx))
  case atStart => exact ⟨0, by omega, rfl, rfl, Lib.hid (Below.refl _ _)⟩
  case round =>
    obtain ⟨k, hkg, rfl, rfl, HB⟩ := hrel
    cases gk with
    | zero =>
      have hkz : ¬ ((k : Int) < (L.length : Int)) := by omega
      obtain rfl : k = L.length := by omega
      have HF : Hid (firL L = L.drop (fsI (ptA L) L.length) ++ L.take (fsI (ptA L) L.length)) := Lib.hid rfl
      have hsn : 0 < L.length → fsI (ptA L) L.length < L.length := fsI_lt _ _
      have hs0 : L.length = 0 → fsI (ptA L) L.length = 0 := fun h => by rw [h]; rfl
      generalize fsI (ptA L) L.length = s at *
      rcases Nat.eq_zero_or_pos L.length with hz | hz
      · have hL0 : L = [] := List.eq_nil_of_length_eq_zero hz
        subst hL0
        obtain rfl := hs0 hz
        have HX : ∀ (q : Option Addr) (c : Nat) (W : World), PL W (.slice q 0 c) [] := fun q c W => ⟨q, c, rfl, by simp, fun i hi => absurd hi (by simp)⟩
        have HX := Lib.hid HX
        clear hsn hs0 hz hkz hkg HI HC
        have y1 : (0 : Int) ≤ (cap : Int) := by omega
        cases p with
        | none =>
          go_wp2_with fail
          go_region_held3 (fun W => Below wr.heap.size wr W) (first | assumption | exact (Below.refl _ _).drew | exact Below.alloc (by assumption) (Below.size (by assumption)) _) (first | (go_at_call 77; refine (concat2_any (L1 := []) (L2 := []) (by go_simp) (by go_simp) (HX.out none cap _) (HX.out none cap _) (by simp) (by simp)).mono ?_; rintro e w8 ⟨u, rfl, hu, hb8⟩; have hS8 : Below wr.heap.size wr w8 := (((Below.refl _ _).alloc (Nat.le_refl _) _).drew).trans (hb8.mono (by simp <;> omega))))
          have HU := Lib.hid hu
          have HS := Lib.hid (HB.out.trans (hS8.mono HB.out.size))
          clear hu hS8 hb8
          go_wp2_with fail
          go_ret
          exact ⟨_, rfl, HU.out, HS.out⟩
        | some a =>
          go_wp2_with fail
          go_region_held3 (fun W => Below wr.heap.size wr W) (first | assumption | exact (Below.refl _ _).drew | exact Below.alloc (by assumption) (Below.size (by assumption)) _) (first | (go_at_call 77; refine (concat2_any (L1 := []) (L2 := []) (by go_simp) (by go_simp) (HX.out (some a) cap _) (HX.out (some a) cap _) (by simp) (by simp)).mono ?_; rintro e w8 ⟨u, rfl, hu, hb8⟩; have hS8 : Below wr.heap.size wr w8 := (((Below.refl _ _).alloc (Nat.le_refl _) _).drew).trans (hb8.mono (by simp <;> omega))))
          have HU := Lib.hid hu
          have HS := Lib.hid (HB.out.trans (hS8.mono HB.out.size))
          clear hu hS8 hb8
          go_wp2_with fail
          go_ret
          exact ⟨_, rfl, HU.out, HS.out⟩
      · have hsl := hsn hz
        obtain ⟨b, off, rfl, hbl, _, _⟩ := HC.out 0 hz
        have HD : Hid (PL wr (.slice (some ⟨b, off + s * 2, none⟩) (L.length - s) (cap - s)) (L.drop s)) := Lib.hid ((HI.out.keep HB.out).drop rfl s (by omega))
        have HK : Hid (PL wr (.slice (some ⟨b, off, none⟩) s cap) (L.take s)) := Lib.hid (by
          have h := (HI.out.keep HB.out).take s
          rw [List.length_take, Nat.min_eq_left (by omega)] at h
          exact h)
        have hsc : s < cap := by omega
        have y0 : (0 : Int) ≤ (s : Int) := by omega
        have y1 : (s : Int) ≤ (cap : Int) := by omega
        have y2 : (s : Int) ≤ (L.length : Int) := by omega
        have y3 : ¬ s = cap := by omega
        have y4 : ¬ cap = s := by omega
        have y5 : ¬ cap - s = 0 := by omega
        have hdl : (L.drop s).length ≤ 1000 := by rw [List.length_drop]; omega
        have htl : (L.take s).length ≤ 1000 := by rw [List.length_take]; omega
        have HL := Lib.hid (And.intro hdl htl)
        clear hsn hs0 hdl htl
        go_wp2_with fail
        go_region_held3 (fun W => Below wr.heap.size wr W) (first | assumption | exact (Below.refl _ _).drew | exact Below.alloc (by assumption) (Below.size (by assumption)) _) (first | (go_at_call 77; refine (concat2_any (by go_simp) (by go_simp) (HD.out.keep (((Below.refl _ _).drew).alloc (Nat.le_refl _) _)) (HK.out.keep (((Below.refl _ _).drew).alloc (Nat.le_refl _) _)) HL.out.1 HL.out.2).mono ?_; rintro e w8 ⟨u, rfl, hu, hb8⟩; have hS8 : Below wr.heap.size wr w8 := (((Below.refl _ _).drew).alloc (Nat.le_refl _) _).trans (hb8.mono (by simp <;> omega))))
        have HU := Lib.hid hu
        have HS := Lib.hid (HB.out.trans (hS8.mono HB.out.size))
        clear hu hS8 hb8
        go_wp2_with fail
        go_ret
        exact ⟨_, rfl, by rw [HF.out]; exact HU.out, HS.out⟩
    | succ gr =>
      have hkz : (k : Int) < (L.length : Int) := by omega
      have hkn : k < L.length := by omega
      have HJ : Hid (fsI (ptA L) (k + 1) = if lessB (ptA L k).1 (ptA L k).2 (ptA L (fsI (ptA L) k)).1 (ptA L (fsI (ptA L) k)).2 then k else fsI (ptA L) k) := Lib.hid rfl
      have hjn : fsI (ptA L) k < L.length := by
        rcases Nat.eq_zero_or_pos k with rfl | h
        · show fsI (ptA L) 0 < _
          unfold fsI; omega
        · have := fsI_lt (ptA L) k h; omega
      generalize fsI (ptA L) k = j at *
      obtain ⟨b, off, rfl, hbl, c0, c1⟩ := HC.out k hkn
      obtain ⟨b', off', e, _, d0, d1⟩ := HC.out j hjn
      obtain ⟨rfl, rfl⟩ : b' = b ∧ off' = off := by injection e with e; injection e with e1 e2; exact ⟨e1.symm, e2.symm⟩
      rw [ptA_at hkn, ptA_at hjn] at HJ
      have hjz : (j : Int) < (L.length : Int) := by omega
      have c0 := cell_later HB.out c0
      have c1 := cell_later HB.out c1
      have d0 := cell_later HB.out d0
      have d1 := cell_later HB.out d1
      have hbw : b' < wr.heap.size := Nat.lt_of_lt_of_le hbl HB.out.size
      have n1 : b' ≠ wr.heap.size := by omega
      generalize L[k] = A at *
      generalize L[j] = C at *
      have KL := Lib.hid (fun W => less_any A.1 A.2 C.1 C.2 W)
      have HB1 := Lib.hid (HB.out.alloc HB.out.size (.cells #[.int .i64 A.1, .int .i64 A.2] 24))
      generalize lessB A.1 A.2 C.1 C.2 = lb at *
      have e0 : (wr.alloc (.cells #[.int .i64 A.1, .int .i64 A.2] 24)).cell? ⟨wr.heap.size, 0, none⟩ = some (.int .i64 A.1) := by go_simp
      have e1 : (wr.alloc (.cells #[.int .i64 A.1, .int .i64 A.2] 24)).cell? ⟨wr.heap.size, 1, none⟩ = some (.int .i64 A.2) := by go_simp
      have r0 := fun d os => cell_regrown e0 d os
      have r1 := fun d os => cell_regrown e1 d os
      have r2 := fun d os => cell_regrown (cell_later (b1 wr (.cells #[.int .i64 A.1, .int .i64 A.2] 24)) d0) d os
      have r3 := fun d os => cell_regrown (cell_later (b1 wr (.cells #[.int .i64 A.1, .int .i64 A.2] 24)) d1) d os
      have KC : Hid (∀ (W : World) (d : Nat) (os : Array Obj), Calls Try.prog 76 #[.agg #[.int .i64 A.1, .int .i64 A.2], .agg #[.int .i64 C.1, .int .i64 C.2]] (grow (redrawn W d) os) fun e w'' => e = .returned (.bool lb) ∧ ∃ p : Regrown, w'' = grow (redrawn W p.d) p.os) :=
        Lib.hid (fun W d os => Calls.regrown_of (KL.out _))
      clear e0 e1 d0 d1
      go_wp2_with fail
      clear c0 c1
      generalize wr.alloc (.cells #[.int .i64 A.1, .int .i64 A.2] 24) = W1 at *
      refine wp_region_quiet_below (by assumption) (by kernel_rfl) ?_
      repeat (go_big_quiet_step ((go_at_call 76; with_reducible exact KC.out _ _ _)))
      refine wpQuiet_nil ?_
      rintro _ ⟨pg, rfl⟩
      have HB2 := Lib.hid (HB1.out.trans ((below_regrown W1 pg.d pg.os).mono HB1.out.size))
      clear r0 r1 r2 r3 KC
      generalize grow (redrawn W1 pg.d) pg.os = w5 at *
      cases lb
      · have HJ2 : Hid (fsI (ptA L) (k + 1) = j) := Lib.hid (by rw [HJ.out]; rfl)
        go_wp2_with fail
        go_roundg gr
        case measure => omega
        case rel => exact ⟨k + 1, by omega, by go_num, by rw [HJ2.out], HB2⟩
      · have HJ2 : Hid (fsI (ptA L) (k + 1) = k) := Lib.hid (by rw [HJ.out]; rfl)
        go_wp2_with fail
        go_roundg gr
        case measure => omega
        case rel => exact ⟨k + 1, by omega, by go_num, by rw [HJ2.out], HB2⟩
end Go.Proofs.Ytkibjbbhiclkmaa
