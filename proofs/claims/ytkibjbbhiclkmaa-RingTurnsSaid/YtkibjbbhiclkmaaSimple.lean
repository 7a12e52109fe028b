/- The walk of ring.Simple. -/
import Derived.Test.YtkibjbbhiclkmaaFromLeast
import Derived.Test.YtkibjbbhiclkmaaMeet
import Derived.Test.YtkibjbbhiclkmaaFit
import Derived.WalkMore
import Derived.ScopeJumps
import Derived.Deep.LoopGhost
namespace Go.Proofs.Ytkibjbbhiclkmaa
open Go.RowKit Go.Shelf

def SimR (n : Nat) (e f : Ed) : Prop := meetV e f = true → fitV n e f = true
instance (n : Nat) : DecidableRel (SimR n) := fun _ _ => inferInstanceAs (Decidable (_ → _))
/-- All edges with their places. -/
def allE (L : List (Int × Int)) : List Ed := (List.range L.length).map fun i => (i, edA L i)
def simB (L : List (Int × Int)) : Bool := decide (3 ≤ L.length) && okL L && decide ((allE L).Pairwise (SimR L.length))

/-- An edge's cells. -/
structure EdAt (W : World) (g o : Nat) (e : Ed) : Prop where
  c0 : W.cell? ⟨g, o, none⟩ = some (.int .i64 (e.1 : Int))
  c1 : W.cell? ⟨g, o + 1, none⟩ = some (.int .i64 e.2.1.1)
  c2 : W.cell? ⟨g, o + 2, none⟩ = some (.int .i64 e.2.1.2)
  c3 : W.cell? ⟨g, o + 3, none⟩ = some (.int .i64 e.2.2.1)
  c4 : W.cell? ⟨g, o + 4, none⟩ = some (.int .i64 e.2.2.2)
  c5 : W.cell? ⟨g, o + 5, none⟩ = some (.int .i64 e.lx)
  c6 : W.cell? ⟨g, o + 6, none⟩ = some (.int .i64 e.ly)
  c7 : W.cell? ⟨g, o + 7, none⟩ = some (.int .i64 e.hx)
  c8 : W.cell? ⟨g, o + 8, none⟩ = some (.int .i64 e.hy)
theorem EdAt.later {W w1 : World} {g o : Nat} {e : Ed} (hb : Below W.heap.size W w1) (h : EdAt W g o e) : EdAt w1 g o e :=
  ⟨cell_later hb h.c0, cell_later hb h.c1, cell_later hb h.c2, cell_later hb h.c3, cell_later hb h.c4, cell_later hb h.c5, cell_later hb h.c6, cell_later hb h.c7, cell_later hb h.c8⟩
def edx (M : List Ed) (i : Nat) : Ed := M.getD i (0, (0, 0), (0, 0))
theorem meetV_comm (x y : Ed) : meetV y x = meetV x y := by
  unfold meetV
  rw [Bool.eq_iff_iff]
  simp only [Bool.and_eq_true, decide_eq_true_eq]
  constructor <;> (rintro ⟨⟨⟨a, b⟩, c⟩, d⟩; exact ⟨⟨⟨b, a⟩, d⟩, c⟩)
theorem fitV_comm (n : Nat) (x y : Ed) : fitV n y x = fitV n x y := by
  unfold fitV
  rw [(clsV_swap x.2.1.1 x.2.1.2 x.2.2.1 x.2.2.2 y.2.1.1 y.2.1.2 y.2.2.1 y.2.2.2).1, (clsV_swap x.2.1.1 x.2.1.2 x.2.2.1 x.2.2.2 y.2.1.1 y.2.1.2 y.2.2.1 y.2.2.2).2, show nbB n y.1 x.1 = nbB n x.1 y.1 from by unfold nbB; rw [Bool.or_comm]]
theorem simR_symm {n : Nat} {x y : Ed} (h : SimR n x y) : SimR n y x := by
  unfold SimR at *
  rw [meetV_comm, fitV_comm]; exact h
theorem edx_at {M : List Ed} {i : Nat} (h : i < M.length) : edx M i = M[i] := by unfold edx; rw [List.getD_eq_getElem?_getD, List.getElem?_eq_getElem h]; rfl
theorem sim_all {L : List (Int × Int)} {M : List Ed} (hp : M.Perm (allE L)) : (allE L).Pairwise (SimR L.length) ↔ ∀ i j, i < j → j < L.length → SimR L.length (edx M i) (edx M j) := by
  have hl : M.length = L.length := by rw [hp.length_eq]; unfold allE; rw [List.length_map, List.length_range]
  rw [← hp.pairwise_iff (fun h => simR_symm h), List.pairwise_iff_getElem]
  constructor
  · intro h i j hij hj
    rw [edx_at (by omega), edx_at (by omega)]
    exact h i j (by omega) (by omega) hij
  · intro h i j hi hj hij
    rw [← edx_at hi, ← edx_at hj]
    exact h i j hij (by omega)
theorem sim_far {n : Nat} {x y : Ed} (h : x.hx < y.lx) : SimR n x y := by
  intro hm
  unfold meetV at hm
  simp only [Bool.and_eq_true, decide_eq_true_eq] at hm
  omega
theorem edx_place {L : List (Int × Int)} {M : List Ed} (hp : M.Perm (allE L)) {i : Nat} (h : i < L.length) : (edx M i).1 < L.length := by
  have hl : M.length = L.length := by rw [hp.length_eq]; unfold allE; rw [List.length_map, List.length_range]
  rw [edx_at (by omega)]
  have := hp.mem_iff.1 (List.getElem_mem (show i < M.length by omega))
  unfold allE at this
  rw [List.mem_map] at this
  obtain ⟨a, ha, e⟩ := this
  rw [← e]
  exact List.mem_range.1 ha
theorem edx_lx {L : List (Int × Int)} {M : List Ed} (hp : M.Perm (allE L)) (hs : M.Pairwise (fun p q => p.lx ≤ q.lx)) {i j : Nat} (hij : i ≤ j) (h : j < L.length) : (edx M i).lx ≤ (edx M j).lx := by
  have hl : M.length = L.length := by rw [hp.length_eq]; unfold allE; rw [List.length_map, List.length_range]
  by_cases he : i = j
  · subst he; exact Int.le_refl _
  · rw [edx_at (by omega), edx_at (by omega)]
    exact List.pairwise_iff_getElem.1 hs i j (by omega) (by omega) (by omega)
theorem encEd_len (e : Ed) : (encEd e).length = 9 := rfl
theorem own_eds {W : World} {base n uc : Nat} {T : TypeId} {up : Option Addr} {M : List Ed} (h : W.ownsRow base T 9 (.slice up n uc) n (edCells M)) (hn : M.length = n) (h0 : 0 < n) :
    ∃ g, up = some ⟨g, 0, none⟩ ∧ base ≤ g ∧ g < W.heap.size ∧ n ≤ uc ∧ ∀ k, k < n → EdAt W g (k * 9) (edx M k) := by
  rcases h.2 with ⟨_, e0⟩ | ⟨g, cap, cur, e0, hb, hg, hc, hm, hs, ht⟩
  · omega
  · injection e0 with e1 _ e3
    subst e1; subst e3
    refine ⟨g, rfl, hb, (Array.getElem?_eq_some_iff.1 hg).1, hc, fun k hk => ?_⟩
    have key : ∀ j, j < 9 → W.cell? ⟨g, k * 9 + j, none⟩ = (encEd (edx M k))[j]? := by
      intro j hj
      have hkM : k < M.length := by omega
      have e4 := flatMap_at encEd_len M k j hkM hj
      have e5 : edx M k = M[k] := by unfold edx; rw [List.getD_eq_getElem?_getD, List.getElem?_eq_getElem hkM]; rfl
      rw [e5, ← e4]
      show _ = (edCells M)[k * 9 + j]?
      rw [← ht, List.getElem?_take_of_lt (by omega), Array.getElem?_toList]
      simp [World.cell?, hg]
    exact ⟨key 0 (by omega), key 1 (by omega), key 2 (by omega), key 3 (by omega), key 4 (by omega), key 5 (by omega), key 6 (by omega), key 7 (by omega), key 8 (by omega)⟩

set_option maxRecDepth 100000 in
set_option maxHeartbeats 1000000 in
theorem simple_few (v : Value) (L : List (Int × Int)) (w : World) (h3 : L.length < 3) (hI : PL w v L) :
    Calls Try.prog 33 #[v] w fun e w' => e = .returned (.bool false) ∧ Below w.heap.size w w' := by
  obtain ⟨p, cap, rfl, hcap, _⟩ := hI
  have hd : decide ((L.length : Int) < 3) = true := by simp; omega
  go_enter Try.func33, Try.ntmps33
  go_wp2_with fail
  go_step3
  go_wp2_with fail
  rw [Exit.noGoto_ret]
  go_ret
  exact ⟨rfl, Below.refl _ _⟩
set_option maxRecDepth 100000 in
set_option maxHeartbeats 1000000 in
theorem simple_not (v : Value) (L : List (Int × Int)) (w : World) (hL : L.length ≤ 1000) (h3 : 3 ≤ L.length) (hok : okL L = false) (hI : PL w v L) :
    Calls Try.prog 33 #[v] w fun e w' => e = .returned (.bool false) ∧ Below w.heap.size w w' := by
  have hR := right_pl hI (by omega)
  obtain ⟨p, cap, rfl, hcap, _⟩ := hI
  have hd : decide ((L.length : Int) < 3) = false := by simp; omega
  rw [hok] at hR
  have HR := Lib.hid hR
  clear hR
  go_enter Try.func33, Try.ntmps33
  go_wp2_with fail
  go_step3
  go_wp2_with fail
  refine HR.out.mono ?_
  rintro e w1 ⟨rfl, hb1⟩
  go_wp2_with fail
  rw [Exit.noGoto_ret]
  go_ret
  exact ⟨rfl, hb1⟩

/-- Where the run jumps to. -/
def SimJ (w : World) (a : Act) (W : World) : Prop := ∃ x0 x1 x2 x3 x4 x5 x6 x7 x8 x9 x10 x11 x12 x13 x14 x15 x16 x17 x18 x19 x20 x21 x22 x23 x24 x25 x26 x27 x28 x29 x30 x31 x32 x33 x34 x35 x36 x37 x38 x39 x40 x41 x42 x43 x44 x45 x46 x47 x48 x49 x50 x51 x52 x53 : Value, a = { tmps := #[x0, x1, x2, x3, x4, x5, x6, x7, x8, x9, x10, x11, x12, x13, x14, x15, x16, x17, x18, x19, x20, x21, x22, x23, x24, x25, x26, x27, x28, x29, x30, x31, x32, x33, x34, x35, x36, x37, x38, x39, x40, x41, x42, x43, x44, x45, x46, x47, x48, x49, x50, x51, x52, x53], defers := [] } ∧ Below w.heap.size w W

set_option maxRecDepth 100000 in
set_option maxHeartbeats 4000000 in
theorem simple_main (v : Value) (L : List (Int × Int)) (w : World) (hL : L.length ≤ 1000) (h3 : 3 ≤ L.length) (hok : okL L = true) (hI : PL w v L) :
    Calls Try.prog 33 #[v] w fun e w' => e = .returned (.bool (decide ((allE L).Pairwise (SimR L.length)))) ∧ Below w.heap.size w w' := by
  have hR := right_pl hI (by omega)
  rw [hok] at hR
  have HR := Lib.hid hR
  have HI := Lib.hid hI
  obtain ⟨p, cap, rfl, hcap, _⟩ := hI
  have hd : decide ((L.length : Int) < 3) = false := by simp; omega
  clear hR
  go_enter Try.func33, Try.ntmps33
  go_wp2_with fail
  apply wp_scope_jumps (l := 0) (J := fun a W => SimJ w a W ∧ ¬ (allE L).Pairwise (SimR L.length)) (μ := fun _ _ => 0) (hf := rfl)
  case pass =>
    rintro a W ⟨⟨x0, x1, x2, x3, x4, x5, x6, x7, x8, x9, x10, x11, x12, x13, x14, x15, x16, x17, x18, x19, x20, x21, x22, x23, x24, x25, x26, x27, x28, x29, x30, x31, x32, x33, x34, x35, x36, x37, x38, x39, x40, x41, x42, x43, x44, x45, x46, x47, x48, x49, x50, x51, x52, x53, rfl, hb⟩, hn⟩
    go_wp2_with fail
    simp only [Exit.jump]
    go_ret
    exact ⟨ret_bool (by simpa using hn), hb⟩
  case first =>
    go_wp2_with fail
    refine HR.out.mono ?_
    rintro e w1 ⟨rfl, hb1⟩
    have KF := Lib.hid (fromleast_any _ L w1 hL (by omega) hok (HI.out.keep hb1))
    have HB1 := Lib.hid hb1
    clear hb1 HR
    go_wp2_with fail
    refine KF.out.mono ?_
    rintro e w2 ⟨u, M, rfl, m1, m2, m3, hb2⟩
    have hlen : M.length = L.length := by rw [m1.length_eq, List.length_map, List.length_range]
    obtain ⟨up, uc, rfl⟩ := own_slice m3
    obtain ⟨g, rfl, hg1, hg2, huc, hE⟩ := own_eds m3 hlen (by omega)
    have HB2 := Lib.hid (HB1.out.trans (hb2.mono HB1.out.size))
    have M1 : Hid (M.Perm (allE L)) := Lib.hid m1
    have M2 := Lib.hid m2
    have HE := Lib.hid hE
    have HLen := Lib.hid hlen
    clear m1 m2 m3 hb2 KF hE hlen
    go_wp2_with fail
    go_loopg [20] L.length (fun gk i wx => ∃ k : Nat, k + gk = L.length ∧ i = .int .i64 (k : Int) ∧ Hid (Below w2.heap.size w2 wx) ∧ Hid (∀ i j, i < k → i < j → j < L.length → SimR L.length (edx M i) (edx M j)))
    case atStart => exact ⟨0, by omega, rfl, Lib.hid (Below.refl _ _), Lib.hid (by intro i j h; omega)⟩
    case round =>
      obtain ⟨k, hkg, rfl, HB, HP⟩ := hrel
      cases gk with
      | zero =>
        have hkz : ¬ ((k : Int) < (L.length : Int)) := by omega
        have hfin : Hid ((allE L).Pairwise (SimR L.length)) := Lib.hid ((sim_all M1.out).2 fun i j hij hj => HP.out i j (by omega) hij hj)
        go_wp2_with fail
        simp only [Exit.jump]
        go_ret
        exact ⟨ret_bool (by simpa using hfin.out), HB2.out.trans (HB.out.mono HB2.out.size)⟩
      | succ gr =>
        have hkz : (k : Int) < (L.length : Int) := by omega
        have hkn : k < L.length := by omega
        obtain ⟨c0, c1, c2, c3, c4, c5, c6, c7, c8⟩ := (HE.out k hkn).later HB.out
        have x1 : IntKind.i64.wrap ((k : Int) + 1) = (k : Int) + 1 := IntWalk.i64_in _ (by omega)
        have hgw : g < wr.heap.size := Nat.lt_of_lt_of_le hg2 HB.out.size
        have hkn2 : k ≤ L.length := by omega
        have hku : k + 1 ≤ uc := by omega
        have hB9 : EdAt (wr.alloc (.cells #[.int .i64 ((edx M k).1 : Int), .int .i64 (edx M k).2.1.1, .int .i64 (edx M k).2.1.2, .int .i64 (edx M k).2.2.1, .int .i64 (edx M k).2.2.2, .int .i64 (edx M k).lx, .int .i64 (edx M k).ly, .int .i64 (edx M k).hx, .int .i64 (edx M k).hy] 94)) wr.heap.size 0 (edx M k) :=
          ⟨by go_simp, by go_simp, by go_simp, by go_simp, by go_simp, by go_simp, by go_simp, by go_simp, by go_simp⟩
        have HB9 := Lib.hid hB9
        have HBW : Hid (Below w2.heap.size w2 (wr.alloc (.cells #[.int .i64 ((edx M k).1 : Int), .int .i64 (edx M k).2.1.1, .int .i64 (edx M k).2.1.2, .int .i64 (edx M k).2.2.1, .int .i64 (edx M k).2.2.2, .int .i64 (edx M k).lx, .int .i64 (edx M k).ly, .int .i64 (edx M k).hx, .int .i64 (edx M k).hy] 94))) := Lib.hid (HB.out.trans ((b1 _ _).mono HB.out.size))
        clear hB9
        by_cases huc1 : uc = k + 1
        · subst huc1
          go_wp2_with fail
          generalize wr.alloc (.cells #[.int .i64 ((edx M k).1 : Int), .int .i64 (edx M k).2.1.1, .int .i64 (edx M k).2.1.2, .int .i64 (edx M k).2.2.1, .int .i64 (edx M k).2.2.2, .int .i64 (edx M k).lx, .int .i64 (edx M k).ly, .int .i64 (edx M k).hx, .int .i64 (edx M k).hy] 94) = w3 at *
          have hzz : ((L.length - (k + 1) : Nat) : Int) = 0 := by omega
          clear c0 c1 c2 c3 c4 c5 c6 c7 c8
          go_loopg [30] 0 (fun gk i wx => i = .int .i64 0 ∧ Hid (Below w2.heap.size w2 wx))
          case atStart => exact ⟨rfl, HBW⟩
          case round =>
            obtain ⟨rfl, HB4⟩ := hrel
            go_wp2_with fail
            go_roundg gr
            case measure => omega
            case rel => exact ⟨k + 1, by omega, by go_num, HB4, Lib.hid fun i j hi hij hj => by
              by_cases hik : i < k
              · exact HP.out i j hik hij hj
              · omega⟩
        · go_wp2_with fail
          generalize wr.alloc (.cells #[.int .i64 ((edx M k).1 : Int), .int .i64 (edx M k).2.1.1, .int .i64 (edx M k).2.1.2, .int .i64 (edx M k).2.2.1, .int .i64 (edx M k).2.2.2, .int .i64 (edx M k).lx, .int .i64 (edx M k).ly, .int .i64 (edx M k).hx, .int .i64 (edx M k).hy] 94) = w3 at *
          clear c0 c1 c2 c3 c4 c5 c6 c7 c8
          generalize hek : edx M k = e at *
          have HEk := Lib.hid hek
          clear hek
          generalize wr.heap.size = Bx at *
          go_loopg [30] (L.length - (k + 1)) (fun gk i wx => ∃ m : Nat, m + gk = L.length - (k + 1) ∧ i = .int .i64 (m : Int) ∧ Hid (Below w3.heap.size w3 wx) ∧ Hid (∀ j, k < j → j < k + 1 + m → SimR L.length e (edx M j)))
          case atStart => exact ⟨0, by omega, rfl, Lib.hid (Below.refl _ _), Lib.hid (by intro j h1 h2; omega)⟩
          case round =>
            obtain ⟨m, hmg, rfl, HB4, HQ⟩ := hrel
            cases gk with
            | zero =>
              have hmz : ¬ ((m : Int) < ((L.length - (k + 1) : Nat) : Int)) := by omega
              go_wp2_with fail
              go_roundg gr
              case measure => omega
              case rel => exact ⟨k + 1, by omega, by go_num, Lib.hid (HBW.out.trans (HB4.out.mono HBW.out.size)), Lib.hid fun i j hi hij hj => by
                by_cases hik : i < k
                · exact HP.out i j hik hij hj
                · obtain rfl : i = k := by omega
                  rw [HEk.out]
                  exact HQ.out j (by omega) (by omega)⟩
            | succ gs =>
              have hmz : (m : Int) < ((L.length - (k + 1) : Nat) : Int) := by omega
              have hmn : m < L.length - (k + 1) := by omega
              have hf := (HE.out (k + 1 + m) (by omega)).later HBW.out
              have hf := hf.later HB4.out
              rw [show (k + 1 + m) * 9 = (k + 1) * 9 + m * 9 from by omega] at hf
              obtain ⟨d0, d1, d2, d3, d4, d5, d6, d7, d8⟩ := hf
              have hpl1 : Hid (e.1 < L.length) := Lib.hid (by rw [← HEk.out]; exact edx_place M1.out hkn)
              have hpl2 : Hid ((edx M (k + 1 + m)).1 < L.length) := Lib.hid (edx_place M1.out (by omega))
              have HLX : Hid (∀ j, k + 1 + m ≤ j → j < L.length → (edx M (k + 1 + m)).lx ≤ (edx M j).lx) := Lib.hid fun j h1 h2 => edx_lx M1.out M2.out h1 h2
              have HNot : Hid (¬ SimR L.length e (edx M (k + 1 + m)) → ¬ (allE L).Pairwise (SimR L.length)) := Lib.hid fun h1 h2 => h1 (by rw [← HEk.out]; exact (sim_all M1.out).1 h2 k (k + 1 + m) (by omega) (by omega))
              generalize hff : edx M (k + 1 + m) = f at *
              have HFf := Lib.hid hff
              clear hff
              have hb9 := b1 wr (.cells #[.int .i64 (f.1 : Int), .int .i64 f.2.1.1, .int .i64 f.2.1.2, .int .i64 f.2.2.1, .int .i64 f.2.2.2, .int .i64 f.lx, .int .i64 f.ly, .int .i64 f.hx, .int .i64 f.hy] 94)
              obtain ⟨e0, e1, e2, e3, e4, e5, e6, e7, e8⟩ := (HB9.out.later HB4.out).later hb9
              simp only [Nat.zero_add] at e1 e2 e3 e4 e5 e6 e7 e8
              have HB5 := Lib.hid (HB4.out.trans (hb9.mono HB4.out.size))
              have x2 : IntKind.i64.wrap ((m : Int) + 1) = (m : Int) + 1 := IntWalk.i64_in _ (by omega)
              clear hb9
              have HBO := Lib.hid (HB2.out.trans (HBW.out.mono HB2.out.size))
              cases gx : decide (e.hx < f.lx)
              · have hfb : EdAt (wr.alloc (.cells #[.int .i64 (f.1 : Int), .int .i64 f.2.1.1, .int .i64 f.2.1.2, .int .i64 f.2.2.1, .int .i64 f.2.2.2, .int .i64 f.lx, .int .i64 f.ly, .int .i64 f.hx, .int .i64 f.hy] 94)) wr.heap.size 0 f :=
                  ⟨by go_simp, by go_simp, by go_simp, by go_simp, by go_simp, by go_simp, by go_simp, by go_simp, by go_simp⟩
                have HFB := Lib.hid hfb
                have HEB : Hid (EdAt (wr.alloc (.cells #[.int .i64 (f.1 : Int), .int .i64 f.2.1.1, .int .i64 f.2.1.2, .int .i64 f.2.2.1, .int .i64 f.2.2.2, .int .i64 f.lx, .int .i64 f.ly, .int .i64 f.hx, .int .i64 f.hy] 94)) Bx 0 e) := Lib.hid ⟨e0, e1, e2, e3, e4, e5, e6, e7, e8⟩
                clear hfb
                go_wp2_with fail
                refine (meets_any e f _).mono ?_
                rintro ed w6 ⟨rfl, hb6⟩
                have HB6 := Lib.hid (HB5.out.trans (hb6.mono HB5.out.size))
                clear e0 e1 e2 e3 e4 e5 e6 e7 e8 d0 d1 d2 d3 d4 d5 d6 d7 d8
                obtain ⟨e0, e1, e2, e3, e4, e5, e6, e7, e8⟩ := HEB.out.later hb6
                obtain ⟨d0, d1, d2, d3, d4, d5, d6, d7, d8⟩ := HFB.out.later hb6
                simp only [Nat.zero_add] at e1 e2 e3 e4 e5 e6 e7 e8 d1 d2 d3 d4 d5 d6 d7 d8
                clear hb6
                generalize wr.heap.size = Bf at *
                cases hm : meetV e f
                · have HM := Lib.hid hm
                  go_wp2_with fail
                  go_roundg gs
                  case measure => omega
                  case rel => exact ⟨m + 1, by omega, by go_num, HB6, Lib.hid fun j hi hij => by
                    by_cases hjm : j < k + 1 + m
                    · exact HQ.out j hi hjm
                    · obtain rfl : j = k + 1 + m := by omega
                      rw [HFf.out]
                      intro h7
                      rw [HM.out] at h7; cases h7⟩
                · have HM := Lib.hid hm
                  go_wp2_with fail
                  refine (fit_any L.length e f (by omega) hpl1.out hpl2.out _).mono ?_
                  rintro ed w7 ⟨rfl, hb7⟩
                  have HB7 := Lib.hid (HB6.out.trans (hb7.mono HB6.out.size))
                  clear e0 e1 e2 e3 e4 e5 e6 e7 e8 d0 d1 d2 d3 d4 d5 d6 d7 d8 hb7
                  cases hv : fitV L.length e f
                  · have HVf := Lib.hid hv
                    go_wp2_with fail
                    go_step3
                    exact ⟨rfl, ⟨_, _, _, _, _, _, _, _, _, _, _, _, _, _, _, _, _, _, _, _, _, _, _, _, _, _, _, _, _, _, _, _, _, _, _, _, _, _, _, _, _, _, _, _, _, _, _, _, _, _, _, _, _, _, rfl, HBO.out.trans (HB7.out.mono HBO.out.size)⟩, HNot.out (fun h7 => by have := h7 HM.out; rw [HVf.out] at this; cases this)⟩
                  · have HVf := Lib.hid hv
                    go_wp2_with fail
                    go_roundg gs
                    case measure => omega
                    case rel => exact ⟨m + 1, by omega, by go_num, HB7, Lib.hid fun j hi hij => by
                      by_cases hjm : j < k + 1 + m
                      · exact HQ.out j hi hjm
                      · obtain rfl : j = k + 1 + m := by omega
                        rw [HFf.out]
                        exact fun _ => HVf.out⟩
              · go_wp2_with fail
                go_roundg gr
                case measure => omega
                case rel => exact ⟨k + 1, by omega, by go_num, Lib.hid (HBW.out.trans (HB5.out.mono HBW.out.size)), Lib.hid fun i j hi hij hj => by
                  by_cases hik : i < k
                  · exact HP.out i j hik hij hj
                  · obtain rfl : i = k := by omega
                    rw [HEk.out]
                    by_cases hjm : j < i + 1 + m
                    · exact HQ.out j (by omega) hjm
                    · have h9 := HLX.out j (by omega) hj
                      have h8 : e.hx < f.lx := by simpa using gx
                      exact sim_far (by omega)⟩
theorem simple_any (v : Value) (L : List (Int × Int)) (w : World) (hL : L.length ≤ 1000) (hI : PL w v L) :
    Calls Try.prog 33 #[v] w fun e w' => e = .returned (.bool (simB L)) ∧ Below w.heap.size w w' := by
  by_cases h3 : 3 ≤ L.length
  · cases hok : okL L
    · have e : simB L = false := by unfold simB; rw [hok]; simp
      rw [e]; exact simple_not v L w hL h3 hok hI
    · have e : simB L = decide ((allE L).Pairwise (SimR L.length)) := by unfold simB; rw [hok]; simp [h3]
      rw [e]; exact simple_main v L w hL h3 hok hI
  · have e : simB L = false := by unfold simB; simp [h3]
    rw [e]; exact simple_few v L w (by omega) hI
end Go.Proofs.Ytkibjbbhiclkmaa
