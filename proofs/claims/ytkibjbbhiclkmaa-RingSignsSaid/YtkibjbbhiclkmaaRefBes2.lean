/- The walk of the document's Beside. -/
import Derived.Test.YtkibjbbhiclkmaaRefBes
import Derived.Test.YtkibjbbhiclkmaaOwn
import Derived.Test.YtkibjbbhiclkmaaWinding
namespace Go.Proofs.Ytkibjbbhiclkmaa
open Go.RowKit Go.Sort

/-- Both ends' boxes, and the middle. -/
structure BbT (w W : World) (a b m : Int × Int) : Prop where
  a0 : W.cell? ⟨w.heap.size, 0, none⟩ = some (.int .i64 a.1)
  a1 : W.cell? ⟨w.heap.size, 1, none⟩ = some (.int .i64 a.2)
  b0 : W.cell? ⟨w.heap.size + 1, 0, none⟩ = some (.int .i64 b.1)
  b1 : W.cell? ⟨w.heap.size + 1, 1, none⟩ = some (.int .i64 b.2)
  m0 : W.cell? ⟨w.heap.size + 1 + 1, 0, none⟩ = some (.int .i64 m.1)
  m1 : W.cell? ⟨w.heap.size + 1 + 1, 1, none⟩ = some (.int .i64 m.2)
  below : Below w.heap.size w W
theorem BbT.later {w W w1 : World} {a b m : Int × Int} (h : BbT w W a b m) (hb : Below W.heap.size W w1) : BbT w w1 a b m :=
  ⟨cell_later hb h.a0, cell_later hb h.a1, cell_later hb h.b0, cell_later hb h.b1, cell_later hb h.m0, cell_later hb h.m1, h.below.trans (hb.mono h.below.size)⟩
theorem BbT.drew {w W : World} {a b m : Int × Int} (h : BbT w W a b m) : BbT w W.drew a b m := ⟨h.a0, h.a1, h.b0, h.b1, h.m0, h.m1, h.below.drew⟩
theorem BbT.size {w W : World} {a b m : Int × Int} (h : BbT w W a b m) : w.heap.size + 3 ≤ W.heap.size := World.block_lt_of_cell? W ⟨w.heap.size + 1 + 1, 0, none⟩ h.m0
theorem BbT.put {w W : World} {a b m : Int × Int} {k : Nat} (x y : Int) (hk : w.heap.size + 3 ≤ k) (h : BbT w W a b m) : BbT w (Put W k x y) a b m :=
  ⟨(Put.other _ _ _ _ (by omega)).trans h.a0, (Put.other _ _ _ _ (by omega)).trans h.a1, (Put.other _ _ _ _ (by omega)).trans h.b0, (Put.other _ _ _ _ (by omega)).trans h.b1, (Put.other _ _ _ _ (by omega)).trans h.m0, (Put.other _ _ _ _ (by omega)).trans h.m1, Put.below x y h.below (by omega)⟩
/-- .. and an edge's. -/
def BbS (w W : World) (k0 k1 : Nat) (a b m p q : Int × Int) : Prop := Ow W (w.heap.size + 3) k0 p.1 p.2 ∧ Ow W (w.heap.size + 3) k1 q.1 q.2 ∧ k0 ≠ k1 ∧ BbT w W a b m
theorem BbS.one {w W : World} {a b m p q : Int × Int} {T : TypeId} (h : BbT w W a b m) : BbS w (((W.alloc (.cells #[.int .i64 p.1, .int .i64 p.2] T)).alloc (.cells #[.int .i64 q.1, .int .i64 q.2] T))) W.heap.size (W.heap.size + 1) a b m p q :=
  ⟨(Ow.new W _ T p.1 p.2 h.size).keep (b1 _ _), by have := Ow.new (W.alloc (.cells #[.int .i64 p.1, .int .i64 p.2] T)) (w.heap.size + 3) T q.1 q.2 (by have := h.size; simp <;> omega); rw [World.size_alloc] at this; exact this, by omega, h.later (b2 _ _ _)⟩
theorem BbS.two {w W : World} {a b m p q : Int × Int} {T : TypeId} (h : BbT w W a b m) : BbS w (((W.alloc (.cells #[.int .i64 q.1, .int .i64 q.2] T)).alloc (.cells #[.int .i64 p.1, .int .i64 p.2] T))) (W.heap.size + 1) W.heap.size a b m p q :=
  ⟨by have := Ow.new (W.alloc (.cells #[.int .i64 q.1, .int .i64 q.2] T)) (w.heap.size + 3) T p.1 p.2 (by have := h.size; simp <;> omega); rw [World.size_alloc] at this; exact this, (Ow.new W _ T q.1 q.2 h.size).keep (b1 _ _), by omega, h.later (b2 _ _ _)⟩
theorem BbS.drew {w W : World} {k0 k1 : Nat} {a b m p q : Int × Int} (h : BbS w W k0 k1 a b m p q) : BbS w W.drew k0 k1 a b m p q := ⟨h.1.drew, h.2.1.drew, h.2.2.1, h.2.2.2.drew⟩
theorem BbS.put {w W : World} {k0 k1 : Nat} {a b m p q : Int × Int} (x y u v : Int) (h : BbS w W k0 k1 a b m p q) : BbS w (Put (Put W k0 x y) k1 u v) k0 k1 a b m (x, y) (u, v) :=
  ⟨(h.1.put x y).other u v h.2.2.1, (h.2.1.other x y h.2.2.1.symm).put u v, h.2.2.1, (h.2.2.2.put x y h.1.1).put u v h.2.1.1⟩

def midp (a b : Int × Int) : Int × Int := (a.1 + b.1, a.2 + b.2)
def d2 (p : Int × Int) : Int × Int := (2 * p.1, 2 * p.2)
def nxA (L : List (Int × Int)) (i : Nat) : Int × Int := ptA L ((i + 1) % L.length)
/-- What an edge counts, and whether it has the middle. -/
def rbE (L : List (Int × Int)) (a b : Int × Int) (i : Nat) : Int := rablV (d2 (ptA L i)) (d2 (nxA L i)) (midp a b) (a.2 - b.2, b.1 - a.1)
def rbH (a b p q : Int × Int) : Bool := !((2 * q.1 - 2 * p.1) * (b.2 - a.2) == (2 * q.2 - 2 * p.2) * (b.1 - a.1)) && onI (2 * p.1) (2 * p.2) (2 * q.1) (2 * q.2) (a.1 + b.1) (a.2 + b.2)
def rhE (L : List (Int × Int)) (a b : Int × Int) (i : Nat) : Bool := rbH a b (ptA L i) (nxA L i)
theorem rbE_in (L : List (Int × Int)) (a b : Int × Int) (i : Nat) : -1 ≤ rbE L a b i ∧ rbE L a b i ≤ 1 := vW_in _ _ _
def RbPost (L : List (Int × Int)) (a b : Int × Int) (w : World) (e : Ending) (w' : World) : Prop :=
  ((∃ i, i < L.length ∧ rhE L a b i = true) ∧ e = .returned (.tuple #[.int .i64 0, .bool false]) ∨ (¬ ∃ i, i < L.length ∧ rhE L a b i = true) ∧ e = .returned (.tuple #[.int .i64 (sm (rbE L a b) L.length), .bool true])) ∧ Below w.heap.size w w'

set_option maxRecDepth 100000 in
set_option maxHeartbeats 4000000 in
theorem rbeside_any {w : World} {v : Value} {L : List (Int × Int)} (a b : Int × Int) (hI : PL w v L) (hL : L.length ≤ 50) (hok : okL L = true) (ha : okp a.1 a.2 = true) (hb : okp b.1 b.2 = true) :
    Calls Try.prog 21 #[v, .agg #[.int .i64 a.1, .int .i64 a.2], .agg #[.int .i64 b.1, .int .i64 b.2]] w (RbPost L a b w) := by
  obtain ⟨pp, cap, rfl, hc, hi⟩ := hI
  have HI := Lib.hid hi
  have ha' := okp_yes ha
  have hb' := okp_yes hb
  clear hi ha hb
  have x1 : IntKind.i64.wrap (a.1 + b.1) = a.1 + b.1 := IntWalk.i64_in _ (by omega)
  have x2 : IntKind.i64.wrap (a.2 + b.2) = a.2 + b.2 := IntWalk.i64_in _ (by omega)
  have x3 : IntKind.i64.wrap (a.2 - b.2) = a.2 - b.2 := IntWalk.i64_in _ (by omega)
  have x4 : IntKind.i64.wrap (b.1 - a.1) = b.1 - a.1 := IntWalk.i64_in _ (by omega)
  have x5 : IntKind.i64.wrap (b.2 - a.2) = b.2 - a.2 := IntWalk.i64_in _ (by omega)
  have HO0 : Hid (BbT w (((w.alloc (.cells #[.int .i64 a.1, .int .i64 a.2] 32)).alloc (.cells #[.int .i64 b.1, .int .i64 b.2] 32)).alloc (.cells #[.int .i64 (a.1 + b.1), .int .i64 (a.2 + b.2)] 32)) a b (midp a b)) :=
    Lib.hid ⟨by go_simp, by go_simp, by go_simp, by go_simp, by unfold midp; go_simp, by unfold midp; go_simp, (b2 _ _ _).trans ((b1 _ _).mono (by simp <;> omega))⟩
  have t1 : tw (a.1 + b.1) := by unfold tw; omega
  have t2 : tw (a.2 + b.2) := by unfold tw; omega
  have t3 : tw (a.2 - b.2) := by unfold tw; omega
  have t4 : tw (b.1 - a.1) := by unfold tw; omega
  have t5 : tw (b.2 - a.2) := by unfold tw; omega
  have TT := Lib.hid (And.intro t1 (And.intro t2 (And.intro t3 (And.intro t4 t5))))
  clear t1 t2 t3 t4 t5 ha' hb'
  go_enter Try.func21, Try.ntmps21
  go_wp2_with fail
  go_loopg [9, 10] L.length (fun gk s i wx => ∃ k : Nat, k + gk = L.length ∧ i = .int .i64 (k : Int) ∧ s = .int .i64 (sm (rbE L a b) k) ∧ Hid (∀ x, x < k → rhE L a b x = false) ∧ Hid (BbT w wx a b (midp a b)))
  case atStart => exact ⟨0, by omega, rfl, rfl, Lib.hid (fun x h => by omega), HO0⟩
  case round =>
    obtain ⟨k, hkg, rfl, rfl, HN, HB⟩ := hrel
    have hsk := sm_in (rbE L a b) 1 (rbE_in L a b) k
    have HS1 : Hid (sm (rbE L a b) (k + 1) = sm (rbE L a b) k + rbE L a b k) := Lib.hid rfl
    generalize hsg : sm (rbE L a b) k = s at *
    have HSG := Lib.hid hsg
    clear hsg
    cases gk with
    | zero =>
      have hkz : ¬ ((k : Int) < (L.length : Int)) := by omega
      have hk : k = L.length := by omega
      have HF : Hid (s = sm (rbE L a b) L.length) := Lib.hid (by rw [← HSG.out, hk])
      have HG : Hid (¬ ∃ i, i < L.length ∧ rhE L a b i = true) := Lib.hid (fun ⟨i, h1, h2⟩ => by rw [HN.out i (by omega)] at h2; cases h2)
      clear hsk hk
      go_wp2_with fail
      go_ret2
      exact ⟨Or.inr ⟨HG.out, by rw [HF.out]; rfl⟩, HB.out.below⟩
    | succ gr =>
      have hkz : (k : Int) < (L.length : Int) := by omega
      have hkn : k < L.length := by omega
      obtain ⟨b', off, rfl, hbl, c0, c1⟩ := HI.out k hkn
      obtain ⟨j, hj⟩ : ∃ j, j = (k + 1) % L.length := ⟨_, rfl⟩
      have hjn : j < L.length := by rw [hj]; exact Nat.mod_lt _ (by omega)
      obtain ⟨b'', off', e, _, d0, d1⟩ := HI.out j hjn
      obtain ⟨rfl, rfl⟩ : b'' = b' ∧ off' = off := by injection e with e; injection e with e1 e2; exact ⟨e1.symm, e2.symm⟩
      have hra : Hid (rbE L a b k = rablV (d2 L[k]) (d2 L[j]) (midp a b) (a.2 - b.2, b.1 - a.1)) := Lib.hid (by unfold rbE nxA; rw [← hj, ptA_at hkn, ptA_at hjn])
      have hrh : Hid (rhE L a b k = rbH a b L[k] L[j]) := Lib.hid (by unfold rhE nxA; rw [← hj, ptA_at hkn, ptA_at hjn])
      have hrb := rbE_in L a b k
      rw [hra.out] at hrb
      have x11 : IntKind.i64.wrap ((k : Int) + 1) = (k : Int) + 1 := IntWalk.i64_in _ (by omega)
      have x13 : ((k : Int) + 1) % (L.length : Int) = (j : Int) := by
        rw [show ((k : Int) + 1) % (L.length : Int) = (((k + 1) % L.length : Nat) : Int) from by push_cast; rfl, ← hj]
      have x12 : ((k : Int) + 1).tmod (L.length : Int) = (j : Int) := by rw [Int.tmod_eq_emod_of_nonneg (by omega)]; exact x13
      have x14 : IntKind.i64.wrap (j : Int) = (j : Int) := IntWalk.i64_in _ (by omega)
      have hn0 : ¬ (L.length : Int) = 0 := by omega
      have hn1 : ¬ L.length = 0 := by omega
      have hp1 := okL_at hok hkn
      have hp2 := okL_at hok hjn
      rw [ptA_at hkn] at hp1
      rw [ptA_at hjn] at hp2
      have hp1 := okp_yes hp1
      have hp2 := okp_yes hp2
      have c0 := cell_later HB.out.below c0
      have c1 := cell_later HB.out.below c1
      have d0 := cell_later HB.out.below d0
      have d1 := cell_later HB.out.below d1
      have hbw : b'' < wr.heap.size := Nat.lt_of_lt_of_le hbl HB.out.below.size
      have n1 : b'' ≠ wr.heap.size := by omega
      have n2 : b'' ≠ wr.heap.size + 1 := by omega
      clear hj
      generalize L[k] = P at *
      generalize L[j] = Q at *
      go_upto_region 6 with fail
      go_cut [11, 12] from 25 to 104 (fun s5 s6 wx => ∃ k0 k1 : Nat, s5 = .pointer (some ⟨k0, 0, none⟩) ∧ s6 = .pointer (some ⟨k1, 0, none⟩) ∧ BbS w wx k0 k1 a b (midp a b) P Q)
      case first =>
        go_region
        · go_wp2_with fail
          go_meet
          exact ⟨wr.heap.size, wr.heap.size + 1, rfl, rfl, (BbS.one HB.out).drew⟩
        · go_wp2_with fail
          go_meet
          exact ⟨wr.heap.size + 1, wr.heap.size, rfl, rfl, (BbS.two HB.out).drew⟩
      case rest =>
        obtain ⟨k0, k1, rfl, rfl, hQ⟩ := hcut
        have HQ1 := Lib.hid hQ
        obtain ⟨⟨_, e0, e1, e2, e3⟩, ⟨_, f0, f1, f2, f3⟩, hne, _⟩ := hQ
        have hne' : ¬ k1 = k0 := fun e => hne e.symm
        clear c0 c1 d0 d1 n1 n2 hbw
        have y1 : IntKind.i64.wrap (2 * P.1) = 2 * P.1 := IntWalk.i64_in _ (by omega)
        have y2 : IntKind.i64.wrap (2 * P.2) = 2 * P.2 := IntWalk.i64_in _ (by omega)
        have y3 : IntKind.i64.wrap (2 * Q.1) = 2 * Q.1 := IntWalk.i64_in _ (by omega)
        have y4 : IntKind.i64.wrap (2 * Q.2) = 2 * Q.2 := IntWalk.i64_in _ (by omega)
        go_upto_region 7 with fail
        go_cut [] from 25 to 104 (fun wx => BbS w wx k0 k1 a b (midp a b) (2 * P.1, 2 * P.2) (2 * Q.1, 2 * Q.2))
        case first =>
          go_region
          go_wp2_with fail
          go_meet
          exact (HQ1.out.put _ _ _ _).drew
        case rest =>
          have HQ2 := Lib.hid hcut
          clear hne hne' HQ1 e0 e1 e2 e3 f0 f1 f2 f3
          obtain ⟨g1, g2, _, g3⟩ := hcut
          obtain ⟨_, e0, e1, _, _⟩ := g1
          obtain ⟨_, f0, f1, _, _⟩ := g2
          obtain ⟨a0, a1, b0, b1, m0, m1, _⟩ := g3
          unfold midp at m0 m1
          unfold rbH at hrh
          unfold d2 midp at hra
          dsimp only at hra hrb e0 e1 f0 f1 m0 m1
          have u1 : tw (2 * P.1) := by unfold tw; omega
          have u2 : tw (2 * P.2) := by unfold tw; omega
          have u3 : tw (2 * Q.1) := by unfold tw; omega
          have u4 : tw (2 * Q.2) := by unfold tw; omega
          clear y1 y2 y3 y4 hp1 hp2
          obtain ⟨t1, t2, t3, t4, t5⟩ := TT.out
          have hrb' : -1 ≤ rablV (2 * P.1, 2 * P.2) (2 * Q.1, 2 * Q.2) (a.1 + b.1, a.2 + b.2) (a.2 - b.2, b.1 - a.1) ∧ rablV (2 * P.1, 2 * P.2) (2 * Q.1, 2 * Q.2) (a.1 + b.1, a.2 + b.2) (a.2 - b.2, b.1 - a.1) ≤ 1 := vW_in _ _ _
          clear hrb
          generalize 2 * P.1 = p1 at *
          generalize 2 * P.2 = p2 at *
          generalize 2 * Q.1 = q1 at *
          generalize 2 * Q.2 = q2 at *
          have KA : Hid (∀ W, Calls Try.prog 71 #[.agg #[.int .i64 p1, .int .i64 p2], .agg #[.int .i64 q1, .int .i64 q2], .agg #[.int .i64 (a.1 + b.1), .int .i64 (a.2 + b.2)], .agg #[.int .i64 (a.2 - b.2), .int .i64 (b.1 - a.1)]] W
            fun e' w' => e' = .returned (.int .i64 (rablV (p1, p2) (q1, q2) (a.1 + b.1, a.2 + b.2) (a.2 - b.2, b.1 - a.1))) ∧ Below W.heap.size W w') :=
            Lib.hid (fun W => rabl_any (p1, p2) (q1, q2) (a.1 + b.1, a.2 + b.2) (a.2 - b.2, b.1 - a.1) W u1 u2 u3 u4 t1 t2 t3 t4)
          have KO := Lib.hid (fun W => ron2_any p1 p2 q1 q2 (a.1 + b.1) (a.2 + b.2) W u1 u2 u3 u4 t1 t2)
          have z1 : IntKind.i64.wrap (q1 - p1) = q1 - p1 := IntWalk.i64_in _ (by have := dif_in u3 u1; omega)
          have z2 : IntKind.i64.wrap (q2 - p2) = q2 - p2 := IntWalk.i64_in _ (by have := dif_in u4 u2; omega)
          have r1 := mul_in (q1 - p1) (b.2 - a.2) 67108864 33554432 (dif_in u3 u1) t5
          have r2 := mul_in (q2 - p2) (b.1 - a.1) 67108864 33554432 (dif_in u4 u2) t4
          have z3 : IntKind.i64.wrap ((q1 - p1) * (b.2 - a.2)) = (q1 - p1) * (b.2 - a.2) := IntWalk.i64_in _ (by omega)
          have z4 : IntKind.i64.wrap ((q2 - p2) * (b.1 - a.1)) = (q2 - p2) * (b.1 - a.1) := IntWalk.i64_in _ (by omega)
          clear r1 r2 t1 t2 t3 t4 t5 u1 u2 u3 u4
          generalize rablV (p1, p2) (q1, q2) (a.1 + b.1, a.2 + b.2) (a.2 - b.2, b.1 - a.1) = rv at *
          have y1 : IntKind.i64.wrap (s + rv) = s + rv := IntWalk.i64_in _ (by omega)
          clear hsk hrb'
          generalize hon : onI p1 p2 q1 q2 (a.1 + b.1) (a.2 + b.2) = on at *
          clear hon
          cases hal : ((q1 - p1) * (b.2 - a.2) == (q2 - p2) * (b.1 - a.1))
          · rw [hal] at hrh
            cases on
            · have HH : Hid (rhE L a b k = false) := Lib.hid (by rw [hrh.out]; rfl)
              go_wp2_with fail
              refine (KO.out _).mono ?_
              rintro e w4 ⟨rfl, hb4⟩
              obtain ⟨_, e0, e1, _, _⟩ := HQ2.out.1.keep hb4
              obtain ⟨_, f0, f1, _, _⟩ := HQ2.out.2.1.keep hb4
              obtain ⟨a0, a1, b0, b1, m0, m1, _⟩ := HQ2.out.2.2.2.later hb4
              unfold midp at m0 m1
              dsimp only at e0 e1 f0 f1 m0 m1
              have HB4 := Lib.hid (HQ2.out.2.2.2.later hb4)
              clear hb4
              go_wp2_with fail
              refine (KA.out _).mono ?_
              rintro e w5 ⟨rfl, hb5⟩
              have HB5 := Lib.hid (HB4.out.later hb5)
              clear hb5 e0 e1 f0 f1 a0 a1 b0 b1 m0 m1
              go_wp2_with fail
              go_roundg gr
              case measure => omega
              case rel => exact ⟨k + 1, by omega, by go_num, by rw [HS1.out, hra.out], Lib.hid (fun x hx => by
                by_cases hxk : x < k
                · exact HN.out x hxk
                · obtain rfl : x = k := by omega
                  exact HH.out), HB5⟩
            · have HH : Hid (rhE L a b k = true) := Lib.hid (by rw [hrh.out]; rfl)
              go_wp2_with fail
              refine (KO.out _).mono ?_
              rintro e w4 ⟨rfl, hb4⟩
              have HB4 := Lib.hid (HQ2.out.2.2.2.later hb4)
              clear hb4
              go_wp2_with fail
              go_ret2
              exact ⟨Or.inl ⟨⟨k, hkn, HH.out⟩, rfl⟩, HB4.out.below⟩
          · rw [hal] at hrh
            have HH : Hid (rhE L a b k = false) := Lib.hid (by rw [hrh.out]; rfl)
            have HB4 := Lib.hid HQ2.out.2.2.2
            go_wp2_with fail
            refine (KA.out _).mono ?_
            rintro e w5 ⟨rfl, hb5⟩
            have HB5 := Lib.hid (HB4.out.later hb5)
            clear hb5 e0 e1 f0 f1 a0 a1 b0 b1 m0 m1
            go_wp2_with fail
            go_roundg gr
            case measure => omega
            case rel => exact ⟨k + 1, by omega, by go_num, by rw [HS1.out, hra.out], Lib.hid (fun x hx => by
              by_cases hxk : x < k
              · exact HN.out x hxk
              · obtain rfl : x = k := by omega
                exact HH.out), HB5⟩
end Go.Proofs.Ytkibjbbhiclkmaa
