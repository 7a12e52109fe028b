/- The box of points; the law RowsMeet. -/
import Derived.Test.YtenfaejdnphngaaRowsMt
import Derived.Test.YtenfaejdnphngaaOfs
import Derived.Test.YtenfaejdnphngaaBox
import Derived.Test.YtenfaejdnphngaaKnown6
namespace Go.Proofs.Ytenfaejdnphngaa
open Go.RowKit

/-- Points that came in, in a slice: nil, or n of them. -/
def PSl (W : World) (v : Value) (n b off : Nat) (f g : Nat → Int) : Prop :=
  ∃ q c, v = .slice q n c ∧ n ≤ c ∧ c ≤ 9223372036854775807 ∧ (0 < n → q = some ⟨b, off, none⟩ ∧ Sl W b off n f g)
theorem PSl.keep {W W1 : World} {v : Value} {n b off : Nat} {f g : Nat → Int} (h : PSl W v n b off f g) (hb : Below W.heap.size W W1) : PSl W1 v n b off f g := by
  obtain ⟨q, c, e, hc, hm, hs⟩ := h
  exact ⟨q, c, e, hc, hm, fun h0 => ⟨(hs h0).1, (hs h0).2.keep hb⟩⟩
theorem mof_zero (p : Option Addr) (cap : Nat) (w : World) : Calls Try.prog 11 #[.slice p 0 cap] w fun e w' => e = .returned (.slice none 0 0) ∧ w' = w := by
  go_enter Try.func11, Try.ntmps11
  go_wp2
  go_loopw [3, 4] (fun v i wr => i = .int .i64 0 ∧ v = .slice none 0 0 ∧ wr = w) (fun _ _ _ => 0)
  case atStart => exact ⟨rfl, rfl, rfl⟩
  case round =>
    obtain ⟨rfl, rfl, rfl⟩ := hrel
    go_wp2
    go_ret
    exact ⟨rfl, rfl⟩
theorem ofs_psl {w : World} {v : Value} {n b off : Nat} {f g : Nat → Int} (h : PSl w v n b off f g) (hn : n ≤ 50) : Calls Try.prog 11 #[v] w (OfsPost f g n w) := by
  obtain ⟨q, c, rfl, _, _, hs⟩ := h
  rcases Nat.eq_zero_or_pos n with rfl | h0
  · refine (mof_zero q c w).mono ?_
    rintro e w' ⟨rfl, rfl⟩
    exact ⟨_, rfl, ⟨by simp [pts], .inl ⟨rfl, rfl⟩⟩, Below.refl _ _⟩
  · obtain ⟨rfl, hS⟩ := hs h0
    exact ofs_any b off n c f g w hn (Lib.hid hS)
def okN (n : Nat) (f g : Nat → Int) : Bool := decide (0 < n) && pall n f g
def BoxOk (n : Nat) (f g : Nat → Int) (c : B4) : Prop := (okN n f g = false → c = (0, 0, 0, 0)) ∧ (okN n f g = true → ∀ i, i < n → metB c (f i, g i, f i, g i) = true)
theorem pall_at {n : Nat} {f g : Nat → Int} (h : pall n f g = true) {i : Nat} (hi : i < n) : bnd (f i) = true ∧ bnd (g i) = true := by
  unfold pall at h
  rw [List.all_eq_true] at h
  have := h i (List.mem_range.2 hi)
  rwa [Bool.and_eq_true] at this
theorem box_ok {n : Nat} {f g : Nat → Int} (h0 : 0 < n) (h : pall n f g = true) : BoxOk n f g (mnF f (n - 1), mnF g (n - 1), mxF f (n - 1), mxF g (n - 1)) := by
  refine ⟨fun hn => ?_, fun _ i hi => ?_⟩
  · unfold okN at hn
    rw [h] at hn
    simp at hn
    omega
  · have a1 := mnF_le f (n - 1) i (by omega)
    have a2 := mnF_le g (n - 1) i (by omega)
    have a3 := mxF_le f (n - 1) i (by omega)
    have a4 := mxF_le g (n - 1) i (by omega)
    obtain ⟨j1, l1, e1⟩ := mnF_is f (n - 1)
    obtain ⟨j2, l2, e2⟩ := mnF_is g (n - 1)
    obtain ⟨j3, l3, e3⟩ := mxF_is f (n - 1)
    obtain ⟨j4, l4, e4⟩ := mxF_is g (n - 1)
    have b1 := (pall_at h (i := j1) (by omega)).1
    have b2 := (pall_at h (i := j2) (by omega)).2
    have b3 := (pall_at h (i := j3) (by omega)).1
    have b4 := (pall_at h (i := j4) (by omega)).2
    have bi := pall_at h hi
    rw [e1] at b1
    rw [e2] at b2
    rw [e3] at b3
    rw [e4] at b4
    unfold metB rgtB risB comB ok2 okp
    simp only [b1, b2, b3, b4, bi.1, bi.2, Bool.and_true, Bool.true_and, Bool.and_eq_true, decide_eq_true_eq]
    omega
def XbPost (n : Nat) (f g : Nat → Int) (w : World) (e : Ending) (w' : World) : Prop := ∃ c : B4, e = .returned (.tuple #[.agg #[.int .i64 c.1, .int .i64 c.2.1], .agg #[.int .i64 c.2.2.1, .int .i64 c.2.2.2], .bool (okN n f g)]) ∧ BoxOk n f g c ∧ Below w.heap.size w w'
theorem okN_zero (f g : Nat → Int) : okN 0 f g = false := rfl
theorem box_zeroN (cap : Nat) (w : World) : Calls Try.prog 42 #[.slice none 0 cap] w
    fun e w' => e = .returned (.tuple #[.agg #[.int .i64 0, .int .i64 0], .agg #[.int .i64 0, .int .i64 0], .bool false]) ∧ Below w.heap.size w w' := by
  go_enter Try.func42, Try.ntmps42
  go_wp2
  exact bodyPost_ret (v := .tuple #[.agg #[.int .i64 0, .int .i64 0], .agg #[.int .i64 0, .int .i64 0], .bool false]) (by simp [results, Try.results42, go_sem]) rfl ⟨rfl, b2 _ _ _⟩
theorem xbox_any {w : World} {v : Value} {n b off : Nat} {f g : Nat → Int} (h : PSl w v n b off f g) : Calls Try.prog 42 #[v] w (XbPost n f g w) := by
  obtain ⟨q, c, rfl, hc, hm, hs⟩ := h
  rcases Nat.eq_zero_or_pos n with rfl | h0
  · have hk : BoxOk 0 f g (0, 0, 0, 0) := ⟨fun _ => rfl, fun h => by cases h⟩
    cases q with
    | none => exact (box_zeroN c w).mono fun e w' h => ⟨(0, 0, 0, 0), h.1, hk, h.2⟩
    | some a => exact (box_zero a c w).mono fun e w' h => ⟨(0, 0, 0, 0), h.1, hk, h.2⟩
  · obtain ⟨rfl, hS⟩ := hs h0
    have e : okN n f g = pall n f g := by unfold okN; simp [h0]
    cases hp : pall n f g with
    | false => exact (box_no b off n c f g w (by omega) h0 (Lib.hid hS) (Lib.hid hp)).mono fun e' w' h => ⟨(0, 0, 0, 0), by rw [e, hp]; exact h.1, ⟨fun _ => rfl, fun h => by rw [e, hp] at h; cases h⟩, h.2⟩
    | true => exact (box_yes b off n c f g w (by omega) h0 hc (Lib.hid hS) (Lib.hid hp)).mono fun e' w' h => ⟨_, by rw [e, hp]; exact h.1, box_ok h0 hp, h.2⟩
def RoPost (n : Nat) (f g : Nat → Int) (w : World) (e : Ending) (w' : World) : Prop := ∃ c : B4, e = .returned (.tuple #[.agg #[.int .i64 c.1, .int .i64 c.2.1, .int .i64 c.2.2.1, .int .i64 c.2.2.2], .bool (okN n f g)]) ∧ BoxOk n f g c ∧ Below w.heap.size w w'
set_option maxRecDepth 100000 in
set_option maxHeartbeats 1000000 in
theorem rowsof_any {w : World} {v : Value} {n b off : Nat} {f g : Nat → Int} (h : PSl w v n b off f g) : Calls Try.prog 10 #[v] w (RoPost n f g w) := by
  have HB0 := Lib.hid (below_alloc w (.cells #[.int .i64 0, .int .i64 0, .int .i64 0, .int .i64 0] 25))
  have HX := Lib.hid (xbox_any (h.keep HB0.out))
  have HZ := Lib.hid (bx_new w (0, 0, 0, 0) 25)
  obtain ⟨q, cq, rfl, _⟩ := h
  go_enter Try.func10, Try.ntmps10
  go_upto_region 2 with (go_at_call 42; refine HX.out.mono ?_; rintro e w1 ⟨c, rfl, hk, hb1⟩; have HK := Lib.hid hk; have HB1 := Lib.hid hb1; clear hk hb1)
  have HV : Hid (Below w.heap.size w ((w1.alloc (.cells #[.int .i64 c.1, .int .i64 c.2.1] 23)).alloc (.cells #[.int .i64 c.2.2.1, .int .i64 c.2.2.2] 23)) ∧ BxAt ((w1.alloc (.cells #[.int .i64 c.1, .int .i64 c.2.1] 23)).alloc (.cells #[.int .i64 c.2.2.1, .int .i64 c.2.2.2] 23)) w.heap.size 0 (0, 0, 0, 0) ∧ (((w1.alloc (.cells #[.int .i64 c.1, .int .i64 c.2.1] 23)).alloc (.cells #[.int .i64 c.2.2.1, .int .i64 c.2.2.2] 23)).cell? ⟨w1.heap.size, 0, none⟩ = some (.int .i64 c.1) ∧ ((w1.alloc (.cells #[.int .i64 c.1, .int .i64 c.2.1] 23)).alloc (.cells #[.int .i64 c.2.2.1, .int .i64 c.2.2.2] 23)).cell? ⟨w1.heap.size, 1, none⟩ = some (.int .i64 c.2.1)) ∧ (((w1.alloc (.cells #[.int .i64 c.1, .int .i64 c.2.1] 23)).alloc (.cells #[.int .i64 c.2.2.1, .int .i64 c.2.2.2] 23)).cell? ⟨w1.heap.size + 1, 0, none⟩ = some (.int .i64 c.2.2.1) ∧ ((w1.alloc (.cells #[.int .i64 c.1, .int .i64 c.2.1] 23)).alloc (.cells #[.int .i64 c.2.2.1, .int .i64 c.2.2.2] 23)).cell? ⟨w1.heap.size + 1, 1, none⟩ = some (.int .i64 c.2.2.2)) ∧ ∀ o, ((w1.alloc (.cells #[.int .i64 c.1, .int .i64 c.2.1] 23)).alloc (.cells #[.int .i64 c.2.2.1, .int .i64 c.2.2.2] 23)).frozen? ⟨w.heap.size, o, none⟩ = false) := Lib.hid (by
    refine ⟨below_after (below_after (below_after HB0.out HB1.out) (below_alloc _ _)) (below_alloc _ _), ((HZ.out.keep HB1.out).keep (below_alloc _ _)).keep (below_alloc _ _), ⟨by go_simp, by go_simp⟩, ⟨by go_simp, by go_simp⟩, fun o => ?_⟩
    have hlt : w.heap.size < (w.alloc (.cells #[.int .i64 0, .int .i64 0, .int .i64 0, .int .i64 0] 25)).heap.size := by simp
    have h1 : w1.frozen? ⟨w.heap.size, o, none⟩ = false := (HB1.out.frozen (p := ⟨w.heap.size, o, none⟩) hlt).trans (by go_simp)
    have h2 := Nat.lt_of_lt_of_le hlt HB1.out.size
    exact ((below_alloc _ _).frozen (p := ⟨w.heap.size, o, none⟩) (Nat.lt_of_lt_of_le h2 (below_alloc w1 _).size)).trans (((below_alloc w1 _).frozen (p := ⟨w.heap.size, o, none⟩) h2).trans h1))
  clear HX HZ HB0 HB1
  generalize ((w1.alloc (.cells #[.int .i64 c.1, .int .i64 c.2.1] 23)).alloc (.cells #[.int .i64 c.2.2.1, .int .i64 c.2.2.2] 23)) = V at *
  obtain ⟨z0, z1, z2, z3⟩ := HV.out.2.1
  obtain ⟨p0, p1⟩ := HV.out.2.2.1
  obtain ⟨q0, q1⟩ := HV.out.2.2.2.1
  have fz := HV.out.2.2.2.2
  have HBf : Hid (Below w.heap.size w ((((V.setCell ⟨w.heap.size, 0, none⟩ (.int .i64 c.1)).setCell ⟨w.heap.size, 1, none⟩ (.int .i64 c.2.1)).setCell ⟨w.heap.size, 2, none⟩ (.int .i64 c.2.2.1)).setCell ⟨w.heap.size, 3, none⟩ (.int .i64 c.2.2.2))) := Lib.hid ((((HV.out.1.setCell (Nat.le_refl _) _).setCell (Nat.le_refl _) _).setCell (Nat.le_refl _) _).setCell (Nat.le_refl _) _)
  go_wp2_with fail
  have e0 : (V.setCell ⟨w.heap.size, 0, none⟩ (.int .i64 c.1)).cell? ⟨w.heap.size, 0, none⟩ = some (.int .i64 c.1) := World.cell?_setCell_same _ _ _ z0
  have e1 : ((V.setCell ⟨w.heap.size, 0, none⟩ (.int .i64 c.1)).setCell ⟨w.heap.size, 1, none⟩ (.int .i64 c.2.1)).cell? ⟨w.heap.size, 1, none⟩ = some (.int .i64 c.2.1) := World.cell?_setCell_same _ _ _ ((World.cell?_setCell_other _ _ _ _ (by intro e; injection e with _ e2; exact absurd e2 (by decide))).trans z1)
  have e2 : (((V.setCell ⟨w.heap.size, 0, none⟩ (.int .i64 c.1)).setCell ⟨w.heap.size, 1, none⟩ (.int .i64 c.2.1)).setCell ⟨w.heap.size, 2, none⟩ (.int .i64 c.2.2.1)).cell? ⟨w.heap.size, 2, none⟩ = some (.int .i64 c.2.2.1) := World.cell?_setCell_same _ _ _ ((World.cell?_setCell_other _ _ _ _ (by intro e; injection e with _ e2; exact absurd e2 (by decide))).trans ((World.cell?_setCell_other _ _ _ _ (by intro e; injection e with _ e2; exact absurd e2 (by decide))).trans z2))
  have e3 : ((((V.setCell ⟨w.heap.size, 0, none⟩ (.int .i64 c.1)).setCell ⟨w.heap.size, 1, none⟩ (.int .i64 c.2.1)).setCell ⟨w.heap.size, 2, none⟩ (.int .i64 c.2.2.1)).setCell ⟨w.heap.size, 3, none⟩ (.int .i64 c.2.2.2)).cell? ⟨w.heap.size, 3, none⟩ = some (.int .i64 c.2.2.2) := World.cell?_setCell_same _ _ _ ((World.cell?_setCell_other _ _ _ _ (by intro e; injection e with _ e2; exact absurd e2 (by decide))).trans ((World.cell?_setCell_other _ _ _ _ (by intro e; injection e with _ e2; exact absurd e2 (by decide))).trans ((World.cell?_setCell_other _ _ _ _ (by intro e; injection e with _ e2; exact absurd e2 (by decide))).trans z3)))
  exact bodyPost_ret (v := .tuple #[.agg #[.int .i64 c.1, .int .i64 c.2.1, .int .i64 c.2.2.1, .int .i64 c.2.2.2], .bool (okN n f g)]) (by simp [results, Try.results10, go_sem, e0, e1, e2, e3]) rfl ⟨c, rfl, HK.out, HBf.out⟩
theorem PSl.nz {W : World} {q : Option Addr} {n c b off : Nat} {f g : Nat → Int} (h : PSl W (.slice q n c) n b off f g) (h0 : 0 < n) : q = some ⟨b, off, none⟩ ∧ Sl W b off n f g := by
  obtain ⟨q', c', e, _, _, hs⟩ := h
  cases e
  exact hs h0
theorem PSl.at {W : World} {v : Value} {n b off : Nat} {f g : Nat → Int} (h : PSl W v n b off f g) {i : Nat} (hi : i < n) : W.cell? ⟨b, off + i * 2, none⟩ = some (.int .i64 (f i)) ∧ W.cell? ⟨b, off + i * 2 + 1, none⟩ = some (.int .i64 (g i)) := by
  obtain ⟨_, _, _, _, _, hs⟩ := h
  exact (hs (by omega)).2.2 i hi
/-- What the law holds in cells. -/
def MtC (k1 k2 : Nat) (a b : B4) (q : Option Addr) (m c bb off : Nat) (f g : Nat → Int) (w X : World) : Prop := Below w.heap.size w X ∧ BxAt X k1 0 a ∧ BxAt X k2 0 b ∧ PSl X (.slice q m c) m bb off f g
theorem MtC.keep {k1 k2 : Nat} {a b : B4} {q : Option Addr} {m c bb off : Nat} {f g : Nat → Int} {w X X1 : World} (h : MtC k1 k2 a b q m c bb off f g w X) (hb : Below X.heap.size X X1) : MtC k1 k2 a b q m c bb off f g w X1 := ⟨below_after h.1 hb, h.2.1.keep hb, h.2.2.1.keep hb, h.2.2.2.keep hb⟩
theorem psl_slice {W : World} {v : Value} {n b off : Nat} {f g : Nat → Int} (h : PSl W v n b off f g) {m : Nat} (hm : m ≤ n) : ∃ q c, v = .slice q n c ∧ PSl W (.slice q m c) m b off f g := by
  obtain ⟨q, c, e, hc, hx, hs⟩ := h
  exact ⟨q, c, e, q, c, rfl, by omega, hx, fun h0 => ⟨(hs (by omega)).1, (hs (by omega)).2.1, fun i hi => (hs (by omega)).2.2 i (by omega)⟩⟩
set_option maxRecDepth 100000 in
set_option maxHeartbeats 4000000 in
theorem meetlaw_yes {w : World} (a b : B4) {v : Value} {n bb off : Nat} {f g : Nat → Int} (h : PSl w v n bb off f g) : Calls Try.prog 3 #[encB a, encB b, v] w fun e w' => e = .returned (.bool true) ∧ Below w.heap.size w w' := by
  have hmx : Try.prog.follows .mixedOrders = true := by kernel_rfl
  obtain ⟨q, c, rfl, hP⟩ := psl_slice h (Nat.min_le_left n 30)
  clear h
  have hmn : min (n : Int) 30 = ((min n 30 : Nat) : Int) := by omega
  have hcn : min n 30 ≤ c := by obtain ⟨_, _, e, h, _⟩ := hP; cases e; exact h
  have hm30 : min n 30 ≤ 30 := Nat.min_le_right _ _
  generalize min n 30 = m at *
  have hcz : (m : Int) ≤ (c : Int) := by omega
  unfold encB
  go_enter Try.func3, Try.ntmps3
  have heq : ∀ W, Sem.run Try.prog (Op.equalIn 10000 25 (.agg #[.int .i64 0, .int .i64 0, .int .i64 0, .int .i64 0]) (.agg #[.int .i64 0, .int .i64 0, .int .i64 0, .int .i64 0])) W = .ok true W := fun W => by simpa [encB] using equal_Bx (0, 0, 0, 0) (0, 0, 0, 0) W
  have HC0 : Hid (MtC w.heap.size (w.heap.size + 1) a b q m c bb off f g w ((w.alloc (.cells #[.int .i64 a.1, .int .i64 a.2.1, .int .i64 a.2.2.1, .int .i64 a.2.2.2] 25)).alloc (.cells #[.int .i64 b.1, .int .i64 b.2.1, .int .i64 b.2.2.1, .int .i64 b.2.2.2] 25))) := Lib.hid ⟨below_after (below_alloc _ _) (below_alloc _ _), (bx_new w a _).keep (below_alloc _ _), by have h := bx_new (w.alloc (.cells #[.int .i64 a.1, .int .i64 a.2.1, .int .i64 a.2.2.1, .int .i64 a.2.2.2] 25)) b 25; simpa using h, (hP.keep (below_alloc _ _)).keep (below_alloc _ _)⟩
  clear hP
  go_upto_region 3 with (go_at_call 10; refine (rowsof_any HC0.out.2.2.2).mono ?_; rintro e w1 ⟨cc, rfl, hk, hb1⟩; have HK := Lib.hid hk; have HC1 := Lib.hid ((HC0.out.keep hb1).keep (below_alloc w1 (.cells #[.int .i64 cc.1, .int .i64 cc.2.1, .int .i64 cc.2.2.1, .int .i64 cc.2.2.2] 25))); have HB1 := Lib.hid (bx_new w1 cc 25); clear HC0 hk hb1)
  generalize w1.alloc (.cells #[.int .i64 cc.1, .int .i64 cc.2.1, .int .i64 cc.2.2.1, .int .i64 cc.2.2.2] 25) = V1 at *
  generalize w1.heap.size = kc at *
  go_upto_region 4 with (go_at_call 11; refine (ofs_psl HC1.out.2.2.2 (by omega)).mono ?_; rintro e w2 ⟨u, rfl, ho, hb2⟩; have HAl := Lib.hid (all_own ho); obtain ⟨pu, cu, rfl⟩ := own_len ho; have HC2 := Lib.hid (And.intro (HC1.out.keep hb2) (HB1.out.keep hb2)); clear HC1 HB1 ho hb2)
  have HKn := Lib.hid known6_yes
  have HRa := Lib.hid (rright_any a)
  have HOa := Lib.hid (of6_any a)
  have HOb := Lib.hid (of6_any b)
  have HQa := Lib.hid (rrgt6_any a)
  have HMab := Lib.hid (rmeet_any a b)
  have HMba := Lib.hid (fun X => met_swap b a ▸ rmeet_any b a X)
  have HQab := Lib.hid (rmt6_any a b)
  generalize metB a b = mab at *
  generalize rgtB a = rga at *
  unfold encB at HRa HOa HOb HQa HMab HMba HQab
  generalize w.heap.size + 1 = k2 at *
  generalize hk1 : w.heap.size = k1 at HC2 ⊢
  rcases Nat.eq_zero_or_pos m with h0 | h0
  · have hok : okN m f g = false := by rw [h0]; rfl
    have hcc : cc = (0, 0, 0, 0) := HK.out.1 hok
    subst hcc
    rw [hok]
    have h0z : ¬ (0 : Int) < (m : Int) := by omega
    obtain ⟨y0, y1, y2, y3⟩ := HC2.out.2
    have HL := HC2
    clear HC2 HAl
    go_wp2_with fail
    go_loopg [10] m (fun gk i wx => ∃ k : Nat, k + gk = m ∧ i = .int .i64 (k : Int) ∧ Hid (MtC k1 k2 a b q m c bb off f g w wx ∧ BxAt wx kc 0 (0, 0, 0, 0)))
    case atStart => exact ⟨0, by omega, rfl, HL⟩
    case round =>
      obtain ⟨k, hkg, rfl, HS⟩ := hrel
      clear HL
      cases gk with
      | zero =>
        obtain rfl : k = m := by omega
        have hkz : ¬ ((k : Int) < (k : Int)) := by omega
        replace HS := Lib.hid HS.out.1
        have HD := Lib.hid (HS.out.keep ((Below.refl wr.heap.size wr).drew))
        clear HS
        go_upto_region 11 with fail
        refine wp_region_held_drew (S := (fun X : World => X.cell? ⟨k1, 0, none⟩ = some (.int .i64 a.1) ∧ X.cell? ⟨k1, 1, none⟩ = some (.int .i64 a.2.1) ∧ X.cell? ⟨k1, 2, none⟩ = some (.int .i64 a.2.2.1) ∧ X.cell? ⟨k1, 3, none⟩ = some (.int .i64 a.2.2.2) ∧ X.cell? ⟨k2, 0, none⟩ = some (.int .i64 b.1) ∧ X.cell? ⟨k2, 1, none⟩ = some (.int .i64 b.2.1) ∧ X.cell? ⟨k2, 2, none⟩ = some (.int .i64 b.2.2.1) ∧ X.cell? ⟨k2, 3, none⟩ = some (.int .i64 b.2.2.2))) (by kernel_rfl) ⟨HD.out.2.1.1, HD.out.2.1.2.1, HD.out.2.1.2.2.1, HD.out.2.1.2.2.2, HD.out.2.2.1.1, HD.out.2.2.1.2.1, HD.out.2.2.1.2.2.1, HD.out.2.2.1.2.2.2⟩ (fun hHeld => ?_)
        refine wpAnyH_ready (rs := [0]) (by kernel_rfl) (by simp) ?_
        refine AllReadyH.cons (i := 0) (o := { dst := some 62, op := Op.call { callee := Callee.value (Operand.func 14), args := #[], argTypes := #[] }, type := 4, pos := "law.go:37", after := #[], guard := none }) rfl (fun K hK => ?_) AllReadyH.nil
        go_simp
        go_at_call 14
        refine (HKn.out _).mono ?_
        rintro e x1 ⟨rfl, hb1⟩
        have HE1 := Lib.hid (HD.out.keep hb1)
        clear HD hb1
        refine hK.out _ _ ⟨HE1.out.2.1.1, HE1.out.2.1.2.1, HE1.out.2.1.2.2.1, HE1.out.2.1.2.2.2, HE1.out.2.2.1.1, HE1.out.2.2.1.2.1, HE1.out.2.2.1.2.2.1, HE1.out.2.2.1.2.2.2⟩ (fun hHeld => ?_)
        clear hK K
        try go_frame
        refine wpAnyH_take (i := 1) (oi := { dst := some 63, op := Op.move (Operand.tmp 62), type := 4, pos := "law.go:37", after := #[{ on := 0, ground := Ground.data }, { on := 0, ground := Ground.chain }], guard := none }) (v := ?_) rfl (by kernel_rfl) (by kernel_rfl) (by kernel_rfl) (fun _ _ _ h => h) (Or.inl ⟨by rfl, ?_⟩) (by with_reducible assumption) ?_
        rotate_left
        focus (intro wS hSw; (try dsimp only at hSw); go_simp <;> with_reducible rfl)
        try go_frame
        refine wpAnyH_take (i := 2) (oi := { dst := some 64, op := Op.load 25 (Operand.tmp 3), type := 25, pos := "law.go:37", after := #[{ on := 1, ground := Ground.guard }], guard := some (1, true) }) (v := ?_) rfl (by kernel_rfl) (by kernel_rfl) (by kernel_rfl) (fun _ _ _ h => h) (Or.inl ⟨by rfl, ?_⟩) (by with_reducible assumption) ?_
        rotate_left
        focus (intro wS hSw; (try dsimp only at hSw); go_simp <;> with_reducible rfl)
        try go_frame
        refine wpAnyH_take (i := 4) (oi := { dst := some 66, op := Op.load 25 (Operand.tmp 3), type := 25, pos := "law.go:37", after := #[{ on := 1, ground := Ground.guard }], guard := some (1, true) }) (v := ?_) rfl (by kernel_rfl) (by kernel_rfl) (by kernel_rfl) (fun _ _ _ h => h) (Or.inl ⟨by rfl, ?_⟩) (by with_reducible assumption) ?_
        rotate_left
        focus (intro wS hSw; (try dsimp only at hSw); go_simp <;> with_reducible rfl)
        try go_frame
        refine wpAnyH_ready (rs := [3]) (by kernel_rfl) (by simp) ?_
        refine AllReadyH.cons (i := 3) (o := { dst := some 65, op := Op.call { callee := Callee.value (Operand.func 15), args := #[Operand.tmp 64], argTypes := #[25] }, type := 4, pos := "law.go:37", after := #[{ on := 2, ground := Ground.data }, { on := 1, ground := Ground.chain }, { on := 1, ground := Ground.guard }], guard := some (1, true) }) rfl (fun K hK => ?_) AllReadyH.nil
        go_simp
        go_at_call 15
        refine (HRa.out _).mono ?_
        rintro e x2 ⟨rfl, hb2⟩
        have HE2 := Lib.hid (HE1.out.keep hb2)
        clear HE1 hb2
        refine hK.out _ _ ⟨HE2.out.2.1.1, HE2.out.2.1.2.1, HE2.out.2.1.2.2.1, HE2.out.2.1.2.2.2, HE2.out.2.2.1.1, HE2.out.2.2.1.2.1, HE2.out.2.2.1.2.2.1, HE2.out.2.2.1.2.2.2⟩ (fun hHeld => ?_)
        clear hK K
        try go_frame
        refine wpAnyH_ready (rs := [5]) (by kernel_rfl) (by simp) ?_
        refine AllReadyH.cons (i := 5) (o := { dst := some 67, op := Op.call { callee := Callee.value (Operand.func 17), args := #[Operand.tmp 66], argTypes := #[25] }, type := 38, pos := "law.go:37", after := #[{ on := 4, ground := Ground.data }, { on := 3, ground := Ground.chain }, { on := 1, ground := Ground.guard }], guard := some (1, true) }) rfl (fun K hK => ?_) AllReadyH.nil
        go_simp
        go_at_call 17
        refine (HOa.out _).mono ?_
        rintro e x3 ⟨rfl, hb3⟩
        have HE3 := Lib.hid (HE2.out.keep hb3)
        clear HE2 hb3
        refine hK.out _ _ ⟨HE3.out.2.1.1, HE3.out.2.1.2.1, HE3.out.2.1.2.2.1, HE3.out.2.1.2.2.2, HE3.out.2.2.1.1, HE3.out.2.2.1.2.1, HE3.out.2.2.1.2.2.1, HE3.out.2.2.1.2.2.2⟩ (fun hHeld => ?_)
        clear hK K
        try go_frame
        refine wpAnyH_ready (rs := [6]) (by kernel_rfl) (by simp) ?_
        refine AllReadyH.cons (i := 6) (o := { dst := some 68, op := Op.call { callee := Callee.value (Operand.func 16), args := #[Operand.tmp 67], argTypes := #[38] }, type := 4, pos := "law.go:37", after := #[{ on := 5, ground := Ground.data }, { on := 5, ground := Ground.chain }, { on := 1, ground := Ground.guard }], guard := some (1, true) }) rfl (fun K hK => ?_) AllReadyH.nil
        go_simp
        go_at_call 16
        refine (HQa.out _).mono ?_
        rintro e x4 ⟨rfl, hb4⟩
        have HE4 := Lib.hid (HE3.out.keep hb4)
        clear HE3 hb4
        refine hK.out _ _ ⟨HE4.out.2.1.1, HE4.out.2.1.2.1, HE4.out.2.1.2.2.1, HE4.out.2.1.2.2.2, HE4.out.2.2.1.1, HE4.out.2.2.1.2.1, HE4.out.2.2.1.2.2.1, HE4.out.2.2.1.2.2.2⟩ (fun hHeld => ?_)
        clear hK K
        try go_frame
        refine wpAnyH_take (i := 7) (oi := { dst := some 69, op := Op.binOp BinOp.eql 4 (Operand.tmp 65) (Operand.tmp 68) 4, type := 4, pos := "law.go:37", after := #[{ on := 3, ground := Ground.data }, { on := 6, ground := Ground.data }, { on := 1, ground := Ground.guard }], guard := some (1, true) }) (v := ?_) rfl (by kernel_rfl) (by kernel_rfl) (by kernel_rfl) (fun _ _ _ h => h) (Or.inl ⟨by rfl, ?_⟩) (by with_reducible assumption) ?_
        rotate_left
        focus (intro wS hSw; (try dsimp only at hSw); go_simp <;> with_reducible rfl)
        try go_frame
        refine wpAnyH_take (i := 8) (oi := { dst := some 70, op := Op.pick (Operand.tmp 63) (Operand.tmp 69) (Operand.const (Value.bool false)), type := 4, pos := "law.go:37", after := #[{ on := 1, ground := Ground.data }, { on := 7, ground := Ground.data }], guard := none }) (v := ?_) rfl (by kernel_rfl) (by kernel_rfl) (by kernel_rfl) (fun _ _ _ h => h) (Or.inl ⟨by rfl, ?_⟩) (by with_reducible assumption) ?_
        rotate_left
        focus (intro wS hSw; (try dsimp only at hSw); go_simp <;> with_reducible rfl)
        try go_frame
        refine wpAnyH_take (i := 9) (oi := { dst := some 71, op := Op.move (Operand.tmp 70), type := 4, pos := "law.go:37", after := #[{ on := 8, ground := Ground.data }, { on := 6, ground := Ground.chain }], guard := none }) (v := ?_) rfl (by kernel_rfl) (by kernel_rfl) (by kernel_rfl) (fun _ _ _ h => h) (Or.inl ⟨by rfl, ?_⟩) (by with_reducible assumption) ?_
        rotate_left
        focus (intro wS hSw; (try dsimp only at hSw); go_simp <;> with_reducible rfl)
        try go_frame
        refine wpAnyH_take (i := 10) (oi := { dst := some 72, op := Op.load 25 (Operand.tmp 3), type := 25, pos := "law.go:37", after := #[{ on := 9, ground := Ground.guard }], guard := some (9, true) }) (v := ?_) rfl (by kernel_rfl) (by kernel_rfl) (by kernel_rfl) (fun _ _ _ h => h) (Or.inl ⟨by rfl, ?_⟩) (by with_reducible assumption) ?_
        rotate_left
        focus (intro wS hSw; (try dsimp only at hSw); go_simp <;> with_reducible rfl)
        try go_frame
        refine wpAnyH_take (i := 11) (oi := { dst := some 73, op := Op.load 25 (Operand.tmp 4), type := 25, pos := "law.go:37", after := #[{ on := 9, ground := Ground.guard }], guard := some (9, true) }) (v := ?_) rfl (by kernel_rfl) (by kernel_rfl) (by kernel_rfl) (fun _ _ _ h => h) (Or.inl ⟨by rfl, ?_⟩) (by with_reducible assumption) ?_
        rotate_left
        focus (intro wS hSw; (try dsimp only at hSw); go_simp <;> with_reducible rfl)
        try go_frame
        refine wpAnyH_take (i := 13) (oi := { dst := some 75, op := Op.load 25 (Operand.tmp 3), type := 25, pos := "law.go:37", after := #[{ on := 9, ground := Ground.guard }], guard := some (9, true) }) (v := ?_) rfl (by kernel_rfl) (by kernel_rfl) (by kernel_rfl) (fun _ _ _ h => h) (Or.inl ⟨by rfl, ?_⟩) (by with_reducible assumption) ?_
        rotate_left
        focus (intro wS hSw; (try dsimp only at hSw); go_simp <;> with_reducible rfl)
        try go_frame
        refine wpAnyH_take (i := 15) (oi := { dst := some 77, op := Op.load 25 (Operand.tmp 4), type := 25, pos := "law.go:37", after := #[{ on := 9, ground := Ground.guard }], guard := some (9, true) }) (v := ?_) rfl (by kernel_rfl) (by kernel_rfl) (by kernel_rfl) (fun _ _ _ h => h) (Or.inl ⟨by rfl, ?_⟩) (by with_reducible assumption) ?_
        rotate_left
        focus (intro wS hSw; (try dsimp only at hSw); go_simp <;> with_reducible rfl)
        try go_frame
        refine wpAnyH_ready (rs := [12]) (by kernel_rfl) (by simp) ?_
        refine AllReadyH.cons (i := 12) (o := { dst := some 74, op := Op.call { callee := Callee.value (Operand.func 13), args := #[Operand.tmp 72, Operand.tmp 73], argTypes := #[25, 25] }, type := 4, pos := "law.go:37", after := #[{ on := 10, ground := Ground.data }, { on := 11, ground := Ground.data }, { on := 9, ground := Ground.chain }, { on := 9, ground := Ground.guard }], guard := some (9, true) }) rfl (fun K hK => ?_) AllReadyH.nil
        go_simp
        go_at_call 13
        refine (HMab.out _).mono ?_
        rintro e x5 ⟨rfl, hb5⟩
        have HE5 := Lib.hid (HE4.out.keep hb5)
        clear HE4 hb5
        refine hK.out _ _ ⟨HE5.out.2.1.1, HE5.out.2.1.2.1, HE5.out.2.1.2.2.1, HE5.out.2.1.2.2.2, HE5.out.2.2.1.1, HE5.out.2.2.1.2.1, HE5.out.2.2.1.2.2.1, HE5.out.2.2.1.2.2.2⟩ (fun hHeld => ?_)
        clear hK K
        try go_frame
        refine wpAnyH_ready (rs := [14]) (by kernel_rfl) (by simp) ?_
        refine AllReadyH.cons (i := 14) (o := { dst := some 76, op := Op.call { callee := Callee.value (Operand.func 17), args := #[Operand.tmp 75], argTypes := #[25] }, type := 38, pos := "law.go:37", after := #[{ on := 13, ground := Ground.data }, { on := 12, ground := Ground.chain }, { on := 9, ground := Ground.guard }], guard := some (9, true) }) rfl (fun K hK => ?_) AllReadyH.nil
        go_simp
        go_at_call 17
        refine (HOa.out _).mono ?_
        rintro e x6 ⟨rfl, hb6⟩
        have HE6 := Lib.hid (HE5.out.keep hb6)
        clear HE5 hb6
        refine hK.out _ _ ⟨HE6.out.2.1.1, HE6.out.2.1.2.1, HE6.out.2.1.2.2.1, HE6.out.2.1.2.2.2, HE6.out.2.2.1.1, HE6.out.2.2.1.2.1, HE6.out.2.2.1.2.2.1, HE6.out.2.2.1.2.2.2⟩ (fun hHeld => ?_)
        clear hK K
        try go_frame
        refine wpAnyH_ready (rs := [16]) (by kernel_rfl) (by simp) ?_
        refine AllReadyH.cons (i := 16) (o := { dst := some 78, op := Op.call { callee := Callee.value (Operand.func 17), args := #[Operand.tmp 77], argTypes := #[25] }, type := 38, pos := "law.go:37", after := #[{ on := 15, ground := Ground.data }, { on := 14, ground := Ground.chain }, { on := 9, ground := Ground.guard }], guard := some (9, true) }) rfl (fun K hK => ?_) AllReadyH.nil
        go_simp
        go_at_call 17
        refine (HOb.out _).mono ?_
        rintro e x7 ⟨rfl, hb7⟩
        have HE7 := Lib.hid (HE6.out.keep hb7)
        clear HE6 hb7
        refine hK.out _ _ ⟨HE7.out.2.1.1, HE7.out.2.1.2.1, HE7.out.2.1.2.2.1, HE7.out.2.1.2.2.2, HE7.out.2.2.1.1, HE7.out.2.2.1.2.1, HE7.out.2.2.1.2.2.1, HE7.out.2.2.1.2.2.2⟩ (fun hHeld => ?_)
        clear hK K
        try go_frame
        refine wpAnyH_ready (rs := [17]) (by kernel_rfl) (by simp) ?_
        refine AllReadyH.cons (i := 17) (o := { dst := some 79, op := Op.call { callee := Callee.value (Operand.func 18), args := #[Operand.tmp 76, Operand.tmp 78], argTypes := #[38, 38] }, type := 4, pos := "law.go:37", after := #[{ on := 14, ground := Ground.data }, { on := 16, ground := Ground.data }, { on := 16, ground := Ground.chain }, { on := 9, ground := Ground.guard }], guard := some (9, true) }) rfl (fun K hK => ?_) AllReadyH.nil
        go_simp
        go_at_call 18
        refine (HQab.out _).mono ?_
        rintro e x8 ⟨rfl, hb8⟩
        have HE8 := Lib.hid (HE7.out.keep hb8)
        clear HE7 hb8
        refine hK.out _ _ ⟨HE8.out.2.1.1, HE8.out.2.1.2.1, HE8.out.2.1.2.2.1, HE8.out.2.1.2.2.2, HE8.out.2.2.1.1, HE8.out.2.2.1.2.1, HE8.out.2.2.1.2.2.1, HE8.out.2.2.1.2.2.2⟩ (fun hHeld => ?_)
        clear hK K
        try go_frame
        refine wpAnyH_take (i := 18) (oi := { dst := some 80, op := Op.binOp BinOp.eql 4 (Operand.tmp 74) (Operand.tmp 79) 4, type := 4, pos := "law.go:37", after := #[{ on := 12, ground := Ground.data }, { on := 17, ground := Ground.data }, { on := 9, ground := Ground.guard }], guard := some (9, true) }) (v := ?_) rfl (by kernel_rfl) (by kernel_rfl) (by kernel_rfl) (fun _ _ _ h => h) (Or.inl ⟨by rfl, ?_⟩) (by with_reducible assumption) ?_
        rotate_left
        focus (intro wS hSw; (try dsimp only at hSw); go_simp <;> with_reducible rfl)
        try go_frame
        refine wpAnyH_take (i := 19) (oi := { dst := some 81, op := Op.pick (Operand.tmp 71) (Operand.tmp 80) (Operand.const (Value.bool false)), type := 4, pos := "law.go:37", after := #[{ on := 9, ground := Ground.data }, { on := 18, ground := Ground.data }], guard := none }) (v := ?_) rfl (by kernel_rfl) (by kernel_rfl) (by kernel_rfl) (fun _ _ _ h => h) (Or.inl ⟨by rfl, ?_⟩) (by with_reducible assumption) ?_
        rotate_left
        focus (intro wS hSw; (try dsimp only at hSw); go_simp <;> with_reducible rfl)
        try go_frame
        refine wpAnyH_take (i := 20) (oi := { dst := some 82, op := Op.move (Operand.tmp 81), type := 4, pos := "law.go:37", after := #[{ on := 19, ground := Ground.data }, { on := 17, ground := Ground.chain }], guard := none }) (v := ?_) rfl (by kernel_rfl) (by kernel_rfl) (by kernel_rfl) (fun _ _ _ h => h) (Or.inl ⟨by rfl, ?_⟩) (by with_reducible assumption) ?_
        rotate_left
        focus (intro wS hSw; (try dsimp only at hSw); go_simp <;> with_reducible rfl)
        try go_frame
        refine wpAnyH_take (i := 21) (oi := { dst := some 83, op := Op.load 25 (Operand.tmp 4), type := 25, pos := "law.go:37", after := #[{ on := 20, ground := Ground.guard }], guard := some (20, true) }) (v := ?_) rfl (by kernel_rfl) (by kernel_rfl) (by kernel_rfl) (fun _ _ _ h => h) (Or.inl ⟨by rfl, ?_⟩) (by with_reducible assumption) ?_
        rotate_left
        focus (intro wS hSw; (try dsimp only at hSw); go_simp <;> with_reducible rfl)
        try go_frame
        refine wpAnyH_take (i := 22) (oi := { dst := some 84, op := Op.load 25 (Operand.tmp 3), type := 25, pos := "law.go:37", after := #[{ on := 20, ground := Ground.guard }], guard := some (20, true) }) (v := ?_) rfl (by kernel_rfl) (by kernel_rfl) (by kernel_rfl) (fun _ _ _ h => h) (Or.inl ⟨by rfl, ?_⟩) (by with_reducible assumption) ?_
        rotate_left
        focus (intro wS hSw; (try dsimp only at hSw); go_simp <;> with_reducible rfl)
        try go_frame
        refine wpAnyH_take (i := 24) (oi := { dst := some 86, op := Op.load 25 (Operand.tmp 3), type := 25, pos := "law.go:37", after := #[{ on := 20, ground := Ground.guard }], guard := some (20, true) }) (v := ?_) rfl (by kernel_rfl) (by kernel_rfl) (by kernel_rfl) (fun _ _ _ h => h) (Or.inl ⟨by rfl, ?_⟩) (by with_reducible assumption) ?_
        rotate_left
        focus (intro wS hSw; (try dsimp only at hSw); go_simp <;> with_reducible rfl)
        try go_frame
        refine wpAnyH_take (i := 25) (oi := { dst := some 87, op := Op.load 25 (Operand.tmp 4), type := 25, pos := "law.go:37", after := #[{ on := 20, ground := Ground.guard }], guard := some (20, true) }) (v := ?_) rfl (by kernel_rfl) (by kernel_rfl) (by kernel_rfl) (fun _ _ _ h => h) (Or.inl ⟨by rfl, ?_⟩) (by with_reducible assumption) ?_
        rotate_left
        focus (intro wS hSw; (try dsimp only at hSw); go_simp <;> with_reducible rfl)
        try go_frame
        refine wpAnyH_ready (rs := [23]) (by kernel_rfl) (by simp) ?_
        refine AllReadyH.cons (i := 23) (o := { dst := some 85, op := Op.call { callee := Callee.value (Operand.func 13), args := #[Operand.tmp 83, Operand.tmp 84], argTypes := #[25, 25] }, type := 4, pos := "law.go:37", after := #[{ on := 21, ground := Ground.data }, { on := 22, ground := Ground.data }, { on := 20, ground := Ground.chain }, { on := 20, ground := Ground.guard }], guard := some (20, true) }) rfl (fun K hK => ?_) AllReadyH.nil
        go_simp
        go_at_call 13
        refine (HMba.out _).mono ?_
        rintro e x9 ⟨rfl, hb9⟩
        have HE9 := Lib.hid (HE8.out.keep hb9)
        clear HE8 hb9
        refine hK.out _ _ ⟨HE9.out.2.1.1, HE9.out.2.1.2.1, HE9.out.2.1.2.2.1, HE9.out.2.1.2.2.2, HE9.out.2.2.1.1, HE9.out.2.2.1.2.1, HE9.out.2.2.1.2.2.1, HE9.out.2.2.1.2.2.2⟩ (fun hHeld => ?_)
        clear hK K
        try go_frame
        refine wpAnyH_ready (rs := [26]) (by kernel_rfl) (by simp) ?_
        refine AllReadyH.cons (i := 26) (o := { dst := some 88, op := Op.call { callee := Callee.value (Operand.func 13), args := #[Operand.tmp 86, Operand.tmp 87], argTypes := #[25, 25] }, type := 4, pos := "law.go:37", after := #[{ on := 24, ground := Ground.data }, { on := 25, ground := Ground.data }, { on := 23, ground := Ground.chain }, { on := 20, ground := Ground.guard }], guard := some (20, true) }) rfl (fun K hK => ?_) AllReadyH.nil
        go_simp
        go_at_call 13
        refine (HMab.out _).mono ?_
        rintro e x10 ⟨rfl, hb10⟩
        have HE10 := Lib.hid (HE9.out.keep hb10)
        clear HE9 hb10
        refine hK.out _ _ ⟨HE10.out.2.1.1, HE10.out.2.1.2.1, HE10.out.2.1.2.2.1, HE10.out.2.1.2.2.2, HE10.out.2.2.1.1, HE10.out.2.2.1.2.1, HE10.out.2.2.1.2.2.1, HE10.out.2.2.1.2.2.2⟩ (fun hHeld => ?_)
        clear hK K
        try go_frame
        refine wpAnyH_take (i := 27) (oi := { dst := some 89, op := Op.binOp BinOp.eql 4 (Operand.tmp 85) (Operand.tmp 88) 4, type := 4, pos := "law.go:37", after := #[{ on := 23, ground := Ground.data }, { on := 26, ground := Ground.data }, { on := 20, ground := Ground.guard }], guard := some (20, true) }) (v := ?_) rfl (by kernel_rfl) (by kernel_rfl) (by kernel_rfl) (fun _ _ _ h => h) (Or.inl ⟨by rfl, ?_⟩) (by with_reducible assumption) ?_
        rotate_left
        focus (intro wS hSw; (try dsimp only at hSw); go_simp <;> with_reducible rfl)
        try go_frame
        refine wpAnyH_take (i := 28) (oi := { dst := some 90, op := Op.pick (Operand.tmp 82) (Operand.tmp 89) (Operand.const (Value.bool false)), type := 4, pos := "law.go:37", after := #[{ on := 20, ground := Ground.data }, { on := 27, ground := Ground.data }], guard := none }) (v := ?_) rfl (by kernel_rfl) (by kernel_rfl) (by kernel_rfl) (fun _ _ _ h => h) (Or.inl ⟨by rfl, ?_⟩) (by with_reducible assumption) ?_
        rotate_left
        focus (intro wS hSw; (try dsimp only at hSw); go_simp <;> with_reducible rfl)
        try go_frame
        refine wpAnyH_take (i := 29) (oi := { dst := some 6, op := Op.assign (Operand.tmp 90), type := 4, pos := "law.go:37", after := #[{ on := 28, ground := Ground.data }, { on := 26, ground := Ground.chain }, { on := 0, ground := Ground.phase }, { on := 1, ground := Ground.phase }, { on := 2, ground := Ground.phase }, { on := 3, ground := Ground.phase }, { on := 4, ground := Ground.phase }, { on := 5, ground := Ground.phase }, { on := 6, ground := Ground.phase }, { on := 7, ground := Ground.phase }, { on := 8, ground := Ground.phase }, { on := 9, ground := Ground.phase }, { on := 10, ground := Ground.phase }, { on := 11, ground := Ground.phase }, { on := 12, ground := Ground.phase }, { on := 13, ground := Ground.phase }, { on := 14, ground := Ground.phase }, { on := 15, ground := Ground.phase }, { on := 16, ground := Ground.phase }, { on := 17, ground := Ground.phase }, { on := 18, ground := Ground.phase }, { on := 19, ground := Ground.phase }, { on := 20, ground := Ground.phase }, { on := 21, ground := Ground.phase }, { on := 22, ground := Ground.phase }, { on := 23, ground := Ground.phase }, { on := 24, ground := Ground.phase }, { on := 25, ground := Ground.phase }, { on := 26, ground := Ground.phase }, { on := 27, ground := Ground.phase }, { on := 28, ground := Ground.phase }], guard := none }) (v := ?_) rfl (by kernel_rfl) (by kernel_rfl) (by kernel_rfl) (fun _ _ _ h => h) (Or.inl ⟨by rfl, ?_⟩) (by with_reducible assumption) ?_
        rotate_left
        focus (intro wS hSw; (try dsimp only at hSw); go_simp <;> with_reducible rfl)
        try go_frame
        refine wpAnyH_done (by kernel_rfl) ?_ _
        go_wp2_with fail
        go_ret
        exact ⟨by simp, hk1 ▸ HE10.out.1⟩
      | succ gr => omega
  · cases hpl : pall m f g with
    | false =>
      have hok : okN m f g = false := by unfold okN; rw [hpl, Bool.and_false]
      have hcc : cc = (0, 0, 0, 0) := HK.out.1 hok
      subst hcc
      rw [hok]
      rw [hpl] at HAl
      have h0z : (0 : Int) < (m : Int) := by omega
      obtain ⟨y0, y1, y2, y3⟩ := HC2.out.2
      go_wp2_with (go_at_call 12; refine HAl.out.mono ?_; rintro e w3 ⟨rfl, hb3⟩; have HL := Lib.hid (And.intro (HC2.out.1.keep hb3) (HC2.out.2.keep hb3)); obtain ⟨z0, z1, z2, z3⟩ := HL.out.2; clear HC2 hb3)
      clear y0 y1 y2 y3
      go_loopg [10] m (fun gk i wx => ∃ k : Nat, k + gk = m ∧ i = .int .i64 (k : Int) ∧ Hid (MtC k1 k2 a b q m c bb off f g w wx ∧ BxAt wx kc 0 (0, 0, 0, 0)))
      case atStart => exact ⟨0, by omega, rfl, HL⟩
      case round =>
        obtain ⟨k, hkg, rfl, HS⟩ := hrel
        clear HL
        cases gk with
        | zero =>
          obtain rfl : k = m := by omega
          have hkz : ¬ ((k : Int) < (k : Int)) := by omega
          replace HS := Lib.hid HS.out.1
          have HD := Lib.hid (HS.out.keep ((Below.refl wr.heap.size wr).drew))
          clear HS
          go_upto_region 11 with fail
          refine wp_region_held_drew (S := (fun X : World => X.cell? ⟨k1, 0, none⟩ = some (.int .i64 a.1) ∧ X.cell? ⟨k1, 1, none⟩ = some (.int .i64 a.2.1) ∧ X.cell? ⟨k1, 2, none⟩ = some (.int .i64 a.2.2.1) ∧ X.cell? ⟨k1, 3, none⟩ = some (.int .i64 a.2.2.2) ∧ X.cell? ⟨k2, 0, none⟩ = some (.int .i64 b.1) ∧ X.cell? ⟨k2, 1, none⟩ = some (.int .i64 b.2.1) ∧ X.cell? ⟨k2, 2, none⟩ = some (.int .i64 b.2.2.1) ∧ X.cell? ⟨k2, 3, none⟩ = some (.int .i64 b.2.2.2))) (by kernel_rfl) ⟨HD.out.2.1.1, HD.out.2.1.2.1, HD.out.2.1.2.2.1, HD.out.2.1.2.2.2, HD.out.2.2.1.1, HD.out.2.2.1.2.1, HD.out.2.2.1.2.2.1, HD.out.2.2.1.2.2.2⟩ (fun hHeld => ?_)
          refine wpAnyH_ready (rs := [0]) (by kernel_rfl) (by simp) ?_
          refine AllReadyH.cons (i := 0) (o := { dst := some 62, op := Op.call { callee := Callee.value (Operand.func 14), args := #[], argTypes := #[] }, type := 4, pos := "law.go:37", after := #[], guard := none }) rfl (fun K hK => ?_) AllReadyH.nil
          go_simp
          go_at_call 14
          refine (HKn.out _).mono ?_
          rintro e x1 ⟨rfl, hb1⟩
          have HE1 := Lib.hid (HD.out.keep hb1)
          clear HD hb1
          refine hK.out _ _ ⟨HE1.out.2.1.1, HE1.out.2.1.2.1, HE1.out.2.1.2.2.1, HE1.out.2.1.2.2.2, HE1.out.2.2.1.1, HE1.out.2.2.1.2.1, HE1.out.2.2.1.2.2.1, HE1.out.2.2.1.2.2.2⟩ (fun hHeld => ?_)
          clear hK K
          try go_frame
          refine wpAnyH_take (i := 1) (oi := { dst := some 63, op := Op.move (Operand.tmp 62), type := 4, pos := "law.go:37", after := #[{ on := 0, ground := Ground.data }, { on := 0, ground := Ground.chain }], guard := none }) (v := ?_) rfl (by kernel_rfl) (by kernel_rfl) (by kernel_rfl) (fun _ _ _ h => h) (Or.inl ⟨by rfl, ?_⟩) (by with_reducible assumption) ?_
          rotate_left
          focus (intro wS hSw; (try dsimp only at hSw); go_simp <;> with_reducible rfl)
          try go_frame
          refine wpAnyH_take (i := 2) (oi := { dst := some 64, op := Op.load 25 (Operand.tmp 3), type := 25, pos := "law.go:37", after := #[{ on := 1, ground := Ground.guard }], guard := some (1, true) }) (v := ?_) rfl (by kernel_rfl) (by kernel_rfl) (by kernel_rfl) (fun _ _ _ h => h) (Or.inl ⟨by rfl, ?_⟩) (by with_reducible assumption) ?_
          rotate_left
          focus (intro wS hSw; (try dsimp only at hSw); go_simp <;> with_reducible rfl)
          try go_frame
          refine wpAnyH_take (i := 4) (oi := { dst := some 66, op := Op.load 25 (Operand.tmp 3), type := 25, pos := "law.go:37", after := #[{ on := 1, ground := Ground.guard }], guard := some (1, true) }) (v := ?_) rfl (by kernel_rfl) (by kernel_rfl) (by kernel_rfl) (fun _ _ _ h => h) (Or.inl ⟨by rfl, ?_⟩) (by with_reducible assumption) ?_
          rotate_left
          focus (intro wS hSw; (try dsimp only at hSw); go_simp <;> with_reducible rfl)
          try go_frame
          refine wpAnyH_ready (rs := [3]) (by kernel_rfl) (by simp) ?_
          refine AllReadyH.cons (i := 3) (o := { dst := some 65, op := Op.call { callee := Callee.value (Operand.func 15), args := #[Operand.tmp 64], argTypes := #[25] }, type := 4, pos := "law.go:37", after := #[{ on := 2, ground := Ground.data }, { on := 1, ground := Ground.chain }, { on := 1, ground := Ground.guard }], guard := some (1, true) }) rfl (fun K hK => ?_) AllReadyH.nil
          go_simp
          go_at_call 15
          refine (HRa.out _).mono ?_
          rintro e x2 ⟨rfl, hb2⟩
          have HE2 := Lib.hid (HE1.out.keep hb2)
          clear HE1 hb2
          refine hK.out _ _ ⟨HE2.out.2.1.1, HE2.out.2.1.2.1, HE2.out.2.1.2.2.1, HE2.out.2.1.2.2.2, HE2.out.2.2.1.1, HE2.out.2.2.1.2.1, HE2.out.2.2.1.2.2.1, HE2.out.2.2.1.2.2.2⟩ (fun hHeld => ?_)
          clear hK K
          try go_frame
          refine wpAnyH_ready (rs := [5]) (by kernel_rfl) (by simp) ?_
          refine AllReadyH.cons (i := 5) (o := { dst := some 67, op := Op.call { callee := Callee.value (Operand.func 17), args := #[Operand.tmp 66], argTypes := #[25] }, type := 38, pos := "law.go:37", after := #[{ on := 4, ground := Ground.data }, { on := 3, ground := Ground.chain }, { on := 1, ground := Ground.guard }], guard := some (1, true) }) rfl (fun K hK => ?_) AllReadyH.nil
          go_simp
          go_at_call 17
          refine (HOa.out _).mono ?_
          rintro e x3 ⟨rfl, hb3⟩
          have HE3 := Lib.hid (HE2.out.keep hb3)
          clear HE2 hb3
          refine hK.out _ _ ⟨HE3.out.2.1.1, HE3.out.2.1.2.1, HE3.out.2.1.2.2.1, HE3.out.2.1.2.2.2, HE3.out.2.2.1.1, HE3.out.2.2.1.2.1, HE3.out.2.2.1.2.2.1, HE3.out.2.2.1.2.2.2⟩ (fun hHeld => ?_)
          clear hK K
          try go_frame
          refine wpAnyH_ready (rs := [6]) (by kernel_rfl) (by simp) ?_
          refine AllReadyH.cons (i := 6) (o := { dst := some 68, op := Op.call { callee := Callee.value (Operand.func 16), args := #[Operand.tmp 67], argTypes := #[38] }, type := 4, pos := "law.go:37", after := #[{ on := 5, ground := Ground.data }, { on := 5, ground := Ground.chain }, { on := 1, ground := Ground.guard }], guard := some (1, true) }) rfl (fun K hK => ?_) AllReadyH.nil
          go_simp
          go_at_call 16
          refine (HQa.out _).mono ?_
          rintro e x4 ⟨rfl, hb4⟩
          have HE4 := Lib.hid (HE3.out.keep hb4)
          clear HE3 hb4
          refine hK.out _ _ ⟨HE4.out.2.1.1, HE4.out.2.1.2.1, HE4.out.2.1.2.2.1, HE4.out.2.1.2.2.2, HE4.out.2.2.1.1, HE4.out.2.2.1.2.1, HE4.out.2.2.1.2.2.1, HE4.out.2.2.1.2.2.2⟩ (fun hHeld => ?_)
          clear hK K
          try go_frame
          refine wpAnyH_take (i := 7) (oi := { dst := some 69, op := Op.binOp BinOp.eql 4 (Operand.tmp 65) (Operand.tmp 68) 4, type := 4, pos := "law.go:37", after := #[{ on := 3, ground := Ground.data }, { on := 6, ground := Ground.data }, { on := 1, ground := Ground.guard }], guard := some (1, true) }) (v := ?_) rfl (by kernel_rfl) (by kernel_rfl) (by kernel_rfl) (fun _ _ _ h => h) (Or.inl ⟨by rfl, ?_⟩) (by with_reducible assumption) ?_
          rotate_left
          focus (intro wS hSw; (try dsimp only at hSw); go_simp <;> with_reducible rfl)
          try go_frame
          refine wpAnyH_take (i := 8) (oi := { dst := some 70, op := Op.pick (Operand.tmp 63) (Operand.tmp 69) (Operand.const (Value.bool false)), type := 4, pos := "law.go:37", after := #[{ on := 1, ground := Ground.data }, { on := 7, ground := Ground.data }], guard := none }) (v := ?_) rfl (by kernel_rfl) (by kernel_rfl) (by kernel_rfl) (fun _ _ _ h => h) (Or.inl ⟨by rfl, ?_⟩) (by with_reducible assumption) ?_
          rotate_left
          focus (intro wS hSw; (try dsimp only at hSw); go_simp <;> with_reducible rfl)
          try go_frame
          refine wpAnyH_take (i := 9) (oi := { dst := some 71, op := Op.move (Operand.tmp 70), type := 4, pos := "law.go:37", after := #[{ on := 8, ground := Ground.data }, { on := 6, ground := Ground.chain }], guard := none }) (v := ?_) rfl (by kernel_rfl) (by kernel_rfl) (by kernel_rfl) (fun _ _ _ h => h) (Or.inl ⟨by rfl, ?_⟩) (by with_reducible assumption) ?_
          rotate_left
          focus (intro wS hSw; (try dsimp only at hSw); go_simp <;> with_reducible rfl)
          try go_frame
          refine wpAnyH_take (i := 10) (oi := { dst := some 72, op := Op.load 25 (Operand.tmp 3), type := 25, pos := "law.go:37", after := #[{ on := 9, ground := Ground.guard }], guard := some (9, true) }) (v := ?_) rfl (by kernel_rfl) (by kernel_rfl) (by kernel_rfl) (fun _ _ _ h => h) (Or.inl ⟨by rfl, ?_⟩) (by with_reducible assumption) ?_
          rotate_left
          focus (intro wS hSw; (try dsimp only at hSw); go_simp <;> with_reducible rfl)
          try go_frame
          refine wpAnyH_take (i := 11) (oi := { dst := some 73, op := Op.load 25 (Operand.tmp 4), type := 25, pos := "law.go:37", after := #[{ on := 9, ground := Ground.guard }], guard := some (9, true) }) (v := ?_) rfl (by kernel_rfl) (by kernel_rfl) (by kernel_rfl) (fun _ _ _ h => h) (Or.inl ⟨by rfl, ?_⟩) (by with_reducible assumption) ?_
          rotate_left
          focus (intro wS hSw; (try dsimp only at hSw); go_simp <;> with_reducible rfl)
          try go_frame
          refine wpAnyH_take (i := 13) (oi := { dst := some 75, op := Op.load 25 (Operand.tmp 3), type := 25, pos := "law.go:37", after := #[{ on := 9, ground := Ground.guard }], guard := some (9, true) }) (v := ?_) rfl (by kernel_rfl) (by kernel_rfl) (by kernel_rfl) (fun _ _ _ h => h) (Or.inl ⟨by rfl, ?_⟩) (by with_reducible assumption) ?_
          rotate_left
          focus (intro wS hSw; (try dsimp only at hSw); go_simp <;> with_reducible rfl)
          try go_frame
          refine wpAnyH_take (i := 15) (oi := { dst := some 77, op := Op.load 25 (Operand.tmp 4), type := 25, pos := "law.go:37", after := #[{ on := 9, ground := Ground.guard }], guard := some (9, true) }) (v := ?_) rfl (by kernel_rfl) (by kernel_rfl) (by kernel_rfl) (fun _ _ _ h => h) (Or.inl ⟨by rfl, ?_⟩) (by with_reducible assumption) ?_
          rotate_left
          focus (intro wS hSw; (try dsimp only at hSw); go_simp <;> with_reducible rfl)
          try go_frame
          refine wpAnyH_ready (rs := [12]) (by kernel_rfl) (by simp) ?_
          refine AllReadyH.cons (i := 12) (o := { dst := some 74, op := Op.call { callee := Callee.value (Operand.func 13), args := #[Operand.tmp 72, Operand.tmp 73], argTypes := #[25, 25] }, type := 4, pos := "law.go:37", after := #[{ on := 10, ground := Ground.data }, { on := 11, ground := Ground.data }, { on := 9, ground := Ground.chain }, { on := 9, ground := Ground.guard }], guard := some (9, true) }) rfl (fun K hK => ?_) AllReadyH.nil
          go_simp
          go_at_call 13
          refine (HMab.out _).mono ?_
          rintro e x5 ⟨rfl, hb5⟩
          have HE5 := Lib.hid (HE4.out.keep hb5)
          clear HE4 hb5
          refine hK.out _ _ ⟨HE5.out.2.1.1, HE5.out.2.1.2.1, HE5.out.2.1.2.2.1, HE5.out.2.1.2.2.2, HE5.out.2.2.1.1, HE5.out.2.2.1.2.1, HE5.out.2.2.1.2.2.1, HE5.out.2.2.1.2.2.2⟩ (fun hHeld => ?_)
          clear hK K
          try go_frame
          refine wpAnyH_ready (rs := [14]) (by kernel_rfl) (by simp) ?_
          refine AllReadyH.cons (i := 14) (o := { dst := some 76, op := Op.call { callee := Callee.value (Operand.func 17), args := #[Operand.tmp 75], argTypes := #[25] }, type := 38, pos := "law.go:37", after := #[{ on := 13, ground := Ground.data }, { on := 12, ground := Ground.chain }, { on := 9, ground := Ground.guard }], guard := some (9, true) }) rfl (fun K hK => ?_) AllReadyH.nil
          go_simp
          go_at_call 17
          refine (HOa.out _).mono ?_
          rintro e x6 ⟨rfl, hb6⟩
          have HE6 := Lib.hid (HE5.out.keep hb6)
          clear HE5 hb6
          refine hK.out _ _ ⟨HE6.out.2.1.1, HE6.out.2.1.2.1, HE6.out.2.1.2.2.1, HE6.out.2.1.2.2.2, HE6.out.2.2.1.1, HE6.out.2.2.1.2.1, HE6.out.2.2.1.2.2.1, HE6.out.2.2.1.2.2.2⟩ (fun hHeld => ?_)
          clear hK K
          try go_frame
          refine wpAnyH_ready (rs := [16]) (by kernel_rfl) (by simp) ?_
          refine AllReadyH.cons (i := 16) (o := { dst := some 78, op := Op.call { callee := Callee.value (Operand.func 17), args := #[Operand.tmp 77], argTypes := #[25] }, type := 38, pos := "law.go:37", after := #[{ on := 15, ground := Ground.data }, { on := 14, ground := Ground.chain }, { on := 9, ground := Ground.guard }], guard := some (9, true) }) rfl (fun K hK => ?_) AllReadyH.nil
          go_simp
          go_at_call 17
          refine (HOb.out _).mono ?_
          rintro e x7 ⟨rfl, hb7⟩
          have HE7 := Lib.hid (HE6.out.keep hb7)
          clear HE6 hb7
          refine hK.out _ _ ⟨HE7.out.2.1.1, HE7.out.2.1.2.1, HE7.out.2.1.2.2.1, HE7.out.2.1.2.2.2, HE7.out.2.2.1.1, HE7.out.2.2.1.2.1, HE7.out.2.2.1.2.2.1, HE7.out.2.2.1.2.2.2⟩ (fun hHeld => ?_)
          clear hK K
          try go_frame
          refine wpAnyH_ready (rs := [17]) (by kernel_rfl) (by simp) ?_
          refine AllReadyH.cons (i := 17) (o := { dst := some 79, op := Op.call { callee := Callee.value (Operand.func 18), args := #[Operand.tmp 76, Operand.tmp 78], argTypes := #[38, 38] }, type := 4, pos := "law.go:37", after := #[{ on := 14, ground := Ground.data }, { on := 16, ground := Ground.data }, { on := 16, ground := Ground.chain }, { on := 9, ground := Ground.guard }], guard := some (9, true) }) rfl (fun K hK => ?_) AllReadyH.nil
          go_simp
          go_at_call 18
          refine (HQab.out _).mono ?_
          rintro e x8 ⟨rfl, hb8⟩
          have HE8 := Lib.hid (HE7.out.keep hb8)
          clear HE7 hb8
          refine hK.out _ _ ⟨HE8.out.2.1.1, HE8.out.2.1.2.1, HE8.out.2.1.2.2.1, HE8.out.2.1.2.2.2, HE8.out.2.2.1.1, HE8.out.2.2.1.2.1, HE8.out.2.2.1.2.2.1, HE8.out.2.2.1.2.2.2⟩ (fun hHeld => ?_)
          clear hK K
          try go_frame
          refine wpAnyH_take (i := 18) (oi := { dst := some 80, op := Op.binOp BinOp.eql 4 (Operand.tmp 74) (Operand.tmp 79) 4, type := 4, pos := "law.go:37", after := #[{ on := 12, ground := Ground.data }, { on := 17, ground := Ground.data }, { on := 9, ground := Ground.guard }], guard := some (9, true) }) (v := ?_) rfl (by kernel_rfl) (by kernel_rfl) (by kernel_rfl) (fun _ _ _ h => h) (Or.inl ⟨by rfl, ?_⟩) (by with_reducible assumption) ?_
          rotate_left
          focus (intro wS hSw; (try dsimp only at hSw); go_simp <;> with_reducible rfl)
          try go_frame
          refine wpAnyH_take (i := 19) (oi := { dst := some 81, op := Op.pick (Operand.tmp 71) (Operand.tmp 80) (Operand.const (Value.bool false)), type := 4, pos := "law.go:37", after := #[{ on := 9, ground := Ground.data }, { on := 18, ground := Ground.data }], guard := none }) (v := ?_) rfl (by kernel_rfl) (by kernel_rfl) (by kernel_rfl) (fun _ _ _ h => h) (Or.inl ⟨by rfl, ?_⟩) (by with_reducible assumption) ?_
          rotate_left
          focus (intro wS hSw; (try dsimp only at hSw); go_simp <;> with_reducible rfl)
          try go_frame
          refine wpAnyH_take (i := 20) (oi := { dst := some 82, op := Op.move (Operand.tmp 81), type := 4, pos := "law.go:37", after := #[{ on := 19, ground := Ground.data }, { on := 17, ground := Ground.chain }], guard := none }) (v := ?_) rfl (by kernel_rfl) (by kernel_rfl) (by kernel_rfl) (fun _ _ _ h => h) (Or.inl ⟨by rfl, ?_⟩) (by with_reducible assumption) ?_
          rotate_left
          focus (intro wS hSw; (try dsimp only at hSw); go_simp <;> with_reducible rfl)
          try go_frame
          refine wpAnyH_take (i := 21) (oi := { dst := some 83, op := Op.load 25 (Operand.tmp 4), type := 25, pos := "law.go:37", after := #[{ on := 20, ground := Ground.guard }], guard := some (20, true) }) (v := ?_) rfl (by kernel_rfl) (by kernel_rfl) (by kernel_rfl) (fun _ _ _ h => h) (Or.inl ⟨by rfl, ?_⟩) (by with_reducible assumption) ?_
          rotate_left
          focus (intro wS hSw; (try dsimp only at hSw); go_simp <;> with_reducible rfl)
          try go_frame
          refine wpAnyH_take (i := 22) (oi := { dst := some 84, op := Op.load 25 (Operand.tmp 3), type := 25, pos := "law.go:37", after := #[{ on := 20, ground := Ground.guard }], guard := some (20, true) }) (v := ?_) rfl (by kernel_rfl) (by kernel_rfl) (by kernel_rfl) (fun _ _ _ h => h) (Or.inl ⟨by rfl, ?_⟩) (by with_reducible assumption) ?_
          rotate_left
          focus (intro wS hSw; (try dsimp only at hSw); go_simp <;> with_reducible rfl)
          try go_frame
          refine wpAnyH_take (i := 24) (oi := { dst := some 86, op := Op.load 25 (Operand.tmp 3), type := 25, pos := "law.go:37", after := #[{ on := 20, ground := Ground.guard }], guard := some (20, true) }) (v := ?_) rfl (by kernel_rfl) (by kernel_rfl) (by kernel_rfl) (fun _ _ _ h => h) (Or.inl ⟨by rfl, ?_⟩) (by with_reducible assumption) ?_
          rotate_left
          focus (intro wS hSw; (try dsimp only at hSw); go_simp <;> with_reducible rfl)
          try go_frame
          refine wpAnyH_take (i := 25) (oi := { dst := some 87, op := Op.load 25 (Operand.tmp 4), type := 25, pos := "law.go:37", after := #[{ on := 20, ground := Ground.guard }], guard := some (20, true) }) (v := ?_) rfl (by kernel_rfl) (by kernel_rfl) (by kernel_rfl) (fun _ _ _ h => h) (Or.inl ⟨by rfl, ?_⟩) (by with_reducible assumption) ?_
          rotate_left
          focus (intro wS hSw; (try dsimp only at hSw); go_simp <;> with_reducible rfl)
          try go_frame
          refine wpAnyH_ready (rs := [23]) (by kernel_rfl) (by simp) ?_
          refine AllReadyH.cons (i := 23) (o := { dst := some 85, op := Op.call { callee := Callee.value (Operand.func 13), args := #[Operand.tmp 83, Operand.tmp 84], argTypes := #[25, 25] }, type := 4, pos := "law.go:37", after := #[{ on := 21, ground := Ground.data }, { on := 22, ground := Ground.data }, { on := 20, ground := Ground.chain }, { on := 20, ground := Ground.guard }], guard := some (20, true) }) rfl (fun K hK => ?_) AllReadyH.nil
          go_simp
          go_at_call 13
          refine (HMba.out _).mono ?_
          rintro e x9 ⟨rfl, hb9⟩
          have HE9 := Lib.hid (HE8.out.keep hb9)
          clear HE8 hb9
          refine hK.out _ _ ⟨HE9.out.2.1.1, HE9.out.2.1.2.1, HE9.out.2.1.2.2.1, HE9.out.2.1.2.2.2, HE9.out.2.2.1.1, HE9.out.2.2.1.2.1, HE9.out.2.2.1.2.2.1, HE9.out.2.2.1.2.2.2⟩ (fun hHeld => ?_)
          clear hK K
          try go_frame
          refine wpAnyH_ready (rs := [26]) (by kernel_rfl) (by simp) ?_
          refine AllReadyH.cons (i := 26) (o := { dst := some 88, op := Op.call { callee := Callee.value (Operand.func 13), args := #[Operand.tmp 86, Operand.tmp 87], argTypes := #[25, 25] }, type := 4, pos := "law.go:37", after := #[{ on := 24, ground := Ground.data }, { on := 25, ground := Ground.data }, { on := 23, ground := Ground.chain }, { on := 20, ground := Ground.guard }], guard := some (20, true) }) rfl (fun K hK => ?_) AllReadyH.nil
          go_simp
          go_at_call 13
          refine (HMab.out _).mono ?_
          rintro e x10 ⟨rfl, hb10⟩
          have HE10 := Lib.hid (HE9.out.keep hb10)
          clear HE9 hb10
          refine hK.out _ _ ⟨HE10.out.2.1.1, HE10.out.2.1.2.1, HE10.out.2.1.2.2.1, HE10.out.2.1.2.2.2, HE10.out.2.2.1.1, HE10.out.2.2.1.2.1, HE10.out.2.2.1.2.2.1, HE10.out.2.2.1.2.2.2⟩ (fun hHeld => ?_)
          clear hK K
          try go_frame
          refine wpAnyH_take (i := 27) (oi := { dst := some 89, op := Op.binOp BinOp.eql 4 (Operand.tmp 85) (Operand.tmp 88) 4, type := 4, pos := "law.go:37", after := #[{ on := 23, ground := Ground.data }, { on := 26, ground := Ground.data }, { on := 20, ground := Ground.guard }], guard := some (20, true) }) (v := ?_) rfl (by kernel_rfl) (by kernel_rfl) (by kernel_rfl) (fun _ _ _ h => h) (Or.inl ⟨by rfl, ?_⟩) (by with_reducible assumption) ?_
          rotate_left
          focus (intro wS hSw; (try dsimp only at hSw); go_simp <;> with_reducible rfl)
          try go_frame
          refine wpAnyH_take (i := 28) (oi := { dst := some 90, op := Op.pick (Operand.tmp 82) (Operand.tmp 89) (Operand.const (Value.bool false)), type := 4, pos := "law.go:37", after := #[{ on := 20, ground := Ground.data }, { on := 27, ground := Ground.data }], guard := none }) (v := ?_) rfl (by kernel_rfl) (by kernel_rfl) (by kernel_rfl) (fun _ _ _ h => h) (Or.inl ⟨by rfl, ?_⟩) (by with_reducible assumption) ?_
          rotate_left
          focus (intro wS hSw; (try dsimp only at hSw); go_simp <;> with_reducible rfl)
          try go_frame
          refine wpAnyH_take (i := 29) (oi := { dst := some 6, op := Op.assign (Operand.tmp 90), type := 4, pos := "law.go:37", after := #[{ on := 28, ground := Ground.data }, { on := 26, ground := Ground.chain }, { on := 0, ground := Ground.phase }, { on := 1, ground := Ground.phase }, { on := 2, ground := Ground.phase }, { on := 3, ground := Ground.phase }, { on := 4, ground := Ground.phase }, { on := 5, ground := Ground.phase }, { on := 6, ground := Ground.phase }, { on := 7, ground := Ground.phase }, { on := 8, ground := Ground.phase }, { on := 9, ground := Ground.phase }, { on := 10, ground := Ground.phase }, { on := 11, ground := Ground.phase }, { on := 12, ground := Ground.phase }, { on := 13, ground := Ground.phase }, { on := 14, ground := Ground.phase }, { on := 15, ground := Ground.phase }, { on := 16, ground := Ground.phase }, { on := 17, ground := Ground.phase }, { on := 18, ground := Ground.phase }, { on := 19, ground := Ground.phase }, { on := 20, ground := Ground.phase }, { on := 21, ground := Ground.phase }, { on := 22, ground := Ground.phase }, { on := 23, ground := Ground.phase }, { on := 24, ground := Ground.phase }, { on := 25, ground := Ground.phase }, { on := 26, ground := Ground.phase }, { on := 27, ground := Ground.phase }, { on := 28, ground := Ground.phase }], guard := none }) (v := ?_) rfl (by kernel_rfl) (by kernel_rfl) (by kernel_rfl) (fun _ _ _ h => h) (Or.inl ⟨by rfl, ?_⟩) (by with_reducible assumption) ?_
          rotate_left
          focus (intro wS hSw; (try dsimp only at hSw); go_simp <;> with_reducible rfl)
          try go_frame
          refine wpAnyH_done (by kernel_rfl) ?_ _
          go_wp2_with fail
          go_ret
          exact ⟨by simp, hk1 ▸ HE10.out.1⟩
        | succ gr =>
          have hkm : k < m := by omega
          have hkz : (k : Int) < (m : Int) := by omega
          have HF := Lib.hid (And.intro (HS.out.1.keep ((Below.refl wr.heap.size wr).drew)) (HS.out.2.keep ((Below.refl wr.heap.size wr).drew)))
          clear HS
          go_upto_region 9 with fail
          refine wp_region_held_drew (S := fun _ => True) (by kernel_rfl) trivial (fun hHeld => ?_)
          refine wpAnyH_take (i := 0) (oi := { dst := some 47, op := Op.move (Operand.tmp 8), type := 4, pos := "law.go:33", after := #[], guard := none }) (v := ?_) rfl (by kernel_rfl) (by kernel_rfl) (by kernel_rfl) (fun _ _ _ h => h) (Or.inl ⟨by rfl, ?_⟩) (by with_reducible assumption) ?_
          rotate_left
          focus (intro wS hSw; (try dsimp only at hSw); go_simp <;> with_reducible rfl)
          try go_frame
          refine wpAnyH_take (i := 1) (oi := { dst := some 48, op := Op.move (Operand.tmp 47), type := 4, pos := "law.go:33", after := #[{ on := 0, ground := Ground.data }], guard := none }) (v := ?_) rfl (by kernel_rfl) (by kernel_rfl) (by kernel_rfl) (fun _ _ _ h => h) (Or.inl ⟨by rfl, ?_⟩) (by with_reducible assumption) ?_
          rotate_left
          focus (intro wS hSw; (try dsimp only at hSw); go_simp <;> with_reducible rfl)
          try go_frame
          refine wpAnyH_take (i := 2) (oi := { dst := some 49, op := Op.load 25 (Operand.tmp 7), type := 25, pos := "law.go:33", after := #[{ on := 1, ground := Ground.guard }], guard := some (1, true) }) (v := undef) rfl (by kernel_rfl) (by kernel_rfl) (by kernel_rfl) (fun _ _ _ h => h) (Or.inr ⟨by rfl, rfl⟩) (by with_reducible assumption) ?_
          try go_frame
          refine wpAnyH_take (i := 3) (oi := { dst := some 50, op := Op.move (Operand.tmp 2), type := 26, pos := "law.go:33", after := #[{ on := 1, ground := Ground.guard }], guard := some (1, true) }) (v := undef) rfl (by kernel_rfl) (by kernel_rfl) (by kernel_rfl) (fun _ _ _ h => h) (Or.inr ⟨by rfl, rfl⟩) (by with_reducible assumption) ?_
          try go_frame
          refine wpAnyH_take (i := 4) (oi := { dst := some 51, op := Op.move (Operand.tmp 10), type := 3, pos := "law.go:33", after := #[{ on := 1, ground := Ground.guard }], guard := some (1, true) }) (v := undef) rfl (by kernel_rfl) (by kernel_rfl) (by kernel_rfl) (fun _ _ _ h => h) (Or.inr ⟨by rfl, rfl⟩) (by with_reducible assumption) ?_
          try go_frame
          refine wpAnyH_take (i := 5) (oi := { dst := some 52, op := Op.indexAddr 26 (Operand.tmp 50) (Operand.tmp 51), type := 0, pos := "law.go:33", after := #[{ on := 3, ground := Ground.data }, { on := 4, ground := Ground.data }, { on := 1, ground := Ground.guard }], guard := some (1, true) }) (v := undef) rfl (by kernel_rfl) (by kernel_rfl) (by kernel_rfl) (fun _ _ _ h => h) (Or.inr ⟨by rfl, rfl⟩) (by with_reducible assumption) ?_
          try go_frame
          refine wpAnyH_take (i := 6) (oi := { dst := some 53, op := Op.load 23 (Operand.tmp 52), type := 23, pos := "law.go:33", after := #[{ on := 5, ground := Ground.data }, { on := 1, ground := Ground.guard }], guard := some (1, true) }) (v := undef) rfl (by kernel_rfl) (by kernel_rfl) (by kernel_rfl) (fun _ _ _ h => h) (Or.inr ⟨by rfl, rfl⟩) (by with_reducible assumption) ?_
          try go_frame
          refine wpAnyH_take (i := 7) (oi := { dst := some 54, op := Op.move (Operand.tmp 2), type := 26, pos := "law.go:33", after := #[{ on := 1, ground := Ground.guard }], guard := some (1, true) }) (v := undef) rfl (by kernel_rfl) (by kernel_rfl) (by kernel_rfl) (fun _ _ _ h => h) (Or.inr ⟨by rfl, rfl⟩) (by with_reducible assumption) ?_
          try go_frame
          refine wpAnyH_take (i := 8) (oi := { dst := some 55, op := Op.move (Operand.tmp 10), type := 3, pos := "law.go:33", after := #[{ on := 1, ground := Ground.guard }], guard := some (1, true) }) (v := undef) rfl (by kernel_rfl) (by kernel_rfl) (by kernel_rfl) (fun _ _ _ h => h) (Or.inr ⟨by rfl, rfl⟩) (by with_reducible assumption) ?_
          try go_frame
          refine wpAnyH_take (i := 9) (oi := { dst := some 56, op := Op.indexAddr 26 (Operand.tmp 54) (Operand.tmp 55), type := 0, pos := "law.go:33", after := #[{ on := 7, ground := Ground.data }, { on := 8, ground := Ground.data }, { on := 1, ground := Ground.guard }], guard := some (1, true) }) (v := undef) rfl (by kernel_rfl) (by kernel_rfl) (by kernel_rfl) (fun _ _ _ h => h) (Or.inr ⟨by rfl, rfl⟩) (by with_reducible assumption) ?_
          try go_frame
          refine wpAnyH_take (i := 10) (oi := { dst := some 57, op := Op.load 23 (Operand.tmp 56), type := 23, pos := "law.go:33", after := #[{ on := 9, ground := Ground.data }, { on := 1, ground := Ground.guard }], guard := some (1, true) }) (v := undef) rfl (by kernel_rfl) (by kernel_rfl) (by kernel_rfl) (fun _ _ _ h => h) (Or.inr ⟨by rfl, rfl⟩) (by with_reducible assumption) ?_
          try go_frame
          refine wpAnyH_take (i := 11) (oi := { dst := some 58, op := Op.build 25 #[(0, Operand.tmp 53), (1, Operand.tmp 57)], type := 25, pos := "law.go:33", after := #[{ on := 6, ground := Ground.data }, { on := 10, ground := Ground.data }, { on := 1, ground := Ground.guard }], guard := some (1, true) }) (v := undef) rfl (by kernel_rfl) (by kernel_rfl) (by kernel_rfl) (fun _ _ _ h => h) (Or.inr ⟨by rfl, rfl⟩) (by with_reducible assumption) ?_
          try go_frame
          refine wpAnyH_take (i := 12) (oi := { dst := some 59, op := Op.call { callee := Callee.value (Operand.func 13), args := #[Operand.tmp 49, Operand.tmp 58], argTypes := #[25, 25] }, type := 4, pos := "law.go:33", after := #[{ on := 2, ground := Ground.data }, { on := 11, ground := Ground.data }, { on := 1, ground := Ground.chain }, { on := 1, ground := Ground.guard }], guard := some (1, true) }) (v := undef) rfl (by kernel_rfl) (by kernel_rfl) (by kernel_rfl) (fun _ _ _ h => h) (Or.inr ⟨by rfl, rfl⟩) (by with_reducible assumption) ?_
          try go_frame
          refine wpAnyH_take (i := 13) (oi := { dst := some 60, op := Op.unOp UnOp.not 4 (Operand.tmp 59), type := 4, pos := "law.go:33", after := #[{ on := 12, ground := Ground.data }, { on := 1, ground := Ground.guard }], guard := some (1, true) }) (v := undef) rfl (by kernel_rfl) (by kernel_rfl) (by kernel_rfl) (fun _ _ _ h => h) (Or.inr ⟨by rfl, rfl⟩) (by with_reducible assumption) ?_
          try go_frame
          refine wpAnyH_take (i := 14) (oi := { dst := some 61, op := Op.pick (Operand.tmp 48) (Operand.tmp 60) (Operand.const (Value.bool false)), type := 4, pos := "law.go:33", after := #[{ on := 1, ground := Ground.data }, { on := 13, ground := Ground.data }], guard := none }) (v := ?_) rfl (by kernel_rfl) (by kernel_rfl) (by kernel_rfl) (fun _ _ _ h => h) (Or.inl ⟨by rfl, ?_⟩) (by with_reducible assumption) ?_
          rotate_left
          focus (intro wS hSw; (try dsimp only at hSw); go_simp <;> with_reducible rfl)
          try go_frame
          refine wpAnyH_done (by kernel_rfl) ?_ _
          have HSn := HF
          go_wp2_with fail
          go_roundg gr
          case measure => omega
          case rel => exact ⟨k + 1, by omega, by go_num, HSn⟩
    | true =>
      have hok : okN m f g = true := by unfold okN; rw [hpl, Bool.and_true]; simpa using h0
      have HMc0 : Hid (∀ i, i < m → ∀ X, Calls Try.prog 13 #[.agg #[.int .i64 cc.1, .int .i64 cc.2.1, .int .i64 cc.2.2.1, .int .i64 cc.2.2.2], .agg #[.int .i64 (f i), .int .i64 (g i), .int .i64 (f i), .int .i64 (g i)]] X fun e w' => e = .returned (.bool true) ∧ Below X.heap.size X w') := Lib.hid (fun i hi X => by have h := rmeet_any cc (f i, g i, f i, g i) X; rw [HK.out.2 hok i hi] at h; exact h)
      rw [hok]
      rw [hpl] at HAl
      have h0z : (0 : Int) < (m : Int) := by omega
      go_wp2_with (go_at_call 12; refine HAl.out.mono ?_; rintro e w3 ⟨rfl, hb3⟩; have HL := Lib.hid (And.intro (HC2.out.1.keep hb3) (HC2.out.2.keep hb3)); clear HC2 hb3)
      go_loopg [10] m (fun gk i wx => ∃ k : Nat, k + gk = m ∧ i = .int .i64 (k : Int) ∧ Hid (MtC k1 k2 a b q m c bb off f g w wx ∧ BxAt wx kc 0 cc))
      case atStart => exact ⟨0, by omega, rfl, HL⟩
      case round =>
        obtain ⟨k, hkg, rfl, HS⟩ := hrel
        clear HL
        cases gk with
        | zero =>
          obtain rfl : k = m := by omega
          have hkz : ¬ ((k : Int) < (k : Int)) := by omega
          replace HS := Lib.hid HS.out.1
          have HD := Lib.hid (HS.out.keep ((Below.refl wr.heap.size wr).drew))
          clear HS
          go_upto_region 11 with fail
          refine wp_region_held_drew (S := (fun X : World => X.cell? ⟨k1, 0, none⟩ = some (.int .i64 a.1) ∧ X.cell? ⟨k1, 1, none⟩ = some (.int .i64 a.2.1) ∧ X.cell? ⟨k1, 2, none⟩ = some (.int .i64 a.2.2.1) ∧ X.cell? ⟨k1, 3, none⟩ = some (.int .i64 a.2.2.2) ∧ X.cell? ⟨k2, 0, none⟩ = some (.int .i64 b.1) ∧ X.cell? ⟨k2, 1, none⟩ = some (.int .i64 b.2.1) ∧ X.cell? ⟨k2, 2, none⟩ = some (.int .i64 b.2.2.1) ∧ X.cell? ⟨k2, 3, none⟩ = some (.int .i64 b.2.2.2))) (by kernel_rfl) ⟨HD.out.2.1.1, HD.out.2.1.2.1, HD.out.2.1.2.2.1, HD.out.2.1.2.2.2, HD.out.2.2.1.1, HD.out.2.2.1.2.1, HD.out.2.2.1.2.2.1, HD.out.2.2.1.2.2.2⟩ (fun hHeld => ?_)
          refine wpAnyH_ready (rs := [0]) (by kernel_rfl) (by simp) ?_
          refine AllReadyH.cons (i := 0) (o := { dst := some 62, op := Op.call { callee := Callee.value (Operand.func 14), args := #[], argTypes := #[] }, type := 4, pos := "law.go:37", after := #[], guard := none }) rfl (fun K hK => ?_) AllReadyH.nil
          go_simp
          go_at_call 14
          refine (HKn.out _).mono ?_
          rintro e x1 ⟨rfl, hb1⟩
          have HE1 := Lib.hid (HD.out.keep hb1)
          clear HD hb1
          refine hK.out _ _ ⟨HE1.out.2.1.1, HE1.out.2.1.2.1, HE1.out.2.1.2.2.1, HE1.out.2.1.2.2.2, HE1.out.2.2.1.1, HE1.out.2.2.1.2.1, HE1.out.2.2.1.2.2.1, HE1.out.2.2.1.2.2.2⟩ (fun hHeld => ?_)
          clear hK K
          try go_frame
          refine wpAnyH_take (i := 1) (oi := { dst := some 63, op := Op.move (Operand.tmp 62), type := 4, pos := "law.go:37", after := #[{ on := 0, ground := Ground.data }, { on := 0, ground := Ground.chain }], guard := none }) (v := ?_) rfl (by kernel_rfl) (by kernel_rfl) (by kernel_rfl) (fun _ _ _ h => h) (Or.inl ⟨by rfl, ?_⟩) (by with_reducible assumption) ?_
          rotate_left
          focus (intro wS hSw; (try dsimp only at hSw); go_simp <;> with_reducible rfl)
          try go_frame
          refine wpAnyH_take (i := 2) (oi := { dst := some 64, op := Op.load 25 (Operand.tmp 3), type := 25, pos := "law.go:37", after := #[{ on := 1, ground := Ground.guard }], guard := some (1, true) }) (v := ?_) rfl (by kernel_rfl) (by kernel_rfl) (by kernel_rfl) (fun _ _ _ h => h) (Or.inl ⟨by rfl, ?_⟩) (by with_reducible assumption) ?_
          rotate_left
          focus (intro wS hSw; (try dsimp only at hSw); go_simp <;> with_reducible rfl)
          try go_frame
          refine wpAnyH_take (i := 4) (oi := { dst := some 66, op := Op.load 25 (Operand.tmp 3), type := 25, pos := "law.go:37", after := #[{ on := 1, ground := Ground.guard }], guard := some (1, true) }) (v := ?_) rfl (by kernel_rfl) (by kernel_rfl) (by kernel_rfl) (fun _ _ _ h => h) (Or.inl ⟨by rfl, ?_⟩) (by with_reducible assumption) ?_
          rotate_left
          focus (intro wS hSw; (try dsimp only at hSw); go_simp <;> with_reducible rfl)
          try go_frame
          refine wpAnyH_ready (rs := [3]) (by kernel_rfl) (by simp) ?_
          refine AllReadyH.cons (i := 3) (o := { dst := some 65, op := Op.call { callee := Callee.value (Operand.func 15), args := #[Operand.tmp 64], argTypes := #[25] }, type := 4, pos := "law.go:37", after := #[{ on := 2, ground := Ground.data }, { on := 1, ground := Ground.chain }, { on := 1, ground := Ground.guard }], guard := some (1, true) }) rfl (fun K hK => ?_) AllReadyH.nil
          go_simp
          go_at_call 15
          refine (HRa.out _).mono ?_
          rintro e x2 ⟨rfl, hb2⟩
          have HE2 := Lib.hid (HE1.out.keep hb2)
          clear HE1 hb2
          refine hK.out _ _ ⟨HE2.out.2.1.1, HE2.out.2.1.2.1, HE2.out.2.1.2.2.1, HE2.out.2.1.2.2.2, HE2.out.2.2.1.1, HE2.out.2.2.1.2.1, HE2.out.2.2.1.2.2.1, HE2.out.2.2.1.2.2.2⟩ (fun hHeld => ?_)
          clear hK K
          try go_frame
          refine wpAnyH_ready (rs := [5]) (by kernel_rfl) (by simp) ?_
          refine AllReadyH.cons (i := 5) (o := { dst := some 67, op := Op.call { callee := Callee.value (Operand.func 17), args := #[Operand.tmp 66], argTypes := #[25] }, type := 38, pos := "law.go:37", after := #[{ on := 4, ground := Ground.data }, { on := 3, ground := Ground.chain }, { on := 1, ground := Ground.guard }], guard := some (1, true) }) rfl (fun K hK => ?_) AllReadyH.nil
          go_simp
          go_at_call 17
          refine (HOa.out _).mono ?_
          rintro e x3 ⟨rfl, hb3⟩
          have HE3 := Lib.hid (HE2.out.keep hb3)
          clear HE2 hb3
          refine hK.out _ _ ⟨HE3.out.2.1.1, HE3.out.2.1.2.1, HE3.out.2.1.2.2.1, HE3.out.2.1.2.2.2, HE3.out.2.2.1.1, HE3.out.2.2.1.2.1, HE3.out.2.2.1.2.2.1, HE3.out.2.2.1.2.2.2⟩ (fun hHeld => ?_)
          clear hK K
          try go_frame
          refine wpAnyH_ready (rs := [6]) (by kernel_rfl) (by simp) ?_
          refine AllReadyH.cons (i := 6) (o := { dst := some 68, op := Op.call { callee := Callee.value (Operand.func 16), args := #[Operand.tmp 67], argTypes := #[38] }, type := 4, pos := "law.go:37", after := #[{ on := 5, ground := Ground.data }, { on := 5, ground := Ground.chain }, { on := 1, ground := Ground.guard }], guard := some (1, true) }) rfl (fun K hK => ?_) AllReadyH.nil
          go_simp
          go_at_call 16
          refine (HQa.out _).mono ?_
          rintro e x4 ⟨rfl, hb4⟩
          have HE4 := Lib.hid (HE3.out.keep hb4)
          clear HE3 hb4
          refine hK.out _ _ ⟨HE4.out.2.1.1, HE4.out.2.1.2.1, HE4.out.2.1.2.2.1, HE4.out.2.1.2.2.2, HE4.out.2.2.1.1, HE4.out.2.2.1.2.1, HE4.out.2.2.1.2.2.1, HE4.out.2.2.1.2.2.2⟩ (fun hHeld => ?_)
          clear hK K
          try go_frame
          refine wpAnyH_take (i := 7) (oi := { dst := some 69, op := Op.binOp BinOp.eql 4 (Operand.tmp 65) (Operand.tmp 68) 4, type := 4, pos := "law.go:37", after := #[{ on := 3, ground := Ground.data }, { on := 6, ground := Ground.data }, { on := 1, ground := Ground.guard }], guard := some (1, true) }) (v := ?_) rfl (by kernel_rfl) (by kernel_rfl) (by kernel_rfl) (fun _ _ _ h => h) (Or.inl ⟨by rfl, ?_⟩) (by with_reducible assumption) ?_
          rotate_left
          focus (intro wS hSw; (try dsimp only at hSw); go_simp <;> with_reducible rfl)
          try go_frame
          refine wpAnyH_take (i := 8) (oi := { dst := some 70, op := Op.pick (Operand.tmp 63) (Operand.tmp 69) (Operand.const (Value.bool false)), type := 4, pos := "law.go:37", after := #[{ on := 1, ground := Ground.data }, { on := 7, ground := Ground.data }], guard := none }) (v := ?_) rfl (by kernel_rfl) (by kernel_rfl) (by kernel_rfl) (fun _ _ _ h => h) (Or.inl ⟨by rfl, ?_⟩) (by with_reducible assumption) ?_
          rotate_left
          focus (intro wS hSw; (try dsimp only at hSw); go_simp <;> with_reducible rfl)
          try go_frame
          refine wpAnyH_take (i := 9) (oi := { dst := some 71, op := Op.move (Operand.tmp 70), type := 4, pos := "law.go:37", after := #[{ on := 8, ground := Ground.data }, { on := 6, ground := Ground.chain }], guard := none }) (v := ?_) rfl (by kernel_rfl) (by kernel_rfl) (by kernel_rfl) (fun _ _ _ h => h) (Or.inl ⟨by rfl, ?_⟩) (by with_reducible assumption) ?_
          rotate_left
          focus (intro wS hSw; (try dsimp only at hSw); go_simp <;> with_reducible rfl)
          try go_frame
          refine wpAnyH_take (i := 10) (oi := { dst := some 72, op := Op.load 25 (Operand.tmp 3), type := 25, pos := "law.go:37", after := #[{ on := 9, ground := Ground.guard }], guard := some (9, true) }) (v := ?_) rfl (by kernel_rfl) (by kernel_rfl) (by kernel_rfl) (fun _ _ _ h => h) (Or.inl ⟨by rfl, ?_⟩) (by with_reducible assumption) ?_
          rotate_left
          focus (intro wS hSw; (try dsimp only at hSw); go_simp <;> with_reducible rfl)
          try go_frame
          refine wpAnyH_take (i := 11) (oi := { dst := some 73, op := Op.load 25 (Operand.tmp 4), type := 25, pos := "law.go:37", after := #[{ on := 9, ground := Ground.guard }], guard := some (9, true) }) (v := ?_) rfl (by kernel_rfl) (by kernel_rfl) (by kernel_rfl) (fun _ _ _ h => h) (Or.inl ⟨by rfl, ?_⟩) (by with_reducible assumption) ?_
          rotate_left
          focus (intro wS hSw; (try dsimp only at hSw); go_simp <;> with_reducible rfl)
          try go_frame
          refine wpAnyH_take (i := 13) (oi := { dst := some 75, op := Op.load 25 (Operand.tmp 3), type := 25, pos := "law.go:37", after := #[{ on := 9, ground := Ground.guard }], guard := some (9, true) }) (v := ?_) rfl (by kernel_rfl) (by kernel_rfl) (by kernel_rfl) (fun _ _ _ h => h) (Or.inl ⟨by rfl, ?_⟩) (by with_reducible assumption) ?_
          rotate_left
          focus (intro wS hSw; (try dsimp only at hSw); go_simp <;> with_reducible rfl)
          try go_frame
          refine wpAnyH_take (i := 15) (oi := { dst := some 77, op := Op.load 25 (Operand.tmp 4), type := 25, pos := "law.go:37", after := #[{ on := 9, ground := Ground.guard }], guard := some (9, true) }) (v := ?_) rfl (by kernel_rfl) (by kernel_rfl) (by kernel_rfl) (fun _ _ _ h => h) (Or.inl ⟨by rfl, ?_⟩) (by with_reducible assumption) ?_
          rotate_left
          focus (intro wS hSw; (try dsimp only at hSw); go_simp <;> with_reducible rfl)
          try go_frame
          refine wpAnyH_ready (rs := [12]) (by kernel_rfl) (by simp) ?_
          refine AllReadyH.cons (i := 12) (o := { dst := some 74, op := Op.call { callee := Callee.value (Operand.func 13), args := #[Operand.tmp 72, Operand.tmp 73], argTypes := #[25, 25] }, type := 4, pos := "law.go:37", after := #[{ on := 10, ground := Ground.data }, { on := 11, ground := Ground.data }, { on := 9, ground := Ground.chain }, { on := 9, ground := Ground.guard }], guard := some (9, true) }) rfl (fun K hK => ?_) AllReadyH.nil
          go_simp
          go_at_call 13
          refine (HMab.out _).mono ?_
          rintro e x5 ⟨rfl, hb5⟩
          have HE5 := Lib.hid (HE4.out.keep hb5)
          clear HE4 hb5
          refine hK.out _ _ ⟨HE5.out.2.1.1, HE5.out.2.1.2.1, HE5.out.2.1.2.2.1, HE5.out.2.1.2.2.2, HE5.out.2.2.1.1, HE5.out.2.2.1.2.1, HE5.out.2.2.1.2.2.1, HE5.out.2.2.1.2.2.2⟩ (fun hHeld => ?_)
          clear hK K
          try go_frame
          refine wpAnyH_ready (rs := [14]) (by kernel_rfl) (by simp) ?_
          refine AllReadyH.cons (i := 14) (o := { dst := some 76, op := Op.call { callee := Callee.value (Operand.func 17), args := #[Operand.tmp 75], argTypes := #[25] }, type := 38, pos := "law.go:37", after := #[{ on := 13, ground := Ground.data }, { on := 12, ground := Ground.chain }, { on := 9, ground := Ground.guard }], guard := some (9, true) }) rfl (fun K hK => ?_) AllReadyH.nil
          go_simp
          go_at_call 17
          refine (HOa.out _).mono ?_
          rintro e x6 ⟨rfl, hb6⟩
          have HE6 := Lib.hid (HE5.out.keep hb6)
          clear HE5 hb6
          refine hK.out _ _ ⟨HE6.out.2.1.1, HE6.out.2.1.2.1, HE6.out.2.1.2.2.1, HE6.out.2.1.2.2.2, HE6.out.2.2.1.1, HE6.out.2.2.1.2.1, HE6.out.2.2.1.2.2.1, HE6.out.2.2.1.2.2.2⟩ (fun hHeld => ?_)
          clear hK K
          try go_frame
          refine wpAnyH_ready (rs := [16]) (by kernel_rfl) (by simp) ?_
          refine AllReadyH.cons (i := 16) (o := { dst := some 78, op := Op.call { callee := Callee.value (Operand.func 17), args := #[Operand.tmp 77], argTypes := #[25] }, type := 38, pos := "law.go:37", after := #[{ on := 15, ground := Ground.data }, { on := 14, ground := Ground.chain }, { on := 9, ground := Ground.guard }], guard := some (9, true) }) rfl (fun K hK => ?_) AllReadyH.nil
          go_simp
          go_at_call 17
          refine (HOb.out _).mono ?_
          rintro e x7 ⟨rfl, hb7⟩
          have HE7 := Lib.hid (HE6.out.keep hb7)
          clear HE6 hb7
          refine hK.out _ _ ⟨HE7.out.2.1.1, HE7.out.2.1.2.1, HE7.out.2.1.2.2.1, HE7.out.2.1.2.2.2, HE7.out.2.2.1.1, HE7.out.2.2.1.2.1, HE7.out.2.2.1.2.2.1, HE7.out.2.2.1.2.2.2⟩ (fun hHeld => ?_)
          clear hK K
          try go_frame
          refine wpAnyH_ready (rs := [17]) (by kernel_rfl) (by simp) ?_
          refine AllReadyH.cons (i := 17) (o := { dst := some 79, op := Op.call { callee := Callee.value (Operand.func 18), args := #[Operand.tmp 76, Operand.tmp 78], argTypes := #[38, 38] }, type := 4, pos := "law.go:37", after := #[{ on := 14, ground := Ground.data }, { on := 16, ground := Ground.data }, { on := 16, ground := Ground.chain }, { on := 9, ground := Ground.guard }], guard := some (9, true) }) rfl (fun K hK => ?_) AllReadyH.nil
          go_simp
          go_at_call 18
          refine (HQab.out _).mono ?_
          rintro e x8 ⟨rfl, hb8⟩
          have HE8 := Lib.hid (HE7.out.keep hb8)
          clear HE7 hb8
          refine hK.out _ _ ⟨HE8.out.2.1.1, HE8.out.2.1.2.1, HE8.out.2.1.2.2.1, HE8.out.2.1.2.2.2, HE8.out.2.2.1.1, HE8.out.2.2.1.2.1, HE8.out.2.2.1.2.2.1, HE8.out.2.2.1.2.2.2⟩ (fun hHeld => ?_)
          clear hK K
          try go_frame
          refine wpAnyH_take (i := 18) (oi := { dst := some 80, op := Op.binOp BinOp.eql 4 (Operand.tmp 74) (Operand.tmp 79) 4, type := 4, pos := "law.go:37", after := #[{ on := 12, ground := Ground.data }, { on := 17, ground := Ground.data }, { on := 9, ground := Ground.guard }], guard := some (9, true) }) (v := ?_) rfl (by kernel_rfl) (by kernel_rfl) (by kernel_rfl) (fun _ _ _ h => h) (Or.inl ⟨by rfl, ?_⟩) (by with_reducible assumption) ?_
          rotate_left
          focus (intro wS hSw; (try dsimp only at hSw); go_simp <;> with_reducible rfl)
          try go_frame
          refine wpAnyH_take (i := 19) (oi := { dst := some 81, op := Op.pick (Operand.tmp 71) (Operand.tmp 80) (Operand.const (Value.bool false)), type := 4, pos := "law.go:37", after := #[{ on := 9, ground := Ground.data }, { on := 18, ground := Ground.data }], guard := none }) (v := ?_) rfl (by kernel_rfl) (by kernel_rfl) (by kernel_rfl) (fun _ _ _ h => h) (Or.inl ⟨by rfl, ?_⟩) (by with_reducible assumption) ?_
          rotate_left
          focus (intro wS hSw; (try dsimp only at hSw); go_simp <;> with_reducible rfl)
          try go_frame
          refine wpAnyH_take (i := 20) (oi := { dst := some 82, op := Op.move (Operand.tmp 81), type := 4, pos := "law.go:37", after := #[{ on := 19, ground := Ground.data }, { on := 17, ground := Ground.chain }], guard := none }) (v := ?_) rfl (by kernel_rfl) (by kernel_rfl) (by kernel_rfl) (fun _ _ _ h => h) (Or.inl ⟨by rfl, ?_⟩) (by with_reducible assumption) ?_
          rotate_left
          focus (intro wS hSw; (try dsimp only at hSw); go_simp <;> with_reducible rfl)
          try go_frame
          refine wpAnyH_take (i := 21) (oi := { dst := some 83, op := Op.load 25 (Operand.tmp 4), type := 25, pos := "law.go:37", after := #[{ on := 20, ground := Ground.guard }], guard := some (20, true) }) (v := ?_) rfl (by kernel_rfl) (by kernel_rfl) (by kernel_rfl) (fun _ _ _ h => h) (Or.inl ⟨by rfl, ?_⟩) (by with_reducible assumption) ?_
          rotate_left
          focus (intro wS hSw; (try dsimp only at hSw); go_simp <;> with_reducible rfl)
          try go_frame
          refine wpAnyH_take (i := 22) (oi := { dst := some 84, op := Op.load 25 (Operand.tmp 3), type := 25, pos := "law.go:37", after := #[{ on := 20, ground := Ground.guard }], guard := some (20, true) }) (v := ?_) rfl (by kernel_rfl) (by kernel_rfl) (by kernel_rfl) (fun _ _ _ h => h) (Or.inl ⟨by rfl, ?_⟩) (by with_reducible assumption) ?_
          rotate_left
          focus (intro wS hSw; (try dsimp only at hSw); go_simp <;> with_reducible rfl)
          try go_frame
          refine wpAnyH_take (i := 24) (oi := { dst := some 86, op := Op.load 25 (Operand.tmp 3), type := 25, pos := "law.go:37", after := #[{ on := 20, ground := Ground.guard }], guard := some (20, true) }) (v := ?_) rfl (by kernel_rfl) (by kernel_rfl) (by kernel_rfl) (fun _ _ _ h => h) (Or.inl ⟨by rfl, ?_⟩) (by with_reducible assumption) ?_
          rotate_left
          focus (intro wS hSw; (try dsimp only at hSw); go_simp <;> with_reducible rfl)
          try go_frame
          refine wpAnyH_take (i := 25) (oi := { dst := some 87, op := Op.load 25 (Operand.tmp 4), type := 25, pos := "law.go:37", after := #[{ on := 20, ground := Ground.guard }], guard := some (20, true) }) (v := ?_) rfl (by kernel_rfl) (by kernel_rfl) (by kernel_rfl) (fun _ _ _ h => h) (Or.inl ⟨by rfl, ?_⟩) (by with_reducible assumption) ?_
          rotate_left
          focus (intro wS hSw; (try dsimp only at hSw); go_simp <;> with_reducible rfl)
          try go_frame
          refine wpAnyH_ready (rs := [23]) (by kernel_rfl) (by simp) ?_
          refine AllReadyH.cons (i := 23) (o := { dst := some 85, op := Op.call { callee := Callee.value (Operand.func 13), args := #[Operand.tmp 83, Operand.tmp 84], argTypes := #[25, 25] }, type := 4, pos := "law.go:37", after := #[{ on := 21, ground := Ground.data }, { on := 22, ground := Ground.data }, { on := 20, ground := Ground.chain }, { on := 20, ground := Ground.guard }], guard := some (20, true) }) rfl (fun K hK => ?_) AllReadyH.nil
          go_simp
          go_at_call 13
          refine (HMba.out _).mono ?_
          rintro e x9 ⟨rfl, hb9⟩
          have HE9 := Lib.hid (HE8.out.keep hb9)
          clear HE8 hb9
          refine hK.out _ _ ⟨HE9.out.2.1.1, HE9.out.2.1.2.1, HE9.out.2.1.2.2.1, HE9.out.2.1.2.2.2, HE9.out.2.2.1.1, HE9.out.2.2.1.2.1, HE9.out.2.2.1.2.2.1, HE9.out.2.2.1.2.2.2⟩ (fun hHeld => ?_)
          clear hK K
          try go_frame
          refine wpAnyH_ready (rs := [26]) (by kernel_rfl) (by simp) ?_
          refine AllReadyH.cons (i := 26) (o := { dst := some 88, op := Op.call { callee := Callee.value (Operand.func 13), args := #[Operand.tmp 86, Operand.tmp 87], argTypes := #[25, 25] }, type := 4, pos := "law.go:37", after := #[{ on := 24, ground := Ground.data }, { on := 25, ground := Ground.data }, { on := 23, ground := Ground.chain }, { on := 20, ground := Ground.guard }], guard := some (20, true) }) rfl (fun K hK => ?_) AllReadyH.nil
          go_simp
          go_at_call 13
          refine (HMab.out _).mono ?_
          rintro e x10 ⟨rfl, hb10⟩
          have HE10 := Lib.hid (HE9.out.keep hb10)
          clear HE9 hb10
          refine hK.out _ _ ⟨HE10.out.2.1.1, HE10.out.2.1.2.1, HE10.out.2.1.2.2.1, HE10.out.2.1.2.2.2, HE10.out.2.2.1.1, HE10.out.2.2.1.2.1, HE10.out.2.2.1.2.2.1, HE10.out.2.2.1.2.2.2⟩ (fun hHeld => ?_)
          clear hK K
          try go_frame
          refine wpAnyH_take (i := 27) (oi := { dst := some 89, op := Op.binOp BinOp.eql 4 (Operand.tmp 85) (Operand.tmp 88) 4, type := 4, pos := "law.go:37", after := #[{ on := 23, ground := Ground.data }, { on := 26, ground := Ground.data }, { on := 20, ground := Ground.guard }], guard := some (20, true) }) (v := ?_) rfl (by kernel_rfl) (by kernel_rfl) (by kernel_rfl) (fun _ _ _ h => h) (Or.inl ⟨by rfl, ?_⟩) (by with_reducible assumption) ?_
          rotate_left
          focus (intro wS hSw; (try dsimp only at hSw); go_simp <;> with_reducible rfl)
          try go_frame
          refine wpAnyH_take (i := 28) (oi := { dst := some 90, op := Op.pick (Operand.tmp 82) (Operand.tmp 89) (Operand.const (Value.bool false)), type := 4, pos := "law.go:37", after := #[{ on := 20, ground := Ground.data }, { on := 27, ground := Ground.data }], guard := none }) (v := ?_) rfl (by kernel_rfl) (by kernel_rfl) (by kernel_rfl) (fun _ _ _ h => h) (Or.inl ⟨by rfl, ?_⟩) (by with_reducible assumption) ?_
          rotate_left
          focus (intro wS hSw; (try dsimp only at hSw); go_simp <;> with_reducible rfl)
          try go_frame
          refine wpAnyH_take (i := 29) (oi := { dst := some 6, op := Op.assign (Operand.tmp 90), type := 4, pos := "law.go:37", after := #[{ on := 28, ground := Ground.data }, { on := 26, ground := Ground.chain }, { on := 0, ground := Ground.phase }, { on := 1, ground := Ground.phase }, { on := 2, ground := Ground.phase }, { on := 3, ground := Ground.phase }, { on := 4, ground := Ground.phase }, { on := 5, ground := Ground.phase }, { on := 6, ground := Ground.phase }, { on := 7, ground := Ground.phase }, { on := 8, ground := Ground.phase }, { on := 9, ground := Ground.phase }, { on := 10, ground := Ground.phase }, { on := 11, ground := Ground.phase }, { on := 12, ground := Ground.phase }, { on := 13, ground := Ground.phase }, { on := 14, ground := Ground.phase }, { on := 15, ground := Ground.phase }, { on := 16, ground := Ground.phase }, { on := 17, ground := Ground.phase }, { on := 18, ground := Ground.phase }, { on := 19, ground := Ground.phase }, { on := 20, ground := Ground.phase }, { on := 21, ground := Ground.phase }, { on := 22, ground := Ground.phase }, { on := 23, ground := Ground.phase }, { on := 24, ground := Ground.phase }, { on := 25, ground := Ground.phase }, { on := 26, ground := Ground.phase }, { on := 27, ground := Ground.phase }, { on := 28, ground := Ground.phase }], guard := none }) (v := ?_) rfl (by kernel_rfl) (by kernel_rfl) (by kernel_rfl) (fun _ _ _ h => h) (Or.inl ⟨by rfl, ?_⟩) (by with_reducible assumption) ?_
          rotate_left
          focus (intro wS hSw; (try dsimp only at hSw); go_simp <;> with_reducible rfl)
          try go_frame
          refine wpAnyH_done (by kernel_rfl) ?_ _
          go_wp2_with fail
          go_ret
          exact ⟨by simp, hk1 ▸ HE10.out.1⟩
        | succ gr =>
          have hkm : k < m := by omega
          have hkz : (k : Int) < (m : Int) := by omega
          have HMc := Lib.hid (HMc0.out k hkm)
          obtain ⟨hq, _⟩ := HS.out.1.2.2.2.nz (by omega)
          subst hq
          have HD := Lib.hid (And.intro (HS.out.1.keep ((Below.refl wr.heap.size wr).drew)) (HS.out.2.keep ((Below.refl wr.heap.size wr).drew)))
          clear HS
          go_upto_region 9 with fail
          refine wp_region_held_drew (S := (fun X : World => X.cell? ⟨kc, 0, none⟩ = some (.int .i64 cc.1) ∧ X.cell? ⟨kc, 1, none⟩ = some (.int .i64 cc.2.1) ∧ X.cell? ⟨kc, 2, none⟩ = some (.int .i64 cc.2.2.1) ∧ X.cell? ⟨kc, 3, none⟩ = some (.int .i64 cc.2.2.2) ∧ X.cell? ⟨bb, off + k * 2, none⟩ = some (.int .i64 (f k)) ∧ X.cell? ⟨bb, off + k * 2 + 1, none⟩ = some (.int .i64 (g k)))) (by kernel_rfl) ⟨HD.out.2.1, HD.out.2.2.1, HD.out.2.2.2.1, HD.out.2.2.2.2, (HD.out.1.2.2.2.at hkm).1, (HD.out.1.2.2.2.at hkm).2⟩ (fun hHeld => ?_)
          refine wpAnyH_take (i := 0) (oi := { dst := some 47, op := Op.move (Operand.tmp 8), type := 4, pos := "law.go:33", after := #[], guard := none }) (v := ?_) rfl (by kernel_rfl) (by kernel_rfl) (by kernel_rfl) (fun _ _ _ h => h) (Or.inl ⟨by rfl, ?_⟩) (by with_reducible assumption) ?_
          rotate_left
          focus (intro wS hSw; (try dsimp only at hSw); go_simp <;> with_reducible rfl)
          try go_frame
          refine wpAnyH_take (i := 1) (oi := { dst := some 48, op := Op.move (Operand.tmp 47), type := 4, pos := "law.go:33", after := #[{ on := 0, ground := Ground.data }], guard := none }) (v := ?_) rfl (by kernel_rfl) (by kernel_rfl) (by kernel_rfl) (fun _ _ _ h => h) (Or.inl ⟨by rfl, ?_⟩) (by with_reducible assumption) ?_
          rotate_left
          focus (intro wS hSw; (try dsimp only at hSw); go_simp <;> with_reducible rfl)
          try go_frame
          refine wpAnyH_take (i := 2) (oi := { dst := some 49, op := Op.load 25 (Operand.tmp 7), type := 25, pos := "law.go:33", after := #[{ on := 1, ground := Ground.guard }], guard := some (1, true) }) (v := ?_) rfl (by kernel_rfl) (by kernel_rfl) (by kernel_rfl) (fun _ _ _ h => h) (Or.inl ⟨by rfl, ?_⟩) (by with_reducible assumption) ?_
          rotate_left
          focus (intro wS hSw; (try dsimp only at hSw); go_simp <;> with_reducible rfl)
          try go_frame
          refine wpAnyH_take (i := 3) (oi := { dst := some 50, op := Op.move (Operand.tmp 2), type := 26, pos := "law.go:33", after := #[{ on := 1, ground := Ground.guard }], guard := some (1, true) }) (v := ?_) rfl (by kernel_rfl) (by kernel_rfl) (by kernel_rfl) (fun _ _ _ h => h) (Or.inl ⟨by rfl, ?_⟩) (by with_reducible assumption) ?_
          rotate_left
          focus (intro wS hSw; (try dsimp only at hSw); go_simp <;> with_reducible rfl)
          try go_frame
          refine wpAnyH_take (i := 4) (oi := { dst := some 51, op := Op.move (Operand.tmp 10), type := 3, pos := "law.go:33", after := #[{ on := 1, ground := Ground.guard }], guard := some (1, true) }) (v := ?_) rfl (by kernel_rfl) (by kernel_rfl) (by kernel_rfl) (fun _ _ _ h => h) (Or.inl ⟨by rfl, ?_⟩) (by with_reducible assumption) ?_
          rotate_left
          focus (intro wS hSw; (try dsimp only at hSw); go_simp <;> with_reducible rfl)
          try go_frame
          refine wpAnyH_take (i := 5) (oi := { dst := some 52, op := Op.indexAddr 26 (Operand.tmp 50) (Operand.tmp 51), type := 0, pos := "law.go:33", after := #[{ on := 3, ground := Ground.data }, { on := 4, ground := Ground.data }, { on := 1, ground := Ground.guard }], guard := some (1, true) }) (v := ?_) rfl (by kernel_rfl) (by kernel_rfl) (by kernel_rfl) (fun _ _ _ h => h) (Or.inl ⟨by rfl, ?_⟩) (by with_reducible assumption) ?_
          rotate_left
          focus (intro wS hSw; (try dsimp only at hSw); go_simp <;> with_reducible rfl)
          try go_frame
          refine wpAnyH_take (i := 6) (oi := { dst := some 53, op := Op.load 23 (Operand.tmp 52), type := 23, pos := "law.go:33", after := #[{ on := 5, ground := Ground.data }, { on := 1, ground := Ground.guard }], guard := some (1, true) }) (v := ?_) rfl (by kernel_rfl) (by kernel_rfl) (by kernel_rfl) (fun _ _ _ h => h) (Or.inl ⟨by rfl, ?_⟩) (by with_reducible assumption) ?_
          rotate_left
          focus (intro wS hSw; (try dsimp only at hSw); go_simp <;> with_reducible rfl)
          try go_frame
          refine wpAnyH_take (i := 7) (oi := { dst := some 54, op := Op.move (Operand.tmp 2), type := 26, pos := "law.go:33", after := #[{ on := 1, ground := Ground.guard }], guard := some (1, true) }) (v := ?_) rfl (by kernel_rfl) (by kernel_rfl) (by kernel_rfl) (fun _ _ _ h => h) (Or.inl ⟨by rfl, ?_⟩) (by with_reducible assumption) ?_
          rotate_left
          focus (intro wS hSw; (try dsimp only at hSw); go_simp <;> with_reducible rfl)
          try go_frame
          refine wpAnyH_take (i := 8) (oi := { dst := some 55, op := Op.move (Operand.tmp 10), type := 3, pos := "law.go:33", after := #[{ on := 1, ground := Ground.guard }], guard := some (1, true) }) (v := ?_) rfl (by kernel_rfl) (by kernel_rfl) (by kernel_rfl) (fun _ _ _ h => h) (Or.inl ⟨by rfl, ?_⟩) (by with_reducible assumption) ?_
          rotate_left
          focus (intro wS hSw; (try dsimp only at hSw); go_simp <;> with_reducible rfl)
          try go_frame
          refine wpAnyH_take (i := 9) (oi := { dst := some 56, op := Op.indexAddr 26 (Operand.tmp 54) (Operand.tmp 55), type := 0, pos := "law.go:33", after := #[{ on := 7, ground := Ground.data }, { on := 8, ground := Ground.data }, { on := 1, ground := Ground.guard }], guard := some (1, true) }) (v := ?_) rfl (by kernel_rfl) (by kernel_rfl) (by kernel_rfl) (fun _ _ _ h => h) (Or.inl ⟨by rfl, ?_⟩) (by with_reducible assumption) ?_
          rotate_left
          focus (intro wS hSw; (try dsimp only at hSw); go_simp <;> with_reducible rfl)
          try go_frame
          refine wpAnyH_take (i := 10) (oi := { dst := some 57, op := Op.load 23 (Operand.tmp 56), type := 23, pos := "law.go:33", after := #[{ on := 9, ground := Ground.data }, { on := 1, ground := Ground.guard }], guard := some (1, true) }) (v := ?_) rfl (by kernel_rfl) (by kernel_rfl) (by kernel_rfl) (fun _ _ _ h => h) (Or.inl ⟨by rfl, ?_⟩) (by with_reducible assumption) ?_
          rotate_left
          focus (intro wS hSw; (try dsimp only at hSw); go_simp <;> with_reducible rfl)
          try go_frame
          refine wpAnyH_take (i := 11) (oi := { dst := some 58, op := Op.build 25 #[(0, Operand.tmp 53), (1, Operand.tmp 57)], type := 25, pos := "law.go:33", after := #[{ on := 6, ground := Ground.data }, { on := 10, ground := Ground.data }, { on := 1, ground := Ground.guard }], guard := some (1, true) }) (v := ?_) rfl (by kernel_rfl) (by kernel_rfl) (by kernel_rfl) (fun _ _ _ h => h) (Or.inl ⟨by rfl, ?_⟩) (by with_reducible assumption) ?_
          rotate_left
          focus (intro wS hSw; (try dsimp only at hSw); go_simp <;> with_reducible rfl)
          try go_frame
          refine wpAnyH_ready (rs := [12]) (by kernel_rfl) (by simp) ?_
          refine AllReadyH.cons (i := 12) (o := { dst := some 59, op := Op.call { callee := Callee.value (Operand.func 13), args := #[Operand.tmp 49, Operand.tmp 58], argTypes := #[25, 25] }, type := 4, pos := "law.go:33", after := #[{ on := 2, ground := Ground.data }, { on := 11, ground := Ground.data }, { on := 1, ground := Ground.chain }, { on := 1, ground := Ground.guard }], guard := some (1, true) }) rfl (fun K hK => ?_) AllReadyH.nil
          go_simp
          go_at_call 13
          refine (HMc.out _).mono ?_
          rintro e y1 ⟨rfl, hb1⟩
          have HF := Lib.hid (And.intro (HD.out.1.keep hb1) (HD.out.2.keep hb1))
          clear HD hb1
          refine hK.out _ _ ⟨HF.out.2.1, HF.out.2.2.1, HF.out.2.2.2.1, HF.out.2.2.2.2, (HF.out.1.2.2.2.at hkm).1, (HF.out.1.2.2.2.at hkm).2⟩ (fun hHeld => ?_)
          clear hK K
          try go_frame
          refine wpAnyH_take (i := 13) (oi := { dst := some 60, op := Op.unOp UnOp.not 4 (Operand.tmp 59), type := 4, pos := "law.go:33", after := #[{ on := 12, ground := Ground.data }, { on := 1, ground := Ground.guard }], guard := some (1, true) }) (v := ?_) rfl (by kernel_rfl) (by kernel_rfl) (by kernel_rfl) (fun _ _ _ h => h) (Or.inl ⟨by rfl, ?_⟩) (by with_reducible assumption) ?_
          rotate_left
          focus (intro wS hSw; (try dsimp only at hSw); go_simp <;> with_reducible rfl)
          try go_frame
          refine wpAnyH_take (i := 14) (oi := { dst := some 61, op := Op.pick (Operand.tmp 48) (Operand.tmp 60) (Operand.const (Value.bool false)), type := 4, pos := "law.go:33", after := #[{ on := 1, ground := Ground.data }, { on := 13, ground := Ground.data }], guard := none }) (v := ?_) rfl (by kernel_rfl) (by kernel_rfl) (by kernel_rfl) (fun _ _ _ h => h) (Or.inl ⟨by rfl, ?_⟩) (by with_reducible assumption) ?_
          rotate_left
          focus (intro wS hSw; (try dsimp only at hSw); go_simp <;> with_reducible rfl)
          try go_frame
          refine wpAnyH_done (by kernel_rfl) ?_ _
          have HSn := HF
          go_wp2_with fail
          go_roundg gr
          case measure => omega
          case rel => exact ⟨k + 1, by omega, by go_num, HSn⟩
end Go.Proofs.Ytenfaejdnphngaa
