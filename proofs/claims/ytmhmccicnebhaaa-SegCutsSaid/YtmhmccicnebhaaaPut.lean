/- The walk of put: a cut more, in order. -/
import Derived.Test.YtmhmccicnebhaaaSegRef
import Derived.Test.YtmhmccicnebhaaaSrc
import Derived.BigQuiet
import Derived.Deep.QuietTactic
import Derived.Deep.DeepCutAuto
import Derived.Deep.CutBlock
import Derived.RegionTactic
namespace Go.Proofs.Ytmhmccicnebhaaa
open Go.RowKit

/-- A cut: its point, and how far it lies: N of D. -/
abbrev Ct : Type := (Int × Int) × Int × Int
def ctc (L : List Ct) : List Value := L.flatMap fun c => [.int .i64 c.1.1, .int .i64 c.1.2, .int .i64 c.2.1, .int .i64 c.2.2]
theorem ctc_cons (p : Ct) (L : List Ct) : ctc (p :: L) = .int .i64 p.1.1 :: .int .i64 p.1.2 :: .int .i64 p.2.1 :: .int .i64 p.2.2 :: ctc L := rfl
theorem ctc_append (L M : List Ct) : ctc (L ++ M) = ctc L ++ ctc M := by simp [ctc]
theorem ctc_len : ∀ L : List Ct, (ctc L).length = L.length * 4
  | [] => rfl
  | p :: L => by rw [ctc_cons]; simp only [List.length_cons]; rw [ctc_len L]; omega
theorem ctc_at : ∀ (L : List Ct) (i : Nat) (h : i < L.length), (ctc L)[i * 4]? = some (.int .i64 L[i].1.1) ∧ (ctc L)[i * 4 + 1]? = some (.int .i64 L[i].1.2) ∧ (ctc L)[i * 4 + 2]? = some (.int .i64 L[i].2.1) ∧ (ctc L)[i * 4 + 3]? = some (.int .i64 L[i].2.2)
  | [], i, h => absurd h (by simp)
  | p :: L, 0, _ => ⟨rfl, rfl, rfl, rfl⟩
  | p :: L, i + 1, h => by
    have := ctc_at L i (by simpa using h)
    rw [ctc_cons, show (i + 1) * 4 = i * 4 + 1 + 1 + 1 + 1 from by omega]
    exact this
theorem ctc_one (L : List Ct) : ∀ u ∈ ctc L, u.oneCell' = true := by
  intro u hu
  unfold ctc at hu
  rw [List.mem_flatMap] at hu
  obtain ⟨p, _, hp⟩ := hu
  simp at hp
  rcases hp with rfl | rfl | rfl | rfl <;> rfl
theorem ctc_take (L : List Ct) (k : Nat) : ctc (L.take k) = (ctc L).take (k * 4) := by
  induction L generalizing k with
  | nil => simp [ctc]
  | cons p L ih =>
    cases k with
    | zero => simp [ctc]
    | succ k => rw [List.take_succ_cons, ctc_cons, ctc_cons, ih, show (k + 1) * 4 = k * 4 + 1 + 1 + 1 + 1 from by omega]; rfl
theorem ctc_drop (L : List Ct) (k : Nat) : ctc (L.drop k) = (ctc L).drop (k * 4) := by
  induction L generalizing k with
  | nil => simp [ctc]
  | cons p L ih =>
    cases k with
    | zero => simp [ctc]
    | succ k => rw [List.drop_succ_cons, ctc_cons, ih, show (k + 1) * 4 = k * 4 + 1 + 1 + 1 + 1 from by omega]; rfl
/-- What a row of cuts holds, cell by cell. -/
theorem own_cts {W : World} {base : Nat} {T : TypeId} {v : Value} {L : List Ct} (h : W.ownsRow base T 4 v L.length (ctc L)) :
    ∃ (p : Option Addr) (cap : Nat), v = .slice p L.length cap ∧ L.length ≤ cap ∧ cap ≤ maxLen ∧ (p = none → cap = 0) ∧ (∀ q, p = some q → ∃ g, q = ⟨g, 0, none⟩) ∧ ∀ i (hi : i < L.length), ∃ g, p = some ⟨g, 0, none⟩ ∧ base ≤ g ∧ g < W.heap.size ∧ W.cell? ⟨g, i * 4, none⟩ = some (.int .i64 L[i].1.1) ∧ W.cell? ⟨g, i * 4 + 1, none⟩ = some (.int .i64 L[i].1.2) ∧ W.cell? ⟨g, i * 4 + 2, none⟩ = some (.int .i64 L[i].2.1) ∧ W.cell? ⟨g, i * 4 + 3, none⟩ = some (.int .i64 L[i].2.2) := by
  have h0 := h
  rcases h.2 with ⟨rfl, hz⟩ | ⟨g, cap, cur, rfl, hg, hc, hl, hm, _⟩
  · exact ⟨none, 0, by rw [hz], by omega, by unfold maxLen; omega, (fun _ => rfl), (fun q hq => (by cases hq)), fun i hi => absurd hi (by omega)⟩
  · refine ⟨_, cap, rfl, hl, hm, (fun h => by cases h), (fun q hq => by cases hq; exact ⟨g, rfl⟩), fun i hi => ⟨g, rfl, hg, (Array.getElem?_eq_some_iff.1 hc).1, ?_⟩⟩
    obtain ⟨c0, c1, c2, c3⟩ := ctc_at L i hi
    have k := h0.cells (g := g) rfl
    have k0 := k _ _ c0; have k1 := k _ _ c1; have k2 := k _ _ c2; have k3 := k _ _ c3
    rw [add_at] at k0 k1 k2 k3
    rw [Nat.zero_add] at k0 k1 k2 k3
    exact ⟨k0, k1, k2, k3⟩
theorem info_ct : (Try.prog.info? 83).map (fun i => (i.zero, i.size, i.bytes)) = some (some (.agg #[.int .i64 0, .int .i64 0, .int .i64 0, .int .i64 0]), 4, 32) := by kernel_rfl

/-- One lies ahead of another. -/
def ctLt (c d : Ct) : Prop := c.2.1 * d.2.2 < d.2.1 * c.2.2
def ctIn (c : Ct) : Prop := -67108864 ≤ c.2.1 ∧ c.2.1 ≤ 67108864 ∧ -67108864 ≤ c.2.2 ∧ c.2.2 ≤ 67108864
def PutAt (L : List Ct) (c : Ct) (k : Nat) : Prop := k ≤ L.length ∧ (∀ j (h : j < L.length), k ≤ j → ctLt c L[j]) ∧ (∀ h : k - 1 < L.length, 0 < k → ¬ ctLt c (L[k - 1]))
def PutPost (L : List Ct) (c : Ct) (w : World) (e : Ending) (w' : World) : Prop :=
  ∃ (v : Value) (k : Nat), e = .returned v ∧ PutAt L c k ∧ w'.ownsRow w.heap.size 83 4 v (L.length + 1) (ctc (L.take k ++ c :: L.drop k)) ∧ Below w.heap.size w w'

/-- The cut that came in, in its box; and all that was there. -/
def PB4 (w : World) (c : Ct) (W : World) : Prop := W.cell? ⟨w.heap.size, 0, none⟩ = some (.int .i64 c.1.1) ∧ W.cell? ⟨w.heap.size, 1, none⟩ = some (.int .i64 c.1.2) ∧ W.cell? ⟨w.heap.size, 2, none⟩ = some (.int .i64 c.2.1) ∧ W.cell? ⟨w.heap.size, 3, none⟩ = some (.int .i64 c.2.2) ∧ Below w.heap.size w W
theorem PB4.keep {w W w1 : World} {c : Ct} (hb : Below W.heap.size W w1) (h : PB4 w c W) : PB4 w c w1 := by
  obtain ⟨h0, h1, h2, h3, hB⟩ := h
  exact ⟨cell_later hb h0, cell_later hb h1, cell_later hb h2, cell_later hb h3, hB.trans (hb.mono hB.size)⟩
theorem PB4.drewN {w W : World} {c : Ct} (h : PB4 w c W) (m : Nat) : PB4 w c (W.drewN m) := by
  obtain ⟨h0, h1, h2, h3, hB⟩ := h
  exact ⟨h0, h1, h2, h3, below_drewN hB m⟩

theorem keep4h {w W w1 : World} {row : Option Nat} {k0 : Nat} {v0 v1 v2 v3 : Value} (hg : W.grownBy w1 row)
    (h : W.cell? ⟨k0, 0, none⟩ = some v0 ∧ W.cell? ⟨k0, 1, none⟩ = some v1 ∧ W.cell? ⟨k0, 2, none⟩ = some v2 ∧ W.cell? ⟨k0, 3, none⟩ = some v3 ∧ Below w.heap.size w W) (B : Nat) (hr : ∀ q, row = some q → B ≤ q) (hz : B ≤ W.heap.size) (hw : w.heap.size ≤ B) (h0 : k0 < B) :
    w1.cell? ⟨k0, 0, none⟩ = some v0 ∧ w1.cell? ⟨k0, 1, none⟩ = some v1 ∧ w1.cell? ⟨k0, 2, none⟩ = some v2 ∧ w1.cell? ⟨k0, 3, none⟩ = some v3 ∧ Below w.heap.size w w1 := by
  have hb : Below B W w1 := (Below.refl _ _).grown hg hz (fun q hq => hr q hq)
  exact ⟨(hb.cell (p := ⟨k0, 0, none⟩) h0).trans h.1, (hb.cell (p := ⟨k0, 1, none⟩) h0).trans h.2.1, (hb.cell (p := ⟨k0, 2, none⟩) h0).trans h.2.2.1, (hb.cell (p := ⟨k0, 3, none⟩) h0).trans h.2.2.2.1, h.2.2.2.2.trans (hb.mono hw)⟩
theorem keep4d {w W : World} {a0 a1 a2 a3 : Addr} {v0 v1 v2 v3 : Value} (h : W.cell? a0 = some v0 ∧ W.cell? a1 = some v1 ∧ W.cell? a2 = some v2 ∧ W.cell? a3 = some v3 ∧ Below w.heap.size w W) :
    W.drew.cell? a0 = some v0 ∧ W.drew.cell? a1 = some v1 ∧ W.drew.cell? a2 = some v2 ∧ W.drew.cell? a3 = some v3 ∧ Below w.heap.size w W.drew := ⟨h.1, h.2.1, h.2.2.1, h.2.2.2.1, h.2.2.2.2.drew⟩
theorem keep4a {w W : World} {o : Obj} {a0 a1 a2 a3 : Addr} {v0 v1 v2 v3 : Value} (h : W.cell? a0 = some v0 ∧ W.cell? a1 = some v1 ∧ W.cell? a2 = some v2 ∧ W.cell? a3 = some v3 ∧ Below w.heap.size w W) :
    (W.alloc o).cell? a0 = some v0 ∧ (W.alloc o).cell? a1 = some v1 ∧ (W.alloc o).cell? a2 = some v2 ∧ (W.alloc o).cell? a3 = some v3 ∧ Below w.heap.size w (W.alloc o) := keep4 (b1 _ _) h
theorem own_zero {W : World} {base k size : Nat} {T : TypeId} (hb : base ≤ k) (h : W.heap[k]? = some (.cells #[] T)) : W.ownsRow base T size (.slice (some ⟨k, 0, none⟩) 0 0) 0 [] :=
  ⟨by simp, .inr ⟨k, 0, _, rfl, hb, h, Nat.le_refl _, by unfold maxLen; omega, by simp, by simp⟩⟩
theorem own_ct {W : World} {base k : Nat} {T : TypeId} {c : Ct} (hb : base ≤ k) (h : W.heap[k]? = some (.cells #[.int .i64 c.1.1, .int .i64 c.1.2, .int .i64 c.2.1, .int .i64 c.2.2] T)) : W.ownsRow base T 4 (.slice (some ⟨k, 0, none⟩) 1 1) 1 (ctc [c]) :=
  ⟨rfl, .inr ⟨k, 1, _, rfl, hb, h, Nat.le_refl _, by unfold maxLen; omega, rfl, rfl⟩⟩

/-- Behind the second append: the new row. -/
theorem fin_put {L : List Ct} {c : Ct} {k : Nat} {w W3 w4 : World} {v v' : Value} (hA : PutAt L c k) (hP : PB4 w c W3) (hown : w4.ownsRow (w.heap.size + 1) 83 4 v' (k + 1 + (L.length - k)) (ctc (L.take k) ++ (ctc [c] ++ ctc (L.drop k)))) (hg : W3.grownBy w4 v.ownBlock)
    (ho : W3.ownsRow (w.heap.size + 1) 83 4 v (k + 1) (ctc (L.take k) ++ ctc [c])) (hz : w.heap.size + 1 ≤ W3.heap.size) :
    w4.ownsRow w.heap.size 83 4 v' (L.length + 1) (ctc (L.take k ++ c :: L.drop k)) ∧ Below w.heap.size w w4 := by
  have h1 := hA.1
  rw [show k + 1 + (L.length - k) = L.length + 1 from by omega] at hown
  refine ⟨own_base (by rw [ctc_append, ctc_cons]; exact hown) (by omega), ?_⟩
  have hb : Below (w.heap.size + 1) W3 w4 := (Below.refl _ _).grown hg hz (fun q hq => (own_block ho hq).1)
  exact hP.2.2.2.2.trans (hb.mono (by omega))

set_option maxRecDepth 100000 in
set_option maxHeartbeats 4000000 in
theorem put_any (v : Value) (L : List Ct) (c : Ct) (w : World) (base : Nat) (hown : w.ownsRow base 83 4 v L.length (ctc L)) (hn : L.length ≤ 100) (hbd : Hid (∀ x ∈ L, ctIn x)) (hc : ctIn c) :
    Calls Try.prog 62 #[v, .agg #[.int .i64 c.1.1, .int .i64 c.1.2, .int .i64 c.2.1, .int .i64 c.2.2]] w (PutPost L c w) := by
  obtain ⟨i0, hi, hz0, hz1, hz2⟩ := info_parts info_ct
  obtain ⟨p, cap, rfl, hlc, hcm, hpn, hpq, hrow⟩ := own_cts hown
  have HO := Lib.hid hown
  have HR := Lib.hid hrow
  have HPQ := Lib.hid hpq
  have HPN := Lib.hid hpn
  have HC := Lib.hid hc
  obtain ⟨n1, n2, d1, d2⟩ := hc
  clear hown hrow hpq hpn
  go_enter Try.func62, Try.ntmps62
  go_upto_block 0 with fail
  go_cut [5] from 9 to 33 (fun s wx => ∃ k : Nat, s = .int .i64 k ∧ PutAt L c k ∧ PB4 w c wx ∧ wx.heap.size = w.heap.size + 1)
  case first =>
    have H0 : Hid (PB4 w c (w.alloc (.cells #[.int .i64 c.1.1, .int .i64 c.1.2, .int .i64 c.2.1, .int .i64 c.2.2] 83))) := Lib.hid ⟨by go_simp, by go_simp, by go_simp, by go_simp, b1 _ _⟩
    go_wp2_with fail
    go_loopw [5] (fun s wr => ∃ k : Nat, s = .int .i64 k ∧ k ≤ L.length ∧ (∀ j (h : j < L.length), k ≤ j → ctLt c L[j]) ∧ PB4 w c wr ∧ wr.heap.size = w.heap.size + 1) (fun i _ => (intOf i).toNat)
    case atStart => exact ⟨L.length, rfl, Nat.le_refl _, fun j h k => absurd h (by omega), H0.out, by simp⟩
    case round =>
      clear H0
      obtain ⟨k, rfl, hk, hge, hP, hsz⟩ := hrel
      have HG := Lib.hid hge
      have HP := Lib.hid hP
      clear hge hP
      by_cases h0 : k = 0
      · subst h0
        go_wp2_with fail
        go_quiet (fail)
        go_wp2
        go_meet
        exact ⟨0, rfl, ⟨Nat.zero_le _, HG.out, fun _ h => absurd h (by omega)⟩, HP.out.drewN _, by simpa using hsz⟩
      · obtain ⟨g, rfl, hg, hgl, _, _, e2, e3⟩ := HR.out (k - 1) (by omega)
        have HB := HP.out.2.2.2.2
        have f2 := cell_later HB e2
        have f3 := cell_later HB e3
        have q2 := HP.out.2.2.1
        have q3 := HP.out.2.2.2.1
        obtain ⟨m1, m2, m3, m4⟩ := hbd.out L[k - 1] (List.getElem_mem _)
        have hle : Hid (ctLt c L[k - 1] ↔ c.2.1 * L[k - 1].2.2 < L[k - 1].2.1 * c.2.2) := Lib.hid Iff.rfl
        have x1 : IntKind.i64.wrap ((k : Int) - 1) = (k : Int) - 1 := IntWalk.i64_in _ (by omega)
        have x2 : ((k : Int) - 1).toNat = k - 1 := by omega
        have x3 : 0 ≤ (k : Int) - 1 := by omega
        have x4 : (k : Int) - 1 < (L.length : Int) := by omega
        have x5 : 0 < (k : Int) := by omega
        have y1 := mul_in c.2.1 L[k - 1].2.2 67108864 67108864 (by omega) (by omega)
        have y2 := mul_in L[k - 1].2.1 c.2.2 67108864 67108864 (by omega) (by omega)
        have z1 : IntKind.i64.wrap (c.2.1 * L[k - 1].2.2) = c.2.1 * L[k - 1].2.2 := IntWalk.i64_in _ (by omega)
        have z2 : IntKind.i64.wrap (L[k - 1].2.1 * c.2.2) = L[k - 1].2.1 * c.2.2 := IntWalk.i64_in _ (by omega)
        clear e2 e3 HB
        generalize L[k - 1].2.1 = un at *
        generalize L[k - 1].2.2 = ud at *
        by_cases hlt : c.2.1 * ud < un * c.2.2
        · have hd1 : decide (0 < k) = true := by simp; omega
          have hd2 : decide (c.2.1 * ud < un * c.2.2) = true := by simp [hlt]
          go_wp2_with fail
          go_quiet (fail)
          go_wp2
          go_roundw
          case rel => exact ⟨k - 1, by show Value.int .i64 ((k : Int) - 1) = _; congr 1; omega, by omega, fun j h hj => by
            by_cases e : j = k - 1
            · subst e; exact hle.out.2 hlt
            · exact HG.out j h (by omega), HP.out.drewN _, by simpa using hsz⟩
          case measure => simp [intOf]; omega
        · have hd1 : decide (0 < k) = true := by simp; omega
          have hd2 : decide (c.2.1 * ud < un * c.2.2) = false := by simp; omega
          go_wp2_with fail
          go_quiet (fail)
          go_wp2
          go_meet
          exact ⟨k, rfl, ⟨hk, HG.out, fun h _ hlt' => by have := hle.out.1 hlt'; omega⟩, HP.out.drewN _, by simpa using hsz⟩
  case rest =>
    obtain ⟨k, rfl, hPA, hP, hsz⟩ := hcut
    obtain ⟨W1, hW1⟩ : ∃ W, W = wc := ⟨_, rfl⟩
    subst hW1
    have hk := hPA.1
    have HPA := Lib.hid hPA
    have hkc : k ≤ cap := by omega
    have HSrc : Hid (∀ V, PB4 w c V → SrcV V (.slice p k cap) k (ctc (L.take k))) := by
      refine Lib.hid fun V hV => ?_
      have h0 := own_srcV (ownk hV.2.2.2.2 HO.out)
      obtain ⟨q, c', e, h⟩ := h0
      simp only [Value.slice.injEq] at e
      obtain ⟨rfl, _, rfl⟩ := e
      refine ⟨p, cap, rfl, fun hn0 => ?_⟩
      obtain ⟨g, o, e, hc⟩ := h (by omega)
      refine ⟨g, o, e, fun j u hj => hc j u ?_⟩
      rw [ctc_take, List.getElem?_take] at hj
      split at hj
      · exact hj
      · cases hj
    have HLT : Hid ((ctc (L.take k)).length = k * 4) := Lib.hid (by rw [ctc_len, List.length_take, Nat.min_eq_left hk])
    have H1T := Lib.hid (ctc_one (L.take k))
    have HP := Lib.hid hP
    clear hPA hP
    go_upto_region 4 with fail
    go_cut [6] (fun s6 wx => PB4 w c wx ∧ wx.ownsRow (w.heap.size + 1) 83 4 s6 (k + 1) (ctc (L.take k) ++ ctc [c]) ∧ w.heap.size + 1 ≤ wx.heap.size)
    case first =>
      have hS0 := HP.out
      unfold PB4 at hS0
      clear HR HPQ HPN HO HPA hbd HC HP n1 n2 d1 d2 hlc hcm
      have HSrc2 : Hid (∀ V : World, (V.cell? ⟨w.heap.size, 0, none⟩ = some (.int .i64 c.1.1) ∧ V.cell? ⟨w.heap.size, 1, none⟩ = some (.int .i64 c.1.2) ∧ V.cell? ⟨w.heap.size, 2, none⟩ = some (.int .i64 c.2.1) ∧ V.cell? ⟨w.heap.size, 3, none⟩ = some (.int .i64 c.2.2) ∧ Below w.heap.size w V) → SrcV V (.slice p k cap) k (ctc (L.take k))) := HSrc
      clear HSrc
      go_region_held3 (fun w' => w'.cell? ⟨w.heap.size, 0, none⟩ = some (.int .i64 c.1.1) ∧ w'.cell? ⟨w.heap.size, 1, none⟩ = some (.int .i64 c.1.2) ∧ w'.cell? ⟨w.heap.size, 2, none⟩ = some (.int .i64 c.2.1) ∧ w'.cell? ⟨w.heap.size, 3, none⟩ = some (.int .i64 c.2.2) ∧ Below w.heap.size w w') (repeat (first | (with_reducible assumption) | (with_reducible refine keep4d ?_) | (with_reducible refine keep4a ?_))) (first | ((refine step_append_srcV (by rfl) (.tmp 34) (.tmp 37) 80 (by rfl) (w.heap.size + 1) 83 i0 (.agg #[.int .i64 0, .int .i64 0, .int .i64 0, .int .i64 0]) 4 32 Try.underlying80 hi hz0 hz1 hz2 (by rfl) (by decide) _ 0 [] (by rfl) (own_zero (by first | omega | (simp; omega)) (by repeat (first | (with_reducible exact hp_new (by first | (with_reducible rfl) | (simp; done) | omega | (simp; omega))) | (with_reducible refine hp_drew ?_) | (with_reducible refine hp_alloc ?_)))) _ k (ctc (L.take k)) (by rfl) (HSrc2.out _ (by with_reducible assumption)) HLT.out H1T.out (by unfold maxLen; omega) (by omega) (by first | omega | (simp; omega)) ?_); intro v1 wB ho1' hgB; have HO1 := Lib.hid ho1'; clear ho1'; have hzB : w.heap.size + 1 ≤ wB.heap.size := Nat.le_trans (by first | omega | (simp; omega)) hgB.size; have hS6 := keep4h (w := w) (k0 := w.heap.size) hgB (by with_reducible assumption) (w.heap.size + 1) (by intro q hq; simp only [Value.ownBlock, Option.some.injEq] at hq; subst hq; first | omega | (simp; omega)) (by first | omega | (simp; omega)) (by omega) (by omega)) | ((refine step_append_srcV (by rfl) (.tmp 38) (.tmp 40) 80 (by rfl) (w.heap.size + 1) 83 i0 (.agg #[.int .i64 0, .int .i64 0, .int .i64 0, .int .i64 0]) 4 32 Try.underlying80 hi hz0 hz1 hz2 (by rfl) (by decide) v1 (0 + k) ([] ++ ctc (L.take k)) (by rfl) (by first | (with_reducible exact HO1.out) | (with_reducible exact HO1.out.alloc _)) _ 1 (ctc [c]) (by rfl) (own_srcV (own_ct (base := 0) (Nat.zero_le _) (by repeat (first | (with_reducible exact hp_new (by first | (with_reducible rfl) | (simp; done) | omega | (simp; omega))) | (with_reducible refine hp_drew ?_) | (with_reducible refine hp_grown hgB ?_ (by simp only [Value.ownBlock, ne_eq, Option.some.injEq]; first | omega | (simp; omega))) | (with_reducible refine hp_alloc ?_))))) (by rfl) (ctc_one _) (by unfold maxLen; omega) (by omega) (by first | omega | (simp; omega)) ?_); intro v2 wC ho2' hgC; have HO2 := Lib.hid ho2'; clear ho2'; have hzC : w.heap.size + 1 ≤ wC.heap.size := Nat.le_trans (by first | omega | (simp; omega)) hgC.size; have hS7 := keep4h (w := w) (k0 := w.heap.size) hgC (by with_reducible assumption) (w.heap.size + 1) (fun q hq => (own_block HO1.out hq).1) (by first | omega | (simp; omega)) (by omega) (by omega)))
      all_goals
        have HS7 := Lib.hid hS7
        have HO3 := Lib.hid (show wC.ownsRow (w.heap.size + 1) 83 4 v2 (k + 1) (ctc (L.take k) ++ ctc [c]) from by have := HO2.out; rw [Nat.zero_add, List.nil_append] at this; exact this)
        clear hS7 HO1 HO2
        go_wp2_with fail
        go_meet
        exact ⟨HS7.out, HO3.out, hzC⟩
    case rest =>
      obtain ⟨hP3, hO3, hz3⟩ := hcut
      obtain ⟨W3, hW3⟩ : ∃ W, W = wc := ⟨_, rfl⟩
      subst hW3
      have HP3 := Lib.hid hP3
      have HO3 := Lib.hid hO3
      clear hP3 hO3
      have HDL : Hid ((ctc (L.drop k)).length = (L.length - k) * 4) := Lib.hid (by rw [ctc_len, List.length_drop])
      rcases p with _ | q
      · obtain rfl : cap = 0 := HPN.out rfl
        obtain rfl : k = 0 := by omega
        obtain rfl : L = [] := List.eq_nil_of_length_eq_zero (by omega)
        go_wp2_with (at_builtin; refine wpList_append_srcV rfl (.tmp 42) (.tmp 45) 80 rfl (w.heap.size + 1) 83 i0 (.agg #[.int .i64 0, .int .i64 0, .int .i64 0, .int .i64 0]) 4 32 Try.underlying80 hi hz0 hz1 hz2 rfl (by decide) _ (0 + 1) (ctc (([] : List Ct).take 0) ++ ctc [c]) rfl HO3.out _ 0 [] rfl ⟨none, 0, rfl, fun h => absurd rfl h⟩ rfl (by simp) (by unfold maxLen; omega) (by omega) hz3 ?_)
        intro v' w4 hown' hgrow
        have HF := Lib.hid (fin_put (L := []) (k := 0) (v' := v') HPA.out HP3.out (by simpa [ctc] using hown') hgrow HO3.out hz3)
        clear hown' hgrow
        go_wp2
        go_ret
        exact ⟨_, 0, rfl, HPA.out, HF.out.1, HF.out.2⟩
      · obtain ⟨g, rfl⟩ := HPQ.out q rfl
        by_cases hkc2 : k < cap
        · have HD : Hid (SrcV W3 (.slice (some ⟨g, k * 4, none⟩) (L.length - k) (cap - k)) (L.length - k) (ctc (L.drop k))) := by
            refine Lib.hid ⟨_, _, rfl, fun hn0 => ⟨g, k * 4, rfl, fun j u hj => ?_⟩⟩
            have hc := (ownk HP3.out.2.2.2.2 HO.out).cells (g := g) rfl
            rw [ctc_drop, List.getElem?_drop] at hj
            have := hc _ _ hj
            rw [add_at] at this ⊢
            rw [Nat.zero_add] at this
            exact this
          go_wp2_with (at_builtin; refine wpList_append_srcV rfl (.tmp 42) (.tmp 45) 80 rfl (w.heap.size + 1) 83 i0 (.agg #[.int .i64 0, .int .i64 0, .int .i64 0, .int .i64 0]) 4 32 Try.underlying80 hi hz0 hz1 hz2 rfl (by decide) _ (k + 1) (ctc (L.take k) ++ ctc [c]) rfl HO3.out _ (L.length - k) (ctc (L.drop k)) rfl HD.out HDL.out (ctc_one _) (by unfold maxLen; omega) (by omega) hz3 ?_)
          intro v' w4 hown' hgrow
          have HF := Lib.hid (fin_put HPA.out HP3.out hown' hgrow HO3.out hz3)
          clear hown' hgrow
          go_wp2
          go_ret
          exact ⟨_, k, rfl, HPA.out, HF.out.1, HF.out.2⟩
        · go_wp2_with (at_builtin; refine wpList_append_srcV rfl (.tmp 42) (.tmp 45) 80 rfl (w.heap.size + 1) 83 i0 (.agg #[.int .i64 0, .int .i64 0, .int .i64 0, .int .i64 0]) 4 32 Try.underlying80 hi hz0 hz1 hz2 rfl (by decide) _ (k + 1) (ctc (L.take k) ++ ctc [c]) rfl HO3.out _ (L.length - k) (ctc (L.drop k)) rfl ⟨_, _, rfl, fun h => absurd (by omega) h⟩ HDL.out (ctc_one _) (by unfold maxLen; omega) (by omega) hz3 ?_)
          intro v' w4 hown' hgrow
          have HF := Lib.hid (fin_put HPA.out HP3.out hown' hgrow HO3.out hz3)
          clear hown' hgrow
          go_wp2
          go_ret
          exact ⟨_, k, rfl, HPA.out, HF.out.1, HF.out.2⟩
end Go.Proofs.Ytmhmccicnebhaaa
