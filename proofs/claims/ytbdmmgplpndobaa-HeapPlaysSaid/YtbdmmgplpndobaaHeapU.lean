/- Walks of the heap: Push. -/
import Derived.Test.YtbdmmgplpndobaaHeapQ
import Derived.Deep.RegionWith
namespace Go.Proofs.Ytbdmmgplpndobaa
open Go.RowKit Go.Sort Go.Deep

/-- A slice of entries, in another block than the heap's. -/
def EI (W : World) (hb g mb : Nat) (v : Value) (L : List E3) : Prop :=
  ∃ q c, v = .slice q L.length c ∧ L.length ≤ c ∧ ∀ i (h : i < L.length), ∃ k o, q = some ⟨k, o, none⟩ ∧ k ≠ hb ∧ k ≠ g ∧ k ≠ mb ∧ W.cell? ⟨k, o + i * 3, none⟩ = some (.int .i64 L[i].1) ∧ W.cell? ⟨k, o + i * 3 + 1, none⟩ = some (.int .i64 L[i].2.1) ∧ W.cell? ⟨k, o + i * 3 + 2, none⟩ = some (.int .i64 L[i].2.2)
theorem EI.frm {W W1 : World} {hb g mb : Nat} {v : Value} {L : List E3} (h : EI W hb g mb v L) (hf : Frm hb g mb W W1) : EI W1 hb g mb v L := by
  obtain ⟨q, c, rfl, hc, hi⟩ := h
  refine ⟨q, c, rfl, hc, fun i hlt => ?_⟩
  obtain ⟨k, o, hq, h1, h2, h3, c0, c1, c2⟩ := hi i hlt
  exact ⟨k, o, hq, h1, h2, h3, hf.cell c0 h1 h2 h3, hf.cell c1 h1 h2 h3, hf.cell c2 h1 h2 h3⟩
theorem EI.at {W : World} {hb g mb : Nat} {q : Option Addr} {n c : Nat} {L : List E3} (h : EI W hb g mb (.slice q n c) L) {i : Nat} (hi : i < L.length) : ∃ k o, q = some ⟨k, o, none⟩ ∧ W.cell? ⟨k, o + i * 3, none⟩ = some (.int .i64 L[i].1) ∧ W.cell? ⟨k, o + i * 3 + 1, none⟩ = some (.int .i64 L[i].2.1) ∧ W.cell? ⟨k, o + i * 3 + 2, none⟩ = some (.int .i64 L[i].2.2) := by
  obtain ⟨q1, c1, e, _, h⟩ := h
  cases e
  obtain ⟨k, o, e, _, _, _, hc⟩ := h i hi
  exact ⟨k, o, e, hc⟩
def PuPost (W : World) (B hb g mb : Nat) (P : List Pile) (cnt : Int) (L : List E3) (en : Ending) (w' : World) : Prop :=
  en = .returned (.int .i64 (cnt + L.length)) ∧ Frm hb g mb W w' ∧ ∃ g' mb' P', (g' = g ∨ W.heap.size ≤ g') ∧ (mb' = mb ∨ W.heap.size ≤ mb') ∧ HpI w' B hb g' mb' P' (cnt + L.length) ∧ AdR P L P'
/-- While it runs. -/
def PuS (W : World) (B hb g mb : Nat) (P : List Pile) (cnt : Int) (L : List E3) (w' : World) : Prop :=
  Frm hb g mb W w' ∧ ∃ g' mb' P', (g' = g ∨ W.heap.size ≤ g') ∧ (mb' = mb ∨ W.heap.size ≤ mb') ∧ HpI w' B hb g' mb' P' (cnt + L.length) ∧ AdR P L P'
theorem PuS.keep {W V V1 : World} {B hb g mb : Nat} {P : List Pile} {cnt : Int} {L : List E3} (h : PuS W B hb g mb P cnt L V) (k : Below V.heap.size V V1) : PuS W B hb g mb P cnt L V1 := by
  obtain ⟨hf, g', mb', P', hg, hm, H, R⟩ := h
  exact ⟨hf.trans (Frm.below k), g', mb', P', hg, hm, H.keep k, R⟩
theorem PuS.add {W V : World} {B hb g mb : Nat} {P : List Pile} {cnt : Int} {L : List E3} (h : PuS W B hb g mb P cnt L V) (hc : cnt + L.length < 1000000) (e : E3) :
    Calls Try.prog 39 #[.pointer (some ⟨hb, 0, none⟩), encE3 e] V fun en w' => en = .returned (.tuple #[]) ∧ PuS W B hb g mb P cnt (L ++ [e]) w' := by
  obtain ⟨hf, g', mb', P', hg, hm, H, R⟩ := h
  refine (ladd_any H (by omega) e).mono ?_
  rintro en w' ⟨rfl, hf1, g1, mb1, P1, hg1, hm1, H1, S⟩
  have hs := hf.size
  refine ⟨rfl, hf.via hf1 hg hm, g1, mb1, P1, by omega, by omega, ?_, R.more S⟩
  have : cnt + ((L ++ [e]).length : Int) = cnt + L.length + 1 := by rw [List.length_append]; push_cast; simp only [List.length_singleton]; omega
  rw [this]; exact H1
theorem PuS.c2 {W V : World} {B hb g mb : Nat} {P : List Pile} {cnt : Int} {L : List E3} (h : PuS W B hb g mb P cnt L V) : V.cell? ⟨hb, 2, none⟩ = some (.int .i64 (cnt + L.length)) := by
  obtain ⟨_, _, _, _, _, _, H, _⟩ := h
  exact H.c2
set_option maxRecDepth 100000 in
set_option maxHeartbeats 4000000 in
theorem hpush_any {W : World} {B hb g mb : Nat} {P : List Pile} {cnt : Int} {L : List E3} {v : Value} (h : HpI W B hb g mb P cnt) (hI : EI W hb g mb v L) (hc : cnt + L.length ≤ 1000000) :
    Calls Try.prog 12 #[.pointer (some ⟨hb, 0, none⟩), v] W (PuPost W B hb g mb P cnt L) := by
  have hmx : Try.prog.follows .mixedOrders = true := by kernel_rfl
  have HI := Lib.hid hI
  have HS0 : Hid (PuS W B hb g mb P cnt [] W) := Lib.hid ⟨Frm.refl _ _ _ _, g, mb, P, .inl rfl, .inl rfl, by simpa using h, rfl⟩
  have hpos : 0 ≤ cnt := by have := h.pos.bound.1; have := h.sum; omega
  have hL : L.length ≤ 1000000 := by omega
  obtain ⟨q, c, rfl, _, hx⟩ := hI
  clear hx h
  have HC := Lib.hid hc
  clear hc
  go_enter Try.func12, Try.ntmps12
  go_wp2_with fail
  go_loopg [11] L.length (fun gk s wx => ∃ k : Nat, gk = L.length - k ∧ k ≤ L.length ∧ s = .int .i64 (k : Int) ∧ Hid (PuS W B hb g mb P cnt (L.take k) wx))
  case atStart => exact ⟨0, rfl, by omega, rfl, HS0⟩
  case round =>
    obtain ⟨k, hgk, hk, rfl, HS⟩ := hrel
    by_cases hlt : k < L.length
    · obtain ⟨kb, o, rfl, c0, c1, c2⟩ := (HI.out.frm HS.out.1).at hlt
      have HPu : Hid (L.take (k + 1) = L.take k ++ [L[k]]) := Lib.hid (List.take_succ_eq_append_getElem hlt)
      have HLn : Hid ((L.take k).length = k) := Lib.hid (by rw [List.length_take]; omega)
      generalize L[k] = p at *
      obtain ⟨p1, p2, p3⟩ := p
      go_upto_region 6 with fail
      have HS1 := Lib.hid ((HS.out.keep (below_alloc wr (.cells #[.int .i64 p1, .int .i64 p2, .int .i64 p3] 31))).keep (Below.refl _ _).drew)
      have hnew : (wr.alloc (.cells #[.int .i64 p1, .int .i64 p2, .int .i64 p3] 31)).cell? ⟨wr.heap.size, 0, none⟩ = some (.int .i64 p1) ∧ (wr.alloc (.cells #[.int .i64 p1, .int .i64 p2, .int .i64 p3] 31)).cell? ⟨wr.heap.size, 1, none⟩ = some (.int .i64 p2) ∧ (wr.alloc (.cells #[.int .i64 p1, .int .i64 p2, .int .i64 p3] 31)).cell? ⟨wr.heap.size, 2, none⟩ = some (.int .i64 p3) := by
        refine ⟨?_, ?_, ?_⟩ <;> go_simp
      obtain ⟨b0, b1, b2⟩ := hnew
      generalize wr.alloc (.cells #[.int .i64 p1, .int .i64 p2, .int .i64 p3] 31) = V1 at *
      have hcl := HLn.out
      have KA := Lib.hid (HS1.out.add (by have := HC.out; rw [hcl]; omega) (p1, p2, p3))
      unfold encE3 at KA
      clear c0 c1 c2 HS HS1 hcl
      go_region_with (go_at_call 39; refine (KA.out).mono ?_; rintro e w1 ⟨rfl, hs1⟩; have HS2 := Lib.hid hs1; clear hs1)
      go_wp2_with fail
      go_roundg (L.length - (k + 1))
      case measure => omega
      case rel => exact ⟨k + 1, rfl, by omega, by push_cast; rfl, Lib.hid (by rw [HPu.out]; exact HS2.out)⟩
    · obtain rfl : k = L.length := by omega
      have HS2 := HS.out
      rw [List.take_length] at HS2
      have c2 := HS2.c2
      go_wp2_with fail
      go_ret
      exact ⟨rfl, HS2⟩
end Go.Proofs.Ytbdmmgplpndobaa
