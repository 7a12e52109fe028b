/- Walks of the heap: take from outside, Drop. -/
import Derived.Test.YtbdmmgplpndobaaHeapU
import Derived.Test.YtbdmmgplpndobaaHeapG
namespace Go.Proofs.Ytbdmmgplpndobaa
open Go.RowKit Go.Sort Go.Deep

set_option maxRecDepth 100000 in
set_option maxHeartbeats 4000000 in
theorem ltake_z {W : World} {B hb : Nat} {cnt : Int} (h : HpZ W B hb cnt) (e : E3) :
    Calls Try.prog 38 #[.pointer (some ⟨hb, 0, none⟩), encE3 e] W fun en w' => en = .returned (.bool false) ∧ HpZ w' B hb cnt ∧ Frm hb hb hb W w' := by
  have hmx : Try.prog.follows .mixedOrders = true := by kernel_rfl
  obtain ⟨e1, e2, e3⟩ := e
  have H0 := Lib.hid (h.keep (below_alloc W (.cells #[.int .i64 e1, .int .i64 e2, .int .i64 e3] 31)))
  have HF0 : Hid (Frm hb hb hb W (W.alloc (.cells #[.int .i64 e1, .int .i64 e2, .int .i64 e3] 31))) := Lib.hid (Frm.below (below_alloc _ _))
  clear h
  unfold encE3
  go_enter Try.func38, Try.ntmps38
  go_upto_region 1 with fail
  generalize hW1 : W.alloc (.cells #[.int .i64 e1, .int .i64 e2, .int .i64 e3] 31) = W1 at *
  have hbx : W1.cell? ⟨W.heap.size, 0, none⟩ = some (.int .i64 e1) ∧ W1.cell? ⟨W.heap.size, 1, none⟩ = some (.int .i64 e2) ∧ W1.cell? ⟨W.heap.size, 2, none⟩ = some (.int .i64 e3) := by
    subst hW1; refine ⟨?_, ?_, ?_⟩ <;> go_simp
  clear hW1
  obtain ⟨b0, b1, b2⟩ := hbx
  have c1 := H0.out.c1
  have hlk := run_look_nil W1.drew (e1, e2, e3)
  simp only [encE3] at hlk
  have H1 := Lib.hid (H0.out.keep (Below.refl _ _).drew)
  have HF1 : Hid (Frm hb hb hb W W1.drew) := Lib.hid (HF0.out.trans (Frm.below (Below.refl _ _).drew))
  clear H0 HF0
  go_wp2_with fail
  go_region
  go_wp2_with fail
  go_ret
  exact ⟨rfl, H1.out, HF1.out⟩
/-- One entry less, if it is there. -/
def TaS (P : List Pile) (e : E3) (P' : List Pile) (b : Bool) : Prop :=
  (b = false ∧ (∀ i, i < P.length → (pA P i).1 ≠ e) ∧ P' = P) ∨ (b = true ∧ ∃ i, i < P.length ∧ (pA P i).1 = e ∧ P' = takF P i)
def TkI (W : World) (B hb g mb : Nat) (P : List Pile) (cnt : Int) (e : E3) (en : Ending) (w' : World) : Prop :=
  ∃ b P', en = .returned (.bool b) ∧ Frm hb g mb W w' ∧ HpI w' B hb g mb P' (cnt - ((if b = true then 1 else 0 : Nat) : Int)) ∧ TaS P e P' b
theorem ltake_all {W : World} {B hb g mb : Nat} {P : List Pile} {cnt : Int} (h : HpI W B hb g mb P cnt) (hc : cnt ≤ 1000000) (e : E3) :
    Calls Try.prog 38 #[.pointer (some ⟨hb, 0, none⟩), encE3 e] W (TkI W B hb g mb P cnt e) := by
  have hb1 := h.pos.bound.1
  have hbt := h.pos.at
  have hsu := h.sum
  rcases h.st with ⟨rfl, rfl, rfl, hz⟩ | ⟨cap, ps, H, G⟩
  · refine (ltake_z hz e).mono ?_
    rintro en w' ⟨rfl, hz', hf⟩
    exact ⟨false, [], rfl, hf, ⟨.inl ⟨rfl, rfl, rfl, by simpa using hz'⟩, h.pos, by simpa using hsu⟩, .inl ⟨rfl, fun i hi => by simp at hi, rfl⟩⟩
  · refine (ltake_any H G (by omega) (by omega) (fun i hi => by have := hbt i hi; omega) e).mono ?_
    rintro en w' (⟨ps', rfl, hn, H1, G1, F1⟩ | ⟨i, ps', hi, hk, rfl, H1, G1, F1⟩)
    · exact ⟨false, P, rfl, F1, ⟨.inr ⟨cap, ps', by simpa using H1, G1⟩, h.pos, by simpa using hsu⟩, .inl ⟨rfl, hn, rfl⟩⟩
    · have ht := takF_pos h.pos hi
      exact ⟨true, takF P i, rfl, F1, ⟨.inr ⟨cap, ps', by simpa using H1, G1⟩, ht.1, by simp; omega⟩, .inr ⟨rfl, i, hi, hk, rfl⟩⟩
/-- Entries less, one by one; how many went. -/
def TaR : List Pile → List E3 → List Pile → Nat → Prop
  | P, [], P', n => P' = P ∧ n = 0
  | P, e :: L, P', n => ∃ P1 b m, TaS P e P1 b ∧ TaR P1 L P' m ∧ n = m + (if b = true then 1 else 0)
theorem TaR.more : ∀ {L : List E3} {P P1 P2 : List Pile} {e : E3} {n : Nat} {b : Bool}, TaR P L P1 n → TaS P1 e P2 b → TaR P (L ++ [e]) P2 (n + (if b = true then 1 else 0))
  | [], _, _, _, _, _, b, h, k => by obtain ⟨rfl, rfl⟩ := h; exact ⟨_, b, 0, k, ⟨rfl, rfl⟩, rfl⟩
  | _ :: _, _, _, _, _, _, _, ⟨Q, b', m, h1, h2, hn⟩, k => ⟨Q, b', _, h1, h2.more k, by omega⟩
theorem TaR.le : ∀ {L : List E3} {P P1 : List Pile} {n : Nat}, TaR P L P1 n → n ≤ L.length
  | [], _, _, _, h => by obtain ⟨_, rfl⟩ := h; exact Nat.le_refl _
  | e :: L, _, _, _, ⟨Q, b', m, h1, h2, hn⟩ => by
    have := h2.le
    rw [List.length_cons]
    split at hn <;> omega
def DrS (W : World) (B hb g mb : Nat) (P : List Pile) (cnt : Int) (L : List E3) (n : Nat) (V : World) : Prop :=
  Frm hb g mb W V ∧ ∃ P', HpI V B hb g mb P' (cnt - n) ∧ TaR P L P' n
theorem DrS.keep {W V V1 : World} {B hb g mb : Nat} {P : List Pile} {cnt : Int} {L : List E3} {n : Nat} (h : DrS W B hb g mb P cnt L n V) (k : Below V.heap.size V V1) : DrS W B hb g mb P cnt L n V1 := by
  obtain ⟨hf, P', H, R⟩ := h
  exact ⟨hf.trans (Frm.below k), P', H.keep k, R⟩
theorem DrS.take {W V : World} {B hb g mb : Nat} {P : List Pile} {cnt : Int} {L : List E3} {n : Nat} (h : DrS W B hb g mb P cnt L n V) (hc : cnt ≤ 1000000) (e : E3) :
    Calls Try.prog 38 #[.pointer (some ⟨hb, 0, none⟩), encE3 e] V fun en w' => ∃ b, en = .returned (.bool b) ∧ DrS W B hb g mb P cnt (L ++ [e]) (n + (if b = true then 1 else 0)) w' := by
  obtain ⟨hf, P', H, R⟩ := h
  refine (ltake_all H (by omega) e).mono ?_
  rintro en w' ⟨b, P1, rfl, hf1, H1, S⟩
  refine ⟨b, rfl, hf.trans hf1, P1, ?_, R.more S⟩
  have : cnt - ((n + (if b = true then 1 else 0) : Nat) : Int) = cnt - n - ((if b = true then 1 else 0 : Nat) : Int) := by push_cast; omega
  rw [this]; exact H1
def DrPost (W : World) (B hb g mb : Nat) (P : List Pile) (cnt : Int) (L : List E3) (en : Ending) (w' : World) : Prop :=
  ∃ n : Nat, en = .returned (.int .i64 (n : Int)) ∧ DrS W B hb g mb P cnt L n w'
set_option maxRecDepth 100000 in
set_option maxHeartbeats 4000000 in
theorem hdrop_any {W : World} {B hb g mb : Nat} {P : List Pile} {cnt : Int} {L : List E3} {v : Value} (h : HpI W B hb g mb P cnt) (hI : EI W hb g mb v L) (hc : cnt ≤ 1000000) (hL : L.length ≤ 1000000) :
    Calls Try.prog 10 #[.pointer (some ⟨hb, 0, none⟩), v] W (DrPost W B hb g mb P cnt L) := by
  have hmx : Try.prog.follows .mixedOrders = true := by kernel_rfl
  have HI := Lib.hid hI
  have HS0 : Hid (DrS W B hb g mb P cnt [] 0 W) := Lib.hid ⟨Frm.refl _ _ _ _, P, by simpa using h, rfl, rfl⟩
  obtain ⟨q, c, rfl, _, hx⟩ := hI
  clear hx h
  have HC := Lib.hid hc
  clear hc
  go_enter Try.func10, Try.ntmps10
  go_wp2_with fail
  go_loopg [5, 12] L.length (fun gk u s wx => ∃ k n : Nat, gk = L.length - k ∧ k ≤ L.length ∧ n ≤ k ∧ u = .int .i64 (n : Int) ∧ s = .int .i64 (k : Int) ∧ Hid (DrS W B hb g mb P cnt (L.take k) n wx))
  case atStart => exact ⟨0, 0, rfl, by omega, by omega, rfl, rfl, HS0⟩
  case round =>
    obtain ⟨k, n, hgk, hk, hnk, rfl, rfl, HS⟩ := hrel
    by_cases hlt : k < L.length
    · obtain ⟨kb, o, rfl, c0, c1, c2⟩ := (HI.out.frm HS.out.1).at hlt
      have HPu : Hid (L.take (k + 1) = L.take k ++ [L[k]]) := Lib.hid (List.take_succ_eq_append_getElem hlt)
      generalize L[k] = p at *
      obtain ⟨p1, p2, p3⟩ := p
      have xw : IntKind.i64.wrap ((n : Int) + 1) = (n : Int) + 1 := IntWalk.i64_in _ (by omega)
      go_upto_region 7 with fail
      have HS1 := Lib.hid ((HS.out.keep (below_alloc wr (.cells #[.int .i64 p1, .int .i64 p2, .int .i64 p3] 31))).keep (Below.refl _ _).drew)
      obtain ⟨b0, b1, b2⟩ : (wr.alloc (.cells #[.int .i64 p1, .int .i64 p2, .int .i64 p3] 31)).cell? ⟨wr.heap.size, 0, none⟩ = some (.int .i64 p1) ∧ (wr.alloc (.cells #[.int .i64 p1, .int .i64 p2, .int .i64 p3] 31)).cell? ⟨wr.heap.size, 1, none⟩ = some (.int .i64 p2) ∧ (wr.alloc (.cells #[.int .i64 p1, .int .i64 p2, .int .i64 p3] 31)).cell? ⟨wr.heap.size, 2, none⟩ = some (.int .i64 p3) := by
        refine ⟨?_, ?_, ?_⟩ <;> go_simp
      generalize wr.alloc (.cells #[.int .i64 p1, .int .i64 p2, .int .i64 p3] 31) = V1 at *
      have KA := Lib.hid (HS1.out.take HC.out (p1, p2, p3))
      unfold encE3 at KA
      clear c0 c1 c2 HS HS1
      go_region_with (go_at_call 38; refine (KA.out).mono ?_; rintro e w1 ⟨b, rfl, hs1⟩; have HS2 := Lib.hid hs1; clear hs1)
      cases b
      · go_wp2_with fail
        go_roundg (L.length - (k + 1))
        case measure => omega
        case rel => exact ⟨k + 1, n, rfl, by omega, by omega, rfl, by push_cast; rfl, Lib.hid (by rw [HPu.out]; simpa using HS2.out)⟩
      · go_wp2_with fail
        go_roundg (L.length - (k + 1))
        case measure => omega
        case rel => exact ⟨k + 1, n + 1, rfl, by omega, by omega, by push_cast; rfl, by push_cast; rfl, Lib.hid (by rw [HPu.out]; simpa using HS2.out)⟩
    · obtain rfl : k = L.length := by omega
      have HS2 := HS.out
      rw [List.take_length] at HS2
      go_wp2_with fail
      go_ret
      exact ⟨n, rfl, HS2⟩
end Go.Proofs.Ytbdmmgplpndobaa
