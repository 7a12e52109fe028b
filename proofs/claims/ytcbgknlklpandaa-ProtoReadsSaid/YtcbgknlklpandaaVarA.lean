/- Walks of varint: sizes, turned numbers, rows that are the same. -/
import Derived.Test.YtcbgknlklpandaaOrd
import Derived.Test.YtcbgknlklpandaaVarG
import Derived.Test.YtcbgknlklpandaaBits64
namespace Go.Proofs.Ytcbgknlklpandaa
open Go.RowKit

/-- A row of numbers of a kind. -/
def KL (kd : IntKind) (W : World) (v : Value) (L : List Nat) : Prop :=
  ∃ q c, v = .slice q L.length c ∧ L.length ≤ c ∧ ∀ i (h : i < L.length), ∃ g o, q = some ⟨g, o, none⟩ ∧ W.cell? ⟨g, o + i, none⟩ = some (.int kd (L[i] : Int))
theorem KL.keep {kd : IntKind} {W W1 : World} {v : Value} {L : List Nat} (h : KL kd W v L) (hb : Below W.heap.size W W1) : KL kd W1 v L := by
  obtain ⟨q, c, e, hc, hx⟩ := h
  refine ⟨q, c, e, hc, fun i hi => ?_⟩
  obtain ⟨g, o, e2, hc⟩ := hx i hi
  exact ⟨g, o, e2, cell_later hb hc⟩
def kcl (kd : IntKind) (L : List Nat) : List Value := L.map (fun n : Nat => .int kd (n : Int))
theorem kcl_len (kd : IntKind) (L : List Nat) : (kcl kd L).length = L.length := by simp [kcl]
theorem kcl_snoc (kd : IntKind) (L : List Nat) (n : Nat) : kcl kd (L ++ [n]) = kcl kd L ++ [.int kd (n : Int)] := by simp [kcl]
theorem kcl_app (kd : IntKind) (L M : List Nat) : kcl kd (L ++ M) = kcl kd L ++ kcl kd M := by simp [kcl]
theorem kl_own {kd : IntKind} {W : World} {B : Nat} {T : TypeId} {v : Value} {n : Nat} {L : List Nat} (hn : n = L.length) (h : W.ownsRow B T 1 v n (kcl kd L)) : KL kd W v L := by
  subst hn
  rcases id h.2 with ⟨e, hz⟩ | ⟨g, c, cur, e, _, _, hle, _⟩
  · exact ⟨none, 0, by rw [e, hz], by omega, fun i hi => by omega⟩
  · subst e
    refine ⟨_, c, rfl, hle, fun i hi => ⟨g, 0, rfl, ?_⟩⟩
    rw [Nat.zero_add, h.cellAt i (by omega)]
    unfold kcl
    rw [List.getElem?_map, List.getElem?_eq_getElem hi]
    rfl
theorem KL.take {kd : IntKind} {W : World} {q : Option Addr} {n c : Nat} {L : List Nat} (h : KL kd W (.slice q n c) L) {m : Nat} (hm : m ≤ L.length) : KL kd W (.slice q m c) (L.take m) := by
  obtain ⟨q', c', e, hc, hx⟩ := h
  injection e with e1 e2 e3
  subst e1 e3
  have hl : (L.take m).length = m := by rw [List.length_take]; omega
  refine ⟨q, c, by rw [hl], by omega, fun i hi => ?_⟩
  rw [hl] at hi
  obtain ⟨g, o, e, hcell⟩ := hx i (by omega)
  exact ⟨g, o, e, by rw [hcell, List.getElem_take]⟩
theorem KL.drop {kd : IntKind} {W : World} {q : Option Addr} {n c : Nat} {L : List Nat} (h : KL kd W (.slice q n c) L) {m : Nat} (hm : m < L.length) : ∃ g o, q = some ⟨g, o, none⟩ ∧ m < c ∧ KL kd W (.slice (some ⟨g, o + m, none⟩) (n - m) (c - m)) (L.drop m) := by
  obtain ⟨q', c', e, hc, hx⟩ := h
  injection e with e1 e2 e3
  subst e1 e2 e3
  obtain ⟨g, o, eq, _⟩ := hx m hm
  refine ⟨g, o, eq, by omega, _, c - m, by rw [List.length_drop], by rw [List.length_drop]; omega, fun i hi => ?_⟩
  rw [List.length_drop] at hi
  obtain ⟨g', o', e', hcell⟩ := hx (m + i) (by omega)
  rw [eq] at e'
  injection e' with e'
  injection e' with e1 e2 _
  subst e1 e2
  exact ⟨g, o + m, rfl, by rw [Nat.add_assoc, hcell, List.getElem_drop]⟩
theorem size_any (n : Nat) (w : World) (h : n < 18446744073709551616) : Calls Try.prog 123 #[.int .u64 (n : Int)] w fun e w' => e = .returned (.int .i64 ((nb n).length : Int)) ∧ w' = w := by
  have HL := Lib.hid (len64_all (n : Int) w (by omega) (by omega))
  have HS := Lib.hid (nb_size n n (Nat.le_refl _) h)
  have HB := Lib.hid (Lib.bitLen_le n 64 (by omega) (by omega))
  rw [Int.toNat_natCast] at HL
  generalize Lib.bitLen n = k at *
  generalize (nb n).length = s at *
  have hk := HB.out
  go_enter Try.func123, Try.ntmps123
  go_wp2_with (go_at_call 133; refine HL.out.mono ?_; rintro e w1 ⟨rfl, hw⟩; subst hw)
  go_ret
  have hs := HS.out
  exact ⟨congrArg Ending.returned (congrArg (Value.int IntKind.i64) (by omega)), rfl⟩
theorem not_i64 (n : Int) (h0 : -9223372036854775808 ≤ n) (h1 : n ≤ 9223372036854775807) : bits .xor .i64 (-1) n = -n - 1 := by
  unfold bits
  have e : (BitVec.ofInt IntKind.i64.bits (-1) ^^^ BitVec.ofInt IntKind.i64.bits n) = ~~~ (BitVec.ofInt IntKind.i64.bits n) := by
    rw [show BitVec.ofInt IntKind.i64.bits (-1) = BitVec.allOnes IntKind.i64.bits from by decide, BitVec.allOnes_xor]
  simp only [e, BitVec.toNat_not, BitVec.toNat_ofInt]
  rw [IntKind.wrap_i64, show IntKind.i64.bits = 64 from rfl]
  omega
set_option maxRecDepth 100000 in
theorem rsame_any {w : World} {va vb : Value} {L : List Nat} (hA : KL .u8 w va L) (hB : KL .u8 w vb L) (hl : L.length ≤ 1000000) : Calls Try.prog 34 #[va, vb] w fun e w' => e = .returned (.bool true) ∧ Below w.heap.size w w' := by
  have hmx : Try.prog.follows .mixedOrders = true := by kernel_rfl
  obtain ⟨qa, ca, rfl, _, ha⟩ := hA
  obtain ⟨qb, cb, rfl, _, hb⟩ := hB
  have HA := Lib.hid ha
  have HB := Lib.hid hb
  clear ha hb
  go_enter Try.func34, Try.ntmps34
  go_wp2_with fail
  go_loopg [5] L.length (fun gk s wx => ∃ i : Nat, i + gk = L.length ∧ s = .int .i64 (i : Int) ∧ Hid (Below w.heap.size w wx))
  case atStart => exact ⟨0, by omega, rfl, Lib.hid (Below.refl _ _)⟩
  case round =>
    obtain ⟨i, hig, rfl, HW⟩ := hrel
    cases gk with
    | zero =>
      obtain rfl : i = L.length := by omega
      have hkz : ¬ ((L.length : Int) < (L.length : Int)) := by omega
      go_wp2_with fail
      go_ret
      exact ⟨rfl, HW.out⟩
    | succ gr =>
      have hkz : (i : Int) < (L.length : Int) := by omega
      have hil : i < L.length := by omega
      obtain ⟨g1, o1, rfl, c1⟩ := HA.out i hil
      obtain ⟨g2, o2, rfl, c2⟩ := HB.out i hil
      have c1 := cell_later HW.out c1
      have c2 := cell_later HW.out c2
      have HW2 := Lib.hid HW.out.drew
      generalize L[i] = z at *
      clear HW
      go_upto_region 6 with fail
      go_region
      go_wp2_with fail
      go_roundg gr
      case measure => omega
      case rel => exact ⟨i + 1, by omega, by go_num, HW2⟩
end Go.Proofs.Ytcbgknlklpandaa
