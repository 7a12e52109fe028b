/- Walks of proto: the field that bytes begin with. -/
import Derived.Test.YtcbgknlklpandaaProA
import Derived.Test.YtcbgknlklpandaaVarU
import Derived.Deep.Upon
namespace Go.Proofs.Ytcbgknlklpandaa
open Go.RowKit Go.Sort

/-- A field whose key this is. -/
def kyE (u : Nat) : Nat := if numB ((u / 8 : Nat) : Int) = false then 5 else if kdB ((u % 8 : Nat) : Int) = false then 14 else 0
def KyPost (u : Nat) (w : World) (e : Ending) (w' : World) : Prop :=
  ∃ a k : Int, e = .returned (.tuple #[.agg #[.int .i64 a, .int .i64 k, .int .u64 0, .slice none 0 0], .int .i64 (kyE u : Int)]) ∧ (kyE u = 0 → a = ((u / 8 : Nat) : Int) ∧ k = ((u % 8 : Nat) : Int)) ∧ (kyE u ≠ 0 → a = 0 ∧ k = 0) ∧ Below w.heap.size w w'
set_option maxRecDepth 100000 in
set_option maxHeartbeats 1000000 in
theorem pkeyed_any (u : Nat) (hu : u < 18446744073709551616) (w : World) : Calls Try.prog 113 #[.int .u64 (u : Int)] w (KyPost u w) := by
  have hmx : Try.prog.follows .mixedOrders = true := by kernel_rfl
  have h1 : (u : Int) / 8 = ((u / 8 : Nat) : Int) := by omega
  have h2 : (u : Int) % 8 = ((u % 8 : Nat) : Int) := by omega
  have ha : u / 8 < 2305843009213693952 := by omega
  have hr : u % 8 < 8 := by omega
  have HE : Hid (kyE u = if numB ((u / 8 : Nat) : Int) = false then 5 else if kdB ((u % 8 : Nat) : Int) = false then 14 else 0) := Lib.hid rfl
  unfold KyPost
  generalize kyE u = ee at *
  generalize u / 8 = a at *
  generalize u % 8 = r at *
  have x1 : IntKind.i64.wrap (a : Int) = (a : Int) := IntWalk.i64_in _ (by omega)
  have x2 : IntKind.i64.wrap (r : Int) = (r : Int) := IntWalk.i64_in _ (by omega)
  have HN := Lib.hid (fun V => pnumbered_any (a : Int) V)
  have HK := Lib.hid (fun V => pknown_any (r : Int) V)
  cases hn : numB (a : Int)
  · have hE : ee = 5 := by have := HE.out; rw [hn, if_pos rfl] at this; exact this
    subst hE
    rw [hn] at HN
    clear HE hn HK
    go_enter Try.func113, Try.ntmps113
    go_wp2_with (go_at_call 105; refine (HN.out _).mono ?_; rintro e w1 ⟨rfl, hw⟩; subst hw)
    refine bodyPost_ret (v := .tuple #[.agg #[.int .i64 0, .int .i64 0, .int .u64 0, .slice none 0 0], .int .i64 5]) (by simp [results, Try.results113, go_sem]) rfl ?_
    exact ⟨_, _, rfl, fun h => (by cases h), fun _ => ⟨rfl, rfl⟩, below_after (below_alloc _ _) (below_alloc _ _)⟩
  · cases hk : kdB (r : Int)
    · have hE : ee = 14 := by have := HE.out; rw [hn, hk, if_neg (by simp), if_pos rfl] at this; exact this
      subst hE
      rw [hn] at HN
      rw [hk] at HK
      clear HE hn hk
      go_enter Try.func113, Try.ntmps113
      go_wp2_with (first
        | (go_at_call 105; refine (HN.out _).mono ?_; rintro e w1 ⟨rfl, hw⟩; subst hw)
        | (go_at_call 106; refine (HK.out _).mono ?_; rintro e w1 ⟨rfl, hw⟩; subst hw))
      refine bodyPost_ret (v := .tuple #[.agg #[.int .i64 0, .int .i64 0, .int .u64 0, .slice none 0 0], .int .i64 14]) (by simp [results, Try.results113, go_sem]) rfl ?_
      exact ⟨_, _, rfl, fun h => (by cases h), fun _ => ⟨rfl, rfl⟩, below_after (below_alloc _ _) (below_alloc _ _)⟩
    · have hE : ee = 0 := by have := HE.out; rw [hn, hk, if_neg (by simp), if_neg (by simp)] at this; exact this
      subst hE
      rw [hn] at HN
      rw [hk] at HK
      clear HE hn hk
      go_enter Try.func113, Try.ntmps113
      go_wp2_with (first
        | (go_at_call 105; refine (HN.out _).mono ?_; rintro e w1 ⟨rfl, hw⟩; subst hw)
        | (go_at_call 106; refine (HK.out _).mono ?_; rintro e w1 ⟨rfl, hw⟩; subst hw))
      refine bodyPost_ret (v := .tuple #[.agg #[.int .i64 a, .int .i64 r, .int .u64 0, .slice none 0 0], .int .i64 0]) (by simp [results, Try.results113, go_sem]) rfl ?_
      refine ⟨_, _, rfl, fun _ => ⟨rfl, rfl⟩, fun h => absurd rfl h, ?_⟩
      exact below_after (below_alloc _ _) (below_alloc _ _)
/-- A slice from a place on. -/
theorem KL.from {kd : IntKind} {W : World} {q : Option Addr} {n c : Nat} {L : List Nat} (h : KL kd W (.slice q n c) L) {m : Nat} (hm : m ≤ L.length) (h0 : 0 < L.length) : ∃ g o, q = some ⟨g, o, none⟩ ∧ ∀ q', (q' = some ⟨g, o + m, none⟩ ∨ m = L.length) → KL kd W (.slice q' (n - m) (c - m)) (L.drop m) := by
  obtain ⟨q', c', e, hc, hx⟩ := id h
  injection e with e1 e2 e3
  subst e1 e2 e3
  obtain ⟨g, o, eq, _⟩ := hx 0 h0
  refine ⟨g, o, eq, fun q' hq => ?_⟩
  rcases Nat.lt_or_ge m L.length with hlt | hge
  · rcases hq with rfl | hq
    · obtain ⟨g', o', e', _, hd⟩ := h.drop hlt
      rw [eq] at e'
      injection e' with e'
      injection e' with e1 e2 _
      subst e1 e2
      exact hd
    · omega
  · have : L.drop m = [] := List.drop_of_length_le hge
    rw [this]
    exact ⟨q', c - m, by simp; omega, by simp, fun i hi => absurd hi (by simp)⟩
theorem KL.from2 {kd : IntKind} {W : World} {g o n c : Nat} {L : List Nat} (h : KL kd W (.slice (some ⟨g, o, none⟩) n c) L) {m : Nat} (hm : m ≤ L.length) (h0 : 0 < L.length) {q' : Option Addr} (hq : q' = some ⟨g, o + m, none⟩ ∨ m = L.length) : KL kd W (.slice q' (n - m) (c - m)) (L.drop m) := by
  obtain ⟨g', o', e, h2⟩ := h.from hm h0
  injection e with e
  injection e with e1 e2 _
  subst e1 e2
  exact h2 q' hq
/-- Bytes behind how many they are. -/
def cnt (b : List Nat) : List Nat × Nat × Nat := if (rd b).2.2 ≠ 0 then ([], 0, (rd b).2.2) else if b.length - (rd b).2.1 < (rd b).1 then ([], 0, 4) else ((b.drop (rd b).2.1).take (rd b).1, (rd b).2.1 + (rd b).1, 0)
def CnPost (v : Value) (b : List Nat) (w : World) (e : Ending) (w' : World) : Prop :=
  ∃ q c, e = .returned (.tuple #[.slice q (cnt b).1.length c, .int .i64 ((cnt b).2.1 : Int), .int .i64 ((cnt b).2.2 : Int)]) ∧ (∀ V, KL .u8 V v b → KL .u8 V (.slice q (cnt b).1.length c) (cnt b).1) ∧ Below w.heap.size w w' ∧ ((cnt b).2.2 ≠ 0 → q = none ∧ c = 0)
theorem kl_none (kd : IntKind) (W : World) (q : Option Addr) (c : Nat) : KL kd W (.slice q 0 c) [] := ⟨q, c, rfl, Nat.zero_le _, fun i hi => absurd hi (by simp)⟩
set_option maxRecDepth 100000 in
set_option maxHeartbeats 1000000 in
theorem pcounted_any {w : World} {v : Value} {b : List Nat} (hK : KL .u8 w v b) (hb : ∀ x ∈ b, x < 256) (hl : b.length ≤ 1000000) : Calls Try.prog 114 #[v] w (CnPost v b w) := by
  have hmx : Try.prog.follows .mixedOrders = true := by kernel_rfl
  have HRd := Lib.hid (rd_any hK hb hl)
  have HOk := Lib.hid (fun h => rd_ok (b := b) (n := (rd b).1) (k := (rd b).2.1) h hb)
  have HC : Hid (cnt b = if (rd b).2.2 ≠ 0 then ([], 0, (rd b).2.2) else if b.length - (rd b).2.1 < (rd b).1 then ([], 0, 4) else ((b.drop (rd b).2.1).take (rd b).1, (rd b).2.1 + (rd b).1, 0)) := Lib.hid rfl
  obtain ⟨q, c, rfl, hlc, _⟩ := id hK
  have HK := Lib.hid hK
  clear hK hb
  unfold CnPost
  generalize hcb : cnt b = cb at *
  clear hcb
  unfold RdPost at HRd
  have HPr : Hid (rd b = ((rd b).1, (rd b).2.1, (rd b).2.2)) := Lib.hid rfl
  generalize hrb : rd b = rb at HPr HOk HC HRd
  obtain ⟨n, k, e⟩ := rb
  dsimp only at *
  clear HPr hrb
  by_cases he : e = 0
  · subst he
    obtain ⟨k1, k2, k3, _, k5⟩ := HOk.out rfl
    have hlen0 : 0 < b.length := by omega
    obtain ⟨g, o, rfl, _⟩ := HK.out.from k2 hlen0
    have HFr := Lib.hid (fun V (h : KL .u8 V (.slice (some ⟨g, o, none⟩) b.length c) b) q' hq => h.from2 k2 hlen0 (q' := q') hq)
    have xs : IntKind.u64.wrap ((b.length : Int) - (k : Int)) = ((b.length - k : Nat) : Int) := by rw [IntWalk.u64_in _ (by omega)]; omega
    have hkc : (k : Int) ≤ (c : Int) := by omega
    clear HOk
    by_cases hn : b.length - k < n
    · have hnz : ((b.length - k : Nat) : Int) < (n : Int) := by omega
      have hC := HC.out
      rw [if_neg (by simp), if_pos hn] at hC
      subst hC
      clear HC
      go_enter Try.func114, Try.ntmps114
      go_wp2_with (go_at_call 112; refine HRd.out.mono ?_; rintro e w1 ⟨rfl, hb1⟩; have HB1 := Lib.hid hb1; clear hb1)
      refine bodyPost_ret (v := .tuple #[.slice none 0 0, .int .i64 0, .int .i64 4]) (by simp [results, Try.results114, go_sem]) rfl ?_
      exact ⟨none, 0, rfl, fun _ _ => kl_none _ _ _ _, HB1.out, fun _ => ⟨rfl, rfl⟩⟩
    · have hnz : ¬ ((b.length - k : Nat) : Int) < (n : Int) := by omega
      have hC := HC.out
      rw [if_neg (by simp), if_neg hn] at hC
      subst hC
      have xn : IntKind.i64.wrap (n : Int) = (n : Int) := IntWalk.i64_in _ (by omega)
      have xk : IntKind.i64.wrap ((k : Int) + (n : Int)) = ((k + n : Nat) : Int) := by rw [IntWalk.i64_in _ (by omega)]; omega
      have z1 : (k : Int) ≤ ((k + n : Nat) : Int) := by omega
      have z2 : ((k + n : Nat) : Int) ≤ (c : Int) := by omega
      have z3 : (((k + n : Nat) : Int)).toNat = k + n := by omega
      have HLn : Hid (((b.drop k).take n).length = n) := Lib.hid (by rw [List.length_take, List.length_drop]; omega)
      have hdl : n ≤ (b.drop k).length := by rw [List.length_drop]; omega
      have HT : Hid (∀ V q', KL .u8 V (.slice q' (b.length - k) (c - k)) (b.drop k) → KL .u8 V (.slice q' ((b.drop k).take n).length (c - k)) ((b.drop k).take n)) := Lib.hid (fun V q' h => by have := h.take hdl; rwa [HLn.out])
      have HF : Hid (∀ (q' : Option Addr) (w' : World), (q' = some ⟨g, o + k, none⟩ ∨ k = b.length) → Below w.heap.size w w' → ∃ q2 c2, Ending.returned (.tuple #[.slice q' n (c - k), .int .i64 ((k + n : Nat) : Int), .int .i64 0]) = .returned (.tuple #[.slice q2 ((b.drop k).take n).length c2, .int .i64 ((k + n : Nat) : Int), .int .i64 ((0 : Nat) : Int)]) ∧ (∀ V, KL .u8 V (.slice (some ⟨g, o, none⟩) b.length c) b → KL .u8 V (.slice q2 ((b.drop k).take n).length c2) ((b.drop k).take n)) ∧ Below w.heap.size w w' ∧ ((0 : Nat) ≠ 0 → q2 = none ∧ c2 = 0)) := Lib.hid (fun q' w' hq hb => ⟨q', c - k, by rw [HLn.out]; rfl, fun V hV => HT.out _ _ (HFr.out V hV q' hq), hb, fun h => absurd rfl h⟩)
      clear HC HT HFr HLn hdl
      by_cases hck : k = c
      · subst hck
        obtain rfl : n = 0 := by omega
        go_enter Try.func114, Try.ntmps114
        go_wp2_with (go_at_call 112; refine HRd.out.mono ?_; rintro e w1 ⟨rfl, hb1⟩; have HB1 := Lib.hid hb1; clear hb1)
        refine bodyPost_ret (v := .tuple #[.slice (some ⟨g, o, none⟩) 0 0, .int .i64 ((k + 0 : Nat) : Int), .int .i64 0]) (by simp [results, Try.results114, go_sem]) rfl ?_
        have := HF.out (some ⟨g, o, none⟩) w1 (.inr (by omega)) HB1.out
        simpa using this
      · have hck2 : ¬ c = k := by omega
        have hck3 : ¬ c - k = 0 := by omega
        go_enter Try.func114, Try.ntmps114
        go_wp2_with (go_at_call 112; refine HRd.out.mono ?_; rintro e w1 ⟨rfl, hb1⟩; have HB1 := Lib.hid hb1; clear hb1)
        refine bodyPost_ret (v := .tuple #[.slice (some ⟨g, o + k, none⟩) n (c - k), .int .i64 ((k + n : Nat) : Int), .int .i64 0]) (by simp [results, Try.results114, go_sem]) rfl ?_
        exact HF.out (some ⟨g, o + k, none⟩) w1 (.inl rfl) HB1.out
  · have hez : ¬ (e : Int) = 0 := by omega
    have hC := HC.out
    rw [if_pos he] at hC
    subst hC
    clear HC HOk
    go_enter Try.func114, Try.ntmps114
    go_wp2_with (go_at_call 112; refine HRd.out.mono ?_; rintro e w1 ⟨rfl, hb1⟩; have HB1 := Lib.hid hb1; clear hb1)
    refine bodyPost_ret (v := .tuple #[.slice none 0 0, .int .i64 0, .int .i64 (e : Int)]) (by simp [results, Try.results114, go_sem]) rfl ?_
    exact ⟨none, 0, rfl, fun _ _ => kl_none _ _ _ _, HB1.out, fun _ => ⟨rfl, rfl⟩⟩
theorem pcounted_bad {w : World} {v : Value} {b : List Nat} (hK : KL .u8 w v b) (hb : ∀ x ∈ b, x < 256) (hl : b.length ≤ 1000000) {L : List Nat} {k e : Nat} (h : cnt b = (L, k, e)) (h0 : e ≠ 0) : Calls Try.prog 114 #[v] w fun en w' => en = .returned (.tuple #[.slice none 0 0, .int .i64 0, .int .i64 (e : Int)]) ∧ Below w.heap.size w w' := by
  have h1 : L = [] ∧ k = 0 := by
    unfold cnt at h
    split at h
    · injection h with h1 h; injection h with h2 _; exact ⟨h1.symm, h2.symm⟩
    · split at h
      · injection h with h1 h; injection h with h2 _; exact ⟨h1.symm, h2.symm⟩
      · injection h with h1 h; injection h with _ h2; exact absurd h2.symm h0
  obtain ⟨rfl, rfl⟩ := h1
  refine (pcounted_any hK hb hl).mono ?_
  rintro en w' ⟨q, c, rfl, _, hbl, hq⟩
  rw [h] at hq ⊢
  obtain ⟨rfl, rfl⟩ := hq h0
  exact ⟨rfl, hbl⟩
def CoPost (v : Value) (b L : List Nat) (k : Nat) (w : World) (en : Ending) (w' : World) : Prop := ∃ q c, en = .returned (.tuple #[.slice q L.length c, .int .i64 (k : Int), .int .i64 0]) ∧ (∀ V, KL .u8 V v b → KL .u8 V (.slice q L.length c) L) ∧ Below w.heap.size w w'
theorem pcounted_ok {w : World} {v : Value} {b : List Nat} (hK : KL .u8 w v b) (hb : ∀ x ∈ b, x < 256) (hl : b.length ≤ 1000000) {L : List Nat} {k : Nat} (h : cnt b = (L, k, 0)) : Calls Try.prog 114 #[v] w (CoPost v b L k w) := by
  refine (pcounted_any hK hb hl).mono ?_
  rintro en w' ⟨q, c, rfl, hL, hbl, _⟩
  rw [h] at hL ⊢
  exact ⟨q, c, rfl, hL, hbl⟩
theorem cnt_le {b : List Nat} (hb : ∀ x ∈ b, x < 256) : (cnt b).2.1 ≤ b.length := by
  unfold cnt
  split
  · exact Nat.zero_le _
  · rename_i h
    split
    · exact Nat.zero_le _
    · rename_i h2
      have hr : rd b = ((rd b).1, (rd b).2.1, 0) := by rw [show 0 = (rd b).2.2 from by omega]
      have := (rd_ok hr hb).2.1
      dsimp only
      omega
theorem cnt_nil : cnt [] = ([], 0, 4) := by decide
end Go.Proofs.Ytcbgknlklpandaa
