/- Walks of proto: what is wrong with a field; words, keys. -/
import Derived.Test.YtcbgknlklpandaaProG
import Derived.Test.YtcbgknlklpandaaVarR
namespace Go.Proofs.Ytcbgknlklpandaa
open Go.RowKit Go.Sort

def numB (n : Int) : Bool := decide (1 ≤ n) && decide (n ≤ 536870911)
theorem numB_no {n : Int} : numB n = false ↔ n < 1 ∨ 536870911 < n := by
  unfold numB
  rw [Bool.and_eq_false_iff, decide_eq_false_iff_not, decide_eq_false_iff_not]
  omega
theorem numB_yes {n : Int} : numB n = true ↔ 1 ≤ n ∧ n ≤ 536870911 := by
  unfold numB
  rw [Bool.and_eq_true, decide_eq_true_eq, decide_eq_true_eq]
theorem chk_num {f : Fd} (h : numB f.num = false) : chk f = 5 := by unfold chk; rw [if_pos (numB_no.1 h)]
theorem chk_kind {f : Fd} (h : numB f.num = true) (k : kdB f.kind = false) : chk f = 14 := by
  have := numB_yes.1 h
  unfold chk; rw [if_neg (by omega), if_pos k]
theorem chk_form {f : Fd} (h : numB f.num = true) (k : kdB f.kind = true) (a : (f.kind = 2 ∧ f.n ≠ 0) ∨ (f.kind ≠ 2 ∧ f.b ≠ [])) : chk f = 3 := by
  have := numB_yes.1 h
  unfold chk; rw [if_neg (by omega), if_neg (by rw [k]; simp), if_pos a]
theorem chk_four {f : Fd} (h : numB f.num = true) (k : kdB f.kind = true) (a : ¬ ((f.kind = 2 ∧ f.n ≠ 0) ∨ (f.kind ≠ 2 ∧ f.b ≠ []))) (b : f.kind = 5 ∧ 4294967295 < f.n) : chk f = 5 := by
  have := numB_yes.1 h
  unfold chk; rw [if_neg (by omega), if_neg (by rw [k]; simp), if_neg a, if_pos b]
theorem chk_zero {f : Fd} (h : numB f.num = true) (k : kdB f.kind = true) (a : ¬ ((f.kind = 2 ∧ f.n ≠ 0) ∨ (f.kind ≠ 2 ∧ f.b ≠ []))) (b : ¬ (f.kind = 5 ∧ 4294967295 < f.n)) : chk f = 0 := by
  have := numB_yes.1 h
  unfold chk; rw [if_neg (by omega), if_neg (by rw [k]; simp), if_neg a, if_neg b]
theorem pnumbered_any (n : Int) (w : World) : Calls Try.prog 105 #[.int .i64 n] w fun e w' => e = .returned (.bool (numB n)) ∧ w' = w := by
  by_cases h : 1 ≤ n
  · have HB : Hid (numB n = decide (n ≤ 536870911)) := Lib.hid (by unfold numB; simp [h])
    go_enter Try.func105, Try.ntmps105
    go_wp2_with fail
    go_ret
    exact ⟨ret_bool HB.out.symm, rfl⟩
  · have HB : Hid (numB n = false) := Lib.hid (by unfold numB; simp [h])
    go_enter Try.func105, Try.ntmps105
    go_wp2_with fail
    go_ret
    exact ⟨ret_bool HB.out.symm, rfl⟩
theorem pknown_any (k : Int) (w : World) : Calls Try.prog 106 #[.int .i64 k] w fun e w' => e = .returned (.bool (kdB k)) ∧ w' = w := by
  go_enter Try.func106, Try.ntmps106
  go_wp2_with fail
  all_goals
    go_ret
    exact ⟨ret_bool (by first | rfl | (rename_i h; subst h; rfl)), rfl⟩
theorem pwidth_any (k : Int) (w : World) : Calls Try.prog 108 #[.int .i64 k] w fun e w' => e = .returned (.int .i64 (wid k : Int)) ∧ w' = w := by
  by_cases h5 : k = 5
  · subst h5
    go_enter Try.func108, Try.ntmps108
    go_wp2_with fail
    go_ret
    exact ⟨rfl, rfl⟩
  · have HB : Hid (wid k = 8) := Lib.hid (by unfold wid; rw [if_neg h5])
    go_enter Try.func108, Try.ntmps108
    go_wp2_with fail
    go_ret
    exact ⟨by rw [HB.out]; rfl, rfl⟩
def ChkPost (f : Fd) (w : World) (e : Ending) (w' : World) : Prop := e = .returned (.int .i64 (chk f : Int)) ∧ Below w.heap.size w w'
set_option maxRecDepth 100000 in
theorem pcheck_any (f : Fd) (q : Option Addr) (c : Nat) (w : World) : Calls Try.prog 75 #[.agg #[.int .i64 f.num, .int .i64 f.kind, .int .u64 (f.n : Int), .slice q f.b.length c]] w (ChkPost f w) := by
  have HF : Hid (∀ w' m, chk f = m → Below w.heap.size w w' → ChkPost f w (.returned (.int .i64 (m : Int))) w') := Lib.hid (fun w' m h hb => ⟨by rw [h], hb⟩)
  have C1 := Lib.hid (@chk_num f)
  have C2 := Lib.hid (@chk_kind f)
  have C3 := Lib.hid (@chk_form f)
  have C4 := Lib.hid (@chk_four f)
  have C5 := Lib.hid (@chk_zero f)
  have HN := Lib.hid (fun V => pnumbered_any f.num V)
  have HK := Lib.hid (fun V => pknown_any f.kind V)
  obtain ⟨num, kind, n, b⟩ := f
  dsimp only at *
  have hbz : b ≠ [] ↔ 0 < b.length := by rw [List.length_pos_iff]
  have HBz := Lib.hid hbz
  clear hbz
  cases hn : numB num
  · rw [hn] at HN C1 C2 C3 C4 C5
    clear C2 C3 C4 C5 HK
    go_enter Try.func75, Try.ntmps75
    go_wp2_with (go_at_call 105; refine (HN.out _).mono ?_; rintro e w1 ⟨rfl, hw⟩; subst hw)
    go_ret
    exact HF.out _ 5 (C1.out (by simp)) (below_alloc _ _)
  · cases hk : kdB kind
    · rw [hn] at HN C1 C2 C3 C4 C5
      rw [hk] at HK C2 C3 C4 C5
      clear C1 C3 C4 C5
      go_enter Try.func75, Try.ntmps75
      go_wp2_with (first
        | (go_at_call 105; refine (HN.out _).mono ?_; rintro e w1 ⟨rfl, hw⟩; subst hw)
        | (go_at_call 106; refine (HK.out _).mono ?_; rintro e w1 ⟨rfl, hw⟩; subst hw))
      go_ret
      exact HF.out _ 14 (C2.out (by simp) (by simp)) (below_alloc _ _)
    · have hkk := (kdB_iff kind).1 hk
      rw [hn] at HN C1 C2 C3 C4 C5
      rw [hk] at HK C2 C3 C4 C5
      clear C1 C2 hn hk
      by_cases k2 : kind = 2
      · subst k2
        clear hkk
        by_cases hz : 0 < n
        · have hzz : (0 : Int) < (n : Int) := by omega
          clear C4 C5
          go_enter Try.func75, Try.ntmps75
          go_wp2_with (first
            | (go_at_call 105; refine (HN.out _).mono ?_; rintro e w1 ⟨rfl, hw⟩; subst hw)
            | (go_at_call 106; refine (HK.out _).mono ?_; rintro e w1 ⟨rfl, hw⟩; subst hw))
          go_ret
          exact HF.out _ 3 (C3.out (by simp) (by simp) (by simp; omega)) (below_alloc _ _)
        · have hzz : ¬ (0 : Int) < (n : Int) := by omega
          clear C3 C4
          go_enter Try.func75, Try.ntmps75
          go_wp2_with (first
            | (go_at_call 105; refine (HN.out _).mono ?_; rintro e w1 ⟨rfl, hw⟩; subst hw)
            | (go_at_call 106; refine (HK.out _).mono ?_; rintro e w1 ⟨rfl, hw⟩; subst hw))
          go_ret
          exact HF.out _ 0 (C5.out (by simp) (by simp) (by omega) (by omega)) (below_alloc _ _)
      · by_cases hl : 0 < b.length
        · have hll : (0 : Int) < (b.length : Int) := by omega
          clear C4 C5 hkk
          go_enter Try.func75, Try.ntmps75
          go_wp2_with (first
            | (go_at_call 105; refine (HN.out _).mono ?_; rintro e w1 ⟨rfl, hw⟩; subst hw)
            | (go_at_call 106; refine (HK.out _).mono ?_; rintro e w1 ⟨rfl, hw⟩; subst hw))
          go_ret
          exact HF.out _ 3 (C3.out (by simp) (by simp) (.inr ⟨k2, HBz.out.2 hl⟩)) (below_alloc _ _)
        · have hll : ¬ (0 : Int) < (b.length : Int) := by omega
          have HA : Hid (¬ ((kind = 2 ∧ n ≠ 0) ∨ (kind ≠ 2 ∧ b ≠ []))) := Lib.hid (by
            rintro (⟨h, _⟩ | ⟨_, h⟩)
            · exact k2 h
            · exact hl (HBz.out.1 h))
          by_cases k5 : kind = 5
          · subst k5
            clear hkk
            by_cases hz : 4294967295 < n
            · have hzz : (4294967295 : Int) < (n : Int) := by omega
              clear C3 C5
              go_enter Try.func75, Try.ntmps75
              go_wp2_with (first
                | (go_at_call 105; refine (HN.out _).mono ?_; rintro e w1 ⟨rfl, hw⟩; subst hw)
                | (go_at_call 106; refine (HK.out _).mono ?_; rintro e w1 ⟨rfl, hw⟩; subst hw))
              go_ret
              exact HF.out _ 5 (C4.out (by simp) (by simp) HA.out (by simp; omega)) (below_alloc _ _)
            · have hzz : ¬ (4294967295 : Int) < (n : Int) := by omega
              clear C3 C4
              go_enter Try.func75, Try.ntmps75
              go_wp2_with (first
                | (go_at_call 105; refine (HN.out _).mono ?_; rintro e w1 ⟨rfl, hw⟩; subst hw)
                | (go_at_call 106; refine (HK.out _).mono ?_; rintro e w1 ⟨rfl, hw⟩; subst hw))
              go_ret
              exact HF.out _ 0 (C5.out (by simp) (by simp) HA.out (by omega)) (below_alloc _ _)
          · clear C3 C4 hkk
            go_enter Try.func75, Try.ntmps75
            go_wp2_with (first
              | (go_at_call 105; refine (HN.out _).mono ?_; rintro e w1 ⟨rfl, hw⟩; subst hw)
              | (go_at_call 106; refine (HK.out _).mono ?_; rintro e w1 ⟨rfl, hw⟩; subst hw))
            go_ret
            exact HF.out _ 0 (C5.out (by simp) (by simp) HA.out (by omega)) (below_alloc _ _)
/-- A word of so many bytes. -/
theorem unl_snoc : ∀ (b : List Nat) (x : Nat), unl (b ++ [x]) = unl b + x * 256 ^ b.length
  | [], x => by simp [unl]
  | y :: t, x => by
    rw [List.cons_append, unl, unl, unl_snoc t x, List.length_cons, Nat.pow_succ, Nat.mul_add, ← Nat.mul_assoc, Nat.mul_comm 256 x, Nat.mul_assoc, Nat.mul_comm 256 (256 ^ t.length), ← Nat.mul_assoc]
    omega
theorem word_or {n x i : Nat} (hn : n < 256 ^ i) (hx : x < 256) (hi : i < 8) : x * 2 ^ (8 * i) < 18446744073709551616 ∧ n ||| (x * 2 ^ (8 * i)) = n + x * 256 ^ i ∧ n + x * 256 ^ i < 256 ^ (i + 1) := by
  have e : (2 : Nat) ^ (8 * i) = 256 ^ i := by rw [Nat.pow_mul]
  rw [e]
  have h1 : x * 256 ^ i ≤ 255 * 256 ^ i := Nat.mul_le_mul_right _ (by omega)
  have h2 : (256 : Nat) ^ (i + 1) = 256 * 256 ^ i := by rw [Nat.pow_succ, Nat.mul_comm]
  have h3 : (256 : Nat) ^ (i + 1) ≤ 256 ^ 8 := Nat.pow_le_pow_right (by omega) (by omega)
  have h4 : (256 : Nat) ^ 8 = 18446744073709551616 := by decide
  refine ⟨by omega, ?_, by omega⟩
  have ho := Nat.shiftLeft_add_eq_or_of_lt (show n < 2 ^ (8 * i) by rw [e]; exact hn) x
  rw [Nat.shiftLeft_eq, Nat.or_comm, e] at ho
  rw [← ho, Nat.add_comm]
def WdPost (b : List Nat) (m : Nat) (w : World) (e : Ending) (w' : World) : Prop :=
  e = .returned (.tuple #[.int .u64 ((if b.length < m then 0 else unl (b.take m) : Nat) : Int), .int .i64 ((if b.length < m then 0 else m : Nat) : Int), .int .i64 ((if b.length < m then 4 else 0 : Nat) : Int)]) ∧ Below w.heap.size w w'
set_option maxRecDepth 100000 in
set_option maxHeartbeats 1000000 in
theorem pword_any {w : World} {v : Value} {b : List Nat} (hK : KL .u8 w v b) (hb : ∀ x ∈ b, x < 256) (m : Nat) (hm : m ≤ 8) : Calls Try.prog 115 #[v, .int .i64 (m : Int)] w (WdPost b m w) := by
  have hmx : Try.prog.follows .mixedOrders = true := by kernel_rfl
  obtain ⟨q, c, rfl, _, hx⟩ := hK
  have HX := Lib.hid hx
  have HBd := Lib.hid hb
  clear hx hb
  by_cases hl : b.length < m
  · have hlz : (b.length : Int) < (m : Int) := by omega
    have HF : Hid (WdPost b m w (.returned (.tuple #[.int .u64 0, .int .i64 0, .int .i64 4])) w) := Lib.hid ⟨by rw [if_pos hl, if_pos hl, if_pos hl]; rfl, Below.refl _ _⟩
    go_enter Try.func115, Try.ntmps115
    go_wp2_with fail
    exact bodyPost_ret (v := .tuple #[.int .u64 0, .int .i64 0, .int .i64 4]) (by simp [results, Try.results115, go_sem]) rfl HF.out
  · have hlz : ¬ (b.length : Int) < (m : Int) := by omega
    have HF : Hid (∀ w', Below w.heap.size w w' → WdPost b m w (.returned (.tuple #[.int .u64 (unl (b.take m) : Int), .int .i64 (m : Int), .int .i64 0])) w') := Lib.hid (fun w' h => ⟨by rw [if_neg hl, if_neg hl, if_neg hl]; rfl, h⟩)
    have HU := Lib.hid (fun i => unl_lt (b.take i) (fun x hx => HBd.out x (List.mem_of_mem_take hx)))
    go_enter Try.func115, Try.ntmps115
    go_wp2_with fail
    go_loopg [7, 14] m (fun gk s i wx => ∃ k : Nat, k + gk = m ∧ i = .int .i64 (k : Int) ∧ s = .int .u64 (unl (b.take k) : Int) ∧ Hid (Below w.heap.size w wx))
    case atStart => exact ⟨0, by omega, rfl, rfl, Lib.hid (Below.refl _ _)⟩
    case round =>
      obtain ⟨k, hkg, rfl, rfl, HW⟩ := hrel
      cases gk with
      | zero =>
        obtain rfl : k = m := by omega
        have hkz : ¬ (k : Int) < (k : Int) := by omega
        go_wp2_with fail
        exact bodyPost_ret (v := .tuple #[.int .u64 (unl (b.take k) : Int), .int .i64 (k : Int), .int .i64 0]) (by simp [results, Try.results115, go_sem]) rfl (HF.out _ HW.out)
      | succ gr =>
        have hkz : (k : Int) < (m : Int) := by omega
        have hkl : k < b.length := by omega
        obtain ⟨g, o, rfl, hc⟩ := HX.out k hkl
        have hc := cell_later HW.out hc
        have hx := HBd.out _ (List.getElem_mem hkl)
        have hT : b.take (k + 1) = b.take k ++ [b[k]] := List.take_succ_eq_append_getElem hkl
        have hu := HU.out k
        rw [List.length_take, Nat.min_eq_left (by omega)] at hu
        have hsn := unl_snoc (b.take k) b[k]
        rw [← hT, List.length_take, Nat.min_eq_left (by omega)] at hsn
        generalize hu1 : unl (b.take (k + 1)) = u1 at *
        have HU1 := Lib.hid hu1
        generalize unl (b.take k) = u at *
        generalize b[k] = x at *
        obtain ⟨p1, p2, p3⟩ := word_or hu hx (i := k) (by omega)
        rw [← hsn] at p2
        have hu64 : u < 18446744073709551616 := by
          have h3 : (256 : Nat) ^ k ≤ 256 ^ 8 := Nat.pow_le_pow_right (by omega) (by omega)
          have h4 : (256 : Nat) ^ 8 = 18446744073709551616 := by decide
          omega
        obtain ⟨t, ht⟩ : ∃ t, t = 8 * k := ⟨_, rfl⟩
        have xt : (8 : Int) * (k : Int) = (t : Int) := by omega
        have xt2 : IntKind.i64.wrap (t : Int) = (t : Int) := IntWalk.i64_in _ (by omega)
        have xc : IntKind.u64.wrap (x : Int) = (x : Int) := IntWalk.u64_in _ (by omega)
        have ht63 : t ≤ 63 := by omega
        rw [← ht] at p1 p2
        obtain ⟨sh, hsh⟩ : ∃ sh, sh = x * 2 ^ t := ⟨_, rfl⟩
        rw [← hsh] at p1 p2
        have xsh : IntKind.u64.wrap ((x : Int) * 2 ^ t) = (sh : Int) := by
          have e : ((x * 2 ^ t : Nat) : Int) = (x : Int) * 2 ^ t := by rw [Int.natCast_mul, Int.natCast_pow]; rfl
          rw [← e, ← hsh, IntKind.wrap_u64]
          omega
        have xor := bits_or_u64_nat u sh hu64 p1
        rw [p2] at xor
        have hs1 : IntKind.i64.wrap ((k : Int) + 1) = (k : Int) + 1 := IntWalk.i64_in _ (by omega)
        clear p2 p3 hsh hT hsn hu ht hu1
        go_wp2_with fail
        go_roundg gr
        case measure => omega
        case rel => exact ⟨k + 1, by omega, by go_num, by rw [HU1.out], HW⟩
end Go.Proofs.Ytcbgknlklpandaa
