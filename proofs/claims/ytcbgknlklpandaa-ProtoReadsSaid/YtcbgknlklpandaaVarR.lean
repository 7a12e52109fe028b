/- Walks of varint: the number that bytes begin with; the document's. -/
import Derived.Test.YtcbgknlklpandaaVarB
import Derived.ScopeJumps
import Derived.Laws.Bits64b
namespace Go.Proofs.Ytcbgknlklpandaa
open Go.RowKit Go.Sort

theorem wp_scope_mid {P : Program} {a : Act} {w : World} {Q : Exit → Act → World → Prop} {c B : Code} (l : Nat) (J : Act → World → Prop) (μ : Act → World → Nat) (hf : findLabel c l = some (Code.skip.seq B))
    (first : (∀ a w, J a w → ((Code.label l).seq B).wp P (Exit.jump l J Q) a w) → c.wp P (Exit.jump l J Q) a w)
    (pass : ∀ a w, J a w → B.wp P (Exit.jump l (fun a' w' => J a' w' ∧ μ a' w' < μ a w) Q) a w) : (Code.scope c).wp P Q a w := by
  refine wp_scope_jumps (rest := Code.skip.seq B) l J μ hf (first (fun a w h => wp_seq (wp_label ?_))) (fun a w h => wp_seq (wp_skip (pass a w h)))
  show B.wp P (Exit.jump l J Q) a w
  refine wp_mono (pass a w h) ?_
  intro e a' w' h
  cases e with
  | goto l' => exact ⟨h.1, h.2.1⟩
  | normal => exact h
  | exit id => exact h
  | ret => exact h
  | panic ch => exact h
  | outgrown => exact h
theorem rd_or {b : List Nat} {nn sh n2 r x t s : Nat} (h3 : nn < 18446744073709551616) (hsh64 : sh < 18446744073709551616) (hn2 : n2 = nn ||| sh) (hsh : sh = (r * 2 ^ t) % 18446744073709551616) (hr : r = x % 128) (ht : t = 7 * s) (hs : s ≤ 9) (hlt : s < b.length) (hTk : b.take (s + 1) = b.take s ++ [x]) (hv : s ≤ 9 → nn = val (b.take s)) : n2 < 18446744073709551616 ∧ ((s ≤ 8 ∨ r ≤ 1) → n2 = val (b.take (s + 1))) := by
  refine ⟨by rw [hn2]; exact Nat.or_lt_two_pow (n := 64) h3 hsh64, fun h => ?_⟩
  have hn := hv hs
  have hl : (b.take s).length = s := by rw [List.length_take]; omega
  have e2 : 2 ^ t = 128 ^ s := by rw [ht, Nat.pow_mul]
  have hlt2 : nn < 2 ^ t := by rw [e2, hn]; exact val_lt _ s (by omega)
  have hb : r * 2 ^ t < 18446744073709551616 := by
    rw [e2]
    rcases h with h | h
    · have h9 : 128 ^ s ≤ 128 ^ 8 := Nat.pow_le_pow_right (by omega) h
      have : r * 128 ^ s ≤ 127 * 128 ^ 8 := Nat.mul_le_mul (by omega) h9
      exact Nat.lt_of_le_of_lt this (by decide)
    · have h9 : 128 ^ s ≤ 128 ^ 9 := Nat.pow_le_pow_right (by omega) hs
      have : r * 128 ^ s ≤ 1 * 128 ^ 9 := Nat.mul_le_mul h h9
      exact Nat.lt_of_le_of_lt this (by decide)
  rw [Nat.mod_eq_of_lt hb] at hsh
  have ho := Nat.shiftLeft_add_eq_or_of_lt hlt2 r
  rw [Nat.shiftLeft_eq, ← hsh, Nat.or_comm, ← hn2] at ho
  rw [← ho, hTk, val_snoc, hl, ← hr, ← hn, hsh, e2, Nat.add_comm]
/-- Where the numbers stand, at a jump. -/
def RdF (v : Value) (nn s : Nat) (a : Act) : Prop := ∃ x1 x2 x3 x4 x6 x8 x9 x10 x11 x12 x13 x14 x15 x16 x17 x18 x19 x20 x21 x22 x23 x24 x25 x26 x27 x28 x29 x30 x31 x32 x33 x34 x35 x36 x37 x38 x39 x40 x41 x42 x43 x44 x45 x46 : Value, a = { tmps := #[v, x1, x2, x3, x4, .int .u64 (nn : Int), x6, .int .i64 (s : Int), x8, x9, x10, x11, x12, x13, x14, x15, x16, x17, x18, x19, x20, x21, x22, x23, x24, x25, x26, x27, x28, x29, x30, x31, x32, x33, x34, x35, x36, x37, x38, x39, x40, x41, x42, x43, x44, x45, x46], defers := [] }
def RdJ (w : World) (v : Value) (b : List Nat) (a : Act) (W : World) : Prop := ∃ nn s, RdF v nn s a ∧ w = W ∧ s ≤ lead b ∧ s ≤ 10 ∧ nn < 18446744073709551616 ∧ (s ≤ 9 → nn = val (b.take s))
def slR (a : Act) : Nat := match a.tmps.getD 7 undef with
  | .int _ n => n.toNat
  | _ => 0
def RdPost (b : List Nat) (w : World) (e : Ending) (w' : World) : Prop := e = .returned (.tuple #[.int .u64 ((rd b).1 : Int), .int .i64 ((rd b).2.1 : Int), .int .i64 ((rd b).2.2 : Int)]) ∧ Below w.heap.size w w'
set_option maxRecDepth 100000 in
set_option maxHeartbeats 4000000 in
theorem rd_any {w : World} {v : Value} {b : List Nat} (hK : KL .u8 w v b) (hb : ∀ x ∈ b, x < 256) (hl : b.length ≤ 1000000) : Calls Try.prog 112 #[v] w (RdPost b w) := by
  have hmx : Try.prog.follows .mixedOrders = true := by kernel_rfl
  obtain ⟨q, c, rfl, _, hx⟩ := hK
  have HX := Lib.hid hx
  have HBd := Lib.hid hb
  clear hx hb
  go_enter Try.func112, Try.ntmps112
  go_wp2_with fail
  apply wp_scope_mid (l := 0) (J := RdJ w (.slice q b.length c) b) (μ := fun a _ => 10 - slR a) (hf := rfl)
  case first =>
    generalize ((Code.label 0).seq _) = LB
    intro hfirst
    go_wp2_with fail
    exact hfirst _ _ ⟨0, 0, ⟨_, _, _, _, _, _, _, _, _, _, _, _, _, _, _, _, _, _, _, _, _, _, _, _, _, _, _, _, _, _, _, _, _, _, _, _, _, _, _, _, _, _, _, _, rfl⟩, rfl, Nat.zero_le _, by omega, by omega, fun _ => rfl⟩
  case pass =>
    rintro a W ⟨nn, s, ⟨x1, x2, x3, x4, x6, x8, x9, x10, x11, x12, x13, x14, x15, x16, x17, x18, x19, x20, x21, x22, x23, x24, x25, x26, x27, x28, x29, x30, x31, x32, x33, x34, x35, x36, x37, x38, x39, x40, x41, x42, x43, x44, x45, x46, rfl⟩, rfl, h1, h2, h3, h4⟩
    have HV := Lib.hid h4
    have hle := lead_le b
    clear h4
    by_cases h10 : s = 10
    · subst h10
      have HR : Hid (rd b = (0, 0, 5)) := Lib.hid (by unfold rd; rw [if_pos h1])
      clear HV h3
      go_wp2_with fail
      refine bodyPost_ret (v := .tuple #[.int .u64 0, .int .i64 0, .int .i64 5]) (by simp [results, Try.results112, go_sem]) rfl ⟨by rw [HR.out]; rfl, Below.refl _ _⟩
    · have h10z : ¬ (s : Int) = 10 := by omega
      by_cases hsl : s = b.length
      · have HR : Hid (rd b = (0, 0, 4)) := Lib.hid (by unfold rd; rw [if_neg (by omega), if_pos (by omega)])
        have hslz : (s : Int) = (b.length : Int) := by omega
        clear HV h3
        go_wp2_with fail
        refine bodyPost_ret (v := .tuple #[.int .u64 0, .int .i64 0, .int .i64 4]) (by simp [results, Try.results112, go_sem]) rfl ⟨by rw [HR.out]; rfl, Below.refl _ _⟩
      · have hslz : ¬ (s : Int) = (b.length : Int) := by omega
        have hlt : s < b.length := by omega
        have hltz : (s : Int) < (b.length : Int) := by omega
        obtain ⟨g, o, rfl, hc⟩ := HX.out s hlt
        have hb8 := HBd.out _ (List.getElem_mem hlt)
        have hget : b.getD s 0 = b[s] := by rw [List.getD_eq_getElem?_getD, List.getElem?_eq_getElem hlt]; rfl
        have HTk : Hid (b.take (s + 1) = b.take s ++ [b[s]]) := Lib.hid (List.take_succ_eq_append_getElem hlt)
        generalize b[s] = x at *
        obtain ⟨r, hr⟩ : ∃ r, r = x % 128 := ⟨_, rfl⟩
        have xr : (x : Int) % 128 = (r : Int) := by omega
        have hr128 : r < 128 := by omega
        obtain ⟨t, ht⟩ : ∃ t, t = 7 * s := ⟨_, rfl⟩
        have xt : (7 : Int) * (s : Int) = (t : Int) := by omega
        have xt2 : IntKind.i64.wrap (t : Int) = (t : Int) := IntWalk.i64_in _ (by omega)
        have xc : IntKind.u64.wrap (r : Int) = (r : Int) := IntWalk.u64_in _ (by omega)
        have ht63 : t ≤ 63 := by omega
        obtain ⟨sh, hsh⟩ : ∃ sh, sh = (r * 2 ^ t) % 18446744073709551616 := ⟨_, rfl⟩
        have xsh : IntKind.u64.wrap ((r : Int) * 2 ^ t) = (sh : Int) := by
          have e : ((r * 2 ^ t : Nat) : Int) = (r : Int) * 2 ^ t := by rw [Int.natCast_mul, Int.natCast_pow]; rfl
          rw [← e, IntKind.wrap_u64, hsh]
          generalize r * 2 ^ t = X
          omega
        have hsh64 : sh < 18446744073709551616 := by rw [hsh]; exact Nat.mod_lt _ (by omega)
        have xor := bits_or_u64_nat nn sh h3 hsh64
        obtain ⟨n2, hn2⟩ : ∃ n2, n2 = nn ||| sh := ⟨_, rfl⟩
        rw [← hn2] at xor
        have HN2 : Hid (n2 < 18446744073709551616 ∧ ((s ≤ 8 ∨ r ≤ 1) → n2 = val (b.take (s + 1)))) := Lib.hid (rd_or h3 hsh64 hn2 hsh hr ht (by omega) hlt HTk.out HV.out)
        have HL : Hid (128 ≤ x → s + 1 ≤ lead b) := Lib.hid (fun hx => by
          rcases Nat.lt_or_ge s (lead b) with h | h
          · exact h
          · have e : lead b = s := by omega
            have := lead_end (b := b) (by omega)
            rw [e, hget] at this
            omega)
        have HL2 : Hid (x < 128 → lead b = s) := Lib.hid (fun hx => by
          rcases Nat.lt_or_ge s (lead b) with h | h
          · have := lead_at h
            rw [hget] at this
            omega
          · omega)
        have HG := Lib.hid hget
        have HRx := Lib.hid hr
        clear hn2 hsh hsh64 HTk hget h3 HV ht hr
        have hs1 : IntKind.i64.wrap ((s : Int) + 1) = (s : Int) + 1 := IntWalk.i64_in _ (by omega)
        have hx256 : x < 256 := by first | exact hb8 | omega
        by_cases h128 : 128 ≤ x
        · have h128z : (128 : Int) ≤ (x : Int) := by omega
          go_wp2_with fail
          go_step3
          refine ⟨rfl, ⟨n2, s + 1, ⟨_, _, _, _, _, _, _, _, _, _, _, _, _, _, _, _, _, _, _, _, _, _, _, _, _, _, _, _, _, _, _, _, _, _, _, _, _, _, _, _, _, _, _, _, rfl⟩, rfl, HL.out h128, by omega, HN2.out.1, fun h => HN2.out.2 (.inl (by omega))⟩, ?_⟩
          simp [slR]
          omega
        · have h128z : ¬ (128 : Int) ≤ (x : Int) := by omega
          have hls := HL2.out (by omega)
          have hg := HG.out
          go_upto_region 13 with fail
          have hx' : r = x := by have := HRx.out; omega
          clear hc hs1 xt xt2 xc xsh xor xr
          by_cases h9 : s = 9
          · subst h9
            by_cases h1x : 1 < x
            · have h1z : (1 : Int) < (x : Int) := by omega
              have HR : Hid (rd b = (0, 0, 5)) := Lib.hid (by unfold rd; rw [hls, if_neg (by omega), if_neg (by omega), if_pos ⟨rfl, by rw [hg]; exact h1x⟩])
              clear HN2 HL HL2 HG hls hg
              go_wp2_with fail
              refine bodyPost_ret (v := .tuple #[.int .u64 0, .int .i64 0, .int .i64 5]) (by simp [results, Try.results112, go_sem]) rfl ⟨by rw [HR.out]; rfl, Below.refl _ _⟩
            · have h1z : ¬ (1 : Int) < (x : Int) := by omega
              by_cases h0 : x = 0
              · have h0z : (x : Int) = 0 := by omega
                have HR : Hid (rd b = (0, 0, 3)) := Lib.hid (by unfold rd; rw [hls, if_neg (by omega), if_neg (by omega), if_neg (by rintro ⟨_, h⟩; rw [hg] at h; omega), if_pos ⟨by omega, by rw [hg]; exact h0⟩])
                clear HN2 HL HL2 HG hls hg
                go_wp2_with fail
                refine bodyPost_ret (v := .tuple #[.int .u64 0, .int .i64 0, .int .i64 3]) (by simp [results, Try.results112, go_sem]) rfl ⟨by rw [HR.out]; rfl, Below.refl _ _⟩
              · have h0z : ¬ (x : Int) = 0 := by omega
                have HR : Hid (rd b = (n2, 10, 0)) := Lib.hid (by unfold rd; rw [hls, if_neg (by omega), if_neg (by omega), if_neg (by rintro ⟨_, h⟩; rw [hg] at h; omega), if_neg (by rintro ⟨_, h⟩; rw [hg] at h; omega), HN2.out.2 (.inr (by omega))])
                clear HN2 HL HL2 HG hls hg
                go_wp2_with fail
                refine bodyPost_ret (v := .tuple #[.int .u64 (n2 : Int), .int .i64 10, .int .i64 0]) (by simp [results, Try.results112, go_sem]) rfl ⟨by rw [HR.out]; rfl, Below.refl _ _⟩
          · have h9z : ¬ (s : Int) + 1 = 10 := by omega
            by_cases hs0 : s = 0
            · subst hs0
              have HR : Hid (rd b = (n2, 1, 0)) := Lib.hid (by unfold rd; rw [hls, if_neg (by omega), if_neg (by omega), if_neg (by omega), if_neg (by omega), HN2.out.2 (.inl (by omega))])
              clear HN2 HL HL2 HG hls hg
              go_wp2_with fail
              refine bodyPost_ret (v := .tuple #[.int .u64 (n2 : Int), .int .i64 1, .int .i64 0]) (by simp [results, Try.results112, go_sem]) rfl ⟨by rw [HR.out]; rfl, Below.refl _ _⟩
            · have hs1z : (1 : Int) < (s : Int) + 1 := by omega
              by_cases h0 : x = 0
              · have h0z : (x : Int) = 0 := by omega
                have HR : Hid (rd b = (0, 0, 3)) := Lib.hid (by unfold rd; rw [hls, if_neg (by omega), if_neg (by omega), if_neg (by omega), if_pos ⟨by omega, by rw [hg]; exact h0⟩])
                clear HN2 HL HL2 HG hls hg
                go_wp2_with fail
                refine bodyPost_ret (v := .tuple #[.int .u64 0, .int .i64 0, .int .i64 3]) (by simp [results, Try.results112, go_sem]) rfl ⟨by rw [HR.out]; rfl, Below.refl _ _⟩
              · have h0z : ¬ (x : Int) = 0 := by omega
                have HR : Hid (rd b = (n2, s + 1, 0)) := Lib.hid (by unfold rd; rw [hls, if_neg (by omega), if_neg (by omega), if_neg (by omega), if_neg (by rintro ⟨_, h⟩; rw [hg] at h; omega), HN2.out.2 (.inl (by omega))])
                clear HN2 HL HL2 HG hls hg
                go_wp2_with fail
                refine bodyPost_ret (v := .tuple #[.int .u64 (n2 : Int), .int .i64 ((s : Int) + 1), .int .i64 0]) (by simp [results, Try.results112, go_sem]) rfl ⟨by rw [HR.out]; rfl, Below.refl _ _⟩
end Go.Proofs.Ytcbgknlklpandaa
