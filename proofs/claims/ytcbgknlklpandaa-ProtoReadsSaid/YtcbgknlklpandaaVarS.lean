/- Walks of varint: the document's Read. -/
import Derived.Test.YtcbgknlklpandaaVarR
namespace Go.Proofs.Ytcbgknlklpandaa
open Go.RowKit Go.Sort

theorem val_drop_le : ∀ (m : Nat) (T : List Nat), val (T.drop m) ≤ val T
  | 0, T => Nat.le_refl _
  | m + 1, [] => Nat.le_refl _
  | m + 1, x :: t => by
    have := val_drop_le m t
    rw [List.drop_succ_cons, val]
    omega
theorem val_at {T : List Nat} {m : Nat} (h : m < T.length) : val (T.drop m) = T[m] % 128 + 128 * val (T.drop (m + 1)) := by
  rw [List.drop_eq_getElem_cons h, val]
set_option maxRecDepth 100000 in
set_option maxHeartbeats 4000000 in
theorem rrd_any {w : World} {v : Value} {b : List Nat} (hK : KL .u8 w v b) (hb : ∀ x ∈ b, x < 256) (hl : b.length ≤ 1000000) : Calls Try.prog 85 #[v] w (RdPost b w) := by
  have hmx : Try.prog.follows .mixedOrders = true := by kernel_rfl
  obtain ⟨q, c, rfl, _, hx⟩ := hK
  have HX := Lib.hid hx
  have HBd := Lib.hid hb
  have hle := lead_le b
  clear hx hb
  go_enter Try.func85, Try.ntmps85
  go_wp2_with fail
  go_loopg [5] (b.length + 1) (fun gk i wx => ∃ k : Nat, k + gk = b.length + 1 ∧ i = .int .i64 (k : Int) ∧ k ≤ lead b ∧ w = wx)
  case atStart => exact ⟨0, by omega, rfl, Nat.zero_le _, rfl⟩
  case round =>
    obtain ⟨k, hkg, rfl, hk, rfl⟩ := hrel
    cases gk with
    | zero => omega
    | succ gr =>
      by_cases hkl : k < lead b
      · have hkz : (k : Int) < (b.length : Int) := by omega
        obtain ⟨g, o, rfl, hc⟩ := HX.out k (by omega)
        have hge := lead_at hkl
        rw [List.getD_eq_getElem?_getD, List.getElem?_eq_getElem (by omega), Option.getD_some] at hge
        have hgez : (128 : Int) ≤ ((b[k]'(by omega) : Nat) : Int) := by omega
        generalize b[k]'(by omega) = x at *
        have xk : IntKind.i64.wrap ((k : Int) + 1) = (k : Int) + 1 := IntWalk.i64_in _ (by omega)
        go_wp2_with fail
        go_roundg gr
        case measure => omega
        case rel => exact ⟨k + 1, by omega, by go_num, by omega, rfl⟩
      · obtain rfl : k = lead b := by omega
        have HW := Lib.hid (Below.refl w.heap.size w)
        by_cases hend : lead b = b.length
        · have hkz : ¬ ((lead b : Nat) : Int) < (b.length : Int) := by omega
          by_cases h10 : 10 ≤ lead b
          · have h10z : (10 : Int) ≤ ((lead b : Nat) : Int) := by omega
            have HR : Hid (rd b = (0, 0, 5)) := Lib.hid (by unfold rd; rw [if_pos h10])
            go_wp2_with fail
            refine bodyPost_ret (v := .tuple #[.int .u64 0, .int .i64 0, .int .i64 5]) (by simp [results, Try.results85, go_sem]) rfl ⟨by rw [HR.out]; rfl, HW.out⟩
          · have h10z : ¬ (10 : Int) ≤ ((lead b : Nat) : Int) := by omega
            have hez : ((lead b : Nat) : Int) = (b.length : Int) := by omega
            have HR : Hid (rd b = (0, 0, 4)) := Lib.hid (by unfold rd; rw [if_neg h10, if_pos hend])
            go_wp2_with fail
            refine bodyPost_ret (v := .tuple #[.int .u64 0, .int .i64 0, .int .i64 4]) (by simp [results, Try.results85, go_sem]) rfl ⟨by rw [HR.out]; rfl, HW.out⟩
        · have hlt : lead b < b.length := by omega
          have hkz : ((lead b : Nat) : Int) < (b.length : Int) := by omega
          obtain ⟨g, o, rfl, hc⟩ := HX.out (lead b) hlt
          have hen := lead_end hlt
          have hget : b.getD (lead b) 0 = b[lead b] := by rw [List.getD_eq_getElem?_getD, List.getElem?_eq_getElem hlt]; rfl
          rw [hget] at hen
          have HRd : Hid (rd b = if 10 ≤ lead b then (0, 0, 5) else if lead b = 9 ∧ 1 < b[lead b] then (0, 0, 5) else if 0 < lead b ∧ b[lead b] = 0 then (0, 0, 3) else (val (b.take (lead b + 1)), lead b + 1, 0)) := Lib.hid (by
            unfold rd
            rw [if_neg (c := lead b = b.length) hend, hget]
            congr 2
            by_cases h9 : lead b = 9
            · rw [← hget, h9]
            · simp [h9])
          have HOk : Hid (∀ n k, rd b = (n, k, 0) → n < 18446744073709551616) := Lib.hid (fun n k h => (rd_ok h HBd.out).2.2.2.2)
          have HC : Hid (∀ (x : Nat) (hx : x < b.length), w.cell? ⟨g, o + x, none⟩ = some (.int .u8 ((b[x] : Nat) : Int))) := Lib.hid (fun x hx => by
            obtain ⟨g', o', e, hc⟩ := HX.out x hx
            injection e with e
            injection e with e1 e2 _
            subst e1 e2
            exact hc)
          have HT : Hid (∀ m (hm : m ≤ lead b), val ((b.take (lead b + 1)).drop m) = b.getD m 0 % 128 + 128 * val ((b.take (lead b + 1)).drop (m + 1))) := Lib.hid (fun m hm => by
            rw [val_at (by rw [List.length_take]; omega), List.getElem_take, List.getD_eq_getElem?_getD, List.getElem?_eq_getElem (by omega), Option.getD_some])
          have HTe : Hid (val ((b.take (lead b + 1)).drop (lead b + 1)) = 0) := Lib.hid (by rw [List.drop_of_length_le (by rw [List.length_take]; omega)]; rfl)
          have hxz : ¬ (128 : Int) ≤ ((b[lead b] : Nat) : Int) := by omega
          clear hget
          have h256k := HBd.out _ (List.getElem_mem hlt)
          generalize b[lead b] = x at *
          clear HX hk hle
          generalize lead b = k at *
          by_cases h10 : 10 ≤ k
          · have h10z : (10 : Int) ≤ (k : Int) := by omega
            have HR : Hid (rd b = (0, 0, 5)) := Lib.hid (by rw [HRd.out, if_pos h10])
            clear HT HTe HC
            go_wp2_with fail
            refine bodyPost_ret (v := .tuple #[.int .u64 0, .int .i64 0, .int .i64 5]) (by simp [results, Try.results85, go_sem]) rfl ⟨by rw [HR.out]; rfl, HW.out⟩
          · have h10z : ¬ (10 : Int) ≤ (k : Int) := by omega
            have hkl : ¬ (k : Int) = (b.length : Int) := by omega
            have hxz2 : ¬ (128 : Int) ≤ (x : Int) := hxz
            by_cases h9 : k = 9
            · subst h9
              by_cases h1x : 1 < x
              · have h1z : (1 : Int) < (x : Int) := by omega
                have HR : Hid (rd b = (0, 0, 5)) := Lib.hid (by rw [HRd.out, if_neg h10, if_pos ⟨rfl, h1x⟩])
                clear HT HTe HC
                go_wp2_with fail
                refine bodyPost_ret (v := .tuple #[.int .u64 0, .int .i64 0, .int .i64 5]) (by simp [results, Try.results85, go_sem]) rfl ⟨by rw [HR.out]; rfl, HW.out⟩
              · have h1z : ¬ (1 : Int) < (x : Int) := by omega
                by_cases h0 : x = 0
                · have h0z : (x : Int) = 0 := by omega
                  have HR : Hid (rd b = (0, 0, 3)) := Lib.hid (by rw [HRd.out, if_neg h10, if_neg (by rintro ⟨_, h⟩; exact h1x h), if_pos ⟨by omega, h0⟩])
                  clear HT HTe HC
                  go_wp2_with fail
                  refine bodyPost_ret (v := .tuple #[.int .u64 0, .int .i64 0, .int .i64 3]) (by simp [results, Try.results85, go_sem]) rfl ⟨by rw [HR.out]; rfl, HW.out⟩
                · have h0z : ¬ (x : Int) = 0 := by omega
                  have HR : Hid (rd b = (val (b.take (9 + 1)), 9 + 1, 0)) := Lib.hid (by rw [HRd.out, if_neg h10, if_neg (by rintro ⟨_, h⟩; exact h1x h), if_neg (by rintro ⟨_, h⟩; exact h0 h)])
                  have hv64 := HOk.out _ _ HR.out
                  go_wp2_with fail
                  go_loopg [6, 7] (9 + 1) (fun gk nn i wx => ∃ j : Nat, j + gk = 9 + 1 ∧ i = .int .i64 ((gk : Int) - 1) ∧ nn = .int .u64 ((val ((b.take (9 + 1)).drop gk) : Nat) : Int) ∧ w = wx)
                  case atStart => exact ⟨0, by omega, (by first | rfl | (push_cast; rfl) | (congr 1; omega)), by rw [HTe.out]; rfl, rfl⟩
                  case round =>
                    obtain ⟨j, hj, rfl, rfl, rfl⟩ := hrel
                    cases gk with
                    | zero =>
                      have hz : ¬ (0 : Int) ≤ ((0 : Nat) : Int) - 1 := by omega
                      go_wp2_with fail
                      refine bodyPost_ret (v := .tuple #[.int .u64 ((val (b.take (9 + 1)) : Nat) : Int), .int .i64 10, .int .i64 0]) (by simp [results, Try.results85, go_sem]) rfl ⟨by rw [HR.out]; rfl, HW.out⟩
                    | succ gr =>
                      have e1 : ((gr + 1 : Nat) : Int) - 1 = (gr : Int) := by omega
                      have hz : (0 : Int) ≤ (gr : Int) := by omega
                      have hgl : gr < b.length := by omega
                      have hc2 := HC.out gr hgl
                      have h256 := HBd.out _ (List.getElem_mem hgl)
                      have hT := HT.out gr (by omega)
                      rw [List.getD_eq_getElem?_getD, List.getElem?_eq_getElem hgl, Option.getD_some] at hT
                      have hle2 := val_drop_le gr (b.take (9 + 1))
                      rw [hT] at hle2
                      have HT2 := Lib.hid hT
                      clear hT
                      generalize b[gr] = y at *
                      generalize val ((b.take (9 + 1)).drop (gr + 1)) = n0 at *
                      have hn1 : y % 128 + 128 * n0 < 18446744073709551616 := by omega
                      obtain ⟨yr, hyr⟩ : ∃ yr, yr = y % 128 := ⟨_, rfl⟩
                      have xy : (y : Int) % 128 = (yr : Int) := by omega
                      rw [← hyr] at hn1
                      have xy2 : IntKind.u64.wrap (yr : Int) = (yr : Int) := IntWalk.u64_in _ (by omega)
                      obtain ⟨m1, hm1⟩ : ∃ m1, m1 = 128 * n0 := ⟨_, rfl⟩
                      have xm : IntKind.u64.wrap (128 * (n0 : Int)) = (m1 : Int) := by rw [hm1]; rw [IntWalk.u64_in _ (by omega)]; omega
                      have xs : IntKind.u64.wrap ((m1 : Int) + (yr : Int)) = ((m1 + yr : Nat) : Int) := by rw [IntWalk.u64_in _ (by omega)]; omega
                      have xg : IntKind.i64.wrap ((gr : Int) - 1) = (gr : Int) - 1 := IntWalk.i64_in _ (by omega)
                      have HF : Hid (val ((b.take (9 + 1)).drop gr) = m1 + yr) := Lib.hid (by rw [HT2.out, hm1, hyr]; omega)
                      clear hle2 hn1 hyr hm1 HT2
                      rw [e1]
                      go_wp2_with fail
                      go_roundg gr
                      case measure => omega
                      case rel => exact ⟨j + 1, by omega, rfl, by rw [HF.out]; first | rfl | push_cast; rfl, rfl⟩
            · have h9z : ¬ (k : Int) = 9 := by omega
              by_cases hk0 : k = 0
              · have hk0z : ¬ (0 : Int) < (k : Int) := by omega
                have xk : IntKind.i64.wrap ((k : Int) + 1) = (k : Int) + 1 := IntWalk.i64_in _ (by omega)
                have HR : Hid (rd b = (val (b.take (k + 1)), k + 1, 0)) := Lib.hid (by rw [HRd.out, if_neg h10, if_neg (by omega), if_neg (by omega)])
                have hv64 := HOk.out _ _ HR.out
                clear hk0
                go_wp2_with fail
                go_loopg [6, 7] (k + 1) (fun gk nn i wx => ∃ j : Nat, j + gk = k + 1 ∧ i = .int .i64 ((gk : Int) - 1) ∧ nn = .int .u64 ((val ((b.take (k + 1)).drop gk) : Nat) : Int) ∧ w = wx)
                case atStart => exact ⟨0, by omega, (by first | rfl | (push_cast; rfl) | (congr 1; omega)), by rw [HTe.out]; rfl, rfl⟩
                case round =>
                  obtain ⟨j, hj, rfl, rfl, rfl⟩ := hrel
                  cases gk with
                  | zero =>
                    have hz : ¬ (0 : Int) ≤ ((0 : Nat) : Int) - 1 := by omega
                    go_wp2_with fail
                    refine bodyPost_ret (v := .tuple #[.int .u64 ((val (b.take (k + 1)) : Nat) : Int), .int .i64 ((k : Int) + 1), .int .i64 0]) (by simp [results, Try.results85, go_sem]) rfl ⟨by rw [HR.out]; rfl, HW.out⟩
                  | succ gr =>
                    have e1 : ((gr + 1 : Nat) : Int) - 1 = (gr : Int) := by omega
                    have hz : (0 : Int) ≤ (gr : Int) := by omega
                    have hgl : gr < b.length := by omega
                    have hc2 := HC.out gr hgl
                    have h256 := HBd.out _ (List.getElem_mem hgl)
                    have hT := HT.out gr (by omega)
                    rw [List.getD_eq_getElem?_getD, List.getElem?_eq_getElem hgl, Option.getD_some] at hT
                    have hle2 := val_drop_le gr (b.take (k + 1))
                    rw [hT] at hle2
                    have HT2 := Lib.hid hT
                    clear hT
                    generalize b[gr] = y at *
                    generalize val ((b.take (k + 1)).drop (gr + 1)) = n0 at *
                    have hn1 : y % 128 + 128 * n0 < 18446744073709551616 := by omega
                    obtain ⟨yr, hyr⟩ : ∃ yr, yr = y % 128 := ⟨_, rfl⟩
                    have xy : (y : Int) % 128 = (yr : Int) := by omega
                    rw [← hyr] at hn1
                    have xy2 : IntKind.u64.wrap (yr : Int) = (yr : Int) := IntWalk.u64_in _ (by omega)
                    obtain ⟨m1, hm1⟩ : ∃ m1, m1 = 128 * n0 := ⟨_, rfl⟩
                    have xm : IntKind.u64.wrap (128 * (n0 : Int)) = (m1 : Int) := by rw [hm1]; rw [IntWalk.u64_in _ (by omega)]; omega
                    have xs : IntKind.u64.wrap ((m1 : Int) + (yr : Int)) = ((m1 + yr : Nat) : Int) := by rw [IntWalk.u64_in _ (by omega)]; omega
                    have xg : IntKind.i64.wrap ((gr : Int) - 1) = (gr : Int) - 1 := IntWalk.i64_in _ (by omega)
                    have HF : Hid (val ((b.take (k + 1)).drop gr) = m1 + yr) := Lib.hid (by rw [HT2.out, hm1, hyr]; omega)
                    clear hle2 hn1 hyr hm1 HT2
                    rw [e1]
                    go_wp2_with fail
                    go_roundg gr
                    case measure => omega
                    case rel => exact ⟨j + 1, by omega, rfl, by rw [HF.out]; first | rfl | push_cast; rfl, rfl⟩
              · have hk0z : (0 : Int) < (k : Int) := by omega
                by_cases h0 : x = 0
                · have h0z : (x : Int) = 0 := by omega
                  have HR : Hid (rd b = (0, 0, 3)) := Lib.hid (by rw [HRd.out, if_neg h10, if_neg (by omega), if_pos ⟨by omega, h0⟩])
                  clear HT HTe HC
                  go_wp2_with fail
                  refine bodyPost_ret (v := .tuple #[.int .u64 0, .int .i64 0, .int .i64 3]) (by simp [results, Try.results85, go_sem]) rfl ⟨by rw [HR.out]; rfl, HW.out⟩
                · have h0z : ¬ (x : Int) = 0 := by omega
                  have xk : IntKind.i64.wrap ((k : Int) + 1) = (k : Int) + 1 := IntWalk.i64_in _ (by omega)
                  have HR : Hid (rd b = (val (b.take (k + 1)), k + 1, 0)) := Lib.hid (by rw [HRd.out, if_neg h10, if_neg (by omega), if_neg (by rintro ⟨_, h⟩; exact h0 h)])
                  have hv64 := HOk.out _ _ HR.out
                  go_wp2_with fail
                  go_loopg [6, 7] (k + 1) (fun gk nn i wx => ∃ j : Nat, j + gk = k + 1 ∧ i = .int .i64 ((gk : Int) - 1) ∧ nn = .int .u64 ((val ((b.take (k + 1)).drop gk) : Nat) : Int) ∧ w = wx)
                  case atStart => exact ⟨0, by omega, (by first | rfl | (push_cast; rfl) | (congr 1; omega)), by rw [HTe.out]; rfl, rfl⟩
                  case round =>
                    obtain ⟨j, hj, rfl, rfl, rfl⟩ := hrel
                    cases gk with
                    | zero =>
                      have hz : ¬ (0 : Int) ≤ ((0 : Nat) : Int) - 1 := by omega
                      go_wp2_with fail
                      refine bodyPost_ret (v := .tuple #[.int .u64 ((val (b.take (k + 1)) : Nat) : Int), .int .i64 ((k : Int) + 1), .int .i64 0]) (by simp [results, Try.results85, go_sem]) rfl ⟨by rw [HR.out]; rfl, HW.out⟩
                    | succ gr =>
                      have e1 : ((gr + 1 : Nat) : Int) - 1 = (gr : Int) := by omega
                      have hz : (0 : Int) ≤ (gr : Int) := by omega
                      have hgl : gr < b.length := by omega
                      have hc2 := HC.out gr hgl
                      have h256 := HBd.out _ (List.getElem_mem hgl)
                      have hT := HT.out gr (by omega)
                      rw [List.getD_eq_getElem?_getD, List.getElem?_eq_getElem hgl, Option.getD_some] at hT
                      have hle2 := val_drop_le gr (b.take (k + 1))
                      rw [hT] at hle2
                      have HT2 := Lib.hid hT
                      clear hT
                      generalize b[gr] = y at *
                      generalize val ((b.take (k + 1)).drop (gr + 1)) = n0 at *
                      have hn1 : y % 128 + 128 * n0 < 18446744073709551616 := by omega
                      obtain ⟨yr, hyr⟩ : ∃ yr, yr = y % 128 := ⟨_, rfl⟩
                      have xy : (y : Int) % 128 = (yr : Int) := by omega
                      rw [← hyr] at hn1
                      have xy2 : IntKind.u64.wrap (yr : Int) = (yr : Int) := IntWalk.u64_in _ (by omega)
                      obtain ⟨m1, hm1⟩ : ∃ m1, m1 = 128 * n0 := ⟨_, rfl⟩
                      have xm : IntKind.u64.wrap (128 * (n0 : Int)) = (m1 : Int) := by rw [hm1]; rw [IntWalk.u64_in _ (by omega)]; omega
                      have xs : IntKind.u64.wrap ((m1 : Int) + (yr : Int)) = ((m1 + yr : Nat) : Int) := by rw [IntWalk.u64_in _ (by omega)]; omega
                      have xg : IntKind.i64.wrap ((gr : Int) - 1) = (gr : Int) - 1 := IntWalk.i64_in _ (by omega)
                      have HF : Hid (val ((b.take (k + 1)).drop gr) = m1 + yr) := Lib.hid (by rw [HT2.out, hm1, hyr]; omega)
                      clear hle2 hn1 hyr hm1 HT2
                      rw [e1]
                      go_wp2_with fail
                      go_roundg gr
                      case measure => omega
                      case rel => exact ⟨j + 1, by omega, rfl, by rw [HF.out]; first | rfl | push_cast; rfl, rfl⟩
end Go.Proofs.Ytcbgknlklpandaa
