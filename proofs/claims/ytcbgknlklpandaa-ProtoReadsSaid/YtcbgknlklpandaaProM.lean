/- Walks of the document's fields: what is wrong, bytes. -/
import Derived.Test.YtcbgknlklpandaaProL
namespace Go.Proofs.Ytcbgknlklpandaa
open Go.RowKit Go.Sort

def RcPost (f : Fd) (w : World) (e : Ending) (w' : World) : Prop := e = .returned (.int .i64 (chk f : Int)) ∧ Below w.heap.size w w'
theorem bl_loop (s : ByteArray) : ∀ (n i : Nat) (r : List UInt8), i + n = s.size → (ByteArray.toList.loop s i r).length = r.length + n := by
  intro n
  induction n with
  | zero => intro i r h; rw [ByteArray.toList.loop, if_neg (by omega)]; simp
  | succ n ih => intro i r h; rw [ByteArray.toList.loop, if_pos (by omega), ih (i+1) _ (by omega)]; simp; omega
theorem bl_len (s : ByteArray) : s.toList.length = s.size := by
  have := bl_loop s s.size 0 [] (by omega)
  simpa [ByteArray.toList] using this
theorem bl_emp (s : ByteArray) : s.toList.isEmpty = decide (s.size = 0) := by
  rw [← bl_len]
  cases s.toList <;> simp
theorem bst_emp (b : List Nat) : (!(bst b).toList.isEmpty) = decide (b ≠ []) := by
  rw [bl_emp, bst_size]
  cases b <;> simp
set_option maxRecDepth 100000 in
set_option maxHeartbeats 1000000 in
theorem rcheck_any (f : Fd) (w : World) : Calls Try.prog 77 #[.agg #[.int .i64 f.num, .int .i64 f.kind, .int .u64 (f.n : Int), .string (bst f.b)]] w (RcPost f w) := by
  have HF : Hid (∀ w' m, chk f = m → Below w.heap.size w w' → RcPost f w (.returned (.int .i64 (m : Int))) w') := Lib.hid (fun w' m h hb => ⟨by rw [h], hb⟩)
  have C1 := Lib.hid (@chk_num f)
  have C2 := Lib.hid (@chk_kind f)
  have C3 := Lib.hid (@chk_form f)
  have C4 := Lib.hid (@chk_four f)
  have C5 := Lib.hid (@chk_zero f)
  obtain ⟨num, kind, n, b⟩ := f
  dsimp only at *
  have HSn := Lib.hid (bst_emp b)
  by_cases hn1 : num < 1
  · have hC := C1.out (numB_no.2 (.inl hn1))
    have HE := Lib.hid hC
    clear C1 C2 C3 C4 C5 hC
    go_enter Try.func77, Try.ntmps77
    go_wp2_with fail
    go_ret
    exact HF.out _ 5 HE.out (below_alloc _ _)
  · by_cases hn2 : 536870911 < num
    · have hC := C1.out (numB_no.2 (.inr hn2))
      have HE := Lib.hid hC
      clear C1 C2 C3 C4 C5 hC
      go_enter Try.func77, Try.ntmps77
      go_wp2_with fail
      go_ret
      exact HF.out _ 5 HE.out (below_alloc _ _)
    · have hnb : numB num = true := numB_yes.2 ⟨by omega, by omega⟩
      have HNb := Lib.hid hnb
      clear hnb C1
      by_cases k0 : kind = 0
      · subst k0
        by_cases hb : b = []
        · subst hb
          have hsn := HSn.out
          rw [show decide (([] : List Nat) ≠ []) = false from rfl] at hsn
          have HE := Lib.hid (C5.out HNb.out rfl (by simp) (by simp))
          clear C2 C3 C4 C5
          go_enter Try.func77, Try.ntmps77
          go_wp2_with fail
          go_ret
          exact HF.out _ 0 HE.out (below_alloc _ _)
        · have HE := Lib.hid (C3.out HNb.out rfl (.inr ⟨by decide, hb⟩))
          have hsn := HSn.out
          rw [show decide (b ≠ []) = true from by simpa using hb] at hsn
          clear C2 C3 C4 C5
          go_enter Try.func77, Try.ntmps77
          go_wp2_with fail
          go_ret
          exact HF.out _ 3 HE.out (below_alloc _ _)
      · by_cases k1 : kind = 1
        · subst k1
          by_cases hb : b = []
          · subst hb
            have hsn := HSn.out
            rw [show decide (([] : List Nat) ≠ []) = false from rfl] at hsn
            have HE := Lib.hid (C5.out HNb.out rfl (by simp) (by simp))
            clear C2 C3 C4 C5
            go_enter Try.func77, Try.ntmps77
            go_wp2_with fail
            go_ret
            exact HF.out _ 0 HE.out (below_alloc _ _)
          · have HE := Lib.hid (C3.out HNb.out rfl (.inr ⟨by decide, hb⟩))
            have hsn := HSn.out
            rw [show decide (b ≠ []) = true from by simpa using hb] at hsn
            clear C2 C3 C4 C5
            go_enter Try.func77, Try.ntmps77
            go_wp2_with fail
            go_ret
            exact HF.out _ 3 HE.out (below_alloc _ _)
        · by_cases k2 : kind = 2
          · subst k2
            by_cases hz : n = 0
            · subst hz
              have HE := Lib.hid (C5.out HNb.out rfl (by simp) (by simp))
              clear C2 C3 C4 C5
              go_enter Try.func77, Try.ntmps77
              go_wp2_with fail
              go_ret
              exact HF.out _ 0 HE.out (below_alloc _ _)
            · have HE := Lib.hid (C3.out HNb.out rfl (.inl ⟨rfl, hz⟩))
              have hzz : ¬ (n : Int) = 0 := by omega
              clear C2 C3 C4 C5
              go_enter Try.func77, Try.ntmps77
              go_wp2_with fail
              go_ret
              exact HF.out _ 3 HE.out (below_alloc _ _)
          · by_cases k5 : kind = 5
            · subst k5
              by_cases hb : b = []
              · subst hb
                have hsn := HSn.out
                rw [show decide (([] : List Nat) ≠ []) = false from rfl] at hsn
                by_cases hz : 4294967295 < n
                · have HE := Lib.hid (C4.out HNb.out rfl (by simp) ⟨rfl, hz⟩)
                  have hzz : (4294967295 : Int) < (n : Int) := by omega
                  clear C2 C3 C4 C5
                  go_enter Try.func77, Try.ntmps77
                  go_wp2_with fail
                  go_ret
                  exact HF.out _ 5 HE.out (below_alloc _ _)
                · have HE := Lib.hid (C5.out HNb.out rfl (by simp) (by simp; omega))
                  have hzz : ¬ (4294967295 : Int) < (n : Int) := by omega
                  clear C2 C3 C4 C5
                  go_enter Try.func77, Try.ntmps77
                  go_wp2_with fail
                  go_ret
                  exact HF.out _ 0 HE.out (below_alloc _ _)
              · have HE := Lib.hid (C3.out HNb.out rfl (.inr ⟨by decide, hb⟩))
                have hsn := HSn.out
                rw [show decide (b ≠ []) = true from by simpa using hb] at hsn
                clear C2 C3 C4 C5
                go_enter Try.func77, Try.ntmps77
                go_wp2_with fail
                go_ret
                exact HF.out _ 3 HE.out (below_alloc _ _)
            · have HE := Lib.hid (C2.out HNb.out (by unfold kdB; simp [k0, k1, k2, k5]))
              have e0 : (kind != 0) = true := by simpa using k0
              have e1 : (kind != 1) = true := by simpa using k1
              have e2 : (kind != 2) = true := by simpa using k2
              have e5 : (kind != 5) = true := by simpa using k5
              clear C2 C3 C4 C5
              go_enter Try.func77, Try.ntmps77
              go_wp2_with fail
              go_ret
              exact HF.out _ 14 HE.out (below_alloc _ _)
set_option maxRecDepth 100000 in
set_option maxHeartbeats 1000000 in
theorem rlow_any (n m : Nat) (hm : m ≤ 8) (hn : n < 18446744073709551616) (w : World) : Calls Try.prog 110 #[.int .u64 (n : Int), .int .i64 (m : Int)] w (ByPost 5 (low n m) w) := by
  have hmx : Try.prog.follows .mixedOrders = true := by kernel_rfl
  obtain ⟨i0, hi, hz0, hz1, hz2⟩ := info_parts info8
  go_enter Try.func110, Try.ntmps110
  go_wp2_with fail
  go_loopg [0, 5, 6] m (fun gk x v i wx => ∃ k : Nat, k + gk = m ∧ i = .int .i64 (k : Int) ∧ x = .int .u64 ((n / 256 ^ k : Nat) : Int) ∧ Hid (wx.ownsRow w.heap.size 5 1 v (low n k).length (kcl .u8 (low n k)) ∧ Below w.heap.size w wx))
  case atStart => exact ⟨0, by omega, rfl, by simp, Lib.hid ⟨World.ownsRow_nil _ _ _ _, Below.refl _ _⟩⟩
  case round =>
    obtain ⟨k, hkg, rfl, rfl, HS⟩ := hrel
    cases gk with
    | zero =>
      obtain rfl : k = m := by omega
      have hkz : ¬ (k : Int) < (k : Int) := by omega
      have HFi : Hid (ByPost 5 (low n k) w (.returned u5) wr) := Lib.hid ⟨_, rfl, HS.out⟩
      clear HS
      go_wp2_with fail
      go_ret
      exact HFi.out
    | succ gr =>
      have hkz : (k : Int) < (m : Int) := by omega
      have hls := low_snoc k n
      have hl1 := low_len k n
      have hdd : n / 256 ^ (k + 1) = n / 256 ^ k / 256 := by rw [Nat.pow_succ, Nat.div_div_eq_div_mul]
      have hle : n / 256 ^ k ≤ n := Nat.div_le_self _ _
      generalize hR1 : low n (k + 1) = R1 at *
      have HR1 := Lib.hid hR1
      generalize low n k = R at *
      generalize hy2 : n / 256 ^ (k + 1) = y2 at *
      have HY2 := Lib.hid hy2
      generalize n / 256 ^ k = y at *
      have x1 : (y : Int) % 256 = ((y % 256 : Nat) : Int) := by omega
      have x2 : (y : Int) / 256 = (y2 : Int) := by omega
      have hy256 : y % 256 < 256 := by omega
      generalize y % 256 = z at *
      have x3 : IntKind.u8.wrap (z : Int) = (z : Int) := IntWalk.u8_in _ (by omega)
      have HLs := Lib.hid hls
      have hRl : R.length ≤ 8 := by omega
      clear hR1 hy2 hls hl1 hdd
      have HO1 : Hid ((wr.alloc (.cells #[.int .u8 (z : Int)] 5)).ownsRow w.heap.size 5 1 u5 R.length (kcl .u8 R)) := Lib.hid (World.ownsRow.alloc (w := wr) HS.out.1 _)
      have HB1 := Lib.hid (below_after HS.out.2 (below_alloc wr (.cells #[.int .u8 (z : Int)] 5)))
      have hsz := HB1.out.size
      go_wp2_with (at_builtin; refine wpList_append_srcO rfl (.tmp 12) (.tmp 16) 62 rfl w.heap.size 5 i0 (.int .u8 0) 1 1 Try.underlying62 hi hz0 hz1 hz2 rfl (by decide) _ R.length (kcl .u8 R) rfl HO1.out _ 1 (kcl .u8 [z]) rfl (new_srcK _ _ _ _) (by rfl) (kcl_one _ _) (by unfold maxLen; omega) (by omega) hsz ?_; intro v2 w2 ho2 hg2; (have HF3 : Hid (w2.ownsRow w.heap.size 5 1 v2 R1.length (kcl .u8 R1) ∧ Below w.heap.size w w2) := Lib.hid ⟨by rw [HLs.out, kcl_app, List.length_append]; exact ho2, HB1.out.grown hg2 HB1.out.size (fun k e => (own_block HO1.out e).1)⟩); clear ho2 hg2)
      go_roundg gr
      case measure => omega
      case rel => exact ⟨k + 1, by omega, by go_num, by rw [HY2.out], by rw [HR1.out]; exact HF3⟩
end Go.Proofs.Ytcbgknlklpandaa
