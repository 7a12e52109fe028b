/- Walks of varint: the bytes of numbers; the document's. -/
import Derived.Test.YtcbgknlklpandaaVarA
import Derived.Test.YtcbgknlklpandaaPutI
import Derived.Laws.OwnMore
namespace Go.Proofs.Ytcbgknlklpandaa
open Go.RowKit Go.Sort

theorem info8 : (Try.prog.info? 5).map (fun i => (i.zero, i.size, i.bytes)) = some (some (.int .u8 0), 1, 1) := by kernel_rfl
theorem info64 : (Try.prog.info? 36).map (fun i => (i.zero, i.size, i.bytes)) = some (some (.int .u64 0), 1, 8) := by kernel_rfl
theorem kcl_one (kd : IntKind) (L : List Nat) : ∀ u ∈ kcl kd L, u.oneCell' = true := by
  intro u hu
  obtain ⟨n, _, rfl⟩ := List.mem_map.1 hu
  rfl
theorem kl_src {kd : IntKind} {W : World} {v : Value} {L : List Nat} (h : KL kd W v L) : SrcO W v L.length (kcl kd L) := by
  obtain ⟨q, c, e, _, hx⟩ := h
  refine ⟨q, c, e, fun h0 => ?_⟩
  obtain ⟨g, o, eq, _⟩ := hx 0 (by omega)
  refine ⟨g, o, eq, fun j u hj => ?_⟩
  unfold kcl at hj
  rw [List.getElem?_map] at hj
  obtain ⟨n, hn, rfl⟩ := Option.map_eq_some_iff.1 hj
  obtain ⟨hj2, rfl⟩ := List.getElem?_eq_some_iff.1 hn
  obtain ⟨g', o', e', hc⟩ := hx j hj2
  rw [eq] at e'
  injection e' with e'
  injection e' with e1 e2 _
  subst e1 e2
  rw [add_at]
  exact hc
theorem new_srcK (kd : IntKind) (W : World) (T : TypeId) (n : Nat) : SrcO (W.alloc (.cells #[.int kd (n : Int)] T)) (.slice (some ⟨W.heap.size, 0, none⟩) 1 1) 1 (kcl kd [n]) := by
  refine ⟨_, _, rfl, fun _ => ⟨_, _, rfl, fun j u hj => ?_⟩⟩
  match j, hj with
  | 0, hj => simp [kcl] at hj; subst hj; rw [add_at]; go_simp
theorem lit_own (kd : IntKind) (W : World) (T : TypeId) (n : Nat) {B : Nat} (hB : B ≤ W.heap.size) : (W.alloc (.cells #[.int kd (n : Int)] T)).ownsRow B T 1 (.slice (some ⟨W.heap.size, 0, none⟩) 1 1) 1 (kcl kd [n]) :=
  World.ownsRow_lit W #[.int kd (n : Int)] 1 hB (by unfold maxLen; omega) rfl
theorem own_keepB {W W1 : World} {B size n : Nat} {T : TypeId} {v : Value} {xs : List Value} (hb : Below W.heap.size W W1) (h : W.ownsRow B T size v n xs) : W1.ownsRow B T size v n xs := h.kept (grown_below (row := none) hb) (by
  cases hv : v.ownBlock with
  | none => exact .inl rfl
  | some k => exact .inr (by simp))
def ByPost (T : TypeId) (L : List Nat) (w : World) (e : Ending) (w' : World) : Prop := ∃ u, e = .returned u ∧ w'.ownsRow w.heap.size T 1 u L.length (kcl .u8 L) ∧ Below w.heap.size w w'
set_option maxRecDepth 100000 in
set_option maxHeartbeats 1000000 in
theorem rbytes_any : ∀ (m n : Nat), n ≤ m → n < 18446744073709551616 → ∀ w : World, Calls Try.prog 109 #[.int .u64 (n : Int)] w (ByPost 5 (nb n) w) := by
  intro m
  induction m with
  | zero =>
    intro n hm h w
    have h1 : (n : Int) < 128 := by omega
    have H := Lib.hid (nb_lo (n := n) (by omega))
    have HO := Lib.hid (lit_own .u8 w 5 n (Nat.le_refl _))
    go_enter Try.func109, Try.ntmps109
    go_wp2_with fail
    go_ret
    exact ⟨_, rfl, by rw [H.out]; exact HO.out, below_alloc _ _⟩
  | succ m ih =>
    intro n hm h w
    by_cases h1 : n < 128
    · have h1z : (n : Int) < 128 := by omega
      have H := Lib.hid (nb_lo (n := n) (by omega))
      have HO := Lib.hid (lit_own .u8 w 5 n (Nat.le_refl _))
      go_enter Try.func109, Try.ntmps109
      go_wp2_with fail
      go_ret
      exact ⟨_, rfl, by rw [H.out]; exact HO.out, below_alloc _ _⟩
    · have h1z : ¬ (n : Int) < 128 := by omega
      have H := Lib.hid (nb_hi (n := n) (by omega))
      have HI := Lib.hid (ih (n / 128) (by omega) (by omega))
      have HL := Lib.hid (nb_len10 (n := n / 128) (by omega))
      obtain ⟨i0, hi, hz0, hz1, hz2⟩ := info_parts info8
      clear ih
      go_enter Try.func109, Try.ntmps109
      have hr1 : n % 128 < 128 := by omega
      have hr : (n : Int) % 128 = ((n % 128 : Nat) : Int) := by omega
      have hq : (n : Int) / 128 = ((n / 128 : Nat) : Int) := by omega
      generalize n % 128 = r at *
      generalize n / 128 = q at *
      have x1 : IntKind.u64.wrap (128 + (r : Int)) = ((128 + r : Nat) : Int) := by rw [IntWalk.u64_in _ (by omega)]; omega
      have x2 : IntKind.u8.wrap ((128 + r : Nat) : Int) = ((128 + r : Nat) : Int) := IntWalk.u8_in _ (by omega)
      have HO := Lib.hid (lit_own .u8 w 5 (128 + r) (Nat.le_refl _))
      have HB0 := Lib.hid (below_alloc w (.cells #[.int .u8 ((128 + r : Nat) : Int)] 5))
      go_wp2_with fail
      go_at_call 109
      refine (HI.out _).mono ?_
      rintro e w1 ⟨u, rfl, ho, hb⟩
      have HO1 := Lib.hid (own_keepB hb HO.out)
      have HB1 := Lib.hid (below_after HB0.out hb)
      have HS := Lib.hid (kl_src (kl_own rfl ho))
      clear HO HB0 ho hb HI
      go_wp2_with (at_builtin; refine wpList_append_srcO rfl (.tmp 12) (.tmp 15) 62 rfl w.heap.size 5 i0 (.int .u8 0) 1 1 Try.underlying62 hi hz0 hz1 hz2 rfl (by decide) _ 1 (kcl .u8 [128 + r]) rfl HO1.out _ (nb (q)).length (kcl .u8 (nb (q))) rfl HS.out (by rw [kcl_len, Nat.mul_one]) (kcl_one _ _) (by have := HL.out; unfold maxLen; omega) (by have := HL.out; omega) HB1.out.size ?_)
      intro v2 w2 ho2 hg2
      have HF : Hid (ByPost 5 (nb n) w (.returned v2) w2) := Lib.hid ⟨v2, rfl, by rw [H.out, List.length_cons, Nat.add_comm _ 1]; exact ho2, HB1.out.grown hg2 HB1.out.size (fun k e => (own_block HO1.out e).1)⟩
      clear ho2 hg2
      go_wp2_with fail
      go_ret
      exact HF.out
theorem bys_take {l : List Nat} {i : Nat} (h : i < l.length) : bys (l.take (i + 1)) = bys (l.take i) ++ nb l[i] := by rw [List.take_succ_eq_append_getElem h, bys_snoc]
theorem or_128 : ∀ n : Fin 256, bits .or .u8 (n.val : Int) 128 = ((128 + n.val % 128 : Nat) : Int) := by decide +kernel
theorem make_run8 (n : Nat) (hn : n ≤ 1000000) (w : World) : (Instr.makeSlice 62 (.int .i64 0) (.int .i64 (n : Int))).run Try.prog w = .ok (.slice (some ⟨w.heap.size, 0, none⟩) 0 n) (w.alloc (.cells (madeCells #[.int .u8 0] n) 5)) := by
  obtain ⟨i0, hi, hz0, hz1, hz2⟩ := info_parts info8
  have h := run_make (P := Try.prog) w 62 5 i0 (.int .u8 0) Try.underlying62 hi hz0 .i64 .i64 0 (n : Int) (Int.le_refl _) (by omega) (by rw [hz2]; omega) (by omega)
  rw [hz1] at h
  simpa [Value.cells] using h
theorem made_own8 (W : World) (base n : Nat) (hb : base ≤ W.heap.size) (hn : n ≤ 1000000) : (W.alloc (.cells (madeCells #[.int .u8 0] n) 5)).ownsRow base 5 1 (.slice (some ⟨W.heap.size, 0, none⟩) 0 n) 0 [] :=
  World.ownsRow_made W _ n hb (by unfold maxLen; omega) (by rw [size_madeCells]; omega)
set_option maxRecDepth 100000 in
set_option maxHeartbeats 4000000 in
theorem bytes_any {w : World} {v : Value} {l : List Nat} (hK : KL .u64 w v l) (hl : l.length ≤ 1000) (hb : ∀ n ∈ l, n < 18446744073709551616) : Calls Try.prog 107 #[v] w (ByPost 5 (bys l) w) := by
  have hmx : Try.prog.follows .mixedOrders = true := by kernel_rfl
  obtain ⟨i0, hi, hz0, hz1, hz2⟩ := info_parts info8
  obtain ⟨q, c, rfl, _, hx⟩ := hK
  have HX := Lib.hid hx
  have HBd := Lib.hid hb
  clear hx hb
  have HLen : Hid (∀ i, i ≤ l.length → (bys (l.take i)).length ≤ 10 * i) := Lib.hid (fun i hi => by
    have := (bys_len (l.take i) (fun n hn => HBd.out n (List.mem_of_mem_take hn))).1
    rw [List.length_take, Nat.min_eq_left hi] at this
    exact this)
  go_enter Try.func107, Try.ntmps107
  go_wp2_with fail
  go_loopg [3, 11] l.length (fun gk s i wx => ∃ k : Nat, k + gk = l.length ∧ i = .int .i64 (k : Int) ∧ s = .int .i64 ((bys (l.take k)).length : Int) ∧ w = wx)
  case atStart => exact ⟨0, by omega, rfl, rfl, rfl⟩
  case round =>
    obtain ⟨k, hkg, rfl, rfl, rfl⟩ := hrel
    cases gk with
    | succ gr =>
      have hkz : (k : Int) < (l.length : Int) := by omega
      have hkl : k < l.length := by omega
      obtain ⟨g, o, rfl, hc⟩ := HX.out k hkl
      have HSz := Lib.hid (size_any l[k] w (HBd.out _ (List.getElem_mem hkl)))
      have HT : Hid (((bys (l.take (k + 1))).length : Int) = ((bys (l.take k)).length : Int) + ((nb l[k]).length : Int)) := Lib.hid (by rw [bys_take hkl, List.length_append]; omega)
      have h1 := HLen.out (k + 1) (by omega)
      have h1z : ((bys (l.take (k + 1))).length : Int) ≤ 100000 := by omega
      have xw : IntKind.i64.wrap (((bys (l.take k)).length : Int) + ((nb l[k]).length : Int)) = ((bys (l.take (k + 1))).length : Int) := by rw [← HT.out]; exact IntWalk.i64_in _ (by omega)
      generalize l[k] = n at *
      generalize (nb n).length = s at *
      generalize hT1 : (bys (l.take (k + 1))).length = t1 at *
      generalize (bys (l.take k)).length = t0 at *
      clear HT h1 h1z
      go_wp2_with (go_at_call 123; refine HSz.out.mono ?_; rintro e w1 ⟨rfl, hw⟩; subst hw)
      go_roundg gr
      case measure => omega
      case rel => exact ⟨k + 1, by omega, by go_num, by rw [hT1], rfl⟩
    | zero =>
      obtain rfl : k = l.length := by omega
      have hkz : ¬ ((l.length : Int) < (l.length : Int)) := by omega
      have h1 := HLen.out l.length (Nat.le_refl _)
      rw [List.take_length] at h1
      have hmk := make_run8 (bys l).length (by omega) w
      have HO0 : Hid ((w.alloc (.cells (madeCells #[.int .u8 0] (bys l).length) 5)).ownsRow w.heap.size 5 1 (.slice (some ⟨w.heap.size, 0, none⟩) 0 (bys l).length) 0 [] ∧ Below w.heap.size w (w.alloc (.cells (madeCells #[.int .u8 0] (bys l).length) 5))) := Lib.hid ⟨made_own8 w _ _ (Nat.le_refl _) (by omega), below_alloc _ _⟩
      have e0 : l.take l.length = l := List.take_length
      rw [e0]
      clear e0 h1
      go_wp2_with fail
      clear hmk
      generalize w.alloc (.cells (madeCells #[.int .u8 0] (bys l).length) 5) = V1 at *
      generalize hv0 : (Value.slice (some ⟨w.heap.size, 0, none⟩) 0 (bys l).length) = v0 at *
      clear hv0
      go_loopg [6, 24] l.length (fun gk v i wx => ∃ k : Nat, k + gk = l.length ∧ i = .int .i64 (k : Int) ∧ Hid (wx.ownsRow w.heap.size 5 1 v (bys (l.take k)).length (kcl .u8 (bys (l.take k))) ∧ Below w.heap.size w wx))
      case atStart => exact ⟨0, by omega, rfl, HO0⟩
      case round =>
        obtain ⟨k, hkg, rfl, HS⟩ := hrel
        clear HO0
        cases gk with
        | zero =>
          obtain rfl : k = l.length := by omega
          have hkz : ¬ ((l.length : Int) < (l.length : Int)) := by omega
          have HF : Hid (ByPost 5 (bys l) w (.returned u6) wr) := Lib.hid (by
            have h := HS.out
            rw [List.take_length] at h
            exact ⟨_, rfl, h⟩)
          clear HS
          go_wp2_with fail
          go_ret
          exact HF.out
        | succ gr =>
          have hkz : (k : Int) < (l.length : Int) := by omega
          have hkl : k < l.length := by omega
          obtain ⟨g, o, rfl, hc⟩ := HX.out k hkl
          have hc := cell_later HS.out.2 hc
          have hn := HBd.out _ (List.getElem_mem hkl)
          have h1 := HLen.out k (by omega)
          have HT := Lib.hid (bys_take hkl)
          have h10 := nb_len10 hn
          generalize l[k] = n at *
          generalize hPe : bys (l.take (k + 1)) = P1 at *
          have HPe := Lib.hid hPe
          clear hPe
          generalize bys (l.take k) = P at *
          have hP : P.length ≤ 10000 := by omega
          clear h1
          go_wp2_with fail
          go_loopg [6, 8] n (fun gk v x wx => ∃ (m : Nat) (pre : List Nat), m ≤ gk ∧ m ≤ n ∧ x = .int .u64 (m : Int) ∧ pre.length ≤ 10 ∧ Hid (pre ++ nb m = nb n) ∧ Hid (wx.ownsRow w.heap.size 5 1 v (P ++ pre).length (kcl .u8 (P ++ pre)) ∧ Below w.heap.size w wx))
          case atStart => exact ⟨n, [], Nat.le_refl _, Nat.le_refl _, rfl, Nat.zero_le _, Lib.hid rfl, by rw [List.append_nil]; exact HS⟩
          case round =>
            obtain ⟨m, pre, hm, hmn, rfl, hp, HE, HS2⟩ := hrel
            clear HS hc
            have hlen : (P ++ pre).length ≤ 10010 := by rw [List.length_append]; omega
            by_cases h128 : m < 128
            · have hz : ¬ (128 : Int) ≤ (m : Int) := by omega
              have hz2' : (m : Int) < 128 := by omega
              have xw : IntKind.u8.wrap (m : Int) = (m : Int) := IntWalk.u8_in _ (by omega)
              have HO1 : Hid ((wr.alloc (.cells #[.int .u8 (m : Int)] 5)).ownsRow w.heap.size 5 1 u6 (P ++ pre).length (kcl .u8 (P ++ pre))) := Lib.hid (World.ownsRow.alloc (w := wr) HS2.out.1 _)
              have HB1 := Lib.hid (below_after HS2.out.2 (below_alloc wr (.cells #[.int .u8 (m : Int)] 5)))
              have hsz := HB1.out.size
              have HP1 : Hid (P1 = (P ++ pre) ++ [m]) := Lib.hid (by rw [HT.out, ← HE.out, nb_lo h128, List.append_assoc])
              go_wp2_with (at_builtin; refine wpList_append_srcO rfl (.tmp 38) (.tmp 41) 62 rfl w.heap.size 5 i0 (.int .u8 0) 1 1 Try.underlying62 hi hz0 hz1 hz2 rfl (by decide) _ (P ++ pre).length (kcl .u8 (P ++ pre)) rfl HO1.out _ 1 (kcl .u8 [m]) rfl (new_srcK _ _ _ _) (by rfl) (kcl_one _ _) (by unfold maxLen; omega) (by omega) hsz ?_)
              intro v2 w2 ho2 hg2
              have HF : Hid (w2.ownsRow w.heap.size 5 1 v2 P1.length (kcl .u8 P1) ∧ Below w.heap.size w w2) := Lib.hid ⟨by rw [HP1.out, kcl_app, List.length_append, List.length_append]; exact ho2, HB1.out.grown hg2 HB1.out.size (fun k e => (own_block HO1.out e).1)⟩
              clear ho2 hg2 HO1 HB1
              go_wp2_with fail
              go_roundg gr
              case measure => omega
              case rel => exact ⟨k + 1, by omega, by go_num, by rw [HPe.out]; exact HF⟩
            · cases gk with
              | zero => omega
              | succ gm =>
                have hz : (128 : Int) ≤ (m : Int) := by omega
                have hz2' : ¬ (m : Int) < 128 := by omega
                have xw : IntKind.u8.wrap (m : Int) = ((m % 256 : Nat) : Int) := by rw [IntKind.wrap_u8]; omega
                have xo : bits .or .u8 ((m % 256 : Nat) : Int) 128 = ((128 + m % 128 : Nat) : Int) := by have := or_128 ⟨m % 256, by omega⟩; rw [this]; congr 2; simp
                have xq : (m : Int) / 128 = ((m / 128 : Nat) : Int) := by omega
                have HE2 : Hid ((pre ++ [128 + m % 128]) ++ nb (m / 128) = nb n) := Lib.hid (by rw [← HE.out, nb_hi (n := m) (by omega), List.append_assoc]; rfl)
                have hp2 : (pre ++ [128 + m % 128]).length ≤ 10 := by
                  have e := congrArg List.length HE2.out
                  rw [List.length_append] at e
                  have := nb_pos (m / 128)
                  omega
                have hm2 : m / 128 ≤ gm := by omega
                have hm3 : m / 128 ≤ n := by omega
                generalize m / 128 = m2 at *
                generalize m % 256 = r256 at *
                generalize 128 + m % 128 = r at *
                have HO1 : Hid ((wr.alloc (.cells #[.int .u8 (r : Int)] 5)).ownsRow w.heap.size 5 1 u6 (P ++ pre).length (kcl .u8 (P ++ pre))) := Lib.hid (World.ownsRow.alloc (w := wr) HS2.out.1 _)
                have HB1 := Lib.hid (below_after HS2.out.2 (below_alloc wr (.cells #[.int .u8 (r : Int)] 5)))
                have hsz := HB1.out.size
                clear HE HS2
                go_wp2_with (at_builtin; refine wpList_append_srcO rfl (.tmp 32) (.tmp 36) 62 rfl w.heap.size 5 i0 (.int .u8 0) 1 1 Try.underlying62 hi hz0 hz1 hz2 rfl (by decide) _ (P ++ pre).length (kcl .u8 (P ++ pre)) rfl HO1.out _ 1 (kcl .u8 [r]) rfl (new_srcK _ _ _ _) (by rfl) (kcl_one _ _) (by unfold maxLen; omega) (by omega) hsz ?_)
                intro v2 w2 ho2 hg2
                have HF : Hid (w2.ownsRow w.heap.size 5 1 v2 (P ++ (pre ++ [r])).length (kcl .u8 (P ++ (pre ++ [r]))) ∧ Below w.heap.size w w2) := Lib.hid ⟨by rw [← List.append_assoc, kcl_app, List.length_append, List.length_append]; exact ho2, HB1.out.grown hg2 HB1.out.size (fun k e => (own_block HO1.out e).1)⟩
                clear ho2 hg2 HO1 HB1
                go_wp2_with fail
                go_roundg gm
                case measure => omega
                case rel => exact ⟨m2, pre ++ [r], hm2, hm3, rfl, hp2, HE2, HF⟩
end Go.Proofs.Ytcbgknlklpandaa
