/- Layer 7: the chapter's examples; the law VarintBytes. -/
import Derived.Test.YtenfaejdnphngaaVarU
namespace Go.Proofs.Ytenfaejdnphngaa
open Go.RowKit Go.Sort

theorem kl_lit (kd : IntKind) (W : World) (T : TypeId) (L : List Nat) {cs : Array Value} (hc : cs.toList = kcl kd L) (hl : L.length ≤ 1000) {n : Nat} (hn : n = L.length) : KL kd (W.alloc (.cells cs T)) (.slice (some ⟨W.heap.size, 0, none⟩) n n) L := by
  subst hn
  have hs : cs.size = L.length * 1 := by rw [← Array.length_toList, hc, kcl_len, Nat.mul_one]
  have h := World.ownsRow_lit (base := W.heap.size) (e := T) W cs L.length (Nat.le_refl _) (by unfold maxLen; omega) hs
  rw [hc] at h
  exact kl_own rfl h
set_option maxRecDepth 100000 in
set_option maxHeartbeats 1000000 in
theorem known7_yes (w : World) : Calls Try.prog 32 #[] w fun e w' => e = .returned (.bool true) ∧ Below w.heap.size w w' := by
  have hmx : Try.prog.follows .mixedOrders = true := by kernel_rfl
  have e1 : rd [128, 0] = (0, 0, 3) := by decide
  have e2 : bys [1, 300] = [1, 172, 2] := by
    unfold bys
    simp only [List.flatMap_cons, List.flatMap_nil, List.append_nil]
    rw [nb_lo (by omega), nb_hi (by omega), nb_lo (by omega)]; rfl
  have e3 : zigV (-3) = 5 := by decide
  have HR : Hid (Calls Try.prog 39 #[.slice (some ⟨w.heap.size, 0, none⟩) 2 2] (w.alloc (.cells #[.int .u8 128, .int .u8 0] 5)) (fun e w' => e = .returned (.tuple #[.int .u64 0, .int .i64 0, .int .i64 3]) ∧ Below w.heap.size w w')) := Lib.hid (by
    have h := rd_any (kl_lit .u8 w 5 [128, 0] (cs := #[.int .u8 128, .int .u8 0]) rfl (by decide) (n := 2) rfl) (by decide) (by decide)
    refine h.mono ?_
    rintro e w' ⟨h1, h2⟩
    rw [e1] at h1
    exact ⟨h1, below_after (below_alloc _ _) h2⟩)
  have HB : Hid (∀ V : World, Calls Try.prog 30 #[.slice (some ⟨V.heap.size, 0, none⟩) 2 2] (V.alloc (.cells #[.int .u64 1, .int .u64 300] 43)) (fun e w' => ∃ u, e = .returned u ∧ KL .u8 w' u [1, 172, 2] ∧ Below V.heap.size V w')) := Lib.hid (fun V => by
    have h := bytes_any (kl_lit .u64 V 43 [1, 300] (cs := #[.int .u64 1, .int .u64 300]) rfl (by decide) (n := 2) rfl) (by decide) (by decide)
    refine h.mono ?_
    rintro e w' ⟨u, h1, h2, h3⟩
    rw [e2] at h2
    exact ⟨u, h1, kl_own rfl h2, below_after (below_alloc _ _) h3⟩)
  have HL := Lib.hid (fun V : World => kl_lit .u8 V 5 [1, 172, 2] (cs := #[.int .u8 1, .int .u8 172, .int .u8 2]) rfl (by decide) (n := 3) rfl)
  have HZ := Lib.hid (fun V => zig_any (-3) V (by omega) (by omega))
  rw [e3] at HZ
  clear e1 e2 e3
  go_enter Try.func32, Try.ntmps32
  go_wp2_with (first
    | (go_at_call 39; refine HR.out.mono ?_; rintro e w1 ⟨rfl, hb1⟩; have HB1 := Lib.hid hb1; clear hb1)
    | (go_at_call 30; refine (HB.out _).mono ?_; rintro e w2 ⟨u, rfl, hk, hb2⟩; have HK := Lib.hid hk; have HB2 := Lib.hid (below_after HB1.out hb2); obtain ⟨qu, cu, rfl, _⟩ := hk; clear hb2)
    | (go_at_call 33; refine (rsame_any (HK.out.keep (below_alloc _ _)) (HL.out w2) (by decide)).mono ?_; rintro e w3 ⟨rfl, hb3⟩; have HB3 := Lib.hid (below_after (below_after HB2.out (below_alloc _ _)) hb3); clear hb3)
    | (go_at_call 35; refine (HZ.out _).mono ?_; rintro e w4 ⟨rfl, hw4⟩; subst hw4))
  go_ret
  exact ⟨by simp, HB3.out⟩
end Go.Proofs.Ytenfaejdnphngaa
