/- Walks of proto: Same. -/
import Derived.Test.YtcbgknlklpandaaProP
namespace Go.Proofs.Ytcbgknlklpandaa
open Go.RowKit Go.Sort

def SamePost (L M : List Fd) (w : World) (e : Ending) (w' : World) : Prop := ∃ r : Bool, e = .returned (.bool r) ∧ (r = true ↔ L = M) ∧ Below w.heap.size w w'
theorem take_same {L M : List Fd} {k : Nat} (h : L.take k = M.take k) (hk : k < L.length) (hm : k < M.length) (he : L[k] = M[k]) : L.take (k + 1) = M.take (k + 1) := by
  rw [List.take_succ_eq_append_getElem hk, List.take_succ_eq_append_getElem hm, h, he]
def FB (L : List Fd) : Prop := ∀ f ∈ L, ∀ x ∈ f.b, x < 256
set_option maxRecDepth 100000 in
set_option maxHeartbeats 4000000 in
theorem pequal_any {w : World} {va vb : Value} {L M : List Fd} (hl : L.length ≤ 1000) (hF : FL w va L) (hG : FL w vb M) (hL : FB L) (hM : FB M) : Calls Try.prog 81 #[va, vb, .func (.func 82) #[] #[]] w (SamePost L M w) := by
  have hmx : Try.prog.follows .mixedOrders = true := by kernel_rfl
  have hE : ∀ (args : Array Value) (w : World), (callFunc 82 args).run Try.prog w = .ok (.enter 82 args) w := fun args W => by first | rfl | simp [callFunc]
  obtain ⟨q, c, rfl, hlc, hx⟩ := hF
  obtain ⟨q', c', rfl, hlc', hx'⟩ := hG
  have HX := Lib.hid hx
  have HX' := Lib.hid hx'
  clear hx hx'
  by_cases hlen : L.length = M.length
  · have hz : ¬ ((L.length : Int) ≠ (M.length : Int)) := by omega
    have hz2 : ((L.length : Int) == (M.length : Int)) = true := by simp; omega
    have hz3 : ((L.length : Int) != (M.length : Int)) = false := by simp; omega
    have HLn := Lib.hid hlen
    have hle : L.length ≤ M.length := by omega
    have hge : M.length ≤ L.length := by omega
    clear hlen hz
    go_enter Try.func81, Try.ntmps81
    go_wp2_with fail
    clear hz2 hz3
    go_loopg [17] L.length (fun gk i wx => ∃ k : Nat, k + gk = L.length ∧ i = .int .i64 (k : Int) ∧ Hid (L.take k = M.take k) ∧ Hid (Below w.heap.size w wx))
    case atStart => exact ⟨0, by omega, rfl, Lib.hid rfl, Lib.hid (Below.refl _ _)⟩
    case round =>
      obtain ⟨k, hkg, rfl, HE, HS⟩ := hrel
      cases gk with
      | zero =>
        obtain rfl : k = L.length := by omega
        have hkz : ¬ (L.length : Int) < (L.length : Int) := by omega
        have HR : Hid (L = M) := Lib.hid (by have h := HE.out; rw [List.take_length, HLn.out, List.take_length] at h; exact h)
        go_wp2_with fail
        go_ret
        exact ⟨true, rfl, ⟨fun _ => HR.out, fun _ => rfl⟩, HS.out⟩
      | succ gr =>
        have hkz : (k : Int) < (L.length : Int) := by omega
        have hkl : k < L.length := by omega
        have hkm : k < M.length := by omega
        have hkz2 : (k : Int) < (M.length : Int) := by omega
        obtain ⟨g, o, qb, cb, rfl, c0, c1, c2, c3, hk⟩ := HX.out k hkl
        obtain ⟨g', o', qb', cb', rfl, d0, d1, d2, d3, hk'⟩ := HX'.out k hkm
        have HC := Lib.hid (fun V (hV : Below w.heap.size w V) => psame1_any (f := L[k]) (g := M[k]) (hk.keep hV) (hk'.keep hV) (hL _ (List.getElem_mem hkl)) (hM _ (List.getElem_mem hkm)))
        have HT := Lib.hid (fun h => take_same HE.out hkl hkm h)
        have HN : Hid (L[k] ≠ M[k] → L ≠ M) := Lib.hid (fun h e => by subst e; exact h rfl)
        have c0 := cell_later HS.out c0
        have c1 := cell_later HS.out c1
        have c2 := cell_later HS.out c2
        have c3 := cell_later HS.out c3
        generalize L[k] = f at *
        generalize M[k] = h at *
        have HB1 := Lib.hid (below_after HS.out (below_alloc wr (.cells #[.int .i64 f.num, .int .i64 f.kind, .int .u64 (f.n : Int), .slice qb f.b.length cb] 77)))
        have d0 := cell_later HB1.out d0
        have d1 := cell_later HB1.out d1
        have d2 := cell_later HB1.out d2
        have d3 := cell_later HB1.out d3
        have HB2 := Lib.hid (below_after HB1.out (below_alloc _ (.cells #[.int .i64 h.num, .int .i64 h.kind, .int .u64 (h.n : Int), .slice qb' h.b.length cb'] 77)))
        have HCc := Lib.hid (HC.out _ HB2.out)
        unfold EqPost at HCc
        have HQ : Hid (eqFd f h = true ↔ f = h) := Lib.hid eqFd_iff
        cases hr : eqFd f h
        · have HNe : Hid (L ≠ M) := Lib.hid (HN.out (fun e => by have := HQ.out.2 e; rw [hr] at this; cases this))
          rw [hr] at HCc
          clear hr HQ HT HN HC
          go_wp2_with (go_at_call 82; refine HCc.out.mono ?_; rintro en w1 ⟨rfl, hb1⟩; have HB3 := Lib.hid (below_after HB2.out hb1); clear hb1)
          go_ret
          exact ⟨false, rfl, ⟨(fun h => by cases h), fun h => absurd h HNe.out⟩, HB3.out⟩
        · have HT1 := Lib.hid (HT.out (HQ.out.1 hr))
          rw [hr] at HCc
          clear hr HQ HT HN HC
          go_wp2_with (go_at_call 82; refine HCc.out.mono ?_; rintro en w1 ⟨rfl, hb1⟩; have HB3 := Lib.hid (below_after HB2.out hb1); clear hb1)
          go_roundg gr
          case measure => omega
          case rel => exact ⟨k + 1, (by rw [Nat.add_assoc, Nat.add_comm 1 gr]; exact hkg), by go_num, HT1, HB3⟩
  · have hz2 : ((L.length : Int) != (M.length : Int)) = true := by simp; omega
    have hz3 : ((L.length : Int) == (M.length : Int)) = false := by simp; omega
    have HN : Hid (L ≠ M) := Lib.hid (fun e => hlen (by rw [e]))
    go_enter Try.func81, Try.ntmps81
    go_wp2_with fail
    go_ret
    exact ⟨false, rfl, ⟨(fun h => by cases h), fun h => absurd h HN.out⟩, Below.refl _ _⟩
set_option maxRecDepth 100000 in
theorem psame_any {w : World} {va vb : Value} {L M : List Fd} (hl : L.length ≤ 1000) (hF : FL w va L) (hG : FL w vb M) (hL : FB L) (hM : FB M) : Calls Try.prog 38 #[va, vb] w (SamePost L M w) := by
  have HC := Lib.hid (pequal_any hl hF hG hL hM)
  unfold SamePost at HC
  obtain ⟨q, c, rfl, _, _⟩ := hF
  obtain ⟨q', c', rfl, _, _⟩ := hG
  go_enter Try.func38, Try.ntmps38
  go_wp2_with (go_at_call 81; refine HC.out.mono ?_; rintro en w1 ⟨r, rfl, hr, hb1⟩; have HR := Lib.hid hr; have HB := Lib.hid hb1; clear hr hb1)
  go_ret
  exact ⟨r, rfl, HR.out, HB.out⟩
theorem equal_FD (a b : Fd) (w : World) : (Op.equalIn 10000 81 (.agg #[.int .i64 a.num, .int .i64 a.kind, .int .u64 (a.n : Int), .string (bst a.b)]) (.agg #[.int .i64 b.num, .int .i64 b.kind, .int .u64 (b.n : Int), .string (bst b.b)])).run Try.prog w = .ok (a.num == b.num && a.kind == b.kind && a.n == b.n && ((bst a.b).toList == (bst b.b).toList)) w := by
  have hS : Try.prog.underlying 81 = some (.struct (Try.prog.fieldsOf 81)) := by kernel_rfl
  have hp : Try.prog.stoodInHeld 81 = false := by kernel_rfl
  rw [show (10000 : Nat) = 9999 + 1 from rfl, run_equalIn_agg w 9999 81 _ _ hS hp]
  simp only [Program.fieldsOf, Try.underlying81]
  obtain ⟨a1, a2, a3, a4⟩ := a
  obtain ⟨b1, b2, b3, b4⟩ := b
  go_simp
  by_cases h1 : a1 = b1 <;> by_cases h2 : a2 = b2 <;> by_cases h3 : a3 = b3 <;> by_cases h4 : (bst a4).toList = (bst b4).toList <;> simp [h1, h2, h3, h4, Int.ofNat_inj]
end Go.Proofs.Ytcbgknlklpandaa
