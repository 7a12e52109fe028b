/- Fields as the document's: texts of bytes. -/
import Derived.Test.YtcbgknlklpandaaProK
import Derived.Laws.BytesArg
import Derived.Lib.ConvBytes
namespace Go.Proofs.Ytcbgknlklpandaa
open Go.RowKit Go.Sort

/-- Bytes as a text. -/
def bst (b : List Nat) : ByteArray := strOfNums (b.map (fun n : Nat => (n : Int)))
theorem bst_size (b : List Nat) : (bst b).size = b.length := by unfold bst; rw [strOfNums_size, List.length_map]
theorem bst_data (b : List Nat) : (bst b).data.toList = b.map UInt8.ofNat := by
  unfold bst
  rw [strOfNums_data, List.map_map]
  congr 1
theorem bst_inj {a b : List Nat} (ha : ∀ x ∈ a, x < 256) (hb : ∀ x ∈ b, x < 256) (h : bst a = bst b) : a = b := by
  have e : a.map UInt8.ofNat = b.map UInt8.ofNat := by rw [← bst_data, ← bst_data, h]
  have e2 := congrArg (List.map UInt8.toNat) e
  rw [List.map_map, List.map_map] at e2
  have k : ∀ l : List Nat, (∀ x ∈ l, x < 256) → l.map (UInt8.toNat ∘ UInt8.ofNat) = l := fun l hl => by
    induction l with
    | nil => rfl
    | cons x t ih =>
      rw [List.map_cons, ih (fun y hy => hl y (List.mem_cons_of_mem _ hy))]
      congr 1
      have := hl x List.mem_cons_self
      simp only [Function.comp, UInt8.toNat_ofNat']
      omega
  rw [k a ha, k b hb] at e2
  exact e2
theorem conv_bst {W : World} {v : Value} {b : List Nat} (h : KL .u8 W v b) : (convert 62 9 v).run Try.prog W = .ok (.string (bst b)) W := by
  obtain ⟨q, c, rfl, _, hx⟩ := h
  by_cases h0 : 0 < b.length
  · obtain ⟨g, o, rfl, _⟩ := hx 0 h0
    exact run_convert_bytes_arg (P := Try.prog) W 62 5 Try.underlying62 Try.underlying5 g o b.length c (b.map (fun n : Nat => (n : Int))) (by simp) (fun i hi => by
      obtain ⟨g', o', e, hc⟩ := hx i hi
      injection e with e
      injection e with e1 e2 _
      subst e1 e2
      rw [hc, List.getD_eq_getElem?_getD, List.getElem?_map, List.getElem?_eq_getElem hi]
      rfl) 9 Try.underlying9
  · have hb : b = [] := List.eq_nil_of_length_eq_zero (by omega)
    subst hb
    cases q with
    | none => exact run_convert_bytes_nil (P := Try.prog) W 62 5 Try.underlying62 Try.underlying5 0 c 9 Try.underlying9
    | some a => 
      obtain ⟨g, o, s⟩ := a
      rw [run_convert_bytes_string W 62 9 5 (some ⟨g, o, s⟩) ([] : List Nat).length c Try.underlying62 Try.underlying5 Try.underlying9]
      rw [run_bytesToString W ⟨g, o, s⟩ ([] : List Nat).length c [] (by
        have := run_loadCells_list (P := Try.prog) W ⟨g, o, s⟩ [] (fun j v hj => by simp at hj)
        simpa using this)]
      rfl
/-- []byte of a text. -/
theorem conv_tsb (W : World) (b : List Nat) : (convert 9 62 (.string (bst b))).run Try.prog W = .ok (.slice (some ⟨W.heap.size, 0, none⟩) b.length (grownCap W b.length 0 5)) (Lib.bytesWorld W 5 (bst b)) := by
  have h := Lib.run_convert_string_bytes (P := Try.prog) W 9 62 5 (bst b) Try.underlying9 Try.underlying62 Try.underlying5
  rw [bst_size] at h
  exact h
theorem tsb_below (W : World) (s : ByteArray) : Below W.heap.size W (Lib.bytesWorld W 5 s) :=
  ⟨rfl, rfl, rfl, by rw [Lib.bytesWorld_size]; omega, fun k hk => Lib.bytesWorld_at_old W _ s k hk⟩
theorem tsb_src (W : World) (b : List Nat) (hb : ∀ x ∈ b, x < 256) (c : Nat) : SrcO (Lib.bytesWorld W 5 (bst b)) (.slice (some ⟨W.heap.size, 0, none⟩) b.length c) b.length (kcl .u8 b) := by
  refine ⟨_, _, rfl, fun _ => ⟨_, _, rfl, fun j u hj => ?_⟩⟩
  unfold kcl at hj
  rw [List.getElem?_map] at hj
  obtain ⟨n, hn, rfl⟩ := Option.map_eq_some_iff.1 hj
  obtain ⟨hj2, rfl⟩ := List.getElem?_eq_some_iff.1 hn
  have h := Lib.bytesWorld_cell W 5 (bst b) j (by rw [bst_size]; exact hj2)
  rw [add_at, Nat.zero_add, h, bst_data, List.getD_eq_getElem?_getD, List.getElem?_map, List.getElem?_eq_getElem hj2]
  have := hb _ (List.getElem_mem hj2)
  simp
  omega
def OfPost (f : Fd) (w : World) (e : Ending) (w' : World) : Prop := e = .returned (.agg #[.int .i64 f.num, .int .i64 f.kind, .int .u64 (f.n : Int), .string (bst f.b)]) ∧ Below w.heap.size w w'
set_option maxRecDepth 100000 in
set_option maxHeartbeats 1000000 in
theorem lof_any {w : World} {f : Fd} {q : Option Addr} {c : Nat} (hK : KL .u8 w (.slice q f.b.length c) f.b) : Calls Try.prog 42 #[.agg #[.int .i64 f.num, .int .i64 f.kind, .int .u64 (f.n : Int), .slice q f.b.length c]] w (OfPost f w) := by
  have hmx : Try.prog.follows .mixedOrders = true := by kernel_rfl
  have hcv := conv_bst (hK.keep (below_after (below_alloc w (.cells #[.int .i64 f.num, .int .i64 f.kind, .int .u64 (f.n : Int), .slice q f.b.length c] 77)) (below_alloc _ (.cells #[.int .i64 0, .int .i64 0, .int .u64 0, .string ⟨#[]⟩] 81))))
  go_enter Try.func42, Try.ntmps42
  go_wp2_with fail
  refine bodyPost_ret (v := .agg #[.int .i64 f.num, .int .i64 f.kind, .int .u64 (f.n : Int), .string (bst f.b)]) (by simp [results, Try.results42, go_sem]) rfl ?_
  exact ⟨rfl, below_after (below_alloc _ _) (below_alloc _ _)⟩
end Go.Proofs.Ytcbgknlklpandaa
