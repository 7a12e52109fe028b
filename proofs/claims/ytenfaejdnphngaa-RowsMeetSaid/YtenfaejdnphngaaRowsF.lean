/- Walks of the index: what Find does with a number. -/
import Derived.Test.YtenfaejdnphngaaRowsMe
namespace Go.Proofs.Ytenfaejdnphngaa
open Go.RowKit

/-- What is found so far. -/
structure FnJ (W0 : World) (kf : Nat) (N : Nat → Prop) (U : List Nat) (V : World) : Prop where
  k : W0.heap.size ≤ kf
  bl : Below W0.heap.size W0 V
  fz : V.frozen? ⟨kf, 0, none⟩ = false
  n : ∀ k, N k → k < V.heap.size ∧ k ≠ kf
  st : ∃ va, V.cell? ⟨kf, 0, none⟩ = some va ∧ V.ownsRow W0.heap.size 3 1 va U.length (nCells U) ∧ va.ownBlock ≠ some kf ∧ ∀ k, N k → va.ownBlock ≠ some k
theorem FnJ.new {W0 V V1 : World} {kf : Nat} {N N' : Nat → Prop} {U : List Nat} (h : FnJ W0 kf N U V) (hb : Below V.heap.size V V1) (hN : ∀ k, N' k → N k ∨ (V.heap.size ≤ k ∧ k < V1.heap.size)) : FnJ W0 kf N' U V1 := by
  obtain ⟨va, c, o, h1, h2⟩ := h.st
  have hk := World.block_lt_of_cell? V _ c
  have hs := h.bl.size
  refine ⟨h.k, h.bl.trans (hb.mono hs), (hb.frozen (p := ⟨kf, 0, none⟩) hk).trans h.fz, fun k hk' => ?_, va, cell_later hb c, own_blk o (fun k hk => hb.block k (own_block o hk).2), h1, fun k hk' e => ?_⟩
  · rcases hN k hk' with a | a
    · exact ⟨Nat.lt_of_lt_of_le (h.n k a).1 hb.size, (h.n k a).2⟩
    · exact ⟨a.2, by have : kf < V.heap.size := hk; omega⟩
  · rcases hN k hk' with a | a
    · exact h2 k a e
    · have := (own_block o e).2; omega
/-- A number more. -/
theorem FnJ.more {W0 V W1 : World} {kf : Nat} {N : Nat → Prop} {U : List Nat} {va v2 : Value} {n : Nat} (h : FnJ W0 kf N U V) (hc : V.cell? ⟨kf, 0, none⟩ = some va) (hg : V.grownBy W1 va.ownBlock) (ho : W1.ownsRow W0.heap.size 3 1 v2 (U.length + 1) (nCells U ++ [.int .i64 (n : Int)])) (hv : v2.ownBlock = va.ownBlock ∨ v2.ownBlock = some V.heap.size) :
    (W1.cell? ⟨kf, 0, none⟩ = some va ∧ W1.frozen? ⟨kf, 0, none⟩ = false) ∧ FnJ W0 kf N (U ++ [n]) (W1.setCell ⟨kf, 0, none⟩ v2) ∧ ∀ k, N k → (W1.setCell ⟨kf, 0, none⟩ v2).heap[k]? = V.heap[k]? := by
  obtain ⟨va', c, o, h1, h2⟩ := h.st
  obtain rfl : va = va' := by rw [c] at hc; injection hc with e; exact e.symm
  have hk : kf < V.heap.size := World.block_lt_of_cell? V _ c
  have hs := h.bl.size
  have hkb : W1.heap[kf]? = V.heap[kf]? := hg.block kf hk (fun e => h1 e.symm)
  have c1 : W1.cell? ⟨kf, 0, none⟩ = some va := (World.cell?_of_block hkb).trans c
  have f1 : W1.frozen? ⟨kf, 0, none⟩ = false := (World.frozen?_of_block hkb).trans h.fz
  have hn2 : v2.ownBlock ≠ some kf := fun e => by
    rcases hv with a | a
    · exact h1 (a ▸ e)
    · rw [a] at e; injection e with e; omega
  have hset : ∀ j, j ≠ kf → (W1.setCell ⟨kf, 0, none⟩ v2).heap[j]? = W1.heap[j]? := fun j hj => Below.heap_setCell W1 _ v2 j hj
  have hkn : ∀ k, N k → (W1.setCell ⟨kf, 0, none⟩ v2).heap[k]? = V.heap[k]? := fun k hk' => (hset k (h.n k hk').2).trans (hg.block k (h.n k hk').1 (fun e => h2 k hk' e.symm))
  refine ⟨⟨c1, f1⟩, ⟨h.k, (h.bl.grown hg hs (fun k e => (own_block o e).1)).setCell h.k _, ?_, fun k hk' => ⟨?_, (h.n k hk').2⟩, v2, World.cell?_setCell_same _ _ _ c1, ?_, hn2, fun k hk' e => ?_⟩, hkn⟩
  · rw [show (W1.setCell ⟨kf, 0, none⟩ v2).frozen? ⟨kf, 0, none⟩ = W1.frozen? ⟨kf, 0, none⟩ from by simp]
    exact f1
  · rw [World.size_setCell]; exact Nat.lt_of_lt_of_le (h.n k hk').1 hg.size
  · rw [nCells_app, List.length_append, List.length_singleton]
    exact own_blk ho (fun k hk' => hset k (fun e => hn2 (e ▸ hk')))
  · rcases hv with a | a
    · exact h2 k hk' (a ▸ e)
    · rw [a] at e; injection e with e
      have := (h.n k hk').1
      omega
theorem wpList_append_at {P : Program} {w : World} {ops : Array Oper} {rest : List Oper} {o : Oper} {a : Act} {Q : Exit → Act → World → Prop} (hgd : o.guard = none) (s x : Operand) (t : TypeId)
    (ho : o.op = .call { callee := .builtin .append, args := #[s, x], argTypes := #[t, t] })
    (base : Nat) (e : TypeId) (i : TypeInfo) (z : Value) (size bytes : Nat) (ht : P.underlying t = some (.slice e)) (hi : P.info? e = some i) (hz : i.zero = some z)
    (hsize : i.size = size) (hby : i.bytes = bytes) (hzs : z.cells.size = size) (hsz : 0 < size) (v : Value) (n : Nat) (xs : List Value) (hs : a.eval s = v) (hown : w.ownsRow base e size v n xs) (ad : Addr) (m c : Nat) (ys : List Value) (hx : a.eval x = .slice (some ad) m c) (hl : ys.length = m * size) (hnews : ∀ j u, ys[j]? = some u → w.cell? (ad.add j) = some u) (h1 : ∀ u ∈ ys, u.oneCell' = true)
    (h63 : n + m ≤ maxLen) (hbytes : (n + m) * bytes ≤ 140737488355328) (hbase : base ≤ w.heap.size)
    (h : ∀ v' w', w'.ownsRow base e size v' (n + m) (xs ++ ys) → w.grownBy w' v.ownBlock → (v'.ownBlock = v.ownBlock ∨ v'.ownBlock = some w.heap.size) → wpList P ops Q rest (a.put o.dst v') w') :
    wpList P ops Q (o :: rest) a w :=
  wpList_plain hgd fun K hK => by
    have h2 := step_append_at (P := P) (ops := ops) (K := K) (Q := Q) (E := True) hgd s x t ho base e i z size bytes ht hi hz hsize hby hzs hsz v n xs hs hown ad m c ys hx hl hnews h1 h63 hbytes hbase (fun v' w' a1 a2 a3 => hK _ _ (h v' w' a1 a2 a3))
    have hw : Region.wanted o (yielded ops a.tmps) = true := by simp [Region.wanted, hgd]
    rwa [if_pos hw] at h2
set_option maxRecDepth 100000 in
set_option maxHeartbeats 2000000 in
theorem find1_any {W0 V : World} {kf : Nat} {N : Nat → Prop} {U : List Nat} (i : Nat) (hU : U.length ≤ 100000) (h : FnJ W0 kf N U V) :
    Calls Try.prog 55 #[.int .i64 (i : Int), .pointer (some ⟨kf, 0, none⟩)] V (MaPost (FnJ W0 kf) N (U ++ [i]) V) := by
  obtain ⟨iI, hiI, hI0, hI1, hI2⟩ := info_parts infoIn
  obtain ⟨va, c, o, h1, h2⟩ := h.st
  have HU := Lib.hid (h.new (below_alloc V (.cells #[.int .i64 (i : Int)] 3)) (fun k hk => .inl hk))
  have cU := cell_later (below_alloc V (.cells #[.int .i64 (i : Int)] 3)) c
  have HO : Hid ((V.alloc (.cells #[.int .i64 (i : Int)] 3)).ownsRow W0.heap.size 3 1 va U.length (nCells U)) := Lib.hid (World.ownsRow.alloc (w := V) o _)
  have hs : W0.heap.size ≤ (V.alloc (.cells #[.int .i64 (i : Int)] 3)).heap.size := by have := h.bl.size; simp; omega
  have HSr := Lib.hid (fun k hk => (below_alloc V (.cells #[.int .i64 (i : Int)] 3)).block k (h.n k hk).1)
  clear h1 h2 o
  go_enter Try.func55, Try.ntmps55
  go_wp2_with (at_builtin; refine wpList_append_at rfl (.tmp 3) (.tmp 5) 48 rfl W0.heap.size 3 iI (.int .i64 0) 1 8 Try.underlying48 hiI hI0 hI1 hI2 rfl (by decide) va U.length (nCells U) rfl HO.out ⟨V.heap.size, 0, none⟩ 1 1 [.int .i64 (i : Int)] rfl rfl (Go.cell_one_new _ _ _) (by intro u hu; rw [List.mem_singleton] at hu; subst hu; rfl) (by unfold maxLen; omega) (by omega) hs ?_)
  intro v2 wB hoB hgB hvB
  obtain ⟨⟨x0, x1⟩, hJ, hk⟩ := HU.out.more cU hgB hoB (by simpa using hvB)
  have HJ := Lib.hid hJ
  have HK : Hid (∀ k, N k → (wB.setCell ⟨kf, 0, none⟩ v2).heap[k]? = V.heap[k]?) := Lib.hid (fun k h => (hk k h).trans (HSr.out k h))
  obtain ⟨g2, cp2, rfl⟩ := own_form1 hoB
  clear hoB hgB hvB hJ hk
  go_wp2_with fail
  go_end0
  exact ⟨rfl, HJ.out, HK.out⟩
theorem find1_use (W0 : World) (kf : Nat) : UseC 1000 55 #[.pointer (some ⟨kf, 0, none⟩)] (FnJ W0 kf) where
  ent := enters_of Try.func55 (by kernel_rfl) rfl
  new := fun h hb hN => h.new hb hN
  lt := fun h k hk => (h.n k hk).1
  use := fun i _ hU h => find1_any i hU h
end Go.Proofs.Ytenfaejdnphngaa
