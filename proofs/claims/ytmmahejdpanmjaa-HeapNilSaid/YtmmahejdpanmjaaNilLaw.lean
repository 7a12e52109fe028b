/- The walk of the law HeapNil. -/
import Derived.Test.YtmmahejdpanmjaaKnown5
namespace Go.Proofs.Ytmmahejdpanmjaa
open Go.RowKit Go.Sort Go.Deep

set_option maxRecDepth 100000 in
set_option maxHeartbeats 4000000 in
theorem nillaw_yes (w : World) (e : E3) : Calls Try.prog 9 #[encE3 e] w fun e w' => e = .returned (.bool true) ∧ Below w.heap.size w w' := by
  obtain ⟨e1, e2, e3⟩ := e
  have heq := eq_E (0, 0, 0) (0, 0, 0)
  rw [show eqE (0, 0, 0) (0, 0, 0) = true from by decide] at heq
  simp only [encE3] at heq
  have HB0 := Lib.hid (below_alloc w (.cells #[.int .i64 e1, .int .i64 e2, .int .i64 e3] 59))
  unfold encE3
  go_enter Try.func9, Try.ntmps9
  go_wp2_with fail
  go_at_call 29
  refine (hpop_nil _).mono ?_
  rintro en w1 ⟨rfl, hb1⟩
  have HA1 := Lib.hid ((e3b_new w (e1, e2, e3)).keep hb1)
  have HB1 := Lib.hid (below_after HB0.out hb1)
  clear hb1 HB0
  simp only [encE3]
  go_wp2_with fail
  go_at_call 34
  have HA2 := Lib.hid (HA1.out.keep (below_alloc w1 (.cells #[.int .i64 0, .int .i64 0, .int .i64 0] 59)))
  have HZ2 := Lib.hid (e3b_new w1 (0, 0, 0))
  have HB2 := Lib.hid (HB1.out.alloc HB1.out.size (.cells #[.int .i64 0, .int .i64 0, .int .i64 0] 59))
  clear HA1 HB1
  simp only [] at HZ2
  refine (htop_nil _).mono ?_
  rintro en w2 ⟨rfl, hb2⟩
  have HA3 := Lib.hid ((HA2.out.keep hb2).keep (below_alloc w2 (.cells #[.int .i64 0, .int .i64 0, .int .i64 0] 59)))
  have HZ3 := Lib.hid ((HZ2.out.keep hb2).keep (below_alloc w2 (.cells #[.int .i64 0, .int .i64 0, .int .i64 0] 59)))
  have HY3 := Lib.hid (e3b_new w2 (0, 0, 0))
  have HB3 := Lib.hid ((below_after HB2.out hb2).alloc (below_after HB2.out hb2).size (.cells #[.int .i64 0, .int .i64 0, .int .i64 0] 59))
  clear hb2 HA2 HZ2 HB2
  simp only [encE3]
  go_upto_region 4 with fail
  generalize w2.alloc (.cells #[.int .i64 0, .int .i64 0, .int .i64 0] 59) = V3 at *
  go_wp2_with fail
  go_at_call 40
  refine (known5_yes _).mono ?_
  rintro en w3 ⟨rfl, hb3⟩
  have HB4 := Lib.hid (below_after HB3.out hb3)
  obtain ⟨a0, a1, a2, _⟩ := HA3.out.keep hb3
  obtain ⟨z0, z1, z2, _⟩ := HZ3.out.keep hb3
  obtain ⟨y0, y1, y2, _⟩ := HY3.out.keep hb3
  have b0 := fun o => cell_later (below_alloc w3 o) a0
  have b1 := fun o => cell_later (below_alloc w3 o) a1
  have b2 := fun o => cell_later (below_alloc w3 o) a2
  have u0 := fun o => cell_later (below_alloc w3 o) z0
  have u1 := fun o => cell_later (below_alloc w3 o) z1
  have u2 := fun o => cell_later (below_alloc w3 o) z2
  have v0 := fun o => cell_later (below_alloc w3 o) y0
  have v1 := fun o => cell_later (below_alloc w3 o) y1
  have v2 := fun o => cell_later (below_alloc w3 o) y2
  clear hb3 HB3 HA3 HZ3 HY3
  go_wp2_with fail
  go_at_call 33
  refine (hpush_nil _ _).mono ?_
  rintro en w4 ⟨rfl, rfl⟩
  go_wp2_with fail
  go_at_call 31
  refine (hdrop_nil _ _).mono ?_
  rintro en w5 ⟨rfl, rfl⟩
  go_wp2_with fail
  go_at_call 35
  refine (hlen_nil _).mono ?_
  rintro en w6 ⟨rfl, rfl⟩
  go_wp2_with fail
  go_at_call 37
  refine (hall_nil _).mono ?_
  rintro en w7 ⟨rfl, rfl⟩
  go_wp2_with fail
  go_ret
  exact ⟨rfl, by
    have h := HB4.out.alloc HB4.out.size (.cells #[.int .i64 e1, .int .i64 e2, .int .i64 e3] 59)
    exact h.alloc h.size _⟩
end Go.Proofs.Ytmmahejdpanmjaa
