/- Turned, a ring's area and how often it goes round change their sign, begun elsewhere they stay, and whether it is simple stays, for any points (40 at most, as the statement says; P3.4): RingSigns returns true at every input.
   Conditions: none. -/
import Derived.Test.YtkibjbbhiclkmaaRingSym
import Derived.Test.YtkibjbbhiclkmaaSimEq
import Derived.Test.YtkibjbbhiclkmaaFirst
import Derived.Test.YtkibjbbhiclkmaaRow
import Derived.Test.YtkibjbbhiclkmaaOpenPts
namespace Go.Proofs.Ytkibjbbhiclkmaa

theorem okL_iff (L : List (Int × Int)) : okL L = true ↔ ∀ i, i < L.length → okp (ptA L i).1 (ptA L i).2 = true := by
  constructor
  · exact fun h i hi => okL_at h hi
  · intro h
    unfold okL
    rw [List.all_eq_true]
    intro p hp
    obtain ⟨i, hi, rfl⟩ := List.mem_iff_getElem.1 hp
    have := h i hi
    rw [ptA_at hi] at this
    exact this
theorem turn_turn {n i : Nat} (hi : i < n) : (n - (n - i) % n) % n = i := by
  by_cases e : i = 0
  · subst e; rw [Nat.sub_zero, Nat.mod_self, Nat.sub_zero, Nat.mod_self]
  · rw [Nat.mod_eq_of_lt (show n - i < n by omega), show n - (n - i) = i from by omega, Nat.mod_eq_of_lt hi]
theorem isTurn_turL (L : List (Int × Int)) : isTurn L (turL L) := ⟨turL_len L, turL_at L⟩
theorem isTurn_symm {L M : List (Int × Int)} (h : isTurn L M) : isTurn M L := by
  refine ⟨h.1.symm, fun i hi => ?_⟩
  rw [h.1] at hi ⊢
  rw [h.2 _ (Nat.mod_lt _ (by omega)), turn_turn hi]
theorem fsI_le (L : List (Int × Int)) : fsI (ptA L) L.length ≤ L.length := by
  rcases Nat.eq_zero_or_pos L.length with h | h
  · rw [h]; exact Nat.le_refl _
  · exact Nat.le_of_lt (fsI_lt _ _ h)
theorem firL_len (L : List (Int × Int)) : (firL L).length = L.length := by
  have := fsI_le L
  unfold firL
  rw [List.length_append, List.length_drop, List.length_take]; omega
theorem isRot_firL (L : List (Int × Int)) : isRot (fsI (ptA L) L.length) L (firL L) := ⟨firL_len L, rot_at L _ (fsI_le L)⟩
theorem ok_turn {L M : List (Int × Int)} (h : isTurn L M) : okL M = okL L := by
  have key : ∀ {L M : List (Int × Int)}, isTurn L M → okL L = true → okL M = true := by
    intro L M h hok
    rw [okL_iff] at hok ⊢
    intro i hi
    rw [h.1] at hi
    rw [h.2 i hi]; exact hok _ (Nat.mod_lt _ (by omega))
  rw [Bool.eq_iff_iff]
  exact ⟨key (isTurn_symm h), key h⟩
theorem ok_rot {s : Nat} {L M : List (Int × Int)} (h : isRot s L M) (hs : s ≤ L.length) : okL M = okL L := by
  rw [Bool.eq_iff_iff, okL_iff, okL_iff, h.1]
  constructor
  · intro k i hi
    have hj : (i + (L.length - s)) % L.length < L.length := Nat.mod_lt _ (by omega)
    have e : ((i + (L.length - s)) % L.length + s) % L.length = i := by
      rw [Nat.mod_add_mod, show i + (L.length - s) + s = i + L.length from by omega, Nat.add_mod_right, Nat.mod_eq_of_lt hi]
    have := k _ hj
    rw [h.2 _ hj, e] at this
    exact this
  · intro k i hi
    rw [h.2 i hi]; exact k _ (Nat.mod_lt _ (by omega))
theorem docA_es (L : List (Int × Int)) : areaV L = if L.length < 3 then 0 else if okL L then esum (fun a b => a.1 * b.2 - b.1 * a.2) L else 0 := by
  rw [area_doc]; rfl
theorem area_turn {L M : List (Int × Int)} (h : isTurn L M) : areaV M = - areaV L := by
  rw [docA_es, docA_es, h.1, ok_turn h]
  split
  · rfl
  · split
    · rw [esum_turn h, ← esum_neg]
      unfold esum
      exact sm_congr fun i _ => by dsimp only; omega
    · rfl
theorem area_rot {s : Nat} {L M : List (Int × Int)} (h : isRot s L M) (hs : s ≤ L.length) : areaV M = areaV L := by
  rw [docA_es, docA_es, h.1, ok_rot h hs, esum_rot h]
theorem betP_comm (a b v : Int) : betP a b v ↔ betP b a v := by unfold betP; omega
theorem onI_comm (a b p : Int × Int) : onI b.1 b.2 a.1 a.2 p.1 p.2 = onI a.1 a.2 b.1 b.2 p.1 p.2 := by
  rw [onI_B, onI_B, Bool.eq_iff_iff, onB_iff, onB_iff]
  unfold onP
  rw [crI_flip, betP_comm b.1, betP_comm b.2]
  generalize crI a.1 a.2 b.1 b.2 p.1 p.2 = s
  have : -s = 0 ↔ s = 0 := by omega
  rw [this]
theorem vW_flip (a b : Bool) (s : Int) : vW b a (-s) = - vW a b s := by
  unfold vW
  by_cases h1 : s < 0 <;> by_cases h2 : 0 < s <;> cases a <;> cases b <;> simp [h1, h2] <;> omega
theorem rab_flip (a b p : Int × Int) : rabV b a p = - rabV a b p := by unfold rabV; rw [crI_flip]; exact vW_flip _ _ _
theorem sdI_neg (s d : Int) : sdI (-s) (-d) = - sdI s d := by unfold sdI; split <;> split <;> omega
theorem rabl_flip (p q m e : Int × Int) : rablV q p m e = - rablV p q m e := by
  unfold rablV
  have h : (p.1 - q.1) * e.2 - (p.2 - q.2) * e.1 = -((q.1 - p.1) * e.2 - (q.2 - p.2) * e.1) := by grind
  rw [crI_flip, h, sdI_neg]
  exact vW_flip _ _ _
theorem rbH_comm (a b p q : Int × Int) : rbH a b q p = rbH a b p q := by
  unfold rbH
  have h1 : (2 * p.1 - 2 * q.1) * (b.2 - a.2) = -((2 * q.1 - 2 * p.1) * (b.2 - a.2)) := by grind
  have h2 : (2 * p.2 - 2 * q.2) * (b.1 - a.1) = -((2 * q.2 - 2 * p.2) * (b.1 - a.1)) := by grind
  have h3 := onI_comm (2 * p.1, 2 * p.2) (2 * q.1, 2 * q.2) (a.1 + b.1, a.2 + b.2)
  dsimp only at h3
  rw [h1, h2, h3]
  generalize (2 * q.1 - 2 * p.1) * (b.2 - a.2) = u
  generalize (2 * q.2 - 2 * p.2) * (b.1 - a.1) = v
  have : (-u == -v) = (u == v) := by rw [Bool.eq_iff_iff]; simp
  rw [this]
theorem win_gen {L M : List (Int × Int)} {p : Int × Int} (c : Int) (hok : okL M = okL L) (he : eex (fun a b => onI a.1 a.2 b.1 b.2 p.1 p.2) M ↔ eex (fun a b => onI a.1 a.2 b.1 b.2 p.1 p.2) L) (hs : esum (fun a b => rabV a b p) M = c * esum (fun a b => rabV a b p) L) :
    winN M p = c * winN L p ∧ winOk M p = winOk L p := by
  cases h : (okp p.1 p.2 && okL L)
  · have h2 : (okp p.1 p.2 && okL M) = false := by rw [hok]; exact h
    rw [(wind_no h).1, (wind_no h).2, (wind_no h2).1, (wind_no h2).2]
    exact ⟨by simp, rfl⟩
  · rw [Bool.and_eq_true] at h
    have h2 : okL M = true := by rw [hok]; exact h.2
    obtain ⟨a1, a2⟩ := wind_doc h.2 h.1
    obtain ⟨b1, b2⟩ := wind_doc h2 h.1
    have a3 := wind_on (L := L) h.2 h.1
    have b3 := wind_on (L := M) h2 h.1
    rw [onE_ex] at a1 a2 a3 b1 b2 b3
    rw [he] at b1 b2 b3
    refine ⟨?_, by rw [Bool.eq_iff_iff, a1, b1]⟩
    by_cases hx : eex (fun a b => onI a.1 a.2 b.1 b.2 p.1 p.2) L
    · rw [a3 hx, b3 hx]; simp
    · rw [a2 hx, b2 hx, rwE_es, rwE_es]; exact hs
theorem bes_gen {L M : List (Int × Int)} {a b : Int × Int} (c : Int) (hok : okL M = okL L) (he : eex (rbH a b) M ↔ eex (rbH a b) L) (hs : esum (fun p q => rablV (d2 p) (d2 q) (midp a b) (a.2 - b.2, b.1 - a.1)) M = c * esum (fun p q => rablV (d2 p) (d2 q) (midp a b) (a.2 - b.2, b.1 - a.1)) L) :
    besN M a b = c * besN L a b ∧ besOk M a b = besOk L a b := by
  cases h : besMay L a b
  · have h2 : besMay M a b = false := by unfold besMay at h ⊢; rw [hok]; exact h
    rw [(bes_no h).1, (bes_no h).2, (bes_no h2).1, (bes_no h2).2]
    exact ⟨by simp, rfl⟩
  · unfold besMay ok2 eqB at h
    simp only [Bool.and_eq_true, Bool.not_eq_true', decide_eq_false_iff_not] at h
    have h2 : okL M = true := by rw [hok]; exact h.2
    obtain ⟨a1, a2, a3⟩ := bes_doc h.2 h.1.2.1 h.1.2.2 (a := a) (b := b) (by omega)
    obtain ⟨b1, b2, b3⟩ := bes_doc h2 h.1.2.1 h.1.2.2 (a := a) (b := b) (by omega)
    rw [rhE_ex] at a1 a2 a3 b1 b2 b3
    rw [he] at b1 b2 b3
    refine ⟨?_, by rw [Bool.eq_iff_iff, a1, b1]⟩
    by_cases hx : eex (rbH a b) L
    · rw [a3 hx, b3 hx]; simp
    · rw [a2 hx, b2 hx, rbE_es, rbE_es]; exact hs
theorem win_turn {L M : List (Int × Int)} (h : isTurn L M) (p : Int × Int) : winN M p = - winN L p ∧ winOk M p = winOk L p := by
  have := win_gen (L := L) (M := M) (p := p) (-1) (ok_turn h) (by rw [eex_turn h]; unfold eex; simp only [onI_comm]) (by
    rw [esum_turn h]
    unfold esum
    rw [← sm_mul]
    exact sm_congr fun i _ => by dsimp only; rw [rab_flip (ptA L i)]; omega)
  exact ⟨by rw [this.1]; omega, this.2⟩
theorem win_rot {s : Nat} {L M : List (Int × Int)} (h : isRot s L M) (hs : s ≤ L.length) (p : Int × Int) : winN M p = winN L p ∧ winOk M p = winOk L p := by
  have := win_gen (L := L) (M := M) (p := p) 1 (ok_rot h hs) (eex_rot h hs _) (by rw [esum_rot h]; omega)
  exact ⟨by rw [this.1]; omega, this.2⟩
theorem bes_turn {L M : List (Int × Int)} (h : isTurn L M) (a b : Int × Int) : besN M a b = - besN L a b ∧ besOk M a b = besOk L a b := by
  have := bes_gen (L := L) (M := M) (a := a) (b := b) (-1) (ok_turn h) (by rw [eex_turn h]; unfold eex; simp only [rbH_comm]) (by
    rw [esum_turn h]
    unfold esum
    rw [← sm_mul]
    exact sm_congr fun i _ => by dsimp only; rw [rabl_flip (d2 (ptA L i))]; omega)
  exact ⟨by rw [this.1]; omega, this.2⟩
theorem sim_turn {L M : List (Int × Int)} (h : isTurn L M) : simB M = simB L := by
  have key : ∀ {L M : List (Int × Int)}, isTurn L M → rsimP L → rsimP M := by
    rintro L M h ⟨h3, hok, hd, hc⟩
    have hD : ∀ i j, i < L.length → j < L.length → i ≠ j → ptA L i ≠ ptA L j := by
      intro i j hi hj hne
      rcases Nat.lt_or_gt_of_ne hne with k | k
      · exact fun e => hd j hj i k e.symm
      · exact hd i hi j k
    have hN : ∀ i, i < L.length → ¬ ((ptA L i).1 = (nxA L i).1 ∧ (ptA L i).2 = (nxA L i).2) := by
      intro i hi ⟨e1, e2⟩
      have hx : (i + 1) % L.length < L.length := Nat.mod_lt _ (by omega)
      refine hD i ((i + 1) % L.length) hi hx ?_ (Prod.ext e1 e2)
      by_cases e : i + 1 = L.length
      · rw [e, Nat.mod_self]; omega
      · rw [Nat.mod_eq_of_lt (by omega)]; omega
    refine ⟨by rw [h.1]; exact h3, by rw [ok_turn h]; exact hok, ?_, ?_⟩
    · intro i hi k hk
      rw [h.1] at hi
      rw [h.2 i hi, h.2 k (by omega)]
      refine hD _ _ (Nat.mod_lt _ (by omega)) (Nat.mod_lt _ (by omega)) ?_
      intro e
      have e1 := turn_turn hi
      have e2 := turn_turn (show k < L.length by omega)
      rw [e] at e1
      omega
    · intro i hi k hk
      rw [h.1] at hi ⊢
      have hk' : k < L.length := by omega
      have t1 := turn_at h hi
      have t2 := turn_at h hk'
      have e : clsE M i k = clsI (nxA L (L.length - 1 - i)).1 (nxA L (L.length - 1 - i)).2 (ptA L (L.length - 1 - i)).1 (ptA L (L.length - 1 - i)).2 (nxA L (L.length - 1 - k)).1 (nxA L (L.length - 1 - k)).2 (ptA L (L.length - 1 - k)).1 (ptA L (L.length - 1 - k)).2 := by
        unfold nxA at t1 t2
        unfold clsE
        rw [t1.1, t1.2, t2.1, t2.2]
        rfl
      rw [e]
      have n1 := hN (L.length - 1 - i) (by omega)
      have n2 := hN (L.length - 1 - k) (by omega)
      rw [cls_flip, cls_swap (fun x => n2 ⟨x.1.symm, x.2.symm⟩) (fun x => n1 ⟨x.1, x.2⟩), cls_flip]
      have := hc (L.length - 1 - k) (by omega) (L.length - 1 - i) (by omega)
      unfold clsE at this
      unfold nxA
      rw [this]
      unfold wantE
      have : (L.length - 1 - k = L.length - 1 - i + 1 ∨ L.length - 1 - k + 1 = L.length - 1 - i + L.length) ↔ (i = k + 1 ∨ i + 1 = k + L.length) := by omega
      by_cases hx : i = k + 1 ∨ i + 1 = k + L.length
      · rw [if_pos (this.2 hx), if_pos hx]
      · rw [if_neg (fun y => hx (this.1 y)), if_neg hx]
  rw [Bool.eq_iff_iff, sim_iff, sim_iff]
  exact ⟨key (isTurn_symm h), key h⟩
theorem arN_in (ab : Int × Int → Bool) (hs lf : Int × Int → Int × Int → Bool) (L : List (Int × Int)) (hL : L.length ≤ 1000) : -1000 ≤ arN ab hs lf L ∧ arN ab hs lf L ≤ 1000 := by
  unfold arN
  split
  · omega
  · rw [sumE_upto]
    have := sm_in (fun i => hwE ab lf (edA L i)) 1 (fun i => hW_in _ _ _) L.length
    omega
theorem winN_in (L : List (Int × Int)) (p : Int × Int) (hL : L.length ≤ 1000) : -1000 ≤ winN L p ∧ winN L p ≤ 1000 := by
  unfold winN
  split
  · exact arN_in _ _ _ L hL
  · omega
theorem besN_in (L : List (Int × Int)) (a b : Int × Int) (hL : L.length ≤ 1000) : -1000 ≤ besN L a b ∧ besN L a b ≤ 1000 := by
  unfold besN
  split
  · exact arN_in _ _ _ L hL
  · omega
theorem areaV_in40 (L : List (Int × Int)) (hL : L.length ≤ 40) : -90071992547409920 ≤ areaV L ∧ areaV L ≤ 90071992547409920 := by
  unfold areaV
  split
  · omega
  · split
    · rw [sm_up]
      have := sm_in (fun i => arE (ptA L 0) (edA L i)) 2251799813685248 (fun i => crV_in _ _ _ _ _ _) L.length
      omega
    · omega
end Go.Proofs.Ytkibjbbhiclkmaa

namespace Go.Proofs.Ytkibjbbhiclkmaa
open Go.RowKit Go.Sort

/-- What the law's numbers come to. -/
structure SgF (M T F : List (Int × Int)) (p a b : Int × Int) : Prop where
  w1 : winN T p = - winN M p ∧ winOk T p = winOk M p
  w2 : winN F p = winN M p ∧ winOk F p = winOk M p
  b1 : besN T a b = - besN M a b ∧ besOk T a b = besOk M a b
  a1 : areaV T = - areaV M
  a2 : areaV F = areaV M
  s1 : simB T = simB M
  x1 : IntKind.i64.wrap (- areaV M) = - areaV M
  x2 : IntKind.i64.wrap (- winN M p) = - winN M p
  x3 : IntKind.i64.wrap (- besN M a b) = - besN M a b
theorem sgF (M : List (Int × Int)) (p a b : Int × Int) (hM : M.length ≤ 40) : SgF M (turL M) (firL M) p a b := by
  have hA := areaV_in40 M hM
  have hW := winN_in M p (by omega)
  have hB := besN_in M a b (by omega)
  exact ⟨win_turn (isTurn_turL M) p, win_rot (isRot_firL M) (fsI_le M) p, bes_turn (isTurn_turL M) a b, area_turn (isTurn_turL M), area_rot (isRot_firL M) (fsI_le M), sim_turn (isTurn_turL M),
    IntWalk.i64_in _ (by omega), IntWalk.i64_in _ (by omega), IntWalk.i64_in _ (by omega)⟩
structure SgS (w W : World) (p a b : Int × Int) (u t f : Value) (M T F : List (Int × Int)) : Prop where
  three : ThreeP w W p a b
  l : PL W u M
  t : PL W t T
  f : PL W f F
theorem SgS.later {w W w1 : World} {p a b : Int × Int} {u t f : Value} {M T F : List (Int × Int)} (h : SgS w W p a b u t f M T F) (hb : Below W.heap.size W w1) : SgS w w1 p a b u t f M T F :=
  ⟨h.three.later hb, h.l.keep hb, h.t.keep hb, h.f.keep hb⟩

set_option maxRecDepth 100000 in
set_option maxHeartbeats 4000000 in
theorem ringSigns_walk (v : Value) (L : List (Int × Int)) (p a b : Int × Int) (w : World) (hn : L.length ≤ 9223372036854775807) (hI : PL w v L) :
    Calls Try.prog 6 #[v, .agg #[.int .i64 p.1, .int .i64 p.2], .agg #[.int .i64 a.1, .int .i64 a.2], .agg #[.int .i64 b.1, .int .i64 b.2]] w fun e w' => e = .returned (.bool true) ∧ Below w.heap.size w w' := by
  have HT : Hid (ThreeP w (((w.alloc (.cells #[.int .i64 p.1, .int .i64 p.2] 24)).alloc (.cells #[.int .i64 a.1, .int .i64 a.2] 24)).alloc (.cells #[.int .i64 b.1, .int .i64 b.2] 24)) p a b) :=
    Lib.hid ⟨by go_simp, by go_simp, by go_simp, by go_simp, by go_simp, by go_simp, (b2 _ _ _).trans ((b1 _ _).mono (by simp <;> omega))⟩
  have hcut := cut3_any (hI.keep HT.out.below) hn
  have hml : (L.take 40).length ≤ 40 := by rw [List.length_take]; omega
  generalize L.take 40 = M at *
  have HM := Lib.hid hcut
  have HV := Lib.hid (sgF M p a b hml)
  have hlt := turL_len M
  have hlf := firL_len M
  have ht40 : (turL M).length ≤ 40 := by omega
  have hf40 : (firL M).length ≤ 40 := by omega
  clear hcut hI hn hlt hlf
  go_enter Try.func6, Try.ntmps6
  go_wp2_with fail
  refine HM.out.mono ?_
  rintro e w' ⟨u, rfl, hu, rfl⟩
  have HU := Lib.hid hu
  clear hu HM
  go_wp2_with fail
  refine (turned_any HU.out (by omega)).mono ?_
  rintro e w1 ⟨t, rfl, ht, hb1⟩
  have HT1 := Lib.hid (HT.out.later hb1)
  have HU1 := Lib.hid (HU.out.keep hb1)
  have HTu := Lib.hid ht
  clear ht hb1 HT HU
  go_wp2_with fail
  refine (first_any HU1.out (by omega)).mono ?_
  rintro e w2 ⟨f, rfl, hf, hb2⟩
  have HS2 : Hid (SgS w w2 p a b u t f M (turL M) (firL M)) := Lib.hid ⟨HT1.out.later hb2, HU1.out.keep hb2, HTu.out.keep hb2, hf⟩
  clear hf hb2 HT1 HU1 HTu
  generalize turL M = T at *
  generalize firL M = F at *
  obtain ⟨c0, c1, c2, c3, c4, c5, _⟩ := HS2.out.three
  go_wp2_with fail
  refine (winding_any _ M p _ (by omega) HS2.out.l).mono ?_
  rintro e w3 ⟨rfl, hb⟩
  have HS3 := Lib.hid (HS2.out.later hb)
  clear hb c0 c1 c2 c3 c4 c5 HS2
  obtain ⟨c0, c1, c2, c3, c4, c5, _⟩ := HS3.out.three
  go_wp2_with fail
  refine (winding_any _ T p _ (by omega) HS3.out.t).mono ?_
  rintro e w4 ⟨rfl, hb⟩
  rw [HV.out.w1.1, HV.out.w1.2]
  have HS4 := Lib.hid (HS3.out.later hb)
  clear hb c0 c1 c2 c3 c4 c5 HS3
  obtain ⟨c0, c1, c2, c3, c4, c5, _⟩ := HS4.out.three
  go_wp2_with fail
  refine (winding_any _ F p _ (by omega) HS4.out.f).mono ?_
  rintro e w5 ⟨rfl, hb⟩
  rw [HV.out.w2.1, HV.out.w2.2]
  have HS5 := Lib.hid (HS4.out.later hb)
  clear hb c0 c1 c2 c3 c4 c5 HS4
  obtain ⟨c0, c1, c2, c3, c4, c5, _⟩ := HS5.out.three
  go_wp2_with fail
  refine (beside_any _ M a b _ (by omega) HS5.out.l).mono ?_
  rintro e w6 ⟨rfl, hb⟩
  have HS6 := Lib.hid (HS5.out.later hb)
  clear hb c0 c1 c2 c3 c4 c5 HS5
  obtain ⟨c0, c1, c2, c3, c4, c5, _⟩ := HS6.out.three
  go_wp2_with fail
  refine (beside_any _ T a b _ (by omega) HS6.out.t).mono ?_
  rintro e w7 ⟨rfl, hb⟩
  rw [HV.out.b1.1, HV.out.b1.2]
  have HS7 := Lib.hid (HS6.out.later hb)
  clear hb c0 c1 c2 c3 c4 c5 HS6
  have KN := Lib.hid (fun W (h : PL W t T) => area_any _ T W (by omega) h)
  have KF := Lib.hid (fun W (h : PL W f F) => area_any _ F W (by omega) h)
  have KU := Lib.hid (fun W (h : PL W u M) => area_any _ M W (by omega) h)
  have JN := Lib.hid (fun W (h : PL W t T) => simple_any _ T W (by omega) h)
  have JU := Lib.hid (fun W (h : PL W u M) => simple_any _ M W (by omega) h)
  rw [HV.out.a1] at KN
  rw [HV.out.a2] at KF
  rw [HV.out.s1] at JN
  have x1 := HV.out.x1
  have x2 := HV.out.x2
  have x3 := HV.out.x3
  clear HV
  generalize areaV M = av at *
  generalize simB M = sb at *
  generalize winN M p = wn at *
  generalize winOk M p = wo at *
  generalize besN M a b = bn at *
  generalize besOk M a b = bo at *
  go_wp2_with fail
  refine (known3_yes _).mono ?_
  rintro e w8 ⟨rfl, hb⟩
  have HS8 := Lib.hid (HS7.out.later hb)
  clear hb HS7
  go_wp2_with fail
  refine (KN.out _ HS8.out.t).mono ?_
  rintro e w9 ⟨rfl, hb⟩
  have HS9 := Lib.hid (HS8.out.later hb)
  clear hb HS8
  go_wp2_with fail
  refine (KU.out _ HS9.out.l).mono ?_
  rintro e w10 ⟨rfl, hb⟩
  have HS10 := Lib.hid (HS9.out.later hb)
  clear hb HS9
  go_wp2_with fail
  refine (KF.out _ HS10.out.f).mono ?_
  rintro e w11 ⟨rfl, hb⟩
  have HS11 := Lib.hid (HS10.out.later hb)
  clear hb HS10
  go_wp2_with fail
  refine (KU.out _ HS11.out.l).mono ?_
  rintro e w12 ⟨rfl, hb⟩
  have HS12 := Lib.hid (HS11.out.later hb)
  clear hb HS11
  go_wp2_with fail
  refine (JN.out _ HS12.out.t).mono ?_
  rintro e w13 ⟨rfl, hb⟩
  have HS13 := Lib.hid (HS12.out.later hb)
  clear hb HS12
  go_wp2_with fail
  refine (JU.out _ HS13.out.l).mono ?_
  rintro e w14 ⟨rfl, hb⟩
  have HS14 := Lib.hid (HS13.out.later hb)
  clear hb HS13
  go_wp2_with fail
  go_ret
  exact ⟨ret_bool (by simp), HS14.out.three.below⟩
end Go.Proofs.Ytkibjbbhiclkmaa

namespace Go.Proofs.Ytkibjbbhiclkmaa
open Go.ChangeShapes Go.WideShapes Go.ChangeAt Go.RowKit

set_option maxRecDepth 100000 in
theorem ringSigns_lifted (os : Os) (started : os.Started) (H : Type) (enc : TypeId × Value → H) :
    ReturnsInHanded {} Try.checked os 6 .any (Rows.ringSignsSpec.pre6 enc Try.prog Try.f6 Rows.ringSignsRow.domain false) (Rows.ringSignsSpec.post enc Try.prog Try.f6 false true false false) := by
  refine returnsInHanded_of_change (C := Try.checked) Try.own started (by kernel_rfl) Try.func6
    (ChangeSpec.witness6 (enc := enc) (C := Try.checked) false ⟨#[], #[.slice none 0 0, .agg #[.int .i64 0, .int .i64 0], .agg #[.int .i64 0, .int .i64 0], .agg #[.int .i64 0, .int .i64 0]], []⟩ 8 (by kernel_rfl) (by kernel_rfl) (by kernel_rfl) (by kernel_rfl)) ?_
  intro W base args ds gs before hval0 hW _ _
  have hval : ∀ (j : Nat) t v, Try.f6.params[j]? = some t → args[j]? = some v → Value.okWide Try.prog W .any base t v := hval0
  have hW' := hW
  obtain ⟨p, q, hA0, hV, rfl, _, _⟩ := hW
  have hA : DataW.TrodAll enc Try.prog W 0 (fun _ => true) true Try.f6.params.toList args.toList ds p := hA0
  rw [Try.params6] at hA hval
  obtain ⟨v0, vs0, d0, ds0, p0, z0, hargs, rfl, rfl, h0, r0⟩ := trodAll_cons hA
  obtain ⟨v1, vs1, d1, ds1, p1, z1, rfl, rfl, rfl, h1, r1⟩ := trodAll_cons r0
  obtain ⟨v2, vs2, d2, ds2, p2, z2, rfl, rfl, rfl, h2, r2⟩ := trodAll_cons r1
  obtain ⟨v3, vs3, d3, ds3, p3, z3, rfl, rfl, rfl, h3, r3⟩ := trodAll_cons r2
  obtain ⟨rfl, rfl, rfl⟩ := trodAll_nil r3
  obtain rfl : args = #[v0, v1, v2, v3] := by cases args; simp_all
  obtain ⟨L0, I0, n0⟩ := open_pl (hval 0 22 v0 rfl rfl) h0
  obtain ⟨x1, y1, rfl, _, _⟩ := open_pt (hval 1 24 v1 rfl rfl) h1
  obtain ⟨x2, y2, rfl, _, _⟩ := open_pt (hval 2 24 v2 rfl rfl) h2
  obtain ⟨x3, y3, rfl, _, _⟩ := open_pt (hval 3 24 v3 rfl rfl) h3
  refine (ringSigns_walk v0 L0 (x1, y1) (x2, y2) (x3, y3) W n0 I0).mono fun e W' ⟨he, hb⟩ => ?_
  subst he
  exact ⟨_, rfl, law_post rfl (by kernel_rfl) (by rw [Try.params6]; intro t ht; (have ht' : t ∈ [22, 24, 24, 24] := ht); simp only [List.mem_cons, List.not_mem_nil, or_false] at ht'; (rcases ht' with rfl | rfl | rfl | rfl <;> exact ⟨by kernel_rfl, of_decide_eq_true (by kernel_rfl)⟩)) hW' rfl hb⟩

theorem ringSigns_holds : Rows.RingSignsSaid :=
  OpenClaim.holds_of_wide 6 Try.f6 rfl rfl rfl rfl rfl rfl rfl ⟨rfl, rfl, rfl, rfl, rfl⟩ rfl rfl rfl rfl rfl (by kernel_rfl) Try.func6 (by kernel_rfl)
    (of_decide_eq_true (by kernel_rfl)) (by unfold Func.isWrapper; rw [if_neg (of_decide_eq_false (by kernel_rfl))]; exact ⟨rfl, rfl⟩)
    (fun os started H enc _ => ringSigns_lifted os started H enc)
end Go.Proofs.Ytkibjbbhiclkmaa
