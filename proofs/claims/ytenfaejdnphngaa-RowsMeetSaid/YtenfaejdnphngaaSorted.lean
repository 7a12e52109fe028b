/- The walk of order.sorted at numbers. -/
import Derived.Test.YtenfaejdnphngaaMrg
import Derived.Test.YtenfaejdnphngaaSrt
import Derived.Laws.MakeOwn
namespace Go.Proofs.Ytenfaejdnphngaa
open Go.RowKit Go.Sort

/-- Two rows of the call's own, apart: all numbers, and room for as many. -/
structure StS (w W : World) (kf cf kt cap : Nat) (F : List Int) : Prop where
  own5 : W.ownsRow w.heap.size 3 1 (.slice (some ⟨kf, 0, none⟩) F.length cf) F.length (icells F)
  own6 : W.ownsRow w.heap.size 3 1 (.slice (some ⟨kt, 0, none⟩) 0 cap) 0 []
  ne : kf ≠ kt
  below : Below w.heap.size w W
  room : F.length ≤ cap
def SoPost (lt : Int → Int → Bool) (L : List Int) (w : World) (e : Ending) (w' : World) : Prop :=
  ∃ u, e = .returned u ∧ w'.ownsRow w.heap.size 3 1 u L.length (icells (srt lt L)) ∧ Below w.heap.size w w'
/-- Behind the two new rows. -/
def NewS (w W : World) (v : Value) (kt : Nat) (L : List Int) : Prop :=
  W.ownsRow w.heap.size 3 1 v L.length (icells L) ∧ W.ownsRow w.heap.size 3 1 (.slice (some ⟨kt, 0, none⟩) 0 L.length) 0 [] ∧ v.ownBlock ≠ some kt ∧ Below w.heap.size w W
theorem make_run (n : Nat) (hn : n ≤ 1000000) (w : World) : (Instr.makeSlice 48 (.int .i64 0) (.int .i64 (n : Int))).run Try.prog w = .ok (.slice (some ⟨w.heap.size, 0, none⟩) 0 n) (w.alloc (.cells (madeCells #[.int .i64 0] n) 3)) := by
  obtain ⟨i0, hi, hz0, hz1, hz2⟩ := info_parts infoI
  have h := run_make (P := Try.prog) w 48 3 i0 (.int .i64 0) Try.underlying48 hi hz0 .i64 .i64 0 (n : Int) (Int.le_refl _) (by omega) (by rw [hz2]; omega) (by omega)
  rw [hz1] at h
  simpa [Value.cells] using h
theorem made_own (W : World) (base n : Nat) (hb : base ≤ W.heap.size) (hn : n ≤ 1000000) : (W.alloc (.cells (madeCells #[.int .i64 0] n) 3)).ownsRow base 3 1 (.slice (some ⟨W.heap.size, 0, none⟩) 0 n) 0 [] :=
  World.ownsRow_made W _ n hb (by unfold maxLen; omega) (by rw [size_madeCells]; omega)

structure StI (w W : World) (kf cf kt cap : Nat) (F X : List Int) : Prop where
  own5 : W.ownsRow w.heap.size 3 1 (.slice (some ⟨kf, 0, none⟩) F.length cf) F.length (icells F)
  own6 : W.ownsRow w.heap.size 3 1 (.slice (some ⟨kt, 0, none⟩) X.length cap) X.length (icells X)
  ne : kf ≠ kt
  below : Below w.heap.size w W
  room : F.length ≤ cap
theorem own_le {W : World} {base g n c : Nat} {T : TypeId} {size : Nat} {xs : List Value} (h : W.ownsRow base T size (.slice (some ⟨g, 0, none⟩) n c) n xs) : n ≤ c := by
  rcases h.2 with ⟨e, _⟩ | ⟨_, _, _, e, _, _, h1, _⟩
  · cases e
  · cases e; exact h1
theorem part_IL {W : World} {base kf kt cf lo hi : Nat} {F : List Int} (h : W.ownsRow base 3 1 (.slice (some ⟨kf, 0, none⟩) F.length cf) F.length (icells F)) (hne : kf ≠ kt) (h1 : lo ≤ hi) (h2 : hi ≤ F.length) :
    IL W kt (.slice (if cf = lo then some ⟨kf, 0, none⟩ else some ⟨kf, lo, none⟩) (hi - lo) (cf - lo)) ((F.drop lo).take (hi - lo)) := by
  have hcf := own_le h
  have hl : ((F.drop lo).take (hi - lo)).length = hi - lo := by rw [List.length_take, List.length_drop]; omega
  refine ⟨_, _, by rw [hl], by omega, fun i hi' => ?_⟩
  rw [hl] at hi'
  have hc := h.cells (g := kf) rfl (lo + i) (.int .i64 (F[lo + i]'(by omega))) (by unfold icells; rw [List.getElem?_map, List.getElem?_eq_getElem (by omega)]; rfl)
  rw [add_at] at hc
  refine ⟨kf, lo, by rw [if_neg (by omega)], hne, ?_⟩
  rw [Nat.zero_add] at hc
  rw [hc]
  simp
theorem own_cut {W : World} {base g n c : Nat} {xs : List Value} (h : W.ownsRow base 3 1 (.slice (some ⟨g, 0, none⟩) n c) n xs) : W.ownsRow base 3 1 (.slice (some ⟨g, 0, none⟩) 0 c) 0 [] := by
  refine ⟨by simp, ?_⟩
  rcases h.2 with ⟨e, _⟩ | ⟨g1, c1, cur, e, hg, hh, h1, h2, h3, _⟩
  · cases e
  · cases e; exact .inr ⟨g, c, cur, rfl, hg, hh, Nat.zero_le _, h2, h3, by simp⟩
theorem StI.next {w W W' : World} {kf cf kt cap : Nat} {F X R : List Int} (h : StI w W kf cf kt cap F X) (o : W'.ownsRow w.heap.size 3 1 (.slice (some ⟨kt, 0, none⟩) R.length cap) R.length (icells R)) (g : W.grownBy W' (some kt)) : StI w W' kf cf kt cap F R :=
  ⟨h.own5.kept g (Or.inr (by simp [Value.ownBlock]; exact h.ne)), o, h.ne, h.below.grown g h.below.size (fun k hk => by cases hk; exact (own_block h.own6 rfl).1), h.room⟩
theorem StI.merge (G : FuncId) (lb : Array Value) (lt : Int → Int → Bool) (ok : Int → Prop) {w W : World} {kf cf kt cap lo mi hi : Nat} {F X : List Int} (h : StI w W kf cf kt cap F X) (h1 : lo ≤ mi) (h2 : mi ≤ hi) (h3 : hi ≤ F.length) (hX : X.length = lo) (hok : ∀ x ∈ F, ok x)
    (hF : ∀ (args : Array Value) (W : World), Sem.run Try.prog (callFunc G args) W = .ok (Next.enter G args) W)
    (hK : ∀ (W : World) (x y : Int), Below w.heap.size w W → ok x → ok y → Calls Try.prog G (#[.int .i64 x, .int .i64 y] ++ lb) W fun e w' => e = .returned (.bool (lt x y)) ∧ Below W.heap.size W w') :
    Calls Try.prog 72 #[.slice (some ⟨kt, 0, none⟩) X.length cap, .slice (if cf = lo then some ⟨kf, 0, none⟩ else some ⟨kf, lo, none⟩) (mi - lo) (cf - lo), .slice (if cf = mi then some ⟨kf, 0, none⟩ else some ⟨kf, mi, none⟩) (hi - mi) (cf - mi), .func (.func G) #[] lb] W
      (MgPost W w.heap.size kt cap (X ++ mrg lt ((F.drop lo).take (mi - lo)) ((F.drop mi).take (hi - mi)))) :=
  merged_any G lb lt ok ⟨h.own6, part_IL h.own5 h.ne h1 (by omega), part_IL h.own5 h.ne h2 h3, World.grownBy.refl _ _, by have := h.room; rw [List.length_take, List.length_drop, List.length_take, List.length_drop]; omega⟩
    (fun x hx => hok x (List.mem_of_mem_drop (List.mem_of_mem_take hx))) (fun x hx => hok x (List.mem_of_mem_drop (List.mem_of_mem_take hx))) hF
    (fun W' x y hg hx hy => hK W' x y (h.below.grown hg h.below.size (fun k hk => by cases hk; exact (own_block h.own6 rfl).1)) hx hy)
theorem take_min {l : List Int} {k m : Nat} (h : k = min m l.length) : l.take k = l.take m := by
  subst h; rcases Nat.le_total m l.length with h | h
  · rw [Nat.min_eq_left h]
  · rw [Nat.min_eq_right h, List.take_of_length_le (Nat.le_refl _), List.take_of_length_le h]
theorem pas_step (lt : Int → Int → Bool) {run lo n : Nat} {F X : List Int} (hr : 0 < run) (hn : F.length = n) (hlo : lo < n) (hX : X ++ pas lt run (F.drop lo) = pas lt run F) :
    X ++ mrg lt ((F.drop lo).take (min (lo + run) n - lo)) ((F.drop (min (lo + run) n)).take (min (lo + 2 * run) n - min (lo + run) n)) ++ pas lt run (F.drop (lo + 2 * run)) = pas lt run F := by
  rw [← hX, List.append_assoc, pas_on lt hr (F := F.drop lo) (by intro e; have := congrArg List.length e; simp at this; omega), List.drop_drop, List.drop_drop]
  have e1 : (F.drop lo).take (min (lo + run) n - lo) = (F.drop lo).take run := take_min (by rw [List.length_drop]; omega)
  have e2 : (F.drop (min (lo + run) n)).take (min (lo + 2 * run) n - min (lo + run) n) = (F.drop (lo + run)).take run := by
    rcases Nat.le_total (lo + run) n with h | h
    · rw [Nat.min_eq_left h]; exact take_min (by rw [List.length_drop]; omega)
    · rw [List.drop_of_length_le (by omega), List.drop_of_length_le (by omega)]; simp
  rw [e1, e2]
theorem StI.drew {w W : World} {kf cf kt cap : Nat} {F X : List Int} (h : StI w W kf cf kt cap F X) : StI w W.drew kf cf kt cap F X := ⟨h.own5, h.own6, h.ne, h.below.drew, h.room⟩
set_option maxRecDepth 100000 in
set_option maxHeartbeats 4000000 in
theorem sorted_any (F0 : FuncId) (lb : Array Value) (lt : Int → Int → Bool) (ok : Int → Prop) {w : World} {v : Value} {L : List Int} (hI : IL w w.heap.size v L) (hL : L.length ≤ 1000) (hok : ∀ x ∈ L, ok x)
    (hF : ∀ (args : Array Value) (W : World), Sem.run Try.prog (callFunc F0 args) W = .ok (Next.enter F0 args) W)
    (hK : ∀ (W : World) (x y : Int), Below w.heap.size w W → ok x → ok y → Calls Try.prog F0 (#[.int .i64 x, .int .i64 y] ++ lb) W fun e w' => e = .returned (.bool (lt x y)) ∧ Below W.heap.size W w') :
    Calls Try.prog 63 #[v, .func (.func F0) #[] lb] w (SoPost lt L w) := by
  have hmx : Try.prog.follows .mixedOrders = true := by kernel_rfl
  obtain ⟨i0, hi, hz0, hz1, hz2⟩ := info_parts infoI
  have HSr := Lib.hid hI.srcO
  have HK := Lib.hid hK
  have HOk := Lib.hid hok
  have hmk := make_run L.length (by omega)
  obtain ⟨q, c, rfl, hc, _⟩ := hI
  clear hK hok
  go_enter Try.func63, Try.ntmps63
  go_upto_region 1 with fail
  go_cut [5, 6] (fun s5 s6 wx => ∃ kt : Nat, s6 = .slice (some ⟨kt, 0, none⟩) 0 L.length ∧ Hid (NewS w wx s5 kt L))
  case first =>
    go_region_held3 (fun W' => Below w.heap.size w W') (first | assumption | exact (Below.refl _ _).drew | exact Below.alloc (by assumption) (Below.size (by assumption)) _) (first | ((refine step_append_srcO (by rfl) (.const (.slice none 0 0)) (.tmp 11) 48 (by rfl) _ 3 i0 (.int .i64 0) 1 8 Try.underlying48 hi hz0 hz1 hz2 (by rfl) (by decide) _ 0 [] (by rfl) (World.ownsRow_nil _ _ _ _) _ L.length (icells L) (by rfl) (HSr.out.keep (by assumption)) (icells_len L) (icells_one L) (by unfold maxLen; omega) (by omega) (Nat.le_refl _) ?_); intro v1 wA hoA hgA; have hS5 : Below w.heap.size w wA := Below.grown (by assumption) hgA (Below.size (by assumption)) (by intro k hk; cases hk)))
    · have HN : Hid (NewS w (wA.alloc (.cells (madeCells #[.int .i64 0] L.length) 3)) v1 wA.heap.size L) := Lib.hid ⟨(own_base (b0 := w.heap.size) (by simpa using hoA) (by simp)).alloc _, made_own wA _ _ hS5.size (by omega), (fun e => by have := (own_block hoA e).2; omega), hS5.alloc hS5.size _⟩
      clear hoA hgA hS5
      go_wp2_with fail
      go_meet
      exact ⟨_, rfl, HN⟩
    · have HN : Hid (NewS w wA v1 w.heap.size L) := Lib.hid ⟨own_base (b0 := w.heap.size) (by simpa using hoA) (by simp), (made_own w.drew w.heap.size L.length (Nat.le_refl _) (by omega)).kept hgA (Or.inr (by simp [Value.ownBlock])), (fun e => by have := (own_block hoA e).1; simp at this; omega), hS5⟩
      clear hoA hgA hS5
      go_wp2_with fail
      go_meet
      exact ⟨_, rfl, HN⟩
  case rest =>
    obtain ⟨kt, rfl, HN⟩ := hcut
    by_cases hn : L.length = 0
    · have hk : ¬ ((1 : Int) < ((L.length : Nat) : Int)) := by omega
      have hs : srt lt L = L := rnd_off lt _ (by omega)
      go_wp2_with fail
      go_loopg [5, 6, 7] 0 (fun gk f t r wx => r = .int .i64 1 ∧ f = u5 ∧ wx = wc)
      case atStart => exact ⟨rfl, rfl, rfl⟩
      case round =>
        obtain ⟨rfl, rfl, hw⟩ := hrel
        have hw' := hw.symm; clear hw; subst hw'
        go_wp2_with fail
        go_ret
        exact ⟨_, rfl, by rw [hs]; exact HN.out.1, HN.out.2.2.2⟩
    · have hown := HN.out
      obtain ⟨⟨_, he | ⟨kf, cf, cur, rfl, hg, hcc, _⟩⟩, _⟩ := id hown
      · exact absurd (by have := he.2; first | exact this | exact this.1 | exact this.symm | exact congrArg List.length this.1 | (have h1 := icells_len L; rw [he.2.2] at h1; simpa using h1.symm)) hn
      have hne : kf ≠ kt := fun e => hown.2.2.1 (by rw [e]; rfl)
      have HS0 : Hid (StS w wc kf cf kt L.length L) := Lib.hid ⟨hown.1, hown.2.1, hne, hown.2.2.2, Nat.le_refl _⟩
      clear hown hne hcc hg HN
      go_wp2_with fail
      go_loopg [5, 6, 7] (L.length - 1) (fun gk f t r wx => ∃ (run kf cf kt cap : Nat) (F : List Int), gk = L.length - run ∧ 0 < run ∧ run ≤ 2 * L.length ∧ r = .int .i64 (run : Int) ∧ f = .slice (some ⟨kf, 0, none⟩) L.length cf ∧ t = .slice (some ⟨kt, 0, none⟩) 0 cap ∧ F.length = L.length ∧ Hid (rnd lt L.length run F = srt lt L ∧ (∀ x ∈ F, ok x)) ∧ Hid (StS w wx kf cf kt cap F))
      case atStart => exact ⟨1, kf, cf, kt, L.length, L, rfl, by omega, by omega, rfl, rfl, rfl, rfl, Lib.hid ⟨rfl, HOk.out⟩, HS0⟩
      case round =>
        clear HS0
        obtain ⟨run, kf, cf, kt, cap, F, hgk, hr0, hr1, rfl, rfl, rfl, hFl, HR, HS⟩ := hrel
        by_cases hk : ((run : Nat) : Int) < ((L.length : Nat) : Int)
        · have HI0 : Hid (StI w wr kf cf kt cap F []) := Lib.hid ⟨HS.out.own5, HS.out.own6, HS.out.ne, HS.out.below, HS.out.room⟩
          clear HS
          go_wp2_with fail
          go_loopg [6, 8] L.length (fun gi t i wx => ∃ (low : Nat) (X : List Int), gi = L.length - low ∧ i = .int .i64 (low : Int) ∧ low ≤ 3 * L.length ∧ t = .slice (some ⟨kt, 0, none⟩) X.length cap ∧ X.length = min low L.length ∧ Hid (X ++ pas lt run (F.drop low) = pas lt run F) ∧ Hid (StI w wx kf cf kt cap F X))
          case atStart => exact ⟨0, [], rfl, rfl, by omega, rfl, by simp, Lib.hid rfl, HI0⟩
          case round =>
            clear HI0
            obtain ⟨low, X, hgi, rfl, hl3, rfl, hXl, HX, HI⟩ := hrel
            have HXl := Lib.hid hXl
            clear hXl
            by_cases hlk : ((low : Nat) : Int) < ((L.length : Nat) : Int)
            · go_upto_region 8 with fail
              go_cut [9, 10] (fun m h wx => m = .int .i64 (min (low + run) L.length : Nat) ∧ h = .int .i64 (min (low + 2 * run) L.length : Nat) ∧ Hid (StI w wx kf cf kt cap F X))
              case first =>
                go_wp2_with fail
                all_goals go_meet
                all_goals exact ⟨by congr 1; omega, by congr 1; omega, HI⟩
              case rest =>
                clear HI
                obtain ⟨rfl, rfl, HI⟩ := hcut
                have hml : ((low : Nat) : Int) ≤ ((min (low + run) L.length : Nat) : Int) := by omega
                have hmh : ((min (low + run) L.length : Nat) : Int) ≤ ((min (low + 2 * run) L.length : Nat) : Int) := by omega
                have hcf : L.length ≤ cf := by have h5 := HI.out.own5; rw [hFl] at h5; exact own_le h5
                have hhc : ((min (low + 2 * run) L.length : Nat) : Int) ≤ (cf : Int) := by omega
                have hmc : ((min (low + run) L.length : Nat) : Int) ≤ (cf : Int) := by omega
                have hXlo : X.length = low := by have := HXl.out; omega
                have HM := Lib.hid (fun (W1 : World) (hb : StI w W1 kf cf kt cap F X) => hb.merge F0 lb lt ok (lo := low) (mi := min (low + run) L.length) (hi := min (low + 2 * run) L.length) (by omega) (by omega) (by omega) hXlo HR.out.2 hF HK.out)
                generalize hm0 : min (low + run) L.length = mid at *
                generalize hh0 : min (low + 2 * run) L.length = high at *
                have HE := Lib.hid (pas_step lt hr0 hFl (by omega) HX.out)
                have HEl := Lib.hid (by
                  have e := pas_len lt hr0 F
                  rw [← pas_step lt (lo := low) (n := L.length) hr0 hFl (by omega) HX.out, List.length_append, pas_len lt hr0, List.length_drop, hFl] at e
                  exact e)
                rw [hm0, hh0] at HE HEl
                clear hXlo HX
                have hcl : ¬ cf = low := by omega
                by_cases hcm : cf = mid
                · have hch : cf = high := by omega
                  subst hcm
                  subst hch
                  rw [if_neg hcl, if_pos rfl, Nat.sub_self] at HM
                  rw [Nat.sub_self] at HE HEl
                  generalize hR : X ++ mrg lt (List.take (cf - low) (List.drop low F)) (List.take 0 (List.drop cf F)) = R at *
                  clear hR
                  go_wp2_with fail
                  go_region_held3 (fun W' => Below w.heap.size w W') (first | assumption | exact HI.out.below | exact HI.out.below.drew) (first | (go_at_call 72; refine (HM.out _ (by first | exact HI.out | exact HI.out.drew)).mono ?_; rintro e w2 ⟨rfl, ho2, hg2⟩; have hN2 : StI w w2 kf cf kt cap F _ := (by first | exact HI.out.next ho2 hg2 | exact HI.out.drew.next ho2 hg2); have hS2 : Below w.heap.size w w2 := hN2.below))
                  have HN2 := Lib.hid hN2
                  clear ho2 hg2 hN2 hS2
                  go_wp2_with fail
                  go_roundg (L.length - (low + 2 * run))
                  case measure => omega
                  case rel => exact ⟨low + 2 * run, R, rfl, by push_cast; rfl, by omega, rfl, by have := HEl.out; omega, HE, HN2⟩
                · rw [if_neg hcl, if_neg hcm] at HM
                  generalize hR : X ++ mrg lt (List.take (mid - low) (List.drop low F)) (List.take (high - mid) (List.drop mid F)) = R at *
                  clear hR
                  go_wp2_with fail
                  go_region_held3 (fun W' => Below w.heap.size w W') (first | assumption | exact HI.out.below | exact HI.out.below.drew) (first | (go_at_call 72; refine (HM.out _ (by first | exact HI.out | exact HI.out.drew)).mono ?_; rintro e w2 ⟨rfl, ho2, hg2⟩; have hN2 : StI w w2 kf cf kt cap F _ := (by first | exact HI.out.next ho2 hg2 | exact HI.out.drew.next ho2 hg2); have hS2 : Below w.heap.size w w2 := hN2.below))
                  have HN2 := Lib.hid hN2
                  clear ho2 hg2 hN2 hS2
                  go_wp2_with fail
                  go_roundg (L.length - (low + 2 * run))
                  case measure => omega
                  case rel => exact ⟨low + 2 * run, R, rfl, by push_cast; rfl, by omega, rfl, by have := HEl.out; omega, HE, HN2⟩
            · have hXL : X.length = L.length := by have := HXl.out; omega
              have HPs : Hid (X = pas lt run F) := Lib.hid (by have h := HX.out; rw [List.drop_of_length_le (by omega), pas_nil, List.append_nil] at h; exact h)
              have hrn : run < L.length := by omega
              have HS2 : ∀ W', StI w W' kf cf kt cap F X → Hid (StS w W' kt cap kf cf X) := fun W' h => Lib.hid ⟨h.own6, own_cut h.own5, fun e => h.ne e.symm, h.below, by have := own_le h.own5; omega⟩
              have HR2 : Hid (rnd lt L.length (2 * run) X = srt lt L ∧ (∀ x ∈ X, ok x)) := Lib.hid ⟨by rw [HPs.out, ← rnd_on lt F hr0 hrn]; exact HR.out.1, fun x hx => HR.out.2 x ((pas_perm lt hr0 F).mem_iff.1 (by rw [← HPs.out]; exact hx))⟩
              clear HPs HX HR
              go_wp2_with fail
              go_region_held3 (fun W' => Below w.heap.size w W') (first | assumption | exact HI.out.below | exact HI.out.below.drew) (fail)
              go_wp2_with fail
              go_roundg (L.length - 2 * run)
              case measure => omega
              case rel => exact ⟨2 * run, kt, cap, kf, cf, X, rfl, by omega, by omega, by congr 1; omega, rfl, rfl, hXL, HR2, by first | exact HS2 _ HI.out | exact HS2 _ HI.out.drew⟩
        · go_wp2_with fail
          go_ret
          have hrn : ¬ run < L.length := by omega
          have hR := HR.out.1
          rw [rnd_off lt _ hrn] at hR
          have hO := HS.out.own5
          rw [hFl, hR] at hO
          exact ⟨_, rfl, hO, HS.out.below⟩
end Go.Proofs.Ytenfaejdnphngaa
