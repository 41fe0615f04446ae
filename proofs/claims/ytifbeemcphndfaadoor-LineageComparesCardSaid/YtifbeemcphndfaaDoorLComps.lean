/- lineage: the walk of the law LineageCompares. -/
import Derived.Test.YtifbeemcphndfaaDoorLOrder
set_option linter.unusedVariables false
namespace Go.Proofs.YtifbeemcphndfaaDoor
open Go.RowKit

set_option maxHeartbeats 8000000 in
set_option maxRecDepth 100000 in
theorem lineageCompares_walk (S0 S1 S2 : ByteArray) (w : World) (hP : Pow w) (hS0 : S0.size ≤ maxLen) (hS1 : S1.size ≤ maxLen) (hS2 : S2.size ≤ maxLen) :
    Calls Tryd.prog 8 #[.string S0, .string S1, .string S2] w fun e w' => e = .returned (.bool true) ∧ Below w.heap.size w w' := by
  obtain ⟨a, ha⟩ : ∃ a, a = shortN S0 := ⟨_, rfl⟩
  obtain ⟨b, hb⟩ : ∃ b, b = shortN S1 := ⟨_, rfl⟩
  obtain ⟨c, hc⟩ : ∃ c, c = shortN S2 := ⟨_, rfl⟩
  have H0 : Hid (∀ W, Calls Tryd.prog 21 #[.string S0] W fun e w' => e = .returned (.string a) ∧ w' = W) := Lib.hid fun W => by rw [ha]; exact short_any S0 W hS0
  have H1 : Hid (∀ W, Calls Tryd.prog 21 #[.string S1] W fun e w' => e = .returned (.string b) ∧ w' = W) := Lib.hid fun W => by rw [hb]; exact short_any S1 W hS1
  have H2 : Hid (∀ W, Calls Tryd.prog 21 #[.string S2] W fun e w' => e = .returned (.string c) ∧ w' = W) := Lib.hid fun W => by rw [hc]; exact short_any S2 W hS2
  have za : a.size ≤ 1000000 := by rw [ha]; have := shortN_size S0; omega
  have zb : b.size ≤ 1000000 := by rw [hb]; have := shortN_size S1; omega
  have zc : c.size ≤ 1000000 := by rw [hc]; have := shortN_size S2; omega
  clear ha hb hc hS0 hS1 hS2
  have HK : Hid (∀ W, Below w.heap.size w W → Calls Tryd.prog 14 #[] W fun e w' => e = .returned (.bool true) ∧ Below W.heap.size W w') := Lib.hid fun W hb => known_any W (hP.below hb hP.lt)
  obtain ⟨X, hX⟩ : ∃ X : ByteArray, X = ⟨(comB a.data.toList c.data.toList).toArray⟩ := ⟨_, rfl⟩
  have hXl : X.data.toList = comB a.data.toList c.data.toList := by rw [hX]
  have zx : X.size ≤ 1000000 := by
    rw [hX]; show (comB a.data.toList c.data.toList).toArray.size ≤ _
    rw [List.size_toArray]; have := com_size a.data.toList c.data.toList; omega
  obtain ⟨x, hx⟩ : ∃ x, x = compareB a.data.toList b.data.toList := ⟨_, rfl⟩
  obtain ⟨y, hy⟩ : ∃ y, y = compareB b.data.toList c.data.toList := ⟨_, rfl⟩
  obtain ⟨z, hz⟩ : ∃ z, z = compareB a.data.toList c.data.toList := ⟨_, rfl⟩
  obtain ⟨i, hi⟩ : ∃ i, i = withinB b.data.toList a.data.toList := ⟨_, rfl⟩
  obtain ⟨va, hva⟩ : ∃ v, v = validB a.data.toList := ⟨_, rfl⟩
  obtain ⟨vc, hvc⟩ : ∃ v, v = validB c.data.toList := ⟨_, rfl⟩
  obtain ⟨j, hj⟩ : ∃ j, j = withinB b.data.toList X.data.toList := ⟨_, rfl⟩
  have Kab : Hid (∀ W, Calls Tryd.prog 31 #[.string a, .string b] W fun e w' => e = .returned (.int .i64 x) ∧ Below W.heap.size W w') := Lib.hid fun W => by rw [hx]; exact compare_any a b W za zb
  have Kba : Hid (∀ W, Calls Tryd.prog 31 #[.string b, .string a] W fun e w' => e = .returned (.int .i64 (-x)) ∧ Below W.heap.size W w') := Lib.hid fun W => by rw [hx, ← cmpB_neg]; exact compare_any b a W zb za
  have Kbc : Hid (∀ W, Calls Tryd.prog 31 #[.string b, .string c] W fun e w' => e = .returned (.int .i64 y) ∧ Below W.heap.size W w') := Lib.hid fun W => by rw [hy]; exact compare_any b c W zb zc
  have Kac : Hid (∀ W, Calls Tryd.prog 31 #[.string a, .string c] W fun e w' => e = .returned (.int .i64 z) ∧ Below W.heap.size W w') := Lib.hid fun W => by rw [hz]; exact compare_any a c W za zc
  have Rab : Hid (∀ W, Calls Tryd.prog 32 #[.string a, .string b] W fun e w' => e = .returned (.int .i64 x) ∧ Below W.heap.size W w') := Lib.hid fun W => by rw [hx]; exact refCompare_any a b W za zb
  have Cac : Hid (∀ W, Below w.heap.size w W → Calls Tryd.prog 29 #[.string a, .string c] W fun e w' => e = .returned (.string X) ∧ Below W.heap.size W w') := Lib.hid fun W hb => by rw [hX]; exact common_any a c W za zc (hP.below hb hP.lt) _ _ rfl rfl
  have Wba : Hid (∀ W, Calls Tryd.prog 27 #[.string b, .string a] W fun e w' => e = .returned (.bool i) ∧ Below W.heap.size W w') := Lib.hid fun W => by rw [hi]; exact within_any b a W zb za
  have Wbx : Hid (∀ W, Calls Tryd.prog 27 #[.string b, .string X] W fun e w' => e = .returned (.bool j) ∧ Below W.heap.size W w') := Lib.hid fun W => by rw [hj]; exact within_any b X W zb zx
  have Va : Hid (∀ W, Calls Tryd.prog 18 #[.string a] W fun e w' => e = .returned (.bool va) ∧ Below W.heap.size W w') := Lib.hid fun W => by rw [hva]; exact valid_any a W za
  have Vc : Hid (∀ W, Calls Tryd.prog 18 #[.string c] W fun e w' => e = .returned (.bool vc) ∧ Below W.heap.size W w') := Lib.hid fun W => by rw [hvc]; exact valid_any c W zc
  have hr1 : -1 ≤ x := by rw [hx]; exact (cmpB_range _ _).1
  have hr2 : x ≤ 1 := by rw [hx]; exact (cmpB_range _ _).2
  have wn : IntKind.i64.wrap (-x) = -x := by rw [IntKind.wrap_i64]; omega
  have wn2 : wrap64 (-x) = -x := by unfold wrap64; omega
  obtain ⟨q, hq⟩ : ∃ q : Bool, q = (x == 0) := ⟨_, rfl⟩
  have hq1 : (x == 0) = q := hq.symm
  have hq2 : (a.toList == b.toList) = q := by
    rw [hq, Bool.eq_iff_iff, beq_iff_eq, beq_iff_eq, hx, cmpB_zero, toList_data, toList_data]
  have HZ : Hid (x ≤ 0 → y ≤ 0 → z ≤ 0) := Lib.hid fun h1 h2 => by rw [hz]; exact cmpB_trans (by rw [← hx]; exact h1) (by rw [← hy]; exact h2)
  have HI : Hid (i = true → x ≤ 0) := Lib.hid fun h => by rw [hx]; exact cmpB_within (by rw [← hi]; exact h)
  have HJ : Hid (va = true → vc = true → x ≤ 0 → y ≤ 0 → j = true) := Lib.hid fun h1 h2 h3 h4 => by
    rw [hj, hXl]
    exact cmpB_between (by rw [← hva]; exact h1) (by rw [← hvc]; exact h2) (by rw [← hx]; exact h3) (by rw [← hy]; exact h4)
  have HB := Lib.hid (Below.refl w.heap.size w)
  clear hx hy hz hi hva hvc hj hq hP za zb zc hX hXl zx
  by_cases x0 : x ≤ 0
  · have x1 : ¬ 0 < x := by omega
    by_cases y0 : y ≤ 0
    · have y1 : ¬ 0 < y := by omega
      have z1 : ¬ 0 < z := by have := HZ.out x0 y0; omega
      cases va with
      | false =>
        clear HJ HI HZ
        cases i
        all_goals
         go_enter Tryd.func8, Tryd.ntmps8
         go_wp2_with (first
           | (go_at_call 21; (with_reducible refine (H0.out _).mono ?_); rintro e W1 ⟨rfl, rfl⟩)
           | (go_at_call 21; (with_reducible refine (H1.out _).mono ?_); rintro e W1 ⟨rfl, rfl⟩)
           | (go_at_call 21; (with_reducible refine (H2.out _).mono ?_); rintro e W1 ⟨rfl, rfl⟩)
           | (go_at_call 14; (with_reducible refine (HK.out _ HB.out).mono ?_); rintro e W1 ⟨rfl, hb⟩; replace HB := Lib.hid (HB.out.trans (hb.mono HB.out.size)); clear hb)
           | (go_at_call 31; (with_reducible refine (Kab.out _).mono ?_); rintro e W1 ⟨rfl, hb⟩; replace HB := Lib.hid (HB.out.trans (hb.mono HB.out.size)); clear hb)
           | (go_at_call 31; (with_reducible refine (Kba.out _).mono ?_); rintro e W1 ⟨rfl, hb⟩; replace HB := Lib.hid (HB.out.trans (hb.mono HB.out.size)); clear hb)
           | (go_at_call 31; (with_reducible refine (Kbc.out _).mono ?_); rintro e W1 ⟨rfl, hb⟩; replace HB := Lib.hid (HB.out.trans (hb.mono HB.out.size)); clear hb)
           | (go_at_call 31; (with_reducible refine (Kac.out _).mono ?_); rintro e W1 ⟨rfl, hb⟩; replace HB := Lib.hid (HB.out.trans (hb.mono HB.out.size)); clear hb)
           | (go_at_call 32; (with_reducible refine (Rab.out _).mono ?_); rintro e W1 ⟨rfl, hb⟩; replace HB := Lib.hid (HB.out.trans (hb.mono HB.out.size)); clear hb)
           | (go_at_call 29; (with_reducible refine (Cac.out _ HB.out).mono ?_); rintro e W1 ⟨rfl, hb⟩; replace HB := Lib.hid (HB.out.trans (hb.mono HB.out.size)); clear hb)
           | (go_at_call 27; (with_reducible refine (Wba.out _).mono ?_); rintro e W1 ⟨rfl, hb⟩; replace HB := Lib.hid (HB.out.trans (hb.mono HB.out.size)); clear hb)
           | (go_at_call 27; (with_reducible refine (Wbx.out _).mono ?_); rintro e W1 ⟨rfl, hb⟩; replace HB := Lib.hid (HB.out.trans (hb.mono HB.out.size)); clear hb)
           | (go_at_call 18; (with_reducible refine (Va.out _).mono ?_); rintro e W1 ⟨rfl, hb⟩; replace HB := Lib.hid (HB.out.trans (hb.mono HB.out.size)); clear hb)
           | (go_at_call 18; (with_reducible refine (Vc.out _).mono ?_); rintro e W1 ⟨rfl, hb⟩; replace HB := Lib.hid (HB.out.trans (hb.mono HB.out.size)); clear hb))
         go_ret
         exact ⟨rfl, HB.out⟩
      | true => cases vc with
        | false =>
          clear HJ HI HZ
          cases i
          all_goals
           go_enter Tryd.func8, Tryd.ntmps8
           go_wp2_with (first
             | (go_at_call 21; (with_reducible refine (H0.out _).mono ?_); rintro e W1 ⟨rfl, rfl⟩)
             | (go_at_call 21; (with_reducible refine (H1.out _).mono ?_); rintro e W1 ⟨rfl, rfl⟩)
             | (go_at_call 21; (with_reducible refine (H2.out _).mono ?_); rintro e W1 ⟨rfl, rfl⟩)
             | (go_at_call 14; (with_reducible refine (HK.out _ HB.out).mono ?_); rintro e W1 ⟨rfl, hb⟩; replace HB := Lib.hid (HB.out.trans (hb.mono HB.out.size)); clear hb)
             | (go_at_call 31; (with_reducible refine (Kab.out _).mono ?_); rintro e W1 ⟨rfl, hb⟩; replace HB := Lib.hid (HB.out.trans (hb.mono HB.out.size)); clear hb)
             | (go_at_call 31; (with_reducible refine (Kba.out _).mono ?_); rintro e W1 ⟨rfl, hb⟩; replace HB := Lib.hid (HB.out.trans (hb.mono HB.out.size)); clear hb)
             | (go_at_call 31; (with_reducible refine (Kbc.out _).mono ?_); rintro e W1 ⟨rfl, hb⟩; replace HB := Lib.hid (HB.out.trans (hb.mono HB.out.size)); clear hb)
             | (go_at_call 31; (with_reducible refine (Kac.out _).mono ?_); rintro e W1 ⟨rfl, hb⟩; replace HB := Lib.hid (HB.out.trans (hb.mono HB.out.size)); clear hb)
             | (go_at_call 32; (with_reducible refine (Rab.out _).mono ?_); rintro e W1 ⟨rfl, hb⟩; replace HB := Lib.hid (HB.out.trans (hb.mono HB.out.size)); clear hb)
             | (go_at_call 29; (with_reducible refine (Cac.out _ HB.out).mono ?_); rintro e W1 ⟨rfl, hb⟩; replace HB := Lib.hid (HB.out.trans (hb.mono HB.out.size)); clear hb)
             | (go_at_call 27; (with_reducible refine (Wba.out _).mono ?_); rintro e W1 ⟨rfl, hb⟩; replace HB := Lib.hid (HB.out.trans (hb.mono HB.out.size)); clear hb)
             | (go_at_call 27; (with_reducible refine (Wbx.out _).mono ?_); rintro e W1 ⟨rfl, hb⟩; replace HB := Lib.hid (HB.out.trans (hb.mono HB.out.size)); clear hb)
             | (go_at_call 18; (with_reducible refine (Va.out _).mono ?_); rintro e W1 ⟨rfl, hb⟩; replace HB := Lib.hid (HB.out.trans (hb.mono HB.out.size)); clear hb)
             | (go_at_call 18; (with_reducible refine (Vc.out _).mono ?_); rintro e W1 ⟨rfl, hb⟩; replace HB := Lib.hid (HB.out.trans (hb.mono HB.out.size)); clear hb))
           go_ret
           exact ⟨rfl, HB.out⟩
        | true =>
          obtain rfl := HJ.out rfl rfl x0 y0
          clear HJ HI HZ
          cases i
          all_goals
           go_enter Tryd.func8, Tryd.ntmps8
           go_wp2_with (first
             | (go_at_call 21; (with_reducible refine (H0.out _).mono ?_); rintro e W1 ⟨rfl, rfl⟩)
             | (go_at_call 21; (with_reducible refine (H1.out _).mono ?_); rintro e W1 ⟨rfl, rfl⟩)
             | (go_at_call 21; (with_reducible refine (H2.out _).mono ?_); rintro e W1 ⟨rfl, rfl⟩)
             | (go_at_call 14; (with_reducible refine (HK.out _ HB.out).mono ?_); rintro e W1 ⟨rfl, hb⟩; replace HB := Lib.hid (HB.out.trans (hb.mono HB.out.size)); clear hb)
             | (go_at_call 31; (with_reducible refine (Kab.out _).mono ?_); rintro e W1 ⟨rfl, hb⟩; replace HB := Lib.hid (HB.out.trans (hb.mono HB.out.size)); clear hb)
             | (go_at_call 31; (with_reducible refine (Kba.out _).mono ?_); rintro e W1 ⟨rfl, hb⟩; replace HB := Lib.hid (HB.out.trans (hb.mono HB.out.size)); clear hb)
             | (go_at_call 31; (with_reducible refine (Kbc.out _).mono ?_); rintro e W1 ⟨rfl, hb⟩; replace HB := Lib.hid (HB.out.trans (hb.mono HB.out.size)); clear hb)
             | (go_at_call 31; (with_reducible refine (Kac.out _).mono ?_); rintro e W1 ⟨rfl, hb⟩; replace HB := Lib.hid (HB.out.trans (hb.mono HB.out.size)); clear hb)
             | (go_at_call 32; (with_reducible refine (Rab.out _).mono ?_); rintro e W1 ⟨rfl, hb⟩; replace HB := Lib.hid (HB.out.trans (hb.mono HB.out.size)); clear hb)
             | (go_at_call 29; (with_reducible refine (Cac.out _ HB.out).mono ?_); rintro e W1 ⟨rfl, hb⟩; replace HB := Lib.hid (HB.out.trans (hb.mono HB.out.size)); clear hb)
             | (go_at_call 27; (with_reducible refine (Wba.out _).mono ?_); rintro e W1 ⟨rfl, hb⟩; replace HB := Lib.hid (HB.out.trans (hb.mono HB.out.size)); clear hb)
             | (go_at_call 27; (with_reducible refine (Wbx.out _).mono ?_); rintro e W1 ⟨rfl, hb⟩; replace HB := Lib.hid (HB.out.trans (hb.mono HB.out.size)); clear hb)
             | (go_at_call 18; (with_reducible refine (Va.out _).mono ?_); rintro e W1 ⟨rfl, hb⟩; replace HB := Lib.hid (HB.out.trans (hb.mono HB.out.size)); clear hb)
             | (go_at_call 18; (with_reducible refine (Vc.out _).mono ?_); rintro e W1 ⟨rfl, hb⟩; replace HB := Lib.hid (HB.out.trans (hb.mono HB.out.size)); clear hb))
           go_ret
           exact ⟨rfl, HB.out⟩
    · have y1 : 0 < y := by omega
      clear HJ HI HZ
      cases va
      · cases i
        all_goals
         go_enter Tryd.func8, Tryd.ntmps8
         go_wp2_with (first
           | (go_at_call 21; (with_reducible refine (H0.out _).mono ?_); rintro e W1 ⟨rfl, rfl⟩)
           | (go_at_call 21; (with_reducible refine (H1.out _).mono ?_); rintro e W1 ⟨rfl, rfl⟩)
           | (go_at_call 21; (with_reducible refine (H2.out _).mono ?_); rintro e W1 ⟨rfl, rfl⟩)
           | (go_at_call 14; (with_reducible refine (HK.out _ HB.out).mono ?_); rintro e W1 ⟨rfl, hb⟩; replace HB := Lib.hid (HB.out.trans (hb.mono HB.out.size)); clear hb)
           | (go_at_call 31; (with_reducible refine (Kab.out _).mono ?_); rintro e W1 ⟨rfl, hb⟩; replace HB := Lib.hid (HB.out.trans (hb.mono HB.out.size)); clear hb)
           | (go_at_call 31; (with_reducible refine (Kba.out _).mono ?_); rintro e W1 ⟨rfl, hb⟩; replace HB := Lib.hid (HB.out.trans (hb.mono HB.out.size)); clear hb)
           | (go_at_call 31; (with_reducible refine (Kbc.out _).mono ?_); rintro e W1 ⟨rfl, hb⟩; replace HB := Lib.hid (HB.out.trans (hb.mono HB.out.size)); clear hb)
           | (go_at_call 31; (with_reducible refine (Kac.out _).mono ?_); rintro e W1 ⟨rfl, hb⟩; replace HB := Lib.hid (HB.out.trans (hb.mono HB.out.size)); clear hb)
           | (go_at_call 32; (with_reducible refine (Rab.out _).mono ?_); rintro e W1 ⟨rfl, hb⟩; replace HB := Lib.hid (HB.out.trans (hb.mono HB.out.size)); clear hb)
           | (go_at_call 29; (with_reducible refine (Cac.out _ HB.out).mono ?_); rintro e W1 ⟨rfl, hb⟩; replace HB := Lib.hid (HB.out.trans (hb.mono HB.out.size)); clear hb)
           | (go_at_call 27; (with_reducible refine (Wba.out _).mono ?_); rintro e W1 ⟨rfl, hb⟩; replace HB := Lib.hid (HB.out.trans (hb.mono HB.out.size)); clear hb)
           | (go_at_call 27; (with_reducible refine (Wbx.out _).mono ?_); rintro e W1 ⟨rfl, hb⟩; replace HB := Lib.hid (HB.out.trans (hb.mono HB.out.size)); clear hb)
           | (go_at_call 18; (with_reducible refine (Va.out _).mono ?_); rintro e W1 ⟨rfl, hb⟩; replace HB := Lib.hid (HB.out.trans (hb.mono HB.out.size)); clear hb)
           | (go_at_call 18; (with_reducible refine (Vc.out _).mono ?_); rintro e W1 ⟨rfl, hb⟩; replace HB := Lib.hid (HB.out.trans (hb.mono HB.out.size)); clear hb))
         go_ret
         exact ⟨rfl, HB.out⟩
      · cases vc
        · cases i
          all_goals
           go_enter Tryd.func8, Tryd.ntmps8
           go_wp2_with (first
             | (go_at_call 21; (with_reducible refine (H0.out _).mono ?_); rintro e W1 ⟨rfl, rfl⟩)
             | (go_at_call 21; (with_reducible refine (H1.out _).mono ?_); rintro e W1 ⟨rfl, rfl⟩)
             | (go_at_call 21; (with_reducible refine (H2.out _).mono ?_); rintro e W1 ⟨rfl, rfl⟩)
             | (go_at_call 14; (with_reducible refine (HK.out _ HB.out).mono ?_); rintro e W1 ⟨rfl, hb⟩; replace HB := Lib.hid (HB.out.trans (hb.mono HB.out.size)); clear hb)
             | (go_at_call 31; (with_reducible refine (Kab.out _).mono ?_); rintro e W1 ⟨rfl, hb⟩; replace HB := Lib.hid (HB.out.trans (hb.mono HB.out.size)); clear hb)
             | (go_at_call 31; (with_reducible refine (Kba.out _).mono ?_); rintro e W1 ⟨rfl, hb⟩; replace HB := Lib.hid (HB.out.trans (hb.mono HB.out.size)); clear hb)
             | (go_at_call 31; (with_reducible refine (Kbc.out _).mono ?_); rintro e W1 ⟨rfl, hb⟩; replace HB := Lib.hid (HB.out.trans (hb.mono HB.out.size)); clear hb)
             | (go_at_call 31; (with_reducible refine (Kac.out _).mono ?_); rintro e W1 ⟨rfl, hb⟩; replace HB := Lib.hid (HB.out.trans (hb.mono HB.out.size)); clear hb)
             | (go_at_call 32; (with_reducible refine (Rab.out _).mono ?_); rintro e W1 ⟨rfl, hb⟩; replace HB := Lib.hid (HB.out.trans (hb.mono HB.out.size)); clear hb)
             | (go_at_call 29; (with_reducible refine (Cac.out _ HB.out).mono ?_); rintro e W1 ⟨rfl, hb⟩; replace HB := Lib.hid (HB.out.trans (hb.mono HB.out.size)); clear hb)
             | (go_at_call 27; (with_reducible refine (Wba.out _).mono ?_); rintro e W1 ⟨rfl, hb⟩; replace HB := Lib.hid (HB.out.trans (hb.mono HB.out.size)); clear hb)
             | (go_at_call 27; (with_reducible refine (Wbx.out _).mono ?_); rintro e W1 ⟨rfl, hb⟩; replace HB := Lib.hid (HB.out.trans (hb.mono HB.out.size)); clear hb)
             | (go_at_call 18; (with_reducible refine (Va.out _).mono ?_); rintro e W1 ⟨rfl, hb⟩; replace HB := Lib.hid (HB.out.trans (hb.mono HB.out.size)); clear hb)
             | (go_at_call 18; (with_reducible refine (Vc.out _).mono ?_); rintro e W1 ⟨rfl, hb⟩; replace HB := Lib.hid (HB.out.trans (hb.mono HB.out.size)); clear hb))
           go_ret
           exact ⟨rfl, HB.out⟩
        · cases i
          all_goals
           go_enter Tryd.func8, Tryd.ntmps8
           go_wp2_with (first
             | (go_at_call 21; (with_reducible refine (H0.out _).mono ?_); rintro e W1 ⟨rfl, rfl⟩)
             | (go_at_call 21; (with_reducible refine (H1.out _).mono ?_); rintro e W1 ⟨rfl, rfl⟩)
             | (go_at_call 21; (with_reducible refine (H2.out _).mono ?_); rintro e W1 ⟨rfl, rfl⟩)
             | (go_at_call 14; (with_reducible refine (HK.out _ HB.out).mono ?_); rintro e W1 ⟨rfl, hb⟩; replace HB := Lib.hid (HB.out.trans (hb.mono HB.out.size)); clear hb)
             | (go_at_call 31; (with_reducible refine (Kab.out _).mono ?_); rintro e W1 ⟨rfl, hb⟩; replace HB := Lib.hid (HB.out.trans (hb.mono HB.out.size)); clear hb)
             | (go_at_call 31; (with_reducible refine (Kba.out _).mono ?_); rintro e W1 ⟨rfl, hb⟩; replace HB := Lib.hid (HB.out.trans (hb.mono HB.out.size)); clear hb)
             | (go_at_call 31; (with_reducible refine (Kbc.out _).mono ?_); rintro e W1 ⟨rfl, hb⟩; replace HB := Lib.hid (HB.out.trans (hb.mono HB.out.size)); clear hb)
             | (go_at_call 31; (with_reducible refine (Kac.out _).mono ?_); rintro e W1 ⟨rfl, hb⟩; replace HB := Lib.hid (HB.out.trans (hb.mono HB.out.size)); clear hb)
             | (go_at_call 32; (with_reducible refine (Rab.out _).mono ?_); rintro e W1 ⟨rfl, hb⟩; replace HB := Lib.hid (HB.out.trans (hb.mono HB.out.size)); clear hb)
             | (go_at_call 29; (with_reducible refine (Cac.out _ HB.out).mono ?_); rintro e W1 ⟨rfl, hb⟩; replace HB := Lib.hid (HB.out.trans (hb.mono HB.out.size)); clear hb)
             | (go_at_call 27; (with_reducible refine (Wba.out _).mono ?_); rintro e W1 ⟨rfl, hb⟩; replace HB := Lib.hid (HB.out.trans (hb.mono HB.out.size)); clear hb)
             | (go_at_call 27; (with_reducible refine (Wbx.out _).mono ?_); rintro e W1 ⟨rfl, hb⟩; replace HB := Lib.hid (HB.out.trans (hb.mono HB.out.size)); clear hb)
             | (go_at_call 18; (with_reducible refine (Va.out _).mono ?_); rintro e W1 ⟨rfl, hb⟩; replace HB := Lib.hid (HB.out.trans (hb.mono HB.out.size)); clear hb)
             | (go_at_call 18; (with_reducible refine (Vc.out _).mono ?_); rintro e W1 ⟨rfl, hb⟩; replace HB := Lib.hid (HB.out.trans (hb.mono HB.out.size)); clear hb))
           go_ret
           exact ⟨rfl, HB.out⟩
  · have x1 : 0 < x := by omega
    have hi : i = false := by
      cases i with
      | false => rfl
      | true => exact absurd (HI.out rfl) x0
    subst hi
    clear HJ HI HZ
    cases va
    · skip
      go_enter Tryd.func8, Tryd.ntmps8
      go_wp2_with (first
        | (go_at_call 21; (with_reducible refine (H0.out _).mono ?_); rintro e W1 ⟨rfl, rfl⟩)
        | (go_at_call 21; (with_reducible refine (H1.out _).mono ?_); rintro e W1 ⟨rfl, rfl⟩)
        | (go_at_call 21; (with_reducible refine (H2.out _).mono ?_); rintro e W1 ⟨rfl, rfl⟩)
        | (go_at_call 14; (with_reducible refine (HK.out _ HB.out).mono ?_); rintro e W1 ⟨rfl, hb⟩; replace HB := Lib.hid (HB.out.trans (hb.mono HB.out.size)); clear hb)
        | (go_at_call 31; (with_reducible refine (Kab.out _).mono ?_); rintro e W1 ⟨rfl, hb⟩; replace HB := Lib.hid (HB.out.trans (hb.mono HB.out.size)); clear hb)
        | (go_at_call 31; (with_reducible refine (Kba.out _).mono ?_); rintro e W1 ⟨rfl, hb⟩; replace HB := Lib.hid (HB.out.trans (hb.mono HB.out.size)); clear hb)
        | (go_at_call 31; (with_reducible refine (Kbc.out _).mono ?_); rintro e W1 ⟨rfl, hb⟩; replace HB := Lib.hid (HB.out.trans (hb.mono HB.out.size)); clear hb)
        | (go_at_call 31; (with_reducible refine (Kac.out _).mono ?_); rintro e W1 ⟨rfl, hb⟩; replace HB := Lib.hid (HB.out.trans (hb.mono HB.out.size)); clear hb)
        | (go_at_call 32; (with_reducible refine (Rab.out _).mono ?_); rintro e W1 ⟨rfl, hb⟩; replace HB := Lib.hid (HB.out.trans (hb.mono HB.out.size)); clear hb)
        | (go_at_call 29; (with_reducible refine (Cac.out _ HB.out).mono ?_); rintro e W1 ⟨rfl, hb⟩; replace HB := Lib.hid (HB.out.trans (hb.mono HB.out.size)); clear hb)
        | (go_at_call 27; (with_reducible refine (Wba.out _).mono ?_); rintro e W1 ⟨rfl, hb⟩; replace HB := Lib.hid (HB.out.trans (hb.mono HB.out.size)); clear hb)
        | (go_at_call 27; (with_reducible refine (Wbx.out _).mono ?_); rintro e W1 ⟨rfl, hb⟩; replace HB := Lib.hid (HB.out.trans (hb.mono HB.out.size)); clear hb)
        | (go_at_call 18; (with_reducible refine (Va.out _).mono ?_); rintro e W1 ⟨rfl, hb⟩; replace HB := Lib.hid (HB.out.trans (hb.mono HB.out.size)); clear hb)
        | (go_at_call 18; (with_reducible refine (Vc.out _).mono ?_); rintro e W1 ⟨rfl, hb⟩; replace HB := Lib.hid (HB.out.trans (hb.mono HB.out.size)); clear hb))
      go_ret
      exact ⟨rfl, HB.out⟩
    · cases vc
      all_goals
       go_enter Tryd.func8, Tryd.ntmps8
       go_wp2_with (first
         | (go_at_call 21; (with_reducible refine (H0.out _).mono ?_); rintro e W1 ⟨rfl, rfl⟩)
         | (go_at_call 21; (with_reducible refine (H1.out _).mono ?_); rintro e W1 ⟨rfl, rfl⟩)
         | (go_at_call 21; (with_reducible refine (H2.out _).mono ?_); rintro e W1 ⟨rfl, rfl⟩)
         | (go_at_call 14; (with_reducible refine (HK.out _ HB.out).mono ?_); rintro e W1 ⟨rfl, hb⟩; replace HB := Lib.hid (HB.out.trans (hb.mono HB.out.size)); clear hb)
         | (go_at_call 31; (with_reducible refine (Kab.out _).mono ?_); rintro e W1 ⟨rfl, hb⟩; replace HB := Lib.hid (HB.out.trans (hb.mono HB.out.size)); clear hb)
         | (go_at_call 31; (with_reducible refine (Kba.out _).mono ?_); rintro e W1 ⟨rfl, hb⟩; replace HB := Lib.hid (HB.out.trans (hb.mono HB.out.size)); clear hb)
         | (go_at_call 31; (with_reducible refine (Kbc.out _).mono ?_); rintro e W1 ⟨rfl, hb⟩; replace HB := Lib.hid (HB.out.trans (hb.mono HB.out.size)); clear hb)
         | (go_at_call 31; (with_reducible refine (Kac.out _).mono ?_); rintro e W1 ⟨rfl, hb⟩; replace HB := Lib.hid (HB.out.trans (hb.mono HB.out.size)); clear hb)
         | (go_at_call 32; (with_reducible refine (Rab.out _).mono ?_); rintro e W1 ⟨rfl, hb⟩; replace HB := Lib.hid (HB.out.trans (hb.mono HB.out.size)); clear hb)
         | (go_at_call 29; (with_reducible refine (Cac.out _ HB.out).mono ?_); rintro e W1 ⟨rfl, hb⟩; replace HB := Lib.hid (HB.out.trans (hb.mono HB.out.size)); clear hb)
         | (go_at_call 27; (with_reducible refine (Wba.out _).mono ?_); rintro e W1 ⟨rfl, hb⟩; replace HB := Lib.hid (HB.out.trans (hb.mono HB.out.size)); clear hb)
         | (go_at_call 27; (with_reducible refine (Wbx.out _).mono ?_); rintro e W1 ⟨rfl, hb⟩; replace HB := Lib.hid (HB.out.trans (hb.mono HB.out.size)); clear hb)
         | (go_at_call 18; (with_reducible refine (Va.out _).mono ?_); rintro e W1 ⟨rfl, hb⟩; replace HB := Lib.hid (HB.out.trans (hb.mono HB.out.size)); clear hb)
         | (go_at_call 18; (with_reducible refine (Vc.out _).mono ?_); rintro e W1 ⟨rfl, hb⟩; replace HB := Lib.hid (HB.out.trans (hb.mono HB.out.size)); clear hb))
       go_ret
       exact ⟨rfl, HB.out⟩
end Go.Proofs.YtifbeemcphndfaaDoor
