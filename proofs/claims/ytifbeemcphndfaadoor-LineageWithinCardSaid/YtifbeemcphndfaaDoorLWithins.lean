/- lineage: the walk of the law LineageWithin. -/
import Derived.Test.YtifbeemcphndfaaDoorLShort
set_option linter.unusedVariables false
namespace Go.Proofs.YtifbeemcphndfaaDoor
open Go.RowKit

set_option maxHeartbeats 4000000 in
set_option maxRecDepth 100000 in
theorem lineageWithin_walk (S0 S1 S2 : ByteArray) (w : World) (hP : Pow w) (hS0 : S0.size ≤ maxLen) (hS1 : S1.size ≤ maxLen) (hS2 : S2.size ≤ maxLen) :
    Calls Tryd.prog 6 #[.string S0, .string S1, .string S2] w fun e w' => e = .returned (.bool true) ∧ Below w.heap.size w w' := by
  obtain ⟨a, ha⟩ : ∃ a, a = shortN S0 := ⟨_, rfl⟩
  obtain ⟨b, hb⟩ : ∃ b, b = shortN S1 := ⟨_, rfl⟩
  obtain ⟨c, hc⟩ : ∃ c, c = shortN S2 := ⟨_, rfl⟩
  have H0 : Hid (∀ W, Calls Tryd.prog 21 #[.string S0] W fun e w' => e = .returned (.string a) ∧ w' = W) := Lib.hid fun W => by rw [ha]; exact short_any S0 W hS0
  have H1 : Hid (∀ W, Calls Tryd.prog 21 #[.string S1] W fun e w' => e = .returned (.string b) ∧ w' = W) := Lib.hid fun W => by rw [hb]; exact short_any S1 W hS1
  have H2 : Hid (∀ W, Calls Tryd.prog 21 #[.string S2] W fun e w' => e = .returned (.string c) ∧ w' = W) := Lib.hid fun W => by rw [hc]; exact short_any S2 W hS2
  have za : a.size ≤ 1000000 := by rw [ha]; have := shortN_size S0; omega
  have zb : b.size ≤ 1000000 := by rw [hb]; have := shortN_size S1; omega
  have zc : c.size ≤ 1000000 := by rw [hc]; have := shortN_size S2; omega
  clear ha hb hc hS0 hS1 hS2
  have HK : Hid (∀ W, Below w.heap.size w W → Calls Tryd.prog 14 #[] W fun e w' => e = .returned (.bool true) ∧ Below W.heap.size W w') := Lib.hid fun W hb => known_any W (hP.below hb hP.lt)
  obtain ⟨p, hp⟩ : ∃ p, p = withinB a.data.toList b.data.toList := ⟨_, rfl⟩
  obtain ⟨q, hq⟩ : ∃ q, q = withinB b.data.toList a.data.toList := ⟨_, rfl⟩
  obtain ⟨r, hr⟩ : ∃ r, r = withinB b.data.toList c.data.toList := ⟨_, rfl⟩
  obtain ⟨s, hs⟩ : ∃ s, s = withinB a.data.toList c.data.toList := ⟨_, rfl⟩
  obtain ⟨v, hv⟩ : ∃ v, v = validB a.data.toList := ⟨_, rfl⟩
  have Wab : Hid (∀ W, Calls Tryd.prog 27 #[.string a, .string b] W fun e w' => e = .returned (.bool p) ∧ Below W.heap.size W w') := Lib.hid fun W => by rw [hp]; exact within_any a b W za zb
  have Wba : Hid (∀ W, Calls Tryd.prog 27 #[.string b, .string a] W fun e w' => e = .returned (.bool q) ∧ Below W.heap.size W w') := Lib.hid fun W => by rw [hq]; exact within_any b a W zb za
  have Wbc : Hid (∀ W, Calls Tryd.prog 27 #[.string b, .string c] W fun e w' => e = .returned (.bool r) ∧ Below W.heap.size W w') := Lib.hid fun W => by rw [hr]; exact within_any b c W zb zc
  have Wac : Hid (∀ W, Calls Tryd.prog 27 #[.string a, .string c] W fun e w' => e = .returned (.bool s) ∧ Below W.heap.size W w') := Lib.hid fun W => by rw [hs]; exact within_any a c W za zc
  have Waa : Hid (∀ W, Calls Tryd.prog 27 #[.string a, .string a] W fun e w' => e = .returned (.bool v) ∧ Below W.heap.size W w') := Lib.hid fun W => by rw [hv, ← within_refl]; exact within_any a a W za za
  have Wan : Hid (∀ W, Calls Tryd.prog 27 #[.string a, .string ⟨#[]⟩] W fun e w' => e = .returned (.bool v) ∧ Below W.heap.size W w') := Lib.hid fun W => by rw [hv, ← within_nil]; exact within_any a ⟨#[]⟩ W za (by decide)
  have Rab : Hid (∀ W, Calls Tryd.prog 28 #[.string a, .string b] W fun e w' => e = .returned (.bool p) ∧ Below W.heap.size W w') := Lib.hid fun W => by rw [hp]; exact refWithin_any a b W za zb
  have Rba : Hid (∀ W, Calls Tryd.prog 28 #[.string b, .string a] W fun e w' => e = .returned (.bool q) ∧ Below W.heap.size W w') := Lib.hid fun W => by rw [hq]; exact refWithin_any b a W zb za
  have Va : Hid (∀ W, Calls Tryd.prog 18 #[.string a] W fun e w' => e = .returned (.bool v) ∧ Below W.heap.size W w') := Lib.hid fun W => by rw [hv]; exact valid_any a W za
  have hanti : p = true → q = true → a.toList = b.toList := fun h1 h2 => by
    rw [toList_data, toList_data]; exact within_anti (by rw [← hp]; exact h1) (by rw [← hq]; exact h2)
  have htr : p = true → r = true → s = true := fun h1 h2 => by
    rw [hs]; exact within_trans (by rw [← hp]; exact h1) (by rw [← hr]; exact h2)
  have HB := Lib.hid (Below.refl w.heap.size w)
  clear hp hq hr hs hv hP za zb zc
  cases p with
  | false =>
    clear hanti htr
    go_enter Tryd.func6, Tryd.ntmps6
    go_wp2_with (first
      | (go_at_call 21; (with_reducible refine (H0.out _).mono ?_); rintro e W1 ⟨rfl, rfl⟩)
      | (go_at_call 21; (with_reducible refine (H1.out _).mono ?_); rintro e W1 ⟨rfl, rfl⟩)
      | (go_at_call 21; (with_reducible refine (H2.out _).mono ?_); rintro e W1 ⟨rfl, rfl⟩)
      | (go_at_call 14; (with_reducible refine (HK.out _ HB.out).mono ?_); rintro e W1 ⟨rfl, hb⟩; replace HB := Lib.hid (HB.out.trans (hb.mono HB.out.size)); clear hb)
      | (go_at_call 27; (with_reducible refine (Wab.out _).mono ?_); rintro e W1 ⟨rfl, hb⟩; replace HB := Lib.hid (HB.out.trans (hb.mono HB.out.size)); clear hb)
      | (go_at_call 27; (with_reducible refine (Wba.out _).mono ?_); rintro e W1 ⟨rfl, hb⟩; replace HB := Lib.hid (HB.out.trans (hb.mono HB.out.size)); clear hb)
      | (go_at_call 27; (with_reducible refine (Wbc.out _).mono ?_); rintro e W1 ⟨rfl, hb⟩; replace HB := Lib.hid (HB.out.trans (hb.mono HB.out.size)); clear hb)
      | (go_at_call 27; (with_reducible refine (Wac.out _).mono ?_); rintro e W1 ⟨rfl, hb⟩; replace HB := Lib.hid (HB.out.trans (hb.mono HB.out.size)); clear hb)
      | (go_at_call 27; (with_reducible refine (Waa.out _).mono ?_); rintro e W1 ⟨rfl, hb⟩; replace HB := Lib.hid (HB.out.trans (hb.mono HB.out.size)); clear hb)
      | (go_at_call 27; (with_reducible refine (Wan.out _).mono ?_); rintro e W1 ⟨rfl, hb⟩; replace HB := Lib.hid (HB.out.trans (hb.mono HB.out.size)); clear hb)
      | (go_at_call 28; (with_reducible refine (Rab.out _).mono ?_); rintro e W1 ⟨rfl, hb⟩; replace HB := Lib.hid (HB.out.trans (hb.mono HB.out.size)); clear hb)
      | (go_at_call 28; (with_reducible refine (Rba.out _).mono ?_); rintro e W1 ⟨rfl, hb⟩; replace HB := Lib.hid (HB.out.trans (hb.mono HB.out.size)); clear hb)
      | (go_at_call 18; (with_reducible refine (Va.out _).mono ?_); rintro e W1 ⟨rfl, hb⟩; replace HB := Lib.hid (HB.out.trans (hb.mono HB.out.size)); clear hb))
    go_ret
    exact ⟨rfl, HB.out⟩
  | true => cases q with
    | false => cases r with
      | false =>
        clear hanti htr
        go_enter Tryd.func6, Tryd.ntmps6
        go_wp2_with (first
          | (go_at_call 21; (with_reducible refine (H0.out _).mono ?_); rintro e W1 ⟨rfl, rfl⟩)
          | (go_at_call 21; (with_reducible refine (H1.out _).mono ?_); rintro e W1 ⟨rfl, rfl⟩)
          | (go_at_call 21; (with_reducible refine (H2.out _).mono ?_); rintro e W1 ⟨rfl, rfl⟩)
          | (go_at_call 14; (with_reducible refine (HK.out _ HB.out).mono ?_); rintro e W1 ⟨rfl, hb⟩; replace HB := Lib.hid (HB.out.trans (hb.mono HB.out.size)); clear hb)
          | (go_at_call 27; (with_reducible refine (Wab.out _).mono ?_); rintro e W1 ⟨rfl, hb⟩; replace HB := Lib.hid (HB.out.trans (hb.mono HB.out.size)); clear hb)
          | (go_at_call 27; (with_reducible refine (Wba.out _).mono ?_); rintro e W1 ⟨rfl, hb⟩; replace HB := Lib.hid (HB.out.trans (hb.mono HB.out.size)); clear hb)
          | (go_at_call 27; (with_reducible refine (Wbc.out _).mono ?_); rintro e W1 ⟨rfl, hb⟩; replace HB := Lib.hid (HB.out.trans (hb.mono HB.out.size)); clear hb)
          | (go_at_call 27; (with_reducible refine (Wac.out _).mono ?_); rintro e W1 ⟨rfl, hb⟩; replace HB := Lib.hid (HB.out.trans (hb.mono HB.out.size)); clear hb)
          | (go_at_call 27; (with_reducible refine (Waa.out _).mono ?_); rintro e W1 ⟨rfl, hb⟩; replace HB := Lib.hid (HB.out.trans (hb.mono HB.out.size)); clear hb)
          | (go_at_call 27; (with_reducible refine (Wan.out _).mono ?_); rintro e W1 ⟨rfl, hb⟩; replace HB := Lib.hid (HB.out.trans (hb.mono HB.out.size)); clear hb)
          | (go_at_call 28; (with_reducible refine (Rab.out _).mono ?_); rintro e W1 ⟨rfl, hb⟩; replace HB := Lib.hid (HB.out.trans (hb.mono HB.out.size)); clear hb)
          | (go_at_call 28; (with_reducible refine (Rba.out _).mono ?_); rintro e W1 ⟨rfl, hb⟩; replace HB := Lib.hid (HB.out.trans (hb.mono HB.out.size)); clear hb)
          | (go_at_call 18; (with_reducible refine (Va.out _).mono ?_); rintro e W1 ⟨rfl, hb⟩; replace HB := Lib.hid (HB.out.trans (hb.mono HB.out.size)); clear hb))
        go_ret
        exact ⟨rfl, HB.out⟩
      | true =>
        obtain rfl := htr rfl rfl
        clear hanti htr
        go_enter Tryd.func6, Tryd.ntmps6
        go_wp2_with (first
          | (go_at_call 21; (with_reducible refine (H0.out _).mono ?_); rintro e W1 ⟨rfl, rfl⟩)
          | (go_at_call 21; (with_reducible refine (H1.out _).mono ?_); rintro e W1 ⟨rfl, rfl⟩)
          | (go_at_call 21; (with_reducible refine (H2.out _).mono ?_); rintro e W1 ⟨rfl, rfl⟩)
          | (go_at_call 14; (with_reducible refine (HK.out _ HB.out).mono ?_); rintro e W1 ⟨rfl, hb⟩; replace HB := Lib.hid (HB.out.trans (hb.mono HB.out.size)); clear hb)
          | (go_at_call 27; (with_reducible refine (Wab.out _).mono ?_); rintro e W1 ⟨rfl, hb⟩; replace HB := Lib.hid (HB.out.trans (hb.mono HB.out.size)); clear hb)
          | (go_at_call 27; (with_reducible refine (Wba.out _).mono ?_); rintro e W1 ⟨rfl, hb⟩; replace HB := Lib.hid (HB.out.trans (hb.mono HB.out.size)); clear hb)
          | (go_at_call 27; (with_reducible refine (Wbc.out _).mono ?_); rintro e W1 ⟨rfl, hb⟩; replace HB := Lib.hid (HB.out.trans (hb.mono HB.out.size)); clear hb)
          | (go_at_call 27; (with_reducible refine (Wac.out _).mono ?_); rintro e W1 ⟨rfl, hb⟩; replace HB := Lib.hid (HB.out.trans (hb.mono HB.out.size)); clear hb)
          | (go_at_call 27; (with_reducible refine (Waa.out _).mono ?_); rintro e W1 ⟨rfl, hb⟩; replace HB := Lib.hid (HB.out.trans (hb.mono HB.out.size)); clear hb)
          | (go_at_call 27; (with_reducible refine (Wan.out _).mono ?_); rintro e W1 ⟨rfl, hb⟩; replace HB := Lib.hid (HB.out.trans (hb.mono HB.out.size)); clear hb)
          | (go_at_call 28; (with_reducible refine (Rab.out _).mono ?_); rintro e W1 ⟨rfl, hb⟩; replace HB := Lib.hid (HB.out.trans (hb.mono HB.out.size)); clear hb)
          | (go_at_call 28; (with_reducible refine (Rba.out _).mono ?_); rintro e W1 ⟨rfl, hb⟩; replace HB := Lib.hid (HB.out.trans (hb.mono HB.out.size)); clear hb)
          | (go_at_call 18; (with_reducible refine (Va.out _).mono ?_); rintro e W1 ⟨rfl, hb⟩; replace HB := Lib.hid (HB.out.trans (hb.mono HB.out.size)); clear hb))
        go_ret
        exact ⟨rfl, HB.out⟩
    | true =>
      have heq : (a.toList == b.toList) = true := by rw [hanti rfl rfl]; simp
      cases r with
      | false =>
        clear hanti htr
        go_enter Tryd.func6, Tryd.ntmps6
        go_wp2_with (first
          | (go_at_call 21; (with_reducible refine (H0.out _).mono ?_); rintro e W1 ⟨rfl, rfl⟩)
          | (go_at_call 21; (with_reducible refine (H1.out _).mono ?_); rintro e W1 ⟨rfl, rfl⟩)
          | (go_at_call 21; (with_reducible refine (H2.out _).mono ?_); rintro e W1 ⟨rfl, rfl⟩)
          | (go_at_call 14; (with_reducible refine (HK.out _ HB.out).mono ?_); rintro e W1 ⟨rfl, hb⟩; replace HB := Lib.hid (HB.out.trans (hb.mono HB.out.size)); clear hb)
          | (go_at_call 27; (with_reducible refine (Wab.out _).mono ?_); rintro e W1 ⟨rfl, hb⟩; replace HB := Lib.hid (HB.out.trans (hb.mono HB.out.size)); clear hb)
          | (go_at_call 27; (with_reducible refine (Wba.out _).mono ?_); rintro e W1 ⟨rfl, hb⟩; replace HB := Lib.hid (HB.out.trans (hb.mono HB.out.size)); clear hb)
          | (go_at_call 27; (with_reducible refine (Wbc.out _).mono ?_); rintro e W1 ⟨rfl, hb⟩; replace HB := Lib.hid (HB.out.trans (hb.mono HB.out.size)); clear hb)
          | (go_at_call 27; (with_reducible refine (Wac.out _).mono ?_); rintro e W1 ⟨rfl, hb⟩; replace HB := Lib.hid (HB.out.trans (hb.mono HB.out.size)); clear hb)
          | (go_at_call 27; (with_reducible refine (Waa.out _).mono ?_); rintro e W1 ⟨rfl, hb⟩; replace HB := Lib.hid (HB.out.trans (hb.mono HB.out.size)); clear hb)
          | (go_at_call 27; (with_reducible refine (Wan.out _).mono ?_); rintro e W1 ⟨rfl, hb⟩; replace HB := Lib.hid (HB.out.trans (hb.mono HB.out.size)); clear hb)
          | (go_at_call 28; (with_reducible refine (Rab.out _).mono ?_); rintro e W1 ⟨rfl, hb⟩; replace HB := Lib.hid (HB.out.trans (hb.mono HB.out.size)); clear hb)
          | (go_at_call 28; (with_reducible refine (Rba.out _).mono ?_); rintro e W1 ⟨rfl, hb⟩; replace HB := Lib.hid (HB.out.trans (hb.mono HB.out.size)); clear hb)
          | (go_at_call 18; (with_reducible refine (Va.out _).mono ?_); rintro e W1 ⟨rfl, hb⟩; replace HB := Lib.hid (HB.out.trans (hb.mono HB.out.size)); clear hb))
        go_ret
        exact ⟨rfl, HB.out⟩
      | true =>
        obtain rfl := htr rfl rfl
        clear hanti htr
        go_enter Tryd.func6, Tryd.ntmps6
        go_wp2_with (first
          | (go_at_call 21; (with_reducible refine (H0.out _).mono ?_); rintro e W1 ⟨rfl, rfl⟩)
          | (go_at_call 21; (with_reducible refine (H1.out _).mono ?_); rintro e W1 ⟨rfl, rfl⟩)
          | (go_at_call 21; (with_reducible refine (H2.out _).mono ?_); rintro e W1 ⟨rfl, rfl⟩)
          | (go_at_call 14; (with_reducible refine (HK.out _ HB.out).mono ?_); rintro e W1 ⟨rfl, hb⟩; replace HB := Lib.hid (HB.out.trans (hb.mono HB.out.size)); clear hb)
          | (go_at_call 27; (with_reducible refine (Wab.out _).mono ?_); rintro e W1 ⟨rfl, hb⟩; replace HB := Lib.hid (HB.out.trans (hb.mono HB.out.size)); clear hb)
          | (go_at_call 27; (with_reducible refine (Wba.out _).mono ?_); rintro e W1 ⟨rfl, hb⟩; replace HB := Lib.hid (HB.out.trans (hb.mono HB.out.size)); clear hb)
          | (go_at_call 27; (with_reducible refine (Wbc.out _).mono ?_); rintro e W1 ⟨rfl, hb⟩; replace HB := Lib.hid (HB.out.trans (hb.mono HB.out.size)); clear hb)
          | (go_at_call 27; (with_reducible refine (Wac.out _).mono ?_); rintro e W1 ⟨rfl, hb⟩; replace HB := Lib.hid (HB.out.trans (hb.mono HB.out.size)); clear hb)
          | (go_at_call 27; (with_reducible refine (Waa.out _).mono ?_); rintro e W1 ⟨rfl, hb⟩; replace HB := Lib.hid (HB.out.trans (hb.mono HB.out.size)); clear hb)
          | (go_at_call 27; (with_reducible refine (Wan.out _).mono ?_); rintro e W1 ⟨rfl, hb⟩; replace HB := Lib.hid (HB.out.trans (hb.mono HB.out.size)); clear hb)
          | (go_at_call 28; (with_reducible refine (Rab.out _).mono ?_); rintro e W1 ⟨rfl, hb⟩; replace HB := Lib.hid (HB.out.trans (hb.mono HB.out.size)); clear hb)
          | (go_at_call 28; (with_reducible refine (Rba.out _).mono ?_); rintro e W1 ⟨rfl, hb⟩; replace HB := Lib.hid (HB.out.trans (hb.mono HB.out.size)); clear hb)
          | (go_at_call 18; (with_reducible refine (Va.out _).mono ?_); rintro e W1 ⟨rfl, hb⟩; replace HB := Lib.hid (HB.out.trans (hb.mono HB.out.size)); clear hb))
        go_ret
        exact ⟨rfl, HB.out⟩
end Go.Proofs.YtifbeemcphndfaaDoor
