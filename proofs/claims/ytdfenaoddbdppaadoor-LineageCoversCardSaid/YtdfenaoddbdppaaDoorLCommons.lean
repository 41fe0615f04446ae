/- lineage: the walk of the law LineageCommon. -/
import Derived.Test.YtdfenaoddbdppaaDoorLShort
import Derived.Test.YtdfenaoddbdppaaDoorLNames
set_option linter.unusedVariables false
namespace Go.Proofs.YtdfenaoddbdppaaDoor
open Go.RowKit

/-- The common name of two texts. -/
def comB (s t : List UInt8) : List UInt8 := tx ((parseL s).1.take (sharedN (parseL s).1 (parseL t).1))
theorem shared_comm : ∀ x y : List Nat, sharedN x y = sharedN y x
  | [], [] => rfl
  | [], _ :: _ => rfl
  | _ :: _, [] => rfl
  | a :: x, b :: y => by
    rw [sharedN, sharedN]
    by_cases h : a = b
    · subst h; rw [if_pos rfl, if_pos rfl, shared_comm x y]
    · rw [if_neg h, if_neg (fun e => h e.symm)]
theorem shared_take : ∀ x y : List Nat, x.take (sharedN x y) = y.take (sharedN x y)
  | [], [] => rfl
  | [], _ :: _ => by simp [sharedN]
  | _ :: _, [] => by simp [sharedN]
  | a :: x, b :: y => by
    rw [sharedN]
    by_cases h : a = b
    · subst h; rw [if_pos rfl, List.take_succ_cons, List.take_succ_cons, shared_take x y]
    · rw [if_neg h]; rfl
theorem prefix_shared : ∀ (z x y : List Nat), z <+: x → z <+: y → z <+: x.take (sharedN x y)
  | [], _, _, _, _ => List.nil_prefix
  | c :: z, [], _, h, _ => by simp at h
  | c :: z, _ :: _, [], _, h => by simp at h
  | c :: z, a :: x, b :: y, h1, h2 => by
    rw [List.cons_prefix_cons] at h1 h2
    obtain ⟨rfl, h1⟩ := h1
    obtain ⟨rfl, h2⟩ := h2
    rw [sharedN, if_pos rfl, List.take_succ_cons, List.cons_prefix_cons]
    exact ⟨rfl, prefix_shared z x y h1 h2⟩
theorem com_comm (s t : List UInt8) : comB t s = comB s t := by
  unfold comB
  rw [shared_comm (parseL t).1, ← shared_take]
theorem com_parse (s t : List UInt8) : parseL (comB s t) = ((parseL s).1.take (sharedN (parseL s).1 (parseL t).1), 0, 0) := parseL_tx ((parseL_good s).take _)
theorem com_within {s t u : List UInt8} (h1 : withinB s u = true) (h2 : withinB t u = true) : withinB (comB s t) u = true := by
  obtain ⟨_, a2, a3⟩ := within_iff.1 h1
  obtain ⟨_, _, b3⟩ := within_iff.1 h2
  refine within_iff.2 ⟨by unfold validB; rw [com_parse]; rfl, a2, ?_⟩
  rw [com_parse]
  exact prefix_shared _ _ _ a3 b3
theorem com_size (s t : List UInt8) : (comB s t).length ≤ 100 := by
  unfold comB
  refine Nat.le_trans (tx_len (fun x hx => (parseL_num s x (List.mem_of_mem_take hx)).2)) ?_
  have := parseL_len8 s
  rw [List.length_take]; omega

set_option maxHeartbeats 4000000 in
set_option maxRecDepth 100000 in
theorem lineageCommon_walk (S0 S1 S2 : ByteArray) (w : World) (hP : Pow w) (hS0 : S0.size ≤ maxLen) (hS1 : S1.size ≤ maxLen) (hS2 : S2.size ≤ maxLen) :
    Calls Tryd.prog 7 #[.string S0, .string S1, .string S2] w fun e w' => e = .returned (.bool true) ∧ Below w.heap.size w w' := by
  obtain ⟨a, ha⟩ : ∃ a, a = shortN S0 := ⟨_, rfl⟩
  obtain ⟨b, hb⟩ : ∃ b, b = shortN S1 := ⟨_, rfl⟩
  obtain ⟨c, hc⟩ : ∃ c, c = shortN S2 := ⟨_, rfl⟩
  have H0 : Hid (∀ W, Calls Tryd.prog 21 #[.string S0] W fun e w' => e = .returned (.string a) ∧ w' = W) := Lib.hid fun W => by rw [ha]; exact short_any S0 W hS0
  have H1 : Hid (∀ W, Calls Tryd.prog 21 #[.string S1] W fun e w' => e = .returned (.string b) ∧ w' = W) := Lib.hid fun W => by rw [hb]; exact short_any S1 W hS1
  have H2 : Hid (∀ W, Calls Tryd.prog 21 #[.string S2] W fun e w' => e = .returned (.string c) ∧ w' = W) := Lib.hid fun W => by rw [hc]; exact short_any S2 W hS2
  have za : a.size ≤ 1000000 := by rw [ha]; have := shortN_size S0; omega
  have zb : b.size ≤ 1000000 := by rw [hb]; have := shortN_size S1; omega
  have zc : c.size ≤ 1000000 := by rw [hc]; have := shortN_size S2; omega
  clear ha hb hc hS0 hS1 hS2
  have HK : Hid (∀ W, Below w.heap.size w W → Calls Tryd.prog 14 #[] W fun e w' => e = .returned (.bool true) ∧ Below W.heap.size W w') := Lib.hid fun W hb => known_any W (hP.below hb hP.lt)
  obtain ⟨X, hX⟩ : ∃ X : ByteArray, X = ⟨(comB a.data.toList b.data.toList).toArray⟩ := ⟨_, rfl⟩
  have hXl : X.data.toList = comB a.data.toList b.data.toList := by rw [hX]
  have zx : X.size ≤ 1000000 := by
    rw [hX]; show (comB a.data.toList b.data.toList).toArray.size ≤ _
    rw [List.size_toArray]; have := com_size a.data.toList b.data.toList; omega
  obtain ⟨q, hq⟩ : ∃ q, q = withinB b.data.toList c.data.toList := ⟨_, rfl⟩
  obtain ⟨p, hp⟩ : ∃ p, p = withinB a.data.toList c.data.toList := ⟨_, rfl⟩
  obtain ⟨r, hr⟩ : ∃ r, r = withinB X.data.toList c.data.toList := ⟨_, rfl⟩
  have Cab : Hid (∀ W, Below w.heap.size w W → Calls Tryd.prog 29 #[.string a, .string b] W fun e w' => e = .returned (.string X) ∧ Below W.heap.size W w') := Lib.hid fun W hb => by rw [hX]; exact common_any a b W za zb (hP.below hb hP.lt) _ _ rfl rfl
  have Cba : Hid (∀ W, Below w.heap.size w W → Calls Tryd.prog 29 #[.string b, .string a] W fun e w' => e = .returned (.string X) ∧ Below W.heap.size W w') := Lib.hid fun W hb => by rw [hX, ← com_comm]; exact common_any b a W zb za (hP.below hb hP.lt) _ _ rfl rfl
  have Rab : Hid (∀ W, Calls Tryd.prog 30 #[.string a, .string b] W fun e w' => e = .returned (.string X) ∧ Below W.heap.size W w') := Lib.hid fun W => by rw [hX]; exact refCommon_any a b W za zb _ _ rfl rfl
  have Wac : Hid (∀ W, Calls Tryd.prog 27 #[.string a, .string c] W fun e w' => e = .returned (.bool p) ∧ Below W.heap.size W w') := Lib.hid fun W => by rw [hp]; exact within_any a c W za zc
  have Wbc : Hid (∀ W, Calls Tryd.prog 27 #[.string b, .string c] W fun e w' => e = .returned (.bool q) ∧ Below W.heap.size W w') := Lib.hid fun W => by rw [hq]; exact within_any b c W zb zc
  have Wxc : Hid (∀ W, Calls Tryd.prog 27 #[.string X, .string c] W fun e w' => e = .returned (.bool r) ∧ Below W.heap.size W w') := Lib.hid fun W => by rw [hr]; exact within_any X c W zx zc
  have htr : p = true → q = true → r = true := fun h1 h2 => by
    rw [hr, hXl]; exact com_within (by rw [← hp]; exact h1) (by rw [← hq]; exact h2)
  have HB := Lib.hid (Below.refl w.heap.size w)
  clear hp hq hr hP za zb zc hX hXl zx
  cases p with
  | false =>
    clear htr
    go_enter Tryd.func7, Tryd.ntmps7
    go_wp2_with (first
      | (go_at_call 21; (with_reducible refine (H0.out _).mono ?_); rintro e W1 ⟨rfl, rfl⟩)
      | (go_at_call 21; (with_reducible refine (H1.out _).mono ?_); rintro e W1 ⟨rfl, rfl⟩)
      | (go_at_call 21; (with_reducible refine (H2.out _).mono ?_); rintro e W1 ⟨rfl, rfl⟩)
      | (go_at_call 14; (with_reducible refine (HK.out _ HB.out).mono ?_); rintro e W1 ⟨rfl, hb⟩; replace HB := Lib.hid (HB.out.trans (hb.mono HB.out.size)); clear hb)
      | (go_at_call 29; (with_reducible refine (Cab.out _ HB.out).mono ?_); rintro e W1 ⟨rfl, hb⟩; replace HB := Lib.hid (HB.out.trans (hb.mono HB.out.size)); clear hb)
      | (go_at_call 29; (with_reducible refine (Cba.out _ HB.out).mono ?_); rintro e W1 ⟨rfl, hb⟩; replace HB := Lib.hid (HB.out.trans (hb.mono HB.out.size)); clear hb)
      | (go_at_call 30; (with_reducible refine (Rab.out _).mono ?_); rintro e W1 ⟨rfl, hb⟩; replace HB := Lib.hid (HB.out.trans (hb.mono HB.out.size)); clear hb)
      | (go_at_call 27; (with_reducible refine (Wac.out _).mono ?_); rintro e W1 ⟨rfl, hb⟩; replace HB := Lib.hid (HB.out.trans (hb.mono HB.out.size)); clear hb)
      | (go_at_call 27; (with_reducible refine (Wbc.out _).mono ?_); rintro e W1 ⟨rfl, hb⟩; replace HB := Lib.hid (HB.out.trans (hb.mono HB.out.size)); clear hb)
      | (go_at_call 27; (with_reducible refine (Wxc.out _).mono ?_); rintro e W1 ⟨rfl, hb⟩; replace HB := Lib.hid (HB.out.trans (hb.mono HB.out.size)); clear hb))
    go_ret
    exact ⟨rfl, HB.out⟩
  | true => cases q with
    | false =>
      clear htr
      go_enter Tryd.func7, Tryd.ntmps7
      go_wp2_with (first
        | (go_at_call 21; (with_reducible refine (H0.out _).mono ?_); rintro e W1 ⟨rfl, rfl⟩)
        | (go_at_call 21; (with_reducible refine (H1.out _).mono ?_); rintro e W1 ⟨rfl, rfl⟩)
        | (go_at_call 21; (with_reducible refine (H2.out _).mono ?_); rintro e W1 ⟨rfl, rfl⟩)
        | (go_at_call 14; (with_reducible refine (HK.out _ HB.out).mono ?_); rintro e W1 ⟨rfl, hb⟩; replace HB := Lib.hid (HB.out.trans (hb.mono HB.out.size)); clear hb)
        | (go_at_call 29; (with_reducible refine (Cab.out _ HB.out).mono ?_); rintro e W1 ⟨rfl, hb⟩; replace HB := Lib.hid (HB.out.trans (hb.mono HB.out.size)); clear hb)
        | (go_at_call 29; (with_reducible refine (Cba.out _ HB.out).mono ?_); rintro e W1 ⟨rfl, hb⟩; replace HB := Lib.hid (HB.out.trans (hb.mono HB.out.size)); clear hb)
        | (go_at_call 30; (with_reducible refine (Rab.out _).mono ?_); rintro e W1 ⟨rfl, hb⟩; replace HB := Lib.hid (HB.out.trans (hb.mono HB.out.size)); clear hb)
        | (go_at_call 27; (with_reducible refine (Wac.out _).mono ?_); rintro e W1 ⟨rfl, hb⟩; replace HB := Lib.hid (HB.out.trans (hb.mono HB.out.size)); clear hb)
        | (go_at_call 27; (with_reducible refine (Wbc.out _).mono ?_); rintro e W1 ⟨rfl, hb⟩; replace HB := Lib.hid (HB.out.trans (hb.mono HB.out.size)); clear hb)
        | (go_at_call 27; (with_reducible refine (Wxc.out _).mono ?_); rintro e W1 ⟨rfl, hb⟩; replace HB := Lib.hid (HB.out.trans (hb.mono HB.out.size)); clear hb))
      go_ret
      exact ⟨rfl, HB.out⟩
    | true =>
      obtain rfl := htr rfl rfl
      clear htr
      go_enter Tryd.func7, Tryd.ntmps7
      go_wp2_with (first
        | (go_at_call 21; (with_reducible refine (H0.out _).mono ?_); rintro e W1 ⟨rfl, rfl⟩)
        | (go_at_call 21; (with_reducible refine (H1.out _).mono ?_); rintro e W1 ⟨rfl, rfl⟩)
        | (go_at_call 21; (with_reducible refine (H2.out _).mono ?_); rintro e W1 ⟨rfl, rfl⟩)
        | (go_at_call 14; (with_reducible refine (HK.out _ HB.out).mono ?_); rintro e W1 ⟨rfl, hb⟩; replace HB := Lib.hid (HB.out.trans (hb.mono HB.out.size)); clear hb)
        | (go_at_call 29; (with_reducible refine (Cab.out _ HB.out).mono ?_); rintro e W1 ⟨rfl, hb⟩; replace HB := Lib.hid (HB.out.trans (hb.mono HB.out.size)); clear hb)
        | (go_at_call 29; (with_reducible refine (Cba.out _ HB.out).mono ?_); rintro e W1 ⟨rfl, hb⟩; replace HB := Lib.hid (HB.out.trans (hb.mono HB.out.size)); clear hb)
        | (go_at_call 30; (with_reducible refine (Rab.out _).mono ?_); rintro e W1 ⟨rfl, hb⟩; replace HB := Lib.hid (HB.out.trans (hb.mono HB.out.size)); clear hb)
        | (go_at_call 27; (with_reducible refine (Wac.out _).mono ?_); rintro e W1 ⟨rfl, hb⟩; replace HB := Lib.hid (HB.out.trans (hb.mono HB.out.size)); clear hb)
        | (go_at_call 27; (with_reducible refine (Wbc.out _).mono ?_); rintro e W1 ⟨rfl, hb⟩; replace HB := Lib.hid (HB.out.trans (hb.mono HB.out.size)); clear hb)
        | (go_at_call 27; (with_reducible refine (Wxc.out _).mono ?_); rintro e W1 ⟨rfl, hb⟩; replace HB := Lib.hid (HB.out.trans (hb.mono HB.out.size)); clear hb))
      go_ret
      exact ⟨rfl, HB.out⟩
end Go.Proofs.YtdfenaoddbdppaaDoor
