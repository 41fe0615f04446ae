/- object: Sort. -/
import Derived.Test.YtcdjmkfpclmbdaaGreatDoorOCompact
set_option linter.unusedVariables false
namespace Go.Proofs.YtcdjmkfpclmbdaaGreatDoor
open Go.RowKit Go.Shelf Go.Sort

theorem compactS_any (base : Nat) (v : Value) (l : List NmS) (w : World) (ho : OS w base v l) (hv : v ≠ .slice none 0 0) (hll : l.length ≤ 1000000) :
    Calls Tryz.prog 52 #[v] w fun e w' => ∃ v', e = .returned v' ∧ OS w' base v' (ddC cS l) ∧ Below base w w' := by
  obtain ⟨g, cap, rfl, hb, hg, hn, hm, _⟩ := holdsK_of_oq encS_ok ho hv
  by_cases h2 : 2 ≤ l.length
  · exact compactS_long base g l.length cap l w rfl h2 ho hll hn hm
  · refine (compactS_short base _ l.length cap w (by omega)).mono ?_
    rintro e w' ⟨rfl, rfl⟩
    refine ⟨_, rfl, ?_, Below.refl _ _⟩
    have e1 : ddC cS l = l := by
      match l, h2 with
      | [], _ => rfl
      | [x], _ => rfl
      | x :: y :: r, h => simp at h
    rw [e1]; exact ho
set_option maxHeartbeats 2000000 in
set_option maxRecDepth 100000 in
theorem sortO_nil (w : World) :
    Calls Tryz.prog 19 #[.slice none 0 0] w fun e w' => ∃ v, e = .returned v ∧ OS w' w.heap.size v (sortC cS []) ∧ Below w.heap.size w w' := by
  have H1 := Lib.hid cloneS_nil
  have H2 : Hid (∀ W fv, Calls Tryz.prog 50 #[.slice none 0 0, fv] W fun e w' => e = .returned (.tuple #[]) ∧ W = w') := Lib.hid fun W fv => (AnyF.slices_SortFunc_none (P := Tryz.prog) Tryz.layQ_sort none 0 fv W).mono fun e w' h => ⟨h.1, h.2.symm⟩
  have H3 : Hid (∀ W, Calls Tryz.prog 52 #[.slice none 0 0] W fun e w' => e = .returned (.slice none 0 0) ∧ W = w') := Lib.hid fun W => (compactS_short 0 none 0 0 W (by omega)).mono fun e w' h => ⟨h.1, h.2.symm⟩
  go_enter Tryz.func19, Tryz.ntmps19
  go_wp2_with (first
    | (go_at_call 49; refine (H1.out _).mono ?_; rintro e W1 ⟨rfl, rfl⟩)
    | (go_at_call 50; refine (H2.out _ _).mono ?_; rintro e W2 ⟨rfl, rfl⟩)
    | (go_at_call 52; refine (H3.out _).mono ?_; rintro e W3 ⟨rfl, rfl⟩))
  go_ret
  exact ⟨_, rfl, OQ.nil _ _, Below.refl _ _⟩
set_option maxHeartbeats 2000000 in
set_option maxRecDepth 100000 in
theorem sortO_some (g n c : Nat) (l : List NmS) (w : World) (hn : n = l.length) (hl0 : l ≠ []) (hr : RQ encS 5 w w.heap.size (some ⟨g, 0, none⟩) l) (hl : l.length ≤ 1000000) :
    Calls Tryz.prog 19 #[.slice (some ⟨g, 0, none⟩) n c] w fun e w' => ∃ v, e = .returned v ∧ OS w' w.heap.size v (sortC cS l) ∧ Below w.heap.size w w' := by
  have hml : (l.mergeSort fun x y => !(ltOf cS) y x).length = l.length := (List.mergeSort_perm _ _).length_eq
  have hm0 : (l.mergeSort fun x y => !(ltOf cS) y x) ≠ [] := fun h => by rw [h] at hml; exact hl0 (List.eq_nil_of_length_eq_zero hml.symm)
  have hms := ms_dd l
  obtain ⟨M, hM⟩ : ∃ M, M = l.mergeSort fun x y => !(ltOf cS) y x := ⟨_, rfl⟩
  have H1 := Lib.hid (cloneS_any g n c l w hn hr hl)
  have H2 : Hid (∀ v W, OS W w.heap.size v l → Calls Tryz.prog 50 #[v, .func (.func 51) #[] #[]] W fun e w' => e = .returned (.tuple #[]) ∧ OS w' w.heap.size v M ∧ Below w.heap.size W w') := Lib.hid fun v W h => by rw [hM]; exact sortS_any w.heap.size v l W h (oq_some h hl0) hl
  rw [← hM] at hml hm0 hms
  have H3 : Hid (∀ v W, OS W w.heap.size v M → Calls Tryz.prog 52 #[v] W fun e w' => ∃ v', e = .returned v' ∧ OS w' w.heap.size v' (sortC cS l) ∧ Below w.heap.size W w') := Lib.hid fun v W h => by rw [← hms]; exact compactS_any _ v M W h (oq_some h hm0) (by omega)
  clear hml hm0 hms hM hr hl hl0 hn
  go_enter Tryz.func19, Tryz.ntmps19
  go_wp2_with (first
    | (go_at_call 49; refine H1.out.mono ?_; rintro e W1 ⟨v1, rfl, ho1, hb1⟩; have HO1 := Lib.hid ho1; have HB1 := Lib.hid hb1; clear ho1 hb1)
    | (go_at_call 50; refine (H2.out _ _ HO1.out).mono ?_; rintro e W2 ⟨rfl, ho2, hb2⟩; have HO2 := Lib.hid ho2; have HB2 := Lib.hid (HB1.out.trans hb2); clear ho2 hb2)
    | (go_at_call 52; refine (H3.out _ _ HO2.out).mono ?_; rintro e W3 ⟨v3, rfl, ho3, hb3⟩; have HO3 := Lib.hid ho3; have HB3 := Lib.hid (HB2.out.trans hb3); clear ho3 hb3))
  go_ret
  exact ⟨_, rfl, HO3.out, HB3.out⟩
end Go.Proofs.YtcdjmkfpclmbdaaGreatDoor
