/- object: slices.Clone and slices.Compact over lists of names. -/
import Derived.Test.YtcdjmkfpclmbdaaGreatDoorOSortA
set_option linter.unusedVariables false
namespace Go.Proofs.YtcdjmkfpclmbdaaGreatDoor
open Go.RowKit

set_option maxHeartbeats 1000000 in
set_option maxRecDepth 100000 in
theorem cloneS_nil (w : World) :
    Calls Tryz.prog 49 #[.slice none 0 0] w fun e w' => e = .returned (.slice none 0 0) ∧ w = w' := by
  have hq : ∀ W : World, (binOp .eql 42 (.slice none 0 0) (.slice none 0 0)).run Tryz.prog W = .ok (.bool true) W := fun W => Lib.run_eql_slice_nil W _ _ _ _ _ _ _ nameT_ok.u
  go_enter Tryz.func49, Tryz.ntmps49
  go_wp2
  go_ret
  exact ⟨rfl, rfl⟩
set_option maxHeartbeats 1000000 in
set_option maxRecDepth 100000 in
theorem cloneS_any (g n c : Nat) (l : List NmS) (w : World) (hn : n = l.length) (hr : RQ encS 5 w w.heap.size (some ⟨g, 0, none⟩) l) (hl : l.length ≤ 1000000) :
    Calls Tryz.prog 49 #[.slice (some ⟨g, 0, none⟩) n c] w fun e w' => ∃ v', e = .returned v' ∧ OQ encS 5 28 w' w.heap.size v' l ∧ Below w.heap.size w w' := by
  subst hn
  have HR := Lib.hid (hr.below (below_alloc0 w (.cells #[] 28) (Nat.le_refl _)))
  have HO := Lib.hid (show OQ encS 5 28 (w.alloc (.cells #[] 28)) w.heap.size (.slice (some ⟨w.heap.size, 0, none⟩) 0 0) [] from World.ownsRow_made w #[] 0 (Nat.le_refl _) (by decide) (by simp))
  have HB := Lib.hid (below_alloc0 w (.cells #[] 28) (Nat.le_refl w.heap.size))
  have hq : ∀ W : World, (binOp .eql 42 (.slice (some ⟨g, 0, none⟩) l.length c) (.slice none 0 0)).run Tryz.prog W = .ok (.bool false) W := fun W => Lib.run_eql_slice_nil W _ _ _ _ _ _ _ nameT_ok.u
  clear hr
  go_enter Tryz.func49, Tryz.ntmps49
  go_wp2_with (at_builtin; refine wpList_appQ encS_ok nameT_ok rfl (.tmp 5) (.tmp 6) rfl w.heap.size _ [] rfl HO.out w.heap.size (some ⟨g, 0, none⟩) l c rfl HR.out (by unfold maxLen; simp; omega) (by simp; omega) (by simp) ?_; intro u1 V1 ho1 hg1; have HO1 := Lib.hid ho1; have HG := Lib.hid hg1; clear ho1 hg1)
  go_ret
  refine ⟨u1, rfl, by have := HO1.out; rwa [List.nil_append] at this, HB.out.trans (HG.out.below (by simp) (fun k hk => by have h : some w.heap.size = some k := hk; injection h with h; omega))⟩
theorem oq_some {w : World} {base : Nat} {v : Value} {l : List NmS} (h : OQ encS 5 28 w base v l) (hl : l ≠ []) : v ≠ .slice none 0 0 := by
  rintro rfl
  rcases h.2 with ⟨_, h0⟩ | ⟨g, cap, cur, e, _⟩
  · exact hl (List.eq_nil_of_length_eq_zero h0)
  · cases e

/-! ### Compact: what it keeps -/
theorem ddC_same {α : Type} {c : α → α → Int} (h : Cmp3 c) : ∀ (l : List α) (x : α), ddC c (l ++ [x, x]) = ddC c (l ++ [x])
  | [], x => by
    simp only [List.nil_append, ddC]
    rw [if_pos ((h.zero x x).2 rfl)]
  | [a], x => by
    simp only [List.cons_append, List.nil_append, ddC]
    rw [if_pos ((h.zero x x).2 rfl)]
  | a :: b :: l, x => by
    have ih := ddC_same h (b :: l) x
    simp only [List.cons_append] at ih ⊢
    rw [ddC, ih, ddC]
theorem ddC_snoc {α : Type} {c : α → α → Int} : ∀ (l : List α) (x y : α), c x y ≠ 0 → ddC c (l ++ [x, y]) = ddC c (l ++ [x]) ++ [y]
  | [], x, y, h => by
    simp only [List.nil_append, ddC]
    rw [if_neg h]; rfl
  | [a], x, y, h => by
    simp only [List.cons_append, List.nil_append, ddC]
    rw [if_neg h]
    split <;> rfl
  | a :: b :: l, x, y, h => by
    have ih := ddC_snoc (b :: l) x y h
    simp only [List.cons_append] at ih ⊢
    rw [ddC, ih, ddC]
    split <;> rfl
theorem take_two {α : Type} {l : List α} {m : Nat} {x y : α} (hx : l[m]? = some x) (hy : l[m + 1]? = some y) : l.take (m + 2) = l.take m ++ [x, y] := by
  rw [List.take_add_one, List.take_add_one, hx, hy]; simp
theorem dd_same {l : List NmS} {m : Nat} {x : NmS} (hx : l[m]? = some x) (hy : l[m + 1]? = some x) : ddC cS (l.take (m + 2)) = ddC cS (l.take (m + 1)) := by
  rw [take_two hx hy, ddC_same cS_ok, List.take_add_one, hx]; rfl
theorem dd_new {l : List NmS} {m : Nat} {x y : NmS} (hx : l[m]? = some x) (hy : l[m + 1]? = some y) (h : x ≠ y) : ddC cS (l.take (m + 2)) = ddC cS (l.take (m + 1)) ++ [y] := by
  rw [take_two hx hy, ddC_snoc _ _ _ (fun h0 => h ((cS_ok.zero _ _).1 h0)), List.take_add_one, hx]; rfl
theorem ddC_length {α : Type} {c : α → α → Int} : ∀ l : List α, (ddC c l).length ≤ l.length
  | [] => by simp [ddC]
  | [x] => by simp [ddC]
  | x :: y :: r => by
    have := ddC_length (c := c) (y :: r)
    rw [ddC]
    split
    · simp at this ⊢; omega
    · simp at this ⊢; omega
end Go.Proofs.YtcdjmkfpclmbdaaGreatDoor
