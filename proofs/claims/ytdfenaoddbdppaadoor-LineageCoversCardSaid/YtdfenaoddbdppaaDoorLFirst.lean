/- lineage: the walks of first, Parent, Root, Common, Within. -/
import Derived.Test.YtdfenaoddbdppaaDoorLMake
import Derived.Test.YtdfenaoddbdppaaDoorLSimple
set_option linter.unusedVariables false
namespace Go.Proofs.YtdfenaoddbdppaaDoor
open Go.RowKit

theorem mkL_good {o : List Nat} (h : Good o) : mkL (o.map Int.ofNat) = (⟨(tx o).toArray⟩, 0) := by
  unfold mkL
  rw [if_neg (by rw [List.length_map]; have := h.1; omega), if_pos]
  · have e : (o.map Int.ofNat).map Int.toNat = o := by
      rw [List.map_map]
      conv => rhs; rw [← List.map_id o]
      exact List.map_congr_left fun x _ => rfl
    rw [e]
  · rw [List.all_eq_true]
    intro y hy
    obtain ⟨x, hx, rfl⟩ := List.mem_map.1 hy
    have := h.2 x hx
    simp only [isO, Bool.and_eq_true, decide_eq_true_eq]
    exact ⟨by show (1 : Int) ≤ (x : Int); omega, by show (x : Int) ≤ 999999; omega⟩
theorem Good.take {o : List Nat} (h : Good o) (d : Nat) : Good (o.take d) :=
  ⟨by rw [List.length_take]; have := h.1; omega, fun x hx => h.2 x (List.mem_of_mem_take hx)⟩
/-- The ordinals in a block of a list. -/
theorem list_rz {w : World} {g : Nat} {o : List Nat} (h : Arr w g 0 (listV o)) (d B : Nat) (hd : d ≤ o.length) (hg : g < B) : RZ w B (some ⟨g, 0, none⟩) ((o.take d).map Int.ofNat) := fun _ => by
  refine ⟨g, 0, rfl, hg, fun j s hj => ?_⟩
  rw [List.getElem?_map, Option.map_eq_some_iff] at hj
  obtain ⟨x, hx, rfl⟩ := hj
  rw [List.getElem?_take] at hx
  split at hx
  · exact h.1 j _ (listV_at hx)
  · cases hx

set_option maxHeartbeats 1000000 in
set_option maxRecDepth 100000 in
theorem first_any (o : List Nat) (d : Nat) (w : World) (ho : Good o) (hd : d ≤ o.length) (hP : Pow w) :
    Calls Tryd.prog 52 #[.agg (listV o).toArray, .int .i64 (d : Int)] w fun e w' => e = .returned (.string ⟨(tx (o.take d)).toArray⟩) ∧ Below w.heap.size w w' := by
  have HM : Hid (∀ t, Calls Tryd.prog 12 #[.slice (some ⟨w.heap.size, 0, none⟩) d 8] (w.alloc (.cells (listV o).toArray t)) fun e w' => e = .returned (.tuple #[.string ⟨(tx (o.take d)).toArray⟩, .int .i64 0]) ∧ Below w.heap.size w w') := Lib.hid fun t => by
    have h1 := list_rz (Arr.new w (listV o) t) d (w.heap.size + 1) hd (Nat.lt_succ_self _)
    have h2 := make_any _ _ 8 (w.heap.size + 1) _ h1 (by simp) (hP.below ((Below.refl _ w).alloc (Nat.le_refl _) _) hP.lt)
    rw [mkL_good (ho.take d), List.length_map, List.length_take, Nat.min_eq_left hd] at h2
    refine h2.mono ?_
    rintro e w' ⟨h3, h4⟩
    exact ⟨h3, ((Below.refl _ w).alloc (Nat.le_refl _) _).trans (h4.mono (by simp))⟩
  have h8 : (d : Int) ≤ 8 := by have := ho.1; omega
  clear hP ho hd
  go_enter Tryd.func52, Tryd.ntmps52
  go_wp2_with (go_at_call 12; refine (HM.out _).mono ?_; rintro e W1 ⟨rfl, hb1⟩; have HB := Lib.hid hb1; clear hb1)
  go_ret
  exact ⟨rfl, HB.out⟩
end Go.Proofs.YtdfenaoddbdppaaDoor
