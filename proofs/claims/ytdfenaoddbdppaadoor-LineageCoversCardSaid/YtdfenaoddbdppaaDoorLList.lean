/- lineage: the walks of list, Parse, Valid, Depth, Last. -/
import Derived.Test.YtdfenaoddbdppaaDoorLRead
import Derived.Test.YtdfenaoddbdppaaDoorLMath
set_option linter.unusedVariables false
namespace Go.Proofs.YtdfenaoddbdppaaDoor
open Go.RowKit

/-- The nine cells as numbers. -/
theorem nine {o : List Nat} (h : o.length ≤ 8) : ∃ a b c d e f g i : Nat, listV o = [iv a, iv b, iv c, iv d, iv e, iv f, iv g, iv i, iv o.length] := by
  have key : ∀ l : List Nat, l.length = 8 → ∃ a b c d e f g i : Nat, l = [a, b, c, d, e, f, g, i] := by
    intro l h
    match l, h with
    | [a, b, c, d, e, f, g, i], _ => exact ⟨a, b, c, d, e, f, g, i, rfl⟩
  obtain ⟨a, b, c, d, e, f, g, i, hk⟩ := key (o ++ List.replicate (8 - o.length) 0) (by simp; omega)
  refine ⟨a, b, c, d, e, f, g, i, ?_⟩
  have := congrArg (List.map iv) hk
  rw [List.map_append, List.map_replicate] at this
  unfold listV
  rw [show (Value.int .i64 0) = iv 0 from rfl, this]
  rfl

def listN (a b c d e f g i n : Nat) : List Value := [iv a, iv b, iv c, iv d, iv e, iv f, iv g, iv i, iv n]
theorem listN_one (a b c d e f g i n : Nat) : ∀ v ∈ listN a b c d e f g i n, v.oneCell' = true := by
  intro v hv
  simp only [listN, List.mem_cons, List.not_mem_nil, or_false] at hv
  rcases hv with rfl | rfl | rfl | rfl | rfl | rfl | rfl | rfl | rfl <;> rfl

set_option maxHeartbeats 1000000 in
set_option maxRecDepth 100000 in
theorem list_any (S : ByteArray) (w : World) (hS : S.size ≤ 1000000) :
    Calls Tryd.prog 49 #[.string S] w fun e w' => e = .returned (.tuple #[.agg (listV (parseL S.data.toList).1).toArray, .bool (validB S.data.toList)]) ∧ Below w.heap.size w w' := by
  obtain ⟨R, hR⟩ : ∃ R, R = parseL S.data.toList := ⟨_, rfl⟩
  have hv : validB S.data.toList = (R.2.2 == 0) := by rw [hR]; rfl
  have hl : R.1.length ≤ 8 := by rw [hR]; exact parseL_len8 _
  rw [hv, ← hR]
  have HP := Lib.hid fun W => read_any S W hS R hR
  obtain ⟨o, x, e⟩ := R
  clear hR hv
  obtain ⟨c0, c1, c2, c3, c4, c5, c6, c7, h9⟩ := nine hl
  simp only [h9] at HP ⊢
  clear h9 hl
  go_enter Tryd.func49, Tryd.ntmps49
  have HI9 : Hid ((Tryd.prog.info? 85).map (·.size) = some (listN c0 c1 c2 c3 c4 c5 c6 c7 o.length).toArray.size) := Lib.hid (by kernel_rfl)
  have HO9 : Hid ((listN c0 c1 c2 c3 c4 c5 c6 c7 o.length).toArray.all Value.oneCell' = true) := Lib.hid (all_oneCell_toArray (listN_one _ _ _ _ _ _ _ _ _))
  go_wp2_with (first
    | (go_at_call 48; refine (HP.out _).mono ?_; rintro r W1 ⟨rfl, hb1⟩; have HA : Hid (∀ c t, Arr (W1.alloc (.cells c t)) w.heap.size 0 (listN 0 0 0 0 0 0 0 0 0)) := Lib.hid (fun c t => ((Arr.new w (listN 0 0 0 0 0 0 0 0 0) _).below hb1 (by simp)).alloc (.cells c t)); have HB : Hid (Below w.heap.size w W1) := Lib.hid (((Below.refl _ w).alloc (Nat.le_refl _) _).trans (hb1.mono (by simp))); clear hb1)
    | (refine wpList_store_mid (by rfl) 85 (.tmp 2) (.tmp 13) (by rfl) w.heap.size 0 (listN c0 c1 c2 c3 c4 c5 c6 c7 o.length).toArray (by rfl) (by rfl) ((HA.out _ _).thereA (listN c0 c1 c2 c3 c4 c5 c6 c7 o.length) rfl) HI9.out HO9.out ?_))
  refine bodyPost_ret (results_row2 rfl _ _ w.heap.size (listN c0 c1 c2 c3 c4 c5 c6 c7 o.length) _ rfl ((HA.out _ _).sets (listN c0 c1 c2 c3 c4 c5 c6 c7 o.length) rfl).1 Tryd.underlying85 rfl (by kernel_rfl)) rfl ?_
  refine ⟨?_, below_setCells _ (Nat.le_refl _) _ _ _ (HB.out.alloc HB.out.size _)⟩
  rw [show ((e : Int) == 0) = (e == 0) from by rw [Bool.eq_iff_iff]; simp]
  rfl
end Go.Proofs.YtdfenaoddbdppaaDoor
