/- object: the walks of the functions that make names, and of the statements' own conversions; names compared by '=='. -/
import Derived.Test.YtcdjmkfpclmbdaaGreatDoorOParse
import Derived.Test.YtcdjmkfpclmbdaaGreatDoorOEncB
set_option linter.unusedVariables false
namespace Go.Proofs.YtcdjmkfpclmbdaaGreatDoor
open Go.RowKit

theorem range5 {w : World} {g : Nat} {t : TypeId} {a b c d e : Value} : (w.alloc (.cells #[a, b, c, d, e] t)).rangeAt w.heap.size 0 [a, b, c, d, e] := (Blk.new w t #[a, b, c, d, e]).range
set_option maxRecDepth 100000 in
theorem of_any (K n i : Int) (O T : ByteArray) (w : World) : Calls Tryz.prog 68 #[.int .i64 K, .agg #[.string O, .int .i64 n], .int .i64 i, .string T] w fun e w' => e = .returned (nmV K O n i T) ∧ Below w.heap.size w w' := by
  go_enter Tryz.func68, Tryz.ntmps68
  go_wp2
  exact bodyPost_ret (results_row1 rfl _ _ (w.heap.size + 1) (nmC K O n i T).toList _ rfl (by
    have h := (Blk.new (w.alloc (.cells #[.string O, .int .i64 n] 34)) 28 (nmC K O n i T)).range
    have e : (w.alloc (Obj.cells #[.string O, .int .i64 n] 34)).heap.size = w.heap.size + 1 := by simp
    rw [e] at h; exact h) Tryz.underlying28 rfl infoName) rfl ⟨rfl, ((Below.refl _ w).alloc (Nat.le_refl _) _).alloc (by simp) _⟩
set_option maxRecDepth 100000 in
theorem to_any (K n i : Int) (O T : ByteArray) (w : World) : Calls Tryz.prog 14 #[nmV K O n i T] w fun e w' => e = .returned (nmV K O n i T) ∧ Below w.heap.size w w' := by
  go_enter Tryz.func14, Tryz.ntmps14
  go_wp2
  exact bodyPost_ret (results_row1 rfl _ _ (w.heap.size + 1) (nmC K O n i T).toList _ rfl (by
    have h := (Blk.new (w.alloc (.cells (nmC K O n i T) 23)) 28 (nmC K O n i T)).range
    have e : (w.alloc (Obj.cells (nmC K O n i T) 23)).heap.size = w.heap.size + 1 := by simp
    rw [e] at h; exact h) Tryz.underlying28 rfl infoName) rfl ⟨rfl, ((Below.refl _ w).alloc (Nat.le_refl _) _).alloc (by simp) _⟩
theorem infoN : (Tryz.prog.info? 23).map (·.size) = some 5 := by kernel_rfl
set_option maxRecDepth 100000 in
theorem ofN_any (K n i : Int) (O T : ByteArray) (w : World) : Calls Tryz.prog 16 #[nmV K O n i T] w fun e w' => e = .returned (nmV K O n i T) ∧ Below w.heap.size w w' := by
  go_enter Tryz.func16, Tryz.ntmps16
  go_wp2
  exact bodyPost_ret (results_row1 rfl _ _ (w.heap.size + 1) (nmC K O n i T).toList _ rfl (by
    have h := (Blk.new (w.alloc (.cells (nmC K O n i T) 28)) 23 (nmC K O n i T)).range
    have e : (w.alloc (Obj.cells (nmC K O n i T) 28)).heap.size = w.heap.size + 1 := by simp
    rw [e] at h; exact h) Tryz.underlying23 rfl infoN) rfl ⟨rfl, ((Below.refl _ w).alloc (Nat.le_refl _) _).alloc (by simp) _⟩
def longB (O T : ByteArray) : Bool := decide (100 < O.size) || decide (100 < T.size)
set_option maxRecDepth 100000 in
theorem long_any (K n i : Int) (O T : ByteArray) (w : World) (hO : O.size ≤ maxLen) (hT : T.size ≤ maxLen) : Calls Tryz.prog 8 #[nmV K O n i T] w fun e w' => e = .returned (.bool (longB O T)) ∧ Below w.heap.size w w' := by
  unfold maxLen at hO hT
  by_cases h1 : 100 < O.size
  · have g1 : (100 : Int) < (O.size : Int) := by omega
    have hr : longB O T = true := by unfold longB; simp [h1]
    rw [hr]
    go_enter Tryz.func8, Tryz.ntmps8
    go_wp2
    go_ret
    exact ⟨rfl, (Below.refl _ w).alloc (Nat.le_refl _) _⟩
  · by_cases h2 : 100 < T.size
    · have g1 : ¬ (100 : Int) < (O.size : Int) := by omega
      have g2 : (100 : Int) < (T.size : Int) := by omega
      have hr : longB O T = true := by unfold longB; simp [h2]
      rw [hr]
      go_enter Tryz.func8, Tryz.ntmps8
      go_wp2
      go_ret
      exact ⟨rfl, (Below.refl _ w).alloc (Nat.le_refl _) _⟩
    · have g1 : ¬ (100 : Int) < (O.size : Int) := by omega
      have g2 : ¬ (100 : Int) < (T.size : Int) := by omega
      have hr : longB O T = false := by unfold longB; simp [h1, h2]
      rw [hr]
      go_enter Tryz.func8, Tryz.ntmps8
      go_wp2
      go_ret
      exact ⟨rfl, (Below.refl _ w).alloc (Nat.le_refl _) _⟩
theorem two_under {w V : World} {c1 c2 : Array Value} {t1 t2 : TypeId} (hb : Below ((w.alloc (.cells c1 t1)).alloc (.cells c2 t2)).heap.size ((w.alloc (.cells c1 t1)).alloc (.cells c2 t2)) V) : Blk V (w.heap.size + 1) t2 c2 ∧ Below w.heap.size w V := by
  have e : (w.alloc (Obj.cells c1 t1)).heap.size = w.heap.size + 1 := by simp
  have h := (Blk.new (w.alloc (.cells c1 t1)) t2 c2).under hb
  rw [e] at h
  exact ⟨h, (((Below.refl _ w).alloc (Nat.le_refl _) _).alloc (by simp) _).trans (hb.mono (by simp; omega))⟩
set_option maxRecDepth 100000 in
theorem ofBlock_any (n i : Int) (O : ByteArray) (w : World) : Calls Tryz.prog 25 #[.agg #[.string O, .int .i64 n], .int .i64 i] w fun e w' => e = .returned (nmV 8 O n i ⟨#[]⟩) ∧ Below w.heap.size w w' := by
  have HO := Lib.hid fun W => of_any 8 n i O ⟨#[]⟩ W
  have HI5 := Lib.hid infoName
  have H1C := Lib.hid nm_one
  go_enter Tryz.func25, Tryz.ntmps25
  go_wp2_with (first
    | (go_at_call 68; refine (HO.out _).mono ?_; rintro e V1 ⟨rfl, hb⟩; have HV := Lib.hid (two_under hb); clear hb; have HZ := Lib.hid HV.out.1.there)
    | (show wpList _ _ _ (⟨none, _, _, _, _, _⟩ :: _) _ _; refine wpList_store_mid (by rfl) 28 (.tmp 4) (.tmp 7) (by rfl) (w.heap.size + 1) 0 (nmC 8 O n i ⟨#[]⟩) (by rfl) (by rfl) HZ.out HI5.out (H1C.out _ _ _ _ _) ?_))
  exact bodyPost_ret (results_row1 rfl _ _ (w.heap.size + 1) (nmC 8 O n i ⟨#[]⟩).toList _ rfl (World.rangeAt_setCells_same _ _ _ _ HV.out.1.there) Tryz.underlying28 rfl infoName) rfl ⟨rfl, below_setCells _ (by omega) _ _ _ HV.out.2⟩
set_option maxRecDepth 100000 in
theorem ofListing_any (n : Int) (O : ByteArray) (w : World) : Calls Tryz.prog 28 #[.agg #[.string O, .int .i64 n]] w fun e w' => e = .returned (nmV 10 O n 0 ⟨#[]⟩) ∧ Below w.heap.size w w' := by
  have HO := Lib.hid fun W => of_any 10 n 0 O ⟨#[]⟩ W
  have HI5 := Lib.hid infoName
  have H1C := Lib.hid nm_one
  go_enter Tryz.func28, Tryz.ntmps28
  go_wp2_with (first
    | (go_at_call 68; refine (HO.out _).mono ?_; rintro e V1 ⟨rfl, hb⟩; have HV := Lib.hid (two_under hb); clear hb; have HZ := Lib.hid HV.out.1.there)
    | (show wpList _ _ _ (⟨none, _, _, _, _, _⟩ :: _) _ _; refine wpList_store_mid (by rfl) 28 (.tmp 2) (.tmp 4) (by rfl) (w.heap.size + 1) 0 (nmC 10 O n 0 ⟨#[]⟩) (by rfl) (by rfl) HZ.out HI5.out (H1C.out _ _ _ _ _) ?_))
  exact bodyPost_ret (results_row1 rfl _ _ (w.heap.size + 1) (nmC 10 O n 0 ⟨#[]⟩).toList _ rfl (World.rangeAt_setCells_same _ _ _ _ HV.out.1.there) Tryz.underlying28 rfl infoName) rfl ⟨rfl, below_setCells _ (by omega) _ _ _ HV.out.2⟩
end Go.Proofs.YtcdjmkfpclmbdaaGreatDoor
