/- object: the walks of the functions that make names, and of the statements' made. -/
import Derived.Test.YtcdjmkfpclmbdaaGreatDoorOMk
import Derived.Test.YtcdjmkfpclmbdaaGreatDoorOChecks
set_option linter.unusedVariables false
namespace Go.Proofs.YtcdjmkfpclmbdaaGreatDoor
open Go.RowKit

set_option maxRecDepth 100000 in
theorem ofProcess_any (O : ByteArray) (w : World) : Calls Tryz.prog 29 #[.string O] w fun e w' => e = .returned (nmV 1 O 0 0 ⟨#[]⟩) ∧ Below w.heap.size w w' := by
  go_enter Tryz.func29, Tryz.ntmps29
  go_wp2
  exact bodyPost_ret (results_row1 rfl _ _ w.heap.size (nmC 1 O 0 0 ⟨#[]⟩).toList _ rfl (Blk.new w 28 (nmC 1 O 0 0 ⟨#[]⟩)).range Tryz.underlying28 rfl infoName) rfl ⟨rfl, (Below.refl _ w).alloc (Nat.le_refl _) _⟩
set_option maxRecDepth 100000 in
theorem ofRegisters_any (O : ByteArray) (w : World) : Calls Tryz.prog 30 #[.string O] w fun e w' => e = .returned (nmV 2 O 0 0 ⟨#[]⟩) ∧ Below w.heap.size w w' := by
  go_enter Tryz.func30, Tryz.ntmps30
  go_wp2
  exact bodyPost_ret (results_row1 rfl _ _ w.heap.size (nmC 2 O 0 0 ⟨#[]⟩).toList _ rfl (Blk.new w 28 (nmC 2 O 0 0 ⟨#[]⟩)).range Tryz.underlying28 rfl infoName) rfl ⟨rfl, (Below.refl _ w).alloc (Nat.le_refl _) _⟩
set_option maxRecDepth 100000 in
theorem ofPage_any (O : ByteArray) (i : Int) (w : World) : Calls Tryz.prog 31 #[.string O, .int .i64 i] w fun e w' => e = .returned (nmV 3 O 0 i ⟨#[]⟩) ∧ Below w.heap.size w w' := by
  go_enter Tryz.func31, Tryz.ntmps31
  go_wp2
  exact bodyPost_ret (results_row1 rfl _ _ w.heap.size (nmC 3 O 0 i ⟨#[]⟩).toList _ rfl (Blk.new w 28 (nmC 3 O 0 i ⟨#[]⟩)).range Tryz.underlying28 rfl infoName) rfl ⟨rfl, (Below.refl _ w).alloc (Nat.le_refl _) _⟩
set_option maxRecDepth 100000 in
theorem ofTable_any (O : ByteArray) (w : World) : Calls Tryz.prog 32 #[.string O] w fun e w' => e = .returned (nmV 4 O 0 0 ⟨#[]⟩) ∧ Below w.heap.size w w' := by
  go_enter Tryz.func32, Tryz.ntmps32
  go_wp2
  exact bodyPost_ret (results_row1 rfl _ _ w.heap.size (nmC 4 O 0 0 ⟨#[]⟩).toList _ rfl (Blk.new w 28 (nmC 4 O 0 0 ⟨#[]⟩)).range Tryz.underlying28 rfl infoName) rfl ⟨rfl, (Below.refl _ w).alloc (Nat.le_refl _) _⟩
set_option maxRecDepth 100000 in
theorem ofCounter_any (O : ByteArray) (w : World) : Calls Tryz.prog 33 #[.string O] w fun e w' => e = .returned (nmV 5 O 0 0 ⟨#[]⟩) ∧ Below w.heap.size w w' := by
  go_enter Tryz.func33, Tryz.ntmps33
  go_wp2
  exact bodyPost_ret (results_row1 rfl _ _ w.heap.size (nmC 5 O 0 0 ⟨#[]⟩).toList _ rfl (Blk.new w 28 (nmC 5 O 0 0 ⟨#[]⟩)).range Tryz.underlying28 rfl infoName) rfl ⟨rfl, (Below.refl _ w).alloc (Nat.le_refl _) _⟩
set_option maxRecDepth 100000 in
theorem ofPending_any (O : ByteArray) (w : World) : Calls Tryz.prog 34 #[.string O] w fun e w' => e = .returned (nmV 6 O 0 0 ⟨#[]⟩) ∧ Below w.heap.size w w' := by
  go_enter Tryz.func34, Tryz.ntmps34
  go_wp2
  exact bodyPost_ret (results_row1 rfl _ _ w.heap.size (nmC 6 O 0 0 ⟨#[]⟩).toList _ rfl (Blk.new w 28 (nmC 6 O 0 0 ⟨#[]⟩)).range Tryz.underlying28 rfl infoName) rfl ⟨rfl, (Below.refl _ w).alloc (Nat.le_refl _) _⟩
set_option maxRecDepth 100000 in
theorem ofNode_any (n : Int) (O : ByteArray) (w : World) : Calls Tryz.prog 35 #[.agg #[.string O, .int .i64 n]] w fun e w' => e = .returned (nmV 7 O n 0 ⟨#[]⟩) ∧ Below w.heap.size w w' := by
  have HO := Lib.hid fun W => of_any 7 n 0 O ⟨#[]⟩ W
  have HI5 := Lib.hid infoName
  have H1C := Lib.hid nm_one
  go_enter Tryz.func35, Tryz.ntmps35
  go_wp2_with (first
    | (go_at_call 68; refine (HO.out _).mono ?_; rintro e V1 ⟨rfl, hb⟩; have HV := Lib.hid (two_under hb); clear hb; have HZ := Lib.hid HV.out.1.there)
    | (show wpList _ _ _ (⟨none, _, _, _, _, _⟩ :: _) _ _; refine wpList_store_mid (by rfl) 28 (.tmp 2) (.tmp 4) (by rfl) (w.heap.size + 1) 0 (nmC 7 O n 0 ⟨#[]⟩) (by rfl) (by rfl) HZ.out HI5.out (H1C.out _ _ _ _ _) ?_))
  exact bodyPost_ret (results_row1 rfl _ _ (w.heap.size + 1) (nmC 7 O n 0 ⟨#[]⟩).toList _ rfl (World.rangeAt_setCells_same _ _ _ _ HV.out.1.there) Tryz.underlying28 rfl infoName) rfl ⟨rfl, below_setCells _ (by omega) _ _ _ HV.out.2⟩
set_option maxRecDepth 100000 in
theorem ofEntry_any (n : Int) (O : ByteArray) (T : ByteArray) (w : World) : Calls Tryz.prog 36 #[.agg #[.string O, .int .i64 n], .string T] w fun e w' => e = .returned (nmV 9 O n 0 T) ∧ Below w.heap.size w w' := by
  have HO := Lib.hid fun W => of_any 9 n 0 O T W
  have HI5 := Lib.hid infoName
  have H1C := Lib.hid nm_one
  go_enter Tryz.func36, Tryz.ntmps36
  go_wp2_with (first
    | (go_at_call 68; refine (HO.out _).mono ?_; rintro e V1 ⟨rfl, hb⟩; have HV := Lib.hid (two_under hb); clear hb; have HZ := Lib.hid HV.out.1.there)
    | (show wpList _ _ _ (⟨none, _, _, _, _, _⟩ :: _) _ _; refine wpList_store_mid (by rfl) 28 (.tmp 4) (.tmp 7) (by rfl) (w.heap.size + 1) 0 (nmC 9 O n 0 T) (by rfl) (by rfl) HZ.out HI5.out (H1C.out _ _ _ _ _) ?_))
  exact bodyPost_ret (results_row1 rfl _ _ (w.heap.size + 1) (nmC 9 O n 0 T).toList _ rfl (World.rangeAt_setCells_same _ _ _ _ HV.out.1.there) Tryz.underlying28 rfl infoName) rfl ⟨rfl, below_setCells _ (by omega) _ _ _ HV.out.2⟩
set_option maxRecDepth 100000 in
theorem ofPipe_any (n : Int) (O : ByteArray) (w : World) : Calls Tryz.prog 37 #[.agg #[.string O, .int .i64 n]] w fun e w' => e = .returned (nmV 11 O n 0 ⟨#[]⟩) ∧ Below w.heap.size w w' := by
  have HO := Lib.hid fun W => of_any 11 n 0 O ⟨#[]⟩ W
  have HI5 := Lib.hid infoName
  have H1C := Lib.hid nm_one
  go_enter Tryz.func37, Tryz.ntmps37
  go_wp2_with (first
    | (go_at_call 68; refine (HO.out _).mono ?_; rintro e V1 ⟨rfl, hb⟩; have HV := Lib.hid (two_under hb); clear hb; have HZ := Lib.hid HV.out.1.there)
    | (show wpList _ _ _ (⟨none, _, _, _, _, _⟩ :: _) _ _; refine wpList_store_mid (by rfl) 28 (.tmp 2) (.tmp 4) (by rfl) (w.heap.size + 1) 0 (nmC 11 O n 0 ⟨#[]⟩) (by rfl) (by rfl) HZ.out HI5.out (H1C.out _ _ _ _ _) ?_))
  exact bodyPost_ret (results_row1 rfl _ _ (w.heap.size + 1) (nmC 11 O n 0 ⟨#[]⟩).toList _ rfl (World.rangeAt_setCells_same _ _ _ _ HV.out.1.there) Tryz.underlying28 rfl infoName) rfl ⟨rfl, below_setCells _ (by omega) _ _ _ HV.out.2⟩
set_option maxRecDepth 100000 in
theorem ofLock_any (n : Int) (O : ByteArray) (w : World) : Calls Tryz.prog 38 #[.agg #[.string O, .int .i64 n]] w fun e w' => e = .returned (nmV 12 O n 0 ⟨#[]⟩) ∧ Below w.heap.size w w' := by
  have HO := Lib.hid fun W => of_any 12 n 0 O ⟨#[]⟩ W
  have HI5 := Lib.hid infoName
  have H1C := Lib.hid nm_one
  go_enter Tryz.func38, Tryz.ntmps38
  go_wp2_with (first
    | (go_at_call 68; refine (HO.out _).mono ?_; rintro e V1 ⟨rfl, hb⟩; have HV := Lib.hid (two_under hb); clear hb; have HZ := Lib.hid HV.out.1.there)
    | (show wpList _ _ _ (⟨none, _, _, _, _, _⟩ :: _) _ _; refine wpList_store_mid (by rfl) 28 (.tmp 2) (.tmp 4) (by rfl) (w.heap.size + 1) 0 (nmC 12 O n 0 ⟨#[]⟩) (by rfl) (by rfl) HZ.out HI5.out (H1C.out _ _ _ _ _) ?_))
  exact bodyPost_ret (results_row1 rfl _ _ (w.heap.size + 1) (nmC 12 O n 0 ⟨#[]⟩).toList _ rfl (World.rangeAt_setCells_same _ _ _ _ HV.out.1.there) Tryz.underlying28 rfl infoName) rfl ⟨rfl, below_setCells _ (by omega) _ _ _ HV.out.2⟩
set_option maxRecDepth 100000 in
theorem ofTerminal_any (n : Int) (w : World) : Calls Tryz.prog 39 #[.int .i64 n] w fun e w' => e = .returned (nmV 13 ⟨#[]⟩ n 0 ⟨#[]⟩) ∧ Below w.heap.size w w' := by
  go_enter Tryz.func39, Tryz.ntmps39
  go_wp2
  exact bodyPost_ret (results_row1 rfl _ _ w.heap.size (nmC 13 ⟨#[]⟩ n 0 ⟨#[]⟩).toList _ rfl (Blk.new w 28 (nmC 13 ⟨#[]⟩ n 0 ⟨#[]⟩)).range Tryz.underlying28 rfl infoName) rfl ⟨rfl, (Below.refl _ w).alloc (Nat.le_refl _) _⟩
set_option maxRecDepth 100000 in
theorem ofAccount_any (T : ByteArray) (w : World) : Calls Tryz.prog 40 #[.string T] w fun e w' => e = .returned (nmV 14 ⟨#[]⟩ 0 0 T) ∧ Below w.heap.size w w' := by
  go_enter Tryz.func40, Tryz.ntmps40
  go_wp2
  exact bodyPost_ret (results_row1 rfl _ _ w.heap.size (nmC 14 ⟨#[]⟩ 0 0 T).toList _ rfl (Blk.new w 28 (nmC 14 ⟨#[]⟩ 0 0 T)).range Tryz.underlying28 rfl infoName) rfl ⟨rfl, (Below.refl _ w).alloc (Nat.le_refl _) _⟩
set_option maxRecDepth 100000 in
theorem ofClock_any  (w : World) : Calls Tryz.prog 41 #[] w fun e w' => e = .returned (nmV 15 ⟨#[]⟩ 0 0 ⟨#[]⟩) ∧ Below w.heap.size w w' := by
  go_enter Tryz.func41, Tryz.ntmps41
  go_wp2
  exact bodyPost_ret (results_row1 rfl _ _ w.heap.size (nmC 15 ⟨#[]⟩ 0 0 ⟨#[]⟩).toList _ rfl (Blk.new w 28 (nmC 15 ⟨#[]⟩ 0 0 ⟨#[]⟩)).range Tryz.underlying28 rfl infoName) rfl ⟨rfl, (Below.refl _ w).alloc (Nat.le_refl _) _⟩
set_option maxRecDepth 100000 in
theorem ofPort_any (n : Int) (w : World) : Calls Tryz.prog 42 #[.int .i64 n] w fun e w' => e = .returned (nmV 16 ⟨#[]⟩ n 0 ⟨#[]⟩) ∧ Below w.heap.size w w' := by
  go_enter Tryz.func42, Tryz.ntmps42
  go_wp2
  exact bodyPost_ret (results_row1 rfl _ _ w.heap.size (nmC 16 ⟨#[]⟩ n 0 ⟨#[]⟩).toList _ rfl (Blk.new w 28 (nmC 16 ⟨#[]⟩ n 0 ⟨#[]⟩)).range Tryz.underlying28 rfl infoName) rfl ⟨rfl, (Below.refl _ w).alloc (Nat.le_refl _) _⟩
set_option maxRecDepth 100000 in
theorem ofBox_any (T : ByteArray) (w : World) : Calls Tryz.prog 43 #[.string T] w fun e w' => e = .returned (nmV 17 ⟨#[]⟩ 0 0 T) ∧ Below w.heap.size w w' := by
  go_enter Tryz.func43, Tryz.ntmps43
  go_wp2
  exact bodyPost_ret (results_row1 rfl _ _ w.heap.size (nmC 17 ⟨#[]⟩ 0 0 T).toList _ rfl (Blk.new w 28 (nmC 17 ⟨#[]⟩ 0 0 T)).range Tryz.underlying28 rfl infoName) rfl ⟨rfl, (Below.refl _ w).alloc (Nat.le_refl _) _⟩
set_option maxRecDepth 100000 in
theorem ofOut_any (O : ByteArray) (n : Int) (i : Int) (w : World) : Calls Tryz.prog 44 #[.string O, .int .i64 n, .int .i64 i] w fun e w' => e = .returned (nmV 18 O n i ⟨#[]⟩) ∧ Below w.heap.size w w' := by
  go_enter Tryz.func44, Tryz.ntmps44
  go_wp2
  exact bodyPost_ret (results_row1 rfl _ _ w.heap.size (nmC 18 O n i ⟨#[]⟩).toList _ rfl (Blk.new w 28 (nmC 18 O n i ⟨#[]⟩)).range Tryz.underlying28 rfl infoName) rfl ⟨rfl, (Below.refl _ w).alloc (Nat.le_refl _) _⟩
set_option maxRecDepth 100000 in
theorem ofShell_any (O : ByteArray) (w : World) : Calls Tryz.prog 45 #[.string O] w fun e w' => e = .returned (nmV 19 O 0 0 ⟨#[]⟩) ∧ Below w.heap.size w w' := by
  go_enter Tryz.func45, Tryz.ntmps45
  go_wp2
  exact bodyPost_ret (results_row1 rfl _ _ w.heap.size (nmC 19 O 0 0 ⟨#[]⟩).toList _ rfl (Blk.new w 28 (nmC 19 O 0 0 ⟨#[]⟩)).range Tryz.underlying28 rfl infoName) rfl ⟨rfl, (Below.refl _ w).alloc (Nat.le_refl _) _⟩
set_option maxRecDepth 100000 in
theorem ofEpoch_any  (w : World) : Calls Tryz.prog 46 #[] w fun e w' => e = .returned (nmV 20 ⟨#[]⟩ 0 0 ⟨#[]⟩) ∧ Below w.heap.size w w' := by
  go_enter Tryz.func46, Tryz.ntmps46
  go_wp2
  exact bodyPost_ret (results_row1 rfl _ _ w.heap.size (nmC 20 ⟨#[]⟩ 0 0 ⟨#[]⟩).toList _ rfl (Blk.new w 28 (nmC 20 ⟨#[]⟩ 0 0 ⟨#[]⟩)).range Tryz.underlying28 rfl infoName) rfl ⟨rfl, (Below.refl _ w).alloc (Nat.le_refl _) _⟩

theorem three_under {w V : World} {c1 c2 c3 : Array Value} {t1 t2 t3 : TypeId} (hb : Below (((w.alloc (.cells c1 t1)).alloc (.cells c2 t2)).alloc (.cells c3 t3)).heap.size (((w.alloc (.cells c1 t1)).alloc (.cells c2 t2)).alloc (.cells c3 t3)) V) : Blk V (w.heap.size + 1) t2 c2 ∧ Below w.heap.size w V := by
  have e : (w.alloc (Obj.cells c1 t1)).heap.size = w.heap.size + 1 := by simp
  have h := ((Blk.new (w.alloc (.cells c1 t1)) t2 c2).alloc (.cells c3 t3)).under hb
  rw [e] at h
  exact ⟨h, ((((Below.refl _ w).alloc (Nat.le_refl _) _).alloc (by simp) _).alloc (by simp; omega) _).trans (hb.mono (by simp; omega))⟩
def inI (k : Int) : Bool := decide (1 ≤ k) && decide (k ≤ 20)
def mkK (k : Int) : Int := if inI k then k else 0
def mkO (k : Int) (O : ByteArray) : ByteArray := if ownI k then O else ⟨#[]⟩
def mkN (k n : Int) : Int := if numI k then n else 0
def mkI (k i : Int) : Int := if decide (0 ≤ mostI k) then i else 0
def mkT (k : Int) (T : ByteArray) : ByteArray := if txtI k then T else ⟨#[]⟩
set_option maxHeartbeats 4000000 in
set_option maxRecDepth 100000 in
theorem made_any (K : Int) (O : ByteArray) (n i : Int) (T : ByteArray) (w : World) :
    Calls Tryz.prog 9 #[nmV K O n i T] w fun e w' => e = .returned (.tuple #[nmV (mkK K) (mkO K O) (mkN K n) (mkI K i) (mkT K T), .bool (inI K)]) ∧ Below w.heap.size w w' := by
  have HI5 := Lib.hid infoName
  have H1C := Lib.hid nm_one
  by_cases hK : 1 ≤ K ∧ K ≤ 20
  · obtain rfl | rfl | rfl | rfl | rfl | rfl | rfl | rfl | rfl | rfl | rfl | rfl | rfl | rfl | rfl | rfl | rfl | rfl | rfl | rfl : K = 1 ∨ K = 2 ∨ K = 3 ∨ K = 4 ∨ K = 5 ∨ K = 6 ∨ K = 7 ∨ K = 8 ∨ K = 9 ∨ K = 10 ∨ K = 11 ∨ K = 12 ∨ K = 13 ∨ K = 14 ∨ K = 15 ∨ K = 16 ∨ K = 17 ∨ K = 18 ∨ K = 19 ∨ K = 20 := by omega
    all_goals clear hK
    · have HF := Lib.hid fun W => ofProcess_any O W
      show Calls Tryz.prog 9 #[nmV 1 O n i T] w fun e w' => e = .returned (.tuple #[nmV 1 O 0 0 ⟨#[]⟩, .bool true]) ∧ Below w.heap.size w w'
      go_enter Tryz.func9, Tryz.ntmps9
      go_wp2_with (first
        | (go_at_call 29; refine (HF.out _).mono ?_; rintro e V1 ⟨rfl, hb⟩; have HV := Lib.hid (three_under hb); clear hb; have HZ := Lib.hid HV.out.1.there)
        | (show wpList _ _ _ (⟨none, _, _, _, _, _⟩ :: _) _ _; refine wpList_store_mid (by rfl) 28 (.tmp 2) (.tmp 17) (by rfl) (w.heap.size + 1) 0 (nmC 1 O 0 0 ⟨#[]⟩) (by rfl) (by rfl) HZ.out HI5.out (H1C.out _ _ _ _ _) ?_))
      exact bodyPost_ret (results_row2 rfl _ _ (w.heap.size + 1) (nmC 1 O 0 0 ⟨#[]⟩).toList _ rfl (World.rangeAt_setCells_same _ _ _ _ HV.out.1.there) Tryz.underlying28 rfl infoName) rfl ⟨rfl, below_setCells _ (by omega) _ _ _ HV.out.2⟩
    · have HF := Lib.hid fun W => ofRegisters_any O W
      show Calls Tryz.prog 9 #[nmV 2 O n i T] w fun e w' => e = .returned (.tuple #[nmV 2 O 0 0 ⟨#[]⟩, .bool true]) ∧ Below w.heap.size w w'
      go_enter Tryz.func9, Tryz.ntmps9
      go_wp2_with (first
        | (go_at_call 30; refine (HF.out _).mono ?_; rintro e V1 ⟨rfl, hb⟩; have HV := Lib.hid (three_under hb); clear hb; have HZ := Lib.hid HV.out.1.there)
        | (show wpList _ _ _ (⟨none, _, _, _, _, _⟩ :: _) _ _; refine wpList_store_mid (by rfl) 28 (.tmp 2) (.tmp 21) (by rfl) (w.heap.size + 1) 0 (nmC 2 O 0 0 ⟨#[]⟩) (by rfl) (by rfl) HZ.out HI5.out (H1C.out _ _ _ _ _) ?_))
      exact bodyPost_ret (results_row2 rfl _ _ (w.heap.size + 1) (nmC 2 O 0 0 ⟨#[]⟩).toList _ rfl (World.rangeAt_setCells_same _ _ _ _ HV.out.1.there) Tryz.underlying28 rfl infoName) rfl ⟨rfl, below_setCells _ (by omega) _ _ _ HV.out.2⟩
    · have HF := Lib.hid fun W => ofPage_any O i W
      show Calls Tryz.prog 9 #[nmV 3 O n i T] w fun e w' => e = .returned (.tuple #[nmV 3 O 0 i ⟨#[]⟩, .bool true]) ∧ Below w.heap.size w w'
      go_enter Tryz.func9, Tryz.ntmps9
      go_wp2_with (first
        | (go_at_call 31; refine (HF.out _).mono ?_; rintro e V1 ⟨rfl, hb⟩; have HV := Lib.hid (three_under hb); clear hb; have HZ := Lib.hid HV.out.1.there)
        | (show wpList _ _ _ (⟨none, _, _, _, _, _⟩ :: _) _ _; refine wpList_store_mid (by rfl) 28 (.tmp 2) (.tmp 27) (by rfl) (w.heap.size + 1) 0 (nmC 3 O 0 i ⟨#[]⟩) (by rfl) (by rfl) HZ.out HI5.out (H1C.out _ _ _ _ _) ?_))
      exact bodyPost_ret (results_row2 rfl _ _ (w.heap.size + 1) (nmC 3 O 0 i ⟨#[]⟩).toList _ rfl (World.rangeAt_setCells_same _ _ _ _ HV.out.1.there) Tryz.underlying28 rfl infoName) rfl ⟨rfl, below_setCells _ (by omega) _ _ _ HV.out.2⟩
    · have HF := Lib.hid fun W => ofTable_any O W
      show Calls Tryz.prog 9 #[nmV 4 O n i T] w fun e w' => e = .returned (.tuple #[nmV 4 O 0 0 ⟨#[]⟩, .bool true]) ∧ Below w.heap.size w w'
      go_enter Tryz.func9, Tryz.ntmps9
      go_wp2_with (first
        | (go_at_call 32; refine (HF.out _).mono ?_; rintro e V1 ⟨rfl, hb⟩; have HV := Lib.hid (three_under hb); clear hb; have HZ := Lib.hid HV.out.1.there)
        | (show wpList _ _ _ (⟨none, _, _, _, _, _⟩ :: _) _ _; refine wpList_store_mid (by rfl) 28 (.tmp 2) (.tmp 31) (by rfl) (w.heap.size + 1) 0 (nmC 4 O 0 0 ⟨#[]⟩) (by rfl) (by rfl) HZ.out HI5.out (H1C.out _ _ _ _ _) ?_))
      exact bodyPost_ret (results_row2 rfl _ _ (w.heap.size + 1) (nmC 4 O 0 0 ⟨#[]⟩).toList _ rfl (World.rangeAt_setCells_same _ _ _ _ HV.out.1.there) Tryz.underlying28 rfl infoName) rfl ⟨rfl, below_setCells _ (by omega) _ _ _ HV.out.2⟩
    · have HF := Lib.hid fun W => ofCounter_any O W
      show Calls Tryz.prog 9 #[nmV 5 O n i T] w fun e w' => e = .returned (.tuple #[nmV 5 O 0 0 ⟨#[]⟩, .bool true]) ∧ Below w.heap.size w w'
      go_enter Tryz.func9, Tryz.ntmps9
      go_wp2_with (first
        | (go_at_call 33; refine (HF.out _).mono ?_; rintro e V1 ⟨rfl, hb⟩; have HV := Lib.hid (three_under hb); clear hb; have HZ := Lib.hid HV.out.1.there)
        | (show wpList _ _ _ (⟨none, _, _, _, _, _⟩ :: _) _ _; refine wpList_store_mid (by rfl) 28 (.tmp 2) (.tmp 35) (by rfl) (w.heap.size + 1) 0 (nmC 5 O 0 0 ⟨#[]⟩) (by rfl) (by rfl) HZ.out HI5.out (H1C.out _ _ _ _ _) ?_))
      exact bodyPost_ret (results_row2 rfl _ _ (w.heap.size + 1) (nmC 5 O 0 0 ⟨#[]⟩).toList _ rfl (World.rangeAt_setCells_same _ _ _ _ HV.out.1.there) Tryz.underlying28 rfl infoName) rfl ⟨rfl, below_setCells _ (by omega) _ _ _ HV.out.2⟩
    · have HF := Lib.hid fun W => ofPending_any O W
      show Calls Tryz.prog 9 #[nmV 6 O n i T] w fun e w' => e = .returned (.tuple #[nmV 6 O 0 0 ⟨#[]⟩, .bool true]) ∧ Below w.heap.size w w'
      go_enter Tryz.func9, Tryz.ntmps9
      go_wp2_with (first
        | (go_at_call 34; refine (HF.out _).mono ?_; rintro e V1 ⟨rfl, hb⟩; have HV := Lib.hid (three_under hb); clear hb; have HZ := Lib.hid HV.out.1.there)
        | (show wpList _ _ _ (⟨none, _, _, _, _, _⟩ :: _) _ _; refine wpList_store_mid (by rfl) 28 (.tmp 2) (.tmp 39) (by rfl) (w.heap.size + 1) 0 (nmC 6 O 0 0 ⟨#[]⟩) (by rfl) (by rfl) HZ.out HI5.out (H1C.out _ _ _ _ _) ?_))
      exact bodyPost_ret (results_row2 rfl _ _ (w.heap.size + 1) (nmC 6 O 0 0 ⟨#[]⟩).toList _ rfl (World.rangeAt_setCells_same _ _ _ _ HV.out.1.there) Tryz.underlying28 rfl infoName) rfl ⟨rfl, below_setCells _ (by omega) _ _ _ HV.out.2⟩
    · have HF := Lib.hid fun W => ofNode_any n O W
      show Calls Tryz.prog 9 #[nmV 7 O n i T] w fun e w' => e = .returned (.tuple #[nmV 7 O n 0 ⟨#[]⟩, .bool true]) ∧ Below w.heap.size w w'
      go_enter Tryz.func9, Tryz.ntmps9
      go_wp2_with (first
        | (go_at_call 35; refine (HF.out _).mono ?_; rintro e V1 ⟨rfl, hb⟩; have HV := Lib.hid (three_under hb); clear hb; have HZ := Lib.hid HV.out.1.there)
        | (show wpList _ _ _ (⟨none, _, _, _, _, _⟩ :: _) _ _; refine wpList_store_mid (by rfl) 28 (.tmp 2) (.tmp 43) (by rfl) (w.heap.size + 1) 0 (nmC 7 O n 0 ⟨#[]⟩) (by rfl) (by rfl) HZ.out HI5.out (H1C.out _ _ _ _ _) ?_))
      exact bodyPost_ret (results_row2 rfl _ _ (w.heap.size + 1) (nmC 7 O n 0 ⟨#[]⟩).toList _ rfl (World.rangeAt_setCells_same _ _ _ _ HV.out.1.there) Tryz.underlying28 rfl infoName) rfl ⟨rfl, below_setCells _ (by omega) _ _ _ HV.out.2⟩
    · have HF := Lib.hid fun W => ofBlock_any n i O W
      show Calls Tryz.prog 9 #[nmV 8 O n i T] w fun e w' => e = .returned (.tuple #[nmV 8 O n i ⟨#[]⟩, .bool true]) ∧ Below w.heap.size w w'
      go_enter Tryz.func9, Tryz.ntmps9
      go_wp2_with (first
        | (go_at_call 25; refine (HF.out _).mono ?_; rintro e V1 ⟨rfl, hb⟩; have HV := Lib.hid (three_under hb); clear hb; have HZ := Lib.hid HV.out.1.there)
        | (show wpList _ _ _ (⟨none, _, _, _, _, _⟩ :: _) _ _; refine wpList_store_mid (by rfl) 28 (.tmp 2) (.tmp 49) (by rfl) (w.heap.size + 1) 0 (nmC 8 O n i ⟨#[]⟩) (by rfl) (by rfl) HZ.out HI5.out (H1C.out _ _ _ _ _) ?_))
      exact bodyPost_ret (results_row2 rfl _ _ (w.heap.size + 1) (nmC 8 O n i ⟨#[]⟩).toList _ rfl (World.rangeAt_setCells_same _ _ _ _ HV.out.1.there) Tryz.underlying28 rfl infoName) rfl ⟨rfl, below_setCells _ (by omega) _ _ _ HV.out.2⟩
    · have HF := Lib.hid fun W => ofEntry_any n O T W
      show Calls Tryz.prog 9 #[nmV 9 O n i T] w fun e w' => e = .returned (.tuple #[nmV 9 O n 0 T, .bool true]) ∧ Below w.heap.size w w'
      go_enter Tryz.func9, Tryz.ntmps9
      go_wp2_with (first
        | (go_at_call 36; refine (HF.out _).mono ?_; rintro e V1 ⟨rfl, hb⟩; have HV := Lib.hid (three_under hb); clear hb; have HZ := Lib.hid HV.out.1.there)
        | (show wpList _ _ _ (⟨none, _, _, _, _, _⟩ :: _) _ _; refine wpList_store_mid (by rfl) 28 (.tmp 2) (.tmp 55) (by rfl) (w.heap.size + 1) 0 (nmC 9 O n 0 T) (by rfl) (by rfl) HZ.out HI5.out (H1C.out _ _ _ _ _) ?_))
      exact bodyPost_ret (results_row2 rfl _ _ (w.heap.size + 1) (nmC 9 O n 0 T).toList _ rfl (World.rangeAt_setCells_same _ _ _ _ HV.out.1.there) Tryz.underlying28 rfl infoName) rfl ⟨rfl, below_setCells _ (by omega) _ _ _ HV.out.2⟩
    · have HF := Lib.hid fun W => ofListing_any n O W
      show Calls Tryz.prog 9 #[nmV 10 O n i T] w fun e w' => e = .returned (.tuple #[nmV 10 O n 0 ⟨#[]⟩, .bool true]) ∧ Below w.heap.size w w'
      go_enter Tryz.func9, Tryz.ntmps9
      go_wp2_with (first
        | (go_at_call 28; refine (HF.out _).mono ?_; rintro e V1 ⟨rfl, hb⟩; have HV := Lib.hid (three_under hb); clear hb; have HZ := Lib.hid HV.out.1.there)
        | (show wpList _ _ _ (⟨none, _, _, _, _, _⟩ :: _) _ _; refine wpList_store_mid (by rfl) 28 (.tmp 2) (.tmp 59) (by rfl) (w.heap.size + 1) 0 (nmC 10 O n 0 ⟨#[]⟩) (by rfl) (by rfl) HZ.out HI5.out (H1C.out _ _ _ _ _) ?_))
      exact bodyPost_ret (results_row2 rfl _ _ (w.heap.size + 1) (nmC 10 O n 0 ⟨#[]⟩).toList _ rfl (World.rangeAt_setCells_same _ _ _ _ HV.out.1.there) Tryz.underlying28 rfl infoName) rfl ⟨rfl, below_setCells _ (by omega) _ _ _ HV.out.2⟩
    · have HF := Lib.hid fun W => ofPipe_any n O W
      show Calls Tryz.prog 9 #[nmV 11 O n i T] w fun e w' => e = .returned (.tuple #[nmV 11 O n 0 ⟨#[]⟩, .bool true]) ∧ Below w.heap.size w w'
      go_enter Tryz.func9, Tryz.ntmps9
      go_wp2_with (first
        | (go_at_call 37; refine (HF.out _).mono ?_; rintro e V1 ⟨rfl, hb⟩; have HV := Lib.hid (three_under hb); clear hb; have HZ := Lib.hid HV.out.1.there)
        | (show wpList _ _ _ (⟨none, _, _, _, _, _⟩ :: _) _ _; refine wpList_store_mid (by rfl) 28 (.tmp 2) (.tmp 63) (by rfl) (w.heap.size + 1) 0 (nmC 11 O n 0 ⟨#[]⟩) (by rfl) (by rfl) HZ.out HI5.out (H1C.out _ _ _ _ _) ?_))
      exact bodyPost_ret (results_row2 rfl _ _ (w.heap.size + 1) (nmC 11 O n 0 ⟨#[]⟩).toList _ rfl (World.rangeAt_setCells_same _ _ _ _ HV.out.1.there) Tryz.underlying28 rfl infoName) rfl ⟨rfl, below_setCells _ (by omega) _ _ _ HV.out.2⟩
    · have HF := Lib.hid fun W => ofLock_any n O W
      show Calls Tryz.prog 9 #[nmV 12 O n i T] w fun e w' => e = .returned (.tuple #[nmV 12 O n 0 ⟨#[]⟩, .bool true]) ∧ Below w.heap.size w w'
      go_enter Tryz.func9, Tryz.ntmps9
      go_wp2_with (first
        | (go_at_call 38; refine (HF.out _).mono ?_; rintro e V1 ⟨rfl, hb⟩; have HV := Lib.hid (three_under hb); clear hb; have HZ := Lib.hid HV.out.1.there)
        | (show wpList _ _ _ (⟨none, _, _, _, _, _⟩ :: _) _ _; refine wpList_store_mid (by rfl) 28 (.tmp 2) (.tmp 67) (by rfl) (w.heap.size + 1) 0 (nmC 12 O n 0 ⟨#[]⟩) (by rfl) (by rfl) HZ.out HI5.out (H1C.out _ _ _ _ _) ?_))
      exact bodyPost_ret (results_row2 rfl _ _ (w.heap.size + 1) (nmC 12 O n 0 ⟨#[]⟩).toList _ rfl (World.rangeAt_setCells_same _ _ _ _ HV.out.1.there) Tryz.underlying28 rfl infoName) rfl ⟨rfl, below_setCells _ (by omega) _ _ _ HV.out.2⟩
    · have HF := Lib.hid fun W => ofTerminal_any n W
      show Calls Tryz.prog 9 #[nmV 13 O n i T] w fun e w' => e = .returned (.tuple #[nmV 13 ⟨#[]⟩ n 0 ⟨#[]⟩, .bool true]) ∧ Below w.heap.size w w'
      go_enter Tryz.func9, Tryz.ntmps9
      go_wp2_with (first
        | (go_at_call 39; refine (HF.out _).mono ?_; rintro e V1 ⟨rfl, hb⟩; have HV := Lib.hid (three_under hb); clear hb; have HZ := Lib.hid HV.out.1.there)
        | (show wpList _ _ _ (⟨none, _, _, _, _, _⟩ :: _) _ _; refine wpList_store_mid (by rfl) 28 (.tmp 2) (.tmp 72) (by rfl) (w.heap.size + 1) 0 (nmC 13 ⟨#[]⟩ n 0 ⟨#[]⟩) (by rfl) (by rfl) HZ.out HI5.out (H1C.out _ _ _ _ _) ?_))
      exact bodyPost_ret (results_row2 rfl _ _ (w.heap.size + 1) (nmC 13 ⟨#[]⟩ n 0 ⟨#[]⟩).toList _ rfl (World.rangeAt_setCells_same _ _ _ _ HV.out.1.there) Tryz.underlying28 rfl infoName) rfl ⟨rfl, below_setCells _ (by omega) _ _ _ HV.out.2⟩
    · have HF := Lib.hid fun W => ofAccount_any T W
      show Calls Tryz.prog 9 #[nmV 14 O n i T] w fun e w' => e = .returned (.tuple #[nmV 14 ⟨#[]⟩ 0 0 T, .bool true]) ∧ Below w.heap.size w w'
      go_enter Tryz.func9, Tryz.ntmps9
      go_wp2_with (first
        | (go_at_call 40; refine (HF.out _).mono ?_; rintro e V1 ⟨rfl, hb⟩; have HV := Lib.hid (three_under hb); clear hb; have HZ := Lib.hid HV.out.1.there)
        | (show wpList _ _ _ (⟨none, _, _, _, _, _⟩ :: _) _ _; refine wpList_store_mid (by rfl) 28 (.tmp 2) (.tmp 77) (by rfl) (w.heap.size + 1) 0 (nmC 14 ⟨#[]⟩ 0 0 T) (by rfl) (by rfl) HZ.out HI5.out (H1C.out _ _ _ _ _) ?_))
      exact bodyPost_ret (results_row2 rfl _ _ (w.heap.size + 1) (nmC 14 ⟨#[]⟩ 0 0 T).toList _ rfl (World.rangeAt_setCells_same _ _ _ _ HV.out.1.there) Tryz.underlying28 rfl infoName) rfl ⟨rfl, below_setCells _ (by omega) _ _ _ HV.out.2⟩
    · have HF := Lib.hid fun W => ofClock_any  W
      show Calls Tryz.prog 9 #[nmV 15 O n i T] w fun e w' => e = .returned (.tuple #[nmV 15 ⟨#[]⟩ 0 0 ⟨#[]⟩, .bool true]) ∧ Below w.heap.size w w'
      go_enter Tryz.func9, Tryz.ntmps9
      go_wp2_with (first
        | (go_at_call 41; refine (HF.out _).mono ?_; rintro e V1 ⟨rfl, hb⟩; have HV := Lib.hid (three_under hb); clear hb; have HZ := Lib.hid HV.out.1.there)
        | (show wpList _ _ _ (⟨none, _, _, _, _, _⟩ :: _) _ _; refine wpList_store_mid (by rfl) 28 (.tmp 2) (.tmp 80) (by rfl) (w.heap.size + 1) 0 (nmC 15 ⟨#[]⟩ 0 0 ⟨#[]⟩) (by rfl) (by rfl) HZ.out HI5.out (H1C.out _ _ _ _ _) ?_))
      exact bodyPost_ret (results_row2 rfl _ _ (w.heap.size + 1) (nmC 15 ⟨#[]⟩ 0 0 ⟨#[]⟩).toList _ rfl (World.rangeAt_setCells_same _ _ _ _ HV.out.1.there) Tryz.underlying28 rfl infoName) rfl ⟨rfl, below_setCells _ (by omega) _ _ _ HV.out.2⟩
    · have HF := Lib.hid fun W => ofPort_any n W
      show Calls Tryz.prog 9 #[nmV 16 O n i T] w fun e w' => e = .returned (.tuple #[nmV 16 ⟨#[]⟩ n 0 ⟨#[]⟩, .bool true]) ∧ Below w.heap.size w w'
      go_enter Tryz.func9, Tryz.ntmps9
      go_wp2_with (first
        | (go_at_call 42; refine (HF.out _).mono ?_; rintro e V1 ⟨rfl, hb⟩; have HV := Lib.hid (three_under hb); clear hb; have HZ := Lib.hid HV.out.1.there)
        | (show wpList _ _ _ (⟨none, _, _, _, _, _⟩ :: _) _ _; refine wpList_store_mid (by rfl) 28 (.tmp 2) (.tmp 85) (by rfl) (w.heap.size + 1) 0 (nmC 16 ⟨#[]⟩ n 0 ⟨#[]⟩) (by rfl) (by rfl) HZ.out HI5.out (H1C.out _ _ _ _ _) ?_))
      exact bodyPost_ret (results_row2 rfl _ _ (w.heap.size + 1) (nmC 16 ⟨#[]⟩ n 0 ⟨#[]⟩).toList _ rfl (World.rangeAt_setCells_same _ _ _ _ HV.out.1.there) Tryz.underlying28 rfl infoName) rfl ⟨rfl, below_setCells _ (by omega) _ _ _ HV.out.2⟩
    · have HF := Lib.hid fun W => ofBox_any T W
      show Calls Tryz.prog 9 #[nmV 17 O n i T] w fun e w' => e = .returned (.tuple #[nmV 17 ⟨#[]⟩ 0 0 T, .bool true]) ∧ Below w.heap.size w w'
      go_enter Tryz.func9, Tryz.ntmps9
      go_wp2_with (first
        | (go_at_call 43; refine (HF.out _).mono ?_; rintro e V1 ⟨rfl, hb⟩; have HV := Lib.hid (three_under hb); clear hb; have HZ := Lib.hid HV.out.1.there)
        | (show wpList _ _ _ (⟨none, _, _, _, _, _⟩ :: _) _ _; refine wpList_store_mid (by rfl) 28 (.tmp 2) (.tmp 90) (by rfl) (w.heap.size + 1) 0 (nmC 17 ⟨#[]⟩ 0 0 T) (by rfl) (by rfl) HZ.out HI5.out (H1C.out _ _ _ _ _) ?_))
      exact bodyPost_ret (results_row2 rfl _ _ (w.heap.size + 1) (nmC 17 ⟨#[]⟩ 0 0 T).toList _ rfl (World.rangeAt_setCells_same _ _ _ _ HV.out.1.there) Tryz.underlying28 rfl infoName) rfl ⟨rfl, below_setCells _ (by omega) _ _ _ HV.out.2⟩
    · have HF := Lib.hid fun W => ofOut_any O n i W
      show Calls Tryz.prog 9 #[nmV 18 O n i T] w fun e w' => e = .returned (.tuple #[nmV 18 O n i ⟨#[]⟩, .bool true]) ∧ Below w.heap.size w w'
      go_enter Tryz.func9, Tryz.ntmps9
      go_wp2_with (first
        | (go_at_call 44; refine (HF.out _).mono ?_; rintro e V1 ⟨rfl, hb⟩; have HV := Lib.hid (three_under hb); clear hb; have HZ := Lib.hid HV.out.1.there)
        | (show wpList _ _ _ (⟨none, _, _, _, _, _⟩ :: _) _ _; refine wpList_store_mid (by rfl) 28 (.tmp 2) (.tmp 98) (by rfl) (w.heap.size + 1) 0 (nmC 18 O n i ⟨#[]⟩) (by rfl) (by rfl) HZ.out HI5.out (H1C.out _ _ _ _ _) ?_))
      exact bodyPost_ret (results_row2 rfl _ _ (w.heap.size + 1) (nmC 18 O n i ⟨#[]⟩).toList _ rfl (World.rangeAt_setCells_same _ _ _ _ HV.out.1.there) Tryz.underlying28 rfl infoName) rfl ⟨rfl, below_setCells _ (by omega) _ _ _ HV.out.2⟩
    · have HF := Lib.hid fun W => ofShell_any O W
      show Calls Tryz.prog 9 #[nmV 19 O n i T] w fun e w' => e = .returned (.tuple #[nmV 19 O 0 0 ⟨#[]⟩, .bool true]) ∧ Below w.heap.size w w'
      go_enter Tryz.func9, Tryz.ntmps9
      go_wp2_with (first
        | (go_at_call 45; refine (HF.out _).mono ?_; rintro e V1 ⟨rfl, hb⟩; have HV := Lib.hid (three_under hb); clear hb; have HZ := Lib.hid HV.out.1.there)
        | (show wpList _ _ _ (⟨none, _, _, _, _, _⟩ :: _) _ _; refine wpList_store_mid (by rfl) 28 (.tmp 2) (.tmp 102) (by rfl) (w.heap.size + 1) 0 (nmC 19 O 0 0 ⟨#[]⟩) (by rfl) (by rfl) HZ.out HI5.out (H1C.out _ _ _ _ _) ?_))
      exact bodyPost_ret (results_row2 rfl _ _ (w.heap.size + 1) (nmC 19 O 0 0 ⟨#[]⟩).toList _ rfl (World.rangeAt_setCells_same _ _ _ _ HV.out.1.there) Tryz.underlying28 rfl infoName) rfl ⟨rfl, below_setCells _ (by omega) _ _ _ HV.out.2⟩
    · have HF := Lib.hid fun W => ofEpoch_any  W
      show Calls Tryz.prog 9 #[nmV 20 O n i T] w fun e w' => e = .returned (.tuple #[nmV 20 ⟨#[]⟩ 0 0 ⟨#[]⟩, .bool true]) ∧ Below w.heap.size w w'
      go_enter Tryz.func9, Tryz.ntmps9
      go_wp2_with (first
        | (go_at_call 46; refine (HF.out _).mono ?_; rintro e V1 ⟨rfl, hb⟩; have HV := Lib.hid (three_under hb); clear hb; have HZ := Lib.hid HV.out.1.there)
        | (show wpList _ _ _ (⟨none, _, _, _, _, _⟩ :: _) _ _; refine wpList_store_mid (by rfl) 28 (.tmp 2) (.tmp 105) (by rfl) (w.heap.size + 1) 0 (nmC 20 ⟨#[]⟩ 0 0 ⟨#[]⟩) (by rfl) (by rfl) HZ.out HI5.out (H1C.out _ _ _ _ _) ?_))
      exact bodyPost_ret (results_row2 rfl _ _ (w.heap.size + 1) (nmC 20 ⟨#[]⟩ 0 0 ⟨#[]⟩).toList _ rfl (World.rangeAt_setCells_same _ _ _ _ HV.out.1.there) Tryz.underlying28 rfl infoName) rfl ⟨rfl, below_setCells _ (by omega) _ _ _ HV.out.2⟩
  · have e0 : inI K = false := by unfold inI; rw [Bool.and_eq_false_iff, decide_eq_false_iff_not, decide_eq_false_iff_not]; omega
    have e1 : ownI K = false := by unfold ownI; simp; omega
    have e2 : numI K = false := by unfold numI; simp; omega
    have e3 : mostI K = -1 := by unfold mostI; rw [if_neg (by omega), if_neg (by omega)]
    have e4 : txtI K = false := by unfold txtI; simp; omega
    have r1 : mkK K = 0 := by unfold mkK; rw [e0]; rfl
    have r2 : mkO K O = ⟨#[]⟩ := by unfold mkO; rw [e1]; rfl
    have r3 : mkN K n = 0 := by unfold mkN; rw [e2]; rfl
    have r4 : mkI K i = 0 := by unfold mkI; rw [e3]; rfl
    have r5 : mkT K T = ⟨#[]⟩ := by unfold mkT; rw [e4]; rfl
    rw [r1, r2, r3, r4, r5, e0]
    clear r1 r2 r3 r4 r5 e0 e1 e2 e3 e4
    have x1 : ¬ K = 1 := by omega
    have x2 : ¬ K = 2 := by omega
    have x3 : ¬ K = 3 := by omega
    have x4 : ¬ K = 4 := by omega
    have x5 : ¬ K = 5 := by omega
    have x6 : ¬ K = 6 := by omega
    have x7 : ¬ K = 7 := by omega
    have x8 : ¬ K = 8 := by omega
    have x9 : ¬ K = 9 := by omega
    have x10 : ¬ K = 10 := by omega
    have x11 : ¬ K = 11 := by omega
    have x12 : ¬ K = 12 := by omega
    have x13 : ¬ K = 13 := by omega
    have x14 : ¬ K = 14 := by omega
    have x15 : ¬ K = 15 := by omega
    have x16 : ¬ K = 16 := by omega
    have x17 : ¬ K = 17 := by omega
    have x18 : ¬ K = 18 := by omega
    have x19 : ¬ K = 19 := by omega
    have x20 : ¬ K = 20 := by omega
    clear hK
    go_enter Tryz.func9, Tryz.ntmps9
    go_wp2
    exact bodyPost_ret (results_row2 rfl _ _ (w.heap.size + 1) (nmC 0 ⟨#[]⟩ 0 0 ⟨#[]⟩).toList _ rfl (three_under (c1 := nmC K O n i T) (c2 := nmC 0 ⟨#[]⟩ 0 0 ⟨#[]⟩) (Below.refl _ _)).1.range Tryz.underlying28 rfl infoName) rfl ⟨rfl, (three_under (Below.refl _ _)).2⟩
end Go.Proofs.YtcdjmkfpclmbdaaGreatDoor
