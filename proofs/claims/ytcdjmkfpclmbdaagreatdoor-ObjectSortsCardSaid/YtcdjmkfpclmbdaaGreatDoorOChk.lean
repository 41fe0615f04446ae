/- object: the walk of Check. -/
import Derived.Test.YtcdjmkfpclmbdaaGreatDoorOChkA
import Derived.Deep.MidRow
set_option linter.unusedVariables false
namespace Go.Proofs.YtcdjmkfpclmbdaaGreatDoor
open Go.RowKit

abbrev nmV (K : Int) (O : ByteArray) (n i : Int) (T : ByteArray) : Value := .agg #[.int .i64 K, .string O, .int .i64 n, .int .i64 i, .string T]
abbrev nmC (K : Int) (O : ByteArray) (n i : Int) (T : ByteArray) : Array Value := #[.int .i64 K, .string O, .int .i64 n, .int .i64 i, .string T]
abbrev usL (U : ByteArray) (b1 b2 b3 b4 : Bool) (m : Nat) : List Value := [.string U, .bool b1, .bool b2, .bool b3, .bool b4, .int .i64 (m : Int)]
abbrev usC (U : ByteArray) (b1 b2 b3 b4 : Bool) (m : Nat) : Array Value := #[.string U, .bool b1, .bool b2, .bool b3, .bool b4, .int .i64 (m : Int)]
theorem infoUse : (Tryz.prog.info? 69).map (·.size) = some 6 := by kernel_rfl
theorem Env.use {w : World} (h : Env w) {k : Nat} (hk : k ≤ 20) : w.rangeAt 0 (k * 6) (useV k) := h.kinds k hk
/-- A name and a kind in blocks of the callee's own. -/
def CK (w : World) (cs us : Array Value) (V : World) : Prop := Blk V w.heap.size 28 cs ∧ Blk V (w.heap.size + 1) 69 us ∧ Below w.heap.size w V
theorem ck_new (w : World) (cs us : Array Value) : CK w cs us ((w.alloc (.cells cs 28)).alloc (.cells us 69)) := by
  have e1 : (w.alloc (Obj.cells cs 28)).heap.size = w.heap.size + 1 := by simp
  refine ⟨(Blk.new w _ _).alloc _, ?_, ((Below.refl _ w).alloc (Nat.le_refl _) _).alloc (by simp) _⟩
  rw [← e1]; exact Blk.new _ _ _
theorem Blk.under {w w' : World} {g : Nat} {t : TypeId} {cs : Array Value} (h : Blk w g t cs) (hb : Below w.heap.size w w') : Blk w' g t cs := (hb.block g h.lt).trans h
theorem CK.under {w : World} {cs us : Array Value} {V V' : World} (h : CK w cs us V) (hb : Below V.heap.size V V') : CK w cs us V' :=
  ⟨h.1.under hb, h.2.1.under hb, h.2.2.trans (hb.mono h.2.2.size)⟩
/-- Check, of a kind whose use is given. -/
def chkB (b1 b2 b3 b4 : Bool) (m : Nat) (x : Nm) : Nat :=
  if (!b1 && !x.owner.isEmpty) || (!b2 && x.num != 0) || (!b3 && x.idx != 0) || (!b4 && !x.text.isEmpty) then 1 else if !validB x.owner then 12 else if !(upB x.num 1073741824 && upB x.idx m) then 2 else if b4 && !wordB x.text then 12 else 0

set_option maxHeartbeats 2000000 in
set_option maxRecDepth 100000 in
theorem check_gen (k m : Nat) (b1 b2 b3 b4 : Bool) (U : ByteArray) (n i : Int) (O T : ByteArray) (w : World) (hu : ∀ W, Below w.heap.size w W → W.rangeAt 0 (k * 6) (usL U b1 b2 b3 b4 m)) (hO : O.size ≤ 1000000) (h1 : 1 ≤ k) (h20 : k ≤ 20) :
    Calls Tryz.prog 54 #[nmV k O n i T] w fun e w' => e = .returned (.int .i64 (chkB b1 b2 b3 b4 m ⟨k, O.data.toList, n, i, T.data.toList⟩ : Nat)) ∧ Below w.heap.size w w' := by
  have g1 : ¬ (k : Int) < 1 := by omega
  have g2 : ¬ (20 : Int) < (k : Int) := by omega
  have g3 : (k : Int) < 21 := by omega
  have HU := Lib.hid hu
  obtain ⟨R, hR⟩ : ∃ R, R = chkB b1 b2 b3 b4 m ⟨k, O.data.toList, n, i, T.data.toList⟩ := ⟨_, rfl⟩
  rw [← hR]
  unfold chkB at hR
  simp only at hR
  obtain ⟨A, hA⟩ : ∃ A, A = ((!b1 && !O.data.toList.isEmpty) || (!b2 && n != 0) || (!b3 && i != 0) || (!b4 && !T.data.toList.isEmpty)) := ⟨_, rfl⟩
  obtain ⟨B, hB⟩ : ∃ B, B = validB O.data.toList := ⟨_, rfl⟩
  obtain ⟨C, hC⟩ : ∃ C, C = upB n 1073741824 := ⟨_, rfl⟩
  obtain ⟨D, hD⟩ : ∃ D, D = upB i m := ⟨_, rfl⟩
  obtain ⟨E, hE⟩ : ∃ E, E = wordB T.data.toList := ⟨_, rfl⟩
  rw [← hA, ← hB, ← hC, ← hD, ← hE] at hR
  have HA : Hid (∀ W, Calls Tryz.prog 83 #[nmV k O n i T, .agg (usC U b1 b2 b3 b4 m)] W fun e w' => e = .returned (.bool A) ∧ Below W.heap.size W w') := Lib.hid fun W => by
    rw [hA]; exact hasOthers_any b1 b2 b3 b4 k n i m O T U W
  have HB : Hid (∀ W, Calls Tryz.prog 84 #[.string O] W fun e w' => e = .returned (.bool B) ∧ Below W.heap.size W w') := Lib.hid fun W => by
    rw [hB]; exact valid_any O W hO
  have HC : Hid (∀ W, Calls Tryz.prog 85 #[.int .i64 n, .int .i64 1073741824] W fun e w' => e = .returned (.bool C) ∧ W = w') := Lib.hid fun W => by
    rw [hC]; exact upTo_any n 1073741824 W
  have HD : Hid (∀ W, Calls Tryz.prog 85 #[.int .i64 i, .int .i64 (m : Int)] W fun e w' => e = .returned (.bool D) ∧ W = w') := Lib.hid fun W => by
    rw [hD]; exact upTo_any i m W
  have HE : Hid (∀ W, Calls Tryz.prog 86 #[.string T] W fun e w' => e = .returned (.bool E) ∧ W = w') := Lib.hid fun W => by
    rw [hE]; exact word_any T W
  have HR := Lib.hid hR
  clear hu hR hA hB hC hD hE hO
  have hcase : A = true ∨ (A = false ∧ B = false) ∨ (A = false ∧ B = true ∧ C = false) ∨ (A = false ∧ B = true ∧ C = true ∧ D = false) ∨ (A = false ∧ B = true ∧ C = true ∧ D = true ∧ b4 = false) ∨
      (A = false ∧ B = true ∧ C = true ∧ D = true ∧ b4 = true ∧ E = false) ∨ (A = false ∧ B = true ∧ C = true ∧ D = true ∧ b4 = true ∧ E = true) := by
    cases A <;> cases B <;> cases C <;> cases D <;> cases b4 <;> cases E <;> simp
  rcases hcase with rfl | ⟨rfl, rfl⟩ | ⟨rfl, rfl, rfl⟩ | ⟨rfl, rfl, rfl, rfl⟩ | ⟨rfl, rfl, rfl, rfl, rfl⟩ | ⟨rfl, rfl, rfl, rfl, rfl, rfl⟩ | ⟨rfl, rfl, rfl, rfl, rfl, rfl⟩
  all_goals
    go_enter Tryz.func54, Tryz.ntmps54
    go_wp2_with (first
      | (show wpList _ _ _ (⟨some 15, _, _, _, _, _⟩ :: _) _ _; refine wpList_load_mid (by rfl) 69 (.tmp 14) (by rfl) 0 (k * 6) (by rfl) (usL U _ _ _ _ m) _ (HU.out _ (below_alloc0 _ _ (Nat.le_refl _))) Tryz.underlying69 rfl infoUse ?_)
      | (show wpList _ _ _ (⟨some 17, _, _, _, _, _⟩ :: _) _ _; refine wpl_gen (CK w (nmC k O n i T) (usC U _ _ _ _ m)) (ck_new w _ _) ?_; intro V hV; have c0 := hV.1.cell 0; have c1 := hV.1.cell 1; have c2 := hV.1.cell 2; have c3 := hV.1.cell 3; have c4 := hV.1.cell 4; have d0 := hV.2.1.cell 0; have d1 := hV.2.1.cell 1; have d2 := hV.2.1.cell 2; have d3 := hV.2.1.cell 3; have d4 := hV.2.1.cell 4; have d5 := hV.2.1.cell 5; have HV := Lib.hid hV; clear hV)
      | (go_at_call 83; refine (HA.out _).mono ?_; rintro e V1 ⟨rfl, hb⟩; have HV1 := Lib.hid (HV.out.under hb); clear hb c0 c1 c2 c3 c4 d0 d1 d2 d3 d4 d5; have c1 := HV1.out.1.cell 1)
      | (go_at_call 84; refine (HB.out _).mono ?_; rintro e V2 ⟨rfl, hb⟩; have HV2 := Lib.hid (HV1.out.under hb); clear hb c1; have c2 := HV2.out.1.cell 2; have c3 := HV2.out.1.cell 3; have c4 := HV2.out.1.cell 4; have d4 := HV2.out.2.1.cell 4; have d5 := HV2.out.2.1.cell 5)
      | (go_at_call 85; (with_reducible refine (HC.out _).mono ?_); rintro e w' ⟨rfl, rfl⟩)
      | (go_at_call 85; (with_reducible refine (HD.out _).mono ?_); rintro e w' ⟨rfl, rfl⟩)
      | (go_at_call 86; refine (HE.out _).mono ?_; rintro e w' ⟨rfl, rfl⟩))
  all_goals (go_ret; refine ⟨by rw [HR.out]; rfl, ?_⟩; first | exact HV2.out.2.2 | exact HV1.out.2.2)
theorem check_kind (k : Nat) (n i : Int) (O T : ByteArray) (w : World) (hE : Env w) (hO : O.size ≤ 1000000) (h1 : 1 ≤ k) (h20 : k ≤ 20) :
    Calls Tryz.prog 54 #[nmV k O n i T] w fun e w' => e = .returned (.int .i64 (checkK k ⟨k, O.data.toList, n, i, T.data.toList⟩ : Nat)) ∧ Below w.heap.size w w' :=
  check_gen k (mostN k) (ownN k) (numN k) (idxN k) (txtN k) ⟨(wordN k).toArray⟩ n i O T w (fun W hb => (hE.below hb).use h20) hO h1 h20

set_option maxHeartbeats 1000000 in
set_option maxRecDepth 100000 in
theorem check_any (K n i : Int) (O T : ByteArray) (w : World) (hE : Env w) (hO : O.size ≤ 1000000) :
    Calls Tryz.prog 54 #[nmV K O n i T] w fun e w' => e = .returned (.int .i64 (checkN ⟨K, O.data.toList, n, i, T.data.toList⟩ : Nat)) ∧ Below w.heap.size w w' := by
  by_cases h1 : K < 1
  · have hr : checkN ⟨K, O.data.toList, n, i, T.data.toList⟩ = 11 := if_pos (.inl h1)
    rw [hr]
    clear hE hO hr
    go_enter Tryz.func54, Tryz.ntmps54
    go_wp2
    go_ret
    exact ⟨rfl, (Below.refl _ _).alloc (Nat.le_refl _) _⟩
  · by_cases h20 : 20 < K
    · have hr : checkN ⟨K, O.data.toList, n, i, T.data.toList⟩ = 11 := if_pos (.inr h20)
      rw [hr]
      clear hE hO hr
      go_enter Tryz.func54, Tryz.ntmps54
      go_wp2
      go_ret
      exact ⟨rfl, (Below.refl _ _).alloc (Nat.le_refl _) _⟩
    · obtain ⟨k, rfl⟩ := Int.eq_ofNat_of_zero_le (show 0 ≤ K by omega)
      have hr : checkN ⟨(k : Int), O.data.toList, n, i, T.data.toList⟩ = checkK k ⟨(k : Int), O.data.toList, n, i, T.data.toList⟩ := by
        unfold checkN
        rw [if_neg (by show ¬ ((k : Int) < 1 ∨ 20 < (k : Int)); omega)]
        rfl
      rw [hr]
      exact check_kind k n i O T w hE hO (by omega) (by omega)

/-- Birth.Check. -/
def birthN (o : List UInt8) (n : Int) : Nat := if !validB o then 12 else if !upB n 1073741824 then 2 else 0
end Go.Proofs.YtcdjmkfpclmbdaaGreatDoor
