/- lineage: the walks of slices.Compare at ints and cmp.Compare at names. -/
import Derived.Test.YtdfenaoddbdppaaDoorLWithin
set_option linter.unusedVariables false
namespace Go.Proofs.YtdfenaoddbdppaaDoor
open Go.RowKit

def cmpI : List Nat → List Nat → Int
  | [], [] => 0
  | [], _ :: _ => -1
  | _ :: _, [] => 1
  | a :: x, b :: y => if a < b then -1 else if b < a then 1 else cmpI x y
theorem getElem_drop {l : List Nat} {k x : Nat} (h : l[k]? = some x) : l.drop k = x :: l.drop (k + 1) := by
  obtain ⟨hk, rfl⟩ := List.getElem?_eq_some_iff.1 h
  exact List.drop_eq_getElem_cons hk

set_option maxHeartbeats 2000000 in
set_option maxRecDepth 100000 in
theorem sliceCmp_any (x y : List Nat) (A B : Option Addr) (c d M : Nat) (w : World) (hx : RI w M A x) (hy : RI w M B y) (hxl : x.length ≤ 1000) (hyl : y.length ≤ 1000) :
    Calls Tryd.prog 54 #[.slice A x.length c, .slice B y.length d] w fun e w' => e = .returned (.int .i64 (cmpI x y)) ∧ w' = w := by
  obtain ⟨R, hR⟩ : ∃ R, R = cmpI x y := ⟨_, rfl⟩
  rw [← hR]
  have HX := Lib.hid hx
  have HY := Lib.hid hy
  have HR := Lib.hid hR
  clear hx hy hR
  go_enter Tryd.func54, Tryd.ntmps54
  go_wp2
  go_loopw [11] (fun i wr => ∃ k : Nat, k ≤ x.length ∧ k ≤ y.length ∧ i = .int .i64 k ∧ R = cmpI (x.drop k) (y.drop k) ∧ wr = w) (fun i _ => x.length - (intOf i).toNat)
  case atStart => exact ⟨0, by omega, by omega, rfl, HR.out, rfl⟩
  case round =>
    obtain ⟨k, hk, hk2, rfl, hRk, rfl⟩ := hrel
    have HRK := Lib.hid hRk
    clear hRk
    by_cases hlt : k < x.length
    · have h1 : (k : Int) < (x.length : Int) := by omega
      obtain ⟨b, off, a, rfl, hb, ha, hc⟩ := HX.out.at_ hlt
      have HA := Lib.hid ha
      clear ha
      by_cases hlt2 : k < y.length
      · have h2 : ¬ (y.length : Int) ≤ (k : Int) := by omega
        have h2' : (k : Int) < (y.length : Int) := by omega
        obtain ⟨b2, off2, e, rfl, hb2, he, hc2⟩ := HY.out.at_ hlt2
        have hq := HRK.out
        rw [getElem_drop HA.out, getElem_drop he, cmpI] at hq
        clear he
        have HC : Hid (∀ W, Calls Tryd.prog 68 #[.int .i64 (a : Int), .int .i64 (e : Int)] W fun e' w' => e' = .returned (.int .i64 (if a < e then -1 else if e < a then 1 else 0)) ∧ w' = W) := Lib.hid fun W => by
          refine (Tryd.cmp_Compare_int (a : Int) (e : Int) W).mono ?_
          rintro e' w' ⟨rfl, rfl⟩
          refine ⟨?_, rfl⟩
          congr 3
          unfold Lib.compareInt
          split <;> split <;> first | rfl | omega | (split <;> first | rfl | omega) | skip
        by_cases hae : a < e
        · rw [if_pos hae] at hq
          have HC2 : Hid (∀ W, Calls Tryd.prog 68 #[.int .i64 (a : Int), .int .i64 (e : Int)] W fun e' w' => e' = .returned (.int .i64 (-1)) ∧ w' = W) := Lib.hid fun W => by have := HC.out W; rw [if_pos hae] at this; exact this
          subst hq
          clear HC hae HRK
          go_wp2_with (go_at_call 68; refine (HC2.out _).mono ?_; rintro e w' ⟨rfl, rfl⟩)
          go_ret
          exact ⟨rfl, rfl⟩
        · rw [if_neg hae] at hq
          by_cases hea : e < a
          · rw [if_pos hea] at hq
            have HC2 : Hid (∀ W, Calls Tryd.prog 68 #[.int .i64 (a : Int), .int .i64 (e : Int)] W fun e' w' => e' = .returned (.int .i64 1) ∧ w' = W) := Lib.hid fun W => by have := HC.out W; rw [if_neg hae, if_pos hea] at this; exact this
            subst hq
            clear HC hae hea HRK
            go_wp2_with (go_at_call 68; refine (HC2.out _).mono ?_; rintro e w' ⟨rfl, rfl⟩)
            go_ret
            exact ⟨rfl, rfl⟩
          · rw [if_neg hea] at hq
            have HC2 : Hid (∀ W, Calls Tryd.prog 68 #[.int .i64 (a : Int), .int .i64 (e : Int)] W fun e' w' => e' = .returned (.int .i64 0) ∧ w' = W) := Lib.hid fun W => by have := HC.out W; rw [if_neg hae, if_neg hea] at this; exact this
            have HQ := Lib.hid hq
            clear HC hae hea HRK hq
            go_wp2_with (go_at_call 68; refine (HC2.out _).mono ?_; rintro e w' ⟨rfl, rfl⟩)
            go_roundw
            case rel => exact ⟨k + 1, by omega, by omega, by go_num, HQ.out, trivial⟩
            case measure => simp [intOf] <;> omega
      · have h2 : (y.length : Int) ≤ (k : Int) := by omega
        have hq := HRK.out
        rw [getElem_drop HA.out, List.drop_eq_nil_of_le (show y.length ≤ k by omega), cmpI] at hq
        subst hq
        clear HRK
        go_wp2
        go_ret
        exact ⟨rfl, rfl⟩
    · have h1 : ¬ (k : Int) < (x.length : Int) := by omega
      have hkx : k = x.length := by omega
      have hq := HRK.out
      rw [List.drop_eq_nil_of_le (show x.length ≤ k by omega)] at hq
      by_cases hlt2 : x.length < y.length
      · have h2 : (x.length : Int) < (y.length : Int) := by omega
        have : ∃ b r, y.drop k = b :: r := by
          cases h : y.drop k with
          | nil => have := congrArg List.length h; rw [List.length_drop, List.length_nil] at this; omega
          | cons b r => exact ⟨b, r, rfl⟩
        obtain ⟨b, r, hbr⟩ := this
        rw [hbr, cmpI] at hq
        subst hq
        clear HRK hkx
        go_wp2
        go_ret
        exact ⟨rfl, rfl⟩
      · have h2 : ¬ (x.length : Int) < (y.length : Int) := by omega
        rw [List.drop_eq_nil_of_le (show y.length ≤ k by omega), cmpI] at hq
        subst hq
        clear HRK hkx
        go_wp2
        go_ret
        exact ⟨rfl, rfl⟩

theorem isNaN_any (S : ByteArray) (w : World) : Calls Tryd.prog 69 #[.string S] w fun e w' => e = .returned (.bool false) ∧ w' = w := by
  have h : (S.toList == S.toList) = true := by simp
  go_enter Tryd.func69, Tryd.ntmps69
  go_wp2
  go_ret
  exact ⟨rfl, rfl⟩
/-- The order of strings. -/
def strC (s t : List UInt8) : Int := if Op.bytesLess s t then -1 else if s = t then 0 else 1
theorem toList_data (S : ByteArray) : S.toList = S.data.toList := ByteArray.toList_eq S
theorem bytesLess_irrefl : ∀ s : List UInt8, Op.bytesLess s s = false
  | [] => rfl
  | a :: s => by rw [Op.bytesLess, bytesLess_irrefl s]; simp

set_option maxHeartbeats 1000000 in
set_option maxRecDepth 100000 in
theorem nameCmp_any (S T : ByteArray) (w : World) :
    Calls Tryd.prog 55 #[.string S, .string T] w fun e w' => e = .returned (.int .i64 (strC S.data.toList T.data.toList)) ∧ w' = w := by
  have e1 : (S.toList == T.toList) = decide (S.data.toList = T.data.toList) := by
    rw [toList_data, toList_data, Bool.eq_iff_iff]; simp
  obtain ⟨p, hp⟩ : ∃ p, p = Op.bytesLess S.toList T.toList := ⟨_, rfl⟩
  have hp2 : Op.bytesLess S.data.toList T.data.toList = p := by rw [hp, toList_data, toList_data]
  have HN : Hid (∀ (X : ByteArray) W, Calls Tryd.prog 69 #[.string X] W fun e w' => e = .returned (.bool false) ∧ w' = W) := Lib.hid isNaN_any
  unfold strC
  rw [hp2]
  cases p with
  | true =>
    have HE := Lib.hid e1
    clear e1 hp2
    have q1 : Op.bytesLess S.toList T.toList = true := hp.symm
    clear hp
    go_enter Tryd.func55, Tryd.ntmps55
    go_wp2_with (go_at_call 69; refine (HN.out _ _).mono ?_; rintro e w' ⟨rfl, rfl⟩)
    go_ret
    exact ⟨rfl, rfl⟩
  | false =>
    have q1 : Op.bytesLess S.toList T.toList = false := hp.symm
    clear hp hp2
    by_cases he : S.data.toList = T.data.toList
    · have q2 : (S.toList == T.toList) = true := by rw [e1, decide_eq_true he]
      have hr : (if (false : Bool) = true then (-1 : Int) else if S.data.toList = T.data.toList then 0 else 1) = 0 := by rw [if_neg (by decide), if_pos he]
      rw [hr]
      clear he hr e1
      have hgt : ∀ W, (binOp BinOp.gtr 23 (.string S) (.string T)).run Tryd.prog W = .ok (.bool false) W := fun W => by simp [binOp, Op.stringOp, q1, q2]
      go_enter Tryd.func55, Tryd.ntmps55
      go_wp2_with (go_at_call 69; refine (HN.out _ _).mono ?_; rintro e w' ⟨rfl, rfl⟩)
      go_ret
      exact ⟨rfl, rfl⟩
    · have q2 : (S.toList == T.toList) = false := by rw [e1, decide_eq_false he]
      have hr : (if (false : Bool) = true then (-1 : Int) else if S.data.toList = T.data.toList then 0 else 1) = 1 := by rw [if_neg (by decide), if_neg he]
      rw [hr]
      clear he hr e1
      have hgt : ∀ W, (binOp BinOp.gtr 23 (.string S) (.string T)).run Tryd.prog W = .ok (.bool true) W := fun W => by simp [binOp, Op.stringOp, q1, q2]
      go_enter Tryd.func55, Tryd.ntmps55
      go_wp2_with (go_at_call 69; refine (HN.out _ _).mono ?_; rintro e w' ⟨rfl, rfl⟩)
      go_ret
      exact ⟨rfl, rfl⟩
end Go.Proofs.YtdfenaoddbdppaaDoor
