/- object: Compare, and the reference's, walked. -/
import Derived.Test.YtcdjmkfpclmbdaaGreatDoorOCmp
import Derived.Test.YtcdjmkfpclmbdaaGreatDoorOApart
set_option linter.unusedVariables false
namespace Go.Proofs.YtcdjmkfpclmbdaaGreatDoor
open Go.RowKit

theorem below2a (w : World) (o1 o2 : Obj) : Below w.heap.size w ((w.alloc o1).alloc o2) := ((Below.refl _ w).alloc (Nat.le_refl _) _).alloc (by simp) _
theorem below2b {w W : World} {o1 o2 : Obj} (h : Below ((w.alloc o1).alloc o2).heap.size ((w.alloc o1).alloc o2) W) : Below w.heap.size w W := (below2a w o1 o2).trans (h.mono (below2a w o1 o2).size)
theorem tl_ne {O P : ByteArray} (h : O ≠ P) : (O.toList == P.toList) = false := by
  rw [beq_eq_false_iff_ne]; exact fun e => h (ba_toList e)
theorem tl_eq (O : ByteArray) : (O.toList == O.toList) = true := by simp
theorem dl_ne {O P : ByteArray} (h : O ≠ P) : O.data.toList ≠ P.data.toList := fun e => h (Go.WideShapes.bytes_inj e)

set_option maxHeartbeats 4000000 in
set_option maxRecDepth 100000 in
theorem cmpO_any (K : Int) (O : ByteArray) (n i : Int) (T : ByteArray) (L : Int) (P : ByteArray) (m j : Int) (Q : ByteArray) (w : World) (hO : O.size ≤ 1000000) (hP : P.size ≤ 1000000) :
    Calls Tryz.prog 51 #[nmV K O n i T, nmV L P m j Q] w fun e w' => e = .returned (.int .i64 (ordN ⟨K, O.data.toList, n, i, T.data.toList⟩ ⟨L, P.data.toList, m, j, Q.data.toList⟩)) ∧ Below w.heap.size w w' := by
  by_cases h1 : K = L
  · subst h1
    by_cases h2 : O = P
    · subst h2
      by_cases h3 : n = m
      · subst h3
        by_cases h4 : i = j
        · subst h4
          have hr : ordN ⟨K, O.data.toList, n, i, T.data.toList⟩ ⟨K, O.data.toList, n, i, Q.data.toList⟩ = strC T.data.toList Q.data.toList := by simp [ordN]
          rw [hr]
          obtain ⟨R, hR⟩ : ∃ R, R = strC T.data.toList Q.data.toList := ⟨_, rfl⟩
          have HC := Lib.hid (strCmp_any T Q)
          rw [← hR] at HC ⊢
          have e1 := tl_eq O
          clear hr hR hO hP
          go_enter Tryz.func51, Tryz.ntmps51
          go_wp2_with (go_at_call 80; refine (HC.out _).mono ?_; rintro e w' ⟨rfl, rfl⟩)
          go_ret
          exact ⟨rfl, below2a _ _ _⟩
        · have hr : ordN ⟨K, O.data.toList, n, i, T.data.toList⟩ ⟨K, O.data.toList, n, j, Q.data.toList⟩ = ordI i j := by simp [ordN, h4]
          rw [hr]
          obtain ⟨R, hR⟩ : ∃ R, R = ordI i j := ⟨_, rfl⟩
          have HC := Lib.hid (intCmp_any i j)
          rw [← hR] at HC ⊢
          have e1 := tl_eq O
          clear hr hR hO hP
          go_enter Tryz.func51, Tryz.ntmps51
          go_wp2_with (go_at_call 78; refine (HC.out _).mono ?_; rintro e w' ⟨rfl, rfl⟩)
          go_ret
          exact ⟨rfl, below2a _ _ _⟩
      · have hr : ordN ⟨K, O.data.toList, n, i, T.data.toList⟩ ⟨K, O.data.toList, m, j, Q.data.toList⟩ = ordI n m := by simp [ordN, h3]
        rw [hr]
        obtain ⟨R, hR⟩ : ∃ R, R = ordI n m := ⟨_, rfl⟩
        have HC := Lib.hid (intCmp_any n m)
        rw [← hR] at HC ⊢
        have e1 := tl_eq O
        clear hr hR hO hP
        go_enter Tryz.func51, Tryz.ntmps51
        go_wp2_with (go_at_call 78; refine (HC.out _).mono ?_; rintro e w' ⟨rfl, rfl⟩)
        go_ret
        exact ⟨rfl, below2a _ _ _⟩
    · have hr : ordN ⟨K, O.data.toList, n, i, T.data.toList⟩ ⟨K, P.data.toList, m, j, Q.data.toList⟩ = compareB O.data.toList P.data.toList := by simp [ordN, dl_ne h2]
      rw [hr]
      obtain ⟨R, hR⟩ : ∃ R, R = compareB O.data.toList P.data.toList := ⟨_, rfl⟩
      have HC := Lib.hid fun W => compare_any O P W hO hP
      rw [← hR] at HC ⊢
      have e1 := tl_ne h2
      clear hr hR hO hP h2
      go_enter Tryz.func51, Tryz.ntmps51
      go_wp2_with (go_at_call 79; refine (HC.out _).mono ?_; rintro e w' ⟨rfl, hb⟩; have HB := Lib.hid hb; clear hb)
      go_ret
      exact ⟨rfl, below2b HB.out⟩
  · have hr : ordN ⟨K, O.data.toList, n, i, T.data.toList⟩ ⟨L, P.data.toList, m, j, Q.data.toList⟩ = ordI K L := by simp [ordN, h1]
    rw [hr]
    obtain ⟨R, hR⟩ : ∃ R, R = ordI K L := ⟨_, rfl⟩
    have HC := Lib.hid (intCmp_any K L)
    rw [← hR] at HC ⊢
    clear hr hR hO hP
    go_enter Tryz.func51, Tryz.ntmps51
    go_wp2_with (go_at_call 78; refine (HC.out _).mono ?_; rintro e w' ⟨rfl, rfl⟩)
    go_ret
    exact ⟨rfl, below2a _ _ _⟩

set_option maxHeartbeats 4000000 in
set_option maxRecDepth 100000 in
theorem cmpR_any (K : Int) (O : ByteArray) (n i : Int) (T : ByteArray) (L : Int) (P : ByteArray) (m j : Int) (Q : ByteArray) (w : World) (hO : O.size ≤ 1000000) (hP : P.size ≤ 1000000) :
    Calls Tryz.prog 53 #[nmV K O n i T, nmV L P m j Q] w fun e w' => e = .returned (.int .i64 (ordN ⟨K, O.data.toList, n, i, T.data.toList⟩ ⟨L, P.data.toList, m, j, Q.data.toList⟩)) ∧ Below w.heap.size w w' := by
  by_cases h1 : K = L
  · subst h1
    have HC0 := Lib.hid fun W => refCompare_any O P W hO hP
    by_cases h2 : O = P
    · subst h2
      have hz : compareB O.data.toList O.data.toList = 0 := (cmpB_zero _ _).2 rfl
      rw [hz] at HC0
      by_cases h3 : n = m
      · subst h3
        by_cases h4 : i = j
        · subst h4
          have hr : ordN ⟨K, O.data.toList, n, i, T.data.toList⟩ ⟨K, O.data.toList, n, i, Q.data.toList⟩ = strC T.data.toList Q.data.toList := by simp [ordN]
          rw [hr]
          clear hr hO hP hz
          have e1 : (T.toList == Q.toList) = decide (T.data.toList = Q.data.toList) := by
            rw [toList_data, toList_data, Bool.eq_iff_iff]; simp
          obtain ⟨p, hp⟩ : ∃ p, p = Op.bytesLess T.toList Q.toList := ⟨_, rfl⟩
          have hp2 : Op.bytesLess T.data.toList Q.data.toList = p := by rw [hp, toList_data, toList_data]
          unfold strC
          rw [hp2]
          cases p with
          | true =>
            have q1 : Op.bytesLess T.toList Q.toList = true := hp.symm
            clear hp hp2 e1
            go_enter Tryz.func53, Tryz.ntmps53
            go_wp2_with (go_at_call 82; refine (HC0.out _).mono ?_; rintro e w' ⟨rfl, hb⟩; have HB := Lib.hid hb; (obtain ⟨hc1, hf1⟩ := bcell hb); clear hb)
            go_ret
            exact ⟨rfl, below2b HB.out⟩
          | false =>
            have q1 : Op.bytesLess T.toList Q.toList = false := hp.symm
            clear hp hp2
            by_cases he : T.data.toList = Q.data.toList
            · have q2 : (T.toList == Q.toList) = true := by rw [e1, decide_eq_true he]
              have hr : (if (false : Bool) = true then (-1 : Int) else if T.data.toList = Q.data.toList then 0 else 1) = 0 := by rw [if_neg (by decide), if_pos he]
              rw [hr]
              clear he hr e1
              have hgt : ∀ W, (binOp BinOp.gtr 9 (.string T) (.string Q)).run Tryz.prog W = .ok (.bool false) W := fun W => by simp [binOp, Op.stringOp, q1, q2]
              go_enter Tryz.func53, Tryz.ntmps53
              go_wp2_with (go_at_call 82; refine (HC0.out _).mono ?_; rintro e w' ⟨rfl, hb⟩; have HB := Lib.hid hb; (obtain ⟨hc1, hf1⟩ := bcell hb); clear hb)
              go_ret
              exact ⟨rfl, below2b HB.out⟩
            · have q2 : (T.toList == Q.toList) = false := by rw [e1, decide_eq_false he]
              have hr : (if (false : Bool) = true then (-1 : Int) else if T.data.toList = Q.data.toList then 0 else 1) = 1 := by rw [if_neg (by decide), if_neg he]
              rw [hr]
              clear he hr e1
              have hgt : ∀ W, (binOp BinOp.gtr 9 (.string T) (.string Q)).run Tryz.prog W = .ok (.bool true) W := fun W => by simp [binOp, Op.stringOp, q1, q2]
              go_enter Tryz.func53, Tryz.ntmps53
              go_wp2_with (go_at_call 82; refine (HC0.out _).mono ?_; rintro e w' ⟨rfl, hb⟩; have HB := Lib.hid hb; (obtain ⟨hc1, hf1⟩ := bcell hb); clear hb)
              go_ret
              exact ⟨rfl, below2b HB.out⟩
        · have hr : ordN ⟨K, O.data.toList, n, i, T.data.toList⟩ ⟨K, O.data.toList, n, j, Q.data.toList⟩ = ordI i j := by simp [ordN, h4]
          rw [hr]
          obtain ⟨R, hR⟩ : ∃ R, R = ordI i j := ⟨_, rfl⟩
          have HC := Lib.hid (refOrd_any i j)
          rw [← hR] at HC ⊢
          clear hr hR hO hP hz
          go_enter Tryz.func53, Tryz.ntmps53
          go_wp2_with (first | (go_at_call 82; refine (HC0.out _).mono ?_; rintro e w' ⟨rfl, hb⟩; have HB := Lib.hid hb; (obtain ⟨hc1, hf1⟩ := bcell hb); clear hb) | (go_at_call 81; refine (HC.out _).mono ?_; rintro e w' ⟨rfl, rfl⟩))
          go_ret
          exact ⟨rfl, below2b HB.out⟩
      · have hr : ordN ⟨K, O.data.toList, n, i, T.data.toList⟩ ⟨K, O.data.toList, m, j, Q.data.toList⟩ = ordI n m := by simp [ordN, h3]
        rw [hr]
        obtain ⟨R, hR⟩ : ∃ R, R = ordI n m := ⟨_, rfl⟩
        have HC := Lib.hid (refOrd_any n m)
        rw [← hR] at HC ⊢
        clear hr hR hO hP hz
        go_enter Tryz.func53, Tryz.ntmps53
        go_wp2_with (first | (go_at_call 82; refine (HC0.out _).mono ?_; rintro e w' ⟨rfl, hb⟩; have HB := Lib.hid hb; (obtain ⟨hc1, hf1⟩ := bcell hb); clear hb) | (go_at_call 81; refine (HC.out _).mono ?_; rintro e w' ⟨rfl, rfl⟩))
        go_ret
        exact ⟨rfl, below2b HB.out⟩
    · have hr : ordN ⟨K, O.data.toList, n, i, T.data.toList⟩ ⟨K, P.data.toList, m, j, Q.data.toList⟩ = compareB O.data.toList P.data.toList := by simp [ordN, dl_ne h2]
      rw [hr]
      have hz : compareB O.data.toList P.data.toList ≠ 0 := fun h => dl_ne h2 ((cmpB_zero _ _).1 h)
      obtain ⟨R, hR⟩ : ∃ R, R = compareB O.data.toList P.data.toList := ⟨_, rfl⟩
      rw [← hR] at HC0 hz ⊢
      clear hr hR hO hP h2
      go_enter Tryz.func53, Tryz.ntmps53
      go_wp2_with (go_at_call 82; refine (HC0.out _).mono ?_; rintro e w' ⟨rfl, hb⟩; have HB := Lib.hid hb; (obtain ⟨hc1, hf1⟩ := bcell hb); clear hb)
      go_ret
      exact ⟨rfl, below2b HB.out⟩
  · have hr : ordN ⟨K, O.data.toList, n, i, T.data.toList⟩ ⟨L, P.data.toList, m, j, Q.data.toList⟩ = ordI K L := by simp [ordN, h1]
    rw [hr]
    obtain ⟨R, hR⟩ : ∃ R, R = ordI K L := ⟨_, rfl⟩
    have HC := Lib.hid (refOrd_any K L)
    rw [← hR] at HC ⊢
    clear hr hR hO hP
    go_enter Tryz.func53, Tryz.ntmps53
    go_wp2_with (go_at_call 81; refine (HC.out _).mono ?_; rintro e w' ⟨rfl, rfl⟩)
    go_ret
    exact ⟨rfl, below2a _ _ _⟩
end Go.Proofs.YtcdjmkfpclmbdaaGreatDoor
