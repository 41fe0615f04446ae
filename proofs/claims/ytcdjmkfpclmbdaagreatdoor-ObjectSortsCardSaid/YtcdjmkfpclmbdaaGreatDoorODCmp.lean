/- object: Compare, with the draws (what a sort asks of the function that compares). -/
import Derived.Test.YtcdjmkfpclmbdaaGreatDoorOCmpB
import Derived.Test.YtcdjmkfpclmbdaaGreatDoorOLf
set_option linter.unusedVariables false
namespace Go.Proofs.YtcdjmkfpclmbdaaGreatDoor.D
open Go.RowKit

theorem below2a (w : World) (o1 o2 : Obj) : Below w.heap.size w ((w.alloc o1).alloc o2) := ((Below.refl _ w).alloc (Nat.le_refl _) _).alloc (by simp) _
theorem below2b {w W : World} {o1 o2 : Obj} (h : Below ((w.alloc o1).alloc o2).heap.size ((w.alloc o1).alloc o2) W) : Below w.heap.size w W := (below2a w o1 o2).trans (h.mono (below2a w o1 o2).size)

set_option maxHeartbeats 4000000 in
set_option maxRecDepth 100000 in
theorem cmpO_any (K : Int) (O : ByteArray) (n i : Int) (T : ByteArray) (L : Int) (P : ByteArray) (m j : Int) (Q : ByteArray) (w : World) (hO : O.size ≤ 1000000) (hP : P.size ≤ 1000000) :
    Calls Tryz.prog 51 #[nmV K O n i T, nmV L P m j Q] w fun e w' => e = .returned (.int .i64 (ordN ⟨K, O.data.toList, n, i, T.data.toList⟩ ⟨L, P.data.toList, m, j, Q.data.toList⟩)) ∧ Below w.heap.size w w' := by
  by_cases h1 : K = L
  · subst h1
    by_cases h2 : O = P
    · subst h2
      by_cases h3 : n = m
      · subst h3
        by_cases h4 : i = j
        · subst h4
          have hr : ordN ⟨K, O.data.toList, n, i, T.data.toList⟩ ⟨K, O.data.toList, n, i, Q.data.toList⟩ = strC T.data.toList Q.data.toList := by simp [ordN]
          rw [hr]
          obtain ⟨R, hR⟩ : ∃ R, R = strC T.data.toList Q.data.toList := ⟨_, rfl⟩
          have HC := Lib.hid (strCmp_any T Q)
          rw [← hR] at HC ⊢
          have e1 := tl_eq O
          clear hr hR hO hP
          go_enter Tryz.func51, Tryz.ntmps51
          go_wp2_with (go_at_call 80; refine (HC.out _).mono ?_; rintro e w' ⟨rfl, rfl⟩)
          go_ret
          exact ⟨rfl, below2a _ _ _⟩
        · have hr : ordN ⟨K, O.data.toList, n, i, T.data.toList⟩ ⟨K, O.data.toList, n, j, Q.data.toList⟩ = ordI i j := by simp [ordN, h4]
          rw [hr]
          obtain ⟨R, hR⟩ : ∃ R, R = ordI i j := ⟨_, rfl⟩
          have HC := Lib.hid (intCmp_any i j)
          rw [← hR] at HC ⊢
          have e1 := tl_eq O
          clear hr hR hO hP
          go_enter Tryz.func51, Tryz.ntmps51
          go_wp2_with (go_at_call 78; refine (HC.out _).mono ?_; rintro e w' ⟨rfl, rfl⟩)
          go_ret
          exact ⟨rfl, below2a _ _ _⟩
      · have hr : ordN ⟨K, O.data.toList, n, i, T.data.toList⟩ ⟨K, O.data.toList, m, j, Q.data.toList⟩ = ordI n m := by simp [ordN, h3]
        rw [hr]
        obtain ⟨R, hR⟩ : ∃ R, R = ordI n m := ⟨_, rfl⟩
        have HC := Lib.hid (intCmp_any n m)
        rw [← hR] at HC ⊢
        have e1 := tl_eq O
        clear hr hR hO hP
        go_enter Tryz.func51, Tryz.ntmps51
        go_wp2_with (go_at_call 78; refine (HC.out _).mono ?_; rintro e w' ⟨rfl, rfl⟩)
        go_ret
        exact ⟨rfl, below2a _ _ _⟩
    · have hr : ordN ⟨K, O.data.toList, n, i, T.data.toList⟩ ⟨K, P.data.toList, m, j, Q.data.toList⟩ = compareB O.data.toList P.data.toList := by simp [ordN, dl_ne h2]
      rw [hr]
      obtain ⟨R, hR⟩ : ∃ R, R = compareB O.data.toList P.data.toList := ⟨_, rfl⟩
      have HC := Lib.hid fun W => compare_any O P W hO hP
      rw [← hR] at HC ⊢
      have e1 := tl_ne h2
      clear hr hR hO hP h2
      go_enter Tryz.func51, Tryz.ntmps51
      go_wp2_with (go_at_call 79; refine (HC.out _).mono ?_; rintro e w' ⟨rfl, hb⟩; have HB := Lib.hid hb; clear hb)
      go_ret
      exact ⟨rfl, below2b HB.out⟩
  · have hr : ordN ⟨K, O.data.toList, n, i, T.data.toList⟩ ⟨L, P.data.toList, m, j, Q.data.toList⟩ = ordI K L := by simp [ordN, h1]
    rw [hr]
    obtain ⟨R, hR⟩ : ∃ R, R = ordI K L := ⟨_, rfl⟩
    have HC := Lib.hid (intCmp_any K L)
    rw [← hR] at HC ⊢
    clear hr hR hO hP
    go_enter Tryz.func51, Tryz.ntmps51
    go_wp2_with (go_at_call 78; refine (HC.out _).mono ?_; rintro e w' ⟨rfl, rfl⟩)
    go_ret
    exact ⟨rfl, below2a _ _ _⟩

end Go.Proofs.YtcdjmkfpclmbdaaGreatDoor.D
