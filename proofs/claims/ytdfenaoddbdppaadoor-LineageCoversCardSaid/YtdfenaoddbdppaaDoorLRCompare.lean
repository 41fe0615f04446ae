/- lineage: the walk of the reference's Compare. -/
import Derived.Test.YtdfenaoddbdppaaDoorLRCommon
set_option linter.unusedVariables false
namespace Go.Proofs.YtdfenaoddbdppaaDoor
open Go.RowKit

theorem cmpI_nil_left {y : List Nat} (h : 0 < y.length) : cmpI [] y = -1 := by
  cases y with
  | nil => simp at h
  | cons a r => rfl
theorem cmpI_nil_right {x : List Nat} (h : 0 < x.length) : cmpI x [] = 1 := by
  cases x with
  | nil => simp at h
  | cons a r => rfl

set_option maxHeartbeats 4000000 in
set_option maxRecDepth 100000 in
theorem refCompare_any (S T : ByteArray) (w : World) (hS : S.size ≤ 1000000) (hT : T.size ≤ 1000000) :
    Calls Tryd.prog 32 #[.string S, .string T] w fun e w' => e = .returned (.int .i64 (compareB S.data.toList T.data.toList)) ∧ Below w.heap.size w w' := by
  obtain ⟨R, hR⟩ : ∃ R, R = parseL S.data.toList := ⟨_, rfl⟩
  obtain ⟨Q, hQ⟩ : ∃ Q, Q = parseL T.data.toList := ⟨_, rfl⟩
  have HP := Lib.hid (refParse_any S w hS R hR)
  have HQ := Lib.hid (fun W => refParse_any T W hT Q hQ)
  have hxl : R.1.length ≤ 8 := by rw [hR]; exact parseL_len8 _
  have hyl : Q.1.length ≤ 8 := by rw [hQ]; exact parseL_len8 _
  have hc : compareB S.data.toList T.data.toList = if R.2.2 = 0 then (if Q.2.2 = 0 then cmpI R.1 Q.1 else -1) else if Q.2.2 = 0 then 1 else strC S.data.toList T.data.toList := by
    unfold compareB validB
    rw [← hR, ← hQ]
    simp only [beq_iff_eq]
  rw [hc]
  clear hR hQ hc
  obtain ⟨x, xa, xe⟩ := R
  obtain ⟨y, ya, ye⟩ := Q
  simp only at hxl hyl ⊢
  by_cases hxe : xe = 0
  · subst hxe
    rw [if_pos rfl]
    by_cases hye : ye = 0
    · subst hye
      rw [if_pos rfl]
      obtain ⟨C, hC⟩ : ∃ C, C = cmpI x y := ⟨_, rfl⟩
      rw [← hC]
      have HC := Lib.hid hC
      clear hC
      go_enter Tryd.func32, Tryd.ntmps32
      go_wp2_with (first
        | (go_at_call 19; (with_reducible refine HP.out.mono ?_); rintro e W1 ⟨v1, rfl, ho1, hb1⟩; have HB1 := Lib.hid hb1; (obtain ⟨A1, c1, hv1, hr1, hcap1, _⟩ := ho1.form); have R1 := Lib.hid hr1; subst hv1; clear ho1 hb1 hr1)
        | (go_at_call 19; (with_reducible refine (HQ.out W1).mono ?_); rintro e W2 ⟨v2, rfl, ho2, hb2⟩; have HB2 := Lib.hid hb2; (obtain ⟨A2, c2, hv2, hr2, _, _⟩ := ho2.form); have R2 := Lib.hid hr2; subst hv2; clear ho2 hb2 hr2))
      have hrx := R1.out.below HB2.out
      have hry := R2.out
      have HBB := Lib.hid (HB1.out.trans (HB2.out.mono HB1.out.size))
      clear R1 R2 HB1 HB2 HP HQ
      go_loopw [11] (fun i wr => ∃ k n : Nat, k ≤ x.length ∧ k ≤ y.length ∧ i = .int .i64 k ∧ C = cmpI (x.drop k) (y.drop k) ∧ wr = W2.drewN n) (fun i _ => y.length - (intOf i).toNat)
      case atStart => exact ⟨0, 0, by omega, by omega, rfl, HC.out, rfl⟩
      case round =>
        obtain ⟨k, n, hk, hk2, rfl, hCk, rfl⟩ := hrel
        have HCK := Lib.hid hCk
        clear hCk
        by_cases hlt : k < x.length
        · have h1 : (k : Int) < (x.length : Int) := by omega
          by_cases hlt2 : k < y.length
          · have h2 : (k : Int) < (y.length : Int) := by omega
            obtain ⟨b, off, p, rfl, _, hp, c0⟩ := hrx.at_ (k := k) (by omega)
            obtain ⟨b2, off2, q, rfl, _, hq, c1⟩ := hry.at_ hlt2
            have hcq := HCK.out
            rw [getElem_drop hp, getElem_drop hq, cmpI] at hcq
            clear hp hq hrx hry HCK
            by_cases hpq : p < q
            · rw [if_pos hpq] at hcq
              have g1 : (p : Int) < (q : Int) := by omega
              subst hcq
              clear HC
              go_wp2_with fail
              go_quiet (fail)
              go_wp2
              go_ret
              exact ⟨rfl, below_drewN (below_drewN HBB.out _) _⟩
            · rw [if_neg hpq] at hcq
              have g1 : ¬ (p : Int) < (q : Int) := by omega
              by_cases hqp : q < p
              · rw [if_pos hqp] at hcq
                have g2 : (q : Int) < (p : Int) := by omega
                subst hcq
                clear HC
                go_wp2_with fail
                go_quiet (fail)
                go_wp2_with fail
                go_quiet (fail)
                go_wp2
                go_ret
                exact ⟨rfl, by first | exact below_drewN (below_drewN HBB.out _) _ | exact below_drewN (below_drewN (below_drewN HBB.out _) _) _⟩
              · rw [if_neg hqp] at hcq
                have g2 : ¬ (q : Int) < (p : Int) := by omega
                have HCQ := Lib.hid hcq
                clear hcq
                go_wp2_with fail
                go_quiet (fail)
                go_wp2_with fail
                go_quiet (fail)
                go_wp2
                go_roundw
                case rel => exact ⟨k + 1, _, by omega, by omega, by go_num, HCQ.out, rfl⟩
                case measure => simp [intOf] <;> omega
          · have h2 : ¬ (k : Int) < (y.length : Int) := by omega
            have h3 : ¬ (x.length : Int) < (y.length : Int) := by omega
            have h4 : (y.length : Int) < (x.length : Int) := by omega
            have hcq := HCK.out
            rw [List.drop_eq_nil_of_le (show y.length ≤ k by omega), cmpI_nil_right (by rw [List.length_drop]; omega)] at hcq
            subst hcq
            clear HC HCK hrx hry
            go_wp2
            go_ret
            exact ⟨rfl, below_drewN HBB.out _⟩
        · have h1 : ¬ (k : Int) < (x.length : Int) := by omega
          have hcq := HCK.out
          by_cases hlt2 : x.length < y.length
          · have h3 : (x.length : Int) < (y.length : Int) := by omega
            rw [List.drop_eq_nil_of_le (show x.length ≤ k by omega), cmpI_nil_left (by rw [List.length_drop]; omega)] at hcq
            subst hcq
            clear HC HCK hrx hry
            go_wp2
            go_ret
            exact ⟨rfl, below_drewN HBB.out _⟩
          · have h3 : ¬ (x.length : Int) < (y.length : Int) := by omega
            have h4 : ¬ (y.length : Int) < (x.length : Int) := by omega
            rw [List.drop_eq_nil_of_le (show x.length ≤ k by omega), List.drop_eq_nil_of_le (show y.length ≤ k by omega), cmpI] at hcq
            subst hcq
            clear HC HCK hrx hry
            go_wp2
            go_ret
            exact ⟨rfl, below_drewN HBB.out _⟩
    · have q : ((ye : Int) != 0) = true := by simp; omega
      rw [if_neg hye]
      clear hye
      go_enter Tryd.func32, Tryd.ntmps32
      go_wp2_with (first
        | (go_at_call 19; (with_reducible refine HP.out.mono ?_); rintro e W1 ⟨v1, rfl, ho1, hb1⟩; have HB1 := Lib.hid hb1; (obtain ⟨A1, c1, hv1, _⟩ := ho1.form); subst hv1; clear ho1 hb1)
        | (go_at_call 19; (with_reducible refine (HQ.out W1).mono ?_); rintro e W2 ⟨v2, rfl, ho2, hb2⟩; have HB2 := Lib.hid hb2; (obtain ⟨A2, c2, hv2, _⟩ := ho2.form); subst hv2; clear ho2 hb2))
      go_ret
      exact ⟨rfl, HB1.out.trans (HB2.out.mono HB1.out.size)⟩
  · have q : ((xe : Int) != 0) = true := by simp; omega
    have q' : ((xe : Int) == 0) = false := by simp; omega
    rw [if_neg hxe]
    by_cases hye : ye = 0
    · subst hye
      rw [if_pos rfl]
      clear hxe
      go_enter Tryd.func32, Tryd.ntmps32
      go_wp2_with (first
        | (go_at_call 19; (with_reducible refine HP.out.mono ?_); rintro e W1 ⟨v1, rfl, ho1, hb1⟩; have HB1 := Lib.hid hb1; (obtain ⟨A1, c1, hv1, _⟩ := ho1.form); subst hv1; clear ho1 hb1)
        | (go_at_call 19; (with_reducible refine (HQ.out W1).mono ?_); rintro e W2 ⟨v2, rfl, ho2, hb2⟩; have HB2 := Lib.hid hb2; (obtain ⟨A2, c2, hv2, _⟩ := ho2.form); subst hv2; clear ho2 hb2))
      go_ret
      exact ⟨rfl, HB1.out.trans (HB2.out.mono HB1.out.size)⟩
    · have p : ((ye : Int) == 0) = false := by simp; omega
      rw [if_neg hye]
      clear hxe hye
      have e1 : (S.toList == T.toList) = decide (S.data.toList = T.data.toList) := by
        rw [toList_data, toList_data, Bool.eq_iff_iff]; simp
      unfold strC
      rw [← toList_data S, ← toList_data T] at e1 ⊢
      by_cases hlt : Op.bytesLess S.toList T.toList = true
      · rw [if_pos hlt]
        clear e1
        go_enter Tryd.func32, Tryd.ntmps32
        go_wp2_with (first
          | (go_at_call 19; (with_reducible refine HP.out.mono ?_); rintro e W1 ⟨v1, rfl, ho1, hb1⟩; have HB1 := Lib.hid hb1; (obtain ⟨A1, c1, hv1, _⟩ := ho1.form); subst hv1; clear ho1 hb1)
          | (go_at_call 19; (with_reducible refine (HQ.out W1).mono ?_); rintro e W2 ⟨v2, rfl, ho2, hb2⟩; have HB2 := Lib.hid hb2; (obtain ⟨A2, c2, hv2, _⟩ := ho2.form); subst hv2; clear ho2 hb2))
        go_ret
        exact ⟨rfl, HB1.out.trans (HB2.out.mono HB1.out.size)⟩
      · rw [if_neg hlt]
        have q1 : Op.bytesLess S.toList T.toList = false := by simpa using hlt
        by_cases he : S.toList = T.toList
        · rw [if_pos he]
          have q2 : (S.toList == T.toList) = true := by rw [he]; simp
          have hgt : ∀ W, (binOp BinOp.gtr 9 (.string S) (.string T)).run Tryd.prog W = .ok (.bool false) W := fun W => by simp [binOp, Op.stringOp, q1, q2]
          clear hlt he e1
          go_enter Tryd.func32, Tryd.ntmps32
          go_wp2_with (first
            | (go_at_call 19; (with_reducible refine HP.out.mono ?_); rintro e W1 ⟨v1, rfl, ho1, hb1⟩; have HB1 := Lib.hid hb1; (obtain ⟨A1, c1, hv1, _⟩ := ho1.form); subst hv1; clear ho1 hb1)
            | (go_at_call 19; (with_reducible refine (HQ.out W1).mono ?_); rintro e W2 ⟨v2, rfl, ho2, hb2⟩; have HB2 := Lib.hid hb2; (obtain ⟨A2, c2, hv2, _⟩ := ho2.form); subst hv2; clear ho2 hb2))
          go_ret
          exact ⟨rfl, HB1.out.trans (HB2.out.mono HB1.out.size)⟩
        · rw [if_neg he]
          have q2 : (S.toList == T.toList) = false := by simpa using he
          have hgt : ∀ W, (binOp BinOp.gtr 9 (.string S) (.string T)).run Tryd.prog W = .ok (.bool true) W := fun W => by simp [binOp, Op.stringOp, q1, q2]
          clear hlt he e1
          go_enter Tryd.func32, Tryd.ntmps32
          go_wp2_with (first
            | (go_at_call 19; (with_reducible refine HP.out.mono ?_); rintro e W1 ⟨v1, rfl, ho1, hb1⟩; have HB1 := Lib.hid hb1; (obtain ⟨A1, c1, hv1, _⟩ := ho1.form); subst hv1; clear ho1 hb1)
            | (go_at_call 19; (with_reducible refine (HQ.out W1).mono ?_); rintro e W2 ⟨v2, rfl, ho2, hb2⟩; have HB2 := Lib.hid hb2; (obtain ⟨A2, c2, hv2, _⟩ := ho2.form); subst hv2; clear ho2 hb2))
          go_ret
          exact ⟨rfl, HB1.out.trans (HB2.out.mono HB1.out.size)⟩
end Go.Proofs.YtdfenaoddbdppaaDoor
