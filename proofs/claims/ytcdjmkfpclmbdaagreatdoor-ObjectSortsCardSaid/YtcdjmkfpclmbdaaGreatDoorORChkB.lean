/- object: the walk of the reference's Check. -/
import Derived.Test.YtcdjmkfpclmbdaaGreatDoorORChk
set_option linter.unusedVariables false
namespace Go.Proofs.YtcdjmkfpclmbdaaGreatDoor
open Go.RowKit

theorem upB_false {n : Int} {m : Nat} (h : upB n m = false) : n < 0 ∨ (m : Int) < n := by
  unfold upB at h
  simp only [Bool.and_eq_false_iff, decide_eq_false_iff_not] at h
  omega
set_option maxHeartbeats 4000000 in
set_option maxRecDepth 100000 in
theorem refCheck_gen (k m : Nat) (M : Int) (b1 b2 b3 b4 : Bool) (n i : Int) (O T : ByteArray) (w : World) (hO : O.size ≤ 1000000) (hT : T.size ≤ maxLen) (h1 : 1 ≤ k) (h20 : k ≤ 20)
    (e1 : ownI k = b1) (e2 : numI k = b2) (e4 : txtI k = b4) (e5 : mostI k = M) (e3 : b3 = decide (0 ≤ M)) (hmax : max M 0 = (m : Int)) :
    Calls Tryz.prog 59 #[nmV k O n i T] w fun e w' => e = .returned (.int .i64 (chkB b1 b2 b3 b4 m ⟨k, O.data.toList, n, i, T.data.toList⟩ : Nat)) ∧ Below w.heap.size w w' := by
  have g1 : ¬ (k : Int) < 1 := by omega
  have g2 : ¬ (20 : Int) < (k : Int) := by omega
  obtain ⟨R, hR⟩ : ∃ R, R = chkB b1 b2 b3 b4 m ⟨k, O.data.toList, n, i, T.data.toList⟩ := ⟨_, rfl⟩
  rw [← hR]
  unfold chkB at hR
  simp only at hR
  obtain ⟨A, hA⟩ : ∃ A, A = ((!b1 && !O.data.toList.isEmpty) || (!b2 && n != 0) || (!b3 && i != 0) || (!b4 && !T.data.toList.isEmpty)) := ⟨_, rfl⟩
  obtain ⟨B, hB⟩ : ∃ B, B = validB O.data.toList := ⟨_, rfl⟩
  obtain ⟨C, hC⟩ : ∃ C, C = upB n 1073741824 := ⟨_, rfl⟩
  obtain ⟨D, hD⟩ : ∃ D, D = upB i m := ⟨_, rfl⟩
  obtain ⟨E, hE⟩ : ∃ E, E = wordB T.data.toList := ⟨_, rfl⟩
  rw [← hA, ← hB, ← hC, ← hD, ← hE] at hR
  have HOW : Hid (∀ W, Calls Tryz.prog 10 #[.int .i64 (k : Int)] W fun e w' => e = .returned (.bool b1) ∧ W = w') := Lib.hid fun W => by rw [← e1]; exact owned_any k W
  have HNU : Hid (∀ W, Calls Tryz.prog 11 #[.int .i64 (k : Int)] W fun e w' => e = .returned (.bool b2) ∧ W = w') := Lib.hid fun W => by rw [← e2]; exact numbered_any k W
  have HTX : Hid (∀ W, Calls Tryz.prog 13 #[.int .i64 (k : Int)] W fun e w' => e = .returned (.bool b4) ∧ W = w') := Lib.hid fun W => by rw [← e4]; exact texted_any k W
  have HMO : Hid (∀ W, Calls Tryz.prog 12 #[.int .i64 (k : Int)] W fun e w' => e = .returned (.int .i64 M) ∧ W = w') := Lib.hid fun W => by rw [← e5]; exact most_any k W
  have HB : Hid (∀ W, Calls Tryz.prog 91 #[.string O] W fun e w' => e = .returned (.bool B) ∧ Below W.heap.size W w') := Lib.hid fun W => by
    rw [hB]; exact refValid_any O W hO
  have HE : Hid (∀ W, Calls Tryz.prog 92 #[.string T] W fun e w' => e = .returned (.bool E) ∧ W = w') := Lib.hid fun W => by
    rw [hE]; exact refWord_any T W hT
  have HR := Lib.hid hR
  have HA := Lib.hid hA
  have H3 := Lib.hid e3
  have HB1 : Hid (B = true → b1 = b1) := Lib.hid fun _ => rfl
  have HVO : Hid (b1 = false → A = false → B = true) := Lib.hid fun h1 h2 => by
    rw [hB]
    rw [hA, h1] at h2
    simp only [Bool.not_false, Bool.true_and, Bool.or_eq_false_iff, Bool.not_eq_eq_eq_not] at h2
    have : O.data.toList = [] := by simpa using h2.1.1.1
    rw [this]; rfl
  clear hR hA hB hE hO e1 e2 e4 e5 e3 hT
  go_enter Tryz.func59, Tryz.ntmps59
  go_upto_region 4 with fail
  go_cut [13] (fun s wx => s = .bool A ∧ wx = w.alloc (.cells (nmC k O n i T) 23))
  case first =>
    by_cases hM : M < 0
    · have hb3 : b3 = false := by rw [H3.out]; simp; omega
      subst hb3
      cases hn : (n != 0) <;> cases hi : (i != 0) <;> cases b1 <;> cases b2 <;> cases b4
      all_goals
        go_wp2_with (first
          | (go_at_call 10; refine (HOW.out _).mono ?_; rintro e w' ⟨rfl, rfl⟩)
          | (go_at_call 11; refine (HNU.out _).mono ?_; rintro e w' ⟨rfl, rfl⟩)
          | (go_at_call 13; refine (HTX.out _).mono ?_; rintro e w' ⟨rfl, rfl⟩)
          | (go_at_call 12; refine (HMO.out _).mono ?_; rintro e w' ⟨rfl, rfl⟩))
      all_goals (go_meet; refine ⟨?_, rfl⟩; rw [HA.out]; simp_all [toList_data])
    · have hb3 : b3 = true := by rw [H3.out]; simp; omega
      subst hb3
      cases hn : (n != 0) <;> cases hi : (i != 0) <;> cases b1 <;> cases b2 <;> cases b4
      all_goals
        go_wp2_with (first
          | (go_at_call 10; refine (HOW.out _).mono ?_; rintro e w' ⟨rfl, rfl⟩)
          | (go_at_call 11; refine (HNU.out _).mono ?_; rintro e w' ⟨rfl, rfl⟩)
          | (go_at_call 13; refine (HTX.out _).mono ?_; rintro e w' ⟨rfl, rfl⟩)
          | (go_at_call 12; refine (HMO.out _).mono ?_; rintro e w' ⟨rfl, rfl⟩))
      all_goals (go_meet; refine ⟨?_, rfl⟩; rw [HA.out]; simp_all [toList_data])
  case rest =>
    obtain ⟨rfl, rfl⟩ := hcut
    have HB0 := Lib.hid (below_alloc0 w (.cells (nmC k O n i T) 23) (Nat.le_refl _))
    have HBK := Lib.hid (Blk.new w 23 (nmC k O n i T))
    generalize w.alloc (Obj.cells (nmC k O n i T) 23) = V at HB0 HBK ⊢
    have c1 := HBK.out.cell 1
    cases A with
    | true =>
      go_wp2
      go_ret
      exact ⟨by rw [HR.out]; rfl, HB0.out⟩
    | false =>
      go_upto_region 6 with fail
      go_cut [52] (fun s wx => s = .bool (!B) ∧ Below V.heap.size V wx)
      case first =>
        cases hB1 : b1 with
        | true =>
          subst hB1
          go_wp2_with (first
            | (go_at_call 10; refine (HOW.out _).mono ?_; rintro e w' ⟨rfl, rfl⟩)
            | (go_at_call 91; refine (HB.out _).mono ?_; rintro e V1 ⟨rfl, hb⟩; have HB2 := Lib.hid hb; clear hb))
          go_meet
          exact ⟨rfl, HB2.out⟩
        | false =>
          subst hB1
          obtain rfl := HVO.out rfl rfl
          go_wp2_with (go_at_call 10; refine (HOW.out _).mono ?_; rintro e w' ⟨rfl, rfl⟩)
          go_meet
          exact ⟨rfl, Below.refl _ _⟩
      case rest =>
        obtain ⟨rfl, hb⟩ := hcut
        have HK2 := Lib.hid (HBK.out.under hb)
        have HB2 := Lib.hid (HB0.out.trans (hb.mono HB0.out.size))
        clear hb c1
        cases B with
        | false =>
          go_wp2
          go_ret
          exact ⟨by rw [HR.out]; rfl, HB2.out⟩
        | true =>
          have c2 := HK2.out.cell 2
          have c3 := HK2.out.cell 3
          have c4 := HK2.out.cell 4
          have HCC := Lib.hid hC
          have HDD := Lib.hid hD
          clear hC hD
          go_upto_region 8 with fail
          go_cut [61] (fun s wx => s = .bool (!(C && D)) ∧ Blk wx w.heap.size 23 (nmC k O n i T) ∧ Below w.heap.size w wx)
          case first =>
            have hcase : (C = false ∧ n < 0) ∨ (C = false ∧ ¬ n < 0 ∧ 1073741824 < n) ∨ (C = true ∧ ¬ n < 0 ∧ ¬ 1073741824 < n ∧ D = false ∧ i < 0) ∨ (C = true ∧ ¬ n < 0 ∧ ¬ 1073741824 < n ∧ D = false ∧ ¬ i < 0 ∧ (m : Int) < i) ∨
                (C = true ∧ ¬ n < 0 ∧ ¬ 1073741824 < n ∧ D = true ∧ ¬ i < 0 ∧ ¬ (m : Int) < i) := by
              have e1 := HCC.out
              have e2 := HDD.out
              cases hC : C with
              | false =>
                rw [hC] at e1
                rcases upB_false e1.symm with h | h
                · exact .inl ⟨rfl, h⟩
                · exact .inr (.inl ⟨rfl, by omega, by omega⟩)
              | true =>
                rw [hC] at e1
                obtain ⟨x, hx, hx2⟩ := upB_iff.1 e1.symm
                cases hD : D with
                | false =>
                  rw [hD] at e2
                  by_cases hi0 : i < 0
                  · exact .inr (.inr (.inl ⟨rfl, by omega, by omega, rfl, hi0⟩))
                  · rcases upB_false e2.symm with h | h
                    · exact absurd h hi0
                    · exact .inr (.inr (.inr (.inl ⟨rfl, by omega, by omega, rfl, hi0, h⟩)))
                | true =>
                  rw [hD] at e2
                  obtain ⟨y, hy, hy2⟩ := upB_iff.1 e2.symm
                  exact .inr (.inr (.inr (.inr ⟨rfl, by omega, by omega, rfl, by omega, by omega⟩)))
            rcases hcase with ⟨rfl, h1⟩ | ⟨rfl, h1, h2⟩ | ⟨rfl, h1, h2, rfl, h3⟩ | ⟨rfl, h1, h2, rfl, h3, h4⟩ | ⟨rfl, h1, h2, rfl, h3, h4⟩
            all_goals
              go_quiet ((go_at_call 12; exact Calls.quiet_of_same ((HMO.out _).mono fun e w' h => ⟨h.1, h.2.symm⟩)))
            all_goals (go_wp2; go_meet; exact ⟨rfl, HK2.out, below_drewN HB2.out _⟩)
          case rest =>
            obtain ⟨rfl, hk, hb⟩ := hcut
            have HB3 := Lib.hid hb
            have c4 := hk.cell 4
            have hcase : (C = false ∨ D = false) ∨ (C = true ∧ D = true ∧ b4 = false) ∨ (C = true ∧ D = true ∧ b4 = true ∧ E = false) ∨ (C = true ∧ D = true ∧ b4 = true ∧ E = true) := by cases C <;> cases D <;> cases b4 <;> cases E <;> simp
            clear hk hb
            rcases hcase with h | ⟨rfl, rfl, rfl⟩ | ⟨rfl, rfl, rfl, rfl⟩ | ⟨rfl, rfl, rfl, rfl⟩
            · have hcd : (!(C && D)) = true := by rcases h with rfl | rfl <;> simp
              rw [hcd]
              have HR2 : Hid (R = 2) := Lib.hid (by rw [HR.out, hcd]; rfl)
              clear h hcd
              go_wp2
              go_ret
              exact ⟨by rw [HR2.out]; rfl, HB3.out⟩
            all_goals
              go_wp2_with (first
                | (go_at_call 13; refine (HTX.out _).mono ?_; rintro e w' ⟨rfl, rfl⟩)
                | (go_at_call 92; refine (HE.out _).mono ?_; rintro e w' ⟨rfl, rfl⟩))
              go_ret
              exact ⟨by rw [HR.out]; rfl, HB3.out⟩

set_option maxHeartbeats 1000000 in
set_option maxRecDepth 100000 in
theorem refCheck_any (K n i : Int) (O T : ByteArray) (w : World) (hO : O.size ≤ 1000000) (hT : T.size ≤ maxLen) :
    Calls Tryz.prog 59 #[nmV K O n i T] w fun e w' => e = .returned (.int .i64 (checkN ⟨K, O.data.toList, n, i, T.data.toList⟩ : Nat)) ∧ Below w.heap.size w w' := by
  by_cases h1 : K < 1
  · have hr : checkN ⟨K, O.data.toList, n, i, T.data.toList⟩ = 11 := if_pos (.inl h1)
    rw [hr]
    clear hO hT hr
    go_enter Tryz.func59, Tryz.ntmps59
    go_wp2
    go_ret
    exact ⟨rfl, (Below.refl _ _).alloc (Nat.le_refl _) _⟩
  · by_cases h20 : 20 < K
    · have hr : checkN ⟨K, O.data.toList, n, i, T.data.toList⟩ = 11 := if_pos (.inr h20)
      rw [hr]
      clear hO hT hr
      go_enter Tryz.func59, Tryz.ntmps59
      go_wp2
      go_ret
      exact ⟨rfl, (Below.refl _ _).alloc (Nat.le_refl _) _⟩
    · obtain ⟨k, rfl⟩ := Int.eq_ofNat_of_zero_le (show 0 ≤ K by omega)
      have hr : checkN ⟨(k : Int), O.data.toList, n, i, T.data.toList⟩ = checkK k ⟨(k : Int), O.data.toList, n, i, T.data.toList⟩ := by
        unfold checkN
        rw [if_neg (by show ¬ ((k : Int) < 1 ∨ 20 < (k : Int)); omega)]
        rfl
      rw [hr]
      have hm := mostI_nat k (by omega)
      exact refCheck_gen k (mostN k) (mostI k) (ownN k) (numN k) (idxN k) (txtN k) n i O T w hO hT (by omega) (by omega) (ownI_nat k (by omega)) (numI_nat k (by omega)) (txtI_nat k (by omega)) rfl hm.2 hm.1
end Go.Proofs.YtcdjmkfpclmbdaaGreatDoor
