/- object: the walks of strings.Cut at a separator of one byte, of strconv.Atoi, readNumber, kindOf. -/
import Derived.Test.YtcdjmkfpclmbdaaGreatDoorOStrB
import Derived.Lib.CutLaws
import Derived.Lib.ConvBytes
import Derived.Lib.AtoiErrMem
set_option linter.unusedVariables false
namespace Go.Proofs.YtcdjmkfpclmbdaaGreatDoor
open Go.RowKit

theorem index_cut (c : UInt8) : ∀ l : List UInt8, (Lib.indexByte l c = -1 ∧ cutC c l = (l, [])) ∨ ∃ i : Nat, Lib.indexByte l c = (i : Int) ∧ i < l.length ∧ cutC c l = (l.take i, l.drop (i + 1))
  | [] => .inl ⟨rfl, rfl⟩
  | b :: l => by
    unfold Lib.indexByte
    by_cases hb : b = c
    · subst hb
      refine .inr ⟨0, by simp, by simp, ?_⟩
      simp [cutC]
    · have h1 : (b == c) = false := by simpa using hb
      have h2 : (b != c) = true := by simpa using hb
      have e : cutC c (b :: l) = (b :: (cutC c l).1, (cutC c l).2) := by simp only [cutC, List.takeWhile_cons, List.dropWhile_cons, h2, if_true]
      rw [e]
      rcases index_cut c l with ⟨h3, h4⟩ | ⟨i, h3, h4, h5⟩
      · refine .inl ⟨?_, by rw [h4]⟩
        simp [h1, h3]
      · refine .inr ⟨i + 1, ?_, by simp; omega, by rw [h5]; simp⟩
        have : ((i : Int) == -1) = false := by rw [beq_eq_false_iff_ne]; omega
        simp [h1, h3, this]
theorem ext_take (S : ByteArray) (i : Nat) (hi : i ≤ S.size) : S.extract 0 i = sv (S.data.toList.take i) := by
  rw [Lib.extract_eq]; simp
theorem ext_drop (S : ByteArray) (i : Nat) (hi : i ≤ S.size) : S.extract i S.size = sv (S.data.toList.drop i) := by
  rw [Lib.extract_eq, List.take_of_length_le (by simp)]
set_option maxHeartbeats 1000000 in
set_option maxRecDepth 100000 in
theorem cutLite_any (S : ByteArray) (c : UInt8) (w : World) (hS : S.size ≤ 9000000000) :
    Calls Tryz.prog 124 #[.string S, .string ⟨#[c]⟩] w fun e w' => (∃ b, e = .returned (.tuple #[.string (sv (cutC c S.data.toList).1), .string (sv (cutC c S.data.toList).2), .bool b])) ∧ Below w.heap.size w w' := by
  have HI := Lib.hid (Tryz.stringslite_Index_one S c w)
  have hl : S.data.toList.length = S.size := by simp
  rcases index_cut c S.data.toList with ⟨h1, h2⟩ | ⟨i, h1, hi, h2⟩
  · rw [h1] at HI
    rw [h2]
    simp only [sv_back]
    clear h1 h2 hl
    go_enter Tryz.func124, Tryz.ntmps124
    go_wp2_with (go_at_call 135; refine HI.out.mono ?_; rintro e w' ⟨rfl, rfl⟩)
    go_ret3
    exact ⟨⟨_, rfl⟩, Below.refl _ _⟩
  · rw [h1] at HI
    rw [h2]
    rw [hl] at hi
    have c2 : (i : Int) ≤ (S.size : Int) := by omega
    have c4 : ((i : Int) + 1) ≤ (S.size : Int) := by omega
    have hw : IntKind.i64.wrap ((i : Int) + 1) = (i : Int) + 1 := by rw [IntKind.wrap_i64]; omega
    have hn : ((i : Int) + 1).toNat = i + 1 := by omega
    have hz : (0 : Int) ≤ (i : Int) + 1 := by omega
    have HT : Hid (sv (S.data.toList.take i) = S.extract 0 i) := Lib.hid (ext_take S i (by omega)).symm
    have HD : Hid (sv (S.data.toList.drop (i + 1)) = S.extract (i + 1) S.size) := Lib.hid (ext_drop S (i + 1) (by omega)).symm
    simp only []
    rw [HT.out, HD.out]
    clear h1 h2 hl hi
    go_enter Tryz.func124, Tryz.ntmps124
    go_wp2_with (go_at_call 135; refine HI.out.mono ?_; rintro e w' ⟨rfl, rfl⟩)
    go_quiet (fail)
    go_wp2
    go_ret3
    exact ⟨⟨_, rfl⟩, below_drewN (Below.refl _ _) _⟩
set_option maxHeartbeats 1000000 in
set_option maxRecDepth 100000 in
theorem cut_any (S : ByteArray) (c : UInt8) (w : World) (hS : S.size ≤ 9000000000) :
    Calls Tryz.prog 102 #[.string S, .string ⟨#[c]⟩] w fun e w' => (∃ b, e = .returned (.tuple #[.string (sv (cutC c S.data.toList).1), .string (sv (cutC c S.data.toList).2), .bool b])) ∧ Below w.heap.size w w' := by
  have HC := Lib.hid (cutLite_any S c w hS)
  go_enter Tryz.func102, Tryz.ntmps102
  go_wp2_with (go_at_call 124; refine HC.out.mono ?_; rintro e w1 ⟨⟨b, rfl⟩, hb⟩; have HB := Lib.hid hb; clear hb)
  go_ret3
  exact ⟨⟨_, rfl⟩, HB.out⟩

theorem atoi_any (S : ByteArray) (w : World) (hE : Env w) (hS : S.size ≤ 1000000) :
    Calls Tryz.prog 125 #[.string S] w fun e w' => (∃ v, e = .returned (.tuple #[.int .i64 (atoiV S.data.toList), v])) ∧ Below w.heap.size w w' := by
  unfold atoiV
  cases h : Lib.atoiAll S.data.toList with
  | ok v =>
    refine (Tryz.strconv_Atoi_ok S (by omega) v h w).mono ?_
    rintro e w' ⟨rfl, rfl | ⟨t, rfl⟩⟩
    · exact ⟨⟨_, rfl⟩, Below.refl _ _⟩
    · exact ⟨⟨_, rfl⟩, Lib.bytesWorld_below _ _ _⟩
  | «syntax» =>
    obtain ⟨tp, p, hv⟩ := hE.syn
    refine (Tryz.strconv_Atoi_syntax_var S (by omega) h tp p w hv).mono ?_
    rintro e w' ⟨N, rfl, _, _, hb⟩
    exact ⟨⟨_, rfl⟩, hb⟩
  | range =>
    obtain ⟨tp, p, hv⟩ := hE.ran
    refine (Tryz.strconv_Atoi_range_var S (by omega) h tp p w hv).mono ?_
    rintro e w' ⟨N, rfl, _, _, hb⟩
    exact ⟨⟨_, rfl⟩, hb⟩
theorem atoiV_bounds (l : List UInt8) : -9223372036854775808 ≤ atoiV l ∧ atoiV l ≤ 9223372036854775807 := by
  unfold atoiV
  cases h : Lib.atoiAll l with
  | ok v => obtain ⟨h1, h2⟩ := Lib.atoiAll_bounds h; exact ⟨by omega, by omega⟩
  | «syntax» => exact ⟨by show (-9223372036854775808 : Int) ≤ 0; decide, by show (0 : Int) ≤ 9223372036854775807; decide⟩
  | range => obtain ⟨h1, h2⟩ := Lib.atoiSat_bounds l; exact ⟨by omega, by omega⟩
theorem cutC_len (c : UInt8) (l : List UInt8) : (cutC c l).1.length ≤ l.length ∧ (cutC c l).2.length ≤ l.length := by
  rcases index_cut c l with ⟨_, h⟩ | ⟨i, _, _, h⟩ <;> rw [h] <;> simp <;> omega
set_option maxHeartbeats 1000000 in
set_option maxRecDepth 100000 in
theorem readNumber_any (S : ByteArray) (w : World) (hE : Env w) (hS : S.size ≤ 1000000) :
    Calls Tryz.prog 104 #[.string S] w fun e w' => e = .returned (.tuple #[.int .i64 (atoiV (cutC 32 S.data.toList).1), .string (sv (cutC 32 S.data.toList).2)]) ∧ Below w.heap.size w w' := by
  have HC := Lib.hid (cut_any S 32 w (by omega))
  have hl : S.data.toList.length = S.size := by simp
  obtain ⟨x, hx⟩ : ∃ x, x = cutC 32 S.data.toList := ⟨_, rfl⟩
  have hxl : (sv x.1).size ≤ 1000000 := by rw [sv_size, hx]; have := (cutC_len 32 S.data.toList).1; omega
  rw [← hx] at HC ⊢
  obtain ⟨x1, x2⟩ := x
  simp only at HC hxl ⊢
  obtain ⟨v, hv⟩ : ∃ v, v = atoiV x1 := ⟨_, rfl⟩
  rw [← hv]
  have HA : Hid (∀ W, Below w.heap.size w W → Calls Tryz.prog 125 #[.string (sv x1)] W fun e w' => (∃ q, e = .returned (.tuple #[.int .i64 v, q])) ∧ Below W.heap.size W w') := Lib.hid fun W hb => by
    rw [hv]; exact atoi_any (sv x1) W (hE.below hb) hxl
  generalize sv x1 = X1 at HC HA
  generalize sv x2 = X2 at HC ⊢
  clear hx hl hxl hE hv hS
  go_enter Tryz.func104, Tryz.ntmps104
  go_wp2_with (first
    | (go_at_call 102; refine HC.out.mono ?_; rintro e w1 ⟨⟨b, rfl⟩, hb⟩; have HB := Lib.hid hb; clear hb)
    | (go_at_call 125; refine (HA.out _ HB.out).mono ?_; rintro e w2 ⟨⟨q, rfl⟩, hb⟩; have HB2 := Lib.hid (HB.out.trans (hb.mono HB.out.size)); clear hb))
  go_ret2
  exact ⟨rfl, HB2.out⟩

set_option maxHeartbeats 1000000 in
set_option maxRecDepth 100000 in
theorem kindOf_any (S : ByteArray) (w : World) (hE : Env w) :
    Calls Tryz.prog 103 #[.string S] w fun e w' => e = .returned (.int .i64 (kindOf S.data.toList : Nat)) ∧ w = w' := by
  have HK : Hid (∀ k, k ≤ 20 → w.cell? ⟨0, k * 6, none⟩ = some (.string (sv (wordN k)))) := Lib.hid fun k hk => hE.kinds k hk 0 _ rfl
  obtain ⟨s, hs⟩ : ∃ s, s = S.data.toList := ⟨_, rfl⟩
  rw [← hs]
  have HS : Hid (S.toList = s) := Lib.hid (by rw [toList_data, hs])
  clear hs hE
  go_enter Tryz.func103, Tryz.ntmps103
  go_wp2
  go_loop [3] (fun i => ∃ k : Nat, 1 ≤ k ∧ k ≤ 21 ∧ i = .int .i64 (k : Int) ∧ kindOf s = kindF s k (21 - k)) (fun i => 21 - (intOf i).toNat)
  case atStart => exact ⟨1, by omega, by omega, rfl, rfl⟩
  case round =>
    obtain ⟨k, h1, h21, rfl, hr⟩ := hrel
    have HR := Lib.hid hr
    clear hr
    by_cases hlt : k ≤ 20
    · have g0 : (k : Int) ≤ 20 := by omega
      have g1 : (k : Int) < 21 := by omega
      have hc := HK.out k hlt
      by_cases he : wordN k = s
      · have HF : Hid (kindOf s = k) := Lib.hid (by
          rw [HR.out]
          obtain ⟨f, hf⟩ : ∃ f, 21 - k = f + 1 := ⟨20 - k, by omega⟩
          rw [hf, kindF, if_pos he])
        have hq : (sv (wordN k)).toList = S.toList := by rw [toList_data, HS.out]; exact he
        generalize sv (wordN k) = U at hc hq
        go_wp2
        go_ret
        exact ⟨by rw [HF.out]; rfl, rfl⟩
      · have HF : Hid (kindOf s = kindF s (k + 1) (21 - (k + 1))) := Lib.hid (by
          rw [HR.out]
          obtain ⟨f, hf⟩ : ∃ f, 21 - k = f + 1 := ⟨20 - k, by omega⟩
          have hf2 : 21 - (k + 1) = f := by omega
          rw [hf, hf2, kindF, if_neg he])
        have hq : ¬ (sv (wordN k)).toList = S.toList := by rw [toList_data, HS.out]; exact he
        have hq2 : ((sv (wordN k)).toList == S.toList) = false := by simpa using hq
        generalize sv (wordN k) = U at hc hq hq2
        clear he
        go_wp2
        go_round
        case rel => exact ⟨k + 1, by omega, by omega, by go_num, HF.out⟩
        case measure => simp [intOf] <;> omega
    · have g0 : ¬ (k : Int) ≤ 20 := by omega
      have HF : Hid (kindOf s = 0) := Lib.hid (by
        rw [HR.out]
        have : 21 - k = 0 := by omega
        rw [this]; rfl)
      go_wp2
      go_ret
      exact ⟨by rw [HF.out]; rfl, rfl⟩
end Go.Proofs.YtcdjmkfpclmbdaaGreatDoor
