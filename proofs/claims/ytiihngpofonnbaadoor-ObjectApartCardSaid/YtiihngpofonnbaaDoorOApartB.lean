/- object: ObjectApart, from the names that are valid. -/
import Derived.Test.YtiihngpofonnbaaDoorOApart
set_option linter.unusedVariables false
namespace Go.Proofs.YtiihngpofonnbaaDoor
open Go.RowKit

theorem apart_math (A B : Nm) (hA : checkN A = 0) (hB : checkN B = 0) (hne : A ≠ B) (l1 : A.owner.length ≤ 1000000000) (l2 : B.owner.length ≤ 1000000000) (l3 : A.text.length ≤ 1000000000) (l4 : B.text.length ≤ 1000000000) :
    textN A ≠ textN B ∧ (encN A).take (min (encN A).length (encN B).length) ≠ (encN B).take (min (encN A).length (encN B).length) := by
  obtain ⟨k, n, i, e, hv⟩ := check_vn hA
  obtain ⟨k', n', i', e', hv'⟩ := check_vn hB
  refine ⟨fun h => hne ?_, fun h => hne ?_⟩
  · rw [e, textN_vn hv] at h
    rw [e', textN_vn hv'] at h
    have h1 := parse_text hv
    rw [h, parse_text hv'] at h1
    rw [e, e']
    exact (congrArg Prod.fst h1).symm
  · have ea : encN A = encR k A.owner n i A.text [] := by rw [e, encN_vn hv]; rfl
    have eb : encN B = encR k' B.owner n' i' B.text [] := by rw [e', encN_vn hv']; rfl
    have key : ∃ r r', encN A ++ r = encN B ++ r' := by
      rcases Nat.le_total (encN A).length (encN B).length with hle | hle
      · rw [Nat.min_eq_left hle, List.take_length] at h
        exact ⟨(encN B).drop (encN A).length, [], by rw [List.append_nil]; conv => lhs; lhs; rw [h]
                                                     exact List.take_append_drop _ _⟩
      · rw [Nat.min_eq_right hle, List.take_length] at h
        exact ⟨[], (encN A).drop (encN B).length, by rw [List.append_nil]; conv => rhs; lhs; rw [← h]
                                                     exact (List.take_append_drop _ _).symm⟩
    obtain ⟨r, r', hr⟩ := key
    have ea2 : encN A ++ r = encR k A.owner n i A.text r := by rw [e, encN_vn hv, encT_app]
    have eb2 : encN B ++ r' = encR k' B.owner n' i' B.text r' := by rw [e', encN_vn hv', encT_app]
    rw [ea2, eb2] at hr
    obtain ⟨a1, a2, a3, a4, a5, _⟩ := encR_inj hv hv' l1 l2 l3 l4 hr
    rw [e, e', a1, a2, a3, a4, a5]

theorem sv_take (l : List UInt8) (M : Nat) : ((sv l).extract 0 M).toList = l.take M := by
  rw [ByteArray.toList_eq]
  simp [sv]
theorem sv_toList (l : List UInt8) : (sv l).toList = l := by
  rw [ByteArray.toList_eq]

set_option maxHeartbeats 1000000 in
theorem objectApart_walk (K : Int) (O : ByteArray) (n i : Int) (T : ByteArray) (L : Int) (P : ByteArray) (m j : Int) (Q : ByteArray) (w : World) (hE : Env w)
    (wK : (Lit.int .i64 K).wf = true) (wn : (Lit.int .i64 n).wf = true) (wi : (Lit.int .i64 i).wf = true) (hO : O.size ≤ maxLen) (hT : T.size ≤ maxLen)
    (wL : (Lit.int .i64 L).wf = true) (wm : (Lit.int .i64 m).wf = true) (wj : (Lit.int .i64 j).wf = true) (hP : P.size ≤ maxLen) (hQ : Q.size ≤ maxLen) :
    Calls Tryd.prog 7 #[nmV K O n i T, nmV L P m j Q] w fun e w' => e = .returned (.bool true) ∧ Below w.heap.size w w' := by
  have hK : ∀ W, Below w.heap.size w W → Calls Tryd.prog 8 #[] W fun e w' => e = .returned (.bool true) ∧ Below W.heap.size W w' := fun W hb => known_any W (hE.below hb)
  cases hla : longB O T with
  | true => exact apart_long K O n i T L P m j Q w true (longB P Q) rfl hK (fun W => by rw [← hla]; exact long_any K n i O T W hO hT) (fun W => long_any L m j P Q W hP hQ)
  | false =>
    cases hlb : longB P Q with
    | true => exact apart_long K O n i T L P m j Q w false true rfl hK (fun W => by rw [← hla]; exact long_any K n i O T W hO hT) (fun W => by rw [← hlb]; exact long_any L m j P Q W hP hQ)
    | false =>
      have hl1 := hla
      have hl2 := hlb
      unfold longB at hl1 hl2
      simp only [Bool.or_eq_false_iff, decide_eq_false_iff_not] at hl1 hl2
      have eO : O.data.toList.length = O.size := by simp
      have eP : P.data.toList.length = P.size := by simp
      have eT : T.data.toList.length = T.size := by simp
      have eQ : Q.data.toList.length = Q.size := by simp
      refine apart_short K O n i T L P m j Q w (checkN ⟨K, O.data.toList, n, i, T.data.toList⟩) (checkN ⟨L, P.data.toList, m, j, Q.data.toList⟩)
        (sv (encN ⟨K, O.data.toList, n, i, T.data.toList⟩)) (sv (encN ⟨L, P.data.toList, m, j, Q.data.toList⟩)) (sv (textN ⟨K, O.data.toList, n, i, T.data.toList⟩)) (sv (textN ⟨L, P.data.toList, m, j, Q.data.toList⟩))
        (min (encN ⟨K, O.data.toList, n, i, T.data.toList⟩).length (encN ⟨L, P.data.toList, m, j, Q.data.toList⟩).length) _ rfl ?_ (by rw [sv_size]; exact Nat.min_le_left _ _) (by rw [sv_size]; exact Nat.min_le_right _ _) ?_ hK
        (fun W => by rw [← hla]; exact long_any K n i O T W hO hT) (fun W => by rw [← hlb]; exact long_any L m j P Q W hP hQ)
        (fun W hb => check_any K n i O T W (hE.below hb) (by omega)) (fun W hb => check_any L m j P Q W (hE.below hb) (by omega))
        (fun W hb => encode_any K n i O T W (hE.below hb) (by omega)) (fun W hb => encode_any L m j P Q W (hE.below hb) (by omega))
        (fun W hb => string_any K n i O T W (hE.below hb) (by omega)) (fun W hb => string_any L m j P Q W (hE.below hb) (by omega))
      · rw [sv_size, sv_size]; omega
      · intro hR
        simp only [Bool.or_eq_false_iff, decide_eq_false_iff_not, bne_eq_false_iff_eq] at hR
        obtain ⟨⟨h1, h2⟩, h3⟩ := hR
        have hne : (⟨K, O.data.toList, n, i, T.data.toList⟩ : Nm) ≠ ⟨L, P.data.toList, m, j, Q.data.toList⟩ := fun he => by
          injection he with a1 a2 a3 a4 a5
          exact h1 ⟨a1, Go.WideShapes.bytes_inj a2, a3, a4, Go.WideShapes.bytes_inj a5⟩
        obtain ⟨r1, r2⟩ := apart_math _ _ (by omega) (by omega) hne (by show O.data.toList.length ≤ _; omega) (by show P.data.toList.length ≤ _; omega) (by show T.data.toList.length ≤ _; omega) (by show Q.data.toList.length ≤ _; omega)
        refine ⟨?_, ?_⟩
        · rw [sv_toList, sv_toList, beq_eq_false_iff_ne]; exact r1
        · rw [sv_take, sv_take, beq_eq_false_iff_ne]; exact r2
end Go.Proofs.YtiihngpofonnbaaDoor
