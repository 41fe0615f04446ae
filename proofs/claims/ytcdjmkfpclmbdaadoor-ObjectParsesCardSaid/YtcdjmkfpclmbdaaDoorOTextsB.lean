/- object: ObjectTexts. -/
import Derived.Test.YtcdjmkfpclmbdaaDoorOTexts
set_option linter.unusedVariables false
namespace Go.Proofs.YtcdjmkfpclmbdaaDoor
open Go.RowKit

set_option maxHeartbeats 2000000 in
set_option maxRecDepth 100000 in
theorem eq_self_rn (K : Int) (O : ByteArray) (n i : Int) (T : ByteArray) (W : World) :
    (binOp .eql 23 (nmV K O n i T) (nmV K O n i T)).run Tryd.prog W = .ok (.bool true) W := by
  go_simp
theorem catB_len (b : Bool) (x y : List UInt8) : (catB b x y).length ≤ x.length + y.length := by unfold catB; split <;> simp
theorem textN_len {k n i : Nat} {o t : List UInt8} (hv : Vn k o n i t) (ho : o.length ≤ 1000) (ht : t.length ≤ 1000) : (nameT k o n i t).length ≤ 10000 := by
  rw [nameT_cat]
  have hw := word_len k
  have hm := most_le k
  have hn := hv.nb
  have hi := hv.ib
  have d1 : (dec n).length ≤ 30 := dec_len32 (by omega)
  have d2 : (dec i).length ≤ 30 := dec_len32 (by omega)
  have hOT : (ownerT o).length ≤ 1001 := by
    unfold ownerT; split
    · simp
    · omega
  have s1 := catB_len (ownN k) (wordN k) (32 :: ownerT o)
  have s2 := catB_len (numN k) (catB (ownN k) (wordN k) (32 :: ownerT o)) ((if ownN k then 35 else 32) :: dec n)
  have s3 := catB_len (idxN k) (catB (numN k) (catB (ownN k) (wordN k) (32 :: ownerT o)) ((if ownN k then 35 else 32) :: dec n)) (32 :: dec i)
  have s4 := catB_len (txtN k) (catB (idxN k) (catB (numN k) (catB (ownN k) (wordN k) (32 :: ownerT o)) ((if ownN k then 35 else 32) :: dec n)) (32 :: dec i)) (32 :: t)
  simp only [List.length_cons] at s1 s2 s3 s4
  omega

set_option maxHeartbeats 1000000 in
theorem objectTexts_walk (K : Int) (O : ByteArray) (n i : Int) (T : ByteArray) (w : World) (hE : Env w) (wK : (Lit.int .i64 K).wf = true) (wn : (Lit.int .i64 n).wf = true) (wi : (Lit.int .i64 i).wf = true) (hO : O.size ≤ maxLen) (hT : T.size ≤ maxLen) :
    Calls Tryd.prog 5 #[nmV K O n i T] w fun e w' => e = .returned (.bool true) ∧ Below w.heap.size w w' := by
  have hK : ∀ W, Below w.heap.size w W → Calls Tryd.prog 8 #[] W fun e w' => e = .returned (.bool true) ∧ Below W.heap.size W w' := fun W hb => known_any W (hE.below hb)
  have hA := fun W => long_any K n i O T W hO hT
  cases hl : longB O T with
  | true => rw [hl] at hA; exact texts_long K O n i T w hK hA
  | false =>
    rw [hl] at hA
    unfold longB at hl
    simp only [Bool.or_eq_false_iff, decide_eq_false_iff_not] at hl
    have eO : O.data.toList.length = O.size := by simp
    have eT : T.data.toList.length = T.size := by simp
    have hRC := fun W => refCheck_any K n i O T W (by omega) hT
    by_cases h0 : checkN ⟨K, O.data.toList, n, i, T.data.toList⟩ = 0
    · have hp : parseN (textN ⟨K, O.data.toList, n, i, T.data.toList⟩) = (⟨K, O.data.toList, n, i, T.data.toList⟩, 0) := by
        obtain ⟨k, n', i', e, hv⟩ := check_vn h0
        rw [e, textN_vn hv]; exact parse_text hv
      have hl2 : (textN ⟨K, O.data.toList, n, i, T.data.toList⟩).length ≤ 10000 := by
        obtain ⟨k, n', i', e, hv⟩ := check_vn h0
        rw [e, textN_vn hv]
        exact textN_len hv (by show O.data.toList.length ≤ _; omega) (by show T.data.toList.length ≤ _; omega)
      refine texts_short K O n i T K O n i T w (sv (textN ⟨K, O.data.toList, n, i, T.data.toList⟩)) _ 0 (.inr ⟨h0, rfl⟩) (fun _ W => eq_self_rn K O n i T W) hK hA
        (fun W hb => string_any K n i O T W (hE.below hb) (by omega)) (fun W => refString_any K n i O T W (by omega) (by omega)) hRC (fun W hb => ?_)
      have h := parse_any (sv (textN ⟨K, O.data.toList, n, i, T.data.toList⟩)) W (hE.below hb) (by rw [sv_size]; omega)
      rw [sv_list, hp] at h
      simp only [vN, sv_back] at h
      exact h
    · have he : textN ⟨K, O.data.toList, n, i, T.data.toList⟩ = [] := by unfold textN; rw [if_neg h0]
      refine texts_short K O n i T 0 ⟨#[]⟩ 0 0 ⟨#[]⟩ w ⟨#[]⟩ _ 3 (.inl ⟨h0, rfl, rfl⟩) (fun h => absurd h h0) hK hA
        (fun W hb => by have h := string_any K n i O T W (hE.below hb) (by omega); rw [he] at h; exact h) (fun W => by have h := refString_any K n i O T W (by omega) (by omega); rw [he] at h; exact h) hRC (fun W hb => ?_)
      have h := parse_any ⟨#[]⟩ W (hE.below hb) (by decide)
      rw [show (ByteArray.mk #[]).data.toList = [] from rfl, parse_nil] at h
      exact h
end Go.Proofs.YtcdjmkfpclmbdaaDoor
