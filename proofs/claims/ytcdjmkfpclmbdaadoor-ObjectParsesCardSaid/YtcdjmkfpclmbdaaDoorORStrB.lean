/- object: the reference's String is String. -/
import Derived.Test.YtcdjmkfpclmbdaaDoorORStr
set_option linter.unusedVariables false
namespace Go.Proofs.YtcdjmkfpclmbdaaDoor
open Go.RowKit

theorem ba_app_size (a b : ByteArray) : (a ++ b).size = a.size + b.size := by simp
set_option maxHeartbeats 2000000 in
set_option maxRecDepth 100000 in
theorem refStr_bad (K n i : Int) (O T : ByteArray) (w : World) (e : Nat) (he : e ≠ 0)
    (hC : ∀ W, Calls Tryd.prog 12 #[nmV K O n i T] W fun r w' => r = .returned (.int .i64 (e : Int)) ∧ Below W.heap.size W w') :
    Calls Tryd.prog 20 #[nmV K O n i T] w fun r w' => r = .returned (.string ⟨#[]⟩) ∧ Below w.heap.size w w' := by
  have g : ((e : Int) != 0) = true := by simp; omega
  have HCK := Lib.hid hC
  have HX := Lib.hid (bx_new w (nmC K O n i T))
  clear hC he
  go_enter Tryd.func20, Tryd.ntmps20
  have c0 := HX.out.1.cell 0; have c1 := HX.out.1.cell 1; have c2 := HX.out.1.cell 2; have c3 := HX.out.1.cell 3; have c4 := HX.out.1.cell 4
  go_wp2_with (go_at_call 12; refine (HCK.out _).mono ?_; rintro e V1 ⟨rfl, hb⟩; replace HX := Lib.hid (HX.out.under hb); clear hb c0 c1 c2 c3 c4)
  go_ret
  exact ⟨rfl, HX.out.bel⟩

def catS (b : Bool) (x y z : ByteArray) : ByteArray := if b then x ++ y ++ z else x
theorem catS_size (b : Bool) (x y z : ByteArray) : (catS b x y z).size ≤ x.size + y.size + z.size := by
  unfold catS; split
  · rw [ba_app_size, ba_app_size]; omega
  · omega
theorem catS_sv (b : Bool) (x y z : List UInt8) : catS b (sv x) (sv y) (sv z) = sv (catB b x (y ++ z)) := by
  unfold catS catB; split
  · rw [sv_app, sv_app, List.append_assoc]
  · rfl

set_option maxHeartbeats 1000000 in
theorem refString_any (K n i : Int) (O T : ByteArray) (w : World) (hO : O.size ≤ 1000000) (hT : T.size ≤ 1000000) :
    Calls Tryd.prog 20 #[nmV K O n i T] w fun e w' => e = .returned (.string (sv (textN ⟨K, O.data.toList, n, i, T.data.toList⟩))) ∧ Below w.heap.size w w' := by
  have hC : ∀ W, Calls Tryd.prog 12 #[nmV K O n i T] W fun r w' => r = .returned (.int .i64 (checkN ⟨K, O.data.toList, n, i, T.data.toList⟩ : Nat)) ∧ Below W.heap.size W w' := fun W => refCheck_any K n i O T W hO (by unfold maxLen; omega)
  by_cases h0 : checkN ⟨K, O.data.toList, n, i, T.data.toList⟩ = 0
  · obtain ⟨k, n', i', e, hv⟩ := check_vn h0
    simp only [Nm.mk.injEq] at e
    obtain ⟨rfl, _, rfl, rfl, _⟩ := e
    simp only at hv
    rw [textN_vn hv]
    rw [h0] at hC
    have hm := most_le k
    have hn := hv.nb
    have hi := hv.ib
    have hOT : (ownerT O.data.toList).length ≤ 1000001 := by
      have : O.data.toList.length = O.size := by simp
      unfold ownerT; split
      · simp
      · omega
    have hdn : (dec n').length ≤ 30 := dec_len32 (by omega)
    have hdi : (dec i').length ≤ 30 := dec_len32 (by omega)
    have hwl := word_len k
    have s1 := catS_size (ownN k) (sv (wordN k)) ⟨#[32]⟩ (sv (ownerT O.data.toList))
    have s2 := catS_size (numN k) (catS (ownN k) (sv (wordN k)) ⟨#[32]⟩ (sv (ownerT O.data.toList))) (if ownN k then ⟨#[35]⟩ else ⟨#[32]⟩) (sv (dec n'))
    have s3 := catS_size (idxN k) (catS (numN k) (catS (ownN k) (sv (wordN k)) ⟨#[32]⟩ (sv (ownerT O.data.toList))) (if ownN k then ⟨#[35]⟩ else ⟨#[32]⟩) (sv (dec n'))) ⟨#[32]⟩ (sv (dec i'))
    have e32 : (ByteArray.mk #[32]).size = 1 := rfl
    have e35 : (if ownN k then (⟨#[35]⟩ : ByteArray) else ⟨#[32]⟩).size = 1 := by split <;> rfl
    rw [e32] at s1
    rw [e35] at s2
    rw [e32] at s3
    have v1 := sv_size (wordN k)
    have v2 := sv_size (ownerT O.data.toList)
    have v3 := sv_size (dec n')
    have v4 := sv_size (dec i')
    have h21 : k < 21 := by have := hv.k2; omega
    have hmi := mostI_nat k h21
    have hX4 : catS (txtN k) (catS (idxN k) (catS (numN k) (catS (ownN k) (sv (wordN k)) ⟨#[32]⟩ (sv (ownerT O.data.toList))) (if ownN k then ⟨#[35]⟩ else ⟨#[32]⟩) (sv (dec n'))) ⟨#[32]⟩ (sv (dec i'))) ⟨#[32]⟩ T = sv (nameT k O.data.toList n' i' T.data.toList) := by
      have eT : T = sv T.data.toList := (sv_back T).symm
      have eM : (if ownN k then (⟨#[35]⟩ : ByteArray) else ⟨#[32]⟩) = sv [if ownN k then 35 else 32] := by split <;> rfl
      rw [eM]
      conv => lhs; rw [eT]
      rw [show (⟨#[32]⟩ : ByteArray) = sv [32] from rfl, catS_sv, catS_sv, catS_sv, catS_sv, nameT_cat]
      rfl
    rw [← hX4]
    have cT : ∀ (b : Bool) (x y z : ByteArray), b = true → x ++ y ++ z = catS b x y z := fun b x y z h => by unfold catS; rw [if_pos h]
    have cF : ∀ (b : Bool) (x y z : ByteArray), b = false → x = catS b x y z := fun b x y z h => by unfold catS; rw [if_neg (by simp [h])]
    refine refStr_core k n' i' O T w (ownN k) (numN k) (idxN k) (txtN k) (mostI k) (sv (wordN k)) _ (sv (ownerT O.data.toList)) _ (if ownN k then ⟨#[35]⟩ else ⟨#[32]⟩) _ (sv (dec n')) _ _ (sv (dec i')) _ _ _ hv.k2
      hC (fun W => words_any k hv.k2 W) (fun W => by have := owned_any k W; rwa [ownI_nat k h21] at this) (fun W => by have := numbered_any k W; rwa [numI_nat k h21] at this) (fun W => most_any k W) (fun W => by have := texted_any k W; rwa [txtI_nat k h21] at this)
      (fun W => digits_any n' W (by omega)) (fun W => digits_any i' W (by omega)) ?_ ?_ ?_ rfl (cT _ _ _ _) (cF _ _ _ _) (fun h => by rw [if_pos h]) (fun h => by rw [if_neg (by simp [h])]) rfl (cT _ _ _ _) (cF _ _ _ _) rfl (cT _ _ _ _) (cF _ _ _ _) rfl (cT _ _ _ _) (cF _ _ _ _) ?_ ?_ ?_ ?_ ?_ ?_ ?_ ?_
    · intro h; rw [hmi.2] at h; exact of_decide_eq_true h
    · intro h; rw [hmi.2] at h; exact of_decide_eq_false h
    · by_cases ho : O.data.toList = []
      · left
        rw [toList_data, ho]
        exact ⟨rfl, rfl, rfl⟩
      · right
        rw [toList_data]
        exact ⟨ho, by simpa using ho, by unfold ownerT; rw [if_neg ho, sv_back]⟩
    all_goals ((try simp only [ba_app_size, e32, e35]); omega)
  · have he : textN ⟨K, O.data.toList, n, i, T.data.toList⟩ = [] := by unfold textN; rw [if_neg h0]
    rw [he]
    exact refStr_bad K n i O T w _ h0 hC
end Go.Proofs.YtcdjmkfpclmbdaaDoor
