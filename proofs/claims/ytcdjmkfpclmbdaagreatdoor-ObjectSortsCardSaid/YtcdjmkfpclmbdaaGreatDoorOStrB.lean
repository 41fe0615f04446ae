/- object: String of any name. -/
import Derived.Test.YtcdjmkfpclmbdaaGreatDoorOStr
set_option linter.unusedVariables false
namespace Go.Proofs.YtcdjmkfpclmbdaaGreatDoor
open Go.RowKit

theorem nameT_cat (k : Nat) (o : List UInt8) (n i : Nat) (t : List UInt8) :
    nameT k o n i t = catB (txtN k) (catB (idxN k) (catB (numN k) (catB (ownN k) (wordN k) (32 :: ownerT o)) ((if ownN k then 35 else 32) :: dec n)) (32 :: dec i)) (32 :: t) := by
  unfold nameT t1 t2 t3 t4 catB markN
  cases ownN k <;> cases numN k <;> cases idxN k <;> cases txtN k <;> simp
theorem word_len (k : Nat) : (wordN k).length ≤ 100 := by
  unfold wordN useN
  split <;> simp
theorem check_len {K n i : Int} {O T : ByteArray} (h : checkN ⟨K, O.data.toList, n, i, T.data.toList⟩ = 0) : T.size ≤ 1000000 := by
  obtain ⟨k, n', i', e, hv⟩ := check_vn h
  have ht : T.data.toList.length = T.size := by simp
  rcases h4 : txtN k with _ | _
  · have := hv.t0 h4
    simp only at this
    rw [← ht, this]; simp
  · have := hv.tw h4
    simp only [wordB, Bool.and_eq_true, decide_eq_true_eq] at this
    rw [← ht]; omega
set_option maxHeartbeats 1000000 in
set_option maxRecDepth 100000 in
theorem string_bad (K n i : Int) (O T : ByteArray) (w : World) (e : Nat) (he : e ≠ 0)
    (hC : ∀ W, Below w.heap.size w W → Calls Tryz.prog 54 #[nmV K O n i T] W fun r w' => r = .returned (.int .i64 (e : Int)) ∧ Below W.heap.size W w') :
    Calls Tryz.prog 27 #[nmV K O n i T] w fun r w' => r = .returned (.string ⟨#[]⟩) ∧ Below w.heap.size w w' := by
  have g : ((e : Int) != 0) = true := by simp; omega
  have HCK := Lib.hid hC
  clear hC he
  go_enter Tryz.func27, Tryz.ntmps27
  go_wp2_with (go_at_call 54; refine (HCK.out _ (below_alloc0 _ _ (Nat.le_refl _))).mono ?_; rintro e V1 ⟨rfl, hb⟩; have HB1 := Lib.hid ((below_alloc0 w (.cells (nmC K O n i T) 28) (Nat.le_refl _)).trans (hb.mono (by simp))); clear hb)
  go_ret
  exact ⟨rfl, HB1.out⟩
theorem string_any (K n i : Int) (O T : ByteArray) (w : World) (hE : Env w) (hO : O.size ≤ 1000000) :
    Calls Tryz.prog 27 #[nmV K O n i T] w fun e w' => e = .returned (.string (sv (textN ⟨K, O.data.toList, n, i, T.data.toList⟩))) ∧ Below w.heap.size w w' := by
  have hC : ∀ W, Below w.heap.size w W → Calls Tryz.prog 54 #[nmV K O n i T] W fun r w' => r = .returned (.int .i64 (checkN ⟨K, O.data.toList, n, i, T.data.toList⟩ : Nat)) ∧ Below W.heap.size W w' := fun W hb => check_any K n i O T W (hE.below hb) hO
  by_cases h0 : checkN ⟨K, O.data.toList, n, i, T.data.toList⟩ = 0
  · have hT := check_len h0
    obtain ⟨k, n', i', e, hv⟩ := check_vn h0
    simp only [Nm.mk.injEq] at e
    obtain ⟨rfl, _, rfl, rfl, _⟩ := e
    simp only at hv
    rw [textN_vn hv]
    rw [h0] at hC
    have hm := most_le k
    exact string_gen k n' i' (mostN k) (ownN k) (numN k) (idxN k) (txtN k) O T (wordN k) w hE.pow (fun W hb => (hE.below hb).use hv.k2) hC (word_len k) hO hT (by have := hv.nb; omega) (by have := hv.ib; omega) hv.k2 _ (nameT_cat k _ n' i' _)
  · have he : textN ⟨K, O.data.toList, n, i, T.data.toList⟩ = [] := by unfold textN; rw [if_neg h0]
    rw [he]
    exact string_bad K n i O T w _ h0 hC
end Go.Proofs.YtcdjmkfpclmbdaaGreatDoor
