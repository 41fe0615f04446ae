/- object: Encode of any name. -/
import Derived.Test.YtcdjmkfpclmbdaaGreatDoorOEnc
set_option linter.unusedVariables false
namespace Go.Proofs.YtcdjmkfpclmbdaaGreatDoor
open Go.RowKit

/-- A name's encoding; of what is no name, nothing. -/
def encN (x : Nm) : List UInt8 := if checkN x = 0 then encT x.kind.toNat x.owner x.num.toNat x.idx.toNat x.text else []
theorem encT_cat (k : Nat) (o : List UInt8) (n i : Nat) (t : List UInt8) :
    encT k o n i t = catB (txtN k) (catB (idxN k) (catB (numN k) (catB (ownN k) (Cod.enc k) (Cod.enc o.length ++ o)) (Cod.enc n)) (Cod.enc i)) (Cod.enc t.length ++ t) := by
  unfold encT encR encO encI catB
  cases ownN k <;> cases numN k <;> cases idxN k <;> cases txtN k <;> simp
theorem encN_vn {k n i : Nat} {o t : List UInt8} (h : Vn k o n i t) : encN ⟨k, o, n, i, t⟩ = encT k o n i t := by
  unfold encN; rw [if_pos (vn_check h)]; rfl
set_option maxHeartbeats 1000000 in
set_option maxRecDepth 100000 in
theorem encode_bad (K n i : Int) (O T : ByteArray) (w : World) (e : Nat) (he : e ≠ 0)
    (hC : ∀ W, Below w.heap.size w W → Calls Tryz.prog 54 #[nmV K O n i T] W fun r w' => r = .returned (.int .i64 (e : Int)) ∧ Below W.heap.size W w') :
    Calls Tryz.prog 21 #[nmV K O n i T] w fun r w' => r = .returned (.tuple #[.string ⟨#[]⟩, .int .i64 (e : Int)]) ∧ Below w.heap.size w w' := by
  have g : ((e : Int) != 0) = true := by simp; omega
  have HCK := Lib.hid hC
  clear hC he
  go_enter Tryz.func21, Tryz.ntmps21
  go_wp2_with (go_at_call 54; refine (HCK.out _ (below_alloc0 _ _ (Nat.le_refl _))).mono ?_; rintro e V1 ⟨rfl, hb⟩; have HB1 := Lib.hid ((below_alloc0 w (.cells (nmC K O n i T) 28) (Nat.le_refl _)).trans (hb.mono (by simp))); clear hb)
  go_ret2
  exact ⟨rfl, HB1.out⟩
theorem encode_any (K n i : Int) (O T : ByteArray) (w : World) (hE : Env w) (hO : O.size ≤ 1000000) :
    Calls Tryz.prog 21 #[nmV K O n i T] w fun e w' => e = .returned (.tuple #[.string (sv (encN ⟨K, O.data.toList, n, i, T.data.toList⟩)), .int .i64 (checkN ⟨K, O.data.toList, n, i, T.data.toList⟩ : Nat)]) ∧ Below w.heap.size w w' := by
  have hC : ∀ W, Below w.heap.size w W → Calls Tryz.prog 54 #[nmV K O n i T] W fun r w' => r = .returned (.int .i64 (checkN ⟨K, O.data.toList, n, i, T.data.toList⟩ : Nat)) ∧ Below W.heap.size W w' := fun W hb => check_any K n i O T W (hE.below hb) hO
  by_cases h0 : checkN ⟨K, O.data.toList, n, i, T.data.toList⟩ = 0
  · have hT := check_len h0
    have lO : O.data.toList.length = O.size := by simp
    have lT : T.data.toList.length = T.size := by simp
    obtain ⟨k, n', i', e, hv⟩ := check_vn h0
    simp only [Nm.mk.injEq] at e
    obtain ⟨rfl, _, rfl, rfl, _⟩ := e
    simp only at hv
    rw [encN_vn hv, h0]
    rw [h0] at hC
    have hm := most_le k
    exact encode_gen k n' i' (mostN k) (ownN k) (numN k) (idxN k) (txtN k) O T (sv (wordN k)) w (fun W hb => (hE.below hb).use hv.k2) hC hO hT hv.nb (by have := hv.ib; omega) hv.k2 _ (by rw [encT_cat, lO, lT])
  · have he : encN ⟨K, O.data.toList, n, i, T.data.toList⟩ = [] := by unfold encN; rw [if_neg h0]
    rw [he]
    exact encode_bad K n i O T w _ h0 hC
end Go.Proofs.YtcdjmkfpclmbdaaGreatDoor
