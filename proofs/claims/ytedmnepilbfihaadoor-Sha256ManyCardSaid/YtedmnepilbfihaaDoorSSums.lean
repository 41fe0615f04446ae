/- The walk of the law Sha256Sums: what it says of every text. -/
import Derived.Test.YtedmnepilbfihaaDoorSRSum
import Derived.Stop.BytesEq
set_option linter.unusedVariables false
namespace Go.Proofs.YtedmnepilbfihaaDoor
open Go.RowKit

def shortS (S : ByteArray) (k : Nat) : ByteArray := if S.size ≤ k then S else S.extract 0 k
theorem shortS_size (S : ByteArray) (k : Nat) : (shortS S k).size ≤ k := by
  unfold shortS; split
  · assumption
  · rw [ByteArray.size_extract]; omega

set_option maxRecDepth 100000 in
theorem short_any (S : ByteArray) (k : Nat) (w : World) (hk : k ≤ 2000) :
    Calls Tryd.prog 13 #[.string S, .int .i64 (k : Int)] w fun e w' => e = .returned (.string (shortS S k)) ∧ w = w' := by
  by_cases h : S.size ≤ k
  · have h1 : (S.size : Int) ≤ (k : Int) := by omega
    unfold shortS
    rw [if_pos h]
    go_enter Tryd.func13, Tryd.ntmps13
    go_wp2
    go_ret
    exact ⟨rfl, rfl⟩
  · have h1 : ¬ (S.size : Int) ≤ (k : Int) := by omega
    have h2 : (k : Int) ≤ (S.size : Int) := by omega
    unfold shortS
    rw [if_neg h]
    go_enter Tryd.func13, Tryd.ntmps13
    go_wp2
    go_ret
    exact ⟨rfl, rfl⟩

theorem size1 : ∀ w, (sizeOf 5).run Tryd.prog w = .ok 1 w := fun w => by kernel_rfl
theorem eq_arr (xs ys : List UInt8) (hx : xs.length = 32) (hy : ys.length = 32) (w : World) :
    (binOp .eql 24 (.agg (xs.map bv).toArray) (.agg (ys.map bv).toArray)).run Tryd.prog w = .ok (.bool (xs == ys)) w :=
  run_eql_bytes w 24 5 32 Tryd.underlying24 Tryd.underlying5 size1 xs ys hx hy
theorem sumS_length (m : List UInt8) : (sumS m).length = 32 := by unfold sumS; exact digest_length _

set_option maxHeartbeats 1000000 in
set_option maxRecDepth 100000 in
theorem sha256Sums_walk (S : ByteArray) (w : World) (hT : Tab w) (hS : S.size ≤ maxLen) :
    Calls Tryd.prog 3 #[.string S] w fun e w' => e = .returned (.bool true) ∧ Below w.heap.size w w' := by
  obtain ⟨s, es⟩ : ∃ s, s = shortS S 1000 := ⟨_, rfl⟩
  have hs : s.size ≤ 1000 := by rw [es]; exact shortS_size _ _
  have H1 := Lib.hid (fun W => short_any S 1000 W (by omega))
  simp only [← es] at H1
  obtain ⟨dg, edg⟩ : ∃ d, d = sumS s.data.toList := ⟨_, rfl⟩
  have hdl : dg.length = 32 := by rw [edg]; exact sumS_length _
  have heq := fun W => eq_arr dg dg hdl hdl W
  rw [show (dg == dg) = true by simp] at heq
  have H2 := Lib.hid (known_any w hT)
  have H3 : Hid (∀ W, Below w.heap.size w W → Calls Tryd.prog 15 #[.string s] W fun e w' => e = .returned (.agg (dg.map bv).toArray) ∧ Below w.heap.size w w') := Lib.hid fun W hb => by
    rw [edg]
    exact (sumText_any s W (hT.below hb hT.1) (by omega)).mono fun e w' ⟨he, hb2⟩ => ⟨he, hb.trans (hb2.mono hb.size)⟩
  have H4 : Hid (∀ W, Below w.heap.size w W → Calls Tryd.prog 16 #[.string s] W fun e w' => e = .returned (.agg (dg.map bv).toArray) ∧ Below w.heap.size w w') := Lib.hid fun W hb => by
    rw [edg]
    exact (refSum_any s W (by omega)).mono fun e w' ⟨he, hb2⟩ => ⟨he, hb.trans (hb2.mono hb.size)⟩
  clear es edg hdl hT
  go_enter Tryd.func3, Tryd.ntmps3
  go_wp2_with (first
    | (go_at_call 13; refine (H1.out _).mono ?_; rintro e w' ⟨rfl, rfl⟩)
    | (go_at_call 14; refine H2.out.mono ?_; rintro e w1 ⟨rfl, hb1⟩; have B1 := Lib.hid hb1; clear hb1)
    | (go_at_call 15; refine (H3.out _ B1.out).mono ?_; rintro e w2 ⟨rfl, hb2⟩; have B2 := Lib.hid hb2; clear hb2)
    | (go_at_call 16; refine (H4.out _ B2.out).mono ?_; rintro e w3 ⟨rfl, hb3⟩; have B3 := Lib.hid hb3; clear hb3))
  go_ret
  exact ⟨rfl, B3.out⟩
end Go.Proofs.YtedmnepilbfihaaDoor
