/- pack: the walk of PackBounds. -/
import Derived.Test.YtocohoojnjdkiaaKBackW
set_option linter.unusedVariables false
namespace Go.Proofs.Ytocohoojnjdkiaa
open Go.RowKit

set_option maxHeartbeats 4000000 in
set_option maxRecDepth 100000 in
theorem packBounds_walk (A0 : Option Addr) (l0 : List UInt8) (c0 : Nat) (A1 : Option Addr) (l1 : List UInt8) (c1 : Nat) (n : Int) (W : World) (r0 : RB W W.heap.size A0 l0) (s0 : l0.length ≤ c0) (m0 : c0 ≤ maxLen) (r1 : RB W W.heap.size A1 l1) (s1 : l1.length ≤ c1) (m1 : c1 ≤ maxLen) (wn : (Lit.int .i64 n).wf = true) :
    Calls Try.prog 7 #[.slice A0 l0.length c0, .slice A1 l1.length c1, .int .i64 n] W fun e W' => e = .returned (.bool true) ∧ Below W.heap.size W W' := by
  have C0 := Lib.hid (fun V : World => cut_any A0 l0.length c0 V s0 (rb_A r0))
  have C1 := Lib.hid (fun V : World => cut_any A1 l1.length c1 V s1 (rb_A r1))
  rw [← take_len] at C0 C1
  have R0 := Lib.hid (r0.take 400)
  have R1 := Lib.hid (r1.take 400)
  have hk0 : (l0.take 400).length ≤ 400 := by rw [take_len]; omega
  have hk1 : (l1.take 400).length ≤ 400 := by rw [take_len]; omega
  have hs0 : (l0.take 400).length ≤ c0 := by rw [take_len]; omega
  have hs1 : (l1.take 400).length ≤ c1 := by rw [take_len]; omega
  obtain ⟨n0, hn0⟩ : ∃ n, l0.length = n := ⟨_, rfl⟩
  obtain ⟨n1, hn1⟩ : ∃ n, l1.length = n := ⟨_, rfl⟩
  rw [hn0] at C0 ⊢
  rw [hn1] at C1 ⊢
  obtain ⟨d, hd⟩ : ∃ d, l0.take 400 = d := ⟨_, rfl⟩
  obtain ⟨b, hb⟩ : ∃ b, l1.take 400 = b := ⟨_, rfl⟩
  rw [hd] at C0 R0 hk0 hs0
  rw [hb] at C1 R1 hk1 hs1
  clear r0 r1 s0 s1 hn0 hn1 hd hb wn
  have hb1 := pack_bound d b
  have hb2 := pack_bound [] b
  have HP : Hid (∀ V, Below W.heap.size W V → Calls Try.prog 14 #[.slice A0 d.length c0, .slice A1 b.length c1] V fun e w' => ∃ v, e = .returned (.tuple #[v, .int .i64 0]) ∧ OB 5 w' V.heap.size v (packF d b) ∧ Below V.heap.size V w') := Lib.hid fun V h => packWith_any V A0 d c0 A1 b c1 ((R0.out.below h).more h.size) ((R1.out.below h).more h.size) (by omega) hs0 (by omega)
  have HQ : Hid (∀ V, Below W.heap.size W V → Calls Try.prog 15 #[.slice A1 b.length c1] V fun e w' => ∃ v, e = .returned (.tuple #[v, .int .i64 0]) ∧ OB 5 w' V.heap.size v (packF [] b) ∧ Below V.heap.size V w') := Lib.hid fun V h => pack_all V A1 b c1 ((R1.out.below h).more h.size) (by omega)
  obtain ⟨x, hx⟩ : ∃ x, (packF d b).length = x := ⟨_, rfl⟩
  obtain ⟨y, hy⟩ : ∃ y, (packF [] b).length = y := ⟨_, rfl⟩
  rw [hx] at hb1
  rw [hy] at hb2
  have HX := Lib.hid hx
  have HY := Lib.hid hy
  obtain ⟨nd, hnd⟩ : ∃ n, d.length = n := ⟨_, rfl⟩
  obtain ⟨nb, hnb⟩ : ∃ n, b.length = n := ⟨_, rfl⟩
  rw [hnd] at C0 HP hk0 hs0
  rw [hnb] at C1 HP HQ hk1 hs1 hb1 hb2
  have HBK := Lib.hid (fun V : World => bound_ok nb V (by omega))
  have g1 : ¬ (x : Int) > (nb : Int) + ((nb : Int) + 127) / 128 := by omega
  have g2 : ¬ (y : Int) > (nb : Int) + ((nb : Int) + 127) / 128 := by omega
  obtain ⟨z, hz⟩ : ∃ z, (nb : Int) + ((nb : Int) + 127) / 128 = z := ⟨_, rfl⟩
  rw [hz] at HBK g1 g2
  clear hnd hnb hx hy hz hb1 hb2
  have HB0 := Lib.hid (Below.refl W.heap.size W)
  by_cases hn : n < 0 ∨ 1048576 < n
  · have HBN := Lib.hid (fun V : World => bound_bad n V hn)
    have hcase : n < 0 ∨ (¬ n < 0 ∧ n > 1048576) := by omega
    go_enter Try.func7, Try.ntmps7
    go_upto_region 3 with (first | (go_at_call_of 13 (Value.slice A0 n0 c0); refine (C0.out _).mono ?_; rintro e V ⟨rfl, hv⟩; subst V) | (go_at_call_of 13 (Value.slice A1 n1 c1); refine (C1.out _).mono ?_; rintro e V ⟨rfl, hv⟩; subst V) | (go_at_call 25; refine (HBN.out _).mono ?_; rintro e V ⟨rfl, hv⟩; subst V))
    go_upto_region 8 with (first | (go_at_call 25; refine (HBK.out _).mono ?_; rintro e V ⟨rfl, hv⟩; subst V) | (go_at_call 14; refine (HP.out _ HB0.out).mono ?_; rintro e V1 ⟨v1, rfl, ho1, hb1⟩; obtain ⟨Ap, cp, hv1, _, _, _⟩ := ho1.form; rw [HX.out] at hv1; subst hv1; have HB1 := Lib.hid hb1; clear ho1 hb1) | (go_at_call 15; refine (HQ.out _ HB1.out).mono ?_; rintro e V2 ⟨v2, rfl, ho2, hb2⟩; obtain ⟨Aq, cq, hv2, _, _, _⟩ := ho2.form; rw [HY.out] at hv2; subst hv2; have HB2 := Lib.hid (HB1.out.trans (hb2.mono HB1.out.size)); clear ho2 hb2) | (go_at_call 16; refine (known_any _).mono ?_; rintro e V4 ⟨rfl, hb4⟩; have HB4 := Lib.hid (HB2.out.trans (hb4.mono HB2.out.size)); clear hb4))
    rcases hcase with h1 | ⟨h1, h2⟩
    · go_wp2
      go_ret
      exact ⟨rfl, HB4.out⟩
    · go_wp2
      go_ret
      exact ⟨rfl, HB4.out⟩
  · obtain ⟨m, rfl⟩ : ∃ m : Nat, n = (m : Int) := ⟨n.toNat, by omega⟩
    have HBN := Lib.hid (fun V : World => bound_ok m V (by omega))
    have HRB := Lib.hid (fun V : World => rbound_ok m V (by omega))
    have h1 : ¬ (m : Int) < 0 := by omega
    have h2 : ¬ (m : Int) > 1048576 := by omega
    clear hn
    obtain ⟨q, hq⟩ : ∃ q, (m : Int) + ((m : Int) + 127) / 128 = q := ⟨_, rfl⟩
    rw [hq] at HBN HRB
    clear hq
    go_enter Try.func7, Try.ntmps7
    go_upto_region 3 with (first | (go_at_call_of 13 (Value.slice A0 n0 c0); refine (C0.out _).mono ?_; rintro e V ⟨rfl, hv⟩; subst V) | (go_at_call_of 13 (Value.slice A1 n1 c1); refine (C1.out _).mono ?_; rintro e V ⟨rfl, hv⟩; subst V) | (go_at_call 25; refine (HBN.out _).mono ?_; rintro e V ⟨rfl, hv⟩; subst V))
    go_upto_region 8 with (first | (go_at_call 25; refine (HBK.out _).mono ?_; rintro e V ⟨rfl, hv⟩; subst V) | (go_at_call 14; refine (HP.out _ HB0.out).mono ?_; rintro e V1 ⟨v1, rfl, ho1, hb1⟩; obtain ⟨Ap, cp, hv1, _, _, _⟩ := ho1.form; rw [HX.out] at hv1; subst hv1; have HB1 := Lib.hid hb1; clear ho1 hb1) | (go_at_call 15; refine (HQ.out _ HB1.out).mono ?_; rintro e V2 ⟨v2, rfl, ho2, hb2⟩; obtain ⟨Aq, cq, hv2, _, _, _⟩ := ho2.form; rw [HY.out] at hv2; subst hv2; have HB2 := Lib.hid (HB1.out.trans (hb2.mono HB1.out.size)); clear ho2 hb2) | (go_at_call 16; refine (known_any _).mono ?_; rintro e V4 ⟨rfl, hb4⟩; have HB4 := Lib.hid (HB2.out.trans (hb4.mono HB2.out.size)); clear hb4))
    go_wp2_with (go_at_call 26; refine (HRB.out _).mono ?_; rintro e V ⟨rfl, hv⟩; subst V)
    go_ret
    exact ⟨rfl, HB4.out⟩
end Go.Proofs.Ytocohoojnjdkiaa
