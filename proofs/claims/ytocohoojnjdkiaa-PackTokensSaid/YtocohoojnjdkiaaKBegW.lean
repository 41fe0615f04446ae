/- pack: the walk of PackBeginnings. -/
import Derived.Test.YtocohoojnjdkiaaKBackW
set_option linter.unusedVariables false
namespace Go.Proofs.Ytocohoojnjdkiaa
open Go.RowKit

theorem slice_to {P : Program} {t e : TypeId} (ht : P.underlying t = some (.slice e)) (hs : (P.info? e).map (·.size) = some 1) (A : Option Addr) (n c k : Nat) (h : k ≤ c) (W : World) :
    (Instr.slice t (.slice A n c) none (some (.int .i64 (k : Int))) none).run P W = .ok (.slice A k c) W := by
  cases hq : P.info? e with
  | none => simp [hq] at hs
  | some j =>
    have hj : j.size = 1 := by simpa [hq] using hs
    have g2 : (0 : Int) ≤ (k : Int) := by omega
    have g3 : (k : Int) ≤ (c : Int) := by omega
    have hA : Option.map (fun x : Addr => x.add 0) A = A := by cases A <;> rfl
    by_cases hc : c = 0
    · subst hc
      obtain rfl : k = 0 := by omega
      simp [Instr.slice, Instr.sliceBounds, Instr.sliceBound, asIntOf, run_underlying ht, sizeOf, typeInfo, hq, hj, Result.andThen, g2, g3]
    · simp [Instr.slice, Instr.sliceBounds, Instr.sliceBound, asIntOf, run_underlying ht, sizeOf, typeInfo, hq, hj, Result.andThen, g2, h, hc]
      exact hA
theorem size8 : (Try.prog.info? 5).map (·.size) = some 1 := by kernel_rfl
set_option maxHeartbeats 4000000 in
set_option maxRecDepth 100000 in
theorem packBeginnings_walk (A0 : Option Addr) (l0 : List UInt8) (c0 : Nat) (W : World) (r0 : RB W W.heap.size A0 l0) (s0 : l0.length ≤ c0) (m0 : c0 ≤ maxLen) :
    Calls Try.prog 9 #[.slice A0 l0.length c0] W fun e W' => e = .returned (.bool true) ∧ Below W.heap.size W W' := by
  have R0 := Lib.hid (r0.take 300)
  have htk : (l0.take 300).length = min l0.length 300 := by simp; omega
  obtain ⟨n0, hn0⟩ : ∃ n, l0.length = n := ⟨_, rfl⟩
  rw [hn0] at htk s0 ⊢
  obtain ⟨b, hb⟩ : ∃ b, l0.take 300 = b := ⟨_, rfl⟩
  rw [hb] at R0 htk
  clear r0 hn0 hb
  have HQ : Hid (∀ V, Below W.heap.size W V → Calls Try.prog 15 #[.slice A0 b.length c0] V fun e w' => ∃ v, e = .returned (.tuple #[v, .int .i64 0]) ∧ OB 5 w' V.heap.size v (packF [] b) ∧ Below V.heap.size V w') := Lib.hid fun V h => pack_all V A0 b c0 ((R0.out.below h).more h.size) (by omega)
  have hpl := pack_len [] b (by omega)
  have HUN : Hid (∀ k, (∃ x, unpackF [] ((packF [] b).take k) (b.length : Int) = .error (x, 28)) ∨ ∃ s, unpackF [] ((packF [] b).take k) (b.length : Int) = .ok s ∧ s <+: b) := Lib.hid fun k => by
    have h : Fits [] (cn ([] ++ b) 0 []) ∧ (cn ([] ++ b) 0 []).foldl Tok.app [] = [] ++ b := cn_all [] b
    have h2 := unp_begin 0 b.length (cn ([] ++ b) 0 []) [] [] k h.1 (by rw [h.2]; simp)
    rw [h.2] at h2
    have e : ∀ q : List UInt8, unpackF [] q (b.length : Int) = unp 0 b.length q 0 [] := fun q => by
      unfold unpackF
      rw [if_neg (by omega), if_neg (by simp), Int.toNat_natCast]
      rfl
    rw [e]
    have e2 : packF [] b = encs (cn ([] ++ b) 0 []) := rfl
    rw [e2]
    rcases h2 with ⟨x, hx⟩ | ⟨s, hs, hp⟩
    · exact .inl ⟨x, hx⟩
    · exact .inr ⟨s, by simpa using hs, hp⟩
  obtain ⟨p, hp⟩ : ∃ p, packF [] b = p := ⟨_, rfl⟩
  rw [hp] at HQ hpl HUN
  obtain ⟨nb, hnb⟩ : ∃ n, b.length = n := ⟨_, rfl⟩
  rw [hnb] at HQ htk HUN
  obtain ⟨np, hnp⟩ : ∃ n, p.length = n := ⟨_, rfl⟩
  rw [hnp] at hpl
  have HNB := Lib.hid hnb
  have HNP := Lib.hid hnp
  have HB0 := Lib.hid (Below.refl W.heap.size W)
  clear hp hnb hnp
  have hsl : ∀ V, (Instr.slice 22 (.slice A0 n0 c0) none (some (.int .i64 (nb : Int))) none).run Try.prog V = .ok (.slice A0 nb c0) V := fun V => slice_to bslK.u size8 A0 n0 c0 nb (by omega) V
  have HS2 : Hid (∀ V k, k ≤ nb → (Instr.slice 22 (.slice A0 nb c0) none (some (.int .i64 (k : Int))) none).run Try.prog V = .ok (.slice A0 k c0) V) := Lib.hid fun V k hk => slice_to bslK.u size8 A0 nb c0 k (by omega) V
  have hmin : ((nb : Int) = (n0 : Int) ∧ (n0 : Int) ≤ 300) ∨ ((nb : Int) = 300 ∧ ¬ (n0 : Int) ≤ 300) := by omega
  have hnb300 : nb ≤ 300 := by omega
  clear htk s0 m0
  rcases hmin with ⟨hm1, hm2⟩ | ⟨hm1, hm2⟩
  · rw [hm1] at hsl
    clear hm1
    go_enter Try.func9, Try.ntmps9
    go_upto_region 2 with fail
    clear hsl hm2
    go_upto_region 3 with (go_at_call 15; refine (HQ.out _ HB0.out).mono ?_; rintro e V1 ⟨v1, rfl, ho1, hb1⟩; obtain ⟨Ap, cp, hv1, hrp, hcp, _⟩ := ho1.form; rw [HNP.out] at hv1 hcp; subst hv1; have HRP := Lib.hid hrp; have HB1 := Lib.hid hb1; clear ho1 hb1 hrp)
    go_upto_region 5 with (go_at_call 16; refine (known_any _).mono ?_; rintro e V2 ⟨rfl, hb2⟩; have HRP2 := Lib.hid ((HRP.out.below hb2).more hb2.size); have HB2 := Lib.hid (HB1.out.trans (hb2.mono HB1.out.size)); clear hb2)
    have HSP : Hid (∀ V k, k ≤ np → (Instr.slice 22 (.slice Ap np cp) none (some (.int .i64 (k : Int))) none).run Try.prog V = .ok (.slice Ap k cp) V) := Lib.hid fun V k hk => slice_to bslK.u size8 Ap np cp k (by omega) V
    have HUC : Hid (∀ V k, k ≤ np → Below V2.heap.size V2 V → Calls Try.prog 21 #[.slice Ap k cp, .int .i64 (nb : Int)] V fun e w' => ∃ v a y, e = .returned (.tuple #[v, .int .i64 a, .int .i64 y]) ∧ UnpQ w' (unpackF [] (p.take k) (nb : Int)) v a y ∧ Below V.heap.size V w') := Lib.hid fun V k hk hb => by
      have hlen : (p.take k).length = k := by rw [List.length_take, HNP.out]; omega
      have h := unpack_all V Ap (p.take k) cp (nb : Int) (((HRP2.out.below hb).more hb.size).take k) (by omega) (by omega)
      rwa [hlen] at h
    go_wp2
    go_loopw [5] (fun i wr => ∃ k : Nat, i = .int .i64 (k : Int) ∧ k ≤ np + 1 ∧ Below V2.heap.size V2 wr) (fun i _ => np + 1 - (intOf i).toNat)
    case atStart => exact ⟨0, rfl, by omega, Below.refl _ _⟩
    case round =>
      obtain ⟨k, rfl, hk, hb⟩ := hrel
      have HB := Lib.hid hb
      clear hb
      by_cases hkn : k ≤ np
      · have g1 : (k : Int) ≤ (np : Int) := by omega
        have hsp : ∀ V, (Instr.slice 22 (.slice Ap np cp) none (some (.int .i64 (k : Int))) none).run Try.prog V = .ok (.slice Ap k cp) V := fun V => HSP.out V k hkn
        have w1 : IntKind.i64.wrap ((k : Int) + 1) = (k : Int) + 1 := by rw [IntKind.wrap_i64]; omega
        rcases HUN.out k with ⟨x, hx⟩ | ⟨s, hs, hpre⟩
        · have HX := Lib.hid hx
          clear hx
          go_wp2_with (go_at_call 21; refine (HUC.out _ k hkn HB.out).mono ?_; rintro e V3 ⟨v, a, y, rfl, hq, hb3⟩; rw [HX.out] at hq; obtain ⟨hv, ha, hy⟩ := hq; subst hv; subst ha; subst hy; have HB3 := Lib.hid (HB.out.trans (hb3.mono HB.out.size)); clear hb3)
          go_roundw
          case rel => exact ⟨k + 1, by go_num, by omega, HB3.out⟩
          case measure => simp [intOf] <;> omega
        · have HS := Lib.hid hs
          have hsl2 : s.length ≤ nb := by rw [← HNB.out]; exact hpre.length_le
          have hst : b.take s.length = s := (List.prefix_iff_eq_take.1 hpre).symm
          have HST := Lib.hid hst
          obtain ⟨m, hm⟩ : ∃ m, s.length = m := ⟨_, rfl⟩
          have HM := Lib.hid hm
          rw [hm] at hsl2
          clear hs hpre hst hm
          have hsb : ∀ V, (Instr.slice 22 (.slice A0 nb c0) none (some (.int .i64 (m : Int))) none).run Try.prog V = .ok (.slice A0 m c0) V := fun V => HS2.out V m hsl2
          have g2 : ¬ (m : Int) > (nb : Int) := by omega
          have g3 : ¬ (nb : Int) < (m : Int) := by omega
          have d4 : decide (nb < m) = false := decide_eq_false (by omega)
          have d2 : decide ((m : Int) > (nb : Int)) = false := decide_eq_false g2
          have d3 : decide ((nb : Int) < (m : Int)) = false := decide_eq_false g3
          go_upto_region 10 with (go_at_call 21; refine (HUC.out _ k hkn HB.out).mono ?_; rintro e V3 ⟨v, a, y, rfl, hq, hb3⟩; rw [HS.out] at hq; obtain ⟨⟨A3, c3, hv, hr3, hc3⟩, ha, hy⟩ := hq; subst ha; subst hy; rw [HM.out] at hv hc3; subst hv; have HR3 := Lib.hid hr3; have HB3 := Lib.hid (HB.out.trans (hb3.mono HB.out.size)); have HB3d := Lib.hid (HB.out.trans (hb3.mono HB.out.size)).drew; clear hb3 hr3)
          have e1 : ∀ V, Below V3.heap.size V3 V → (convert 22 9 (.slice A3 m c3)).run Try.prog V = .ok (.string ⟨s.toArray⟩) V := fun V hV => by
            have h := run_str bslK 9 Try.underlying9 (HR3.out.below hV) c3
            rwa [HM.out] at h
          have e2 : ∀ V, Below V3.heap.size V3 V → (convert 22 9 (.slice A0 m c0)).run Try.prog V = .ok (.string ⟨s.toArray⟩) V := fun V hV => by
            have hbb : Below W.heap.size W V := (HB2.out.trans (HB3.out.mono HB2.out.size)).trans (hV.mono (Nat.le_trans HB2.out.size HB3.out.size))
            have h := run_str bslK 9 Try.underlying9 ((R0.out.below hbb).take m) c0
            rw [← HM.out, HST.out] at h
            rwa [HM.out] at h
          have hS0 : Below V3.heap.size V3 V3 := Below.refl _ _
          go_region_held3 (fun V => Below V3.heap.size V3 V) (first | assumption | exact Below.drew (by assumption)) (fail)
          clear e1 e2
          go_wp2
          go_roundw
          case rel => exact ⟨k + 1, by go_num, by omega, HB3d.out⟩
          case measure => simp [intOf] <;> omega
      · have g1 : ¬ (k : Int) ≤ (np : Int) := by omega
        go_wp2
        go_ret
        exact ⟨rfl, HB2.out.trans (HB.out.mono HB2.out.size)⟩
  · rw [hm1] at hsl
    have hm3 : (300 : Int) < (n0 : Int) := by omega
    clear hm1
    go_enter Try.func9, Try.ntmps9
    go_upto_region 2 with fail
    clear hsl hm2 hm3
    go_upto_region 3 with (go_at_call 15; refine (HQ.out _ HB0.out).mono ?_; rintro e V1 ⟨v1, rfl, ho1, hb1⟩; obtain ⟨Ap, cp, hv1, hrp, hcp, _⟩ := ho1.form; rw [HNP.out] at hv1 hcp; subst hv1; have HRP := Lib.hid hrp; have HB1 := Lib.hid hb1; clear ho1 hb1 hrp)
    go_upto_region 5 with (go_at_call 16; refine (known_any _).mono ?_; rintro e V2 ⟨rfl, hb2⟩; have HRP2 := Lib.hid ((HRP.out.below hb2).more hb2.size); have HB2 := Lib.hid (HB1.out.trans (hb2.mono HB1.out.size)); clear hb2)
    have HSP : Hid (∀ V k, k ≤ np → (Instr.slice 22 (.slice Ap np cp) none (some (.int .i64 (k : Int))) none).run Try.prog V = .ok (.slice Ap k cp) V) := Lib.hid fun V k hk => slice_to bslK.u size8 Ap np cp k (by omega) V
    have HUC : Hid (∀ V k, k ≤ np → Below V2.heap.size V2 V → Calls Try.prog 21 #[.slice Ap k cp, .int .i64 (nb : Int)] V fun e w' => ∃ v a y, e = .returned (.tuple #[v, .int .i64 a, .int .i64 y]) ∧ UnpQ w' (unpackF [] (p.take k) (nb : Int)) v a y ∧ Below V.heap.size V w') := Lib.hid fun V k hk hb => by
      have hlen : (p.take k).length = k := by rw [List.length_take, HNP.out]; omega
      have h := unpack_all V Ap (p.take k) cp (nb : Int) (((HRP2.out.below hb).more hb.size).take k) (by omega) (by omega)
      rwa [hlen] at h
    go_wp2
    go_loopw [5] (fun i wr => ∃ k : Nat, i = .int .i64 (k : Int) ∧ k ≤ np + 1 ∧ Below V2.heap.size V2 wr) (fun i _ => np + 1 - (intOf i).toNat)
    case atStart => exact ⟨0, rfl, by omega, Below.refl _ _⟩
    case round =>
      obtain ⟨k, rfl, hk, hb⟩ := hrel
      have HB := Lib.hid hb
      clear hb
      by_cases hkn : k ≤ np
      · have g1 : (k : Int) ≤ (np : Int) := by omega
        have hsp : ∀ V, (Instr.slice 22 (.slice Ap np cp) none (some (.int .i64 (k : Int))) none).run Try.prog V = .ok (.slice Ap k cp) V := fun V => HSP.out V k hkn
        have w1 : IntKind.i64.wrap ((k : Int) + 1) = (k : Int) + 1 := by rw [IntKind.wrap_i64]; omega
        rcases HUN.out k with ⟨x, hx⟩ | ⟨s, hs, hpre⟩
        · have HX := Lib.hid hx
          clear hx
          go_wp2_with (go_at_call 21; refine (HUC.out _ k hkn HB.out).mono ?_; rintro e V3 ⟨v, a, y, rfl, hq, hb3⟩; rw [HX.out] at hq; obtain ⟨hv, ha, hy⟩ := hq; subst hv; subst ha; subst hy; have HB3 := Lib.hid (HB.out.trans (hb3.mono HB.out.size)); clear hb3)
          go_roundw
          case rel => exact ⟨k + 1, by go_num, by omega, HB3.out⟩
          case measure => simp [intOf] <;> omega
        · have HS := Lib.hid hs
          have hsl2 : s.length ≤ nb := by rw [← HNB.out]; exact hpre.length_le
          have hst : b.take s.length = s := (List.prefix_iff_eq_take.1 hpre).symm
          have HST := Lib.hid hst
          obtain ⟨m, hm⟩ : ∃ m, s.length = m := ⟨_, rfl⟩
          have HM := Lib.hid hm
          rw [hm] at hsl2
          clear hs hpre hst hm
          have hsb : ∀ V, (Instr.slice 22 (.slice A0 nb c0) none (some (.int .i64 (m : Int))) none).run Try.prog V = .ok (.slice A0 m c0) V := fun V => HS2.out V m hsl2
          have g2 : ¬ (m : Int) > (nb : Int) := by omega
          have g3 : ¬ (nb : Int) < (m : Int) := by omega
          have d4 : decide (nb < m) = false := decide_eq_false (by omega)
          have d2 : decide ((m : Int) > (nb : Int)) = false := decide_eq_false g2
          have d3 : decide ((nb : Int) < (m : Int)) = false := decide_eq_false g3
          go_upto_region 10 with (go_at_call 21; refine (HUC.out _ k hkn HB.out).mono ?_; rintro e V3 ⟨v, a, y, rfl, hq, hb3⟩; rw [HS.out] at hq; obtain ⟨⟨A3, c3, hv, hr3, hc3⟩, ha, hy⟩ := hq; subst ha; subst hy; rw [HM.out] at hv hc3; subst hv; have HR3 := Lib.hid hr3; have HB3 := Lib.hid (HB.out.trans (hb3.mono HB.out.size)); have HB3d := Lib.hid (HB.out.trans (hb3.mono HB.out.size)).drew; clear hb3 hr3)
          have e1 : ∀ V, Below V3.heap.size V3 V → (convert 22 9 (.slice A3 m c3)).run Try.prog V = .ok (.string ⟨s.toArray⟩) V := fun V hV => by
            have h := run_str bslK 9 Try.underlying9 (HR3.out.below hV) c3
            rwa [HM.out] at h
          have e2 : ∀ V, Below V3.heap.size V3 V → (convert 22 9 (.slice A0 m c0)).run Try.prog V = .ok (.string ⟨s.toArray⟩) V := fun V hV => by
            have hbb : Below W.heap.size W V := (HB2.out.trans (HB3.out.mono HB2.out.size)).trans (hV.mono (Nat.le_trans HB2.out.size HB3.out.size))
            have h := run_str bslK 9 Try.underlying9 ((R0.out.below hbb).take m) c0
            rw [← HM.out, HST.out] at h
            rwa [HM.out] at h
          have hS0 : Below V3.heap.size V3 V3 := Below.refl _ _
          go_region_held3 (fun V => Below V3.heap.size V3 V) (first | assumption | exact Below.drew (by assumption)) (fail)
          clear e1 e2
          go_wp2
          go_roundw
          case rel => exact ⟨k + 1, by go_num, by omega, HB3d.out⟩
          case measure => simp [intOf] <;> omega
      · have g1 : ¬ (k : Int) ≤ (np : Int) := by omega
        go_wp2
        go_ret
        exact ⟨rfl, HB2.out.trans (HB.out.mono HB2.out.size)⟩
end Go.Proofs.Ytocohoojnjdkiaa
