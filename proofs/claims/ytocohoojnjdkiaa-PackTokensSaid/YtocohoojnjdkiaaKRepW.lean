/- pack: the walk of PackRepeats. -/
import Derived.Test.YtocohoojnjdkiaaKBegW
import Derived.Test.YtocohoojnjdkiaaKPer
import Derived.Test.YtocohoojnjdkiaaRow
set_option linter.unusedVariables false
namespace Go.Proofs.Ytocohoojnjdkiaa
open Go.RowKit

set_option maxHeartbeats 4000000 in
set_option maxRecDepth 100000 in
theorem packRepeats_walk (A0 : Option Addr) (l0 : List UInt8) (c0 : Nat) (a1 : Int) (W : World) (r0 : RB W W.heap.size A0 l0) (s0 : l0.length ≤ c0) (m0 : c0 ≤ maxLen) (w1 : (Lit.int .u8 a1).wf = true) :
    Calls Try.prog 8 #[.slice A0 l0.length c0, .int .u8 a1] W fun e W' => e = .returned (.bool true) ∧ Below W.heap.size W W' := by
  have hbd := wf_u8 w1
  obtain ⟨a, rfl⟩ : ∃ a : Nat, a1 = (a : Int) := ⟨a1.toNat, by omega⟩
  have R0 := Lib.hid (r0.take 20)
  have htk : (l0.take 20).length = min l0.length 20 := by simp; omega
  obtain ⟨n0, hn0⟩ : ∃ n, l0.length = n := ⟨_, rfl⟩
  rw [hn0] at htk s0 ⊢
  obtain ⟨b, hb⟩ : ∃ b, l0.take 20 = b := ⟨_, rfl⟩
  rw [hb] at R0 htk
  clear r0 hn0 hb w1
  obtain ⟨T, hT⟩ : ∃ T, T = a % 201 := ⟨_, rfl⟩
  have hT2 : T ≤ 200 := by omega
  have hconv : IntKind.i64.wrap (a : Int) = (a : Int) := by rw [IntKind.wrap_i64]; omega
  have ha0 : (0 : Int) ≤ (a : Int) := by omega
  have htm : Int.tmod (a : Int) 201 = (a : Int) % 201 := Int.tmod_eq_emod_of_nonneg ha0
  have htm2 : (a : Int) % 201 = (T : Int) := by omega
  have hrp := rpt_pack b T (by omega)
  have hlr : ∀ k, (rpt b k).length = k * b.length := rpt_len b
  have hNle : T * b.length ≤ 200 * 20 := Nat.mul_le_mul hT2 (by omega)
  have HUP : Hid (unpackF [] (packF [] (rpt b T)) ((rpt b T).length : Nat) = .ok (rpt b T)) := Lib.hid (unpack_pack (by simp) (Nat.le_refl _) (by rw [hlr]; omega))
  have hpl := pack_len [] (rpt b T) (by rw [hlr]; omega)
  have HKL : Hid (∀ k, k ≤ T → (rpt b k).length + b.length ≤ 140737488355328) := Lib.hid fun k hk => by
    rw [hlr]
    have := Nat.mul_le_mul hk (Nat.le_refl b.length)
    omega
  obtain ⟨N, hN⟩ : ∃ N, (rpt b T).length = N := ⟨_, rfl⟩
  rw [← hlr T, hN] at hrp hNle
  rw [hN] at HUP
  obtain ⟨p, hp⟩ : ∃ p, packF [] (rpt b T) = p := ⟨_, rfl⟩
  have HPK : Hid (∀ V Aa ca, RB V V.heap.size Aa (rpt b T) → Calls Try.prog 15 #[.slice Aa N ca] V fun e w' => ∃ v, e = .returned (.tuple #[v, .int .i64 0]) ∧ OB 5 w' V.heap.size v p ∧ Below V.heap.size V w') := Lib.hid fun V Aa ca h => by
    rw [← hp, ← hN]; exact pack_all V Aa (rpt b T) ca h (by omega)
  rw [hp] at hrp HUP hpl
  have HN := Lib.hid hN
  obtain ⟨np, hnp⟩ : ∃ n, p.length = n := ⟨_, rfl⟩
  rw [hnp] at hrp hpl
  have HNP := Lib.hid hnp
  have HUC : Hid (∀ V Ap cp, RB V V.heap.size Ap p → np ≤ cp → Calls Try.prog 21 #[.slice Ap np cp, .int .i64 (N : Int)] V fun e w' => ∃ v a y, e = .returned (.tuple #[v, .int .i64 a, .int .i64 y]) ∧ UnpQ w' (unpackF [] p (N : Int)) v a y ∧ Below V.heap.size V w') := Lib.hid fun V Ap cp h hc => by
    have := unpack_all V Ap p cp (N : Int) h (by omega) (by omega)
    rwa [hnp] at this
  obtain ⟨nb, hnb⟩ : ∃ n, b.length = n := ⟨_, rfl⟩
  rw [hnb] at hrp htk
  have HNB := Lib.hid hnb
  have HB0 := Lib.hid (Below.refl W.heap.size W)
  clear hp hnb hnp hN hlr hT
  obtain ⟨q, hq⟩ : ∃ q, (N + 130) / 131 = q := ⟨_, rfl⟩
  have hq2 : q ≤ 40 := by omega
  have wd : Int.tdiv ((N : Int) + 130) 131 = (q : Int) := by rw [Int.tdiv_eq_ediv_of_nonneg (by omega)]; omega
  rw [hq] at hrp
  have hnb20 : nb ≤ 20 := by omega
  have u1 : IntKind.i64.wrap ((nb : Int) + 1) = (nb : Int) + 1 := by rw [IntKind.wrap_i64]; omega
  have u2 : IntKind.i64.wrap ((N : Int) + 130) = (N : Int) + 130 := by rw [IntKind.wrap_i64]; omega
  have u3 : IntKind.i64.wrap (3 * (q : Int)) = 3 * (q : Int) := by rw [IntKind.wrap_i64]; omega
  have u4 : IntKind.i64.wrap ((nb : Int) + 1 + 3 * (q : Int)) = (nb : Int) + 1 + 3 * (q : Int) := by rw [IntKind.wrap_i64]; omega
  have u5 : IntKind.i64.wrap ((nb : Int) + 1 + 3 * (q : Int) + 4) = (nb : Int) + 1 + 3 * (q : Int) + 4 := by rw [IntKind.wrap_i64]; omega
  have gfin : (np : Int) ≤ (nb : Int) + 1 + 3 * (q : Int) + 4 := by omega
  have HARI := Lib.hid (And.intro u1 (And.intro u2 (And.intro u3 (And.intro u4 (And.intro u5 (And.intro wd gfin))))))
  have hsl : ∀ V, (Instr.slice 22 (.slice A0 n0 c0) none (some (.int .i64 (nb : Int))) none).run Try.prog V = .ok (.slice A0 nb c0) V := fun V => slice_to bslK.u size8 A0 n0 c0 nb (by omega) V
  have hmin : ((nb : Int) = (n0 : Int) ∧ (n0 : Int) ≤ 20) ∨ ((nb : Int) = 20 ∧ (20 : Int) < (n0 : Int)) := by omega
  have hn20 : (20 : Int) < (n0 : Int) → ¬ (n0 : Int) ≤ 20 := by omega
  clear htk s0 m0 u1 u2 u3 u4 u5 wd gfin hrp hq
  rcases hmin with ⟨hm1, hm2⟩ | ⟨hm1, hm2⟩
  · rw [hm1] at hsl
    clear hm1
    try have hm3 := hn20 hm2
    clear hn20
    go_enter Try.func8, Try.ntmps8
    go_upto_region 2 with fail
    clear hsl hm2
    try clear hm3
    go_wp2
    go_loopw [5, 6] (fun v i wr => ∃ j : Nat, i = .int .i64 (j : Int) ∧ j ≤ T ∧ OB 5 wr W.heap.size v (rpt b j) ∧ Below W.heap.size W wr) (fun _ i _ => T - (intOf i).toNat)
    case atStart => exact ⟨0, rfl, by omega, OB.nil _ _ _, Below.refl _ _⟩
    case round =>
      obtain ⟨j, rfl, hj, ho, hb⟩ := hrel
      obtain ⟨Aa, ca, hv, hra, _, _⟩ := ho.form
      have HO := Lib.hid ho
      have HB := Lib.hid hb
      have HRA := Lib.hid hra
      clear ho hb hra
      by_cases hjT : j < T
      · have g1 : (j : Int) < (T : Int) := by omega
        have x1 : IntKind.i64.wrap ((j : Int) + 1) = (j : Int) + 1 := by rw [IntKind.wrap_i64]; omega
        clear hv
        go_wp2_with (at_builtin; refine wpList_app bslK rfl (.tmp 24) (.tmp 25) rfl W.heap.size _ (rpt b j) ?_ HO.out W.heap.size A0 b c0 ?_ ?_ ?_ ?_ ?_; (focus rfl); (focus (rw [HNB.out]; rfl)); (focus (exact R0.out.below HB.out)); (focus (exact HKL.out j hj)); (focus (exact HB.out.size)); intro v2 W2 ho2 hg2; have HO2 := Lib.hid ho2; have HB2 := Lib.hid (HB.out.trans (hg2.below HB.out.size (fun k hk => (HO.out.lt k hk).1))); clear ho2 hg2)
        go_roundw
        case rel => exact ⟨j + 1, by go_num, by omega, HO2.out, HB2.out⟩
        case measure => simp [intOf] <;> omega
      · have g1 : ¬ (j : Int) < (T : Int) := by omega
        obtain rfl : j = T := by omega
        rw [HN.out] at hv
        subst hv
        obtain ⟨u1, u2, u3, u4, u5, wd, gfin⟩ := HARI.out
        go_wp2_with (first
          | (go_at_call 15; refine (HPK.out _ Aa ca HRA.out).mono ?_; rintro e V1 ⟨v1, rfl, ho1, hb1⟩; obtain ⟨Ap, cp, hv1, hrp, hcp, _⟩ := ho1.form; rw [HNP.out] at hv1 hcp; subst hv1; have HRP := Lib.hid hrp; have HB1 := Lib.hid (HB.out.trans (hb1.mono HB.out.size)); have HRA1 := Lib.hid ((HRA.out.below hb1).more hb1.size); clear ho1 hb1 hrp)
          | (go_at_call 21; refine (HUC.out _ Ap cp HRP.out hcp).mono ?_; rintro e V2 ⟨v2, a2, y2, rfl, hq2, hb2⟩; rw [HUP.out] at hq2; obtain ⟨⟨A2, c2, hv2, hr2, hc2⟩, ha2, hy2⟩ := hq2; subst ha2; subst hy2; rw [HN.out] at hv2 hc2; subst hv2; have HR2 := Lib.hid hr2; have HB2 := Lib.hid (HB1.out.trans (hb2.mono HB1.out.size)); have HRA2 := Lib.hid ((HRA1.out.below hb2).more hb2.size); clear hb2 hr2)
          | (go_at_call 16; refine (known_any _).mono ?_; rintro e V4 ⟨rfl, hb4⟩; have e1 : (convert 22 9 (.slice A2 N c2)).run Try.prog V4 = .ok (.string ⟨(rpt b j).toArray⟩) V4 := (by have := run_str bslK 9 Try.underlying9 (HR2.out.below hb4) c2; rwa [HN.out] at this); have e2 : (convert 22 9 (.slice Aa N ca)).run Try.prog V4 = .ok (.string ⟨(rpt b j).toArray⟩) V4 := (by have := run_str bslK 9 Try.underlying9 (HRA2.out.below hb4) ca; rwa [HN.out] at this); have HB4 := Lib.hid (HB2.out.trans (hb4.mono HB2.out.size)); clear hb4))
        go_ret
        exact ⟨rfl, HB4.out⟩
  · rw [hm1] at hsl
    clear hm1
    try have hm3 := hn20 hm2
    clear hn20
    go_enter Try.func8, Try.ntmps8
    go_upto_region 2 with fail
    clear hsl hm2
    try clear hm3
    go_wp2
    go_loopw [5, 6] (fun v i wr => ∃ j : Nat, i = .int .i64 (j : Int) ∧ j ≤ T ∧ OB 5 wr W.heap.size v (rpt b j) ∧ Below W.heap.size W wr) (fun _ i _ => T - (intOf i).toNat)
    case atStart => exact ⟨0, rfl, by omega, OB.nil _ _ _, Below.refl _ _⟩
    case round =>
      obtain ⟨j, rfl, hj, ho, hb⟩ := hrel
      obtain ⟨Aa, ca, hv, hra, _, _⟩ := ho.form
      have HO := Lib.hid ho
      have HB := Lib.hid hb
      have HRA := Lib.hid hra
      clear ho hb hra
      by_cases hjT : j < T
      · have g1 : (j : Int) < (T : Int) := by omega
        have x1 : IntKind.i64.wrap ((j : Int) + 1) = (j : Int) + 1 := by rw [IntKind.wrap_i64]; omega
        clear hv
        go_wp2_with (at_builtin; refine wpList_app bslK rfl (.tmp 24) (.tmp 25) rfl W.heap.size _ (rpt b j) ?_ HO.out W.heap.size A0 b c0 ?_ ?_ ?_ ?_ ?_; (focus rfl); (focus (rw [HNB.out]; rfl)); (focus (exact R0.out.below HB.out)); (focus (exact HKL.out j hj)); (focus (exact HB.out.size)); intro v2 W2 ho2 hg2; have HO2 := Lib.hid ho2; have HB2 := Lib.hid (HB.out.trans (hg2.below HB.out.size (fun k hk => (HO.out.lt k hk).1))); clear ho2 hg2)
        go_roundw
        case rel => exact ⟨j + 1, by go_num, by omega, HO2.out, HB2.out⟩
        case measure => simp [intOf] <;> omega
      · have g1 : ¬ (j : Int) < (T : Int) := by omega
        obtain rfl : j = T := by omega
        rw [HN.out] at hv
        subst hv
        obtain ⟨u1, u2, u3, u4, u5, wd, gfin⟩ := HARI.out
        go_wp2_with (first
          | (go_at_call 15; refine (HPK.out _ Aa ca HRA.out).mono ?_; rintro e V1 ⟨v1, rfl, ho1, hb1⟩; obtain ⟨Ap, cp, hv1, hrp, hcp, _⟩ := ho1.form; rw [HNP.out] at hv1 hcp; subst hv1; have HRP := Lib.hid hrp; have HB1 := Lib.hid (HB.out.trans (hb1.mono HB.out.size)); have HRA1 := Lib.hid ((HRA.out.below hb1).more hb1.size); clear ho1 hb1 hrp)
          | (go_at_call 21; refine (HUC.out _ Ap cp HRP.out hcp).mono ?_; rintro e V2 ⟨v2, a2, y2, rfl, hq2, hb2⟩; rw [HUP.out] at hq2; obtain ⟨⟨A2, c2, hv2, hr2, hc2⟩, ha2, hy2⟩ := hq2; subst ha2; subst hy2; rw [HN.out] at hv2 hc2; subst hv2; have HR2 := Lib.hid hr2; have HB2 := Lib.hid (HB1.out.trans (hb2.mono HB1.out.size)); have HRA2 := Lib.hid ((HRA1.out.below hb2).more hb2.size); clear hb2 hr2)
          | (go_at_call 16; refine (known_any _).mono ?_; rintro e V4 ⟨rfl, hb4⟩; have e1 : (convert 22 9 (.slice A2 N c2)).run Try.prog V4 = .ok (.string ⟨(rpt b j).toArray⟩) V4 := (by have := run_str bslK 9 Try.underlying9 (HR2.out.below hb4) c2; rwa [HN.out] at this); have e2 : (convert 22 9 (.slice Aa N ca)).run Try.prog V4 = .ok (.string ⟨(rpt b j).toArray⟩) V4 := (by have := run_str bslK 9 Try.underlying9 (HRA2.out.below hb4) ca; rwa [HN.out] at this); have HB4 := Lib.hid (HB2.out.trans (hb4.mono HB2.out.size)); clear hb4))
        go_ret
        exact ⟨rfl, HB4.out⟩
end Go.Proofs.Ytocohoojnjdkiaa
