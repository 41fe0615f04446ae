/- pack: the walk of PackUnpacks. -/
import Derived.Test.YtocohoojnjdkiaaKBackW
import Derived.Test.YtocohoojnjdkiaaKRUnp
import Derived.Test.YtocohoojnjdkiaaRow
set_option linter.unusedVariables false
namespace Go.Proofs.Ytocohoojnjdkiaa
open Go.RowKit

/-- The bytes, the offset and the error of an answer. -/
def strF : Except (Nat × Nat) (List UInt8) → List UInt8
  | .ok l => l
  | .error _ => []
def offF : Except (Nat × Nat) (List UInt8) → Int
  | .ok _ => 0
  | .error (x, _) => (x : Int)
def errF : Except (Nat × Nat) (List UInt8) → Int
  | .ok _ => 0
  | .error (_, k) => (k : Int)
theorem unpQ_form {W : World} {R : Except (Nat × Nat) (List UInt8)} {v : Value} {a y : Int} (h : UnpQ W R v a y) : a = offF R ∧ y = errF R ∧ ∃ A c, v = .slice A (strF R).length c ∧ RB W W.heap.size A (strF R) := by
  unfold UnpQ at h
  cases R with
  | ok l =>
    obtain ⟨⟨A, c, hv, hr, _⟩, ha, hy⟩ := h
    exact ⟨ha, hy, A, c, hv, hr⟩
  | error z =>
    obtain ⟨x, k⟩ := z
    obtain ⟨hv, ha, hy⟩ := h
    exact ⟨ha, hy, none, 0, hv, RB.nil⟩
set_option maxHeartbeats 4000000 in
set_option maxRecDepth 100000 in
theorem packUnpacks_walk (A0 : Option Addr) (l0 : List UInt8) (c0 : Nat) (A1 : Option Addr) (l1 : List UInt8) (c1 : Nat) (most : Int) (W : World) (r0 : RB W W.heap.size A0 l0) (s0 : l0.length ≤ c0) (m0 : c0 ≤ maxLen) (r1 : RB W W.heap.size A1 l1) (s1 : l1.length ≤ c1) (m1 : c1 ≤ maxLen) (w2 : (Lit.int .i64 most).wf = true) :
    Calls Try.prog 5 #[.slice A0 l0.length c0, .slice A1 l1.length c1, .int .i64 most] W fun e W' => e = .returned (.bool true) ∧ Below W.heap.size W W' := by
  clear w2
  have C0 := Lib.hid (fun V : World => cut_any A0 l0.length c0 V s0 (rb_A r0))
  have C1 := Lib.hid (fun V : World => cut_any A1 l1.length c1 V s1 (rb_A r1))
  rw [← take_len] at C0 C1
  have R0 := Lib.hid (r0.take 400)
  have R1 := Lib.hid (r1.take 400)
  have hk0 : (l0.take 400).length ≤ 400 := by rw [take_len]; omega
  have hk1 : (l1.take 400).length ≤ 400 := by rw [take_len]; omega
  have hs0 : (l0.take 400).length ≤ c0 := by rw [take_len]; omega
  have hs1 : (l1.take 400).length ≤ c1 := by rw [take_len]; omega
  obtain ⟨n0, hn0⟩ : ∃ n, l0.length = n := ⟨_, rfl⟩
  obtain ⟨n1, hn1⟩ : ∃ n, l1.length = n := ⟨_, rfl⟩
  rw [hn0] at C0 ⊢
  rw [hn1] at C1 ⊢
  obtain ⟨d, hd⟩ : ∃ d, l0.take 400 = d := ⟨_, rfl⟩
  obtain ⟨p, hp⟩ : ∃ p, l1.take 400 = p := ⟨_, rfl⟩
  rw [hd] at C0 R0 hk0 hs0
  rw [hp] at C1 R1 hk1 hs1
  clear r0 r1 s0 s1 hn0 hn1 hd hp
  have HU1 : Hid (∀ V, Below W.heap.size W V → Calls Try.prog 19 #[.slice A0 d.length c0, .slice A1 p.length c1, .int .i64 most] V fun e w' => ∃ v a y, e = .returned (.tuple #[v, .int .i64 a, .int .i64 y]) ∧ UnpQ w' (unpackF d p most) v a y ∧ Below V.heap.size V w') := Lib.hid fun V h =>
    unpackWith_all V A0 d c0 A1 p c1 most ((R0.out.below h).more h.size) ((R1.out.below h).more h.size) (by omega) hs0 hs1 (by omega)
  have HR1 : Hid (∀ V, Below W.heap.size W V → Calls Try.prog 20 #[.slice A0 d.length c0, .slice A1 p.length c1, .int .i64 most] V fun e w' => ∃ v a y, e = .returned (.tuple #[v, .int .i64 a, .int .i64 y]) ∧ UnpQ w' (unpackF d p most) v a y ∧ Below V.heap.size V w') := Lib.hid fun V h =>
    runpack_all V A0 d c0 A1 p c1 most ((R0.out.below h).more h.size) ((R1.out.below h).more h.size) (by omega) hs0 hs1 (by omega)
  have HU2 : Hid (∀ V, Below W.heap.size W V → Calls Try.prog 21 #[.slice A1 p.length c1, .int .i64 most] V fun e w' => ∃ v a y, e = .returned (.tuple #[v, .int .i64 a, .int .i64 y]) ∧ UnpQ w' (unpackF [] p most) v a y ∧ Below V.heap.size V w') := Lib.hid fun V h =>
    unpack_all V A1 p c1 most ((R1.out.below h).more h.size) hs1 (by omega)
  have HR2 : Hid (∀ V, Below W.heap.size W V → Calls Try.prog 20 #[.slice none 0 0, .slice A1 p.length c1, .int .i64 most] V fun e w' => ∃ v a y, e = .returned (.tuple #[v, .int .i64 a, .int .i64 y]) ∧ UnpQ w' (unpackF [] p most) v a y ∧ Below V.heap.size V w') := Lib.hid fun V h =>
    runpack_all V none [] 0 A1 p c1 most RB.nil ((R1.out.below h).more h.size) (by simp) (by simp) hs1 (by omega)
  obtain ⟨nd, hnd⟩ : ∃ n, d.length = n := ⟨_, rfl⟩
  obtain ⟨np, hnp⟩ : ∃ n, p.length = n := ⟨_, rfl⟩
  rw [hnd] at C0 HU1 HR1
  rw [hnp] at C1 HU1 HR1 HU2 HR2
  obtain ⟨Ra, hRa⟩ : ∃ R, unpackF d p most = R := ⟨_, rfl⟩
  obtain ⟨Rb, hRb⟩ : ∃ R, unpackF [] p most = R := ⟨_, rfl⟩
  rw [hRa] at HU1 HR1
  rw [hRb] at HU2 HR2
  clear hnd hnp hRa hRb hk0 hk1 hs0 hs1 m0 m1
  have HB0 := Lib.hid (Below.refl W.heap.size W)
  obtain ⟨sa, hsa⟩ : ∃ s, strF Ra = s := ⟨_, rfl⟩
  obtain ⟨sb, hsb⟩ : ∃ s, strF Rb = s := ⟨_, rfl⟩
  obtain ⟨na, hna⟩ : ∃ s, sa.length = s := ⟨_, rfl⟩
  obtain ⟨nb, hnb⟩ : ∃ s, sb.length = s := ⟨_, rfl⟩
  obtain ⟨xa, hxa⟩ : ∃ s, offF Ra = s := ⟨_, rfl⟩
  obtain ⟨xb, hxb⟩ : ∃ s, offF Rb = s := ⟨_, rfl⟩
  obtain ⟨ya, hya⟩ : ∃ s, errF Ra = s := ⟨_, rfl⟩
  obtain ⟨yb, hyb⟩ : ∃ s, errF Rb = s := ⟨_, rfl⟩
  have HSA := Lib.hid hsa
  have HSB := Lib.hid hsb
  have HNA := Lib.hid hna
  have HNB := Lib.hid hnb
  have HXA := Lib.hid hxa
  have HXB := Lib.hid hxb
  have HYA := Lib.hid hya
  have HYB := Lib.hid hyb
  clear hsa hsb hna hnb hxa hxb hya hyb
  go_enter Try.func5, Try.ntmps5
  go_upto_region 2 with (first | (go_at_call_of 13 (Value.slice A0 n0 c0); refine (C0.out _).mono ?_; rintro e V ⟨rfl, hv⟩; subst V) | (go_at_call_of 13 (Value.slice A1 n1 c1); refine (C1.out _).mono ?_; rintro e V ⟨rfl, hv⟩; subst V))
  go_upto_region 3 with (go_at_call 19; refine (HU1.out _ HB0.out).mono ?_; rintro e V1 ⟨v1, a1, y1, rfl, hq1, hb1⟩; obtain ⟨ha1, hy1, Aa, ca, hv1, hr1⟩ := unpQ_form hq1; rw [HXA.out] at ha1; rw [HYA.out] at hy1; rw [HSA.out] at hv1 hr1; rw [HNA.out] at hv1; subst ha1; subst hy1; subst hv1; have HRa := Lib.hid hr1; have HB1 := Lib.hid hb1; clear hq1 hb1 hr1)
  go_upto_region 4 with (go_at_call 20; refine (HR1.out _ HB1.out).mono ?_; rintro e V2 ⟨v2, a2, y2, rfl, hq2, hb2⟩; obtain ⟨ha2, hy2, Ab, cb, hv2, hr2⟩ := unpQ_form hq2; rw [HXA.out] at ha2; rw [HYA.out] at hy2; rw [HSA.out] at hv2 hr2; rw [HNA.out] at hv2; subst ha2; subst hy2; subst hv2; have HRa2 := Lib.hid ((HRa.out.below hb2).more hb2.size); have HRb2 := Lib.hid hr2; have HB2 := Lib.hid (HB1.out.trans (hb2.mono HB1.out.size)); clear hq2 hb2 hr2)
  go_upto_region 5 with (go_at_call 21; refine (HU2.out _ HB2.out).mono ?_; rintro e V3 ⟨v3, a3, y3, rfl, hq3, hb3⟩; obtain ⟨ha3, hy3, Ac, cc, hv3, hr3⟩ := unpQ_form hq3; rw [HXB.out] at ha3; rw [HYB.out] at hy3; rw [HSB.out] at hv3 hr3; rw [HNB.out] at hv3; subst ha3; subst hy3; subst hv3; have HRa3 := Lib.hid ((HRa2.out.below hb3).more hb3.size); have HRb3 := Lib.hid ((HRb2.out.below hb3).more hb3.size); have HRc3 := Lib.hid hr3; have HB3 := Lib.hid (HB2.out.trans (hb3.mono HB2.out.size)); clear hq3 hb3 hr3)
  go_upto_region 6 with (go_at_call 20; refine (HR2.out _ HB3.out).mono ?_; rintro e V4 ⟨v4, a4, y4, rfl, hq4, hb4⟩; obtain ⟨ha4, hy4, Ad, cd, hv4, hr4⟩ := unpQ_form hq4; rw [HXB.out] at ha4; rw [HYB.out] at hy4; rw [HSB.out] at hv4 hr4; rw [HNB.out] at hv4; subst ha4; subst hy4; subst hv4; have HRa4 := Lib.hid ((HRa3.out.below hb4).more hb4.size); have HRb4 := Lib.hid ((HRb3.out.below hb4).more hb4.size); have HRc4 := Lib.hid ((HRc3.out.below hb4).more hb4.size); have HRd4 := Lib.hid hr4; have HB4 := Lib.hid (HB3.out.trans (hb4.mono HB3.out.size)); clear hq4 hb4 hr4)
  go_wp2_with (go_at_call 16; refine (known_any _).mono ?_; rintro e V5 ⟨rfl, hb5⟩; have e1 : (convert 22 9 (.slice Aa na ca)).run Try.prog V5 = .ok (.string ⟨sa.toArray⟩) V5 := (by have := run_str bslK 9 Try.underlying9 (HRa4.out.below hb5) ca; rwa [HNA.out] at this); have e2 : (convert 22 9 (.slice Ab na cb)).run Try.prog V5 = .ok (.string ⟨sa.toArray⟩) V5 := (by have := run_str bslK 9 Try.underlying9 (HRb4.out.below hb5) cb; rwa [HNA.out] at this); have e3 : (convert 22 9 (.slice Ac nb cc)).run Try.prog V5 = .ok (.string ⟨sb.toArray⟩) V5 := (by have := run_str bslK 9 Try.underlying9 (HRc4.out.below hb5) cc; rwa [HNB.out] at this); have e4 : (convert 22 9 (.slice Ad nb cd)).run Try.prog V5 = .ok (.string ⟨sb.toArray⟩) V5 := (by have := run_str bslK 9 Try.underlying9 (HRd4.out.below hb5) cd; rwa [HNB.out] at this); have HB5 := Lib.hid (HB4.out.trans (hb5.mono HB4.out.size)); clear hb5)
  go_ret
  exact ⟨rfl, HB5.out⟩
end Go.Proofs.Ytocohoojnjdkiaa
