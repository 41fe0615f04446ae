/- pack: the walk of PackBack. -/
import Derived.Test.YtocohoojnjdkiaaKKnown
import Derived.Test.YtocohoojnjdkiaaKCut
import Derived.Deep.RegionWith
set_option linter.unusedVariables false
namespace Go.Proofs.Ytocohoojnjdkiaa
open Go.RowKit

theorem rb_A {w : World} {B : Nat} {A : Option Addr} {l : List UInt8} (h : RB w B A l) : 0 < l.length → ∃ b off, A = some ⟨b, off, none⟩ := fun hn => by
  obtain ⟨b, off, e, _⟩ := h hn
  exact ⟨b, off, e⟩
theorem take_len (l : List UInt8) : (l.take 400).length = min l.length 400 := by simp; omega
set_option maxHeartbeats 4000000 in
set_option maxRecDepth 100000 in
theorem packBack_walk (A0 : Option Addr) (l0 : List UInt8) (c0 : Nat) (A1 : Option Addr) (l1 : List UInt8) (c1 : Nat) (W : World) (r0 : RB W W.heap.size A0 l0) (s0 : l0.length ≤ c0) (m0 : c0 ≤ maxLen) (r1 : RB W W.heap.size A1 l1) (s1 : l1.length ≤ c1) (m1 : c1 ≤ maxLen) :
    Calls Try.prog 4 #[.slice A0 l0.length c0, .slice A1 l1.length c1] W fun e W' => e = .returned (.bool true) ∧ Below W.heap.size W W' := by
  have C0 := Lib.hid (fun V : World => cut_any A0 l0.length c0 V s0 (rb_A r0))
  have C1 := Lib.hid (fun V : World => cut_any A1 l1.length c1 V s1 (rb_A r1))
  rw [← take_len] at C0 C1
  have R0 := Lib.hid (r0.take 400)
  have R1 := Lib.hid (r1.take 400)
  have hk0 : (l0.take 400).length ≤ 400 := by rw [take_len]; omega
  have hk1 : (l1.take 400).length ≤ 400 := by rw [take_len]; omega
  have hs0 : (l0.take 400).length ≤ c0 := by rw [take_len]; omega
  have hs1 : (l1.take 400).length ≤ c1 := by rw [take_len]; omega
  obtain ⟨n0, hn0⟩ : ∃ n, l0.length = n := ⟨_, rfl⟩
  obtain ⟨n1, hn1⟩ : ∃ n, l1.length = n := ⟨_, rfl⟩
  rw [hn0] at C0 ⊢
  rw [hn1] at C1 ⊢
  obtain ⟨d, hd⟩ : ∃ d, l0.take 400 = d := ⟨_, rfl⟩
  obtain ⟨b, hb⟩ : ∃ b, l1.take 400 = b := ⟨_, rfl⟩
  rw [hd] at C0 R0 hk0 hs0
  rw [hb] at C1 R1 hk1 hs1
  clear r0 r1 s0 s1 hn0 hn1 hd hb
  have hpl := pack_len d b (by omega)
  have hup := unpack_pack (dict := d) (b := b) (by omega) (Nat.le_refl _) (by omega)
  have HSH : Hid (b.length ≠ 0 → ∃ x, unpackF d (packF d b) ((b.length - 1 : Nat) : Int) = .error (x, 5)) := Lib.hid fun h => unpack_short (by omega) (by omega) (by omega)
  have hpn : b.length = 0 → (packF d b).length = 0 := fun h => by rw [List.eq_nil_of_length_eq_zero h, pack_nil]; rfl
  obtain ⟨p, hp⟩ : ∃ p, packF d b = p := ⟨_, rfl⟩
  have HP : Hid (∀ V, Below W.heap.size W V → Calls Try.prog 14 #[.slice A0 d.length c0, .slice A1 b.length c1] V fun e w' => ∃ v, e = .returned (.tuple #[v, .int .i64 0]) ∧ OB 5 w' V.heap.size v p ∧ Below V.heap.size V w') := Lib.hid fun V h => by
    rw [← hp]; exact packWith_any V A0 d c0 A1 b c1 ((R0.out.below h).more h.size) ((R1.out.below h).more h.size) (by omega) hs0 (by omega)
  rw [hp] at hpl hup HSH hpn
  have HU : Hid (∀ V Ap cp (most : Int), Below W.heap.size W V → RB V V.heap.size Ap p → p.length ≤ cp → Calls Try.prog 19 #[.slice A0 d.length c0, .slice Ap p.length cp, .int .i64 most] V fun e w' => ∃ v a y, e = .returned (.tuple #[v, .int .i64 a, .int .i64 y]) ∧ UnpQ w' (unpackF d p most) v a y ∧ Below V.heap.size V w') := Lib.hid fun V Ap cp most h hr hc =>
    unpackWith_all V A0 d c0 Ap p cp most ((R0.out.below h).more h.size) hr (by omega) hs0 hc (by omega)
  have HUP := Lib.hid hup
  have HPN := Lib.hid hpn
  clear hup hp hpn
  obtain ⟨nd, hnd⟩ : ∃ n, d.length = n := ⟨_, rfl⟩
  obtain ⟨nb, hnb⟩ : ∃ n, b.length = n := ⟨_, rfl⟩
  obtain ⟨np, hnp⟩ : ∃ n, p.length = n := ⟨_, rfl⟩
  rw [hnd] at C0 HP HU hk0 hs0
  rw [hnb] at C1 HP hk1 hs1 HUP HSH HPN
  rw [hnp] at HU hpl HPN
  have HNB := Lib.hid hnb
  have HNP := Lib.hid hnp
  clear hnd hnb hnp
  have hb0 : Below W.heap.size W W := Below.refl _ _
  have HB0 := Lib.hid hb0
  clear hb0
  have w1 : 1 ≤ nb → IntKind.i64.wrap ((nb : Int) - 1) = ((nb - 1 : Nat) : Int) := fun h => by rw [IntKind.wrap_i64]; omega
  go_enter Try.func4, Try.ntmps4
  go_upto_region 2 with (first | (go_at_call_of 13 (Value.slice A0 n0 c0); refine (C0.out _).mono ?_; rintro e V ⟨rfl, hv⟩; subst V) | (go_at_call_of 13 (Value.slice A1 n1 c1); refine (C1.out _).mono ?_; rintro e V ⟨rfl, hv⟩; subst V))
  go_upto_region 3 with (go_at_call 14; refine (HP.out _ HB0.out).mono ?_; rintro e V1 ⟨v1, rfl, ho1, hb1⟩; obtain ⟨Ap, cp, hv1, hrp, hcp, _⟩ := ho1.form; rw [HNP.out] at hv1 hcp; subst hv1; have HRP := Lib.hid hrp; have HB1 := Lib.hid hb1; clear ho1 hb1 hrp)
  go_upto_region 4 with (go_at_call 19; refine (HU.out _ Ap cp (nb : Int) HB1.out HRP.out hcp).mono ?_; rintro e V2 ⟨v2, a2, y2, rfl, hq2, hb2⟩; rw [HUP.out] at hq2; obtain ⟨⟨A2, c2, hv2, hr2, hc2⟩, ha2, hy2⟩ := hq2; subst ha2; subst hy2; rw [HNB.out] at hv2 hc2; subst hv2; have HR2 := Lib.hid hr2; have HB2 := Lib.hid (HB1.out.trans (hb2.mono HB1.out.size)); have HRP2 := Lib.hid ((HRP.out.below hb2).more hb2.size); clear hb2 hr2)
  by_cases hnb0 : nb = 0
  · have hnp0 := HPN.out hnb0
    subst hnb0
    subst hnp0
    go_wp2_with (go_at_call 16; refine (known_any _).mono ?_; rintro e V4 ⟨rfl, hb4⟩; have e1 : (convert 22 9 (.slice A2 0 c2)).run Try.prog V4 = .ok (.string ⟨b.toArray⟩) V4 := (by have := run_str bslK 9 Try.underlying9 (HR2.out.below hb4) c2; rwa [HNB.out] at this); have e2 : (convert 22 9 (.slice A1 0 c1)).run Try.prog V4 = .ok (.string ⟨b.toArray⟩) V4 := (by have := run_str bslK 9 Try.underlying9 ((R1.out.below HB2.out).below (hb4.mono HB2.out.size)) c1; rwa [HNB.out] at this); have HB4 := Lib.hid (HB2.out.trans (hb4.mono HB2.out.size)); clear hb4)
    go_ret
    exact ⟨rfl, HB4.out⟩
  · obtain ⟨x, hx⟩ := HSH.out hnb0
    have HX := Lib.hid hx
    have w2 := w1 (by omega)
    have hnz : ¬ (nb : Int) = 0 := by omega
    clear hx w1
    go_wp2_with (first
      | (go_at_call 16; refine (known_any _).mono ?_; rintro e V4 ⟨rfl, hb4⟩; have e1 : (convert 22 9 (.slice A2 nb c2)).run Try.prog V4 = .ok (.string ⟨b.toArray⟩) V4 := (by have := run_str bslK 9 Try.underlying9 (HR2.out.below hb4) c2; rwa [HNB.out] at this); have e2 : (convert 22 9 (.slice A1 nb c1)).run Try.prog V4 = .ok (.string ⟨b.toArray⟩) V4 := (by have := run_str bslK 9 Try.underlying9 ((R1.out.below HB2.out).below (hb4.mono HB2.out.size)) c1; rwa [HNB.out] at this); have HB4 := Lib.hid (HB2.out.trans (hb4.mono HB2.out.size)); have HRP4 := Lib.hid ((HRP2.out.below hb4).more hb4.size); clear hb4)
      | (go_at_call 19; refine (HU.out _ Ap cp _ HB4.out HRP4.out hcp).mono ?_; rintro e V5 ⟨v5, a5, y5, rfl, hq5, hb5⟩; rw [HX.out] at hq5; obtain ⟨hv5, ha5, hy5⟩ := hq5; subst hv5; subst ha5; subst hy5; have HB5 := Lib.hid (HB4.out.trans (hb5.mono HB4.out.size)); clear hb5))
    go_ret
    exact ⟨rfl, HB5.out⟩
end Go.Proofs.Ytocohoojnjdkiaa
