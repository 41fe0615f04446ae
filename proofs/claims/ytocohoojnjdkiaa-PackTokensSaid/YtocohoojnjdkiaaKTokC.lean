/- pack: bytes.Equal, Canonical. -/
import Derived.Test.YtocohoojnjdkiaaKToks
import Derived.Test.YtocohoojnjdkiaaKUnpW
import Derived.Test.YtocohoojnjdkiaaKFormW
set_option linter.unusedVariables false
namespace Go.Proofs.Ytocohoojnjdkiaa
open Go.RowKit

theorem unpL_fact (begin most : Nat) (p : List UInt8) : ∀ (k at_ : Nat) (text : List UInt8), text.length ≤ begin + most →
    (∀ l, unpL begin most p k at_ text = .ok l → l.length ≤ most) ∧ (∀ x e, unpL begin most p k at_ text = .error (x, e) → e ≠ 0) := by
  intro k
  induction k with
  | zero =>
    intro at_ text h
    refine ⟨fun l hl => ?_, fun x e he => (by cases he)⟩
    injection hl with hl; subst hl
    rw [List.length_drop]; omega
  | succ k ih =>
    intro at_ text h
    unfold unpL
    by_cases h1 : p.length ≤ at_
    · rw [if_pos h1]
      refine ⟨fun l hl => ?_, fun x e he => (by cases he)⟩
      injection hl with hl; subst hl
      rw [List.length_drop]; omega
    · rw [if_neg h1]
      cases ht : tok1 (p.drop at_) with
      | error e0 =>
        have := tok1_err ht
        refine ⟨fun l hl => (by cases hl), fun x e he => ?_⟩
        injection he with he; injection he with _ he; omega
      | ok z =>
        obtain ⟨t, n⟩ := z
        by_cases hc : t.chk text.length (begin + most) = 0
        · simp only [hc, if_true]
          refine ih _ _ ?_
          rw [app_len]
          unfold Tok.chk at hc
          split at hc
          · omega
          · split at hc
            · omega
            · omega
        · simp only [hc, if_false]
          refine ⟨fun l hl => (by cases hl), fun x e he => ?_⟩
          injection he with he; injection he with _ he; rw [← he]; exact hc
theorem unpackF_fact (p : List UInt8) (most : Nat) (hm : most ≤ 1048576) : (∀ l, unpackF [] p most = .ok l → l.length ≤ most) ∧ (∀ x e, unpackF [] p most = .error (x, e) → e ≠ 0) := by
  unfold unpackF
  rw [if_neg (by omega), if_neg (by simp)]
  unfold unp
  rw [Int.toNat_natCast]
  exact unpL_fact _ _ _ _ _ _ (by omega)
set_option maxHeartbeats 1000000 in
set_option maxRecDepth 100000 in
theorem equal_any (w : World) (A : Option Addr) (l : List UInt8) (c : Nat) (A' : Option Addr) (m : List UInt8) (c' : Nat) (hr : RB w w.heap.size A l) (hr' : RB w w.heap.size A' m) (s t : ByteArray) (hs : ⟨l.toArray⟩ = s) (ht : ⟨m.toArray⟩ = t) :
    Calls Try.prog 42 #[.slice A l.length c, .slice A' m.length c'] w fun e w' => e = .returned (.bool (s.toList == t.toList)) ∧ w' = w := by
  have e1 : (convert 22 9 (.slice A l.length c)).run Try.prog w = .ok (.string s) w := by
    have h2 := run_str bslK 9 Try.underlying9 hr c
    rwa [hs] at h2
  have e2 : (convert 22 9 (.slice A' m.length c')).run Try.prog w = .ok (.string t) w := by
    have h2 := run_str bslK 9 Try.underlying9 hr' c'
    rwa [ht] at h2
  clear hs ht hr hr'
  go_enter Try.func42, Try.ntmps42
  go_wp2
  go_ret
  exact ⟨rfl, rfl⟩
/-- Whether bytes are what packing gives. -/
def canR (p : List UInt8) : Except (Nat × Nat) (List UInt8) → Bool
  | .error _ => false
  | .ok l => (⟨(packF [] l).toArray⟩ : ByteArray).toList == (⟨p.toArray⟩ : ByteArray).toList
def canB (p : List UInt8) : Bool := canR p (unpackF [] p 1048576)
set_option maxHeartbeats 4000000 in
set_option maxRecDepth 100000 in
theorem packcan_any (w : World) (A : Option Addr) (p : List UInt8) (c : Nat) (hr : RB w w.heap.size A p) (hc : p.length ≤ c) (hl : p.length ≤ 3000000) :
    Calls Try.prog 24 #[.slice A p.length c] w fun e w' => e = .returned (.bool (canB p)) ∧ Below w.heap.size w w' := by
  obtain ⟨K, hK⟩ : ∃ K : Nat, K = 1048576 := ⟨_, rfl⟩
  have hKi : (1048576 : Int) = (K : Int) := by omega
  have hfa := unpackF_fact p K (by omega)
  obtain ⟨R, hR⟩ : ∃ R, unpackF [] p (1048576 : Int) = R := ⟨_, rfl⟩
  rw [← hKi, hR] at hfa
  have hcb : canB p = canR p R := by unfold canB; rw [hR]
  have HU : Hid (Calls Try.prog 21 #[.slice A p.length c, .int .i64 1048576] w fun e w' => ∃ v a y, e = .returned (.tuple #[v, .int .i64 a, .int .i64 y]) ∧ UnpQ w' R v a y ∧ Below w.heap.size w w') := Lib.hid (by
    rw [← hR]; exact unpack_all w A p c 1048576 hr hc hl)
  rw [hcb]
  clear hcb hR hKi
  have HR := Lib.hid hr
  obtain ⟨n, hn⟩ : ∃ n, p.length = n := ⟨_, rfl⟩
  have Hn := Lib.hid hn
  rw [hn] at HU hc hl ⊢
  clear hn hr
  cases R with
  | error z =>
    obtain ⟨x, k⟩ := z
    have hk := hfa.2 x k rfl
    have hk1 : ¬ (k : Int) = 0 := by omega
    have HPN : Hid (∀ V, Calls Try.prog 15 #[.slice none 0 0] V fun e w' => ∃ v, e = .returned (.tuple #[v, .int .i64 0]) ∧ OB 5 w' V.heap.size v (packF [] []) ∧ Below V.heap.size V w') := Lib.hid fun V => pack_all V none [] 0 RB.nil (by simp)
    clear hfa hK
    go_enter Try.func24, Try.ntmps24
    go_wp2_with (first
      | (go_at_call 21; refine HU.out.mono ?_; rintro e V1 ⟨v, a, y, rfl, hq, hb1⟩; obtain ⟨hv, ha, hy⟩ := hq; subst hv; subst ha; subst hy; have HB1 := Lib.hid hb1; clear hb1)
      | (go_at_call 15; refine (HPN.out _).mono ?_; rintro e V2 ⟨v2, rfl, ho2, hb2⟩; have HB2 := Lib.hid (HB1.out.trans (hb2.mono HB1.out.size)); clear hb2 ho2))
    go_ret
    exact ⟨rfl, HB2.out⟩
  | ok l =>
    have hll := hfa.1 l rfl
    have HPN : Hid (∀ V A' c', RB V V.heap.size A' l → Calls Try.prog 15 #[.slice A' l.length c'] V fun e w' => ∃ v, e = .returned (.tuple #[v, .int .i64 0]) ∧ OB 5 w' V.heap.size v (packF [] l) ∧ Below V.heap.size V w') := Lib.hid fun V A' c' h => pack_all V A' l c' h (by omega)
    obtain ⟨s1, hs1⟩ : ∃ s : ByteArray, ⟨(packF [] l).toArray⟩ = s := ⟨_, rfl⟩
    obtain ⟨s2, hs2⟩ : ∃ s : ByteArray, ⟨p.toArray⟩ = s := ⟨_, rfl⟩
    show Calls _ _ _ _ fun e w' => e = .returned (.bool ((⟨(packF [] l).toArray⟩ : ByteArray).toList == (⟨p.toArray⟩ : ByteArray).toList)) ∧ Below w.heap.size w w'
    rw [hs1, hs2]
    obtain ⟨pl, hpl⟩ : ∃ q, packF [] l = q := ⟨_, rfl⟩
    rw [hpl] at HPN hs1
    have HEQ : Hid (∀ V A1 c1, RB V V.heap.size A1 pl → RB V V.heap.size A p → Calls Try.prog 42 #[.slice A1 pl.length c1, .slice A n c] V fun e w' => e = .returned (.bool (s1.toList == s2.toList)) ∧ w' = V) := Lib.hid fun V A1 c1 h h' => by
      rw [← Hn.out]; exact equal_any V A1 pl c1 A p c h h' s1 s2 hs1 hs2
    clear hpl hs1 hs2 hfa hK
    go_enter Try.func24, Try.ntmps24
    go_wp2_with (first
      | (go_at_call 21; refine HU.out.mono ?_; rintro e V1 ⟨v, a, y, rfl, hq, hb1⟩; obtain ⟨⟨A1, c1, hv, hr1, _⟩, ha, hy⟩ := hq; subst hv; subst ha; subst hy; have HB1 := Lib.hid hb1; have HR1 := Lib.hid hr1; clear hb1 hr1)
      | (go_at_call 15; refine (HPN.out _ _ _ HR1.out).mono ?_; rintro e V2 ⟨v2, rfl, ho2, hb2⟩; obtain ⟨A2, c2, hv2, hr2, _, _⟩ := ho2.form; subst hv2; have HR2 := Lib.hid hr2; have HB2 := Lib.hid (HB1.out.trans (hb2.mono HB1.out.size)); clear hb2 ho2 hr2)
      | (go_at_call 42; refine (HEQ.out _ _ _ HR2.out ((HR.out.below HB2.out).more HB2.out.size)).mono ?_; rintro e V3 ⟨rfl, hv3⟩; subst V3))
    go_ret
    exact ⟨rfl, HB2.out⟩
end Go.Proofs.Ytocohoojnjdkiaa
