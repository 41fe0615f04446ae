/- pack: the walk of PackForms. -/
import Derived.Test.YtocohoojnjdkiaaKBackW
import Derived.Test.YtocohoojnjdkiaaKRByt
import Derived.Test.YtocohoojnjdkiaaRow
import Derived.Deep.RegionHeld3
set_option linter.unusedVariables false
namespace Go.Proofs.Ytocohoojnjdkiaa
open Go.RowKit

theorem fits_ok : ∀ (l : List Tok) (text : List UInt8), Fits text l → ∀ t ∈ l, Tok.ok t := by
  intro l
  induction l with
  | nil => intro _ _ t ht; cases ht
  | cons a r ih =>
    intro text h t ht
    obtain ⟨_, h2, h3⟩ := h
    rcases List.mem_cons.1 ht with rfl | h4
    · exact h2
    · exact ih _ h3 t h4
theorem len_encs (l : List Tok) : l.length ≤ (encs l).length := by
  induction l with
  | nil => simp
  | cons a r ih =>
    rw [encs_cons, List.length_append, List.length_cons]
    have : 1 ≤ a.enc.length := by cases a <;> simp [Tok.enc]
    omega
theorem packF_small {d b : List UInt8} (h : d.length ≤ 4096) : packF d b = encs (cn (d ++ b) d.length []) := by unfold packF; rw [reachF_small h]
/-- What the reference's Canonical answers, read by Bytes. -/
def CanQ (W : World) (base : Nat) (d b : List UInt8) (v : Value) : Prop :=
  ∃ A c q, v = .slice A q.length c ∧ RQ encT 3 W W.heap.size A q ∧ q.map (·.1) = cn (d ++ b) d.length [] ∧ ∀ x ∈ q, RB W W.heap.size x.2.1 x.1.lits
theorem rcan_q (w : World) (D : Option Addr) (dict : List UInt8) (dc : Nat) (A : Option Addr) (b : List UInt8) (c : Nat) (hd : RB w w.heap.size D dict) (hr : RB w w.heap.size A b) (hl : dict.length + b.length ≤ 100000) :
    Calls Try.prog 18 #[.slice D dict.length dc, .slice A b.length c] w fun e w' => ∃ A' n' c', e = .returned (.slice A' n' c') ∧ CanQ w' w.heap.size dict b (.slice A' n' c') ∧ Below w.heap.size w w' := by
  refine (rcan_any w D dict dc A b c hd hr hl).mono ?_
  rintro e V ⟨v, q, rfl, ho, hq, hl, hb⟩
  obtain ⟨qA, qc, hv, hrq, _, _, _⟩ := ho.form encT_ok
  refine ⟨qA, _, qc, by rw [hv], ⟨qA, qc, q, rfl, hrq, hq, fun x hx => ?_⟩, hb⟩
  obtain ⟨A3, c3, he, hr3, _⟩ := (hl x hx).1.form
  cases he
  exact hr3
theorem rbytes_q (w : World) (base : Nat) (d b : List UInt8) (A : Option Addr) (n c : Nat) (h : CanQ w base d b (.slice A n c)) (hd : d.length ≤ 4096) (hb : b.length ≤ 10000) :
    Calls Try.prog 17 #[.slice A n c] w fun e w' => ∃ A' c', e = .returned (.slice A' (packF d b).length c') ∧ RB w' w'.heap.size A' (packF d b) ∧ Below w.heap.size w w' := by
  obtain ⟨A0, c0, q, hv, hrq, hq, hl⟩ := h
  cases hv
  have hok : ∀ t ∈ q.map (·.1), Tok.ok t := by rw [hq]; exact fits_ok _ _ (cn_all d b).1
  have hlen : q.length ≤ 100000 := by
    have h1 := len_encs (q.map (·.1))
    rw [hq, ← packF_small hd, ← hq, List.length_map] at h1
    have := pack_bound d b
    omega
  refine (rbytes_any w A q c hrq hl hok hlen).mono ?_
  rintro e V ⟨v, rfl, ho, hb⟩
  rw [hq, ← packF_small hd] at ho
  obtain ⟨A3, c3, hv, hr3, _⟩ := ho.form
  exact ⟨A3, c3, by rw [hv], hr3, hb⟩
set_option maxHeartbeats 4000000 in
set_option maxRecDepth 100000 in
theorem packForms_walk (A0 : Option Addr) (l0 : List UInt8) (c0 : Nat) (A1 : Option Addr) (l1 : List UInt8) (c1 : Nat) (W : World) (r0 : RB W W.heap.size A0 l0) (s0 : l0.length ≤ c0) (m0 : c0 ≤ maxLen) (r1 : RB W W.heap.size A1 l1) (s1 : l1.length ≤ c1) (m1 : c1 ≤ maxLen) :
    Calls Try.prog 3 #[.slice A0 l0.length c0, .slice A1 l1.length c1] W fun e W' => e = .returned (.bool true) ∧ Below W.heap.size W W' := by
  have C0 := Lib.hid (fun V : World => cut_any A0 l0.length c0 V s0 (rb_A r0))
  have C1 := Lib.hid (fun V : World => cut_any A1 l1.length c1 V s1 (rb_A r1))
  rw [← take_len] at C0 C1
  have R0 := Lib.hid (r0.take 400)
  have R1 := Lib.hid (r1.take 400)
  have hk0 : (l0.take 400).length ≤ 400 := by rw [take_len]; omega
  have hk1 : (l1.take 400).length ≤ 400 := by rw [take_len]; omega
  have hs0 : (l0.take 400).length ≤ c0 := by rw [take_len]; omega
  have hs1 : (l1.take 400).length ≤ c1 := by rw [take_len]; omega
  obtain ⟨n0, hn0⟩ : ∃ n, l0.length = n := ⟨_, rfl⟩
  obtain ⟨n1, hn1⟩ : ∃ n, l1.length = n := ⟨_, rfl⟩
  rw [hn0] at C0 ⊢
  rw [hn1] at C1 ⊢
  obtain ⟨d, hd⟩ : ∃ d, l0.take 400 = d := ⟨_, rfl⟩
  obtain ⟨b, hb⟩ : ∃ b, l1.take 400 = b := ⟨_, rfl⟩
  rw [hd] at C0 R0 hk0 hs0
  rw [hb] at C1 R1 hk1 hs1
  clear r0 r1 s0 s1 hn0 hn1 hd hb
  have HP : Hid (∀ V, Below W.heap.size W V → Calls Try.prog 14 #[.slice A0 d.length c0, .slice A1 b.length c1] V fun e w' => ∃ v, e = .returned (.tuple #[v, .int .i64 0]) ∧ OB 5 w' V.heap.size v (packF d b) ∧ Below V.heap.size V w') := Lib.hid fun V h =>
    packWith_any V A0 d c0 A1 b c1 ((R0.out.below h).more h.size) ((R1.out.below h).more h.size) (by omega) hs0 (by omega)
  have HQ : Hid (∀ V, Below W.heap.size W V → Calls Try.prog 15 #[.slice A1 b.length c1] V fun e w' => ∃ v, e = .returned (.tuple #[v, .int .i64 0]) ∧ OB 5 w' V.heap.size v (packF [] b) ∧ Below V.heap.size V w') := Lib.hid fun V h =>
    pack_all V A1 b c1 ((R1.out.below h).more h.size) (by omega)
  have HCA : Hid (∀ V, Below W.heap.size W V → Calls Try.prog 18 #[.slice A0 d.length c0, .slice A1 b.length c1] V fun e w' => ∃ A' n' c', e = .returned (.slice A' n' c') ∧ CanQ w' V.heap.size d b (.slice A' n' c') ∧ Below V.heap.size V w') := Lib.hid fun V h =>
    rcan_q V A0 d c0 A1 b c1 ((R0.out.below h).more h.size) ((R1.out.below h).more h.size) (by omega)
  have HCB : Hid (∀ V, Below W.heap.size W V → Calls Try.prog 18 #[.slice none 0 0, .slice A1 b.length c1] V fun e w' => ∃ A' n' c', e = .returned (.slice A' n' c') ∧ CanQ w' V.heap.size [] b (.slice A' n' c') ∧ Below V.heap.size V w') := Lib.hid fun V h =>
    rcan_q V none [] 0 A1 b c1 RB.nil ((R1.out.below h).more h.size) (by simp; omega)
  obtain ⟨pa, hpa⟩ : ∃ p, packF d b = p := ⟨_, rfl⟩
  obtain ⟨pb, hpb⟩ : ∃ p, packF [] b = p := ⟨_, rfl⟩
  have HYA : Hid (∀ V base A n c, CanQ V base d b (.slice A n c) → Calls Try.prog 17 #[.slice A n c] V fun e w' => ∃ A' c', e = .returned (.slice A' pa.length c') ∧ RB w' w'.heap.size A' pa ∧ Below V.heap.size V w') := Lib.hid fun V base A n c h => by
    rw [← hpa]; exact rbytes_q V base d b A n c h (by omega) (by omega)
  have HYB : Hid (∀ V base A n c, CanQ V base [] b (.slice A n c) → Calls Try.prog 17 #[.slice A n c] V fun e w' => ∃ A' c', e = .returned (.slice A' pb.length c') ∧ RB w' w'.heap.size A' pb ∧ Below V.heap.size V w') := Lib.hid fun V base A n c h => by
    rw [← hpb]; exact rbytes_q V base [] b A n c h (by simp) (by omega)
  rw [hpa] at HP
  rw [hpb] at HQ
  obtain ⟨nd, hnd⟩ : ∃ n, d.length = n := ⟨_, rfl⟩
  obtain ⟨nb, hnb⟩ : ∃ n, b.length = n := ⟨_, rfl⟩
  obtain ⟨na, hna⟩ : ∃ n, pa.length = n := ⟨_, rfl⟩
  obtain ⟨nq, hnq⟩ : ∃ n, pb.length = n := ⟨_, rfl⟩
  rw [hnd] at C0 HP HCA
  rw [hnb] at C1 HP HQ HCA HCB
  rw [hna] at HYA
  rw [hnq] at HYB
  have HND := Lib.hid hnd
  have HNB := Lib.hid hnb
  have HNA := Lib.hid hna
  have HNQ := Lib.hid hnq
  clear hpa hpb hnd hnb hna hnq hk0 hk1 hs0 hs1 m0 m1
  have HB0 := Lib.hid (Below.refl W.heap.size W)
  obtain ⟨sd, hsd⟩ : ∃ s : ByteArray, ⟨d.toArray⟩ = s := ⟨_, rfl⟩
  obtain ⟨sb, hsb⟩ : ∃ s : ByteArray, ⟨b.toArray⟩ = s := ⟨_, rfl⟩
  obtain ⟨sp, hsp⟩ : ∃ s : ByteArray, ⟨pa.toArray⟩ = s := ⟨_, rfl⟩
  obtain ⟨sq, hsq⟩ : ∃ s : ByteArray, ⟨pb.toArray⟩ = s := ⟨_, rfl⟩
  have E0 : Hid (∀ V, Below W.heap.size W V → (convert 22 9 (.slice A0 nd c0)).run Try.prog V = .ok (.string sd) V) := Lib.hid fun V h => by
    have h2 := run_str bslK 9 Try.underlying9 (R0.out.below h) c0
    rwa [HND.out, hsd] at h2
  have E1 : Hid (∀ V, Below W.heap.size W V → (convert 22 9 (.slice A1 nb c1)).run Try.prog V = .ok (.string sb) V) := Lib.hid fun V h => by
    have h2 := run_str bslK 9 Try.underlying9 (R1.out.below h) c1
    rwa [HNB.out, hsb] at h2
  have EP : Hid (∀ V B A c, RB V B A pa → (convert 22 9 (.slice A na c)).run Try.prog V = .ok (.string sp) V) := Lib.hid fun V B A c h => by
    have h2 := run_str bslK 9 Try.underlying9 h c
    rwa [HNA.out, hsp] at h2
  have EQ : Hid (∀ V B A c, RB V B A pb → (convert 22 9 (.slice A nq c)).run Try.prog V = .ok (.string sq) V) := Lib.hid fun V B A c h => by
    have h2 := run_str bslK 9 Try.underlying9 h c
    rwa [HNQ.out, hsq] at h2
  clear hsd hsb hsp hsq
  go_enter Try.func3, Try.ntmps3
  go_upto_region 2 with (first | (go_at_call_of 13 (Value.slice A0 n0 c0); refine (C0.out _).mono ?_; rintro e V ⟨rfl, hv⟩; subst V) | (go_at_call_of 13 (Value.slice A1 n1 c1); refine (C1.out _).mono ?_; rintro e V ⟨rfl, hv⟩; subst V))
  have hS0 : Below W.heap.size W W := Below.refl _ _
  have e0 := E0.out
  have e1 := E1.out
  go_region_held3 (fun V => Below W.heap.size W V) (first | assumption | exact Below.drew (by assumption)) (fail)
  clear e0 e1 hS0
  go_upto_region 4 with (go_at_call 14; refine (HP.out _ ?_).mono ?_; (focus (exact HB0.out.drew)); rintro e V1 ⟨v1, rfl, ho1, hb1⟩; obtain ⟨Ap, cp, hv1, hrp, hcp, _⟩ := ho1.form; rw [HNA.out] at hv1 hcp; subst hv1; have HRP := Lib.hid hrp; have HB1 := Lib.hid (HB0.out.drew.trans hb1); clear ho1 hb1 hrp)
  go_upto_region 5 with (go_at_call 15; refine (HQ.out _ HB1.out).mono ?_; rintro e V2 ⟨v2, rfl, ho2, hb2⟩; obtain ⟨Aq, cq, hv2, hrq, hcq, _⟩ := ho2.form; rw [HNQ.out] at hv2 hcq; subst hv2; have HRQ := Lib.hid hrq; have HRP2 := Lib.hid ((HRP.out.below hb2).more hb2.size); have HB2 := Lib.hid (HB1.out.trans (hb2.mono HB1.out.size)); clear ho2 hb2 hrq)
  have hS0 : Below V2.heap.size V2 V2 := Below.refl _ _
  have HW : Hid (∀ V, Below V2.heap.size V2 V → Below W.heap.size W V) := Lib.hid fun V h => HB2.out.trans (h.mono HB2.out.size)
  have e0 : ∀ V, Below V2.heap.size V2 V → (convert 22 9 (.slice A0 nd c0)).run Try.prog V = .ok (.string sd) V := fun V h => E0.out V (HW.out V h)
  have e1 : ∀ V, Below V2.heap.size V2 V → (convert 22 9 (.slice A1 nb c1)).run Try.prog V = .ok (.string sb) V := fun V h => E1.out V (HW.out V h)
  have e2 : ∀ V, Below V2.heap.size V2 V → (convert 22 9 (.slice Ap na cp)).run Try.prog V = .ok (.string sp) V := fun V h => EP.out V _ Ap cp (HRP2.out.below h)
  have e3 : ∀ V, Below V2.heap.size V2 V → (convert 22 9 (.slice Aq nq cq)).run Try.prog V = .ok (.string sq) V := fun V h => EQ.out V _ Aq cq (HRQ.out.below h)
  clear hS0
  refine wp_region_held_drew (S := (fun V => Below V2.heap.size V2 V)) (by kernel_rfl) (Below.drew (Below.refl _ _)) (fun hHeld => ?_)
  refine wpAnyH_ready (rs := [0]) (by kernel_rfl) (by simp) ?_
  refine AllReadyH.cons (ops_atL rfl) (fun K hK => ?_) AllReadyH.nil
  go_simp
  (go_at_call 16; refine (known_any _).mono ?_; rintro e V3 ⟨rfl, hb3⟩)
  refine hK.out _ _ (Below.trans hHeld (hb3.mono hHeld.size)) (fun hHeld => ?_)
  clear hK K
  try simp only [Act.put, List.setIfInBounds_toArray, List.set_cons_zero, List.set_cons_succ]
  refine wpAnyH_take (i := 1) (v := ?_) (ops_atL rfl) (by kernel_rfl) (by kernel_rfl) (by kernel_rfl) (fun _ _ _ h => h) (Or.inl ⟨by rfl, ?_⟩) hHeld ?_
  rotate_left
  · (intro W hSW; go_simp; try with_reducible rfl)
  try simp only [Act.put, List.setIfInBounds_toArray, List.set_cons_zero, List.set_cons_succ]
  refine wpAnyH_take (i := 2) (v := ?_) (ops_atL rfl) (by kernel_rfl) (by kernel_rfl) (by kernel_rfl) (fun _ _ _ h => h) (Or.inl ⟨by rfl, ?_⟩) hHeld ?_
  rotate_left
  · (intro W hSW; go_simp; try with_reducible rfl)
  try simp only [Act.put, List.setIfInBounds_toArray, List.set_cons_zero, List.set_cons_succ]
  refine wpAnyH_take (i := 3) (v := ?_) (ops_atL rfl) (by kernel_rfl) (by kernel_rfl) (by kernel_rfl) (fun _ _ _ h => h) (Or.inl ⟨by rfl, ?_⟩) hHeld ?_
  rotate_left
  · (intro W hSW; go_simp; try with_reducible rfl)
  try simp only [Act.put, List.setIfInBounds_toArray, List.set_cons_zero, List.set_cons_succ]
  refine wpAnyH_take (i := 4) (v := ?_) (ops_atL rfl) (by kernel_rfl) (by kernel_rfl) (by kernel_rfl) (fun _ _ _ h => h) (Or.inl ⟨by rfl, ?_⟩) hHeld ?_
  rotate_left
  · (intro W hSW; go_simp; try with_reducible rfl)
  try simp only [Act.put, List.setIfInBounds_toArray, List.set_cons_zero, List.set_cons_succ]
  refine wpAnyH_take (i := 5) (v := ?_) (ops_atL rfl) (by kernel_rfl) (by kernel_rfl) (by kernel_rfl) (fun _ _ _ h => h) (Or.inl ⟨by rfl, ?_⟩) hHeld ?_
  rotate_left
  · (intro W hSW; go_simp; try with_reducible rfl)
  try simp only [Act.put, List.setIfInBounds_toArray, List.set_cons_zero, List.set_cons_succ]
  refine wpAnyH_take (i := 6) (v := ?_) (ops_atL rfl) (by kernel_rfl) (by kernel_rfl) (by kernel_rfl) (fun _ _ _ h => h) (Or.inl ⟨by rfl, ?_⟩) hHeld ?_
  rotate_left
  · (intro W hSW; go_simp; try with_reducible rfl)
  try simp only [Act.put, List.setIfInBounds_toArray, List.set_cons_zero, List.set_cons_succ]
  refine wpAnyH_take (i := 7) (v := ?_) (ops_atL rfl) (by kernel_rfl) (by kernel_rfl) (by kernel_rfl) (fun _ _ _ h => h) (Or.inl ⟨by rfl, ?_⟩) hHeld ?_
  rotate_left
  · (intro W hSW; go_simp; try with_reducible rfl)
  try simp only [Act.put, List.setIfInBounds_toArray, List.set_cons_zero, List.set_cons_succ]
  refine wpAnyH_take (i := 8) (v := ?_) (ops_atL rfl) (by kernel_rfl) (by kernel_rfl) (by kernel_rfl) (fun _ _ _ h => h) (Or.inl ⟨by rfl, ?_⟩) hHeld ?_
  rotate_left
  · (intro W hSW; go_simp; try with_reducible rfl)
  try simp only [Act.put, List.setIfInBounds_toArray, List.set_cons_zero, List.set_cons_succ]
  refine wpAnyH_take (i := 9) (v := ?_) (ops_atL rfl) (by kernel_rfl) (by kernel_rfl) (by kernel_rfl) (fun _ _ _ h => h) (Or.inl ⟨by rfl, ?_⟩) hHeld ?_
  rotate_left
  · (intro W hSW; go_simp; try with_reducible rfl)
  try simp only [Act.put, List.setIfInBounds_toArray, List.set_cons_zero, List.set_cons_succ]
  refine wpAnyH_take (i := 10) (v := ?_) (ops_atL rfl) (by kernel_rfl) (by kernel_rfl) (by kernel_rfl) (fun _ _ _ h => h) (Or.inl ⟨by rfl, ?_⟩) hHeld ?_
  rotate_left
  · (intro W hSW; go_simp; try with_reducible rfl)
  try simp only [Act.put, List.setIfInBounds_toArray, List.set_cons_zero, List.set_cons_succ]
  refine wpAnyH_take (i := 11) (v := ?_) (ops_atL rfl) (by kernel_rfl) (by kernel_rfl) (by kernel_rfl) (fun _ _ _ h => h) (Or.inl ⟨by rfl, ?_⟩) hHeld ?_
  rotate_left
  · (intro W hSW; go_simp; try with_reducible rfl)
  try simp only [Act.put, List.setIfInBounds_toArray, List.set_cons_zero, List.set_cons_succ]
  refine wpAnyH_take (i := 12) (v := ?_) (ops_atL rfl) (by kernel_rfl) (by kernel_rfl) (by kernel_rfl) (fun _ _ _ h => h) (Or.inl ⟨by rfl, ?_⟩) hHeld ?_
  rotate_left
  · (intro W hSW; go_simp; try with_reducible rfl)
  try simp only [Act.put, List.setIfInBounds_toArray, List.set_cons_zero, List.set_cons_succ]
  refine wpAnyH_take (i := 13) (v := ?_) (ops_atL rfl) (by kernel_rfl) (by kernel_rfl) (by kernel_rfl) (fun _ _ _ h => h) (Or.inl ⟨by rfl, ?_⟩) hHeld ?_
  rotate_left
  · (intro W hSW; go_simp; try with_reducible rfl)
  try simp only [Act.put, List.setIfInBounds_toArray, List.set_cons_zero, List.set_cons_succ]
  refine wpAnyH_ready (rs := [14]) (by kernel_rfl) (by simp) ?_
  refine AllReadyH.cons (ops_atL rfl) (fun K hK => ?_) AllReadyH.nil
  go_simp
  (go_at_call 18; refine (HCA.out _ (HW.out _ hHeld)).mono ?_; rintro e V4 ⟨Aa, ma, ca, rfl, hca, hb4⟩; have HCQ4 := Lib.hid hca; clear hca)
  refine hK.out _ _ (Below.trans hHeld (hb4.mono hHeld.size)) (fun hHeld => ?_)
  clear hK K
  try simp only [Act.put, List.setIfInBounds_toArray, List.set_cons_zero, List.set_cons_succ]
  refine wpAnyH_ready (rs := [15]) (by kernel_rfl) (by simp) ?_
  refine AllReadyH.cons (ops_atL rfl) (fun K hK => ?_) AllReadyH.nil
  go_simp
  (go_at_call 17; refine (HYA.out _ _ _ _ _ HCQ4.out).mono ?_; rintro e V5 ⟨Ab, cb, rfl, hrb, hb5⟩; have e5 := EP.out V5 _ Ab cb hrb; clear hrb)
  refine hK.out _ _ (Below.trans hHeld (hb5.mono hHeld.size)) (fun hHeld => ?_)
  clear hK K
  try simp only [Act.put, List.setIfInBounds_toArray, List.set_cons_zero, List.set_cons_succ]
  refine wpAnyH_ready (rs := [16]) (by kernel_rfl) (by simp) ?_
  refine AllReadyH.cons (ops_atL rfl) (fun K hK => ?_) AllReadyH.nil
  go_simp
  refine hK.out _ _ (hHeld) (fun hHeld => ?_)
  clear hK K
  try simp only [Act.put, List.setIfInBounds_toArray, List.set_cons_zero, List.set_cons_succ]
  refine wpAnyH_take (i := 17) (v := ?_) (ops_atL rfl) (by kernel_rfl) (by kernel_rfl) (by kernel_rfl) (fun _ _ _ h => h) (Or.inl ⟨by rfl, ?_⟩) hHeld ?_
  rotate_left
  · (intro W hSW; go_simp; try with_reducible rfl)
  try simp only [Act.put, List.setIfInBounds_toArray, List.set_cons_zero, List.set_cons_succ]
  refine wpAnyH_take (i := 18) (v := ?_) (ops_atL rfl) (by kernel_rfl) (by kernel_rfl) (by kernel_rfl) (fun _ _ _ h => h) (Or.inl ⟨by rfl, ?_⟩) hHeld ?_
  rotate_left
  · (intro W hSW; go_simp; try with_reducible rfl)
  try simp only [Act.put, List.setIfInBounds_toArray, List.set_cons_zero, List.set_cons_succ]
  refine wpAnyH_take (i := 19) (v := ?_) (ops_atL rfl) (by kernel_rfl) (by kernel_rfl) (by kernel_rfl) (fun _ _ _ h => h) (Or.inl ⟨by rfl, ?_⟩) hHeld ?_
  rotate_left
  · (intro W hSW; go_simp; try with_reducible rfl)
  try simp only [Act.put, List.setIfInBounds_toArray, List.set_cons_zero, List.set_cons_succ]
  refine wpAnyH_take (i := 20) (v := ?_) (ops_atL rfl) (by kernel_rfl) (by kernel_rfl) (by kernel_rfl) (fun _ _ _ h => h) (Or.inl ⟨by rfl, ?_⟩) hHeld ?_
  rotate_left
  · (intro W hSW; go_simp; try with_reducible rfl)
  try simp only [Act.put, List.setIfInBounds_toArray, List.set_cons_zero, List.set_cons_succ]
  refine wpAnyH_take (i := 21) (v := ?_) (ops_atL rfl) (by kernel_rfl) (by kernel_rfl) (by kernel_rfl) (fun _ _ _ h => h) (Or.inl ⟨by rfl, ?_⟩) hHeld ?_
  rotate_left
  · (intro W hSW; go_simp; try with_reducible rfl)
  try simp only [Act.put, List.setIfInBounds_toArray, List.set_cons_zero, List.set_cons_succ]
  refine wpAnyH_take (i := 22) (v := ?_) (ops_atL rfl) (by kernel_rfl) (by kernel_rfl) (by kernel_rfl) (fun _ _ _ h => h) (Or.inl ⟨by rfl, ?_⟩) hHeld ?_
  rotate_left
  · (intro W hSW; go_simp; try with_reducible rfl)
  try simp only [Act.put, List.setIfInBounds_toArray, List.set_cons_zero, List.set_cons_succ]
  refine wpAnyH_ready (rs := [23]) (by kernel_rfl) (by simp) ?_
  refine AllReadyH.cons (ops_atL rfl) (fun K hK => ?_) AllReadyH.nil
  go_simp
  (go_at_call 18; refine (HCB.out _ (HW.out _ hHeld)).mono ?_; rintro e V6 ⟨Ac, mc, cc, rfl, hcb, hb6⟩; have HCQ6 := Lib.hid hcb; clear hcb)
  refine hK.out _ _ (Below.trans hHeld (hb6.mono hHeld.size)) (fun hHeld => ?_)
  clear hK K
  try simp only [Act.put, List.setIfInBounds_toArray, List.set_cons_zero, List.set_cons_succ]
  refine wpAnyH_ready (rs := [24]) (by kernel_rfl) (by simp) ?_
  refine AllReadyH.cons (ops_atL rfl) (fun K hK => ?_) AllReadyH.nil
  go_simp
  (go_at_call 17; refine (HYB.out _ _ _ _ _ HCQ6.out).mono ?_; rintro e V7 ⟨Ad, cd, rfl, hrd, hb7⟩; have e7 := EQ.out V7 _ Ad cd hrd; clear hrd)
  refine hK.out _ _ (Below.trans hHeld (hb7.mono hHeld.size)) (fun hHeld => ?_)
  clear hK K
  try simp only [Act.put, List.setIfInBounds_toArray, List.set_cons_zero, List.set_cons_succ]
  refine wpAnyH_ready (rs := [25]) (by kernel_rfl) (by simp) ?_
  refine AllReadyH.cons (ops_atL rfl) (fun K hK => ?_) AllReadyH.nil
  go_simp
  refine hK.out _ _ (hHeld) (fun hHeld => ?_)
  clear hK K
  try simp only [Act.put, List.setIfInBounds_toArray, List.set_cons_zero, List.set_cons_succ]
  refine wpAnyH_take (i := 26) (v := ?_) (ops_atL rfl) (by kernel_rfl) (by kernel_rfl) (by kernel_rfl) (fun _ _ _ h => h) (Or.inl ⟨by rfl, ?_⟩) hHeld ?_
  rotate_left
  · (intro W hSW; go_simp; try with_reducible rfl)
  try simp only [Act.put, List.setIfInBounds_toArray, List.set_cons_zero, List.set_cons_succ]
  refine wpAnyH_take (i := 27) (v := ?_) (ops_atL rfl) (by kernel_rfl) (by kernel_rfl) (by kernel_rfl) (fun _ _ _ h => h) (Or.inl ⟨by rfl, ?_⟩) hHeld ?_
  rotate_left
  · (intro W hSW; go_simp; try with_reducible rfl)
  try simp only [Act.put, List.setIfInBounds_toArray, List.set_cons_zero, List.set_cons_succ]
  refine wpAnyH_take (i := 28) (v := ?_) (ops_atL rfl) (by kernel_rfl) (by kernel_rfl) (by kernel_rfl) (fun _ _ _ h => h) (Or.inl ⟨by rfl, ?_⟩) hHeld ?_
  rotate_left
  · (intro W hSW; go_simp; try with_reducible rfl)
  try simp only [Act.put, List.setIfInBounds_toArray, List.set_cons_zero, List.set_cons_succ]
  refine wpAnyH_take (i := 29) (v := ?_) (ops_atL rfl) (by kernel_rfl) (by kernel_rfl) (by kernel_rfl) (fun _ _ _ h => h) (Or.inl ⟨by rfl, ?_⟩) hHeld ?_
  rotate_left
  · (intro W hSW; go_simp; try with_reducible rfl)
  try simp only [Act.put, List.setIfInBounds_toArray, List.set_cons_zero, List.set_cons_succ]
  refine wpAnyH_take (i := 30) (v := ?_) (ops_atL rfl) (by kernel_rfl) (by kernel_rfl) (by kernel_rfl) (fun _ _ _ h => h) (Or.inl ⟨by rfl, ?_⟩) hHeld ?_
  rotate_left
  · (intro W hSW; go_simp; try with_reducible rfl)
  try simp only [Act.put, List.setIfInBounds_toArray, List.set_cons_zero, List.set_cons_succ]
  refine wpAnyH_take (i := 31) (v := ?_) (ops_atL rfl) (by kernel_rfl) (by kernel_rfl) (by kernel_rfl) (fun _ _ _ h => h) (Or.inl ⟨by rfl, ?_⟩) hHeld ?_
  rotate_left
  · (intro W hSW; go_simp; try with_reducible rfl)
  try simp only [Act.put, List.setIfInBounds_toArray, List.set_cons_zero, List.set_cons_succ]
  refine wpAnyH_take (i := 32) (v := ?_) (ops_atL rfl) (by kernel_rfl) (by kernel_rfl) (by kernel_rfl) (fun _ _ _ h => h) (Or.inl ⟨by rfl, ?_⟩) hHeld ?_
  rotate_left
  · (intro W hSW; go_simp; try with_reducible rfl)
  try simp only [Act.put, List.setIfInBounds_toArray, List.set_cons_zero, List.set_cons_succ]
  refine wpAnyH_take (i := 33) (v := ?_) (ops_atL rfl) (by kernel_rfl) (by kernel_rfl) (by kernel_rfl) (fun _ _ _ h => h) (Or.inl ⟨by rfl, ?_⟩) hHeld ?_
  rotate_left
  · (intro W hSW; go_simp; try with_reducible rfl)
  try simp only [Act.put, List.setIfInBounds_toArray, List.set_cons_zero, List.set_cons_succ]
  refine wpAnyH_take (i := 34) (v := ?_) (ops_atL rfl) (by kernel_rfl) (by kernel_rfl) (by kernel_rfl) (fun _ _ _ h => h) (Or.inl ⟨by rfl, ?_⟩) hHeld ?_
  rotate_left
  · (intro W hSW; go_simp; try with_reducible rfl)
  try simp only [Act.put, List.setIfInBounds_toArray, List.set_cons_zero, List.set_cons_succ]
  refine wpAnyH_take (i := 35) (v := ?_) (ops_atL rfl) (by kernel_rfl) (by kernel_rfl) (by kernel_rfl) (fun _ _ _ h => h) (Or.inl ⟨by rfl, ?_⟩) hHeld ?_
  rotate_left
  · (intro W hSW; go_simp; try with_reducible rfl)
  try simp only [Act.put, List.setIfInBounds_toArray, List.set_cons_zero, List.set_cons_succ]
  refine wpAnyH_take (i := 36) (v := ?_) (ops_atL rfl) (by kernel_rfl) (by kernel_rfl) (by kernel_rfl) (fun _ _ _ h => h) (Or.inl ⟨by rfl, ?_⟩) hHeld ?_
  rotate_left
  · (intro W hSW; go_simp; try with_reducible rfl)
  try simp only [Act.put, List.setIfInBounds_toArray, List.set_cons_zero, List.set_cons_succ]
  refine wpAnyH_take (i := 37) (v := ?_) (ops_atL rfl) (by kernel_rfl) (by kernel_rfl) (by kernel_rfl) (fun _ _ _ h => h) (Or.inl ⟨by rfl, ?_⟩) hHeld ?_
  rotate_left
  · (intro W hSW; go_simp; try with_reducible rfl)
  try simp only [Act.put, List.setIfInBounds_toArray, List.set_cons_zero, List.set_cons_succ]
  refine wpAnyH_take (i := 38) (v := ?_) (ops_atL rfl) (by kernel_rfl) (by kernel_rfl) (by kernel_rfl) (fun _ _ _ h => h) (Or.inl ⟨by rfl, ?_⟩) hHeld ?_
  rotate_left
  · (intro W hSW; go_simp; try with_reducible rfl)
  try simp only [Act.put, List.setIfInBounds_toArray, List.set_cons_zero, List.set_cons_succ]
  refine wpAnyH_take (i := 39) (v := ?_) (ops_atL rfl) (by kernel_rfl) (by kernel_rfl) (by kernel_rfl) (fun _ _ _ h => h) (Or.inl ⟨by rfl, ?_⟩) hHeld ?_
  rotate_left
  · (intro W hSW; go_simp; try with_reducible rfl)
  try simp only [Act.put, List.setIfInBounds_toArray, List.set_cons_zero, List.set_cons_succ]
  refine wpAnyH_take (i := 40) (v := ?_) (ops_atL rfl) (by kernel_rfl) (by kernel_rfl) (by kernel_rfl) (fun _ _ _ h => h) (Or.inl ⟨by rfl, ?_⟩) hHeld ?_
  rotate_left
  · (intro W hSW; go_simp; try with_reducible rfl)
  try simp only [Act.put, List.setIfInBounds_toArray, List.set_cons_zero, List.set_cons_succ]
  refine wpAnyH_done (by kernel_rfl) ?_ _
  go_wp2
  go_ret
  exact ⟨rfl, HW.out _ hHeld⟩
end Go.Proofs.Ytocohoojnjdkiaa
