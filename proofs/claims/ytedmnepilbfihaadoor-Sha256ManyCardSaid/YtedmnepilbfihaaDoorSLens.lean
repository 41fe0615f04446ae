/- The walk of the law Sha256Lengths: what it says of every length and byte. -/
import Derived.Test.YtedmnepilbfihaaDoorSHeld
import Derived.OpenShut
set_option linter.unusedVariables false
namespace Go.Proofs.YtedmnepilbfihaaDoor
open Go.RowKit

/-- What a region is shown to stand on may be made stronger on the way. -/
theorem wpAnyH_strong {P : Program} {md : Region.Mode} {ops : Array Oper} {Q : Exit → Act → World → Prop} {S S' : World → Prop} (hS : ∀ w, S' w → S w) :
    ∀ (fuel : Nat) (listed : Array Bool) (a : Act) (w : World), wpAnyH P md ops Q S' fuel listed a w → wpAnyH P md ops Q S fuel listed a w
  | 0, _, _, _, h => h
  | fuel + 1, listed, a, w, h => ⟨h.1, fun i hi => wpOp_mono (fun a' w' h' => ⟨hS _ h'.1, wpAnyH_strong hS fuel _ a' w' h'.2⟩) (h.2 i hi)⟩

/-- Below, and some bytes that were made. -/
def Made (w : World) (L : List (Value × List UInt8)) (W : World) : Prop := Below w.heap.size w W ∧ ∀ p ∈ L, OG W w.heap.size p.1 p.2
theorem Made.below {w W W' : World} {L : List (Value × List UInt8)} (h : Made w L W) (hb : Below W.heap.size W W') : Made w L W' :=
  ⟨h.1.trans (hb.mono h.1.size), fun p hp => (h.2 p hp).below hb (Nat.le_refl _)⟩
theorem Made.drew {w W : World} {L : List (Value × List UInt8)} (h : Made w L W) : Made w L W.drew := ⟨h.1.drew, h.2⟩
theorem OG.base {W : World} {B B' : Nat} {v : Value} {l : List UInt8} (h : OG W B v l) (hB : B' ≤ B) : OG W B' v l := by
  obtain ⟨A, cap, rfl, h1, h2, h3⟩ := h
  exact ⟨A, cap, rfl, h1, h2, h3.imp id fun ⟨g, e, hg, r⟩ => ⟨g, e, Nat.le_trans hB hg, r⟩⟩
theorem og_str {W : World} {B : Nat} {v : Value} {l : List UInt8} (h : OG W B v l) : (convert 29 9 v).run Tryd.prog W = .ok (.string ⟨l.toArray⟩) W := by
  obtain ⟨A, cap, rfl, hr, _, _⟩ := h.form
  exact run_str bsl 9 Tryd.underlying9 hr cap

set_option maxHeartbeats 2000000 in
set_option maxRecDepth 100000 in
theorem lengths_aux (n : Nat) (c : UInt8) (w : World) (hT : Tab w) (hn : n ≤ 255) :
    Calls Tryd.prog 4 #[.int .u8 (n : Int), bv c] w fun e w' => e = .returned (.bool true) ∧ Below w.heap.size w w' := by
  obtain ⟨T, eT⟩ : ∃ T, T = (⟨(List.replicate n c).toArray⟩ : ByteArray) := ⟨_, rfl⟩
  obtain ⟨T0, eT0⟩ : ∃ T, T = (⟨(List.replicate n c ++ [0]).toArray⟩ : ByteArray) := ⟨_, rfl⟩
  have hTl : T.data.toList = List.replicate n c := by rw [eT]
  have hT0l : T0.data.toList = List.replicate n c ++ [0] := by rw [eT0]
  have hTs : T.size = n := by rw [eT]; show (List.replicate n c).toArray.size = n; simp
  have hT0s : T0.size = n + 1 := by rw [eT0]; show (List.replicate n c ++ [0]).toArray.size = n + 1; simp
  have hA1 : Hid (¬ (9223372036854775807 < T.size + 1)) := Lib.hid (by rw [hTs]; omega)
  have hA2 : Hid (T ++ ⟨#[0]⟩ = T0) := Lib.hid (by rw [eT, eT0]; apply ByteArray.ext; apply Array.ext'; simp)
  obtain ⟨p1, ep1⟩ : ∃ p, p = padS T.data.toList := ⟨_, rfl⟩
  obtain ⟨p2, ep2⟩ : ∃ p, p = padS T0.data.toList := ⟨_, rfl⟩
  have hp12 : p1 ≠ p2 := by rw [ep1, ep2, hTl, hT0l]; exact padS_nil_ne _
  have hp64 : p1.length % 64 = 0 := by rw [ep1]; exact padS_64 _
  obtain ⟨X, eX⟩ : ∃ X, X = (⟨p1.toArray⟩ : ByteArray) := ⟨_, rfl⟩
  obtain ⟨Y, eY⟩ : ∃ Y, Y = (⟨p2.toArray⟩ : ByteArray) := ⟨_, rfl⟩
  have hne : (X.toList == Y.toList) = false := by
    rw [beq_eq_false_iff_ne, Lib.toList_data, Lib.toList_data, eX, eY]; exact hp12
  have hX64 : ((X.size : Int) % 64 == 0) = true := by
    have : X.size = p1.length := by rw [eX]; show p1.toArray.size = _; simp
    rw [this]; simp; omega
  obtain ⟨d1, ed1⟩ : ∃ d, d = sumS T.data.toList := ⟨_, rfl⟩
  obtain ⟨d2, ed2⟩ : ∃ d, d = sumS T0.data.toList := ⟨_, rfl⟩
  have hd1 : d1.length = 32 := by rw [ed1]; exact sumS_length _
  have hd2 : d2.length = 32 := by rw [ed2]; exact sumS_length _
  have heq1 := fun W => eq_arr d1 d1 hd1 hd1 W
  rw [show (d1 == d1) = true by simp] at heq1
  have heq2 := fun W => eq_arr d2 d2 hd2 hd2 W
  rw [show (d2 == d2) = true by simp] at heq2
  have K1 : Hid (∀ W, Below w.heap.size w W → Calls Tryd.prog 17 #[.string T] W fun e w' => ∃ v, e = .returned v ∧ OG w' W.heap.size v p1 ∧ Below W.heap.size W w') := Lib.hid fun W _ => by rw [ep1]; exact pad_any T W (by omega)
  have K2 : Hid (∀ W, Below w.heap.size w W → Calls Tryd.prog 17 #[.string T0] W fun e w' => ∃ v, e = .returned v ∧ OG w' W.heap.size v p2 ∧ Below W.heap.size W w') := Lib.hid fun W _ => by rw [ep2]; exact pad_any T0 W (by omega)
  have K0 : Hid (∀ W, Below w.heap.size w W → Calls Tryd.prog 14 #[] W fun e w' => e = .returned (.bool true) ∧ Below w.heap.size w w') := Lib.hid fun W hb => (known_any W (hT.below hb hT.1)).mono fun e w' ⟨he, hb2⟩ => ⟨he, hb.trans (hb2.mono hb.size)⟩
  have K3 : Hid (∀ W, Below w.heap.size w W → Calls Tryd.prog 15 #[.string T] W fun e w' => e = .returned (.agg (d1.map bv).toArray) ∧ Below w.heap.size w w') := Lib.hid fun W hb => by
    rw [ed1]; exact (sumText_any T W (hT.below hb hT.1) (by omega)).mono fun e w' ⟨he, hb2⟩ => ⟨he, hb.trans (hb2.mono hb.size)⟩
  have K4 : Hid (∀ W, Below w.heap.size w W → Calls Tryd.prog 16 #[.string T] W fun e w' => e = .returned (.agg (d1.map bv).toArray) ∧ Below w.heap.size w w') := Lib.hid fun W hb => by
    rw [ed1]; exact (refSum_any T W (by omega)).mono fun e w' ⟨he, hb2⟩ => ⟨he, hb.trans (hb2.mono hb.size)⟩
  have K5 : Hid (∀ W, Below w.heap.size w W → Calls Tryd.prog 15 #[.string T0] W fun e w' => e = .returned (.agg (d2.map bv).toArray) ∧ Below w.heap.size w w') := Lib.hid fun W hb => by
    rw [ed2]; exact (sumText_any T0 W (hT.below hb hT.1) (by omega)).mono fun e w' ⟨he, hb2⟩ => ⟨he, hb.trans (hb2.mono hb.size)⟩
  have K6 : Hid (∀ W, Below w.heap.size w W → Calls Tryd.prog 16 #[.string T0] W fun e w' => e = .returned (.agg (d2.map bv).toArray) ∧ Below w.heap.size w w') := Lib.hid fun W hb => by
    rw [ed2]; exact (refSum_any T0 W (by omega)).mono fun e w' ⟨he, hb2⟩ => ⟨he, hb.trans (hb2.mono hb.size)⟩
  have HET := Lib.hid eT
  have HEX := Lib.hid eX
  have HEY := Lib.hid eY
  clear eT eT0 hTl hT0l hTs hT0s ep1 ep2 hp12 hp64 eX eY ed1 ed2 hd1 hd2 hT
  go_enter Tryd.func4, Tryd.ntmps4
  go_wp2
  go_loopw [5, 6] (fun u i wr => ∃ k : Nat, i = .int .i64 (k : Int) ∧ k ≤ n ∧ OG wr w.heap.size u (List.replicate k c) ∧ Below w.heap.size w wr) (fun _ i _ => n - (intOf i).toNat)
  case atStart => exact ⟨0, rfl, by omega, OG.nil _ _, Below.refl _ _⟩
  case round =>
    obtain ⟨k, rfl, hk, ho, hb⟩ := hrel
    by_cases hlt : (k : Int) < (n : Int)
    · obtain ⟨l, hl⟩ : ∃ l, l = List.replicate k c := ⟨_, rfl⟩
      rw [← hl] at ho
      have hll : l.length = k := by rw [hl]; simp
      obtain ⟨A, cap, hv, _⟩ := ho.form
      subst hv
      have hsz := hb.size
      have HO := Lib.hid ho
      have HB := Lib.hid hb
      have HL := Lib.hid hl
      have HLL := Lib.hid hll
      clear ho hb hl hll
      go_wp2_with (refine wpList_appG bsl (by rfl) (.tmp 16) (.tmp 18) 29 (by rfl) w.heap.size (.slice A l.length cap) l [c] (by rfl) (HO.out.alloc _) (.slice (some ⟨wr.heap.size, 0, none⟩) 1 1) (by rfl) (src_lit bsl wr [c] 1 _ rfl) (by rw [HLL.out]; simp; omega) (by simp; omega) ?_; intro v3 W3 ho3 hb3; have HO3 := Lib.hid ho3; have HB3 := Lib.hid (((HB.out.alloc HB.out.size _)).trans hb3); clear ho3 hb3)
      go_roundw
      case rel => exact ⟨k + 1, rfl, by omega, by rw [List.replicate_succ', ← HL.out]; exact HO3.out, HB3.out⟩
      case measure => simp [intOf] <;> omega
    · have hkn : k = n := by omega
      subst hkn
      have hst := og_str ho
      rw [← HET.out] at hst
      have HB := Lib.hid hb
      have hA3 := hA1.out
      have hA4 := hA2.out
      clear ho hb
      go_wp2_with fail
      refine wp_region_held_drew (S := Made w []) (by kernel_rfl) (Made.drew (L := []) (⟨HB.out, fun _ h => by cases h⟩ : Made w [] wr)) (fun hHeld => ?_)
      refine wpAnyH_take (i := 0) (v := ?_) (ops_at rfl) (by kernel_rfl) (by kernel_rfl) (by kernel_rfl) (fun _ _ _ h => h) (Or.inl ⟨by rfl, ?_⟩) hHeld ?_
      rotate_left
      · (intro W hSW; go_simp; try with_reducible rfl)
      try simp only [Act.put, List.setIfInBounds_toArray, List.set_cons_zero, List.set_cons_succ]
      refine wpAnyH_take (i := 3) (v := ?_) (ops_at rfl) (by kernel_rfl) (by kernel_rfl) (by kernel_rfl) (fun _ _ _ h => h) (Or.inl ⟨by rfl, ?_⟩) hHeld ?_
      rotate_left
      · (intro W hSW; go_simp; try with_reducible rfl)
      try simp only [Act.put, List.setIfInBounds_toArray, List.set_cons_zero, List.set_cons_succ]
      refine wpAnyH_take (i := 4) (v := ?_) (ops_at rfl) (by kernel_rfl) (by kernel_rfl) (by kernel_rfl) (fun _ _ _ h => h) (Or.inl ⟨by rfl, ?_⟩) hHeld ?_
      rotate_left
      · (intro W hSW; go_simp; try with_reducible rfl)
      try simp only [Act.put, List.setIfInBounds_toArray, List.set_cons_zero, List.set_cons_succ]
      refine wpAnyH_ready (rs := [1]) (by kernel_rfl) (by simp) ?_
      refine AllReadyH.cons (ops_at rfl) (fun K hK => ?_) AllReadyH.nil
      go_simp
      (go_at_call 17; refine (K1.out _ hHeld.1).mono ?_; rintro e W' ⟨v1, rfl, ho1, hb'⟩)
      refine hK.out _ _ (hHeld.below hb') (fun hHeld2 => ?_)
      clear hK K
      replace hHeld : Made w [(v1, p1)] W' := ⟨hHeld2.1, fun p hp => by
        rcases List.mem_cons.1 hp with rfl | hp
        · exact ho1.base hHeld.1.size
        · exact hHeld2.2 p hp⟩
      clear ho1 hb' hHeld2
      refine wpAnyH_strong (S' := Made w [(v1, p1)]) (fun _ h => ⟨h.1, fun p hp => h.2 p (List.mem_cons_of_mem _ hp)⟩) _ _ _ _ ?_
      try simp only [Act.put, List.setIfInBounds_toArray, List.set_cons_zero, List.set_cons_succ]
      refine wpAnyH_take (i := 2) (v := ?_) (ops_at rfl) (by kernel_rfl) (by kernel_rfl) (by kernel_rfl) (fun _ _ _ h => h) (Or.inl ⟨by rfl, ?_⟩) hHeld ?_
      rotate_left
      · (intro W hSW; have hcv := og_str (hSW.2 (v1, p1) (by simp)); rw [← HEX.out] at hcv; go_simp; try with_reducible rfl)
      try simp only [Act.put, List.setIfInBounds_toArray, List.set_cons_zero, List.set_cons_succ]
      refine wpAnyH_ready (rs := [5]) (by kernel_rfl) (by simp) ?_
      refine AllReadyH.cons (ops_at rfl) (fun K hK => ?_) AllReadyH.nil
      go_simp
      (go_at_call 17; refine (K2.out _ hHeld.1).mono ?_; rintro e W' ⟨v2, rfl, ho2, hb'⟩)
      refine hK.out _ _ (hHeld.below hb') (fun hHeld2 => ?_)
      clear hK K
      replace hHeld : Made w [(v2, p2), (v1, p1)] W' := ⟨hHeld2.1, fun p hp => by
        rcases List.mem_cons.1 hp with rfl | hp
        · exact ho2.base hHeld.1.size
        · exact hHeld2.2 p hp⟩
      clear ho2 hb' hHeld2
      refine wpAnyH_strong (S' := Made w [(v2, p2), (v1, p1)]) (fun _ h => ⟨h.1, fun p hp => h.2 p (List.mem_cons_of_mem _ hp)⟩) _ _ _ _ ?_
      try simp only [Act.put, List.setIfInBounds_toArray, List.set_cons_zero, List.set_cons_succ]
      refine wpAnyH_take (i := 6) (v := ?_) (ops_at rfl) (by kernel_rfl) (by kernel_rfl) (by kernel_rfl) (fun _ _ _ h => h) (Or.inl ⟨by rfl, ?_⟩) hHeld ?_
      rotate_left
      · (intro W hSW; have hcv := og_str (hSW.2 (v2, p2) (by simp)); rw [← HEY.out] at hcv; go_simp; try with_reducible rfl)
      try simp only [Act.put, List.setIfInBounds_toArray, List.set_cons_zero, List.set_cons_succ]
      refine wpAnyH_take (i := 7) (v := ?_) (ops_at rfl) (by kernel_rfl) (by kernel_rfl) (by kernel_rfl) (fun _ _ _ h => h) (Or.inl ⟨by rfl, ?_⟩) hHeld ?_
      rotate_left
      · (intro W hSW; go_simp; try with_reducible rfl)
      try simp only [Act.put, List.setIfInBounds_toArray, List.set_cons_zero, List.set_cons_succ]
      refine wpAnyH_take (i := 8) (v := ?_) (ops_at rfl) (by kernel_rfl) (by kernel_rfl) (by kernel_rfl) (fun _ _ _ h => h) (Or.inl ⟨by rfl, ?_⟩) hHeld ?_
      rotate_left
      · (intro W hSW; go_simp; try with_reducible rfl)
      try simp only [Act.put, List.setIfInBounds_toArray, List.set_cons_zero, List.set_cons_succ]
      refine wpAnyH_done (by kernel_rfl) ?_ _
      go_wp2_with (first
        | (go_at_call 14; refine (K0.out _ hHeld.1).mono ?_; rintro e w1 ⟨rfl, hb1⟩; have B1 := Lib.hid hb1; clear hb1)
        | (go_at_call 15; (with_reducible refine (K3.out _ B1.out).mono ?_); rintro e w2 ⟨rfl, hb2⟩; have B2 := Lib.hid hb2; clear hb2)
        | (go_at_call 16; (with_reducible refine (K4.out _ B2.out).mono ?_); rintro e w3 ⟨rfl, hb3⟩; have B3 := Lib.hid hb3; clear hb3)
        | (go_at_call 15; (with_reducible refine (K5.out _ B3.out).mono ?_); rintro e w4 ⟨rfl, hb4⟩; have B4 := Lib.hid hb4; clear hb4)
        | (go_at_call 16; (with_reducible refine (K6.out _ B4.out).mono ?_); rintro e w5 ⟨rfl, hb5⟩; have B5 := Lib.hid hb5; clear hb5))
      go_ret
      exact ⟨rfl, B5.out⟩

theorem wf_u8x {n : Int} (h : (Lit.int .u8 n).wf = true) : 0 ≤ n ∧ n ≤ 255 := by
  simp [Lit.wf, IntKind.min, IntKind.max, IntKind.signed, IntKind.bits] at h
  omega
theorem sha256Lengths_walk (a0 a1 : Int) (w : World) (hT : Tab w) (h0 : (Lit.int .u8 a0).wf = true) (h1 : (Lit.int .u8 a1).wf = true) :
    Calls Tryd.prog 4 #[.int .u8 a0, .int .u8 a1] w fun e w' => e = .returned (.bool true) ∧ Below w.heap.size w w' := by
  have b0 := wf_u8x h0
  have b1 := wf_u8x h1
  have e1 : (Value.int .u8 a1) = bv (UInt8.ofNat a1.toNat) := by
    show Value.int .u8 a1 = Value.int .u8 (((UInt8.ofNat a1.toNat).toNat : Nat) : Int)
    rw [UInt8.toNat_ofNat']
    congr 1; omega
  have e0 : a0 = ((a0.toNat : Nat) : Int) := by omega
  rw [e1, e0]
  exact lengths_aux a0.toNat (UInt8.ofNat a1.toNat) w hT (by omega)
end Go.Proofs.YtedmnepilbfihaaDoor
