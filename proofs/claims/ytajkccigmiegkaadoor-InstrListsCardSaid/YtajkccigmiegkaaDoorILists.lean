/- instr: the law InstrLists, walked. -/
import Derived.Test.YtajkccigmiegkaaDoorIListA
set_option linter.unusedVariables false
namespace Go.Proofs.YtajkccigmiegkaaDoor
open Go.RowKit

theorem ER.ex (q : List Q4) : ∃ b x e, ER q b x e := by
  have h : ∀ k, k ≤ q.length → (∀ y ∈ q.take k, zE y = 0) ∨ ∃ b x e, ER q b x e := by
    intro k
    induction k with
    | zero => intro _; exact .inl (by simp)
    | succ k ih =>
      intro hk
      rcases ih (by omega) with h | h
      · have hx := List.getElem?_eq_getElem (show k < q.length by omega)
        by_cases hz : zE q[k] = 0
        · exact .inl (take_good hx hz h)
        · exact .inr ⟨[], k, _, .inl ⟨k, _, hx, h, hz, rfl, rfl, rfl⟩⟩
      · exact .inr h
  rcases h q.length (Nat.le_refl _) with h | h
  · rw [List.take_length] at h
    exact ⟨_, 0, 0, .inr ⟨h, rfl, rfl, rfl⟩⟩
  · exact h
theorem ER.len {q : List Q4} {b : List UInt8} {x e : Int} (h : ER q b x e) : b.length ≤ 4 * q.length := by
  rcases h with ⟨k, y, h1, h2, h3, rfl, rfl, rfl⟩ | ⟨h1, rfl, rfl, rfl⟩
  · simp
  · rw [flatB_len]; omega
set_option maxHeartbeats 4000000 in
set_option maxRecDepth 100000 in
theorem instrLists_walk (A : Option Addr) (q : List Q4) (c : Nat) (w : World) (hE : Env w) (hr : RQ encQ 4 w w.heap.size A q) :
    Calls Tryd.prog 7 #[.slice A q.length c] w fun e w' => e = .returned (.bool true) ∧ Below w.heap.size w w' := by
  have HK : Hid (∀ W, Below w.heap.size w W → Calls Tryd.prog 13 #[] W fun e w' => e = .returned (.bool true) ∧ Below W.heap.size W w') := Lib.hid fun W hb => known_any W (hE.below hb)
  have HB : Hid (Below w.heap.size w w) := Lib.hid (Below.refl _ _)
  by_cases h40 : q.length ≤ 40
  · have h2 : ¬ (q.length : Int) > 40 := by omega
    obtain ⟨bs, xx, yy, her⟩ := ER.ex q
    obtain ⟨M, hM⟩ : ∃ M, bs.length = M := ⟨_, rfl⟩
    have hM2 : M ≤ 160 := by have := her.len; omega
    have HL : Hid (∀ W, Below w.heap.size w W → Calls Tryd.prog 31 #[.slice A q.length c] W fun e w' => ∃ v, e = .returned v ∧ OQ encQ 4 26 w' W.heap.size v q ∧ Below W.heap.size W w') := Lib.hid fun W hb => list_any A q c W ((hr.below hb).more hb.size) h40
    have HN : Hid (∀ W A1 cap1, Below w.heap.size w W → RQ encQ 4 W W.heap.size A1 q → Calls Tryd.prog 30 #[.slice A1 q.length cap1] W fun e w' => ∃ v, e = .returned (.tuple #[v, .int .i64 xx, .int .i64 yy]) ∧ OB 5 w' W.heap.size v bs ∧ Below W.heap.size W w') := Lib.hid fun W A1 cap1 hb h1 => (encodeAll_any A1 q cap1 W (hE.below hb) h1 h40).mono fun e w' ⟨v, b', x', y', he, ho, her', hb'⟩ => by
      obtain ⟨rfl, rfl, rfl⟩ := her.one her'
      exact ⟨v, he, ho, hb'⟩
    have HF : Hid (∀ W, Below w.heap.size w W → Calls Tryd.prog 32 #[.slice A q.length c] W fun e w' => ∃ v, e = .returned (.tuple #[v, .int .i64 xx, .int .i64 yy]) ∧ OB 5 w' W.heap.size v bs ∧ Below W.heap.size W w') := Lib.hid fun W hb => (rencodeAll_any A q c W ((hr.below hb).more hb.size) h40).mono fun e w' ⟨v, b', x', y', he, ho, her', hb'⟩ => by
      obtain ⟨rfl, rfl, rfl⟩ := her.one her'
      exact ⟨v, he, ho, hb'⟩
    have HST : Hid (∀ W B A c, RB W B A bs → (convert 55 9 (.slice A bs.length c)).run Tryd.prog W = .ok (.string ⟨bs.toArray⟩) W) := Lib.hid fun W B A c h => run_str bsl 9 Tryd.underlying9 h c
    have HD : yy = 0 → Hid (∀ W A2 cap2, Below w.heap.size w W → RB W W.heap.size A2 bs → bs.length ≤ cap2 → cap2 ≤ maxLen → Calls Tryd.prog 33 #[.slice A2 bs.length cap2] W fun e w' => ∃ v, e = .returned (.tuple #[v, .int .i64 0, .int .i64 0]) ∧ OQ encQ 4 26 w' W.heap.size v q ∧ Below W.heap.size W w') := fun hy => Lib.hid fun W A2 cap2 hb h2 h3 h4 => (decodeAll_any A2 bs cap2 W (hE.below hb) h2 (by omega) h3 h4).mono fun e w' ⟨v, q', x', y', he, ho, hd, hb'⟩ => by
      rcases her with ⟨k, y, g1, g2, g3, rfl, rfl, rfl⟩ | ⟨g1, rfl, rfl, rfl⟩
      · exact absurd hy g3
      · obtain ⟨rfl, rfl, rfl⟩ := (DR.flat g1).one hd
        exact ⟨v, he, ho, hb'⟩
    have HQR := Lib.hid hr
    obtain ⟨P, hP⟩ : ∃ P, q.length = P := ⟨_, rfl⟩
    rw [hP] at h2 h40 HL HN HF ⊢
    rw [hM] at HST HD
    have HP := Lib.hid hP
    have HM := Lib.hid hM
    clear hP hM her hE hr
    by_cases hy : yy = 0
    · have hx : ∃ x, x = xx := ⟨_, rfl⟩
      replace HD := HD hy
      subst hy
      clear hx
      go_enter Tryd.func7, Tryd.ntmps7
      go_wp2_with (first
        | (go_at_call 13; refine (HK.out _ HB.out).mono ?_; rintro e W0 ⟨rfl, hb⟩; replace HB := Lib.hid (HB.out.trans (hb.mono HB.out.size)); clear hb)
        | (go_at_call 31; refine (HL.out _ HB.out).mono ?_; rintro e W1 ⟨v1, rfl, ho1, hb⟩; obtain ⟨A1, cap1, hv1, hr1, -⟩ := ho1.form encQ_ok; rw [HP.out] at hv1; subst hv1; have HR1 := Lib.hid hr1; replace HB := Lib.hid (HB.out.trans (hb.mono HB.out.size)); clear ho1 hr1 hb)
        | (go_at_call 30; refine (HN.out _ _ _ HB.out HR1.out).mono ?_; rintro e W2 ⟨v2, rfl, ho2, hb⟩; obtain ⟨A2, cap2, hv2, hr2, hc2, hm2⟩ := ho2.form; rw [HM.out] at hv2 hc2; subst hv2; have HR2 := Lib.hid hr2; have HC2 := Lib.hid hc2; have HM2 := Lib.hid hm2; replace HB := Lib.hid (HB.out.trans (hb.mono HB.out.size)); clear ho2 hr2 hc2 hm2 hb HR1)
        | (go_at_call 32; refine (HF.out _ HB.out).mono ?_; rintro e W3 ⟨v3, rfl, ho3, hb⟩; obtain ⟨A3, cap3, hv3, hr3, -, -⟩ := ho3.form; rw [HM.out] at hv3; subst hv3; have hs1 := HST.out W3 _ A2 cap2 (HR2.out.below hb); have hs2 := HST.out W3 _ A3 cap3 hr3; replace HR2 := Lib.hid ((HR2.out.below hb).more hb.size); replace HB := Lib.hid (HB.out.trans (hb.mono HB.out.size)); clear ho3 hr3 hb)
        | (go_at_call 33; refine (HD.out _ _ _ HB.out HR2.out HC2.out HM2.out).mono ?_; rintro e W4 ⟨v4, rfl, ho4, hb⟩; obtain ⟨A4, cap4, hv4, hr4, -⟩ := ho4.form encQ_ok; rw [HP.out] at hv4; subst hv4; replace HB := Lib.hid (HB.out.trans (hb.mono HB.out.size)); have HZ := Lib.hid (show Z2 w A4 A q W4 from ⟨hr4, (HQR.out.below HB.out).more HB.out.size, HB.out⟩); clear ho4 hr4 hb hs1 hs2 HR2))
      clear HB HST HK HD HL HN HF HQR HM HC2 HM2
      have HPL := HP
      go_loopw [10] (fun i wr => ∃ k : Nat, k ≤ P ∧ i = .int .i64 k ∧ Z2 w A4 A q wr) (fun i _ => P - (intOf i).toNat)
      case atStart => exact ⟨0, by omega, rfl, HZ.out⟩
      case round =>
        obtain ⟨k, hk, rfl, hZ⟩ := hrel
        clear HZ
        by_cases hlt : k < P
        · have h3 : (k : Int) < (P : Int) := by omega
          obtain ⟨b1, o1, x, rfl, -, hx, -⟩ := hZ.1.at_ (j := k) (by rw [HPL.out]; exact hlt)
          obtain ⟨b2, o2, x2, rfl, -, -, -⟩ := hZ.2.1.at_ (j := k) (by rw [HPL.out]; exact hlt)
          have HX := Lib.hid hx
          have HZ2 := Lib.hid hZ
          clear hx hZ
          have r1 : ∀ V, Z2 w (some ⟨b1, o1, none⟩) (some ⟨b2, o2, none⟩) q V → V.rangeAt b1 (o1 + k * 4) (encQ x) := fun V hV => rqQ_range hV.1 HX.out
          have r2 : ∀ V, Z2 w (some ⟨b1, o1, none⟩) (some ⟨b2, o2, none⟩) q V → V.rangeAt b2 (o2 + k * 4) (encQ x) := fun V hV => rqQ_range hV.2.1 HX.out
          have HOF : Hid (∀ W, Z2 w (some ⟨b1, o1, none⟩) (some ⟨b2, o2, none⟩) q W → Calls Tryd.prog 28 #[valQ x] W fun e w' => e = .returned (valQ x) ∧ Z2 w (some ⟨b1, o1, none⟩) (some ⟨b2, o2, none⟩) q w') := Lib.hid fun W hW => (ofQ_any x W).mono fun e w' h => ⟨h.1, hW.next h.2⟩
          have hq := fun V => neQ x V
          have hg := fun V => guardQ .neq (.tmp 78) (.tmp 82) x x V
          go_wp2
          refine wp_region_held_drew (S := Z2 w (some ⟨b1, o1, none⟩) (some ⟨b2, o2, none⟩) q) (by kernel_rfl) (HZ2.out.drew) (fun hHeld => ?_)
          refine wpAnyH_take (i := 0) (v := ?_) (ops_atL rfl) (by kernel_rfl) (by kernel_rfl) (by kernel_rfl) (fun _ _ _ h => h) (Or.inl ⟨by rfl, ?_⟩) hHeld ?_
          rotate_left
          · (intro W hSW; go_simp; try with_reducible rfl)
          try simp only [Act.put, List.setIfInBounds_toArray, List.set_cons_zero, List.set_cons_succ]
          refine wpAnyH_take (i := 1) (v := ?_) (ops_atL rfl) (by kernel_rfl) (by kernel_rfl) (by kernel_rfl) (fun _ _ _ h => h) (Or.inl ⟨by rfl, ?_⟩) hHeld ?_
          rotate_left
          · (intro W hSW; go_simp; try with_reducible rfl)
          try simp only [Act.put, List.setIfInBounds_toArray, List.set_cons_zero, List.set_cons_succ]
          refine wpAnyH_take (i := 2) (v := ?_) (ops_atL rfl) (by kernel_rfl) (by kernel_rfl) (by kernel_rfl) (fun _ _ _ h => h) (Or.inl ⟨by rfl, ?_⟩) hHeld ?_
          rotate_left
          · (intro W hSW; go_simp; try with_reducible rfl)
          try simp only [Act.put, List.setIfInBounds_toArray, List.set_cons_zero, List.set_cons_succ]
          refine wpAnyH_take (i := 3) (v := valQ x) (ops_atL rfl) (by kernel_rfl) (by kernel_rfl) (by kernel_rfl) (fun _ _ _ h => h) (yieldsIf_load_mid (by rfl) 26 (.tmp 76) rfl b1 (o1 + k * 4) (by rfl) (encQ x) _ r1 Tryd.underlying26 rfl (insQ_info _)) hHeld ?_
          try simp only [Act.put, List.setIfInBounds_toArray, List.set_cons_zero, List.set_cons_succ]
          refine wpAnyH_take (i := 5) (v := ?_) (ops_atL rfl) (by kernel_rfl) (by kernel_rfl) (by kernel_rfl) (fun _ _ _ h => h) (Or.inl ⟨by rfl, ?_⟩) hHeld ?_
          rotate_left
          · (intro W hSW; go_simp; try with_reducible rfl)
          try simp only [Act.put, List.setIfInBounds_toArray, List.set_cons_zero, List.set_cons_succ]
          refine wpAnyH_take (i := 6) (v := ?_) (ops_atL rfl) (by kernel_rfl) (by kernel_rfl) (by kernel_rfl) (fun _ _ _ h => h) (Or.inl ⟨by rfl, ?_⟩) hHeld ?_
          rotate_left
          · (intro W hSW; go_simp; try with_reducible rfl)
          try simp only [Act.put, List.setIfInBounds_toArray, List.set_cons_zero, List.set_cons_succ]
          refine wpAnyH_take (i := 7) (v := ?_) (ops_atL rfl) (by kernel_rfl) (by kernel_rfl) (by kernel_rfl) (fun _ _ _ h => h) (Or.inl ⟨by rfl, ?_⟩) hHeld ?_
          rotate_left
          · (intro W hSW; go_simp; try with_reducible rfl)
          try simp only [Act.put, List.setIfInBounds_toArray, List.set_cons_zero, List.set_cons_succ]
          refine wpAnyH_take (i := 8) (v := valQ x) (ops_atL rfl) (by kernel_rfl) (by kernel_rfl) (by kernel_rfl) (fun _ _ _ h => h) (yieldsIf_load_mid (by rfl) 23 (.tmp 81) rfl b2 (o2 + k * 4) (by rfl) (encQ x) _ r2 Tryd.underlying23 rfl (refQ_info _)) hHeld ?_
          try simp only [Act.put, List.setIfInBounds_toArray, List.set_cons_zero, List.set_cons_succ]
          refine wpAnyH_ready (rs := [4]) (by kernel_rfl) (by simp) ?_
          refine AllReadyH.cons (ops_atL rfl) (fun K hK => ?_) AllReadyH.nil
          go_simp
          (go_at_call 28; refine (HOF.out _ hHeld).mono ?_; rintro e W' ⟨rfl, hb'⟩)
          refine hK.out _ _ (hb') (fun hHeld => ?_)
          clear hK K
          try simp only [Act.put, List.setIfInBounds_toArray, List.set_cons_zero, List.set_cons_succ]
          refine wpAnyH_take (i := 9) (v := ?_) (ops_atL rfl) (by kernel_rfl) (by kernel_rfl) (by kernel_rfl) (fun _ _ _ h => h) (Or.inl ⟨by rfl, ?_⟩) hHeld ?_
          rotate_left
          · (intro W hSW; go_simp; try with_reducible rfl)
          try simp only [Act.put, List.setIfInBounds_toArray, List.set_cons_zero, List.set_cons_succ]
          refine wpAnyH_done (by kernel_rfl) ?_ _
          have HH := Lib.hid hHeld
          clear hHeld r1 r2 hq hg
          go_wp2
          go_roundw
          case rel => exact ⟨k + 1, by omega, by go_num, HH.out⟩
          case measure => simp [intOf] <;> omega
        · have h3 : ¬ (k : Int) < (P : Int) := by omega
          go_wp2
          go_ret
          exact ⟨rfl, hZ.2.2⟩
    · have hy1 : ¬ yy = 0 := hy
      go_enter Tryd.func7, Tryd.ntmps7
      go_wp2_with (first
        | (go_at_call 13; refine (HK.out _ HB.out).mono ?_; rintro e W0 ⟨rfl, hb⟩; replace HB := Lib.hid (HB.out.trans (hb.mono HB.out.size)); clear hb)
        | (go_at_call 31; refine (HL.out _ HB.out).mono ?_; rintro e W1 ⟨v1, rfl, ho1, hb⟩; obtain ⟨A1, cap1, hv1, hr1, -⟩ := ho1.form encQ_ok; rw [HP.out] at hv1; subst hv1; have HR1 := Lib.hid hr1; replace HB := Lib.hid (HB.out.trans (hb.mono HB.out.size)); clear ho1 hr1 hb)
        | (go_at_call 30; refine (HN.out _ _ _ HB.out HR1.out).mono ?_; rintro e W2 ⟨v2, rfl, ho2, hb⟩; obtain ⟨A2, cap2, hv2, hr2, hc2, hm2⟩ := ho2.form; rw [HM.out] at hv2 hc2; subst hv2; have HR2 := Lib.hid hr2; have HC2 := Lib.hid hc2; have HM2 := Lib.hid hm2; replace HB := Lib.hid (HB.out.trans (hb.mono HB.out.size)); clear ho2 hr2 hc2 hm2 hb HR1)
        | (go_at_call 32; refine (HF.out _ HB.out).mono ?_; rintro e W3 ⟨v3, rfl, ho3, hb⟩; obtain ⟨A3, cap3, hv3, hr3, -, -⟩ := ho3.form; rw [HM.out] at hv3; subst hv3; have hs1 := HST.out W3 _ A2 cap2 (HR2.out.below hb); have hs2 := HST.out W3 _ A3 cap3 hr3; replace HR2 := Lib.hid ((HR2.out.below hb).more hb.size); replace HB := Lib.hid (HB.out.trans (hb.mono HB.out.size)); clear ho3 hr3 hb))
      go_ret
      exact ⟨rfl, HB.out⟩
  · have h2 : (q.length : Int) > 40 := by omega
    obtain ⟨P, hP⟩ : ∃ P, q.length = P := ⟨_, rfl⟩
    rw [hP] at h2 ⊢
    clear hP hE hr h40
    go_enter Tryd.func7, Tryd.ntmps7
    go_wp2_with (go_at_call 13; refine (HK.out _ HB.out).mono ?_; rintro e W1 ⟨rfl, hb⟩; replace HB := Lib.hid (HB.out.trans (hb.mono HB.out.size)); clear hb)
    go_ret
    exact ⟨rfl, HB.out⟩
end Go.Proofs.YtajkccigmiegkaaDoor
