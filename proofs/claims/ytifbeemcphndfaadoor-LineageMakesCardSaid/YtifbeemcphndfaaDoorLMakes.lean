/- lineage: the walk of the law LineageMakes. -/
import Derived.Test.YtifbeemcphndfaaDoorLParses
set_option linter.unusedVariables false
namespace Go.Proofs.YtifbeemcphndfaaDoor
open Go.RowKit

theorem mkL_ok {l : List Int} (h : (mkL l).2 = 0) : l.length ≤ 8 ∧ Good (l.map Int.toNat) ∧ (l.map Int.toNat).map Int.ofNat = l ∧ (mkL l).1 = ⟨(tx (l.map Int.toNat)).toArray⟩ := by
  unfold mkL at h ⊢
  by_cases h8 : 8 < l.length
  · rw [if_pos h8] at h; cases h
  · rw [if_neg h8] at h ⊢
    by_cases ha : l.all isO = true
    · rw [if_pos ha]
      rw [List.all_eq_true] at ha
      refine ⟨by omega, ⟨by rw [List.length_map]; omega, fun x hx => ?_⟩, ?_, rfl⟩
      · obtain ⟨z, hz, rfl⟩ := List.mem_map.1 hx
        obtain ⟨n, rfl, h1, h2⟩ := isO_nat (ha z hz)
        exact ⟨by simpa using h1, by simpa using h2⟩
      · rw [List.map_map]
        conv => rhs; rw [← List.map_id l]
        refine List.map_congr_left fun z hz => ?_
        obtain ⟨n, rfl, _, _⟩ := isO_nat (ha z hz)
        rfl
    · rw [if_neg ha] at h; cases h

set_option maxHeartbeats 4000000 in
set_option maxRecDepth 100000 in
theorem lineageMakes_walk (A : Option Addr) (l : List Int) (c : Nat) (w : World) (hP : Pow w) (hr : RZ w w.heap.size A l) (hlc : l.length ≤ c) (hcm : c ≤ maxLen) :
    Calls Tryd.prog 3 #[.slice A l.length c] w fun e w' => e = .returned (.bool true) ∧ Below w.heap.size w w' := by
  have HPW := Lib.hid (fun W (hb : Below w.heap.size w W) => hP.below hb hP.lt)
  have HK : Hid (∀ W, Below w.heap.size w W → Calls Tryd.prog 14 #[] W fun e w' => e = .returned (.bool true) ∧ Below W.heap.size W w') := Lib.hid fun W hb => known_any W (HPW.out W hb)
  have HB := Lib.hid (Below.refl w.heap.size w)
  have HR := Lib.hid (fun W (hb : Below w.heap.size w W) => hr.below hb)
  by_cases h20 : 20 < l.length
  · have g20 : (20 : Int) < (l.length : Int) := by omega
    have gc : (20 : Int) ≤ (c : Int) := by omega
    have ht : (l.take 20).length = 20 := by rw [List.length_take]; omega
    have hm : mkL (l.take 20) = (⟨#[]⟩, 9) := by unfold mkL; rw [if_pos (by omega)]
    have hrt : ∀ W, Below w.heap.size w W → RZ W w.heap.size A (l.take 20) := fun W hb hn => by
      obtain ⟨b, off, h1, h2, h3⟩ := (HR.out W hb) (by omega)
      refine ⟨b, off, h1, h2, fun j s hj => h3 j s ?_⟩
      rw [List.getElem?_take] at hj
      split at hj
      · exact hj
      · cases hj
    have HMK : Hid (∀ W, Below w.heap.size w W → Calls Tryd.prog 12 #[.slice A 20 c] W fun e w' => e = .returned (.tuple #[.string ⟨#[]⟩, .int .i64 9]) ∧ Below W.heap.size W w') := Lib.hid fun W hb => by
      have h := make_any A (l.take 20) c w.heap.size W (hrt W hb) hb.size (HPW.out W hb)
      rw [hm, ht] at h
      exact h
    have HRM : Hid (∀ W, Below w.heap.size w W → Calls Tryd.prog 13 #[.slice A 20 c] W fun e w' => e = .returned (.tuple #[.string ⟨#[]⟩, .int .i64 9]) ∧ Below W.heap.size W w') := Lib.hid fun W hb => by
      have h := refMake_any A (l.take 20) c w.heap.size W (hrt W hb) hb.size
      rw [hm, ht] at h
      exact h
    clear hrt hm ht hr hP h20
    go_enter Tryd.func3, Tryd.ntmps3
    go_wp2_with (first
      | (go_at_call 12; refine (HMK.out _ HB.out).mono ?_; rintro e W1 ⟨rfl, hb⟩; replace HB := Lib.hid (HB.out.trans (hb.mono HB.out.size)); clear hb)
      | (go_at_call 13; refine (HRM.out _ HB.out).mono ?_; rintro e W1 ⟨rfl, hb⟩; replace HB := Lib.hid (HB.out.trans (hb.mono HB.out.size)); clear hb)
      | (go_at_call 14; refine (HK.out _ HB.out).mono ?_; rintro e W1 ⟨rfl, hb⟩; replace HB := Lib.hid (HB.out.trans (hb.mono HB.out.size)); clear hb))
    go_ret
    exact ⟨rfl, HB.out⟩
  · have g20 : ¬ (20 : Int) < (l.length : Int) := by omega
    obtain ⟨M, hM⟩ : ∃ M, M = mkL l := ⟨_, rfl⟩
    have HMK : Hid (∀ W, Below w.heap.size w W → Calls Tryd.prog 12 #[.slice A l.length c] W fun e w' => e = .returned (.tuple #[.string M.1, .int .i64 (M.2 : Int)]) ∧ Below W.heap.size W w') := Lib.hid fun W hb => by
      rw [hM]; exact make_any A l c w.heap.size W (HR.out W hb) hb.size (HPW.out W hb)
    have HRM : Hid (∀ W, Below w.heap.size w W → Calls Tryd.prog 13 #[.slice A l.length c] W fun e w' => e = .returned (.tuple #[.string M.1, .int .i64 (M.2 : Int)]) ∧ Below W.heap.size W w') := Lib.hid fun W hb => by
      rw [hM]; exact refMake_any A l c w.heap.size W (HR.out W hb) hb.size
    by_cases h0 : M.2 = 0
    · have hok := mkL_ok (l := l) (by rw [← hM]; exact h0)
      obtain ⟨k8, hg, hback, hm1⟩ := hok
      rw [← hM] at hm1
      obtain ⟨o, ho⟩ : ∃ o, o = l.map Int.toNat := ⟨_, rfl⟩
      rw [← ho] at hg hback hm1
      obtain ⟨T, hT⟩ : ∃ T : ByteArray, T = ⟨(tx o).toArray⟩ := ⟨_, rfl⟩
      have hMe : M = (T, 0) := Prod.ext (by rw [hm1, hT]) h0
      have hTl : T.data.toList = tx o := by rw [hT]
      have hpT : parseL T.data.toList = (o, 0, 0) := by rw [hTl]; exact parseL_tx hg
      have zT : T.size ≤ 1000000 := by
        rw [hT]; show (tx o).toArray.size ≤ _
        rw [List.size_toArray]
        exact Nat.le_trans (tx_len (fun x hx => (hg.2 x hx).2)) (by have := hg.1; omega)
      subst hMe
      have HPA : Hid (∀ W, Calls Tryd.prog 15 #[.string T] W fun e w' => e = .returned (.tuple #[.string T, .int .i64 0, .int .i64 0]) ∧ Below W.heap.size W w') := Lib.hid fun W => by
        have h := parse_any T W zT (o, 0, 0) hpT.symm
        exact h
      have HOR : Hid (∀ W, Calls Tryd.prog 17 #[.string T] W fun e w' => ∃ v, e = .returned v ∧ OI 3 w' W.heap.size v o ∧ Below W.heap.size W w') := Lib.hid fun W => ordinals_any T W zT o (by rw [hpT])
      have hol : o.length = l.length := by rw [ho, List.length_map]
      have HSA : Hid (∀ A3 c3 W, RI W W.heap.size A3 o → Below w.heap.size w W → Calls Tryd.prog 16 #[.slice A3 l.length c3, .slice A l.length c] W fun e w' => e = .returned (.bool true) ∧ Below W.heap.size W w') := Lib.hid fun A3 c3 W h1 hb => by
        have h := same_any (o.map Int.ofNat) l A3 A c3 c W.heap.size W h1.toRZ ((HR.out W hb).more hb.size) (by rw [List.length_map]; omega) (by omega)
        rw [List.length_map, hol] at h
        refine h.mono ?_
        rintro e w' ⟨h2, h3⟩
        exact ⟨by rw [h2, hback]; simp, h3⟩
      have HV : Hid (∀ W, Calls Tryd.prog 18 #[.string T] W fun e w' => e = .returned (.bool true) ∧ Below W.heap.size W w') := Lib.hid fun W => by
        have h := valid_any T W zT
        have h2 : validB T.data.toList = true := by unfold validB; rw [hpT]; rfl
        rw [h2] at h
        exact h
      have HOL := Lib.hid hol
      clear hM h0 hg hback hm1 ho hT hTl hpT zT hol k8 h20 hr hP
      go_enter Tryd.func3, Tryd.ntmps3
      go_wp2_with (first
        | (go_at_call 12; refine (HMK.out _ HB.out).mono ?_; rintro e W1 ⟨rfl, hb⟩; replace HB := Lib.hid (HB.out.trans (hb.mono HB.out.size)); clear hb)
        | (go_at_call 13; refine (HRM.out _ HB.out).mono ?_; rintro e W1 ⟨rfl, hb⟩; replace HB := Lib.hid (HB.out.trans (hb.mono HB.out.size)); clear hb)
        | (go_at_call 14; refine (HK.out _ HB.out).mono ?_; rintro e W1 ⟨rfl, hb⟩; replace HB := Lib.hid (HB.out.trans (hb.mono HB.out.size)); clear hb)
        | (go_at_call 15; refine (HPA.out _).mono ?_; rintro e W1 ⟨rfl, hb⟩; replace HB := Lib.hid (HB.out.trans (hb.mono HB.out.size)); clear hb)
        | (go_at_call 17; refine (HOR.out _).mono ?_; rintro e W3 ⟨v, rfl, ho3, hb⟩; replace HB := Lib.hid (HB.out.trans (hb.mono HB.out.size)); (obtain ⟨A3, c3, hv3, hr3, _, _⟩ := ho3.form); have HR3 := Lib.hid hr3; rw [HOL.out] at hv3; subst hv3; clear ho3 hb hr3)
        | (go_at_call 16; refine (HSA.out _ _ _ HR3.out HB.out).mono ?_; rintro e W1 ⟨rfl, hb⟩; replace HB := Lib.hid (HB.out.trans (hb.mono HB.out.size)); clear hb)
        | (go_at_call 18; refine (HV.out _).mono ?_; rintro e W1 ⟨rfl, hb⟩; replace HB := Lib.hid (HB.out.trans (hb.mono HB.out.size)); clear hb))
      go_ret
      exact ⟨rfl, HB.out⟩
    · obtain ⟨T, f⟩ := M
      simp only at HMK HRM h0
      have gf : ((f : Int) != 0) = true := by simp; omega
      clear hM h0 hr hP h20
      go_enter Tryd.func3, Tryd.ntmps3
      go_wp2_with (first
        | (go_at_call 12; refine (HMK.out _ HB.out).mono ?_; rintro e W1 ⟨rfl, hb⟩; replace HB := Lib.hid (HB.out.trans (hb.mono HB.out.size)); clear hb)
        | (go_at_call 13; refine (HRM.out _ HB.out).mono ?_; rintro e W1 ⟨rfl, hb⟩; replace HB := Lib.hid (HB.out.trans (hb.mono HB.out.size)); clear hb)
        | (go_at_call 14; refine (HK.out _ HB.out).mono ?_; rintro e W1 ⟨rfl, hb⟩; replace HB := Lib.hid (HB.out.trans (hb.mono HB.out.size)); clear hb))
      go_ret
      exact ⟨rfl, HB.out⟩
end Go.Proofs.YtifbeemcphndfaaDoor
