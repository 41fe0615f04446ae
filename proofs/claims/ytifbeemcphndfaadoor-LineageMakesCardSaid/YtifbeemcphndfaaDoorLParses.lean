/- lineage: the walk of the law LineageParses. -/
import Derived.Test.YtifbeemcphndfaaDoorLKnown
set_option linter.unusedVariables false
namespace Go.Proofs.YtifbeemcphndfaaDoor
open Go.RowKit

theorem ba_ext {x : ByteArray} {l : List UInt8} (h : l = x.data.toList) : (⟨l.toArray⟩ : ByteArray) = x := by
  subst h; apply ByteArray.ext; apply Array.ext'; simp

set_option maxHeartbeats 4000000 in
set_option maxRecDepth 100000 in
theorem lineageParses_walk (S : ByteArray) (w : World) (hP : Pow w) (hS : S.size ≤ maxLen) :
    Calls Tryd.prog 4 #[.string S] w fun e w' => e = .returned (.bool true) ∧ Below w.heap.size w w' := by
  obtain ⟨m, hm, hm1, hm2⟩ : ∃ m : Nat, min (S.size : Int) 100 = (m : Int) ∧ m ≤ S.size ∧ m ≤ 100 := ⟨min S.size 100, by omega, by omega, by omega⟩
  have hm3 : (m : Int) ≤ (S.size : Int) := by omega
  have hTs : (S.extract 0 m).size ≤ 1000000 := by rw [ByteArray.size_extract]; omega
  obtain ⟨T, hT⟩ : ∃ T, T = S.extract 0 m := ⟨_, rfl⟩
  obtain ⟨R, hR⟩ : ∃ R, R = parseL T.data.toList := ⟨_, rfl⟩
  have HK : Hid (∀ W, Below w.heap.size w W → Calls Tryd.prog 14 #[] W fun e w' => e = .returned (.bool true) ∧ Below W.heap.size W w') := Lib.hid fun W hb => known_any W (hP.below hb hP.lt)
  have HPA : Hid (∀ W, Below w.heap.size w W → Calls Tryd.prog 15 #[.string T] W fun e w' => e = .returned (.tuple #[.string (goodS T R.2.2), .int .i64 (R.2.1 : Int), .int .i64 (R.2.2 : Int)]) ∧ Below w.heap.size w w') := Lib.hid fun W hb =>
    (parse_any T W (by rw [hT]; exact hTs) R hR).mono fun e w' h => ⟨h.1, hb.trans (h.2.mono hb.size)⟩
  have HRP : Hid (∀ W, Below w.heap.size w W → Calls Tryd.prog 19 #[.string T] W fun e w' => ∃ v, e = .returned (.tuple #[v, .int .i64 (R.2.1 : Int), .int .i64 (R.2.2 : Int)]) ∧ OI 3 w' W.heap.size v R.1 ∧ Below w.heap.size w w') := Lib.hid fun W hb =>
    (refParse_any T W (by rw [hT]; exact hTs) R hR).mono fun e w' ⟨v, h1, h2, h3⟩ => ⟨v, h1, h2, hb.trans (h3.mono hb.size)⟩
  have HV : Hid (∀ W, Below w.heap.size w W → Calls Tryd.prog 18 #[.string T] W fun e w' => e = .returned (.bool (R.2.2 == 0)) ∧ Below w.heap.size w w') := Lib.hid fun W hb =>
    (valid_any T W (by rw [hT]; exact hTs)).mono fun e w' h => ⟨by rw [h.1, hR]; rfl, hb.trans (h.2.mono hb.size)⟩
  have htx : (⟨(textS R.1).toArray⟩ : ByteArray) = goodS T R.2.2 := by
    rw [textS_tx]
    unfold goodS
    split
    · rename_i h0
      rw [hR] at h0 ⊢
      exact ba_ext (parseL_text h0).2.2
    · rename_i h0
      rw [hR] at h0 ⊢
      rw [parseL_none h0]; rfl
  have HTX : Hid (∀ A c B W, RI W B A R.1 → B ≤ W.heap.size → Below w.heap.size w W → Calls Tryd.prog 20 #[.slice A R.1.length c] W fun e w' => e = .returned (.string (goodS T R.2.2)) ∧ Below w.heap.size w w') := Lib.hid fun A c B W hr hB hb => by
    have h := refText_any A R.1 c B W hr hB (by rw [hR]; have := parseL_len8 T.data.toList; omega) (fun x hx => by rw [hR] at hx; exact (parseL_num _ x hx).2)
    rw [htx] at h
    exact h.mono fun e w' h => ⟨h.1, hb.trans (h.2.mono hb.size)⟩
  have HT := Lib.hid hT
  clear htx hR hTs hP hT
  obtain ⟨o, x, e⟩ := R
  simp only at HPA HRP HV HTX
  by_cases he : e = 0
  · subst he
    have hg : goodS T 0 = T := rfl
    rw [hg] at HPA HTX
    clear hg
    go_enter Tryd.func4, Tryd.ntmps4
    go_wp2_with (first
      | (go_at_call 15; rw [← HT.out]; refine (HPA.out _ (Below.refl _ _)).mono ?_; rintro e W1 ⟨rfl, hb1⟩; have HB1 := Lib.hid hb1; clear hb1)
      | (go_at_call 19; refine (HRP.out _ HB1.out).mono ?_; rintro e W2 ⟨v, rfl, ho2, hb2⟩; have HB2 := Lib.hid hb2; (obtain ⟨A1, c1, hv1, hr1, _, _⟩ := ho2.form); have HR1 := Lib.hid hr1; subst hv1; clear ho2 hb2 hr1)
      | (go_at_call 14; refine (HK.out _ HB2.out).mono ?_; rintro e W3 ⟨rfl, hb3⟩; have HB3 := Lib.hid (HB2.out.trans (hb3.mono HB2.out.size)); have HR3 := Lib.hid (HR1.out.below hb3); have HS3 := Lib.hid hb3.size; clear hb3)
      | (go_at_call 20; refine (HTX.out _ _ _ _ HR3.out HS3.out HB3.out).mono ?_; rintro e W4 ⟨rfl, hb4⟩; have HB4 := Lib.hid hb4; clear hb4)
      | (go_at_call 18; refine (HV.out _ HB4.out).mono ?_; rintro e W5 ⟨rfl, hb5⟩; have HB5 := Lib.hid hb5; clear hb5))
    go_ret
    exact ⟨rfl, HB5.out⟩
  · have ge : ((e : Int) == 0) = false := by simp; omega
    have gn : ((e : Int) != 0) = true := by simp; omega
    have gd : (e == 0) = false := by simp [he]
    have hg : goodS T e = ⟨#[]⟩ := by unfold goodS; rw [if_neg he]
    rw [hg] at HPA HTX
    rw [gd] at HV
    clear hg gd he
    go_enter Tryd.func4, Tryd.ntmps4
    go_wp2_with (first
      | (go_at_call 15; rw [← HT.out]; refine (HPA.out _ (Below.refl _ _)).mono ?_; rintro e W1 ⟨rfl, hb1⟩; have HB1 := Lib.hid hb1; clear hb1)
      | (go_at_call 19; refine (HRP.out _ HB1.out).mono ?_; rintro e W2 ⟨v, rfl, ho2, hb2⟩; have HB2 := Lib.hid hb2; (obtain ⟨A1, c1, hv1, hr1, _, _⟩ := ho2.form); have HR1 := Lib.hid hr1; subst hv1; clear ho2 hb2 hr1)
      | (go_at_call 14; refine (HK.out _ HB2.out).mono ?_; rintro e W3 ⟨rfl, hb3⟩; have HB3 := Lib.hid (HB2.out.trans (hb3.mono HB2.out.size)); have HR3 := Lib.hid (HR1.out.below hb3); have HS3 := Lib.hid hb3.size; clear hb3)
      | (go_at_call 20; refine (HTX.out _ _ _ _ HR3.out HS3.out HB3.out).mono ?_; rintro e W4 ⟨rfl, hb4⟩; have HB4 := Lib.hid hb4; clear hb4)
      | (go_at_call 18; refine (HV.out _ HB4.out).mono ?_; rintro e W5 ⟨rfl, hb5⟩; have HB5 := Lib.hid hb5; clear hb5))
    go_ret
    exact ⟨rfl, HB5.out⟩
end Go.Proofs.YtifbeemcphndfaaDoor
