/- The walk of LineageSorts. -/
import Derived.Test.YtdfenaoddbdppaaDoorLTopsW
import Derived.Test.YtdfenaoddbdppaaDoorLRTops
import Derived.Test.YtdfenaoddbdppaaDoorLKnown
set_option linter.unusedVariables false
namespace Go.Proofs.YtdfenaoddbdppaaDoor
open Go.RowKit

theorem RT.at_below {w w' : World} {B B' : Nat} {A : Option Addr} {l : List ByteArray} (h : RT w B A l) (hb : Below B' w w') (hB : B ≤ B') : RT w' B' A l := fun hn => by
  obtain ⟨b, off, e, h1, h2⟩ := h hn
  exact ⟨b, off, e, by omega, fun j s hj => (hb.cell (p := ⟨b, off + j, none⟩) (by show b < B'; omega)).trans (h2 j s hj)⟩
theorem OT.shapeA {e : TypeId} {w : World} {base n cap : Nat} {A : Option Addr} {l : List ByteArray} (h : OT e w base (.slice A n cap) l) : A = none ∨ ∃ b off, A = some ⟨b, off, none⟩ := by
  rcases h.2 with ⟨hv, _⟩ | ⟨g, c, cur, hv, _⟩
  · cases hv; exact .inl rfl
  · cases hv; exact .inr ⟨g, 0, rfl⟩
theorem equal_same (A A' : Option Addr) (l : List ByteArray) (c c' B B' n : Nat) (w : World) (hn : n = l.length) (hr : RT w B A l) (hr' : RT w B' A' l) (hl : l.length ≤ 1000000) :
    Calls Tryd.prog 34 #[.slice A n c, .slice A' n c'] w fun e w' => e = .returned (.bool true) ∧ Below w.heap.size w w' := by
  subst hn
  refine (equal_any A A' l l c c' B B' w hr hr' hl).mono ?_
  rintro e w' ⟨rfl, n, rfl⟩
  exact ⟨by simp, ⟨rfl, rfl, rfl, Nat.le_refl _, fun _ _ => rfl⟩⟩

set_option maxHeartbeats 4000000 in
set_option maxRecDepth 100000 in
theorem lineageSorts_walk (A : Option Addr) (l : List ByteArray) (c : Nat) (w : World) (hP : Pow w) (hr : RT w w.heap.size A l) (hcap : l.length ≤ c) (hc : c ≤ maxLen) (hz : ∀ s ∈ l, s.size ≤ maxLen) :
    Calls Tryd.prog 9 #[.slice A l.length c] w fun e w' => e = .returned (.bool true) ∧ Below w.heap.size w w' := by
  have HNM := Lib.hid (names_any A l c w.heap.size w hr (Nat.le_refl _) hz)
  have hLs : ∀ s ∈ namesS l, s.size ≤ 1000000 := fun s hs => by have := namesS_size l s hs; omega
  have hLl : (namesS l).length ≤ 1000000 := by have := namesS_length l; omega
  obtain ⟨L, hL⟩ : ∃ L, L = namesS l := ⟨_, rfl⟩
  rw [← hL] at HNM hLs hLl
  have HK : Hid (∀ W, Below w.heap.size w W → Calls Tryd.prog 14 #[] W fun e w' => e = .returned (.bool true) ∧ Below W.heap.size W w') := Lib.hid fun W hb => known_any W (hP.below hb hP.lt)
  obtain ⟨M, hM⟩ : ∃ M, M = L.length := ⟨_, rfl⟩
  obtain ⟨S, hS⟩ : ∃ S, S = sortS L := ⟨_, rfl⟩
  obtain ⟨P, hPl⟩ : ∃ P, P = S.length := ⟨_, rfl⟩
  obtain ⟨T, hT⟩ : ∃ T, T = topsS S := ⟨_, rfl⟩
  obtain ⟨Q, hQ⟩ : ∃ Q, Q = T.length := ⟨_, rfl⟩
  have hSl : S.length ≤ 1000000 := by rw [hS]; have := sortS_length_le L; omega
  have hTl : T.length ≤ 1000000 := by rw [hT]; have := List.length_filter_le (fun x => S.all fun y => decide (y = x) || !inB x y) S; unfold topsS; omega
  have HSO : Hid (∀ A1 cap1 W B, RT W B A1 L → B ≤ W.heap.size → (A1 = none ∨ ∃ b off, A1 = some ⟨b, off, none⟩) → Calls Tryd.prog 35 #[.slice A1 M cap1] W fun e w' => ∃ v, e = .returned v ∧ OT 23 w' W.heap.size v S ∧ Below W.heap.size W w') := Lib.hid fun A1 cap1 W B h1 h2 h3 => by rw [hM, hS]; exact sort_any A1 L cap1 B W h1 h3 h2 hLs hLl
  have HTO : Hid (∀ A1 cap1 W B, RT W B A1 L → B ≤ W.heap.size → (A1 = none ∨ ∃ b off, A1 = some ⟨b, off, none⟩) → Calls Tryd.prog 37 #[.slice A1 M cap1] W fun e w' => ∃ v, e = .returned v ∧ OT 23 w' W.heap.size v T ∧ Below W.heap.size W w') := Lib.hid fun A1 cap1 W B h1 h2 h3 => by rw [hM, hT, hS]; exact tops_any A1 L cap1 B W h1 h3 h2 hLs hLl
  have HRS : Hid (∀ A1 cap1 W B, RT W B A1 L → B ≤ W.heap.size → Calls Tryd.prog 36 #[.slice A1 M cap1] W fun e w' => ∃ v, e = .returned v ∧ OGT w' W.heap.size v S ∧ Below W.heap.size W w') := Lib.hid fun A1 cap1 W B h1 h2 => by rw [hM, hS]; exact refSort_any A1 L cap1 B W h1 h2 hLs hLl
  have HRT : Hid (∀ A1 cap1 W B, RT W B A1 L → B ≤ W.heap.size → Calls Tryd.prog 38 #[.slice A1 M cap1] W fun e w' => ∃ v, e = .returned v ∧ OT 9 w' W.heap.size v T ∧ Below W.heap.size W w') := Lib.hid fun A1 cap1 W B h1 h2 => by rw [hM, hT, hS]; exact refTops_any A1 L cap1 B W h1 h2 hLs hLl
  have HML := Lib.hid hM
  have HPL := Lib.hid hPl
  have HQL := Lib.hid hQ
  have ELL := Lib.hid hLl
  have ESL := Lib.hid hSl
  have ETL := Lib.hid hTl
  clear hP hr hcap hc hz hLs hLl hL hS hT hSl hTl hM hPl hQ
  go_enter Tryd.func9, Tryd.ntmps9
  go_wp2_with (first
    | (go_at_call 33; refine HNM.out.mono ?_; rintro e W1 ⟨v1, v2, rfl, ho1, ho2, _, hb1⟩; obtain ⟨A1, cap1, hv1, hr1, _⟩ := ho1.form; obtain ⟨A2, cap2, hv2, hr2, _⟩ := ho2.form; rw [← HML.out] at hv1 hv2; subst hv1 hv2; have SH := Lib.hid ho1.shapeA; have HR1 := Lib.hid hr1; have HR2 := Lib.hid hr2; have HB0 := Lib.hid hb1; have HB := Lib.hid (Below.refl W1.heap.size W1); clear ho1 ho2 hr1 hr2 hb1)
    | (go_at_call 14; refine (HK.out _ (HB0.out.trans (HB.out.mono HB0.out.size))).mono ?_; rintro e W2 ⟨rfl, hb2⟩; replace HB := Lib.hid (HB.out.trans (hb2.mono HB.out.size)); clear hb2)
    | (go_at_call 35; refine (HSO.out _ _ _ _ (HR1.out.at_below HB.out (Nat.le_refl _)) HB.out.size SH.out).mono ?_; rintro e W3 ⟨v3, rfl, ho3, hb3⟩; obtain ⟨A3, cap3, hv3, hr3, _⟩ := ho3.form; rw [← HPL.out] at hv3; subst hv3; have HR3 := Lib.hid hr3; replace HB := Lib.hid (HB.out.trans (hb3.mono HB.out.size)); clear ho3 hb3 hr3)
    | (go_at_call 36; refine (HRS.out _ _ _ _ (HR2.out.at_below HB.out (Nat.le_refl _)) HB.out.size).mono ?_; rintro e W4 ⟨v4, rfl, ho4, hb4⟩; obtain ⟨A4, cap4, hv4, hr4, _⟩ := ho4.form; rw [← HPL.out] at hv4; subst hv4; have HR4 := Lib.hid hr4; have HR3' := Lib.hid (HR3.out.below hb4); replace HB := Lib.hid (HB.out.trans (hb4.mono HB.out.size)); clear ho4 hb4 hr4)
    | (go_at_call 37; refine (HTO.out _ _ _ _ (HR1.out.at_below HB.out (Nat.le_refl _)) HB.out.size SH.out).mono ?_; rintro e W6 ⟨v6, rfl, ho6, hb6⟩; obtain ⟨A6, cap6, hv6, hr6, _⟩ := ho6.form; rw [← HQL.out] at hv6; subst hv6; have HR6 := Lib.hid hr6; replace HB := Lib.hid (HB.out.trans (hb6.mono HB.out.size)); clear ho6 hb6 hr6)
    | (go_at_call 38; refine (HRT.out _ _ _ _ (HR2.out.at_below HB.out (Nat.le_refl _)) HB.out.size).mono ?_; rintro e W7 ⟨v7, rfl, ho7, hb7⟩; obtain ⟨A7, cap7, hv7, hr7, _⟩ := ho7.form; rw [← HQL.out] at hv7; subst hv7; have HR7 := Lib.hid hr7; have HR6' := Lib.hid (HR6.out.below hb7); replace HB := Lib.hid (HB.out.trans (hb7.mono HB.out.size)); clear ho7 hb7 hr7)
    | (go_at_call 34; (with_reducible refine (equal_same A3 A4 S cap3 cap4 _ _ P _ HPL.out HR3'.out HR4.out ESL.out).mono ?_); rintro e W5 ⟨rfl, hb5⟩; replace HB := Lib.hid (HB.out.trans (hb5.mono HB.out.size)); clear hb5)
    | (go_at_call 34; (with_reducible refine (equal_same A6 A7 T cap6 cap7 _ _ Q _ HQL.out HR6'.out HR7.out ETL.out).mono ?_); rintro e W8 ⟨rfl, hb8⟩; replace HB := Lib.hid (HB.out.trans (hb8.mono HB.out.size)); clear hb8)
    | (go_at_call 34; (with_reducible refine (equal_same A1 A2 L cap1 cap2 _ _ M _ HML.out (HR1.out.at_below HB.out (Nat.le_refl _)) (HR2.out.at_below HB.out (Nat.le_refl _)) ELL.out).mono ?_); rintro e W9 ⟨rfl, hb9⟩; replace HB := Lib.hid (HB.out.trans (hb9.mono HB.out.size)); clear hb9))
  go_ret
  exact ⟨rfl, HB0.out.trans (HB.out.mono HB0.out.size)⟩
end Go.Proofs.YtdfenaoddbdppaaDoor
