/- lineage: the walk of the law LineageParts. -/
import Derived.Test.YtifbeemcphndfaaDoorLShort
import Derived.Test.YtifbeemcphndfaaDoorLParses
import Derived.OpenShut
set_option linter.unusedVariables false
namespace Go.Proofs.YtifbeemcphndfaaDoor
open Go.RowKit

theorem refText_take (o : List Nat) (h8 : o.length ≤ 8) (hn : ∀ x ∈ o, x ≤ 999999) (k : Nat) (hk : k ≤ o.length) (A : Option Addr) (c B : Nat) (W : World) (hr : RI W B A o) (hB : B ≤ W.heap.size) :
    Calls Tryd.prog 20 #[.slice A k c] W fun e w' => e = .returned (.string ⟨(tx (o.take k)).toArray⟩) ∧ Below W.heap.size W w' := by
  have h1 := refText_any A (o.take k) c B W (hr.take k) hB (by rw [List.length_take]; omega) (fun x hx => hn x (List.mem_of_mem_take hx))
  rw [List.length_take, Nat.min_eq_left hk, textS_tx] at h1
  exact h1
theorem same_nat (o : List Nat) (h8 : o.length ≤ 8) (A B : Option Addr) (c d M : Nat) (W : World) (hx : RI W M A o) (hy : RI W M B o) (hM : W.heap.size ≤ M) :
    Calls Tryd.prog 16 #[.slice A o.length c, .slice B o.length d] W fun e w' => e = .returned (.bool true) ∧ Below W.heap.size W w' := by
  have h1 := same_any (o.map Int.ofNat) (o.map Int.ofNat) A B c d M W hx.toRZ hy.toRZ (by rw [List.length_map]; omega) (by rw [List.length_map]; omega)
  rw [List.length_map] at h1
  refine h1.mono ?_
  rintro e w' ⟨h2, h3⟩
  exact ⟨by rw [h2]; simp, h3.mono hM⟩
theorem RI.more {w : World} {B B' : Nat} {A : Option Addr} {l : List Nat} (h : RI w B A l) (hB : B ≤ B') : RI w B' A l := fun hn => by
  obtain ⟨b, off, rfl, hlt, hc⟩ := h hn
  exact ⟨b, off, rfl, by omega, hc⟩
/-- A child that there may be: its name, and what is said of it. -/
theorem child_good {s : List UInt8} {m : Nat} (hv : validB s = true) (h8 : (parseL s).1.length < 8) (h1 : 1 ≤ m) (h2 : m ≤ 999999) :
    childL s (m : Int) = (⟨(tx ((parseL s).1 ++ [m])).toArray⟩, 0) ∧ parseL (tx ((parseL s).1 ++ [m])) = ((parseL s).1 ++ [m], 0, 0) := by
  have hg : Good ((parseL s).1 ++ [m]) := ⟨by rw [List.length_append, List.length_singleton]; omega, fun x hx => by
    rcases List.mem_append.1 hx with hx | hx
    · exact parseL_num s x hx
    · rw [List.mem_singleton.1 hx]; exact ⟨h1, h2⟩⟩
  refine ⟨?_, parseL_tx hg⟩
  unfold childL
  rw [if_pos hv, if_pos (by simp [isO]; omega)]
  have := mkL_good hg
  rw [List.map_append] at this
  exact this
theorem child_full {s : List UInt8} {m : Int} (hv : validB s = true) (h8 : (parseL s).1.length = 8) (h1 : isO m = true) : childL s m = (⟨#[]⟩, 9) := by
  unfold childL
  rw [if_pos hv, if_pos h1]
  unfold mkL
  rw [if_pos (by rw [List.length_append, List.length_map, h8, List.length_singleton]; omega)]

set_option maxHeartbeats 8000000 in
set_option maxRecDepth 100000 in
theorem lineageParts_walk (S0 : ByteArray) (m : Int) (w : World) (hP : Pow w) (hS0 : S0.size ≤ maxLen) (hm : (Lit.int .i64 m).wf = true) :
    Calls Tryd.prog 5 #[.string S0, .int .i64 m] w fun e w' => e = .returned (.bool true) ∧ Below w.heap.size w w' := by
  obtain ⟨a, ha⟩ : ∃ a, a = shortN S0 := ⟨_, rfl⟩
  have H0 : Hid (∀ W, Calls Tryd.prog 21 #[.string S0] W fun e w' => e = .returned (.string a) ∧ W = w') := Lib.hid fun W => by rw [ha]; exact (short_any S0 W hS0).mono fun e w' h => ⟨h.1, h.2.symm⟩
  have za : a.size ≤ 1000000 := by rw [ha]; have := shortN_size S0; omega
  clear ha hS0
  have HPW := Lib.hid (fun W (hb : Below w.heap.size w W) => hP.below hb hP.lt)
  have HK : Hid (∀ W, Below w.heap.size w W → Calls Tryd.prog 14 #[] W fun e w' => e = .returned (.bool true) ∧ Below W.heap.size W w') := Lib.hid fun W hb => known_any W (HPW.out W hb)
  obtain ⟨R, hR⟩ : ∃ R, R = parseL a.data.toList := ⟨_, rfl⟩
  have HRP : Hid (∀ W, Calls Tryd.prog 19 #[.string a] W fun e w' => ∃ v, e = .returned (.tuple #[v, .int .i64 (R.2.1 : Int), .int .i64 (R.2.2 : Int)]) ∧ OI 3 w' W.heap.size v R.1 ∧ Below W.heap.size W w') := Lib.hid fun W => refParse_any a W za R hR
  have HCH : Hid (∀ W, Below w.heap.size w W → Calls Tryd.prog 22 #[.string a, .int .i64 m] W fun e w' => e = .returned (.tuple #[.string (childL a.data.toList m).1, .int .i64 ((childL a.data.toList m).2 : Int)]) ∧ Below W.heap.size W w') := Lib.hid fun W hb => child_any a m W za (HPW.out W hb)
  have HPR : Hid (∀ W, Below w.heap.size w W → Calls Tryd.prog 23 #[.string a] W fun e w' => e = .returned (.tuple #[.string ⟨(tx (R.1.take (R.1.length - 1))).toArray⟩, .bool (decide (0 < R.1.length))]) ∧ Below W.heap.size W w') := Lib.hid fun W hb => parent_any a W za (HPW.out W hb) R.1 (by rw [hR])
  have HOR : Hid (∀ W, Calls Tryd.prog 17 #[.string a] W fun e w' => ∃ v, e = .returned v ∧ OI 3 w' W.heap.size v R.1 ∧ Below W.heap.size W w') := Lib.hid fun W => ordinals_any a W za R.1 (by rw [hR])
  have HDE : Hid (∀ W, Calls Tryd.prog 24 #[.string a] W fun e w' => e = .returned (iv R.1.length) ∧ Below W.heap.size W w') := Lib.hid fun W => by rw [hR]; exact depth_any a W za
  have HLA : Hid (∀ W, Calls Tryd.prog 25 #[.string a] W fun e w' => e = .returned (iv (lastN R.1)) ∧ Below W.heap.size W w') := Lib.hid fun W => by rw [hR]; exact last_any a W za
  have HRO : Hid (∀ W, Below w.heap.size w W → Calls Tryd.prog 26 #[.string a] W fun e w' => e = .returned (.string ⟨(tx (R.1.take 1)).toArray⟩) ∧ Below W.heap.size W w') := Lib.hid fun W hb => root_any a W za (HPW.out W hb) R.1 (by rw [hR])
  have h8 : R.1.length ≤ 8 := by rw [hR]; exact parseL_len8 _
  have hnum : ∀ x ∈ R.1, x ≤ 999999 := fun x hx => by rw [hR] at hx; exact (parseL_num _ x hx).2
  have HSA := Lib.hid (same_nat (R.1) h8)
  have HTX := Lib.hid (refText_take R.1 h8 hnum)
  have hnone : R.2.2 ≠ 0 → R.1 = [] := by rw [hR]; exact parseL_none
  have hval : validB a.data.toList = (R.2.2 == 0) := by rw [hR]; rfl
  have htx : R.2.2 = 0 → tx R.1 = a.data.toList := by rw [hR]; exact fun h => (parseL_text h).2.2
  have hwf := IntKind.i64
  have hmb : -9223372036854775808 ≤ m ∧ m ≤ 9223372036854775807 := Go.bounds_i64 hm
  have HB := Lib.hid (Below.refl w.heap.size w)
  clear hP hm hwf
  have hp1 : R.1 = (parseL a.data.toList).1 := by rw [hR]
  clear hR
  obtain ⟨o, rx, e⟩ := R
  simp only at h8 hnone hval htx hp1 hnum
  obtain ⟨CC, hCC⟩ : ∃ CC, CC = childL a.data.toList m := ⟨_, rfl⟩
  rw [← hCC] at HCH
  by_cases he : e = 0
  · subst he
    have hv : validB a.data.toList = true := by rw [hval]; rfl
    have hta := htx rfl
    clear hnone hval htx
    by_cases ho : o = []
    · subst ho
      clear hnum h8
      by_cases hio : isO m = true
      · obtain ⟨n, rfl, hn1, hn2⟩ := isO_nat hio
        have hcg := child_good (m := n) hv (by rw [← hp1]; decide) hn1 hn2
        rw [← hCC, ← hp1] at hcg
        obtain ⟨hc1, hc2⟩ := hcg
        obtain ⟨C, hC⟩ : ∃ C : ByteArray, C = ⟨(tx (([] : List Nat) ++ [n])).toArray⟩ := ⟨_, rfl⟩
        have hCd : C.data.toList = tx (([] : List Nat) ++ [n]) := by rw [hC]
        have zC : C.size ≤ 1000000 := by
          rw [hC]; show (tx (([] : List Nat) ++ [n])).toArray.size ≤ _
          rw [List.size_toArray]
          refine Nat.le_trans (tx_len (fun x hx => ?_)) (by rw [List.length_append, List.length_singleton]; simp)
          have h5 : (parseL (tx (([] : List Nat) ++ [n]))).1 = ([] : List Nat) ++ [n] := by rw [hc2]
          rw [← h5] at hx
          exact (parseL_num _ x hx).2
        have hpC : parseL C.data.toList = (([] : List Nat) ++ [n], 0, 0) := by rw [hCd, hc2]
        obtain rfl : CC = (C, 0) := by rw [hc1, hC]
        have HCP : Hid (∀ W, Below w.heap.size w W → Calls Tryd.prog 23 #[.string C] W fun e w' => e = .returned (.tuple #[.string a, .bool true]) ∧ Below W.heap.size W w') := Lib.hid fun W hb => by
          have h := parent_any C W zC (HPW.out W hb) (([] : List Nat) ++ [n]) (by rw [hpC])
          have h1 : (([] : List Nat) ++ [n]).take ((([] : List Nat) ++ [n]).length - 1) = ([] : List Nat) := by simp
          have h2 : decide (0 < (([] : List Nat) ++ [n]).length) = true := by simp
          rw [h1, h2] at h
          have h3 : (⟨(tx ([] : List Nat)).toArray⟩ : ByteArray) = a := ba_ext hta
          rw [h3] at h
          exact h
        have HCL : Hid (∀ W, Calls Tryd.prog 25 #[.string C] W fun e w' => e = .returned (iv n) ∧ Below W.heap.size W w') := Lib.hid fun W => by
          have h := last_any C W zC
          rw [hpC] at h
          have h1 : lastN (([] : List Nat) ++ [n]) = n := by unfold lastN; simp
          rw [h1] at h
          exact h
        have HCD : Hid (∀ W, Calls Tryd.prog 24 #[.string C] W fun e w' => e = .returned (iv (([] : List Nat).length + 1)) ∧ Below W.heap.size W w') := Lib.hid fun W => by
          have h := depth_any C W zC
          rw [hpC] at h
          have h1 : (([] : List Nat) ++ [n]).length = ([] : List Nat).length + 1 := by simp
          rw [h1] at h
          exact h
        clear hC hCd zC hpC
        have m1 : ¬ (n : Int) < 1 := by omega
        have m2 : ¬ (999999 : Int) < (n : Int) := by omega
        clear hio hc1 hc2 hCC hp1 hv hta za
        go_enter Tryd.func5, Tryd.ntmps5
        go_wp2_with (first
          | (go_at_call 21; (with_reducible refine (H0.out _).mono ?_); rintro e W1 ⟨rfl, rfl⟩)
          | (go_at_call 19; (with_reducible refine (HRP.out _).mono ?_); rintro e W2 ⟨v, rfl, ho2, hb⟩; replace HB := Lib.hid (HB.out.trans (hb.mono HB.out.size)); have HD := Lib.hid (Below.refl W2.heap.size W2); (obtain ⟨A1, c1, hv1, hr1, hcap, _⟩ := ho2.form); have HR1 := Lib.hid hr1; subst hv1; clear ho2 hb hr1)
          | (go_at_call 22; (with_reducible refine (HCH.out _ HB.out).mono ?_); rintro e W1 ⟨rfl, hb⟩; replace HB := Lib.hid (HB.out.trans (hb.mono HB.out.size)); replace HD := Lib.hid (HD.out.trans (hb.mono HD.out.size)); clear hb)
          | (go_at_call 23; (with_reducible refine (HPR.out _ HB.out).mono ?_); rintro e W1 ⟨rfl, hb⟩; replace HB := Lib.hid (HB.out.trans (hb.mono HB.out.size)); replace HD := Lib.hid (HD.out.trans (hb.mono HD.out.size)); clear hb)
          | (go_at_call 14; (with_reducible refine (HK.out _ HB.out).mono ?_); rintro e W1 ⟨rfl, hb⟩; replace HB := Lib.hid (HB.out.trans (hb.mono HB.out.size)); replace HD := Lib.hid (HD.out.trans (hb.mono HD.out.size)); clear hb)
          | (go_at_call 17; (with_reducible refine (HOR.out _).mono ?_); rintro e W3 ⟨v, rfl, ho3, hb⟩; replace HB := Lib.hid (HB.out.trans (hb.mono HB.out.size)); replace HD := Lib.hid (HD.out.trans (hb.mono HD.out.size)); (obtain ⟨A3, c3, hv3, hr3, _, _⟩ := ho3.form); have HR3 := Lib.hid hr3; subst hv3; clear ho3 hb hr3)
          | (go_at_call 16; refine (HSA.out _ _ _ _ _ _ HR3.out ((HR1.out.below HD.out).more HD.out.size) (Nat.le_refl _)).mono ?_; rintro e W1 ⟨rfl, hb⟩; replace HB := Lib.hid (HB.out.trans (hb.mono HB.out.size)); replace HD := Lib.hid (HD.out.trans (hb.mono HD.out.size)); clear hb)
          | (go_at_call 24; (with_reducible refine (HDE.out _).mono ?_); rintro e W1 ⟨rfl, hb⟩; replace HB := Lib.hid (HB.out.trans (hb.mono HB.out.size)); replace HD := Lib.hid (HD.out.trans (hb.mono HD.out.size)); clear hb)
          | (go_at_call 25; (with_reducible refine (HLA.out _).mono ?_); rintro e W1 ⟨rfl, hb⟩; replace HB := Lib.hid (HB.out.trans (hb.mono HB.out.size)); replace HD := Lib.hid (HD.out.trans (hb.mono HD.out.size)); clear hb)
          | (go_at_call 26; (with_reducible refine (HRO.out _ HB.out).mono ?_); rintro e W1 ⟨rfl, hb⟩; replace HB := Lib.hid (HB.out.trans (hb.mono HB.out.size)); replace HD := Lib.hid (HD.out.trans (hb.mono HD.out.size)); clear hb)
          | (go_at_call 23; (with_reducible refine (HCP.out _ HB.out).mono ?_); rintro e W1 ⟨rfl, hb⟩; replace HB := Lib.hid (HB.out.trans (hb.mono HB.out.size)); replace HD := Lib.hid (HD.out.trans (hb.mono HD.out.size)); clear hb)
          | (go_at_call 25; (with_reducible refine (HCL.out _).mono ?_); rintro e W1 ⟨rfl, hb⟩; replace HB := Lib.hid (HB.out.trans (hb.mono HB.out.size)); replace HD := Lib.hid (HD.out.trans (hb.mono HD.out.size)); clear hb)
          | (go_at_call 24; (with_reducible refine (HCD.out _).mono ?_); rintro e W1 ⟨rfl, hb⟩; replace HB := Lib.hid (HB.out.trans (hb.mono HB.out.size)); replace HD := Lib.hid (HD.out.trans (hb.mono HD.out.size)); clear hb))
        go_ret
        exact ⟨rfl, HB.out⟩
      · have hiof : isO m = false := by simpa using hio
        have hc1 : CC = (⟨#[]⟩, 2) := by rw [hCC]; unfold childL; rw [if_pos hv, if_neg hio]
        subst hc1
        have hcase := isO_false hiof
        clear hio hiof hCC hp1 hv hta
        by_cases m1 : m < 1
        · skip
          go_enter Tryd.func5, Tryd.ntmps5
          go_wp2_with (first
            | (go_at_call 21; (with_reducible refine (H0.out _).mono ?_); rintro e W1 ⟨rfl, rfl⟩)
            | (go_at_call 19; (with_reducible refine (HRP.out _).mono ?_); rintro e W2 ⟨v, rfl, ho2, hb⟩; replace HB := Lib.hid (HB.out.trans (hb.mono HB.out.size)); have HD := Lib.hid (Below.refl W2.heap.size W2); (obtain ⟨A1, c1, hv1, hr1, hcap, _⟩ := ho2.form); have HR1 := Lib.hid hr1; subst hv1; clear ho2 hb hr1)
            | (go_at_call 22; (with_reducible refine (HCH.out _ HB.out).mono ?_); rintro e W1 ⟨rfl, hb⟩; replace HB := Lib.hid (HB.out.trans (hb.mono HB.out.size)); replace HD := Lib.hid (HD.out.trans (hb.mono HD.out.size)); clear hb)
            | (go_at_call 23; (with_reducible refine (HPR.out _ HB.out).mono ?_); rintro e W1 ⟨rfl, hb⟩; replace HB := Lib.hid (HB.out.trans (hb.mono HB.out.size)); replace HD := Lib.hid (HD.out.trans (hb.mono HD.out.size)); clear hb)
            | (go_at_call 14; (with_reducible refine (HK.out _ HB.out).mono ?_); rintro e W1 ⟨rfl, hb⟩; replace HB := Lib.hid (HB.out.trans (hb.mono HB.out.size)); replace HD := Lib.hid (HD.out.trans (hb.mono HD.out.size)); clear hb)
            | (go_at_call 17; (with_reducible refine (HOR.out _).mono ?_); rintro e W3 ⟨v, rfl, ho3, hb⟩; replace HB := Lib.hid (HB.out.trans (hb.mono HB.out.size)); replace HD := Lib.hid (HD.out.trans (hb.mono HD.out.size)); (obtain ⟨A3, c3, hv3, hr3, _, _⟩ := ho3.form); have HR3 := Lib.hid hr3; subst hv3; clear ho3 hb hr3)
            | (go_at_call 16; refine (HSA.out _ _ _ _ _ _ HR3.out ((HR1.out.below HD.out).more HD.out.size) (Nat.le_refl _)).mono ?_; rintro e W1 ⟨rfl, hb⟩; replace HB := Lib.hid (HB.out.trans (hb.mono HB.out.size)); replace HD := Lib.hid (HD.out.trans (hb.mono HD.out.size)); clear hb)
            | (go_at_call 24; (with_reducible refine (HDE.out _).mono ?_); rintro e W1 ⟨rfl, hb⟩; replace HB := Lib.hid (HB.out.trans (hb.mono HB.out.size)); replace HD := Lib.hid (HD.out.trans (hb.mono HD.out.size)); clear hb)
            | (go_at_call 25; (with_reducible refine (HLA.out _).mono ?_); rintro e W1 ⟨rfl, hb⟩; replace HB := Lib.hid (HB.out.trans (hb.mono HB.out.size)); replace HD := Lib.hid (HD.out.trans (hb.mono HD.out.size)); clear hb)
            | (go_at_call 26; (with_reducible refine (HRO.out _ HB.out).mono ?_); rintro e W1 ⟨rfl, hb⟩; replace HB := Lib.hid (HB.out.trans (hb.mono HB.out.size)); replace HD := Lib.hid (HD.out.trans (hb.mono HD.out.size)); clear hb))
          go_ret
          exact ⟨rfl, HB.out⟩
        · have m2 : 999999 < m := by omega
          go_enter Tryd.func5, Tryd.ntmps5
          go_wp2_with (first
            | (go_at_call 21; (with_reducible refine (H0.out _).mono ?_); rintro e W1 ⟨rfl, rfl⟩)
            | (go_at_call 19; (with_reducible refine (HRP.out _).mono ?_); rintro e W2 ⟨v, rfl, ho2, hb⟩; replace HB := Lib.hid (HB.out.trans (hb.mono HB.out.size)); have HD := Lib.hid (Below.refl W2.heap.size W2); (obtain ⟨A1, c1, hv1, hr1, hcap, _⟩ := ho2.form); have HR1 := Lib.hid hr1; subst hv1; clear ho2 hb hr1)
            | (go_at_call 22; (with_reducible refine (HCH.out _ HB.out).mono ?_); rintro e W1 ⟨rfl, hb⟩; replace HB := Lib.hid (HB.out.trans (hb.mono HB.out.size)); replace HD := Lib.hid (HD.out.trans (hb.mono HD.out.size)); clear hb)
            | (go_at_call 23; (with_reducible refine (HPR.out _ HB.out).mono ?_); rintro e W1 ⟨rfl, hb⟩; replace HB := Lib.hid (HB.out.trans (hb.mono HB.out.size)); replace HD := Lib.hid (HD.out.trans (hb.mono HD.out.size)); clear hb)
            | (go_at_call 14; (with_reducible refine (HK.out _ HB.out).mono ?_); rintro e W1 ⟨rfl, hb⟩; replace HB := Lib.hid (HB.out.trans (hb.mono HB.out.size)); replace HD := Lib.hid (HD.out.trans (hb.mono HD.out.size)); clear hb)
            | (go_at_call 17; (with_reducible refine (HOR.out _).mono ?_); rintro e W3 ⟨v, rfl, ho3, hb⟩; replace HB := Lib.hid (HB.out.trans (hb.mono HB.out.size)); replace HD := Lib.hid (HD.out.trans (hb.mono HD.out.size)); (obtain ⟨A3, c3, hv3, hr3, _, _⟩ := ho3.form); have HR3 := Lib.hid hr3; subst hv3; clear ho3 hb hr3)
            | (go_at_call 16; refine (HSA.out _ _ _ _ _ _ HR3.out ((HR1.out.below HD.out).more HD.out.size) (Nat.le_refl _)).mono ?_; rintro e W1 ⟨rfl, hb⟩; replace HB := Lib.hid (HB.out.trans (hb.mono HB.out.size)); replace HD := Lib.hid (HD.out.trans (hb.mono HD.out.size)); clear hb)
            | (go_at_call 24; (with_reducible refine (HDE.out _).mono ?_); rintro e W1 ⟨rfl, hb⟩; replace HB := Lib.hid (HB.out.trans (hb.mono HB.out.size)); replace HD := Lib.hid (HD.out.trans (hb.mono HD.out.size)); clear hb)
            | (go_at_call 25; (with_reducible refine (HLA.out _).mono ?_); rintro e W1 ⟨rfl, hb⟩; replace HB := Lib.hid (HB.out.trans (hb.mono HB.out.size)); replace HD := Lib.hid (HD.out.trans (hb.mono HD.out.size)); clear hb)
            | (go_at_call 26; (with_reducible refine (HRO.out _ HB.out).mono ?_); rintro e W1 ⟨rfl, hb⟩; replace HB := Lib.hid (HB.out.trans (hb.mono HB.out.size)); replace HD := Lib.hid (HD.out.trans (hb.mono HD.out.size)); clear hb))
          go_ret
          exact ⟨rfl, HB.out⟩
    · obtain ⟨k, hk⟩ : ∃ k, o.length = k + 1 := ⟨o.length - 1, by have := List.length_pos_iff.2 ho; omega⟩
      have HLX : Hid (o[k]? = some (lastN o)) := Lib.hid (by
        rcases List.eq_nil_or_concat o with h | ⟨q, x, h⟩
        · exact absurd h ho
        · subst h
          have : k = q.length := by simp at hk; omega
          subst this
          unfold lastN; simp)
      obtain ⟨LN, hLN⟩ : ∃ LN, LN = lastN o := ⟨_, rfl⟩
      rw [← hLN] at HLA HLX
      have e1 : o.length - 1 = k := by omega
      have e2 : decide (0 < o.length) = true := by simp; omega
      have hd0 : ((k : Int) + 1 == 0) = false := by simp; omega
      have hT1 := fun A c B W h h' => HTX.out 1 (by show 1 ≤ o.length; omega) A c B W h h'
      have hTk := fun A c B W h h' => HTX.out k (by show k ≤ o.length; omega) A c B W h h'
      obtain ⟨P, hPd⟩ : ∃ P : ByteArray, P = ⟨(tx (o.take k)).toArray⟩ := ⟨_, rfl⟩
      obtain ⟨Q, hQd⟩ : ∃ Q : ByteArray, Q = ⟨(tx (o.take 1)).toArray⟩ := ⟨_, rfl⟩
      simp only [e1, e2, ← hPd] at HPR
      simp only [← hQd] at HRO
      rw [← hPd] at hTk
      rw [← hQd] at hT1
      have HT1 := Lib.hid hT1
      have HTk := Lib.hid hTk
      simp only [hk] at HDE HSA
      have ek : iv (k + 1) = .int .i64 ((k : Int) + 1) := by rw [iv]; congr 1
      rw [ek] at HDE
      have hkb : k + 1 ≤ 8 := by omega
      have hk2 : ((k : Int) + 2 == (k : Int) + 1 + 1) = true := by simp; omega
      have wk : IntKind.i64.wrap (k : Int) = (k : Int) := by rw [IntKind.wrap_i64]; omega
      have wlt : (k : Int) < (k : Int) + 1 := by omega
      have wge : (0 : Int) ≤ (k : Int) := by omega
      have HKL : Hid (k < o.length) := Lib.hid (by omega)
      have HOL : Hid (o.length = k + 1) := Lib.hid hk
      clear hT1 hTk hPd hQd e1 e2 ek HTX hnum hLN
      by_cases hio : isO m = true
      · obtain ⟨n, rfl, hn1, hn2⟩ := isO_nat hio
        have m1 : ¬ (n : Int) < 1 := by omega
        have m2 : ¬ (999999 : Int) < (n : Int) := by omega
        by_cases hk8 : k = 7
        · have hc1 : CC = (⟨#[]⟩, 9) := by rw [hCC]; exact child_full hv (by rw [← hp1]; omega) hio
          subst hc1
          have hl8 : ((k : Int) + 1 == 8) = true := by simp; omega
          clear hio hCC hp1 hv hta hk8 hk ho h8
          go_enter Tryd.func5, Tryd.ntmps5
          go_wp2_with (first
            | (go_at_call 21; (with_reducible refine (H0.out _).mono ?_); rintro e W1 ⟨rfl, rfl⟩)
            | (go_at_call 19; (with_reducible refine (HRP.out _).mono ?_); rintro e W2 ⟨v, rfl, ho2, hb⟩; replace HB := Lib.hid (HB.out.trans (hb.mono HB.out.size)); have HD := Lib.hid (Below.refl W2.heap.size W2); (obtain ⟨A1, c1, hv1, hr1, hcap, _⟩ := ho2.form); have HR1 := Lib.hid hr1; rw [HOL.out] at hv1 hcap; subst hv1; (obtain ⟨bb, off, x', hA, _, hx', hc0⟩ := hr1.at_ (k := k) HKL.out); subst hA; rw [HLX.out] at hx'; (obtain rfl := Option.some.inj hx'); have HC0 := Lib.hid hc0; have hq1 : (1 : Int) ≤ (c1 : Int) := (by omega); have hq2 : (k : Int) ≤ (c1 : Int) := (by omega); clear ho2 hb hr1 hx' hc0)
            | (go_at_call 22; (with_reducible refine (HCH.out _ HB.out).mono ?_); rintro e W1 ⟨rfl, hb⟩; replace HB := Lib.hid (HB.out.trans (hb.mono HB.out.size)); replace HD := Lib.hid (HD.out.trans (hb.mono HD.out.size)); clear hb)
            | (go_at_call 23; (with_reducible refine (HPR.out _ HB.out).mono ?_); rintro e W1 ⟨rfl, hb⟩; replace HB := Lib.hid (HB.out.trans (hb.mono HB.out.size)); replace HD := Lib.hid (HD.out.trans (hb.mono HD.out.size)); clear hb)
            | (go_at_call 14; (with_reducible refine (HK.out _ HB.out).mono ?_); rintro e W1 ⟨rfl, hb⟩; replace HB := Lib.hid (HB.out.trans (hb.mono HB.out.size)); replace HD := Lib.hid (HD.out.trans (hb.mono HD.out.size)); clear hb)
            | (go_at_call 17; (with_reducible refine (HOR.out _).mono ?_); rintro e W3 ⟨v, rfl, ho3, hb⟩; replace HB := Lib.hid (HB.out.trans (hb.mono HB.out.size)); replace HD := Lib.hid (HD.out.trans (hb.mono HD.out.size)); (obtain ⟨A3, c3, hv3, hr3, _, _⟩ := ho3.form); have HR3 := Lib.hid hr3; rw [HOL.out] at hv3; subst hv3; clear ho3 hb hr3)
            | (go_at_call 16; refine (HSA.out _ _ _ _ _ _ HR3.out ((HR1.out.below HD.out).more HD.out.size) (Nat.le_refl _)).mono ?_; rintro e W1 ⟨rfl, hb⟩; replace HB := Lib.hid (HB.out.trans (hb.mono HB.out.size)); replace HD := Lib.hid (HD.out.trans (hb.mono HD.out.size)); clear hb)
            | (go_at_call 24; (with_reducible refine (HDE.out _).mono ?_); rintro e W1 ⟨rfl, hb⟩; replace HB := Lib.hid (HB.out.trans (hb.mono HB.out.size)); replace HD := Lib.hid (HD.out.trans (hb.mono HD.out.size)); clear hb)
            | (go_at_call 25; (with_reducible refine (HLA.out _).mono ?_); rintro e W1 ⟨rfl, hb⟩; replace HB := Lib.hid (HB.out.trans (hb.mono HB.out.size)); replace HD := Lib.hid (HD.out.trans (hb.mono HD.out.size)); clear hb; have hcc := (HD.out.cell (p := ⟨bb, off + k, none⟩) (World.block_lt_of_cell? _ _ HC0.out)).trans HC0.out)
            | (go_at_call 26; (with_reducible refine (HRO.out _ HB.out).mono ?_); rintro e W1 ⟨rfl, hb⟩; replace HB := Lib.hid (HB.out.trans (hb.mono HB.out.size)); replace HD := Lib.hid (HD.out.trans (hb.mono HD.out.size)); clear hb)
            | (go_at_call 20; (with_reducible refine (HT1.out _ _ _ _ (HR1.out.below HD.out) HD.out.size).mono ?_); rintro e W1 ⟨rfl, hb⟩; replace HB := Lib.hid (HB.out.trans (hb.mono HB.out.size)); replace HD := Lib.hid (HD.out.trans (hb.mono HD.out.size)); clear hb)
            | (go_at_call 20; (with_reducible refine (HTk.out _ _ _ _ (HR1.out.below HD.out) HD.out.size).mono ?_); rintro e W1 ⟨rfl, hb⟩; replace HB := Lib.hid (HB.out.trans (hb.mono HB.out.size)); replace HD := Lib.hid (HD.out.trans (hb.mono HD.out.size)); clear hb))
          have SLA : Hid (∀ V, (Below w.heap.size w V ∧ Below W2.heap.size W2 V) → Calls Tryd.prog 25 #[.string a] V fun e V2 => e = .returned (iv LN) ∧ (Below w.heap.size w V2 ∧ Below W2.heap.size W2 V2)) := Lib.hid fun V hV => (HLA.out V).mono fun e V2 h => ⟨h.1, hV.1.trans (h.2.mono hV.1.size), hV.2.trans (h.2.mono hV.2.size)⟩
          have SRO : Hid (∀ V, (Below w.heap.size w V ∧ Below W2.heap.size W2 V) → Calls Tryd.prog 26 #[.string a] V fun e V2 => e = .returned (.string Q) ∧ (Below w.heap.size w V2 ∧ Below W2.heap.size W2 V2)) := Lib.hid fun V hV => (HRO.out V hV.1).mono fun e V2 h => ⟨h.1, hV.1.trans (h.2.mono hV.1.size), hV.2.trans (h.2.mono hV.2.size)⟩
          have ST1 : Hid (∀ V, (Below w.heap.size w V ∧ Below W2.heap.size W2 V) → Calls Tryd.prog 20 #[.slice (some ⟨bb, off, none⟩) 1 c1] V fun e V2 => e = .returned (.string Q) ∧ (Below w.heap.size w V2 ∧ Below W2.heap.size W2 V2)) := Lib.hid fun V hV => (HT1.out (some ⟨bb, off, none⟩) c1 _ V (HR1.out.below hV.2) hV.2.size).mono fun e V2 h => ⟨h.1, hV.1.trans (h.2.mono hV.1.size), hV.2.trans (h.2.mono hV.2.size)⟩
          have STk : Hid (∀ V, (Below w.heap.size w V ∧ Below W2.heap.size W2 V) → Calls Tryd.prog 20 #[.slice (some ⟨bb, off, none⟩) k c1] V fun e V2 => e = .returned (.string P) ∧ (Below w.heap.size w V2 ∧ Below W2.heap.size W2 V2)) := Lib.hid fun V hV => (HTk.out (some ⟨bb, off, none⟩) c1 _ V (HR1.out.below hV.2) hV.2.size).mono fun e V2 h => ⟨h.1, hV.1.trans (h.2.mono hV.1.size), hV.2.trans (h.2.mono hV.2.size)⟩
          refine wp_region_held_drew (S := fun V => Below w.heap.size w V ∧ Below W2.heap.size W2 V) (by kernel_rfl) (⟨HB.out.drew, HD.out.drew⟩) (fun hHeld => ?_)
          refine wpAnyH_take (i := 0) (v := ?_) (ops_atL rfl) (by kernel_rfl) (by kernel_rfl) (by kernel_rfl) (fun _ _ _ h => h) (Or.inl ⟨by rfl, ?_⟩) hHeld ?_
          rotate_left
          · (intro W hSW; go_simp; try with_reducible rfl)
          try simp only [Act.put, List.setIfInBounds_toArray, List.set_cons_zero, List.set_cons_succ]
          refine wpAnyH_take (i := 2) (v := ?_) (ops_atL rfl) (by kernel_rfl) (by kernel_rfl) (by kernel_rfl) (fun _ _ _ h => h) (Or.inl ⟨by rfl, ?_⟩) hHeld ?_
          rotate_left
          · (intro W hSW; go_simp; try with_reducible rfl)
          try simp only [Act.put, List.setIfInBounds_toArray, List.set_cons_zero, List.set_cons_succ]
          refine wpAnyH_take (i := 3) (v := ?_) (ops_atL rfl) (by kernel_rfl) (by kernel_rfl) (by kernel_rfl) (fun _ _ _ h => h) (Or.inl ⟨by rfl, ?_⟩) hHeld ?_
          rotate_left
          · (intro W hSW; go_simp; try with_reducible rfl)
          try simp only [Act.put, List.setIfInBounds_toArray, List.set_cons_zero, List.set_cons_succ]
          refine wpAnyH_take (i := 4) (v := ?_) (ops_atL rfl) (by kernel_rfl) (by kernel_rfl) (by kernel_rfl) (fun _ _ _ h => h) (Or.inl ⟨by rfl, ?_⟩) hHeld ?_
          rotate_left
          · (intro W hSW; go_simp; try with_reducible rfl)
          try simp only [Act.put, List.setIfInBounds_toArray, List.set_cons_zero, List.set_cons_succ]
          refine wpAnyH_take (i := 5) (v := ?_) (ops_atL rfl) (by kernel_rfl) (by kernel_rfl) (by kernel_rfl) (fun _ _ _ h => h) (Or.inl ⟨by rfl, ?_⟩) hHeld ?_
          rotate_left
          · (intro W hSW; go_simp; try with_reducible rfl)
          try simp only [Act.put, List.setIfInBounds_toArray, List.set_cons_zero, List.set_cons_succ]
          refine wpAnyH_take (i := 6) (v := ?_) (ops_atL rfl) (by kernel_rfl) (by kernel_rfl) (by kernel_rfl) (fun _ _ _ h => h) (Or.inl ⟨by rfl, ?_⟩) hHeld ?_
          rotate_left
          · (intro W hSW; go_simp; try with_reducible rfl)
          try simp only [Act.put, List.setIfInBounds_toArray, List.set_cons_zero, List.set_cons_succ]
          refine wpAnyH_take (i := 7) (v := ?_) (ops_atL rfl) (by kernel_rfl) (by kernel_rfl) (by kernel_rfl) (fun _ _ _ h => h) (Or.inl ⟨by rfl, ?_⟩) hHeld ?_
          rotate_left
          · (intro W hSW; have hcc := (hSW.2.cell (p := ⟨bb, off + k, none⟩) (World.block_lt_of_cell? _ _ HC0.out)).trans HC0.out; go_simp; try with_reducible rfl)
          try simp only [Act.put, List.setIfInBounds_toArray, List.set_cons_zero, List.set_cons_succ]
          refine wpAnyH_ready (rs := [1]) (by kernel_rfl) (by simp) ?_
          refine AllReadyH.cons (ops_atL rfl) (fun K hK => ?_) AllReadyH.nil
          go_simp
          (go_at_call 25; refine (SLA.out _ hHeld).mono ?_; rintro e W' ⟨rfl, hb'⟩)
          refine hK.out _ _ hb' (fun hHeld => ?_)
          clear hK K
          try simp only [Act.put, List.setIfInBounds_toArray, List.set_cons_zero, List.set_cons_succ]
          refine wpAnyH_take (i := 8) (v := ?_) (ops_atL rfl) (by kernel_rfl) (by kernel_rfl) (by kernel_rfl) (fun _ _ _ h => h) (Or.inl ⟨by rfl, ?_⟩) hHeld ?_
          rotate_left
          · (intro W hSW; go_simp; try with_reducible rfl)
          try simp only [Act.put, List.setIfInBounds_toArray, List.set_cons_zero, List.set_cons_succ]
          refine wpAnyH_take (i := 9) (v := ?_) (ops_atL rfl) (by kernel_rfl) (by kernel_rfl) (by kernel_rfl) (fun _ _ _ h => h) (Or.inl ⟨by rfl, ?_⟩) hHeld ?_
          rotate_left
          · (intro W hSW; go_simp; try with_reducible rfl)
          try simp only [Act.put, List.setIfInBounds_toArray, List.set_cons_zero, List.set_cons_succ]
          refine wpAnyH_take (i := 10) (v := ?_) (ops_atL rfl) (by kernel_rfl) (by kernel_rfl) (by kernel_rfl) (fun _ _ _ h => h) (Or.inl ⟨by rfl, ?_⟩) hHeld ?_
          rotate_left
          · (intro W hSW; go_simp; try with_reducible rfl)
          try simp only [Act.put, List.setIfInBounds_toArray, List.set_cons_zero, List.set_cons_succ]
          refine wpAnyH_take (i := 12) (v := ?_) (ops_atL rfl) (by kernel_rfl) (by kernel_rfl) (by kernel_rfl) (fun _ _ _ h => h) (Or.inl ⟨by rfl, ?_⟩) hHeld ?_
          rotate_left
          · (intro W hSW; go_simp; try with_reducible rfl)
          try simp only [Act.put, List.setIfInBounds_toArray, List.set_cons_zero, List.set_cons_succ]
          refine wpAnyH_take (i := 13) (v := ?_) (ops_atL rfl) (by kernel_rfl) (by kernel_rfl) (by kernel_rfl) (fun _ _ _ h => h) (Or.inl ⟨by rfl, ?_⟩) hHeld ?_
          rotate_left
          · (intro W hSW; go_simp; try with_reducible rfl)
          try simp only [Act.put, List.setIfInBounds_toArray, List.set_cons_zero, List.set_cons_succ]
          refine wpAnyH_ready (rs := [11]) (by kernel_rfl) (by simp) ?_
          refine AllReadyH.cons (ops_atL rfl) (fun K hK => ?_) AllReadyH.nil
          go_simp
          (go_at_call 26; refine (SRO.out _ hHeld).mono ?_; rintro e W' ⟨rfl, hb'⟩)
          refine hK.out _ _ hb' (fun hHeld => ?_)
          clear hK K
          try simp only [Act.put, List.setIfInBounds_toArray, List.set_cons_zero, List.set_cons_succ]
          refine wpAnyH_ready (rs := [14]) (by kernel_rfl) (by simp) ?_
          refine AllReadyH.cons (ops_atL rfl) (fun K hK => ?_) AllReadyH.nil
          go_simp
          (go_at_call 20; refine (ST1.out _ hHeld).mono ?_; rintro e W' ⟨rfl, hb'⟩)
          refine hK.out _ _ hb' (fun hHeld => ?_)
          clear hK K
          try simp only [Act.put, List.setIfInBounds_toArray, List.set_cons_zero, List.set_cons_succ]
          refine wpAnyH_take (i := 15) (v := ?_) (ops_atL rfl) (by kernel_rfl) (by kernel_rfl) (by kernel_rfl) (fun _ _ _ h => h) (Or.inl ⟨by rfl, ?_⟩) hHeld ?_
          rotate_left
          · (intro W hSW; go_simp; try with_reducible rfl)
          try simp only [Act.put, List.setIfInBounds_toArray, List.set_cons_zero, List.set_cons_succ]
          refine wpAnyH_take (i := 16) (v := ?_) (ops_atL rfl) (by kernel_rfl) (by kernel_rfl) (by kernel_rfl) (fun _ _ _ h => h) (Or.inl ⟨by rfl, ?_⟩) hHeld ?_
          rotate_left
          · (intro W hSW; go_simp; try with_reducible rfl)
          try simp only [Act.put, List.setIfInBounds_toArray, List.set_cons_zero, List.set_cons_succ]
          refine wpAnyH_take (i := 17) (v := ?_) (ops_atL rfl) (by kernel_rfl) (by kernel_rfl) (by kernel_rfl) (fun _ _ _ h => h) (Or.inl ⟨by rfl, ?_⟩) hHeld ?_
          rotate_left
          · (intro W hSW; go_simp; try with_reducible rfl)
          try simp only [Act.put, List.setIfInBounds_toArray, List.set_cons_zero, List.set_cons_succ]
          refine wpAnyH_take (i := 18) (v := ?_) (ops_atL rfl) (by kernel_rfl) (by kernel_rfl) (by kernel_rfl) (fun _ _ _ h => h) (Or.inl ⟨by rfl, ?_⟩) hHeld ?_
          rotate_left
          · (intro W hSW; go_simp; try with_reducible rfl)
          try simp only [Act.put, List.setIfInBounds_toArray, List.set_cons_zero, List.set_cons_succ]
          refine wpAnyH_take (i := 19) (v := ?_) (ops_atL rfl) (by kernel_rfl) (by kernel_rfl) (by kernel_rfl) (fun _ _ _ h => h) (Or.inl ⟨by rfl, ?_⟩) hHeld ?_
          rotate_left
          · (intro W hSW; go_simp; try with_reducible rfl)
          try simp only [Act.put, List.setIfInBounds_toArray, List.set_cons_zero, List.set_cons_succ]
          refine wpAnyH_take (i := 20) (v := ?_) (ops_atL rfl) (by kernel_rfl) (by kernel_rfl) (by kernel_rfl) (fun _ _ _ h => h) (Or.inl ⟨by rfl, ?_⟩) hHeld ?_
          rotate_left
          · (intro W hSW; go_simp; try with_reducible rfl)
          try simp only [Act.put, List.setIfInBounds_toArray, List.set_cons_zero, List.set_cons_succ]
          refine wpAnyH_take (i := 21) (v := ?_) (ops_atL rfl) (by kernel_rfl) (by kernel_rfl) (by kernel_rfl) (fun _ _ _ h => h) (Or.inl ⟨by rfl, ?_⟩) hHeld ?_
          rotate_left
          · (intro W hSW; go_simp; try with_reducible rfl)
          try simp only [Act.put, List.setIfInBounds_toArray, List.set_cons_zero, List.set_cons_succ]
          refine wpAnyH_take (i := 22) (v := ?_) (ops_atL rfl) (by kernel_rfl) (by kernel_rfl) (by kernel_rfl) (fun _ _ _ h => h) (Or.inl ⟨by rfl, ?_⟩) hHeld ?_
          rotate_left
          · (intro W hSW; go_simp; try with_reducible rfl)
          try simp only [Act.put, List.setIfInBounds_toArray, List.set_cons_zero, List.set_cons_succ]
          refine wpAnyH_take (i := 23) (v := ?_) (ops_atL rfl) (by kernel_rfl) (by kernel_rfl) (by kernel_rfl) (fun _ _ _ h => h) (Or.inl ⟨by rfl, ?_⟩) hHeld ?_
          rotate_left
          · (intro W hSW; go_simp; try with_reducible rfl)
          try simp only [Act.put, List.setIfInBounds_toArray, List.set_cons_zero, List.set_cons_succ]
          refine wpAnyH_take (i := 24) (v := ?_) (ops_atL rfl) (by kernel_rfl) (by kernel_rfl) (by kernel_rfl) (fun _ _ _ h => h) (Or.inl ⟨by rfl, ?_⟩) hHeld ?_
          rotate_left
          · (intro W hSW; go_simp; try with_reducible rfl)
          try simp only [Act.put, List.setIfInBounds_toArray, List.set_cons_zero, List.set_cons_succ]
          refine wpAnyH_take (i := 25) (v := ?_) (ops_atL rfl) (by kernel_rfl) (by kernel_rfl) (by kernel_rfl) (fun _ _ _ h => h) (Or.inl ⟨by rfl, ?_⟩) hHeld ?_
          rotate_left
          · (intro W hSW; go_simp; try with_reducible rfl)
          try simp only [Act.put, List.setIfInBounds_toArray, List.set_cons_zero, List.set_cons_succ]
          refine wpAnyH_take (i := 26) (v := ?_) (ops_atL rfl) (by kernel_rfl) (by kernel_rfl) (by kernel_rfl) (fun _ _ _ h => h) (Or.inl ⟨by rfl, ?_⟩) hHeld ?_
          rotate_left
          · (intro W hSW; go_simp; try with_reducible rfl)
          try simp only [Act.put, List.setIfInBounds_toArray, List.set_cons_zero, List.set_cons_succ]
          refine wpAnyH_take (i := 27) (v := ?_) (ops_atL rfl) (by kernel_rfl) (by kernel_rfl) (by kernel_rfl) (fun _ _ _ h => h) (Or.inl ⟨by rfl, ?_⟩) hHeld ?_
          rotate_left
          · (intro W hSW; go_simp; try with_reducible rfl)
          try simp only [Act.put, List.setIfInBounds_toArray, List.set_cons_zero, List.set_cons_succ]
          refine wpAnyH_ready (rs := [28]) (by kernel_rfl) (by simp) ?_
          refine AllReadyH.cons (ops_atL rfl) (fun K hK => ?_) AllReadyH.nil
          go_simp
          (go_at_call 20; refine (STk.out _ hHeld).mono ?_; rintro e W' ⟨rfl, hb'⟩)
          refine hK.out _ _ hb' (fun hHeld => ?_)
          clear hK K
          try simp only [Act.put, List.setIfInBounds_toArray, List.set_cons_zero, List.set_cons_succ]
          refine wpAnyH_take (i := 29) (v := ?_) (ops_atL rfl) (by kernel_rfl) (by kernel_rfl) (by kernel_rfl) (fun _ _ _ h => h) (Or.inl ⟨by rfl, ?_⟩) hHeld ?_
          rotate_left
          · (intro W hSW; go_simp; try with_reducible rfl)
          try simp only [Act.put, List.setIfInBounds_toArray, List.set_cons_zero, List.set_cons_succ]
          refine wpAnyH_take (i := 30) (v := ?_) (ops_atL rfl) (by kernel_rfl) (by kernel_rfl) (by kernel_rfl) (fun _ _ _ h => h) (Or.inl ⟨by rfl, ?_⟩) hHeld ?_
          rotate_left
          · (intro W hSW; go_simp; try with_reducible rfl)
          try simp only [Act.put, List.setIfInBounds_toArray, List.set_cons_zero, List.set_cons_succ]
          refine wpAnyH_done (by kernel_rfl) ?_ _
          replace HB := Lib.hid hHeld.1
          replace HD := Lib.hid hHeld.2
          clear hHeld SLA SRO ST1 STk
          go_wp2_with (first
            | (go_at_call 21; (with_reducible refine (H0.out _).mono ?_); rintro e W1 ⟨rfl, rfl⟩)
            | (go_at_call 19; (with_reducible refine (HRP.out _).mono ?_); rintro e W2 ⟨v, rfl, ho2, hb⟩; replace HB := Lib.hid (HB.out.trans (hb.mono HB.out.size)); have HD := Lib.hid (Below.refl W2.heap.size W2); (obtain ⟨A1, c1, hv1, hr1, hcap, _⟩ := ho2.form); have HR1 := Lib.hid hr1; rw [HOL.out] at hv1 hcap; subst hv1; (obtain ⟨bb, off, x', hA, _, hx', hc0⟩ := hr1.at_ (k := k) HKL.out); subst hA; rw [HLX.out] at hx'; (obtain rfl := Option.some.inj hx'); have HC0 := Lib.hid hc0; have hq1 : (1 : Int) ≤ (c1 : Int) := (by omega); have hq2 : (k : Int) ≤ (c1 : Int) := (by omega); clear ho2 hb hr1 hx' hc0)
            | (go_at_call 22; (with_reducible refine (HCH.out _ HB.out).mono ?_); rintro e W1 ⟨rfl, hb⟩; replace HB := Lib.hid (HB.out.trans (hb.mono HB.out.size)); replace HD := Lib.hid (HD.out.trans (hb.mono HD.out.size)); clear hb)
            | (go_at_call 23; (with_reducible refine (HPR.out _ HB.out).mono ?_); rintro e W1 ⟨rfl, hb⟩; replace HB := Lib.hid (HB.out.trans (hb.mono HB.out.size)); replace HD := Lib.hid (HD.out.trans (hb.mono HD.out.size)); clear hb)
            | (go_at_call 14; (with_reducible refine (HK.out _ HB.out).mono ?_); rintro e W1 ⟨rfl, hb⟩; replace HB := Lib.hid (HB.out.trans (hb.mono HB.out.size)); replace HD := Lib.hid (HD.out.trans (hb.mono HD.out.size)); clear hb)
            | (go_at_call 17; (with_reducible refine (HOR.out _).mono ?_); rintro e W3 ⟨v, rfl, ho3, hb⟩; replace HB := Lib.hid (HB.out.trans (hb.mono HB.out.size)); replace HD := Lib.hid (HD.out.trans (hb.mono HD.out.size)); (obtain ⟨A3, c3, hv3, hr3, _, _⟩ := ho3.form); have HR3 := Lib.hid hr3; rw [HOL.out] at hv3; subst hv3; clear ho3 hb hr3)
            | (go_at_call 16; refine (HSA.out _ _ _ _ _ _ HR3.out ((HR1.out.below HD.out).more HD.out.size) (Nat.le_refl _)).mono ?_; rintro e W1 ⟨rfl, hb⟩; replace HB := Lib.hid (HB.out.trans (hb.mono HB.out.size)); replace HD := Lib.hid (HD.out.trans (hb.mono HD.out.size)); clear hb)
            | (go_at_call 24; (with_reducible refine (HDE.out _).mono ?_); rintro e W1 ⟨rfl, hb⟩; replace HB := Lib.hid (HB.out.trans (hb.mono HB.out.size)); replace HD := Lib.hid (HD.out.trans (hb.mono HD.out.size)); clear hb)
            | (go_at_call 25; (with_reducible refine (HLA.out _).mono ?_); rintro e W1 ⟨rfl, hb⟩; replace HB := Lib.hid (HB.out.trans (hb.mono HB.out.size)); replace HD := Lib.hid (HD.out.trans (hb.mono HD.out.size)); clear hb; have hcc := (HD.out.cell (p := ⟨bb, off + k, none⟩) (World.block_lt_of_cell? _ _ HC0.out)).trans HC0.out)
            | (go_at_call 26; (with_reducible refine (HRO.out _ HB.out).mono ?_); rintro e W1 ⟨rfl, hb⟩; replace HB := Lib.hid (HB.out.trans (hb.mono HB.out.size)); replace HD := Lib.hid (HD.out.trans (hb.mono HD.out.size)); clear hb)
            | (go_at_call 20; (with_reducible refine (HT1.out _ _ _ _ (HR1.out.below HD.out) HD.out.size).mono ?_); rintro e W1 ⟨rfl, hb⟩; replace HB := Lib.hid (HB.out.trans (hb.mono HB.out.size)); replace HD := Lib.hid (HD.out.trans (hb.mono HD.out.size)); clear hb)
            | (go_at_call 20; (with_reducible refine (HTk.out _ _ _ _ (HR1.out.below HD.out) HD.out.size).mono ?_); rintro e W1 ⟨rfl, hb⟩; replace HB := Lib.hid (HB.out.trans (hb.mono HB.out.size)); replace HD := Lib.hid (HD.out.trans (hb.mono HD.out.size)); clear hb))
          go_ret
          exact ⟨rfl, HB.out⟩
        · have hl8 : ((k : Int) + 1 == 8) = false := by simp; omega
          have hcg := child_good (m := n) hv (by rw [← hp1]; omega) hn1 hn2
          rw [← hCC, ← hp1] at hcg
          obtain ⟨hc1, hc2⟩ := hcg
          have hbk : (⟨(tx (o.take o.length)).toArray⟩ : ByteArray) = a := by rw [List.take_length]; exact ba_ext hta
          obtain ⟨C, hC⟩ : ∃ C : ByteArray, C = ⟨(tx (o ++ [n])).toArray⟩ := ⟨_, rfl⟩
          have hCd : C.data.toList = tx (o ++ [n]) := by rw [hC]
          have zC : C.size ≤ 1000000 := by
            rw [hC]; show (tx (o ++ [n])).toArray.size ≤ _
            rw [List.size_toArray]
            refine Nat.le_trans (tx_len (fun x hx => ?_)) (by rw [List.length_append, List.length_singleton]; omega)
            have h5 : (parseL (tx (o ++ [n]))).1 = o ++ [n] := by rw [hc2]
            rw [← h5] at hx
            exact (parseL_num _ x hx).2
          have hpC : parseL C.data.toList = (o ++ [n], 0, 0) := by rw [hCd, hc2]
          obtain rfl : CC = (C, 0) := by rw [hc1, hC]
          have HCP : Hid (∀ W, Below w.heap.size w W → Calls Tryd.prog 23 #[.string C] W fun e w' => e = .returned (.tuple #[.string a, .bool true]) ∧ Below W.heap.size W w') := Lib.hid fun W hb => by
            have h := parent_any C W zC (HPW.out W hb) (o ++ [n]) (by rw [hpC])
            have h1 : (o ++ [n]).take ((o ++ [n]).length - 1) = o := by simp
            have h2 : decide (0 < (o ++ [n]).length) = true := by simp
            rw [h1, h2] at h
            have h3 : (⟨(tx o).toArray⟩ : ByteArray) = a := ba_ext hta
            rw [h3] at h
            exact h
          have HCL : Hid (∀ W, Calls Tryd.prog 25 #[.string C] W fun e w' => e = .returned (iv n) ∧ Below W.heap.size W w') := Lib.hid fun W => by
            have h := last_any C W zC
            rw [hpC] at h
            have h1 : lastN (o ++ [n]) = n := by unfold lastN; simp
            rw [h1] at h
            exact h
          have HCD : Hid (∀ W, Calls Tryd.prog 24 #[.string C] W fun e w' => e = .returned (iv (o.length + 1)) ∧ Below W.heap.size W w') := Lib.hid fun W => by
            have h := depth_any C W zC
            rw [hpC] at h
            have h1 : (o ++ [n]).length = o.length + 1 := by simp
            rw [h1] at h
            exact h
          clear hbk hC hCd zC hpC
          rw [hk] at HCD
          have ek2 : iv (k + 1 + 1) = .int .i64 ((k : Int) + 1 + 1) := by rw [iv]; congr 1
          rw [ek2] at HCD
          clear hio hc1 hc2 hCC hp1 hv hta za hk8 hk ho h8 ek2
          go_enter Tryd.func5, Tryd.ntmps5
          go_wp2_with (first
            | (go_at_call 21; (with_reducible refine (H0.out _).mono ?_); rintro e W1 ⟨rfl, rfl⟩)
            | (go_at_call 19; (with_reducible refine (HRP.out _).mono ?_); rintro e W2 ⟨v, rfl, ho2, hb⟩; replace HB := Lib.hid (HB.out.trans (hb.mono HB.out.size)); have HD := Lib.hid (Below.refl W2.heap.size W2); (obtain ⟨A1, c1, hv1, hr1, hcap, _⟩ := ho2.form); have HR1 := Lib.hid hr1; rw [HOL.out] at hv1 hcap; subst hv1; (obtain ⟨bb, off, x', hA, _, hx', hc0⟩ := hr1.at_ (k := k) HKL.out); subst hA; rw [HLX.out] at hx'; (obtain rfl := Option.some.inj hx'); have HC0 := Lib.hid hc0; have hq1 : (1 : Int) ≤ (c1 : Int) := (by omega); have hq2 : (k : Int) ≤ (c1 : Int) := (by omega); clear ho2 hb hr1 hx' hc0)
            | (go_at_call 22; (with_reducible refine (HCH.out _ HB.out).mono ?_); rintro e W1 ⟨rfl, hb⟩; replace HB := Lib.hid (HB.out.trans (hb.mono HB.out.size)); replace HD := Lib.hid (HD.out.trans (hb.mono HD.out.size)); clear hb)
            | (go_at_call 23; (with_reducible refine (HPR.out _ HB.out).mono ?_); rintro e W1 ⟨rfl, hb⟩; replace HB := Lib.hid (HB.out.trans (hb.mono HB.out.size)); replace HD := Lib.hid (HD.out.trans (hb.mono HD.out.size)); clear hb)
            | (go_at_call 14; (with_reducible refine (HK.out _ HB.out).mono ?_); rintro e W1 ⟨rfl, hb⟩; replace HB := Lib.hid (HB.out.trans (hb.mono HB.out.size)); replace HD := Lib.hid (HD.out.trans (hb.mono HD.out.size)); clear hb)
            | (go_at_call 17; (with_reducible refine (HOR.out _).mono ?_); rintro e W3 ⟨v, rfl, ho3, hb⟩; replace HB := Lib.hid (HB.out.trans (hb.mono HB.out.size)); replace HD := Lib.hid (HD.out.trans (hb.mono HD.out.size)); (obtain ⟨A3, c3, hv3, hr3, _, _⟩ := ho3.form); have HR3 := Lib.hid hr3; rw [HOL.out] at hv3; subst hv3; clear ho3 hb hr3)
            | (go_at_call 16; refine (HSA.out _ _ _ _ _ _ HR3.out ((HR1.out.below HD.out).more HD.out.size) (Nat.le_refl _)).mono ?_; rintro e W1 ⟨rfl, hb⟩; replace HB := Lib.hid (HB.out.trans (hb.mono HB.out.size)); replace HD := Lib.hid (HD.out.trans (hb.mono HD.out.size)); clear hb)
            | (go_at_call 24; (with_reducible refine (HDE.out _).mono ?_); rintro e W1 ⟨rfl, hb⟩; replace HB := Lib.hid (HB.out.trans (hb.mono HB.out.size)); replace HD := Lib.hid (HD.out.trans (hb.mono HD.out.size)); clear hb)
            | (go_at_call 25; (with_reducible refine (HLA.out _).mono ?_); rintro e W1 ⟨rfl, hb⟩; replace HB := Lib.hid (HB.out.trans (hb.mono HB.out.size)); replace HD := Lib.hid (HD.out.trans (hb.mono HD.out.size)); clear hb; have hcc := (HD.out.cell (p := ⟨bb, off + k, none⟩) (World.block_lt_of_cell? _ _ HC0.out)).trans HC0.out)
            | (go_at_call 26; (with_reducible refine (HRO.out _ HB.out).mono ?_); rintro e W1 ⟨rfl, hb⟩; replace HB := Lib.hid (HB.out.trans (hb.mono HB.out.size)); replace HD := Lib.hid (HD.out.trans (hb.mono HD.out.size)); clear hb)
            | (go_at_call 20; (with_reducible refine (HT1.out _ _ _ _ (HR1.out.below HD.out) HD.out.size).mono ?_); rintro e W1 ⟨rfl, hb⟩; replace HB := Lib.hid (HB.out.trans (hb.mono HB.out.size)); replace HD := Lib.hid (HD.out.trans (hb.mono HD.out.size)); clear hb)
            | (go_at_call 20; (with_reducible refine (HTk.out _ _ _ _ (HR1.out.below HD.out) HD.out.size).mono ?_); rintro e W1 ⟨rfl, hb⟩; replace HB := Lib.hid (HB.out.trans (hb.mono HB.out.size)); replace HD := Lib.hid (HD.out.trans (hb.mono HD.out.size)); clear hb)
            | (go_at_call 23; (with_reducible refine (HCP.out _ HB.out).mono ?_); rintro e W1 ⟨rfl, hb⟩; replace HB := Lib.hid (HB.out.trans (hb.mono HB.out.size)); replace HD := Lib.hid (HD.out.trans (hb.mono HD.out.size)); clear hb)
            | (go_at_call 25; (with_reducible refine (HCL.out _).mono ?_); rintro e W1 ⟨rfl, hb⟩; replace HB := Lib.hid (HB.out.trans (hb.mono HB.out.size)); replace HD := Lib.hid (HD.out.trans (hb.mono HD.out.size)); clear hb)
            | (go_at_call 24; (with_reducible refine (HCD.out _).mono ?_); rintro e W1 ⟨rfl, hb⟩; replace HB := Lib.hid (HB.out.trans (hb.mono HB.out.size)); replace HD := Lib.hid (HD.out.trans (hb.mono HD.out.size)); clear hb))
          have SLA : Hid (∀ V, (Below w.heap.size w V ∧ Below W2.heap.size W2 V) → Calls Tryd.prog 25 #[.string a] V fun e V2 => e = .returned (iv LN) ∧ (Below w.heap.size w V2 ∧ Below W2.heap.size W2 V2)) := Lib.hid fun V hV => (HLA.out V).mono fun e V2 h => ⟨h.1, hV.1.trans (h.2.mono hV.1.size), hV.2.trans (h.2.mono hV.2.size)⟩
          have SRO : Hid (∀ V, (Below w.heap.size w V ∧ Below W2.heap.size W2 V) → Calls Tryd.prog 26 #[.string a] V fun e V2 => e = .returned (.string Q) ∧ (Below w.heap.size w V2 ∧ Below W2.heap.size W2 V2)) := Lib.hid fun V hV => (HRO.out V hV.1).mono fun e V2 h => ⟨h.1, hV.1.trans (h.2.mono hV.1.size), hV.2.trans (h.2.mono hV.2.size)⟩
          have ST1 : Hid (∀ V, (Below w.heap.size w V ∧ Below W2.heap.size W2 V) → Calls Tryd.prog 20 #[.slice (some ⟨bb, off, none⟩) 1 c1] V fun e V2 => e = .returned (.string Q) ∧ (Below w.heap.size w V2 ∧ Below W2.heap.size W2 V2)) := Lib.hid fun V hV => (HT1.out (some ⟨bb, off, none⟩) c1 _ V (HR1.out.below hV.2) hV.2.size).mono fun e V2 h => ⟨h.1, hV.1.trans (h.2.mono hV.1.size), hV.2.trans (h.2.mono hV.2.size)⟩
          have STk : Hid (∀ V, (Below w.heap.size w V ∧ Below W2.heap.size W2 V) → Calls Tryd.prog 20 #[.slice (some ⟨bb, off, none⟩) k c1] V fun e V2 => e = .returned (.string P) ∧ (Below w.heap.size w V2 ∧ Below W2.heap.size W2 V2)) := Lib.hid fun V hV => (HTk.out (some ⟨bb, off, none⟩) c1 _ V (HR1.out.below hV.2) hV.2.size).mono fun e V2 h => ⟨h.1, hV.1.trans (h.2.mono hV.1.size), hV.2.trans (h.2.mono hV.2.size)⟩
          refine wp_region_held_drew (S := fun V => Below w.heap.size w V ∧ Below W2.heap.size W2 V) (by kernel_rfl) (⟨HB.out.drew, HD.out.drew⟩) (fun hHeld => ?_)
          refine wpAnyH_take (i := 0) (v := ?_) (ops_atL rfl) (by kernel_rfl) (by kernel_rfl) (by kernel_rfl) (fun _ _ _ h => h) (Or.inl ⟨by rfl, ?_⟩) hHeld ?_
          rotate_left
          · (intro W hSW; go_simp; try with_reducible rfl)
          try simp only [Act.put, List.setIfInBounds_toArray, List.set_cons_zero, List.set_cons_succ]
          refine wpAnyH_take (i := 2) (v := ?_) (ops_atL rfl) (by kernel_rfl) (by kernel_rfl) (by kernel_rfl) (fun _ _ _ h => h) (Or.inl ⟨by rfl, ?_⟩) hHeld ?_
          rotate_left
          · (intro W hSW; go_simp; try with_reducible rfl)
          try simp only [Act.put, List.setIfInBounds_toArray, List.set_cons_zero, List.set_cons_succ]
          refine wpAnyH_take (i := 3) (v := ?_) (ops_atL rfl) (by kernel_rfl) (by kernel_rfl) (by kernel_rfl) (fun _ _ _ h => h) (Or.inl ⟨by rfl, ?_⟩) hHeld ?_
          rotate_left
          · (intro W hSW; go_simp; try with_reducible rfl)
          try simp only [Act.put, List.setIfInBounds_toArray, List.set_cons_zero, List.set_cons_succ]
          refine wpAnyH_take (i := 4) (v := ?_) (ops_atL rfl) (by kernel_rfl) (by kernel_rfl) (by kernel_rfl) (fun _ _ _ h => h) (Or.inl ⟨by rfl, ?_⟩) hHeld ?_
          rotate_left
          · (intro W hSW; go_simp; try with_reducible rfl)
          try simp only [Act.put, List.setIfInBounds_toArray, List.set_cons_zero, List.set_cons_succ]
          refine wpAnyH_take (i := 5) (v := ?_) (ops_atL rfl) (by kernel_rfl) (by kernel_rfl) (by kernel_rfl) (fun _ _ _ h => h) (Or.inl ⟨by rfl, ?_⟩) hHeld ?_
          rotate_left
          · (intro W hSW; go_simp; try with_reducible rfl)
          try simp only [Act.put, List.setIfInBounds_toArray, List.set_cons_zero, List.set_cons_succ]
          refine wpAnyH_take (i := 6) (v := ?_) (ops_atL rfl) (by kernel_rfl) (by kernel_rfl) (by kernel_rfl) (fun _ _ _ h => h) (Or.inl ⟨by rfl, ?_⟩) hHeld ?_
          rotate_left
          · (intro W hSW; go_simp; try with_reducible rfl)
          try simp only [Act.put, List.setIfInBounds_toArray, List.set_cons_zero, List.set_cons_succ]
          refine wpAnyH_take (i := 7) (v := ?_) (ops_atL rfl) (by kernel_rfl) (by kernel_rfl) (by kernel_rfl) (fun _ _ _ h => h) (Or.inl ⟨by rfl, ?_⟩) hHeld ?_
          rotate_left
          · (intro W hSW; have hcc := (hSW.2.cell (p := ⟨bb, off + k, none⟩) (World.block_lt_of_cell? _ _ HC0.out)).trans HC0.out; go_simp; try with_reducible rfl)
          try simp only [Act.put, List.setIfInBounds_toArray, List.set_cons_zero, List.set_cons_succ]
          refine wpAnyH_ready (rs := [1]) (by kernel_rfl) (by simp) ?_
          refine AllReadyH.cons (ops_atL rfl) (fun K hK => ?_) AllReadyH.nil
          go_simp
          (go_at_call 25; refine (SLA.out _ hHeld).mono ?_; rintro e W' ⟨rfl, hb'⟩)
          refine hK.out _ _ hb' (fun hHeld => ?_)
          clear hK K
          try simp only [Act.put, List.setIfInBounds_toArray, List.set_cons_zero, List.set_cons_succ]
          refine wpAnyH_take (i := 8) (v := ?_) (ops_atL rfl) (by kernel_rfl) (by kernel_rfl) (by kernel_rfl) (fun _ _ _ h => h) (Or.inl ⟨by rfl, ?_⟩) hHeld ?_
          rotate_left
          · (intro W hSW; go_simp; try with_reducible rfl)
          try simp only [Act.put, List.setIfInBounds_toArray, List.set_cons_zero, List.set_cons_succ]
          refine wpAnyH_take (i := 9) (v := ?_) (ops_atL rfl) (by kernel_rfl) (by kernel_rfl) (by kernel_rfl) (fun _ _ _ h => h) (Or.inl ⟨by rfl, ?_⟩) hHeld ?_
          rotate_left
          · (intro W hSW; go_simp; try with_reducible rfl)
          try simp only [Act.put, List.setIfInBounds_toArray, List.set_cons_zero, List.set_cons_succ]
          refine wpAnyH_take (i := 10) (v := ?_) (ops_atL rfl) (by kernel_rfl) (by kernel_rfl) (by kernel_rfl) (fun _ _ _ h => h) (Or.inl ⟨by rfl, ?_⟩) hHeld ?_
          rotate_left
          · (intro W hSW; go_simp; try with_reducible rfl)
          try simp only [Act.put, List.setIfInBounds_toArray, List.set_cons_zero, List.set_cons_succ]
          refine wpAnyH_take (i := 12) (v := ?_) (ops_atL rfl) (by kernel_rfl) (by kernel_rfl) (by kernel_rfl) (fun _ _ _ h => h) (Or.inl ⟨by rfl, ?_⟩) hHeld ?_
          rotate_left
          · (intro W hSW; go_simp; try with_reducible rfl)
          try simp only [Act.put, List.setIfInBounds_toArray, List.set_cons_zero, List.set_cons_succ]
          refine wpAnyH_take (i := 13) (v := ?_) (ops_atL rfl) (by kernel_rfl) (by kernel_rfl) (by kernel_rfl) (fun _ _ _ h => h) (Or.inl ⟨by rfl, ?_⟩) hHeld ?_
          rotate_left
          · (intro W hSW; go_simp; try with_reducible rfl)
          try simp only [Act.put, List.setIfInBounds_toArray, List.set_cons_zero, List.set_cons_succ]
          refine wpAnyH_ready (rs := [11]) (by kernel_rfl) (by simp) ?_
          refine AllReadyH.cons (ops_atL rfl) (fun K hK => ?_) AllReadyH.nil
          go_simp
          (go_at_call 26; refine (SRO.out _ hHeld).mono ?_; rintro e W' ⟨rfl, hb'⟩)
          refine hK.out _ _ hb' (fun hHeld => ?_)
          clear hK K
          try simp only [Act.put, List.setIfInBounds_toArray, List.set_cons_zero, List.set_cons_succ]
          refine wpAnyH_ready (rs := [14]) (by kernel_rfl) (by simp) ?_
          refine AllReadyH.cons (ops_atL rfl) (fun K hK => ?_) AllReadyH.nil
          go_simp
          (go_at_call 20; refine (ST1.out _ hHeld).mono ?_; rintro e W' ⟨rfl, hb'⟩)
          refine hK.out _ _ hb' (fun hHeld => ?_)
          clear hK K
          try simp only [Act.put, List.setIfInBounds_toArray, List.set_cons_zero, List.set_cons_succ]
          refine wpAnyH_take (i := 15) (v := ?_) (ops_atL rfl) (by kernel_rfl) (by kernel_rfl) (by kernel_rfl) (fun _ _ _ h => h) (Or.inl ⟨by rfl, ?_⟩) hHeld ?_
          rotate_left
          · (intro W hSW; go_simp; try with_reducible rfl)
          try simp only [Act.put, List.setIfInBounds_toArray, List.set_cons_zero, List.set_cons_succ]
          refine wpAnyH_take (i := 16) (v := ?_) (ops_atL rfl) (by kernel_rfl) (by kernel_rfl) (by kernel_rfl) (fun _ _ _ h => h) (Or.inl ⟨by rfl, ?_⟩) hHeld ?_
          rotate_left
          · (intro W hSW; go_simp; try with_reducible rfl)
          try simp only [Act.put, List.setIfInBounds_toArray, List.set_cons_zero, List.set_cons_succ]
          refine wpAnyH_take (i := 17) (v := ?_) (ops_atL rfl) (by kernel_rfl) (by kernel_rfl) (by kernel_rfl) (fun _ _ _ h => h) (Or.inl ⟨by rfl, ?_⟩) hHeld ?_
          rotate_left
          · (intro W hSW; go_simp; try with_reducible rfl)
          try simp only [Act.put, List.setIfInBounds_toArray, List.set_cons_zero, List.set_cons_succ]
          refine wpAnyH_take (i := 18) (v := ?_) (ops_atL rfl) (by kernel_rfl) (by kernel_rfl) (by kernel_rfl) (fun _ _ _ h => h) (Or.inl ⟨by rfl, ?_⟩) hHeld ?_
          rotate_left
          · (intro W hSW; go_simp; try with_reducible rfl)
          try simp only [Act.put, List.setIfInBounds_toArray, List.set_cons_zero, List.set_cons_succ]
          refine wpAnyH_take (i := 19) (v := ?_) (ops_atL rfl) (by kernel_rfl) (by kernel_rfl) (by kernel_rfl) (fun _ _ _ h => h) (Or.inl ⟨by rfl, ?_⟩) hHeld ?_
          rotate_left
          · (intro W hSW; go_simp; try with_reducible rfl)
          try simp only [Act.put, List.setIfInBounds_toArray, List.set_cons_zero, List.set_cons_succ]
          refine wpAnyH_take (i := 20) (v := ?_) (ops_atL rfl) (by kernel_rfl) (by kernel_rfl) (by kernel_rfl) (fun _ _ _ h => h) (Or.inl ⟨by rfl, ?_⟩) hHeld ?_
          rotate_left
          · (intro W hSW; go_simp; try with_reducible rfl)
          try simp only [Act.put, List.setIfInBounds_toArray, List.set_cons_zero, List.set_cons_succ]
          refine wpAnyH_take (i := 21) (v := ?_) (ops_atL rfl) (by kernel_rfl) (by kernel_rfl) (by kernel_rfl) (fun _ _ _ h => h) (Or.inl ⟨by rfl, ?_⟩) hHeld ?_
          rotate_left
          · (intro W hSW; go_simp; try with_reducible rfl)
          try simp only [Act.put, List.setIfInBounds_toArray, List.set_cons_zero, List.set_cons_succ]
          refine wpAnyH_take (i := 22) (v := ?_) (ops_atL rfl) (by kernel_rfl) (by kernel_rfl) (by kernel_rfl) (fun _ _ _ h => h) (Or.inl ⟨by rfl, ?_⟩) hHeld ?_
          rotate_left
          · (intro W hSW; go_simp; try with_reducible rfl)
          try simp only [Act.put, List.setIfInBounds_toArray, List.set_cons_zero, List.set_cons_succ]
          refine wpAnyH_take (i := 23) (v := ?_) (ops_atL rfl) (by kernel_rfl) (by kernel_rfl) (by kernel_rfl) (fun _ _ _ h => h) (Or.inl ⟨by rfl, ?_⟩) hHeld ?_
          rotate_left
          · (intro W hSW; go_simp; try with_reducible rfl)
          try simp only [Act.put, List.setIfInBounds_toArray, List.set_cons_zero, List.set_cons_succ]
          refine wpAnyH_take (i := 24) (v := ?_) (ops_atL rfl) (by kernel_rfl) (by kernel_rfl) (by kernel_rfl) (fun _ _ _ h => h) (Or.inl ⟨by rfl, ?_⟩) hHeld ?_
          rotate_left
          · (intro W hSW; go_simp; try with_reducible rfl)
          try simp only [Act.put, List.setIfInBounds_toArray, List.set_cons_zero, List.set_cons_succ]
          refine wpAnyH_take (i := 25) (v := ?_) (ops_atL rfl) (by kernel_rfl) (by kernel_rfl) (by kernel_rfl) (fun _ _ _ h => h) (Or.inl ⟨by rfl, ?_⟩) hHeld ?_
          rotate_left
          · (intro W hSW; go_simp; try with_reducible rfl)
          try simp only [Act.put, List.setIfInBounds_toArray, List.set_cons_zero, List.set_cons_succ]
          refine wpAnyH_take (i := 26) (v := ?_) (ops_atL rfl) (by kernel_rfl) (by kernel_rfl) (by kernel_rfl) (fun _ _ _ h => h) (Or.inl ⟨by rfl, ?_⟩) hHeld ?_
          rotate_left
          · (intro W hSW; go_simp; try with_reducible rfl)
          try simp only [Act.put, List.setIfInBounds_toArray, List.set_cons_zero, List.set_cons_succ]
          refine wpAnyH_take (i := 27) (v := ?_) (ops_atL rfl) (by kernel_rfl) (by kernel_rfl) (by kernel_rfl) (fun _ _ _ h => h) (Or.inl ⟨by rfl, ?_⟩) hHeld ?_
          rotate_left
          · (intro W hSW; go_simp; try with_reducible rfl)
          try simp only [Act.put, List.setIfInBounds_toArray, List.set_cons_zero, List.set_cons_succ]
          refine wpAnyH_ready (rs := [28]) (by kernel_rfl) (by simp) ?_
          refine AllReadyH.cons (ops_atL rfl) (fun K hK => ?_) AllReadyH.nil
          go_simp
          (go_at_call 20; refine (STk.out _ hHeld).mono ?_; rintro e W' ⟨rfl, hb'⟩)
          refine hK.out _ _ hb' (fun hHeld => ?_)
          clear hK K
          try simp only [Act.put, List.setIfInBounds_toArray, List.set_cons_zero, List.set_cons_succ]
          refine wpAnyH_take (i := 29) (v := ?_) (ops_atL rfl) (by kernel_rfl) (by kernel_rfl) (by kernel_rfl) (fun _ _ _ h => h) (Or.inl ⟨by rfl, ?_⟩) hHeld ?_
          rotate_left
          · (intro W hSW; go_simp; try with_reducible rfl)
          try simp only [Act.put, List.setIfInBounds_toArray, List.set_cons_zero, List.set_cons_succ]
          refine wpAnyH_take (i := 30) (v := ?_) (ops_atL rfl) (by kernel_rfl) (by kernel_rfl) (by kernel_rfl) (fun _ _ _ h => h) (Or.inl ⟨by rfl, ?_⟩) hHeld ?_
          rotate_left
          · (intro W hSW; go_simp; try with_reducible rfl)
          try simp only [Act.put, List.setIfInBounds_toArray, List.set_cons_zero, List.set_cons_succ]
          refine wpAnyH_done (by kernel_rfl) ?_ _
          replace HB := Lib.hid hHeld.1
          replace HD := Lib.hid hHeld.2
          clear hHeld SLA SRO ST1 STk
          go_wp2_with (first
            | (go_at_call 21; (with_reducible refine (H0.out _).mono ?_); rintro e W1 ⟨rfl, rfl⟩)
            | (go_at_call 19; (with_reducible refine (HRP.out _).mono ?_); rintro e W2 ⟨v, rfl, ho2, hb⟩; replace HB := Lib.hid (HB.out.trans (hb.mono HB.out.size)); have HD := Lib.hid (Below.refl W2.heap.size W2); (obtain ⟨A1, c1, hv1, hr1, hcap, _⟩ := ho2.form); have HR1 := Lib.hid hr1; rw [HOL.out] at hv1 hcap; subst hv1; (obtain ⟨bb, off, x', hA, _, hx', hc0⟩ := hr1.at_ (k := k) HKL.out); subst hA; rw [HLX.out] at hx'; (obtain rfl := Option.some.inj hx'); have HC0 := Lib.hid hc0; have hq1 : (1 : Int) ≤ (c1 : Int) := (by omega); have hq2 : (k : Int) ≤ (c1 : Int) := (by omega); clear ho2 hb hr1 hx' hc0)
            | (go_at_call 22; (with_reducible refine (HCH.out _ HB.out).mono ?_); rintro e W1 ⟨rfl, hb⟩; replace HB := Lib.hid (HB.out.trans (hb.mono HB.out.size)); replace HD := Lib.hid (HD.out.trans (hb.mono HD.out.size)); clear hb)
            | (go_at_call 23; (with_reducible refine (HPR.out _ HB.out).mono ?_); rintro e W1 ⟨rfl, hb⟩; replace HB := Lib.hid (HB.out.trans (hb.mono HB.out.size)); replace HD := Lib.hid (HD.out.trans (hb.mono HD.out.size)); clear hb)
            | (go_at_call 14; (with_reducible refine (HK.out _ HB.out).mono ?_); rintro e W1 ⟨rfl, hb⟩; replace HB := Lib.hid (HB.out.trans (hb.mono HB.out.size)); replace HD := Lib.hid (HD.out.trans (hb.mono HD.out.size)); clear hb)
            | (go_at_call 17; (with_reducible refine (HOR.out _).mono ?_); rintro e W3 ⟨v, rfl, ho3, hb⟩; replace HB := Lib.hid (HB.out.trans (hb.mono HB.out.size)); replace HD := Lib.hid (HD.out.trans (hb.mono HD.out.size)); (obtain ⟨A3, c3, hv3, hr3, _, _⟩ := ho3.form); have HR3 := Lib.hid hr3; rw [HOL.out] at hv3; subst hv3; clear ho3 hb hr3)
            | (go_at_call 16; refine (HSA.out _ _ _ _ _ _ HR3.out ((HR1.out.below HD.out).more HD.out.size) (Nat.le_refl _)).mono ?_; rintro e W1 ⟨rfl, hb⟩; replace HB := Lib.hid (HB.out.trans (hb.mono HB.out.size)); replace HD := Lib.hid (HD.out.trans (hb.mono HD.out.size)); clear hb)
            | (go_at_call 24; (with_reducible refine (HDE.out _).mono ?_); rintro e W1 ⟨rfl, hb⟩; replace HB := Lib.hid (HB.out.trans (hb.mono HB.out.size)); replace HD := Lib.hid (HD.out.trans (hb.mono HD.out.size)); clear hb)
            | (go_at_call 25; (with_reducible refine (HLA.out _).mono ?_); rintro e W1 ⟨rfl, hb⟩; replace HB := Lib.hid (HB.out.trans (hb.mono HB.out.size)); replace HD := Lib.hid (HD.out.trans (hb.mono HD.out.size)); clear hb; have hcc := (HD.out.cell (p := ⟨bb, off + k, none⟩) (World.block_lt_of_cell? _ _ HC0.out)).trans HC0.out)
            | (go_at_call 26; (with_reducible refine (HRO.out _ HB.out).mono ?_); rintro e W1 ⟨rfl, hb⟩; replace HB := Lib.hid (HB.out.trans (hb.mono HB.out.size)); replace HD := Lib.hid (HD.out.trans (hb.mono HD.out.size)); clear hb)
            | (go_at_call 20; (with_reducible refine (HT1.out _ _ _ _ (HR1.out.below HD.out) HD.out.size).mono ?_); rintro e W1 ⟨rfl, hb⟩; replace HB := Lib.hid (HB.out.trans (hb.mono HB.out.size)); replace HD := Lib.hid (HD.out.trans (hb.mono HD.out.size)); clear hb)
            | (go_at_call 20; (with_reducible refine (HTk.out _ _ _ _ (HR1.out.below HD.out) HD.out.size).mono ?_); rintro e W1 ⟨rfl, hb⟩; replace HB := Lib.hid (HB.out.trans (hb.mono HB.out.size)); replace HD := Lib.hid (HD.out.trans (hb.mono HD.out.size)); clear hb)
            | (go_at_call 23; (with_reducible refine (HCP.out _ HB.out).mono ?_); rintro e W1 ⟨rfl, hb⟩; replace HB := Lib.hid (HB.out.trans (hb.mono HB.out.size)); replace HD := Lib.hid (HD.out.trans (hb.mono HD.out.size)); clear hb)
            | (go_at_call 25; (with_reducible refine (HCL.out _).mono ?_); rintro e W1 ⟨rfl, hb⟩; replace HB := Lib.hid (HB.out.trans (hb.mono HB.out.size)); replace HD := Lib.hid (HD.out.trans (hb.mono HD.out.size)); clear hb)
            | (go_at_call 24; (with_reducible refine (HCD.out _).mono ?_); rintro e W1 ⟨rfl, hb⟩; replace HB := Lib.hid (HB.out.trans (hb.mono HB.out.size)); replace HD := Lib.hid (HD.out.trans (hb.mono HD.out.size)); clear hb))
          go_ret
          exact ⟨rfl, HB.out⟩
      · have hiof : isO m = false := by simpa using hio
        have hc1 : CC = (⟨#[]⟩, 2) := by rw [hCC]; unfold childL; rw [if_pos hv, if_neg hio]
        subst hc1
        have hcase := isO_false hiof
        clear hio hiof hCC hp1 hv hta hk ho h8
        by_cases m1 : m < 1
        · skip
          go_enter Tryd.func5, Tryd.ntmps5
          go_wp2_with (first
            | (go_at_call 21; (with_reducible refine (H0.out _).mono ?_); rintro e W1 ⟨rfl, rfl⟩)
            | (go_at_call 19; (with_reducible refine (HRP.out _).mono ?_); rintro e W2 ⟨v, rfl, ho2, hb⟩; replace HB := Lib.hid (HB.out.trans (hb.mono HB.out.size)); have HD := Lib.hid (Below.refl W2.heap.size W2); (obtain ⟨A1, c1, hv1, hr1, hcap, _⟩ := ho2.form); have HR1 := Lib.hid hr1; rw [HOL.out] at hv1 hcap; subst hv1; (obtain ⟨bb, off, x', hA, _, hx', hc0⟩ := hr1.at_ (k := k) HKL.out); subst hA; rw [HLX.out] at hx'; (obtain rfl := Option.some.inj hx'); have HC0 := Lib.hid hc0; have hq1 : (1 : Int) ≤ (c1 : Int) := (by omega); have hq2 : (k : Int) ≤ (c1 : Int) := (by omega); clear ho2 hb hr1 hx' hc0)
            | (go_at_call 22; (with_reducible refine (HCH.out _ HB.out).mono ?_); rintro e W1 ⟨rfl, hb⟩; replace HB := Lib.hid (HB.out.trans (hb.mono HB.out.size)); replace HD := Lib.hid (HD.out.trans (hb.mono HD.out.size)); clear hb)
            | (go_at_call 23; (with_reducible refine (HPR.out _ HB.out).mono ?_); rintro e W1 ⟨rfl, hb⟩; replace HB := Lib.hid (HB.out.trans (hb.mono HB.out.size)); replace HD := Lib.hid (HD.out.trans (hb.mono HD.out.size)); clear hb)
            | (go_at_call 14; (with_reducible refine (HK.out _ HB.out).mono ?_); rintro e W1 ⟨rfl, hb⟩; replace HB := Lib.hid (HB.out.trans (hb.mono HB.out.size)); replace HD := Lib.hid (HD.out.trans (hb.mono HD.out.size)); clear hb)
            | (go_at_call 17; (with_reducible refine (HOR.out _).mono ?_); rintro e W3 ⟨v, rfl, ho3, hb⟩; replace HB := Lib.hid (HB.out.trans (hb.mono HB.out.size)); replace HD := Lib.hid (HD.out.trans (hb.mono HD.out.size)); (obtain ⟨A3, c3, hv3, hr3, _, _⟩ := ho3.form); have HR3 := Lib.hid hr3; rw [HOL.out] at hv3; subst hv3; clear ho3 hb hr3)
            | (go_at_call 16; refine (HSA.out _ _ _ _ _ _ HR3.out ((HR1.out.below HD.out).more HD.out.size) (Nat.le_refl _)).mono ?_; rintro e W1 ⟨rfl, hb⟩; replace HB := Lib.hid (HB.out.trans (hb.mono HB.out.size)); replace HD := Lib.hid (HD.out.trans (hb.mono HD.out.size)); clear hb)
            | (go_at_call 24; (with_reducible refine (HDE.out _).mono ?_); rintro e W1 ⟨rfl, hb⟩; replace HB := Lib.hid (HB.out.trans (hb.mono HB.out.size)); replace HD := Lib.hid (HD.out.trans (hb.mono HD.out.size)); clear hb)
            | (go_at_call 25; (with_reducible refine (HLA.out _).mono ?_); rintro e W1 ⟨rfl, hb⟩; replace HB := Lib.hid (HB.out.trans (hb.mono HB.out.size)); replace HD := Lib.hid (HD.out.trans (hb.mono HD.out.size)); clear hb; have hcc := (HD.out.cell (p := ⟨bb, off + k, none⟩) (World.block_lt_of_cell? _ _ HC0.out)).trans HC0.out)
            | (go_at_call 26; (with_reducible refine (HRO.out _ HB.out).mono ?_); rintro e W1 ⟨rfl, hb⟩; replace HB := Lib.hid (HB.out.trans (hb.mono HB.out.size)); replace HD := Lib.hid (HD.out.trans (hb.mono HD.out.size)); clear hb)
            | (go_at_call 20; (with_reducible refine (HT1.out _ _ _ _ (HR1.out.below HD.out) HD.out.size).mono ?_); rintro e W1 ⟨rfl, hb⟩; replace HB := Lib.hid (HB.out.trans (hb.mono HB.out.size)); replace HD := Lib.hid (HD.out.trans (hb.mono HD.out.size)); clear hb)
            | (go_at_call 20; (with_reducible refine (HTk.out _ _ _ _ (HR1.out.below HD.out) HD.out.size).mono ?_); rintro e W1 ⟨rfl, hb⟩; replace HB := Lib.hid (HB.out.trans (hb.mono HB.out.size)); replace HD := Lib.hid (HD.out.trans (hb.mono HD.out.size)); clear hb))
          have SLA : Hid (∀ V, (Below w.heap.size w V ∧ Below W2.heap.size W2 V) → Calls Tryd.prog 25 #[.string a] V fun e V2 => e = .returned (iv LN) ∧ (Below w.heap.size w V2 ∧ Below W2.heap.size W2 V2)) := Lib.hid fun V hV => (HLA.out V).mono fun e V2 h => ⟨h.1, hV.1.trans (h.2.mono hV.1.size), hV.2.trans (h.2.mono hV.2.size)⟩
          have SRO : Hid (∀ V, (Below w.heap.size w V ∧ Below W2.heap.size W2 V) → Calls Tryd.prog 26 #[.string a] V fun e V2 => e = .returned (.string Q) ∧ (Below w.heap.size w V2 ∧ Below W2.heap.size W2 V2)) := Lib.hid fun V hV => (HRO.out V hV.1).mono fun e V2 h => ⟨h.1, hV.1.trans (h.2.mono hV.1.size), hV.2.trans (h.2.mono hV.2.size)⟩
          have ST1 : Hid (∀ V, (Below w.heap.size w V ∧ Below W2.heap.size W2 V) → Calls Tryd.prog 20 #[.slice (some ⟨bb, off, none⟩) 1 c1] V fun e V2 => e = .returned (.string Q) ∧ (Below w.heap.size w V2 ∧ Below W2.heap.size W2 V2)) := Lib.hid fun V hV => (HT1.out (some ⟨bb, off, none⟩) c1 _ V (HR1.out.below hV.2) hV.2.size).mono fun e V2 h => ⟨h.1, hV.1.trans (h.2.mono hV.1.size), hV.2.trans (h.2.mono hV.2.size)⟩
          have STk : Hid (∀ V, (Below w.heap.size w V ∧ Below W2.heap.size W2 V) → Calls Tryd.prog 20 #[.slice (some ⟨bb, off, none⟩) k c1] V fun e V2 => e = .returned (.string P) ∧ (Below w.heap.size w V2 ∧ Below W2.heap.size W2 V2)) := Lib.hid fun V hV => (HTk.out (some ⟨bb, off, none⟩) c1 _ V (HR1.out.below hV.2) hV.2.size).mono fun e V2 h => ⟨h.1, hV.1.trans (h.2.mono hV.1.size), hV.2.trans (h.2.mono hV.2.size)⟩
          refine wp_region_held_drew (S := fun V => Below w.heap.size w V ∧ Below W2.heap.size W2 V) (by kernel_rfl) (⟨HB.out.drew, HD.out.drew⟩) (fun hHeld => ?_)
          refine wpAnyH_take (i := 0) (v := ?_) (ops_atL rfl) (by kernel_rfl) (by kernel_rfl) (by kernel_rfl) (fun _ _ _ h => h) (Or.inl ⟨by rfl, ?_⟩) hHeld ?_
          rotate_left
          · (intro W hSW; go_simp; try with_reducible rfl)
          try simp only [Act.put, List.setIfInBounds_toArray, List.set_cons_zero, List.set_cons_succ]
          refine wpAnyH_take (i := 2) (v := ?_) (ops_atL rfl) (by kernel_rfl) (by kernel_rfl) (by kernel_rfl) (fun _ _ _ h => h) (Or.inl ⟨by rfl, ?_⟩) hHeld ?_
          rotate_left
          · (intro W hSW; go_simp; try with_reducible rfl)
          try simp only [Act.put, List.setIfInBounds_toArray, List.set_cons_zero, List.set_cons_succ]
          refine wpAnyH_take (i := 3) (v := ?_) (ops_atL rfl) (by kernel_rfl) (by kernel_rfl) (by kernel_rfl) (fun _ _ _ h => h) (Or.inl ⟨by rfl, ?_⟩) hHeld ?_
          rotate_left
          · (intro W hSW; go_simp; try with_reducible rfl)
          try simp only [Act.put, List.setIfInBounds_toArray, List.set_cons_zero, List.set_cons_succ]
          refine wpAnyH_take (i := 4) (v := ?_) (ops_atL rfl) (by kernel_rfl) (by kernel_rfl) (by kernel_rfl) (fun _ _ _ h => h) (Or.inl ⟨by rfl, ?_⟩) hHeld ?_
          rotate_left
          · (intro W hSW; go_simp; try with_reducible rfl)
          try simp only [Act.put, List.setIfInBounds_toArray, List.set_cons_zero, List.set_cons_succ]
          refine wpAnyH_take (i := 5) (v := ?_) (ops_atL rfl) (by kernel_rfl) (by kernel_rfl) (by kernel_rfl) (fun _ _ _ h => h) (Or.inl ⟨by rfl, ?_⟩) hHeld ?_
          rotate_left
          · (intro W hSW; go_simp; try with_reducible rfl)
          try simp only [Act.put, List.setIfInBounds_toArray, List.set_cons_zero, List.set_cons_succ]
          refine wpAnyH_take (i := 6) (v := ?_) (ops_atL rfl) (by kernel_rfl) (by kernel_rfl) (by kernel_rfl) (fun _ _ _ h => h) (Or.inl ⟨by rfl, ?_⟩) hHeld ?_
          rotate_left
          · (intro W hSW; go_simp; try with_reducible rfl)
          try simp only [Act.put, List.setIfInBounds_toArray, List.set_cons_zero, List.set_cons_succ]
          refine wpAnyH_take (i := 7) (v := ?_) (ops_atL rfl) (by kernel_rfl) (by kernel_rfl) (by kernel_rfl) (fun _ _ _ h => h) (Or.inl ⟨by rfl, ?_⟩) hHeld ?_
          rotate_left
          · (intro W hSW; have hcc := (hSW.2.cell (p := ⟨bb, off + k, none⟩) (World.block_lt_of_cell? _ _ HC0.out)).trans HC0.out; go_simp; try with_reducible rfl)
          try simp only [Act.put, List.setIfInBounds_toArray, List.set_cons_zero, List.set_cons_succ]
          refine wpAnyH_ready (rs := [1]) (by kernel_rfl) (by simp) ?_
          refine AllReadyH.cons (ops_atL rfl) (fun K hK => ?_) AllReadyH.nil
          go_simp
          (go_at_call 25; refine (SLA.out _ hHeld).mono ?_; rintro e W' ⟨rfl, hb'⟩)
          refine hK.out _ _ hb' (fun hHeld => ?_)
          clear hK K
          try simp only [Act.put, List.setIfInBounds_toArray, List.set_cons_zero, List.set_cons_succ]
          refine wpAnyH_take (i := 8) (v := ?_) (ops_atL rfl) (by kernel_rfl) (by kernel_rfl) (by kernel_rfl) (fun _ _ _ h => h) (Or.inl ⟨by rfl, ?_⟩) hHeld ?_
          rotate_left
          · (intro W hSW; go_simp; try with_reducible rfl)
          try simp only [Act.put, List.setIfInBounds_toArray, List.set_cons_zero, List.set_cons_succ]
          refine wpAnyH_take (i := 9) (v := ?_) (ops_atL rfl) (by kernel_rfl) (by kernel_rfl) (by kernel_rfl) (fun _ _ _ h => h) (Or.inl ⟨by rfl, ?_⟩) hHeld ?_
          rotate_left
          · (intro W hSW; go_simp; try with_reducible rfl)
          try simp only [Act.put, List.setIfInBounds_toArray, List.set_cons_zero, List.set_cons_succ]
          refine wpAnyH_take (i := 10) (v := ?_) (ops_atL rfl) (by kernel_rfl) (by kernel_rfl) (by kernel_rfl) (fun _ _ _ h => h) (Or.inl ⟨by rfl, ?_⟩) hHeld ?_
          rotate_left
          · (intro W hSW; go_simp; try with_reducible rfl)
          try simp only [Act.put, List.setIfInBounds_toArray, List.set_cons_zero, List.set_cons_succ]
          refine wpAnyH_take (i := 12) (v := ?_) (ops_atL rfl) (by kernel_rfl) (by kernel_rfl) (by kernel_rfl) (fun _ _ _ h => h) (Or.inl ⟨by rfl, ?_⟩) hHeld ?_
          rotate_left
          · (intro W hSW; go_simp; try with_reducible rfl)
          try simp only [Act.put, List.setIfInBounds_toArray, List.set_cons_zero, List.set_cons_succ]
          refine wpAnyH_take (i := 13) (v := ?_) (ops_atL rfl) (by kernel_rfl) (by kernel_rfl) (by kernel_rfl) (fun _ _ _ h => h) (Or.inl ⟨by rfl, ?_⟩) hHeld ?_
          rotate_left
          · (intro W hSW; go_simp; try with_reducible rfl)
          try simp only [Act.put, List.setIfInBounds_toArray, List.set_cons_zero, List.set_cons_succ]
          refine wpAnyH_ready (rs := [11]) (by kernel_rfl) (by simp) ?_
          refine AllReadyH.cons (ops_atL rfl) (fun K hK => ?_) AllReadyH.nil
          go_simp
          (go_at_call 26; refine (SRO.out _ hHeld).mono ?_; rintro e W' ⟨rfl, hb'⟩)
          refine hK.out _ _ hb' (fun hHeld => ?_)
          clear hK K
          try simp only [Act.put, List.setIfInBounds_toArray, List.set_cons_zero, List.set_cons_succ]
          refine wpAnyH_ready (rs := [14]) (by kernel_rfl) (by simp) ?_
          refine AllReadyH.cons (ops_atL rfl) (fun K hK => ?_) AllReadyH.nil
          go_simp
          (go_at_call 20; refine (ST1.out _ hHeld).mono ?_; rintro e W' ⟨rfl, hb'⟩)
          refine hK.out _ _ hb' (fun hHeld => ?_)
          clear hK K
          try simp only [Act.put, List.setIfInBounds_toArray, List.set_cons_zero, List.set_cons_succ]
          refine wpAnyH_take (i := 15) (v := ?_) (ops_atL rfl) (by kernel_rfl) (by kernel_rfl) (by kernel_rfl) (fun _ _ _ h => h) (Or.inl ⟨by rfl, ?_⟩) hHeld ?_
          rotate_left
          · (intro W hSW; go_simp; try with_reducible rfl)
          try simp only [Act.put, List.setIfInBounds_toArray, List.set_cons_zero, List.set_cons_succ]
          refine wpAnyH_take (i := 16) (v := ?_) (ops_atL rfl) (by kernel_rfl) (by kernel_rfl) (by kernel_rfl) (fun _ _ _ h => h) (Or.inl ⟨by rfl, ?_⟩) hHeld ?_
          rotate_left
          · (intro W hSW; go_simp; try with_reducible rfl)
          try simp only [Act.put, List.setIfInBounds_toArray, List.set_cons_zero, List.set_cons_succ]
          refine wpAnyH_take (i := 17) (v := ?_) (ops_atL rfl) (by kernel_rfl) (by kernel_rfl) (by kernel_rfl) (fun _ _ _ h => h) (Or.inl ⟨by rfl, ?_⟩) hHeld ?_
          rotate_left
          · (intro W hSW; go_simp; try with_reducible rfl)
          try simp only [Act.put, List.setIfInBounds_toArray, List.set_cons_zero, List.set_cons_succ]
          refine wpAnyH_take (i := 18) (v := ?_) (ops_atL rfl) (by kernel_rfl) (by kernel_rfl) (by kernel_rfl) (fun _ _ _ h => h) (Or.inl ⟨by rfl, ?_⟩) hHeld ?_
          rotate_left
          · (intro W hSW; go_simp; try with_reducible rfl)
          try simp only [Act.put, List.setIfInBounds_toArray, List.set_cons_zero, List.set_cons_succ]
          refine wpAnyH_take (i := 19) (v := ?_) (ops_atL rfl) (by kernel_rfl) (by kernel_rfl) (by kernel_rfl) (fun _ _ _ h => h) (Or.inl ⟨by rfl, ?_⟩) hHeld ?_
          rotate_left
          · (intro W hSW; go_simp; try with_reducible rfl)
          try simp only [Act.put, List.setIfInBounds_toArray, List.set_cons_zero, List.set_cons_succ]
          refine wpAnyH_take (i := 20) (v := ?_) (ops_atL rfl) (by kernel_rfl) (by kernel_rfl) (by kernel_rfl) (fun _ _ _ h => h) (Or.inl ⟨by rfl, ?_⟩) hHeld ?_
          rotate_left
          · (intro W hSW; go_simp; try with_reducible rfl)
          try simp only [Act.put, List.setIfInBounds_toArray, List.set_cons_zero, List.set_cons_succ]
          refine wpAnyH_take (i := 21) (v := ?_) (ops_atL rfl) (by kernel_rfl) (by kernel_rfl) (by kernel_rfl) (fun _ _ _ h => h) (Or.inl ⟨by rfl, ?_⟩) hHeld ?_
          rotate_left
          · (intro W hSW; go_simp; try with_reducible rfl)
          try simp only [Act.put, List.setIfInBounds_toArray, List.set_cons_zero, List.set_cons_succ]
          refine wpAnyH_take (i := 22) (v := ?_) (ops_atL rfl) (by kernel_rfl) (by kernel_rfl) (by kernel_rfl) (fun _ _ _ h => h) (Or.inl ⟨by rfl, ?_⟩) hHeld ?_
          rotate_left
          · (intro W hSW; go_simp; try with_reducible rfl)
          try simp only [Act.put, List.setIfInBounds_toArray, List.set_cons_zero, List.set_cons_succ]
          refine wpAnyH_take (i := 23) (v := ?_) (ops_atL rfl) (by kernel_rfl) (by kernel_rfl) (by kernel_rfl) (fun _ _ _ h => h) (Or.inl ⟨by rfl, ?_⟩) hHeld ?_
          rotate_left
          · (intro W hSW; go_simp; try with_reducible rfl)
          try simp only [Act.put, List.setIfInBounds_toArray, List.set_cons_zero, List.set_cons_succ]
          refine wpAnyH_take (i := 24) (v := ?_) (ops_atL rfl) (by kernel_rfl) (by kernel_rfl) (by kernel_rfl) (fun _ _ _ h => h) (Or.inl ⟨by rfl, ?_⟩) hHeld ?_
          rotate_left
          · (intro W hSW; go_simp; try with_reducible rfl)
          try simp only [Act.put, List.setIfInBounds_toArray, List.set_cons_zero, List.set_cons_succ]
          refine wpAnyH_take (i := 25) (v := ?_) (ops_atL rfl) (by kernel_rfl) (by kernel_rfl) (by kernel_rfl) (fun _ _ _ h => h) (Or.inl ⟨by rfl, ?_⟩) hHeld ?_
          rotate_left
          · (intro W hSW; go_simp; try with_reducible rfl)
          try simp only [Act.put, List.setIfInBounds_toArray, List.set_cons_zero, List.set_cons_succ]
          refine wpAnyH_take (i := 26) (v := ?_) (ops_atL rfl) (by kernel_rfl) (by kernel_rfl) (by kernel_rfl) (fun _ _ _ h => h) (Or.inl ⟨by rfl, ?_⟩) hHeld ?_
          rotate_left
          · (intro W hSW; go_simp; try with_reducible rfl)
          try simp only [Act.put, List.setIfInBounds_toArray, List.set_cons_zero, List.set_cons_succ]
          refine wpAnyH_take (i := 27) (v := ?_) (ops_atL rfl) (by kernel_rfl) (by kernel_rfl) (by kernel_rfl) (fun _ _ _ h => h) (Or.inl ⟨by rfl, ?_⟩) hHeld ?_
          rotate_left
          · (intro W hSW; go_simp; try with_reducible rfl)
          try simp only [Act.put, List.setIfInBounds_toArray, List.set_cons_zero, List.set_cons_succ]
          refine wpAnyH_ready (rs := [28]) (by kernel_rfl) (by simp) ?_
          refine AllReadyH.cons (ops_atL rfl) (fun K hK => ?_) AllReadyH.nil
          go_simp
          (go_at_call 20; refine (STk.out _ hHeld).mono ?_; rintro e W' ⟨rfl, hb'⟩)
          refine hK.out _ _ hb' (fun hHeld => ?_)
          clear hK K
          try simp only [Act.put, List.setIfInBounds_toArray, List.set_cons_zero, List.set_cons_succ]
          refine wpAnyH_take (i := 29) (v := ?_) (ops_atL rfl) (by kernel_rfl) (by kernel_rfl) (by kernel_rfl) (fun _ _ _ h => h) (Or.inl ⟨by rfl, ?_⟩) hHeld ?_
          rotate_left
          · (intro W hSW; go_simp; try with_reducible rfl)
          try simp only [Act.put, List.setIfInBounds_toArray, List.set_cons_zero, List.set_cons_succ]
          refine wpAnyH_take (i := 30) (v := ?_) (ops_atL rfl) (by kernel_rfl) (by kernel_rfl) (by kernel_rfl) (fun _ _ _ h => h) (Or.inl ⟨by rfl, ?_⟩) hHeld ?_
          rotate_left
          · (intro W hSW; go_simp; try with_reducible rfl)
          try simp only [Act.put, List.setIfInBounds_toArray, List.set_cons_zero, List.set_cons_succ]
          refine wpAnyH_done (by kernel_rfl) ?_ _
          replace HB := Lib.hid hHeld.1
          replace HD := Lib.hid hHeld.2
          clear hHeld SLA SRO ST1 STk
          go_wp2_with (first
            | (go_at_call 21; (with_reducible refine (H0.out _).mono ?_); rintro e W1 ⟨rfl, rfl⟩)
            | (go_at_call 19; (with_reducible refine (HRP.out _).mono ?_); rintro e W2 ⟨v, rfl, ho2, hb⟩; replace HB := Lib.hid (HB.out.trans (hb.mono HB.out.size)); have HD := Lib.hid (Below.refl W2.heap.size W2); (obtain ⟨A1, c1, hv1, hr1, hcap, _⟩ := ho2.form); have HR1 := Lib.hid hr1; rw [HOL.out] at hv1 hcap; subst hv1; (obtain ⟨bb, off, x', hA, _, hx', hc0⟩ := hr1.at_ (k := k) HKL.out); subst hA; rw [HLX.out] at hx'; (obtain rfl := Option.some.inj hx'); have HC0 := Lib.hid hc0; have hq1 : (1 : Int) ≤ (c1 : Int) := (by omega); have hq2 : (k : Int) ≤ (c1 : Int) := (by omega); clear ho2 hb hr1 hx' hc0)
            | (go_at_call 22; (with_reducible refine (HCH.out _ HB.out).mono ?_); rintro e W1 ⟨rfl, hb⟩; replace HB := Lib.hid (HB.out.trans (hb.mono HB.out.size)); replace HD := Lib.hid (HD.out.trans (hb.mono HD.out.size)); clear hb)
            | (go_at_call 23; (with_reducible refine (HPR.out _ HB.out).mono ?_); rintro e W1 ⟨rfl, hb⟩; replace HB := Lib.hid (HB.out.trans (hb.mono HB.out.size)); replace HD := Lib.hid (HD.out.trans (hb.mono HD.out.size)); clear hb)
            | (go_at_call 14; (with_reducible refine (HK.out _ HB.out).mono ?_); rintro e W1 ⟨rfl, hb⟩; replace HB := Lib.hid (HB.out.trans (hb.mono HB.out.size)); replace HD := Lib.hid (HD.out.trans (hb.mono HD.out.size)); clear hb)
            | (go_at_call 17; (with_reducible refine (HOR.out _).mono ?_); rintro e W3 ⟨v, rfl, ho3, hb⟩; replace HB := Lib.hid (HB.out.trans (hb.mono HB.out.size)); replace HD := Lib.hid (HD.out.trans (hb.mono HD.out.size)); (obtain ⟨A3, c3, hv3, hr3, _, _⟩ := ho3.form); have HR3 := Lib.hid hr3; rw [HOL.out] at hv3; subst hv3; clear ho3 hb hr3)
            | (go_at_call 16; refine (HSA.out _ _ _ _ _ _ HR3.out ((HR1.out.below HD.out).more HD.out.size) (Nat.le_refl _)).mono ?_; rintro e W1 ⟨rfl, hb⟩; replace HB := Lib.hid (HB.out.trans (hb.mono HB.out.size)); replace HD := Lib.hid (HD.out.trans (hb.mono HD.out.size)); clear hb)
            | (go_at_call 24; (with_reducible refine (HDE.out _).mono ?_); rintro e W1 ⟨rfl, hb⟩; replace HB := Lib.hid (HB.out.trans (hb.mono HB.out.size)); replace HD := Lib.hid (HD.out.trans (hb.mono HD.out.size)); clear hb)
            | (go_at_call 25; (with_reducible refine (HLA.out _).mono ?_); rintro e W1 ⟨rfl, hb⟩; replace HB := Lib.hid (HB.out.trans (hb.mono HB.out.size)); replace HD := Lib.hid (HD.out.trans (hb.mono HD.out.size)); clear hb; have hcc := (HD.out.cell (p := ⟨bb, off + k, none⟩) (World.block_lt_of_cell? _ _ HC0.out)).trans HC0.out)
            | (go_at_call 26; (with_reducible refine (HRO.out _ HB.out).mono ?_); rintro e W1 ⟨rfl, hb⟩; replace HB := Lib.hid (HB.out.trans (hb.mono HB.out.size)); replace HD := Lib.hid (HD.out.trans (hb.mono HD.out.size)); clear hb)
            | (go_at_call 20; (with_reducible refine (HT1.out _ _ _ _ (HR1.out.below HD.out) HD.out.size).mono ?_); rintro e W1 ⟨rfl, hb⟩; replace HB := Lib.hid (HB.out.trans (hb.mono HB.out.size)); replace HD := Lib.hid (HD.out.trans (hb.mono HD.out.size)); clear hb)
            | (go_at_call 20; (with_reducible refine (HTk.out _ _ _ _ (HR1.out.below HD.out) HD.out.size).mono ?_); rintro e W1 ⟨rfl, hb⟩; replace HB := Lib.hid (HB.out.trans (hb.mono HB.out.size)); replace HD := Lib.hid (HD.out.trans (hb.mono HD.out.size)); clear hb))
          go_ret
          exact ⟨rfl, HB.out⟩
        · have m2 : 999999 < m := by omega
          go_enter Tryd.func5, Tryd.ntmps5
          go_wp2_with (first
            | (go_at_call 21; (with_reducible refine (H0.out _).mono ?_); rintro e W1 ⟨rfl, rfl⟩)
            | (go_at_call 19; (with_reducible refine (HRP.out _).mono ?_); rintro e W2 ⟨v, rfl, ho2, hb⟩; replace HB := Lib.hid (HB.out.trans (hb.mono HB.out.size)); have HD := Lib.hid (Below.refl W2.heap.size W2); (obtain ⟨A1, c1, hv1, hr1, hcap, _⟩ := ho2.form); have HR1 := Lib.hid hr1; rw [HOL.out] at hv1 hcap; subst hv1; (obtain ⟨bb, off, x', hA, _, hx', hc0⟩ := hr1.at_ (k := k) HKL.out); subst hA; rw [HLX.out] at hx'; (obtain rfl := Option.some.inj hx'); have HC0 := Lib.hid hc0; have hq1 : (1 : Int) ≤ (c1 : Int) := (by omega); have hq2 : (k : Int) ≤ (c1 : Int) := (by omega); clear ho2 hb hr1 hx' hc0)
            | (go_at_call 22; (with_reducible refine (HCH.out _ HB.out).mono ?_); rintro e W1 ⟨rfl, hb⟩; replace HB := Lib.hid (HB.out.trans (hb.mono HB.out.size)); replace HD := Lib.hid (HD.out.trans (hb.mono HD.out.size)); clear hb)
            | (go_at_call 23; (with_reducible refine (HPR.out _ HB.out).mono ?_); rintro e W1 ⟨rfl, hb⟩; replace HB := Lib.hid (HB.out.trans (hb.mono HB.out.size)); replace HD := Lib.hid (HD.out.trans (hb.mono HD.out.size)); clear hb)
            | (go_at_call 14; (with_reducible refine (HK.out _ HB.out).mono ?_); rintro e W1 ⟨rfl, hb⟩; replace HB := Lib.hid (HB.out.trans (hb.mono HB.out.size)); replace HD := Lib.hid (HD.out.trans (hb.mono HD.out.size)); clear hb)
            | (go_at_call 17; (with_reducible refine (HOR.out _).mono ?_); rintro e W3 ⟨v, rfl, ho3, hb⟩; replace HB := Lib.hid (HB.out.trans (hb.mono HB.out.size)); replace HD := Lib.hid (HD.out.trans (hb.mono HD.out.size)); (obtain ⟨A3, c3, hv3, hr3, _, _⟩ := ho3.form); have HR3 := Lib.hid hr3; rw [HOL.out] at hv3; subst hv3; clear ho3 hb hr3)
            | (go_at_call 16; refine (HSA.out _ _ _ _ _ _ HR3.out ((HR1.out.below HD.out).more HD.out.size) (Nat.le_refl _)).mono ?_; rintro e W1 ⟨rfl, hb⟩; replace HB := Lib.hid (HB.out.trans (hb.mono HB.out.size)); replace HD := Lib.hid (HD.out.trans (hb.mono HD.out.size)); clear hb)
            | (go_at_call 24; (with_reducible refine (HDE.out _).mono ?_); rintro e W1 ⟨rfl, hb⟩; replace HB := Lib.hid (HB.out.trans (hb.mono HB.out.size)); replace HD := Lib.hid (HD.out.trans (hb.mono HD.out.size)); clear hb)
            | (go_at_call 25; (with_reducible refine (HLA.out _).mono ?_); rintro e W1 ⟨rfl, hb⟩; replace HB := Lib.hid (HB.out.trans (hb.mono HB.out.size)); replace HD := Lib.hid (HD.out.trans (hb.mono HD.out.size)); clear hb; have hcc := (HD.out.cell (p := ⟨bb, off + k, none⟩) (World.block_lt_of_cell? _ _ HC0.out)).trans HC0.out)
            | (go_at_call 26; (with_reducible refine (HRO.out _ HB.out).mono ?_); rintro e W1 ⟨rfl, hb⟩; replace HB := Lib.hid (HB.out.trans (hb.mono HB.out.size)); replace HD := Lib.hid (HD.out.trans (hb.mono HD.out.size)); clear hb)
            | (go_at_call 20; (with_reducible refine (HT1.out _ _ _ _ (HR1.out.below HD.out) HD.out.size).mono ?_); rintro e W1 ⟨rfl, hb⟩; replace HB := Lib.hid (HB.out.trans (hb.mono HB.out.size)); replace HD := Lib.hid (HD.out.trans (hb.mono HD.out.size)); clear hb)
            | (go_at_call 20; (with_reducible refine (HTk.out _ _ _ _ (HR1.out.below HD.out) HD.out.size).mono ?_); rintro e W1 ⟨rfl, hb⟩; replace HB := Lib.hid (HB.out.trans (hb.mono HB.out.size)); replace HD := Lib.hid (HD.out.trans (hb.mono HD.out.size)); clear hb))
          have SLA : Hid (∀ V, (Below w.heap.size w V ∧ Below W2.heap.size W2 V) → Calls Tryd.prog 25 #[.string a] V fun e V2 => e = .returned (iv LN) ∧ (Below w.heap.size w V2 ∧ Below W2.heap.size W2 V2)) := Lib.hid fun V hV => (HLA.out V).mono fun e V2 h => ⟨h.1, hV.1.trans (h.2.mono hV.1.size), hV.2.trans (h.2.mono hV.2.size)⟩
          have SRO : Hid (∀ V, (Below w.heap.size w V ∧ Below W2.heap.size W2 V) → Calls Tryd.prog 26 #[.string a] V fun e V2 => e = .returned (.string Q) ∧ (Below w.heap.size w V2 ∧ Below W2.heap.size W2 V2)) := Lib.hid fun V hV => (HRO.out V hV.1).mono fun e V2 h => ⟨h.1, hV.1.trans (h.2.mono hV.1.size), hV.2.trans (h.2.mono hV.2.size)⟩
          have ST1 : Hid (∀ V, (Below w.heap.size w V ∧ Below W2.heap.size W2 V) → Calls Tryd.prog 20 #[.slice (some ⟨bb, off, none⟩) 1 c1] V fun e V2 => e = .returned (.string Q) ∧ (Below w.heap.size w V2 ∧ Below W2.heap.size W2 V2)) := Lib.hid fun V hV => (HT1.out (some ⟨bb, off, none⟩) c1 _ V (HR1.out.below hV.2) hV.2.size).mono fun e V2 h => ⟨h.1, hV.1.trans (h.2.mono hV.1.size), hV.2.trans (h.2.mono hV.2.size)⟩
          have STk : Hid (∀ V, (Below w.heap.size w V ∧ Below W2.heap.size W2 V) → Calls Tryd.prog 20 #[.slice (some ⟨bb, off, none⟩) k c1] V fun e V2 => e = .returned (.string P) ∧ (Below w.heap.size w V2 ∧ Below W2.heap.size W2 V2)) := Lib.hid fun V hV => (HTk.out (some ⟨bb, off, none⟩) c1 _ V (HR1.out.below hV.2) hV.2.size).mono fun e V2 h => ⟨h.1, hV.1.trans (h.2.mono hV.1.size), hV.2.trans (h.2.mono hV.2.size)⟩
          refine wp_region_held_drew (S := fun V => Below w.heap.size w V ∧ Below W2.heap.size W2 V) (by kernel_rfl) (⟨HB.out.drew, HD.out.drew⟩) (fun hHeld => ?_)
          refine wpAnyH_take (i := 0) (v := ?_) (ops_atL rfl) (by kernel_rfl) (by kernel_rfl) (by kernel_rfl) (fun _ _ _ h => h) (Or.inl ⟨by rfl, ?_⟩) hHeld ?_
          rotate_left
          · (intro W hSW; go_simp; try with_reducible rfl)
          try simp only [Act.put, List.setIfInBounds_toArray, List.set_cons_zero, List.set_cons_succ]
          refine wpAnyH_take (i := 2) (v := ?_) (ops_atL rfl) (by kernel_rfl) (by kernel_rfl) (by kernel_rfl) (fun _ _ _ h => h) (Or.inl ⟨by rfl, ?_⟩) hHeld ?_
          rotate_left
          · (intro W hSW; go_simp; try with_reducible rfl)
          try simp only [Act.put, List.setIfInBounds_toArray, List.set_cons_zero, List.set_cons_succ]
          refine wpAnyH_take (i := 3) (v := ?_) (ops_atL rfl) (by kernel_rfl) (by kernel_rfl) (by kernel_rfl) (fun _ _ _ h => h) (Or.inl ⟨by rfl, ?_⟩) hHeld ?_
          rotate_left
          · (intro W hSW; go_simp; try with_reducible rfl)
          try simp only [Act.put, List.setIfInBounds_toArray, List.set_cons_zero, List.set_cons_succ]
          refine wpAnyH_take (i := 4) (v := ?_) (ops_atL rfl) (by kernel_rfl) (by kernel_rfl) (by kernel_rfl) (fun _ _ _ h => h) (Or.inl ⟨by rfl, ?_⟩) hHeld ?_
          rotate_left
          · (intro W hSW; go_simp; try with_reducible rfl)
          try simp only [Act.put, List.setIfInBounds_toArray, List.set_cons_zero, List.set_cons_succ]
          refine wpAnyH_take (i := 5) (v := ?_) (ops_atL rfl) (by kernel_rfl) (by kernel_rfl) (by kernel_rfl) (fun _ _ _ h => h) (Or.inl ⟨by rfl, ?_⟩) hHeld ?_
          rotate_left
          · (intro W hSW; go_simp; try with_reducible rfl)
          try simp only [Act.put, List.setIfInBounds_toArray, List.set_cons_zero, List.set_cons_succ]
          refine wpAnyH_take (i := 6) (v := ?_) (ops_atL rfl) (by kernel_rfl) (by kernel_rfl) (by kernel_rfl) (fun _ _ _ h => h) (Or.inl ⟨by rfl, ?_⟩) hHeld ?_
          rotate_left
          · (intro W hSW; go_simp; try with_reducible rfl)
          try simp only [Act.put, List.setIfInBounds_toArray, List.set_cons_zero, List.set_cons_succ]
          refine wpAnyH_take (i := 7) (v := ?_) (ops_atL rfl) (by kernel_rfl) (by kernel_rfl) (by kernel_rfl) (fun _ _ _ h => h) (Or.inl ⟨by rfl, ?_⟩) hHeld ?_
          rotate_left
          · (intro W hSW; have hcc := (hSW.2.cell (p := ⟨bb, off + k, none⟩) (World.block_lt_of_cell? _ _ HC0.out)).trans HC0.out; go_simp; try with_reducible rfl)
          try simp only [Act.put, List.setIfInBounds_toArray, List.set_cons_zero, List.set_cons_succ]
          refine wpAnyH_ready (rs := [1]) (by kernel_rfl) (by simp) ?_
          refine AllReadyH.cons (ops_atL rfl) (fun K hK => ?_) AllReadyH.nil
          go_simp
          (go_at_call 25; refine (SLA.out _ hHeld).mono ?_; rintro e W' ⟨rfl, hb'⟩)
          refine hK.out _ _ hb' (fun hHeld => ?_)
          clear hK K
          try simp only [Act.put, List.setIfInBounds_toArray, List.set_cons_zero, List.set_cons_succ]
          refine wpAnyH_take (i := 8) (v := ?_) (ops_atL rfl) (by kernel_rfl) (by kernel_rfl) (by kernel_rfl) (fun _ _ _ h => h) (Or.inl ⟨by rfl, ?_⟩) hHeld ?_
          rotate_left
          · (intro W hSW; go_simp; try with_reducible rfl)
          try simp only [Act.put, List.setIfInBounds_toArray, List.set_cons_zero, List.set_cons_succ]
          refine wpAnyH_take (i := 9) (v := ?_) (ops_atL rfl) (by kernel_rfl) (by kernel_rfl) (by kernel_rfl) (fun _ _ _ h => h) (Or.inl ⟨by rfl, ?_⟩) hHeld ?_
          rotate_left
          · (intro W hSW; go_simp; try with_reducible rfl)
          try simp only [Act.put, List.setIfInBounds_toArray, List.set_cons_zero, List.set_cons_succ]
          refine wpAnyH_take (i := 10) (v := ?_) (ops_atL rfl) (by kernel_rfl) (by kernel_rfl) (by kernel_rfl) (fun _ _ _ h => h) (Or.inl ⟨by rfl, ?_⟩) hHeld ?_
          rotate_left
          · (intro W hSW; go_simp; try with_reducible rfl)
          try simp only [Act.put, List.setIfInBounds_toArray, List.set_cons_zero, List.set_cons_succ]
          refine wpAnyH_take (i := 12) (v := ?_) (ops_atL rfl) (by kernel_rfl) (by kernel_rfl) (by kernel_rfl) (fun _ _ _ h => h) (Or.inl ⟨by rfl, ?_⟩) hHeld ?_
          rotate_left
          · (intro W hSW; go_simp; try with_reducible rfl)
          try simp only [Act.put, List.setIfInBounds_toArray, List.set_cons_zero, List.set_cons_succ]
          refine wpAnyH_take (i := 13) (v := ?_) (ops_atL rfl) (by kernel_rfl) (by kernel_rfl) (by kernel_rfl) (fun _ _ _ h => h) (Or.inl ⟨by rfl, ?_⟩) hHeld ?_
          rotate_left
          · (intro W hSW; go_simp; try with_reducible rfl)
          try simp only [Act.put, List.setIfInBounds_toArray, List.set_cons_zero, List.set_cons_succ]
          refine wpAnyH_ready (rs := [11]) (by kernel_rfl) (by simp) ?_
          refine AllReadyH.cons (ops_atL rfl) (fun K hK => ?_) AllReadyH.nil
          go_simp
          (go_at_call 26; refine (SRO.out _ hHeld).mono ?_; rintro e W' ⟨rfl, hb'⟩)
          refine hK.out _ _ hb' (fun hHeld => ?_)
          clear hK K
          try simp only [Act.put, List.setIfInBounds_toArray, List.set_cons_zero, List.set_cons_succ]
          refine wpAnyH_ready (rs := [14]) (by kernel_rfl) (by simp) ?_
          refine AllReadyH.cons (ops_atL rfl) (fun K hK => ?_) AllReadyH.nil
          go_simp
          (go_at_call 20; refine (ST1.out _ hHeld).mono ?_; rintro e W' ⟨rfl, hb'⟩)
          refine hK.out _ _ hb' (fun hHeld => ?_)
          clear hK K
          try simp only [Act.put, List.setIfInBounds_toArray, List.set_cons_zero, List.set_cons_succ]
          refine wpAnyH_take (i := 15) (v := ?_) (ops_atL rfl) (by kernel_rfl) (by kernel_rfl) (by kernel_rfl) (fun _ _ _ h => h) (Or.inl ⟨by rfl, ?_⟩) hHeld ?_
          rotate_left
          · (intro W hSW; go_simp; try with_reducible rfl)
          try simp only [Act.put, List.setIfInBounds_toArray, List.set_cons_zero, List.set_cons_succ]
          refine wpAnyH_take (i := 16) (v := ?_) (ops_atL rfl) (by kernel_rfl) (by kernel_rfl) (by kernel_rfl) (fun _ _ _ h => h) (Or.inl ⟨by rfl, ?_⟩) hHeld ?_
          rotate_left
          · (intro W hSW; go_simp; try with_reducible rfl)
          try simp only [Act.put, List.setIfInBounds_toArray, List.set_cons_zero, List.set_cons_succ]
          refine wpAnyH_take (i := 17) (v := ?_) (ops_atL rfl) (by kernel_rfl) (by kernel_rfl) (by kernel_rfl) (fun _ _ _ h => h) (Or.inl ⟨by rfl, ?_⟩) hHeld ?_
          rotate_left
          · (intro W hSW; go_simp; try with_reducible rfl)
          try simp only [Act.put, List.setIfInBounds_toArray, List.set_cons_zero, List.set_cons_succ]
          refine wpAnyH_take (i := 18) (v := ?_) (ops_atL rfl) (by kernel_rfl) (by kernel_rfl) (by kernel_rfl) (fun _ _ _ h => h) (Or.inl ⟨by rfl, ?_⟩) hHeld ?_
          rotate_left
          · (intro W hSW; go_simp; try with_reducible rfl)
          try simp only [Act.put, List.setIfInBounds_toArray, List.set_cons_zero, List.set_cons_succ]
          refine wpAnyH_take (i := 19) (v := ?_) (ops_atL rfl) (by kernel_rfl) (by kernel_rfl) (by kernel_rfl) (fun _ _ _ h => h) (Or.inl ⟨by rfl, ?_⟩) hHeld ?_
          rotate_left
          · (intro W hSW; go_simp; try with_reducible rfl)
          try simp only [Act.put, List.setIfInBounds_toArray, List.set_cons_zero, List.set_cons_succ]
          refine wpAnyH_take (i := 20) (v := ?_) (ops_atL rfl) (by kernel_rfl) (by kernel_rfl) (by kernel_rfl) (fun _ _ _ h => h) (Or.inl ⟨by rfl, ?_⟩) hHeld ?_
          rotate_left
          · (intro W hSW; go_simp; try with_reducible rfl)
          try simp only [Act.put, List.setIfInBounds_toArray, List.set_cons_zero, List.set_cons_succ]
          refine wpAnyH_take (i := 21) (v := ?_) (ops_atL rfl) (by kernel_rfl) (by kernel_rfl) (by kernel_rfl) (fun _ _ _ h => h) (Or.inl ⟨by rfl, ?_⟩) hHeld ?_
          rotate_left
          · (intro W hSW; go_simp; try with_reducible rfl)
          try simp only [Act.put, List.setIfInBounds_toArray, List.set_cons_zero, List.set_cons_succ]
          refine wpAnyH_take (i := 22) (v := ?_) (ops_atL rfl) (by kernel_rfl) (by kernel_rfl) (by kernel_rfl) (fun _ _ _ h => h) (Or.inl ⟨by rfl, ?_⟩) hHeld ?_
          rotate_left
          · (intro W hSW; go_simp; try with_reducible rfl)
          try simp only [Act.put, List.setIfInBounds_toArray, List.set_cons_zero, List.set_cons_succ]
          refine wpAnyH_take (i := 23) (v := ?_) (ops_atL rfl) (by kernel_rfl) (by kernel_rfl) (by kernel_rfl) (fun _ _ _ h => h) (Or.inl ⟨by rfl, ?_⟩) hHeld ?_
          rotate_left
          · (intro W hSW; go_simp; try with_reducible rfl)
          try simp only [Act.put, List.setIfInBounds_toArray, List.set_cons_zero, List.set_cons_succ]
          refine wpAnyH_take (i := 24) (v := ?_) (ops_atL rfl) (by kernel_rfl) (by kernel_rfl) (by kernel_rfl) (fun _ _ _ h => h) (Or.inl ⟨by rfl, ?_⟩) hHeld ?_
          rotate_left
          · (intro W hSW; go_simp; try with_reducible rfl)
          try simp only [Act.put, List.setIfInBounds_toArray, List.set_cons_zero, List.set_cons_succ]
          refine wpAnyH_take (i := 25) (v := ?_) (ops_atL rfl) (by kernel_rfl) (by kernel_rfl) (by kernel_rfl) (fun _ _ _ h => h) (Or.inl ⟨by rfl, ?_⟩) hHeld ?_
          rotate_left
          · (intro W hSW; go_simp; try with_reducible rfl)
          try simp only [Act.put, List.setIfInBounds_toArray, List.set_cons_zero, List.set_cons_succ]
          refine wpAnyH_take (i := 26) (v := ?_) (ops_atL rfl) (by kernel_rfl) (by kernel_rfl) (by kernel_rfl) (fun _ _ _ h => h) (Or.inl ⟨by rfl, ?_⟩) hHeld ?_
          rotate_left
          · (intro W hSW; go_simp; try with_reducible rfl)
          try simp only [Act.put, List.setIfInBounds_toArray, List.set_cons_zero, List.set_cons_succ]
          refine wpAnyH_take (i := 27) (v := ?_) (ops_atL rfl) (by kernel_rfl) (by kernel_rfl) (by kernel_rfl) (fun _ _ _ h => h) (Or.inl ⟨by rfl, ?_⟩) hHeld ?_
          rotate_left
          · (intro W hSW; go_simp; try with_reducible rfl)
          try simp only [Act.put, List.setIfInBounds_toArray, List.set_cons_zero, List.set_cons_succ]
          refine wpAnyH_ready (rs := [28]) (by kernel_rfl) (by simp) ?_
          refine AllReadyH.cons (ops_atL rfl) (fun K hK => ?_) AllReadyH.nil
          go_simp
          (go_at_call 20; refine (STk.out _ hHeld).mono ?_; rintro e W' ⟨rfl, hb'⟩)
          refine hK.out _ _ hb' (fun hHeld => ?_)
          clear hK K
          try simp only [Act.put, List.setIfInBounds_toArray, List.set_cons_zero, List.set_cons_succ]
          refine wpAnyH_take (i := 29) (v := ?_) (ops_atL rfl) (by kernel_rfl) (by kernel_rfl) (by kernel_rfl) (fun _ _ _ h => h) (Or.inl ⟨by rfl, ?_⟩) hHeld ?_
          rotate_left
          · (intro W hSW; go_simp; try with_reducible rfl)
          try simp only [Act.put, List.setIfInBounds_toArray, List.set_cons_zero, List.set_cons_succ]
          refine wpAnyH_take (i := 30) (v := ?_) (ops_atL rfl) (by kernel_rfl) (by kernel_rfl) (by kernel_rfl) (fun _ _ _ h => h) (Or.inl ⟨by rfl, ?_⟩) hHeld ?_
          rotate_left
          · (intro W hSW; go_simp; try with_reducible rfl)
          try simp only [Act.put, List.setIfInBounds_toArray, List.set_cons_zero, List.set_cons_succ]
          refine wpAnyH_done (by kernel_rfl) ?_ _
          replace HB := Lib.hid hHeld.1
          replace HD := Lib.hid hHeld.2
          clear hHeld SLA SRO ST1 STk
          go_wp2_with (first
            | (go_at_call 21; (with_reducible refine (H0.out _).mono ?_); rintro e W1 ⟨rfl, rfl⟩)
            | (go_at_call 19; (with_reducible refine (HRP.out _).mono ?_); rintro e W2 ⟨v, rfl, ho2, hb⟩; replace HB := Lib.hid (HB.out.trans (hb.mono HB.out.size)); have HD := Lib.hid (Below.refl W2.heap.size W2); (obtain ⟨A1, c1, hv1, hr1, hcap, _⟩ := ho2.form); have HR1 := Lib.hid hr1; rw [HOL.out] at hv1 hcap; subst hv1; (obtain ⟨bb, off, x', hA, _, hx', hc0⟩ := hr1.at_ (k := k) HKL.out); subst hA; rw [HLX.out] at hx'; (obtain rfl := Option.some.inj hx'); have HC0 := Lib.hid hc0; have hq1 : (1 : Int) ≤ (c1 : Int) := (by omega); have hq2 : (k : Int) ≤ (c1 : Int) := (by omega); clear ho2 hb hr1 hx' hc0)
            | (go_at_call 22; (with_reducible refine (HCH.out _ HB.out).mono ?_); rintro e W1 ⟨rfl, hb⟩; replace HB := Lib.hid (HB.out.trans (hb.mono HB.out.size)); replace HD := Lib.hid (HD.out.trans (hb.mono HD.out.size)); clear hb)
            | (go_at_call 23; (with_reducible refine (HPR.out _ HB.out).mono ?_); rintro e W1 ⟨rfl, hb⟩; replace HB := Lib.hid (HB.out.trans (hb.mono HB.out.size)); replace HD := Lib.hid (HD.out.trans (hb.mono HD.out.size)); clear hb)
            | (go_at_call 14; (with_reducible refine (HK.out _ HB.out).mono ?_); rintro e W1 ⟨rfl, hb⟩; replace HB := Lib.hid (HB.out.trans (hb.mono HB.out.size)); replace HD := Lib.hid (HD.out.trans (hb.mono HD.out.size)); clear hb)
            | (go_at_call 17; (with_reducible refine (HOR.out _).mono ?_); rintro e W3 ⟨v, rfl, ho3, hb⟩; replace HB := Lib.hid (HB.out.trans (hb.mono HB.out.size)); replace HD := Lib.hid (HD.out.trans (hb.mono HD.out.size)); (obtain ⟨A3, c3, hv3, hr3, _, _⟩ := ho3.form); have HR3 := Lib.hid hr3; rw [HOL.out] at hv3; subst hv3; clear ho3 hb hr3)
            | (go_at_call 16; refine (HSA.out _ _ _ _ _ _ HR3.out ((HR1.out.below HD.out).more HD.out.size) (Nat.le_refl _)).mono ?_; rintro e W1 ⟨rfl, hb⟩; replace HB := Lib.hid (HB.out.trans (hb.mono HB.out.size)); replace HD := Lib.hid (HD.out.trans (hb.mono HD.out.size)); clear hb)
            | (go_at_call 24; (with_reducible refine (HDE.out _).mono ?_); rintro e W1 ⟨rfl, hb⟩; replace HB := Lib.hid (HB.out.trans (hb.mono HB.out.size)); replace HD := Lib.hid (HD.out.trans (hb.mono HD.out.size)); clear hb)
            | (go_at_call 25; (with_reducible refine (HLA.out _).mono ?_); rintro e W1 ⟨rfl, hb⟩; replace HB := Lib.hid (HB.out.trans (hb.mono HB.out.size)); replace HD := Lib.hid (HD.out.trans (hb.mono HD.out.size)); clear hb; have hcc := (HD.out.cell (p := ⟨bb, off + k, none⟩) (World.block_lt_of_cell? _ _ HC0.out)).trans HC0.out)
            | (go_at_call 26; (with_reducible refine (HRO.out _ HB.out).mono ?_); rintro e W1 ⟨rfl, hb⟩; replace HB := Lib.hid (HB.out.trans (hb.mono HB.out.size)); replace HD := Lib.hid (HD.out.trans (hb.mono HD.out.size)); clear hb)
            | (go_at_call 20; (with_reducible refine (HT1.out _ _ _ _ (HR1.out.below HD.out) HD.out.size).mono ?_); rintro e W1 ⟨rfl, hb⟩; replace HB := Lib.hid (HB.out.trans (hb.mono HB.out.size)); replace HD := Lib.hid (HD.out.trans (hb.mono HD.out.size)); clear hb)
            | (go_at_call 20; (with_reducible refine (HTk.out _ _ _ _ (HR1.out.below HD.out) HD.out.size).mono ?_); rintro e W1 ⟨rfl, hb⟩; replace HB := Lib.hid (HB.out.trans (hb.mono HB.out.size)); replace HD := Lib.hid (HD.out.trans (hb.mono HD.out.size)); clear hb))
          go_ret
          exact ⟨rfl, HB.out⟩
  · obtain rfl := hnone he
    have hv : validB a.data.toList = false := by rw [hval]; simp [he]
    have hc1 : CC = (⟨#[]⟩, 12) := by rw [hCC]; unfold childL; rw [if_neg (by rw [hv]; decide)]
    subst hc1
    have gn : ((e : Int) != 0) = true := by simp; omega
    clear hnone hval htx hCC hp1 hv he hnum h8
    go_enter Tryd.func5, Tryd.ntmps5
    go_wp2_with (first
      | (go_at_call 21; (with_reducible refine (H0.out _).mono ?_); rintro e W1 ⟨rfl, rfl⟩)
      | (go_at_call 19; (with_reducible refine (HRP.out _).mono ?_); rintro e W2 ⟨v, rfl, ho2, hb⟩; replace HB := Lib.hid (HB.out.trans (hb.mono HB.out.size)); have HD := Lib.hid (Below.refl W2.heap.size W2); (obtain ⟨A1, c1, hv1, hr1, hcap, _⟩ := ho2.form); have HR1 := Lib.hid hr1; subst hv1; clear ho2 hb hr1)
      | (go_at_call 22; (with_reducible refine (HCH.out _ HB.out).mono ?_); rintro e W1 ⟨rfl, hb⟩; replace HB := Lib.hid (HB.out.trans (hb.mono HB.out.size)); replace HD := Lib.hid (HD.out.trans (hb.mono HD.out.size)); clear hb)
      | (go_at_call 23; (with_reducible refine (HPR.out _ HB.out).mono ?_); rintro e W1 ⟨rfl, hb⟩; replace HB := Lib.hid (HB.out.trans (hb.mono HB.out.size)); replace HD := Lib.hid (HD.out.trans (hb.mono HD.out.size)); clear hb)
      | (go_at_call 14; (with_reducible refine (HK.out _ HB.out).mono ?_); rintro e W1 ⟨rfl, hb⟩; replace HB := Lib.hid (HB.out.trans (hb.mono HB.out.size)); replace HD := Lib.hid (HD.out.trans (hb.mono HD.out.size)); clear hb)
      | (go_at_call 17; (with_reducible refine (HOR.out _).mono ?_); rintro e W3 ⟨v, rfl, ho3, hb⟩; replace HB := Lib.hid (HB.out.trans (hb.mono HB.out.size)); replace HD := Lib.hid (HD.out.trans (hb.mono HD.out.size)); (obtain ⟨A3, c3, hv3, hr3, _, _⟩ := ho3.form); have HR3 := Lib.hid hr3; subst hv3; clear ho3 hb hr3)
      | (go_at_call 16; refine (HSA.out _ _ _ _ _ _ HR3.out ((HR1.out.below HD.out).more HD.out.size) (Nat.le_refl _)).mono ?_; rintro e W1 ⟨rfl, hb⟩; replace HB := Lib.hid (HB.out.trans (hb.mono HB.out.size)); replace HD := Lib.hid (HD.out.trans (hb.mono HD.out.size)); clear hb)
      | (go_at_call 24; (with_reducible refine (HDE.out _).mono ?_); rintro e W1 ⟨rfl, hb⟩; replace HB := Lib.hid (HB.out.trans (hb.mono HB.out.size)); replace HD := Lib.hid (HD.out.trans (hb.mono HD.out.size)); clear hb)
      | (go_at_call 25; (with_reducible refine (HLA.out _).mono ?_); rintro e W1 ⟨rfl, hb⟩; replace HB := Lib.hid (HB.out.trans (hb.mono HB.out.size)); replace HD := Lib.hid (HD.out.trans (hb.mono HD.out.size)); clear hb)
      | (go_at_call 26; (with_reducible refine (HRO.out _ HB.out).mono ?_); rintro e W1 ⟨rfl, hb⟩; replace HB := Lib.hid (HB.out.trans (hb.mono HB.out.size)); replace HD := Lib.hid (HD.out.trans (hb.mono HD.out.size)); clear hb))
    go_ret
    exact ⟨rfl, HB.out⟩
end Go.Proofs.YtifbeemcphndfaaDoor
