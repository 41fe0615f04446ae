/- lineage: the walk of the reference's Common. -/
import Derived.Test.YtdfenaoddbdppaaDoorLRMake
set_option linter.unusedVariables false
namespace Go.Proofs.YtdfenaoddbdppaaDoor
open Go.RowKit

theorem RI.take {w : World} {B : Nat} {A : Option Addr} {l : List Nat} (h : RI w B A l) (k : Nat) : RI w B A (l.take k) := fun hn => by
  obtain ⟨b, off, rfl, hb, hc⟩ := h (by rw [List.length_take] at hn; omega)
  refine ⟨b, off, rfl, hb, fun j s hj => hc j s ?_⟩
  rw [List.getElem?_take] at hj
  split at hj
  · exact hj
  · cases hj
theorem shared_nil_left (y : List Nat) : sharedN [] y = 0 := by cases y <;> rfl
theorem shared_nil_right (x : List Nat) : sharedN x [] = 0 := by cases x <;> rfl

set_option maxHeartbeats 4000000 in
set_option maxRecDepth 100000 in
theorem refCommon_any (S T : ByteArray) (w : World) (hS : S.size ≤ 1000000) (hT : T.size ≤ 1000000) (x y : List Nat) (hx : x = (parseL S.data.toList).1) (hy : y = (parseL T.data.toList).1) :
    Calls Tryd.prog 30 #[.string S, .string T] w fun e w' => e = .returned (.string ⟨(tx (x.take (sharedN x y))).toArray⟩) ∧ Below w.heap.size w w' := by
  obtain ⟨R, hR⟩ : ∃ R, R = parseL S.data.toList := ⟨_, rfl⟩
  obtain ⟨Q, hQ⟩ : ∃ Q, Q = parseL T.data.toList := ⟨_, rfl⟩
  have HP := Lib.hid (refParse_any S w hS R hR)
  have HQ := Lib.hid (fun W => refParse_any T W hT Q hQ)
  have hxl : x.length ≤ 8 := by rw [hx]; exact parseL_len8 _
  have hyl : y.length ≤ 8 := by rw [hy]; exact parseL_len8 _
  have HNUM : Hid (∀ z ∈ x, z ≤ 999999) := Lib.hid fun z hz => (parseL_num S.data.toList z (by rw [← hx]; exact hz)).2
  have hxR : R.1 = x := by rw [hR, hx]
  have hyQ : Q.1 = y := by rw [hQ, hy]
  have hxn : R.2.2 ≠ 0 → x = [] := by rw [hR, hx]; exact parseL_none
  have hyn : Q.2.2 ≠ 0 → y = [] := by rw [hQ, hy]; exact parseL_none
  clear hx hy hR hQ
  obtain ⟨x', xa, xe⟩ := R
  obtain ⟨y', ya, ye⟩ := Q
  obtain rfl : x' = x := hxR
  obtain rfl : y' = y := hyQ
  by_cases hxe : xe = 0
  · subst hxe
    by_cases hye : ye = 0
    · subst hye
      clear hxn hyn
      obtain ⟨K, hK⟩ : ∃ K, K = sharedN x' y' := ⟨_, rfl⟩
      rw [← hK]
      have HK := Lib.hid hK
      clear hK
      go_enter Tryd.func30, Tryd.ntmps30
      go_wp2_with (first
        | (go_at_call 19; (with_reducible refine HP.out.mono ?_); rintro e W1 ⟨v1, rfl, ho1, hb1⟩; have HB1 := Lib.hid hb1; (obtain ⟨A1, c1, hv1, hr1, hcap1, _⟩ := ho1.form); have R1 := Lib.hid hr1; subst hv1; clear ho1 hb1 hr1)
        | (go_at_call 19; (with_reducible refine (HQ.out W1).mono ?_); rintro e W2 ⟨v2, rfl, ho2, hb2⟩; have HB2 := Lib.hid hb2; (obtain ⟨A2, c2, hv2, hr2, _, _⟩ := ho2.form); have R2 := Lib.hid hr2; subst hv2; clear ho2 hb2 hr2))
      have hrx := R1.out.below HB2.out
      have hry := R2.out
      have HBB := Lib.hid (HB1.out.trans (HB2.out.mono HB1.out.size))
      have HS2 : Hid (W1.heap.size ≤ W2.heap.size) := Lib.hid HB2.out.size
      clear R1 R2 HB1 HB2 HP HQ
      have HFIN : ∀ k n : Nat, k = K → k ≤ x'.length → Hid (Calls Tryd.prog 20 #[.slice A1 k c1] (W2.drewN n) fun e w' => e = .returned (.string ⟨(tx (x'.take K)).toArray⟩) ∧ Below w.heap.size w w') := fun k n hk hkx => Lib.hid (by
        have h1 := refText_any A1 (x'.take k) c1 W1.heap.size (W2.drewN n) (hrx.take k) HS2.out (by rw [List.length_take]; omega) (fun z hz => HNUM.out z (List.mem_of_mem_take hz))
        rw [List.length_take, Nat.min_eq_left hkx, textS_tx, hk] at h1
        rw [hk]
        refine h1.mono ?_
        rintro e w' ⟨h2, h3⟩
        exact ⟨h2, (below_drewN HBB.out n).trans (h3.mono (below_drewN HBB.out n).size)⟩)
      go_loopw [11] (fun i wr => ∃ k n : Nat, k ≤ x'.length ∧ k ≤ y'.length ∧ i = .int .i64 k ∧ x'.take k = y'.take k ∧ wr = W2.drewN n) (fun i _ => y'.length - (intOf i).toNat)
      case atStart => exact ⟨0, 0, by omega, by omega, rfl, rfl, rfl⟩
      case round =>
        obtain ⟨k, n, hk, hk2, rfl, ht, rfl⟩ := hrel
        have HT := Lib.hid ht
        clear ht
        by_cases hlt : k < x'.length
        · have h1 : (k : Int) < (x'.length : Int) := by omega
          by_cases hlt2 : k < y'.length
          · have h2 : (k : Int) < (y'.length : Int) := by omega
            obtain ⟨b, off, p, rfl, _, hp, c0⟩ := hrx.at_ (k := k) (by omega)
            obtain ⟨b2, off2, q, rfl, _, hq, c1⟩ := hry.at_ hlt2
            have HX := Lib.hid hp
            have HY := Lib.hid hq
            clear hp hq hrx hry
            by_cases hpq : p = q
            · have qq : ((p : Int) == (q : Int)) = true := by simp; omega
              go_wp2_with fail
              go_quiet (fail)
              go_wp2
              go_roundw
              case rel => exact ⟨k + 1, _, by omega, by omega, by go_num, take_eq_stepI HX.out HY.out HT.out hpq, rfl⟩
              case measure => simp [intOf] <;> omega
            · have qq : ((p : Int) == (q : Int)) = false := by rw [beq_eq_false_iff_ne]; omega
              have hKk : k = K := by
                rw [HK.out]
                exact (shared_stop k x' y' (by omega) (by omega) HT.out (fun a b ha hb e => hpq (by rw [HX.out] at ha; rw [HY.out] at hb; injection ha with ha; injection hb with hb; omega))).symm
              have HF : ∀ m, Hid _ := fun m => HFIN k m hKk hk
              clear HFIN hKk
              go_wp2_with fail
              go_quiet (fail)
              go_wp2_with (go_at_call 20; refine (HF _).out.mono ?_; rintro e W3 ⟨rfl, hb3⟩)
              go_ret
              exact ⟨rfl, hb3⟩
          · have h2 : ¬ (k : Int) < (y'.length : Int) := by omega
            have hKk : k = K := by
              rw [HK.out]
              exact (shared_stop k x' y' (by omega) (by omega) HT.out (fun a b ha hb e => by
                have := (List.getElem?_eq_some_iff.1 hb).1
                omega)).symm
            have HF : ∀ m, Hid _ := fun m => HFIN k m hKk hk
            clear HFIN hKk hrx hry
            go_wp2_with fail
            go_quiet (fail)
            go_wp2_with (go_at_call 20; refine (HF _).out.mono ?_; rintro e W3 ⟨rfl, hb3⟩)
            go_ret
            exact ⟨rfl, hb3⟩
        · have h1 : ¬ (k : Int) < (x'.length : Int) := by omega
          have hKk : k = K := by
            rw [HK.out]
            exact (shared_stop k x' y' (by omega) (by omega) HT.out (fun a b ha hb e => by
              have := (List.getElem?_eq_some_iff.1 ha).1
              omega)).symm
          have HF : ∀ m, Hid _ := fun m => HFIN k m hKk hk
          clear HFIN hKk hrx hry
          go_wp2_with fail
          go_quiet (fail)
          go_wp2_with (go_at_call 20; refine (HF _).out.mono ?_; rintro e W3 ⟨rfl, hb3⟩)
          go_ret
          exact ⟨rfl, hb3⟩
    · have q : ((ye : Int) != 0) = true := by simp; omega
      obtain rfl := hyn hye
      rw [shared_nil_right]
      clear hxn hyn hye
      go_enter Tryd.func30, Tryd.ntmps30
      go_wp2_with (first
        | (go_at_call 19; (with_reducible refine HP.out.mono ?_); rintro e W1 ⟨v1, rfl, ho1, hb1⟩; have HB1 := Lib.hid hb1; (obtain ⟨A1, c1, hv1, _⟩ := ho1.form); subst hv1; clear ho1 hb1)
        | (go_at_call 19; (with_reducible refine (HQ.out W1).mono ?_); rintro e W2 ⟨v2, rfl, ho2, hb2⟩; have HB2 := Lib.hid hb2; (obtain ⟨A2, c2, hv2, _⟩ := ho2.form); subst hv2; clear ho2 hb2))
      go_ret
      exact ⟨rfl, HB1.out.trans (HB2.out.mono HB1.out.size)⟩
  · have q : ((xe : Int) != 0) = true := by simp; omega
    obtain rfl := hxn hxe
    rw [shared_nil_left]
    clear hxn hyn hxe
    go_enter Tryd.func30, Tryd.ntmps30
    go_wp2_with (first
      | (go_at_call 19; (with_reducible refine HP.out.mono ?_); rintro e W1 ⟨v1, rfl, ho1, hb1⟩; have HB1 := Lib.hid hb1; (obtain ⟨A1, c1, hv1, _⟩ := ho1.form); subst hv1; clear ho1 hb1)
      | (go_at_call 19; (with_reducible refine (HQ.out W1).mono ?_); rintro e W2 ⟨v2, rfl, ho2, hb2⟩; have HB2 := Lib.hid hb2; (obtain ⟨A2, c2, hv2, _⟩ := ho2.form); subst hv2; clear ho2 hb2))
    go_ret
    exact ⟨rfl, HB1.out.trans (HB2.out.mono HB1.out.size)⟩
end Go.Proofs.YtdfenaoddbdppaaDoor
