/- lineage: the walk of Ordinals; the law's same and short. -/
import Derived.Test.YtdfenaoddbdppaaDoorLChild
import Derived.Test.YtdfenaoddbdppaaDoorLCompare
set_option linter.unusedVariables false
namespace Go.Proofs.YtdfenaoddbdppaaDoor
open Go.RowKit

theorem OI.base {e : TypeId} {w : World} {b b' : Nat} {v : Value} {l : List Nat} (h : OI e w b v l) (hb : b' ≤ b) (hw : b ≤ w.heap.size) : OI e w b' v l := by
  refine ⟨h.1, ?_⟩
  rcases h.2 with h2 | ⟨g, cap, cur, h1, h3, h4⟩
  · exact .inl h2
  · exact .inr ⟨g, cap, cur, h1, by omega, h4⟩

set_option maxHeartbeats 1000000 in
set_option maxRecDepth 100000 in
theorem ordinals_any (S : ByteArray) (w : World) (hS : S.size ≤ 1000000) (o : List Nat) (ho : o = (parseL S.data.toList).1) :
    Calls Tryd.prog 17 #[.string S] w fun e w' => ∃ v, e = .returned v ∧ OI 3 w' w.heap.size v o ∧ Below w.heap.size w w' := by
  obtain ⟨c0, c1, c2, c3, c4, c5, c6, c7, h9, hl, hf⟩ := list_first S hS o ho
  have o8 : o.length ≤ 8 := by rw [ho]; exact parseL_len8 _
  have bx : (o.length : Int) ≤ 8 := by omega
  have HP := Lib.hid hl
  have HC : Hid (∀ W1 : World, w.heap.size ≤ W1.heap.size → Calls Tryd.prog 50 #[.slice (some ⟨W1.heap.size, 0, none⟩) o.length 8] (W1.alloc (.cells #[iv c0, iv c1, iv c2, iv c3, iv c4, iv c5, iv c6, iv c7, iv o.length] 85)) fun e w' => ∃ v, e = .returned v ∧ OI 3 w' w.heap.size v o ∧ Below W1.heap.size W1 w') := Lib.hid fun W1 hW => by
    have ha : Arr (W1.alloc (.cells #[iv c0, iv c1, iv c2, iv c3, iv c4, iv c5, iv c6, iv c7, iv o.length] 85)) W1.heap.size 0 (listV o) := by rw [h9]; exact Arr.new W1 _ _
    refine (Tryd.slices_Clone_int W1.heap.size 0 o.length 8 (o.map Int.ofNat) _ (by simp) (by omega) (fun j hj => ?_)).mono ?_
    · rw [List.length_map] at hj
      have h1 := ha.1 j (iv o[j]) (listV_at (List.getElem?_eq_getElem hj))
      rw [h1, List.getD_eq_getElem?_getD, List.getElem?_map, List.getElem?_eq_getElem hj]; rfl
    · rintro e w' ⟨v, rfl, h1, _, h3⟩
      refine ⟨v, rfl, ?_, ((Below.refl _ W1).alloc (Nat.le_refl _) _).trans (h3.mono (by simp))⟩
      rw [List.take_of_length_le (by simp), List.map_map] at h1
      have h2 : OI 3 w' (W1.alloc (.cells #[iv c0, iv c1, iv c2, iv c3, iv c4, iv c5, iv c6, iv c7, iv o.length] 85)).heap.size v o := h1
      exact h2.base (by simp; omega) h3.size
  clear hl hf h9 ho o8
  go_enter Tryd.func17, Tryd.ntmps17
  go_wp2_with (first
    | (go_at_call 49; refine (HP.out _).mono ?_; rintro r W1 ⟨rfl, hb1⟩; have HB := Lib.hid hb1; clear hb1)
    | (go_at_call 50; refine (HC.out _ HB.out.size).mono ?_; rintro r W2 ⟨v, rfl, h2, hb2⟩; have HV := Lib.hid h2; have HB2 := Lib.hid (HB.out.trans (hb2.mono HB.out.size)); clear h2 hb2))
  go_ret
  exact ⟨_, rfl, HV.out, HB2.out⟩

/-! The law's same. -/
set_option maxHeartbeats 2000000 in
set_option maxRecDepth 100000 in
theorem same_any (x y : List Int) (A B : Option Addr) (c d M : Nat) (w : World) (hx : RZ w M A x) (hy : RZ w M B y) (hxl : x.length ≤ 1000) (hyl : y.length ≤ 1000) :
    Calls Tryd.prog 16 #[.slice A x.length c, .slice B y.length d] w fun e w' => e = .returned (.bool (decide (x = y))) ∧ Below M w w' := by
  have HX := Lib.hid hx
  have HY := Lib.hid hy
  clear hx hy
  by_cases hl : x.length = y.length
  · obtain ⟨R, hR⟩ : ∃ R, R = decide (x = y) := ⟨_, rfl⟩
    rw [← hR]
    have HR := Lib.hid hR
    clear hR
    have hlq : ((x.length : Int) != (y.length : Int)) = false := by simp; omega
    have HL := Lib.hid hl
    clear hl
    go_enter Tryd.func16, Tryd.ntmps16
    go_wp2
    go_loopw [5] (fun i wr => ∃ k n : Nat, k ≤ x.length ∧ i = .int .i64 k ∧ x.take k = y.take k ∧ wr = w.drewN n) (fun i _ => x.length - (intOf i).toNat)
    case atStart => exact ⟨0, 0, by omega, rfl, rfl, rfl⟩
    case round =>
      obtain ⟨k, n, hk, rfl, ht, rfl⟩ := hrel
      have HT := Lib.hid ht
      clear ht
      by_cases hlt : k < x.length
      · have h1 : (k : Int) < (x.length : Int) := by omega
        have h2 : (k : Int) < (y.length : Int) := by have := HL.out; omega
        obtain ⟨b, off, a, rfl, hb, ha, hc⟩ := HX.out.at_ hlt
        obtain ⟨b2, off2, e, rfl, hb2, he, hc2⟩ := HY.out.at_ (k := k) (by have := HL.out; omega)
        have HA := Lib.hid ha
        have HE := Lib.hid he
        have hcd : ∀ m : Nat, (w.drewN m).cell? ⟨b, off + k, none⟩ = some (zv a) := fun _ => hc
        have hcd2 : ∀ m : Nat, (w.drewN m).cell? ⟨b2, off2 + k, none⟩ = some (zv e) := fun _ => hc2
        clear ha he
        by_cases hae : a = e
        · have HAE := Lib.hid hae
          have q : (a != e) = false := by simp [hae]
          go_wp2_with fail
          go_quiet (fail)
          go_wp2
          go_roundw
          case rel => exact ⟨k + 1, _, by omega, by go_num, by rw [List.take_add_one, List.take_add_one, HA.out, HE.out, HT.out, HAE.out], rfl⟩
          case measure => simp [intOf] <;> omega
        · have q : (a != e) = true := by simp [hae]
          have hRf : R = false := by
            rw [HR.out, decide_eq_false_iff_not]
            rintro rfl
            have := HA.out.symm.trans HE.out
            exact hae (Option.some.inj this)
          subst hRf
          clear hae HR
          go_wp2_with fail
          go_quiet (fail)
          go_wp2
          go_ret
          exact ⟨rfl, below_drewN (below_drewN (Below.refl _ _) _) _⟩
      · have h1 : ¬ (k : Int) < (x.length : Int) := by omega
        have hRt : R = true := by
          rw [HR.out, decide_eq_true_eq]
          have h3 := HT.out
          rw [List.take_of_length_le (by omega), List.take_of_length_le (by have := HL.out; omega)] at h3
          exact h3
        subst hRt
        clear HR
        go_wp2
        go_ret
        exact ⟨rfl, below_drewN (Below.refl _ _) _⟩
  · have hlq : ((x.length : Int) != (y.length : Int)) = true := by simp; omega
    have hd : decide (x = y) = false := by
      rw [decide_eq_false_iff_not]; rintro rfl; exact hl rfl
    rw [hd]
    clear hl hd
    go_enter Tryd.func16, Tryd.ntmps16
    go_wp2
    go_ret
    exact ⟨rfl, Below.refl _ _⟩
end Go.Proofs.YtdfenaoddbdppaaDoor
