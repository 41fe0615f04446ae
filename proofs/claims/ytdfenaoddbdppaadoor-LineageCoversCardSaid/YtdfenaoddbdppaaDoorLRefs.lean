/- lineage: the walks of the reference's Valid and Within. -/
import Derived.Test.YtdfenaoddbdppaaDoorLRParse
set_option linter.unusedVariables false
namespace Go.Proofs.YtdfenaoddbdppaaDoor
open Go.RowKit

def validB (s : List UInt8) : Bool := (parseL s).2.2 == 0
def withinB (s t : List UInt8) : Bool := validB s && validB t && decide ((parseL t).1 <+: (parseL s).1)

set_option maxHeartbeats 1000000 in
set_option maxRecDepth 100000 in
theorem refValid_any (S : ByteArray) (w : World) (hS : S.size ≤ 1000000) :
    Calls Tryd.prog 63 #[.string S] w fun e w' => e = .returned (.bool (validB S.data.toList)) ∧ Below w.heap.size w w' := by
  obtain ⟨R, hR⟩ : ∃ R, R = parseL S.data.toList := ⟨_, rfl⟩
  have HP := Lib.hid (refParse_any S w hS R hR)
  have hv : validB S.data.toList = (R.2.2 == 0) := by rw [hR]; rfl
  rw [hv]
  obtain ⟨l, a, e⟩ := R
  clear hR hv
  by_cases he : e = 0
  · subst he
    go_enter Tryd.func63, Tryd.ntmps63
    go_wp2_with (go_at_call 19; refine HP.out.mono ?_; rintro e w' ⟨v, rfl, ho, hb⟩; have HB := Lib.hid hb; clear ho hb)
    go_ret
    exact ⟨rfl, HB.out⟩
  · have q : ((e : Int) == 0) = false := by rw [beq_eq_false_iff_ne]; omega
    have q2 : (e == 0) = false := by rw [beq_eq_false_iff_ne]; exact he
    rw [show ((l, a, e) : List Nat × Nat × Nat).2.2 = e from rfl, q2]
    go_enter Tryd.func63, Tryd.ntmps63
    go_wp2_with (go_at_call 19; refine HP.out.mono ?_; rintro e w' ⟨v, rfl, ho, hb⟩; have HB := Lib.hid hb; clear ho hb)
    go_ret
    exact ⟨rfl, HB.out⟩
theorem take_eq_stepI {l l' : List Nat} {k x y : Nat} (hx : l[k]? = some x) (hy : l'[k]? = some y) (h : l.take k = l'.take k) (e : x = y) : l.take (k + 1) = l'.take (k + 1) := by
  rw [List.take_add_one, List.take_add_one, hx, hy, h, e]
theorem parseL_len (s : List UInt8) : (parseL s).1.length ≤ 9 := by
  have key : ∀ f at_ out, out.length + f ≤ 9 → (parseF s f at_ out).1.length ≤ 9 := by
    intro f
    induction f with
    | zero => intro at_ out _; simp [parseF]
    | succ f ih =>
      intro at_ out h
      rw [parseF]
      split
      · split
        · simp; omega
        · split
          · exact ih _ _ (by simp; omega)
          · simp
      · simp
  unfold parseL
  split
  · simp
  · exact key 9 0 [] (by simp)

set_option maxHeartbeats 1000000 in
set_option maxRecDepth 100000 in
theorem refWithin_any (S T : ByteArray) (w : World) (hS : S.size ≤ 1000000) (hT : T.size ≤ 1000000) :
    Calls Tryd.prog 28 #[.string S, .string T] w fun e w' => e = .returned (.bool (withinB S.data.toList T.data.toList)) ∧ Below w.heap.size w w' := by
  obtain ⟨R, hR⟩ : ∃ R, R = parseL S.data.toList := ⟨_, rfl⟩
  obtain ⟨Q, hQ⟩ : ∃ Q, Q = parseL T.data.toList := ⟨_, rfl⟩
  have HP := Lib.hid (refParse_any S w hS R hR)
  have HQ := Lib.hid (fun W => refParse_any T W hT Q hQ)
  have hRl : R.1.length ≤ 9 := by rw [hR]; exact parseL_len _
  have hQl : Q.1.length ≤ 9 := by rw [hQ]; exact parseL_len _
  have hv : withinB S.data.toList T.data.toList = ((R.2.2 == 0) && (Q.2.2 == 0) && decide (Q.1 <+: R.1)) := by rw [hR, hQ]; rfl
  rw [hv]
  obtain ⟨x, xa, xe⟩ := R
  obtain ⟨y, ya, ye⟩ := Q
  simp only at hRl hQl
  clear hR hQ hv
  by_cases hxe : xe = 0
  · subst hxe
    by_cases hye : ye = 0
    · subst hye
      show Calls _ _ _ _ fun e w' => e = .returned (.bool (decide (y <+: x))) ∧ _
      by_cases hlen : y.length ≤ x.length
      · have gl : ¬ (x.length : Int) < (y.length : Int) := by omega
        go_enter Tryd.func28, Tryd.ntmps28
        go_wp2_with (first
          | (go_at_call 19; (with_reducible refine HP.out.mono ?_); rintro e W1 ⟨v1, rfl, ho1, hb1⟩; have HB1 := Lib.hid hb1; (obtain ⟨A1, c1, hv1, hr1, _, _⟩ := ho1.form); have R1 := Lib.hid hr1; subst hv1; clear ho1 hb1 hr1)
          | (go_at_call 19; (with_reducible refine (HQ.out W1).mono ?_); rintro e W2 ⟨v2, rfl, ho2, hb2⟩; have HB2 := Lib.hid hb2; (obtain ⟨A2, c2, hv2, hr2, _, _⟩ := ho2.form); have R2 := Lib.hid hr2; subst hv2; clear ho2 hb2 hr2))
        have hrx := R1.out.below HB2.out
        have hry := R2.out
        have HBB := Lib.hid (HB1.out.trans (HB2.out.mono HB1.out.size))
        have HLE := Lib.hid hlen
        clear R1 R2 HB1 HB2 HP HQ hlen gl
        go_loopw [11] (fun i wr => ∃ k n : Nat, k ≤ y.length ∧ i = .int .i64 k ∧ x.take k = y.take k ∧ wr = W2.drewN n) (fun i _ => y.length - (intOf i).toNat)
        case atStart => exact ⟨0, 0, by omega, rfl, rfl, rfl⟩
        case round =>
          obtain ⟨k, n, hk, rfl, ht, rfl⟩ := hrel
          have HT := Lib.hid ht
          clear ht
          by_cases hlt : k < y.length
          · have h1 : (k : Int) < (y.length : Int) := by omega
            have hk' : (k : Int) < (x.length : Int) := by have := HLE.out; omega
            obtain ⟨b, off, p, rfl, _, hp, c0⟩ := hrx.at_ (k := k) (by omega)
            obtain ⟨b2, off2, q, rfl, _, hq, c1⟩ := hry.at_ hlt
            have HX := Lib.hid hp
            have HY := Lib.hid hq
            clear hp hq hrx hry
            by_cases hpq : p = q
            · have qq : ((p : Int) == (q : Int)) = true := by simp; omega
              go_wp2_with fail
              go_quiet (fail)
              go_wp2
              go_roundw
              case rel => exact ⟨k + 1, _, by omega, by go_num, take_eq_stepI HX.out HY.out HT.out hpq, rfl⟩
              case measure => simp [intOf] <;> omega
            · have qq : ((p : Int) == (q : Int)) = false := by rw [beq_eq_false_iff_ne]; omega
              have hne : decide (y <+: x) = false := by
                rw [decide_eq_false_iff_not]
                rintro ⟨r, rfl⟩
                have := HX.out
                rw [List.getElem?_append_left hlt, HY.out] at this
                injection this with this; exact hpq this.symm
              go_wp2_with fail
              go_quiet (fail)
              go_wp2
              go_ret
              exact ⟨by first | rfl | (rw [hne]; rfl), below_drewN (below_drewN HBB.out _) _⟩
          · have h1 : ¬ (k : Int) < (y.length : Int) := by omega
            have he : decide (y <+: x) = true := by
              have hky : k = y.length := by omega
              have := HT.out
              rw [hky, List.take_length] at this
              rw [decide_eq_true_iff, ← this]; exact List.take_prefix _ _
            clear hrx hry
            go_wp2
            go_ret
            exact ⟨by first | rfl | (rw [he]; rfl), below_drewN HBB.out _⟩
      · have gl : (x.length : Int) < (y.length : Int) := by omega
        have hne : decide (y <+: x) = false := by
          rw [decide_eq_false_iff_not]; intro h; exact hlen h.length_le
        clear hlen
        rw [hne]
        go_enter Tryd.func28, Tryd.ntmps28
        go_wp2_with (first
          | (go_at_call 19; (with_reducible refine HP.out.mono ?_); rintro e W1 ⟨v1, rfl, ho1, hb1⟩; have HB1 := Lib.hid hb1; (obtain ⟨A1, c1, hv1, _⟩ := ho1.form); subst hv1; clear ho1 hb1)
          | (go_at_call 19; (with_reducible refine (HQ.out W1).mono ?_); rintro e W2 ⟨v2, rfl, ho2, hb2⟩; have HB2 := Lib.hid hb2; (obtain ⟨A2, c2, hv2, _⟩ := ho2.form); subst hv2; clear ho2 hb2))
        go_ret
        exact ⟨rfl, HB1.out.trans (HB2.out.mono HB1.out.size)⟩
    · have q : ((ye : Int) == 0) = false := by rw [beq_eq_false_iff_ne]; omega
      have hz : ((((x, xa, 0) : List Nat × Nat × Nat).2.2 == 0) && (((y, ya, ye) : List Nat × Nat × Nat).2.2 == 0) && decide (y <+: x)) = false := by
        have : (ye == 0) = false := by rw [beq_eq_false_iff_ne]; exact hye
        simp [this]
      rw [hz]
      clear hz
      go_enter Tryd.func28, Tryd.ntmps28
      go_wp2_with (first
        | (go_at_call 19; (with_reducible refine HP.out.mono ?_); rintro e W1 ⟨v1, rfl, ho1, hb1⟩; have HB1 := Lib.hid hb1; clear ho1 hb1)
        | (go_at_call 19; (with_reducible refine (HQ.out W1).mono ?_); rintro e W2 ⟨v2, rfl, ho2, hb2⟩; have HB2 := Lib.hid hb2; clear ho2 hb2))
      go_ret
      exact ⟨rfl, HB1.out.trans (HB2.out.mono HB1.out.size)⟩
  · have q : ((xe : Int) == 0) = false := by rw [beq_eq_false_iff_ne]; omega
    have hz : ((((x, xa, xe) : List Nat × Nat × Nat).2.2 == 0) && (((y, ya, ye) : List Nat × Nat × Nat).2.2 == 0) && decide (y <+: x)) = false := by
      have : (xe == 0) = false := by rw [beq_eq_false_iff_ne]; exact hxe
      simp [this]
    rw [hz]
    clear hz
    go_enter Tryd.func28, Tryd.ntmps28
    go_wp2_with (first
      | (go_at_call 19; (with_reducible refine HP.out.mono ?_); rintro e W1 ⟨v1, rfl, ho1, hb1⟩; have HB1 := Lib.hid hb1; clear ho1 hb1)
      | (go_at_call 19; (with_reducible refine (HQ.out W1).mono ?_); rintro e W2 ⟨v2, rfl, ho2, hb2⟩; have HB2 := Lib.hid hb2; clear ho2 hb2))
    go_ret
    exact ⟨rfl, HB1.out.trans (HB2.out.mono HB1.out.size)⟩
end Go.Proofs.YtdfenaoddbdppaaDoor
