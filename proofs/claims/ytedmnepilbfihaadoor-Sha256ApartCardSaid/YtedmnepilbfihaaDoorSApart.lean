/- The walk of the law Sha256Apart: what it says of every two tags and lists. -/
import Derived.Test.YtedmnepilbfihaaDoorSJoins
set_option linter.unusedVariables false
namespace Go.Proofs.YtedmnepilbfihaaDoor
open Go.RowKit

theorem be4_inj {m n : Nat} (hm : m ≤ 100) (hn : n ≤ 100) (h : be4 m = be4 n) : m = n := by
  simp only [be4, List.cons.injEq] at h
  have h3 := congrArg UInt8.toNat h.2.2.2.1
  unfold beb at h3
  rw [UInt8.toNat_ofNat', UInt8.toNat_ofNat'] at h3
  simp at h3
  omega
theorem flat_inj : ∀ (a b : List ByteArray), a.length = b.length → (∀ s ∈ a, s.size ≤ 100) → (∀ s ∈ b, s.size ≤ 100) → a.flatMap partS = b.flatMap partS → a = b
  | [], [], _, _, _, _ => rfl
  | s :: a, s' :: b, hl, ha, hb, h => by
    simp only [List.flatMap_cons, partS, List.append_assoc] at h
    obtain ⟨h1, h2⟩ := List.append_inj h (by simp [be4])
    have hs := be4_inj (ha s (by simp)) (hb s' (by simp)) h1
    obtain ⟨h3, h4⟩ := List.append_inj h2 (by rw [bytes_length, bytes_length]; exact hs)
    rw [Go.WideShapes.bytes_inj h3, flat_inj a b (by simpa using hl) (fun x hx => ha x (by simp [hx])) (fun x hx => hb x (by simp [hx])) h4]
theorem joinS_inj {t t' : UInt8} {a b : List ByteArray} (hla : a.length ≤ 255) (hlb : b.length ≤ 255) (ha : ∀ s ∈ a, s.size ≤ 100) (hb : ∀ s ∈ b, s.size ≤ 100) (h : joinS t a = joinS t' b) : t = t' ∧ a = b := by
  unfold joinS at h
  simp only [List.cons.injEq] at h
  obtain ⟨h1, h2, h3⟩ := h
  have h4 := congrArg UInt8.toNat h2
  rw [UInt8.toNat_ofNat', UInt8.toNat_ofNat'] at h4
  exact ⟨h1, flat_inj a b (by omega) ha hb h3⟩

/-- The two tags lie in the first new block. -/
def AP (w : World) (t0 t1 : UInt8) (W : World) : Prop := Below w.heap.size w W ∧ w.heap.size < W.heap.size ∧ W.cell? ⟨w.heap.size, 0, none⟩ = some (bv t0) ∧ W.cell? ⟨w.heap.size, 1, none⟩ = some (bv t1)
theorem AP.below {w : World} {t0 t1 : UInt8} {W W' : World} (h : AP w t0 t1 W) (hb : Below W.heap.size W W') : AP w t0 t1 W' :=
  ⟨h.1.trans (hb.mono h.1.size), Nat.lt_of_lt_of_le h.2.1 hb.size, (hb.cell (p := ⟨w.heap.size, 0, none⟩) h.2.1).trans h.2.2.1, (hb.cell (p := ⟨w.heap.size, 1, none⟩) h.2.1).trans h.2.2.2⟩
theorem ap_new (w : World) (t0 t1 : UInt8) (z : Array Value) (hz : z = #[bv t0, bv t1]) (t : TypeId) : AP w t0 t1 (w.alloc (.cells z t)) := by
  subst hz
  refine ⟨below_alloc0 _ _ (Nat.le_refl _), by simp, ?_, ?_⟩
  · rw [World.cell?_alloc_at _ _ _ _ rfl]; rfl
  · rw [World.cell?_alloc_at _ _ _ _ rfl]; rfl

/-- .. and the two lists. -/
def AQ (w : World) (t0 t1 : UInt8) (W1 : World) (A1 : Option Addr) (ma : List ByteArray) (W2 : World) (A2 : Option Addr) (mb : List ByteArray) (W : World) : Prop :=
  AP w t0 t1 W ∧ RT W W1.heap.size A1 ma ∧ RT W W2.heap.size A2 mb ∧ W1.heap.size ≤ W.heap.size ∧ W2.heap.size ≤ W.heap.size
theorem AQ.below {w W1 W2 W W' : World} {t0 t1 : UInt8} {A1 A2 : Option Addr} {ma mb : List ByteArray} (h : AQ w t0 t1 W1 A1 ma W2 A2 mb W) (hb : Below W.heap.size W W') : AQ w t0 t1 W1 A1 ma W2 A2 mb W' :=
  ⟨h.1.below hb, h.2.1.below (hb.mono h.2.2.2.1), h.2.2.1.below (hb.mono h.2.2.2.2), Nat.le_trans h.2.2.2.1 hb.size, Nat.le_trans h.2.2.2.2 hb.size⟩

set_option maxHeartbeats 2000000 in
set_option maxRecDepth 100000 in
theorem sha256Apart_walk (t0 t1 : UInt8) (A A' : Option Addr) (a b : List ByteArray) (c c' : Nat) (w : World) (hT : Tab w) (hr : RT w w.heap.size A a) (hr' : RT w w.heap.size A' b) :
    Calls Tryd.prog 6 #[.agg #[bv t0, bv t1], .slice A a.length c, .slice A' b.length c'] w fun e w' => e = .returned (.bool true) ∧ Below w.heap.size w w' := by
  obtain ⟨ma, ema⟩ : ∃ m, m = listS a := ⟨_, rfl⟩
  obtain ⟨mb, emb⟩ : ∃ m, m = listS b := ⟨_, rfl⟩
  have hla : ma.length ≤ 12 := by rw [ema, listS_length]; omega
  have hlb : mb.length ≤ 12 := by rw [emb, listS_length]; omega
  have hsa : ∀ s ∈ ma, s.size ≤ 100 := by rw [ema]; exact listS_size a
  have hsb : ∀ s ∈ mb, s.size ≤ 100 := by rw [emb]; exact listS_size b
  have H1 : Hid (∀ W, AP w t0 t1 W → Calls Tryd.prog 18 #[.slice A a.length c] W fun e w' => ∃ v', e = .returned v' ∧ OT 9 w' W.heap.size v' ma ∧ Below W.heap.size W w') := Lib.hid fun W h => by
    rw [ema]; exact list_any A a c w.heap.size W (hr.below h.1) h.1.size
  have H2 : Hid (∀ W, AP w t0 t1 W → Calls Tryd.prog 18 #[.slice A' b.length c'] W fun e w' => ∃ v', e = .returned v' ∧ OT 9 w' W.heap.size v' mb ∧ Below W.heap.size W w') := Lib.hid fun W h => by
    rw [emb]; exact list_any A' b c' w.heap.size W (hr'.below h.1) h.1.size
  obtain ⟨X, eX⟩ : ∃ S : ByteArray, S = ⟨(joinS t0 ma).toArray⟩ := ⟨_, rfl⟩
  obtain ⟨Y, eY⟩ : ∃ S : ByteArray, S = ⟨(joinS t1 mb).toArray⟩ := ⟨_, rfl⟩
  have hXY : (X.toList == Y.toList) = decide (t0 = t1 ∧ ma = mb) := by
    rw [str_beq]
    by_cases h : t0 = t1 ∧ ma = mb
    · rw [decide_eq_true h, decide_eq_true]; rw [eX, eY, h.1, h.2]
    · rw [decide_eq_false h, decide_eq_false]
      intro e
      rw [eX, eY] at e
      injection e with e
      exact h (joinS_inj (by omega) (by omega) hsa hsb (by simpa using congrArg Array.toList e))
  obtain ⟨r, er⟩ : ∃ r, r = decide (ma = mb) := ⟨_, rfl⟩
  have HT := Lib.hid hT
  have HXY := Lib.hid hXY
  have HLA := Lib.hid hla
  have HLB := Lib.hid hlb
  have HSA := Lib.hid hsa
  have HSB := Lib.hid hsb
  have HEX := Lib.hid eX
  have HEY := Lib.hid eY
  have HER := Lib.hid er
  clear hr hr' ema emb hla hlb hsa hsb hXY eX eY er hT
  go_enter Tryd.func6, Tryd.ntmps6
  go_wp2_with (first
    | (go_at_call 18; refine calls_gen (AP w t0 t1) (ap_new w t0 t1 _ rfl _) ?_; intro V hV; (with_reducible refine (H1.out V hV).mono ?_); rintro e W1 ⟨v1, rfl, ho1, hb1⟩; have P1 := Lib.hid (hV.below hb1); (obtain ⟨A1, c1, hv1, hr1, _, _⟩ := ho1.form); have R1 := Lib.hid hr1; subst hv1; clear ho1 hb1 hr1 hV)
    | (go_at_call 18; (with_reducible refine (H2.out W1 P1.out).mono ?_); rintro e W2 ⟨v2, rfl, ho2, hb2⟩; have P2 := Lib.hid (P1.out.below hb2); have R1' := Lib.hid (R1.out.below hb2); (obtain ⟨A2, c2, hv2, hr2, _, _⟩ := ho2.form); have R2 := Lib.hid hr2; have c0 := P2.out.2.2.1; have S2 := Lib.hid hb2.size; subst hv2; clear ho2 hb2 hr2))
  have Q2 : Hid (AQ w t0 t1 W1 A1 ma W2 A2 mb W2) := Lib.hid ⟨P2.out, R1'.out, R2.out, S2.out, Nat.le_refl _⟩
  have hJa : Hid (∀ W, AQ w t0 t1 W1 A1 ma W2 A2 mb W → Calls Tryd.prog 19 #[bv t0, .slice A1 ma.length c1] W fun e w' => e = .returned (.tuple #[.string X, .int .i64 0]) ∧ AQ w t0 t1 W1 A1 ma W2 A2 mb w') := Lib.hid fun W h => by
    rw [HEX.out]
    exact (join_any t0 A1 ma c1 _ W h.2.1 h.2.2.2.1 (by have := HLA.out; omega) HSA.out).mono fun e w' ⟨he, hb⟩ => ⟨he, h.below hb⟩
  have hJb : Hid (∀ W, AQ w t0 t1 W1 A1 ma W2 A2 mb W → Calls Tryd.prog 19 #[bv t1, .slice A2 mb.length c2] W fun e w' => e = .returned (.tuple #[.string Y, .int .i64 0]) ∧ AQ w t0 t1 W1 A1 ma W2 A2 mb w') := Lib.hid fun W h => by
    rw [HEY.out]
    exact (join_any t1 A2 mb c2 _ W h.2.2.1 h.2.2.2.2 (by have := HLB.out; omega) HSB.out).mono fun e w' ⟨he, hb⟩ => ⟨he, h.below hb⟩
  have hK : Hid (∀ W, AQ w t0 t1 W1 A1 ma W2 A2 mb W → Calls Tryd.prog 14 #[] W fun e w' => e = .returned (.bool true) ∧ AQ w t0 t1 W1 A1 ma W2 A2 mb w') := Lib.hid fun W h =>
    (known_any W (HT.out.below h.1.1 HT.out.1)).mono fun e w' ⟨he, hb⟩ => ⟨he, h.below hb⟩
  have hS : Hid (∀ W, AQ w t0 t1 W1 A1 ma W2 A2 mb W → Calls Tryd.prog 22 #[.slice A1 ma.length c1, .slice A2 mb.length c2] W fun e w' => e = .returned (.bool r) ∧ AQ w t0 t1 W1 A1 ma W2 A2 mb w') := Lib.hid fun W h => by
    rw [HER.out]
    exact (same_any A1 A2 ma mb c1 c2 _ _ W h.2.1 h.2.2.1 (by have := HLA.out; omega)).mono fun e w' ⟨he, n, hn⟩ => ⟨he, by rw [hn]; exact h.below (below_drewN (Below.refl _ _) n)⟩
  clear P1 P2 R1 R1' R2 S2
  by_cases ht : t0 = t1
  · subst ht
    have hx : (X.toList == Y.toList) = r := by rw [HXY.out, HER.out]; simp
    go_wp2_with (first
      | (go_at_call 19; (with_reducible refine (hJa.out W2 Q2.out).mono ?_); rintro e W3 ⟨rfl, hb3⟩; have Q3 := Lib.hid hb3; have d1 := hb3.1.2.2.2; clear hb3)
      | (go_at_call 19; (with_reducible refine (hJb.out W3 Q3.out).mono ?_); rintro e W4 ⟨rfl, hb4⟩; have Q4 := Lib.hid hb4; clear hb4)
      | (go_at_call 14; (with_reducible refine (hK.out W4 Q4.out).mono ?_); rintro e W5 ⟨rfl, hb5⟩; have Q5 := Lib.hid hb5; have e0 := hb5.1.2.2.1; have e1 := hb5.1.2.2.2; clear hb5)
      | (go_at_call 22; (with_reducible refine (hS.out W5 Q5.out).mono ?_); rintro e W6 ⟨rfl, hb6⟩; have Q6 := Lib.hid hb6; clear hb6))
    go_ret
    exact ⟨by simp, Q6.out.1.1⟩
  · have hx : (X.toList == Y.toList) = false := by rw [HXY.out]; simp [ht]
    have q0 : ((t0.toNat : Int) == (t1.toNat : Int)) = false := by
      rw [beq_eq_false_iff_ne]; intro e; exact ht (UInt8.toNat_inj.1 (by omega))
    have q1 : (t0.toNat == t1.toNat) = false := by
      rw [beq_eq_false_iff_ne]; intro e; exact ht (UInt8.toNat_inj.1 e)
    have q2 : (t0 == t1) = false := by rw [beq_eq_false_iff_ne]; exact ht
    go_wp2_with (first
      | (go_at_call 19; (with_reducible refine (hJa.out W2 Q2.out).mono ?_); rintro e W3 ⟨rfl, hb3⟩; have Q3 := Lib.hid hb3; have d1 := hb3.1.2.2.2; clear hb3)
      | (go_at_call 19; (with_reducible refine (hJb.out W3 Q3.out).mono ?_); rintro e W4 ⟨rfl, hb4⟩; have Q4 := Lib.hid hb4; clear hb4)
      | (go_at_call 14; (with_reducible refine (hK.out W4 Q4.out).mono ?_); rintro e W5 ⟨rfl, hb5⟩; have Q5 := Lib.hid hb5; have e0 := hb5.1.2.2.1; have e1 := hb5.1.2.2.2; clear hb5))
    go_ret
    exact ⟨rfl, Q5.out.1.1⟩
end Go.Proofs.YtedmnepilbfihaaDoor
