/- object: the walk of the law ObjectEncodes. -/
import Derived.Test.YtcdjmkfpclmbdaaGreatDoorODecodes
set_option linter.unusedVariables false
namespace Go.Proofs.YtcdjmkfpclmbdaaGreatDoor
open Go.RowKit

/-! ### No encoding is valid with a byte more or less -/
set_option maxHeartbeats 2000000 in
set_option maxRecDepth 100000 in
theorem eq_self_rd (K : Int) (O : ByteArray) (n i : Int) (T : ByteArray) (W : World) :
    (binOp .eql 23 (nmV K O n i T) (nmV K O n i T)).run Tryz.prog W = .ok (.bool true) W := by
  go_simp
theorem encT_len {k n i : Nat} {o t : List UInt8} (h : Vn k o n i t) : o.length ≤ (encT k o n i t).length ∧ t.length ≤ (encT k o n i t).length := by
  have e : (encT k o n i t).length = (catB (txtN k) (catB (idxN k) (catB (numN k) (catB (ownN k) (Cod.enc k) (Cod.enc o.length ++ o)) (Cod.enc n)) (Cod.enc i)) (Cod.enc t.length ++ t)).length := by rw [encT_cat]
  have g : ∀ (b : Bool) (x y : List UInt8), x.length ≤ (catB b x y).length := fun b x y => by unfold catB; split <;> simp
  have g2 : ∀ (x y : List UInt8), y.length ≤ (catB true x y).length := fun x y => by unfold catB; simp
  have a4 := g (txtN k) (catB (idxN k) (catB (numN k) (catB (ownN k) (Cod.enc k) (Cod.enc o.length ++ o)) (Cod.enc n)) (Cod.enc i)) (Cod.enc t.length ++ t)
  have a3 := g (idxN k) (catB (numN k) (catB (ownN k) (Cod.enc k) (Cod.enc o.length ++ o)) (Cod.enc n)) (Cod.enc i)
  have a2 := g (numN k) (catB (ownN k) (Cod.enc k) (Cod.enc o.length ++ o)) (Cod.enc n)
  refine ⟨?_, ?_⟩
  · by_cases hb : ownN k = true
    · have a1 := g2 (Cod.enc k) (Cod.enc o.length ++ o)
      rw [hb] at a2 a3 a4 e
      rw [List.length_append] at a1
      omega
    · rw [h.o0 (by simpa using hb)]; simp
  · by_cases hb : txtN k = true
    · have a1 := g2 (catB (idxN k) (catB (numN k) (catB (ownN k) (Cod.enc k) (Cod.enc o.length ++ o)) (Cod.enc n)) (Cod.enc i)) (Cod.enc t.length ++ t)
      rw [hb] at e
      rw [List.length_append] at a1
      omega
    · rw [h.t0 (by simpa using hb)]; simp
theorem dec_short {k n i : Nat} {o t : List UInt8} (h : Vn k o n i t) (hl : (encT k o n i t).length ≤ 1000000) (x r : List UInt8) (hr : r ≠ []) (e : encT k o n i t = x ++ r) : decN x = (⟨0, [], 0, 0, []⟩, 3) := by
  rcases decN_cases x with ⟨_, hc, he⟩ | h0
  · exfalso
    obtain ⟨k', n', i', e', hv⟩ := check_vn hc
    rw [e', encN_vn hv] at he
    have l1 := encT_len h
    have l2 := encT_len hv
    have hx : x.length ≤ 1000000 := by rw [e, List.length_append] at hl; omega
    rw [he] at l2
    have e2 : encR k o n i t [] = encR k' (decN x).1.owner n' i' (decN x).1.text r := by
      rw [← encT_app, ← encT_app, List.append_nil, e, he]
    have := encR_inj h hv (by omega) (by omega) (by omega) (by omega) e2
    exact hr this.2.2.2.2.2.symm
  · exact h0
theorem dec_more {k n i : Nat} {o t : List UInt8} (h : Vn k o n i t) (hl : (encT k o n i t).length ≤ 1000000) (c : UInt8) : decN (encT k o n i t ++ [c]) = (⟨0, [], 0, 0, []⟩, 3) := by
  rcases decN_cases (encT k o n i t ++ [c]) with ⟨_, hc, he⟩ | h0
  · exfalso
    obtain ⟨k', n', i', e', hv⟩ := check_vn hc
    rw [e', encN_vn hv] at he
    have l1 := encT_len h
    have l2 := encT_len hv
    rw [he, List.length_append, List.length_singleton] at l2
    have e2 : encR k' (decN (encT k o n i t ++ [c])).1.owner n' i' (decN (encT k o n i t ++ [c])).1.text [] = encR k o n i t [c] := by
      rw [← encT_app, ← encT_app, List.append_nil, he]
    have := encR_inj hv h (by omega) (by omega) (by omega) (by omega) e2
    exact absurd this.2.2.2.2.2 (by simp)
  · exact h0

def EZ (w : World) (g : Nat) (cs xs : Array Value) (V : World) : Prop := BX w cs V ∧ Blk V g 28 xs
theorem ez_new {w V : World} {cs xs : Array Value} (h : BX w cs V) : EZ w V.heap.size cs xs (V.alloc (.cells xs 28)) := ⟨⟨h.1.alloc _, h.2.alloc h.2.size _⟩, Blk.new _ _ _⟩
theorem EZ.under {w : World} {g : Nat} {cs xs : Array Value} {V V' : World} (h : EZ w g cs xs V) (hb : Below V.heap.size V V') : EZ w g cs xs V' := ⟨h.1.under hb, h.2.under hb⟩
theorem EZ.bel {w : World} {g : Nat} {cs xs : Array Value} {V : World} (h : EZ w g cs xs V) : Below w.heap.size w V := h.1.2
theorem EZ.drew {w : World} {g : Nat} {cs xs : Array Value} {V : World} (h : EZ w g cs xs V) : EZ w g cs xs V.drew := ⟨h.1.drew, h.2.drew⟩
theorem EZ.alloc {w : World} {g : Nat} {cs xs : Array Value} {V : World} (h : EZ w g cs xs V) (o : Obj) : EZ w g cs xs (V.alloc o) := h.under (below_alloc0 _ _ (Nat.le_refl _))

set_option maxHeartbeats 4000000 in
set_option maxRecDepth 100000 in
theorem encodes_long (K : Int) (O : ByteArray) (n i : Int) (T : ByteArray) (b : Int) (w : World)
    (hK : ∀ W, Below w.heap.size w W → Calls Tryz.prog 7 #[] W fun e w' => e = .returned (.bool true) ∧ Below W.heap.size W w')
    (hA : ∀ W, Calls Tryz.prog 8 #[nmV K O n i T] W fun e w' => e = .returned (.bool true) ∧ Below W.heap.size W w') :
    Calls Tryz.prog 5 #[nmV K O n i T, .int .u8 b] w fun e w' => e = .returned (.bool true) ∧ Below w.heap.size w w' := by
  have HK := Lib.hid hK
  have HLO := Lib.hid hA
  have HX := Lib.hid (bx_new w (nmC K O n i T))
  clear hK hA
  go_enter Tryz.func5, Tryz.ntmps5
  go_wp2_with (first
    | (go_at_call 7; refine (HK.out _ HX.out.bel).mono ?_; rintro e V1 ⟨rfl, hb⟩; replace HX := Lib.hid (HX.out.under hb); clear hb; have c0 := HX.out.1.cell 0; have c1 := HX.out.1.cell 1; have c2 := HX.out.1.cell 2; have c3 := HX.out.1.cell 3; have c4 := HX.out.1.cell 4)
    | (go_at_call 8; refine (HLO.out _).mono ?_; rintro e V1 ⟨rfl, hb⟩; replace HX := Lib.hid (HX.out.under hb); clear hb c0 c1 c2 c3 c4; have c0 := HX.out.1.cell 0; have c1 := HX.out.1.cell 1; have c2 := HX.out.1.cell 2; have c3 := HX.out.1.cell 3; have c4 := HX.out.1.cell 4))
  go_ret
  exact ⟨rfl, HX.out.bel⟩

set_option maxHeartbeats 4000000 in
set_option maxRecDepth 100000 in
theorem encodes_bad (K : Int) (O : ByteArray) (n i : Int) (T : ByteArray) (b E : Int) (w : World) (hE : (E != 0) = true)
    (hK : ∀ W, Below w.heap.size w W → Calls Tryz.prog 7 #[] W fun e w' => e = .returned (.bool true) ∧ Below W.heap.size W w')
    (hA : ∀ W, Calls Tryz.prog 8 #[nmV K O n i T] W fun e w' => e = .returned (.bool false) ∧ Below W.heap.size W w')
    (hEn : ∀ W, Below w.heap.size w W → Calls Tryz.prog 21 #[nmV K O n i T] W fun e w' => e = .returned (.tuple #[.string ⟨#[]⟩, .int .i64 E]) ∧ Below W.heap.size W w')
    (hRE : ∀ W, Calls Tryz.prog 22 #[nmV K O n i T] W fun e w' => e = .returned (.tuple #[.string ⟨#[]⟩, .int .i64 E]) ∧ Below W.heap.size W w') :
    Calls Tryz.prog 5 #[nmV K O n i T, .int .u8 b] w fun e w' => e = .returned (.bool true) ∧ Below w.heap.size w w' := by
  have HK := Lib.hid hK
  have HLO := Lib.hid hA
  have HEN := Lib.hid hEn
  have HRE := Lib.hid hRE
  have HTO := Lib.hid fun W => to_any K n i O T W
  have HX := Lib.hid (bx_new w (nmC K O n i T))
  have z2 : (E != E) = false := by simp
  clear hK hA hEn hRE
  go_enter Tryz.func5, Tryz.ntmps5
  go_wp2_with (first
    | (go_at_call 7; refine (HK.out _ HX.out.bel).mono ?_; rintro e V1 ⟨rfl, hb⟩; replace HX := Lib.hid (HX.out.under hb); clear hb; have c0 := HX.out.1.cell 0; have c1 := HX.out.1.cell 1; have c2 := HX.out.1.cell 2; have c3 := HX.out.1.cell 3; have c4 := HX.out.1.cell 4)
    | (go_at_call 8; refine (HLO.out _).mono ?_; rintro e V1 ⟨rfl, hb⟩; replace HX := Lib.hid (HX.out.under hb); clear hb c0 c1 c2 c3 c4; have c0 := HX.out.1.cell 0; have c1 := HX.out.1.cell 1; have c2 := HX.out.1.cell 2; have c3 := HX.out.1.cell 3; have c4 := HX.out.1.cell 4)
    | (go_at_call 14; refine (HTO.out _).mono ?_; rintro e V1 ⟨rfl, hb⟩; replace HX := Lib.hid (HX.out.under hb); clear hb c0 c1 c2 c3 c4; have c0 := HX.out.1.cell 0; have c1 := HX.out.1.cell 1; have c2 := HX.out.1.cell 2; have c3 := HX.out.1.cell 3; have c4 := HX.out.1.cell 4)
    | (go_at_call 21; refine (HEN.out _ HX.out.bel).mono ?_; rintro e V1 ⟨rfl, hb⟩; replace HX := Lib.hid (HX.out.under hb); clear hb c0 c1 c2 c3 c4; have c0 := HX.out.1.cell 0; have c1 := HX.out.1.cell 1; have c2 := HX.out.1.cell 2; have c3 := HX.out.1.cell 3; have c4 := HX.out.1.cell 4)
    | (go_at_call 22; refine (HRE.out _).mono ?_; rintro e V1 ⟨rfl, hb⟩; replace HX := Lib.hid (HX.out.under hb); clear hb c0 c1 c2 c3 c4; have c0 := HX.out.1.cell 0; have c1 := HX.out.1.cell 1; have c2 := HX.out.1.cell 2; have c3 := HX.out.1.cell 3; have c4 := HX.out.1.cell 4))
  go_ret
  exact ⟨rfl, HX.out.bel⟩

set_option maxHeartbeats 8000000 in
set_option maxRecDepth 100000 in
theorem encodes_good (K : Int) (O : ByteArray) (n i : Int) (T : ByteArray) (c : UInt8) (S S0 S1 : ByteArray) (N : Nat) (w : World) (hN : S.size = N + 1) (hNl : N ≤ 1000000) (hS0 : S.extract 0 N = S0) (hS1 : S ++ ⟨#[c]⟩ = S1)
    (hK : ∀ W, Below w.heap.size w W → Calls Tryz.prog 7 #[] W fun e w' => e = .returned (.bool true) ∧ Below W.heap.size W w')
    (hA : ∀ W, Calls Tryz.prog 8 #[nmV K O n i T] W fun e w' => e = .returned (.bool false) ∧ Below W.heap.size W w')
    (hEn : ∀ W, Below w.heap.size w W → Calls Tryz.prog 21 #[nmV K O n i T] W fun e w' => e = .returned (.tuple #[.string S, .int .i64 0]) ∧ Below W.heap.size W w')
    (hRE : ∀ W, Calls Tryz.prog 22 #[nmV K O n i T] W fun e w' => e = .returned (.tuple #[.string S, .int .i64 0]) ∧ Below W.heap.size W w')
    (hD : ∀ W, Below w.heap.size w W → Calls Tryz.prog 23 #[.string S] W fun e w' => e = .returned (.tuple #[nmV K O n i T, .int .i64 0]) ∧ Below W.heap.size W w')
    (hD0 : ∀ W, Below w.heap.size w W → Calls Tryz.prog 23 #[.string S0] W fun e w' => e = .returned (.tuple #[nmV 0 ⟨#[]⟩ 0 0 ⟨#[]⟩, .int .i64 3]) ∧ Below W.heap.size W w')
    (hD1 : ∀ W, Below w.heap.size w W → Calls Tryz.prog 23 #[.string S1] W fun e w' => e = .returned (.tuple #[nmV 0 ⟨#[]⟩ 0 0 ⟨#[]⟩, .int .i64 3]) ∧ Below W.heap.size W w') :
    Calls Tryz.prog 5 #[nmV K O n i T, .int .u8 (c.toNat : Int)] w fun e w' => e = .returned (.bool true) ∧ Below w.heap.size w w' := by
  have HK := Lib.hid hK
  have HLO := Lib.hid hA
  have HEN := Lib.hid hEn
  have HRE := Lib.hid hRE
  have HD := Lib.hid hD
  have HD0 := Lib.hid hD0
  have HD1 := Lib.hid hD1
  have HTO := Lib.hid fun W => to_any K n i O T W
  have HOF := Lib.hid fun W => ofN_any K n i O T W
  have HX := Lib.hid (bx_new w (nmC K O n i T))
  have z0 : ((0 : Int) != 0) = false := rfl
  have z2 : (S.toList == S.toList) = true := by simp
  have HNN := Lib.hid hN
  have HSS1 := Lib.hid hS1
  have HSS0 := Lib.hid hS0
  clear hK hA hEn hRE hD hD0 hD1 hN hS1 hS0
  go_enter Tryz.func5, Tryz.ntmps5
  go_upto_region 10 with (first
    | (go_at_call 7; refine (HK.out _ HX.out.bel).mono ?_; rintro e V1 ⟨rfl, hb⟩; replace HX := Lib.hid (HX.out.under hb); clear hb; have c0 := HX.out.1.cell 0; have c1 := HX.out.1.cell 1; have c2 := HX.out.1.cell 2; have c3 := HX.out.1.cell 3; have c4 := HX.out.1.cell 4)
    | (go_at_call 8; refine (HLO.out _).mono ?_; rintro e V1 ⟨rfl, hb⟩; replace HX := Lib.hid (HX.out.under hb); clear hb c0 c1 c2 c3 c4; have c0 := HX.out.1.cell 0; have c1 := HX.out.1.cell 1; have c2 := HX.out.1.cell 2; have c3 := HX.out.1.cell 3; have c4 := HX.out.1.cell 4)
    | (go_at_call 14; refine (HTO.out _).mono ?_; rintro e V1 ⟨rfl, hb⟩; replace HX := Lib.hid (HX.out.under hb); clear hb c0 c1 c2 c3 c4; have c0 := HX.out.1.cell 0; have c1 := HX.out.1.cell 1; have c2 := HX.out.1.cell 2; have c3 := HX.out.1.cell 3; have c4 := HX.out.1.cell 4)
    | (go_at_call 21; refine (HEN.out _ HX.out.bel).mono ?_; rintro e V1 ⟨rfl, hb⟩; replace HX := Lib.hid (HX.out.under hb); clear hb c0 c1 c2 c3 c4; have c0 := HX.out.1.cell 0; have c1 := HX.out.1.cell 1; have c2 := HX.out.1.cell 2; have c3 := HX.out.1.cell 3; have c4 := HX.out.1.cell 4)
    | (go_at_call 22; refine (HRE.out _).mono ?_; rintro e V1 ⟨rfl, hb⟩; replace HX := Lib.hid (HX.out.under hb); clear hb c0 c1 c2 c3 c4; have c0 := HX.out.1.cell 0; have c1 := HX.out.1.cell 1; have c2 := HX.out.1.cell 2; have c3 := HX.out.1.cell 3; have c4 := HX.out.1.cell 4)
    | (go_at_call 23; refine (HD.out _ HX.out.bel).mono ?_; rintro e V1 ⟨rfl, hb⟩; replace HX := Lib.hid (HX.out.under hb); clear hb c0 c1 c2 c3 c4; have HMARK := Lib.hid (rfl : V1 = V1)))
  refine cwp_gen (EZ w V1.heap.size (nmC K O n i T) (nmC K O n i T)) (ez_new HX.out) ?_
  intro V2 hV
  generalize V1.heap.size = g at hV ⊢
  have HV := Lib.hid hV
  clear hV HX HMARK
  have hN := HNN.out
  have hS0 := HSS0.out
  have hw1 : (0 : Int) ≤ (N : Int) := by omega
  have hw2 : (N : Int) ≤ (S.size : Int) := by omega
  go_upto_region 11 with (go_at_call 23; (try rw [hS0]); refine (HD0.out _ HV.out.bel).mono ?_; rintro e V3 ⟨rfl, hb⟩; replace HV := Lib.hid (HV.out.under hb); clear hb)
  refine cwp_gen (EZ w g (nmC K O n i T) (nmC K O n i T)) (HV.out.alloc _) ?_
  intro V4 hV
  replace HV := Lib.hid hV
  clear hV hN hS0 hw1 hw2
  have hDS : DS w V4.heap.size c (V4.alloc (.cells #[.int .u8 (c.toNat : Int)] 5)) := ds_new HV.out.bel _ _ rfl _
  have hcv := hDS.str
  clear hDS
  have hS1 := HSS1.out
  have hov : ¬ 9223372036854775807 < S.size + 1 := by have := HNN.out; omega
  go_upto_region 12 with (go_at_call 23; refine (HD1.out _ (HV.out.alloc _).bel).mono ?_; rintro e V5 ⟨rfl, hb⟩; replace HV := Lib.hid ((HV.out.alloc _).under hb); clear hb)
  refine cwp_gen (EZ w g (nmC K O n i T) (nmC K O n i T)) (HV.out.alloc _) ?_
  intro V6 hV
  clear HV hcv hS1 hov
  have hq := fun W => eq_self_rd K O n i T W
  have f0 : ∀ W, EZ w g (nmC K O n i T) (nmC K O n i T) W → W.cell? ⟨w.heap.size, 0, none⟩ = some (.int .i64 K) := fun W x => x.1.1.cell 0
  have f1 : ∀ W, EZ w g (nmC K O n i T) (nmC K O n i T) W → W.cell? ⟨w.heap.size, 1, none⟩ = some (.string O) := fun W x => x.1.1.cell 1
  have f2 : ∀ W, EZ w g (nmC K O n i T) (nmC K O n i T) W → W.cell? ⟨w.heap.size, 2, none⟩ = some (.int .i64 n) := fun W x => x.1.1.cell 2
  have f3 : ∀ W, EZ w g (nmC K O n i T) (nmC K O n i T) W → W.cell? ⟨w.heap.size, 3, none⟩ = some (.int .i64 i) := fun W x => x.1.1.cell 3
  have f4 : ∀ W, EZ w g (nmC K O n i T) (nmC K O n i T) W → W.cell? ⟨w.heap.size, 4, none⟩ = some (.string T) := fun W x => x.1.1.cell 4
  have k0 : ∀ W, EZ w g (nmC K O n i T) (nmC K O n i T) W → W.cell? ⟨g, 0, none⟩ = some (.int .i64 K) := fun W x => x.2.cell 0
  have k1 : ∀ W, EZ w g (nmC K O n i T) (nmC K O n i T) W → W.cell? ⟨g, 1, none⟩ = some (.string O) := fun W x => x.2.cell 1
  have k2 : ∀ W, EZ w g (nmC K O n i T) (nmC K O n i T) W → W.cell? ⟨g, 2, none⟩ = some (.int .i64 n) := fun W x => x.2.cell 2
  have k3 : ∀ W, EZ w g (nmC K O n i T) (nmC K O n i T) W → W.cell? ⟨g, 3, none⟩ = some (.int .i64 i) := fun W x => x.2.cell 3
  have k4 : ∀ W, EZ w g (nmC K O n i T) (nmC K O n i T) W → W.cell? ⟨g, 4, none⟩ = some (.string T) := fun W x => x.2.cell 4
  go_region_held3 (EZ w g (nmC K O n i T) (nmC K O n i T)) (first | assumption | exact EZ.drew (by assumption)) ((go_at_call 16; refine (HOF.out _).mono ?_; rintro e W1 ⟨rfl, hb⟩; have hS1 := EZ.under (by assumption) hb; clear hb))
  all_goals
    go_wp2
    go_ret
    exact ⟨by first | rfl | simp, EZ.bel (by assumption)⟩

set_option maxHeartbeats 1000000 in
theorem objectEncodes_walk (K : Int) (O : ByteArray) (n i : Int) (T : ByteArray) (b : Int) (w : World) (hE : Env w) (wK : (Lit.int .i64 K).wf = true) (wn : (Lit.int .i64 n).wf = true) (wi : (Lit.int .i64 i).wf = true) (hO : O.size ≤ maxLen) (hT : T.size ≤ maxLen) (wb : (Lit.int .u8 b).wf = true) :
    Calls Tryz.prog 5 #[nmV K O n i T, .int .u8 b] w fun e w' => e = .returned (.bool true) ∧ Below w.heap.size w w' := by
  have hK : ∀ W, Below w.heap.size w W → Calls Tryz.prog 7 #[] W fun e w' => e = .returned (.bool true) ∧ Below W.heap.size W w' := fun W hb => known_any W (hE.below hb)
  have hA := fun W => long_any K n i O T W hO hT
  cases hl : longB O T with
  | true => rw [hl] at hA; exact encodes_long K O n i T b w hK hA
  | false =>
    rw [hl] at hA
    unfold longB at hl
    simp only [Bool.or_eq_false_iff, decide_eq_false_iff_not] at hl
    have eO : O.data.toList.length = O.size := by simp
    have eT : T.data.toList.length = T.size := by simp
    have hEn := fun W hb => encode_any K n i O T W (hE.below (w' := W) hb) (by omega)
    have hRE := fun W => refEncode_any K n i O T W (by omega) (by omega)
    by_cases h0 : checkN ⟨K, O.data.toList, n, i, T.data.toList⟩ = 0
    · obtain ⟨k, n', i', e, hv⟩ := check_vn h0
      simp only [Nm.mk.injEq] at e
      obtain ⟨rfl, _, rfl, rfl, _⟩ := e
      simp only at hv
      rw [h0, encN_vn hv] at hEn hRE
      obtain ⟨s, hs⟩ : ∃ s, s = encT k O.data.toList n' i' T.data.toList := ⟨_, rfl⟩
      rw [← hs] at hEn hRE
      have hm := most_le k
      have hlen9 : s.length ≤ 999999 := by
        have hn := hv.nb
        have hi := hv.ib
        have ek := Cod.enc_len10 (n := k) (by have := hv.k2; omega)
        have en := Cod.enc_len10 (n := n') (by omega)
        have ei := Cod.enc_len10 (n := i') (by omega)
        have eo := Cod.enc_len10 (n := O.data.toList.length) (by omega)
        have et := Cod.enc_len10 (n := T.data.toList.length) (by omega)
        rw [hs, encT_cat]
        have m1 := catB_le (ownN k) (Cod.enc k) (Cod.enc O.data.toList.length ++ O.data.toList)
        have m2 := catB_le (numN k) (catB (ownN k) (Cod.enc k) (Cod.enc O.data.toList.length ++ O.data.toList)) (Cod.enc n')
        have m3 := catB_le (idxN k) (catB (numN k) (catB (ownN k) (Cod.enc k) (Cod.enc O.data.toList.length ++ O.data.toList)) (Cod.enc n')) (Cod.enc i')
        have m4 := catB_le (txtN k) (catB (idxN k) (catB (numN k) (catB (ownN k) (Cod.enc k) (Cod.enc O.data.toList.length ++ O.data.toList)) (Cod.enc n')) (Cod.enc i')) (Cod.enc T.data.toList.length ++ T.data.toList)
        rw [List.length_append] at m1 m4
        omega
      have hlen : s.length ≤ 1000000 := by omega
      have hne : s ≠ [] := by
        rw [hs]
        intro h
        have := congrArg List.length h
        unfold encT encR at this
        rw [List.length_append, List.length_nil] at this
        have := Cod.enc_pos k
        omega
      obtain ⟨N, hN⟩ : ∃ N, s.length = N + 1 := ⟨s.length - 1, by have := List.length_pos_iff.2 hne; omega⟩
      have hb : ∃ c : UInt8, b = (c.toNat : Int) := by
        have h := wb
        simp [Lit.wf] at h
        have m1 : IntKind.u8.min = 0 := by decide
        have m2 : IntKind.u8.max = 255 := by decide
        rw [m1, m2] at h
        exact ⟨UInt8.ofNat b.toNat, by rw [UInt8.toNat_ofNat']; omega⟩
      obtain ⟨c, rfl⟩ := hb
      have hsz : (sv s).size = N + 1 := by rw [sv_size]; exact hN
      have dc := fun (x : List UInt8) (hx : x.length ≤ 1000000) W hb => by
        have := decode_any (sv x) W (hE.below (w' := W) hb) (by rw [sv_size]; exact hx)
        rw [sv_list] at this
        exact this
      have d1 := dc s hlen
      rw [hs, dec_enc hv (by omega), ← hs] at d1
      simp only [vN, sv_back] at d1
      have hsp : encT k O.data.toList n' i' T.data.toList = s.take N ++ s.drop N := by rw [List.take_append_drop, ← hs]
      have d0 := dc (s.take N) (by rw [List.length_take]; omega)
      rw [dec_short hv (by rw [← hs]; exact hlen) (s.take N) (s.drop N) (by intro h; have := congrArg List.length h; rw [List.length_drop, List.length_nil] at this; omega) hsp] at d0
      have d2 := dc (s ++ [c]) (by
        rw [List.length_append, List.length_singleton]
        omega)
      rw [hs, dec_more hv (by rw [← hs]; exact hlen) c, ← hs] at d2
      refine encodes_good k O n' i' T c (sv s) (sv (s.take N)) (sv (s ++ [c])) N w hsz (by omega) (by rw [ext_to, sv_list]) (by rw [← sv_app]) hK hA hEn hRE d1 d0 d2
    · have he : encN ⟨K, O.data.toList, n, i, T.data.toList⟩ = [] := by unfold encN; rw [if_neg h0]
      rw [he] at hEn hRE
      exact encodes_bad K O n i T b _ w (by simp; omega) hK hA hEn hRE
end Go.Proofs.YtcdjmkfpclmbdaaGreatDoor
