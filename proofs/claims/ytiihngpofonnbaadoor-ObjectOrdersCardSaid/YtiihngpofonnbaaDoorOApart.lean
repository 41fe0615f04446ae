/- object: the walk of the law ObjectApart. -/
import Derived.Test.YtiihngpofonnbaaDoorOChecks
import Derived.Test.YtiihngpofonnbaaDoorOAsg
import Derived.Deep.RegionWith
set_option linter.unusedVariables false
namespace Go.Proofs.YtiihngpofonnbaaDoor
open Go.RowKit

theorem bcell {W w1 : World} (hb : Below W.heap.size W w1) : (∀ b o, b < W.heap.size → w1.cell? ⟨b, o, none⟩ = W.cell? ⟨b, o, none⟩) ∧ (∀ b o, b < W.heap.size → w1.frozen? ⟨b, o, none⟩ = W.frozen? ⟨b, o, none⟩) :=
  ⟨fun b o h => hb.cell (p := ⟨b, o, none⟩) h, fun b o h => hb.frozen (p := ⟨b, o, none⟩) h⟩
/-- Two names of the reference, boxed. -/
def B2 (w : World) (cs ds : Array Value) (V : World) : Prop := Blk V w.heap.size 23 cs ∧ Blk V (w.heap.size + 1) 23 ds ∧ Below w.heap.size w V
theorem b2_new (w : World) (cs ds : Array Value) : B2 w cs ds ((w.alloc (.cells cs 23)).alloc (.cells ds 23)) := by
  have e : (w.alloc (Obj.cells cs 23)).heap.size = w.heap.size + 1 := by simp
  refine ⟨(Blk.new w _ _).alloc _, ?_, ((Below.refl _ w).alloc (Nat.le_refl _) _).alloc (by simp) _⟩
  rw [← e]; exact Blk.new _ _ _
theorem B2.under {w : World} {cs ds : Array Value} {V V' : World} (h : B2 w cs ds V) (hb : Below V.heap.size V V') : B2 w cs ds V' := ⟨h.1.under hb, h.2.1.under hb, h.2.2.trans (hb.mono h.2.2.size)⟩
theorem B2.bel {w : World} {cs ds : Array Value} {V : World} (h : B2 w cs ds V) : Below w.heap.size w V := h.2.2
/-- The law's two names. -/
def D2 (w : World) (g f : Nat) (cs ds : Array Value) (V : World) : Prop := Blk V g 31 cs ∧ Blk V f 31 ds ∧ Below w.heap.size w V
theorem D2.under {w : World} {g f : Nat} {cs ds : Array Value} {V V' : World} (h : D2 w g f cs ds V) (hb : Below V.heap.size V V') : D2 w g f cs ds V' := ⟨h.1.under hb, h.2.1.under hb, h.2.2.trans (hb.mono h.2.2.size)⟩
theorem D2.bel {w : World} {g f : Nat} {cs ds : Array Value} {V : World} (h : D2 w g f cs ds V) : Below w.heap.size w V := h.2.2
theorem D2.drew {w : World} {g f : Nat} {cs ds : Array Value} {V : World} (h : D2 w g f cs ds V) : D2 w g f cs ds V.drew := ⟨h.1.drew, h.2.1.drew, h.2.2.drew⟩

theorem ba_toList {x y : ByteArray} (h : x.toList = y.toList) : x = y := by
  rw [ByteArray.toList_eq, ByteArray.toList_eq] at h
  exact Go.WideShapes.bytes_inj h
theorem r_no {K L n m i j : Int} {O P T Q : ByteArray} (h : ¬ (K = L ∧ O.toList = P.toList ∧ n = m ∧ i = j ∧ T.toList = Q.toList)) : decide (K = L ∧ O = P ∧ n = m ∧ i = j ∧ T = Q) = false :=
  decide_eq_false (fun ⟨h1, h2, h3, h4, h5⟩ => h ⟨h1, by rw [h2], h3, h4, by rw [h5]⟩)
theorem r_yes {K L n m i j : Int} {O P T Q : ByteArray} (h : K = L ∧ O.toList = P.toList ∧ n = m ∧ i = j ∧ T.toList = Q.toList) : decide (K = L ∧ O = P ∧ n = m ∧ i = j ∧ T = Q) = true :=
  decide_eq_true ⟨h.1, ba_toList h.2.1, h.2.2.1, h.2.2.2.1, ba_toList h.2.2.2.2⟩
theorem getD_eval {a : Act} {t : Nat} {v : Value} (h : a.eval (.tmp t) = v) : a.tmps[t]?.getD undef = v := by
  rw [← Array.getD_eq_getD_getElem?]; exact h
theorem d2_of {w V V' : World} {cs ds xs ys : Array Value} {g f : Nat} (h : B2 w cs ds V) (hb : Below V.heap.size V V') (hg : Blk V' g 31 xs) (hf : Blk V' f 31 ys) : D2 w g f xs ys V' := ⟨hg, hf, h.2.2.trans (hb.mono h.2.2.size)⟩

set_option maxHeartbeats 4000000 in
set_option maxRecDepth 100000 in
theorem apart_long (K : Int) (O : ByteArray) (n i : Int) (T : ByteArray) (L : Int) (P : ByteArray) (m j : Int) (Q : ByteArray) (w : World) (LA LB : Bool) (hl : (LA || LB) = true)
    (hK : ∀ W, Below w.heap.size w W → Calls Tryd.prog 8 #[] W fun e w' => e = .returned (.bool true) ∧ Below W.heap.size W w')
    (hA : ∀ W, Calls Tryd.prog 9 #[nmV K O n i T] W fun e w' => e = .returned (.bool LA) ∧ Below W.heap.size W w')
    (hB : ∀ W, Calls Tryd.prog 9 #[nmV L P m j Q] W fun e w' => e = .returned (.bool LB) ∧ Below W.heap.size W w') :
    Calls Tryd.prog 7 #[nmV K O n i T, nmV L P m j Q] w fun e w' => e = .returned (.bool true) ∧ Below w.heap.size w w' := by
  have HK := Lib.hid hK
  have HA := Lib.hid hA
  have HB := Lib.hid hB
  have HX := Lib.hid (b2_new w (nmC K O n i T) (nmC L P m j Q))
  clear hK hA hB
  cases LA
  all_goals
    go_enter Tryd.func7, Tryd.ntmps7
    (first
      | (have hl2 : LB = true := by simpa using hl
         subst hl2)
      | skip)
    go_wp2_with (first
      | (go_at_call 8; refine (HK.out _ HX.out.bel).mono ?_; rintro e V1 ⟨rfl, hb⟩; replace HX := Lib.hid (HX.out.under hb); clear hb; have c0 := HX.out.1.cell 0; have c1 := HX.out.1.cell 1; have c2 := HX.out.1.cell 2; have c3 := HX.out.1.cell 3; have c4 := HX.out.1.cell 4)
      | (go_at_call 9; (with_reducible refine (HA.out _).mono ?_); rintro e V2 ⟨rfl, hb⟩; replace HX := Lib.hid (HX.out.under hb); clear hb c0 c1 c2 c3 c4; have c0 := HX.out.2.1.cell 0; have c1 := HX.out.2.1.cell 1; have c2 := HX.out.2.1.cell 2; have c3 := HX.out.2.1.cell 3; have c4 := HX.out.2.1.cell 4)
      | (go_at_call 9; (with_reducible refine (HB.out _).mono ?_); rintro e V3 ⟨rfl, hb⟩; replace HX := Lib.hid (HX.out.under hb); clear hb c0 c1 c2 c3 c4))
    go_ret
    exact ⟨rfl, HX.out.bel⟩

set_option maxHeartbeats 8000000 in
set_option maxRecDepth 100000 in
theorem apart_short (K : Int) (O : ByteArray) (n i : Int) (T : ByteArray) (L : Int) (P : ByteArray) (m j : Int) (Q : ByteArray) (w : World) (CA CB : Nat) (EA EB TA TB : ByteArray) (M : Nat) (R : Bool)
    (hR : R = (decide (K = L ∧ O = P ∧ n = m ∧ i = j ∧ T = Q) || (CA : Int) != 0 || (CB : Int) != 0))
    (hM : min (EA.size : Int) (EB.size : Int) = (M : Int)) (hMA : M ≤ EA.size) (hMB : M ≤ EB.size)
    (hne : R = false → (TA.toList == TB.toList) = false ∧ ((EA.extract 0 M).toList == (EB.extract 0 M).toList) = false)
    (hK : ∀ W, Below w.heap.size w W → Calls Tryd.prog 8 #[] W fun e w' => e = .returned (.bool true) ∧ Below W.heap.size W w')
    (hA : ∀ W, Calls Tryd.prog 9 #[nmV K O n i T] W fun e w' => e = .returned (.bool false) ∧ Below W.heap.size W w')
    (hB : ∀ W, Calls Tryd.prog 9 #[nmV L P m j Q] W fun e w' => e = .returned (.bool false) ∧ Below W.heap.size W w')
    (hCA : ∀ W, Below w.heap.size w W → Calls Tryd.prog 11 #[nmV K O n i T] W fun e w' => e = .returned (.int .i64 (CA : Int)) ∧ Below W.heap.size W w')
    (hCB : ∀ W, Below w.heap.size w W → Calls Tryd.prog 11 #[nmV L P m j Q] W fun e w' => e = .returned (.int .i64 (CB : Int)) ∧ Below W.heap.size W w')
    (hXA : ∀ W, Below w.heap.size w W → Calls Tryd.prog 24 #[nmV K O n i T] W fun e w' => e = .returned (.tuple #[.string EA, .int .i64 (CA : Int)]) ∧ Below W.heap.size W w')
    (hXB : ∀ W, Below w.heap.size w W → Calls Tryd.prog 24 #[nmV L P m j Q] W fun e w' => e = .returned (.tuple #[.string EB, .int .i64 (CB : Int)]) ∧ Below W.heap.size W w')
    (hSA : ∀ W, Below w.heap.size w W → Calls Tryd.prog 19 #[nmV K O n i T] W fun e w' => e = .returned (.string TA) ∧ Below W.heap.size W w')
    (hSB : ∀ W, Below w.heap.size w W → Calls Tryd.prog 19 #[nmV L P m j Q] W fun e w' => e = .returned (.string TB) ∧ Below W.heap.size W w') :
    Calls Tryd.prog 7 #[nmV K O n i T, nmV L P m j Q] w fun e w' => e = .returned (.bool true) ∧ Below w.heap.size w w' := by
  have HK := Lib.hid hK
  have HA := Lib.hid hA
  have HB := Lib.hid hB
  have HCA := Lib.hid hCA
  have HCB := Lib.hid hCB
  have HXA := Lib.hid hXA
  have HXB := Lib.hid hXB
  have HSA := Lib.hid hSA
  have HSB := Lib.hid hSB
  have HR := Lib.hid hR
  have HM := Lib.hid hM
  have HN := Lib.hid hne
  have HL := Lib.hid (And.intro hMA hMB)
  have HT1 := Lib.hid fun W => to_any K n i O T W
  have HT2 := Lib.hid fun W => to_any L m j P Q W
  have HX := Lib.hid (b2_new w (nmC K O n i T) (nmC L P m j Q))
  clear hK hA hB hCA hCB hXA hXB hSA hSB hR hM hne hMA hMB
  go_enter Tryd.func7, Tryd.ntmps7
  go_upto_region 3 with (first
    | (go_at_call 8; refine (HK.out _ HX.out.bel).mono ?_; rintro e V1 ⟨rfl, hb⟩; replace HX := Lib.hid (HX.out.under hb); clear hb; have c0 := HX.out.1.cell 0; have c1 := HX.out.1.cell 1; have c2 := HX.out.1.cell 2; have c3 := HX.out.1.cell 3; have c4 := HX.out.1.cell 4)
    | (go_at_call 9; (with_reducible refine (HA.out _).mono ?_); rintro e V2 ⟨rfl, hb⟩; replace HX := Lib.hid (HX.out.under hb); clear hb c0 c1 c2 c3 c4; have c0 := HX.out.2.1.cell 0; have c1 := HX.out.2.1.cell 1; have c2 := HX.out.2.1.cell 2; have c3 := HX.out.2.1.cell 3; have c4 := HX.out.2.1.cell 4)
    | (go_at_call 9; (with_reducible refine (HB.out _).mono ?_); rintro e V3 ⟨rfl, hb⟩; replace HX := Lib.hid (HX.out.under hb); clear hb c0 c1 c2 c3 c4))
  refine asg_region 3 V3 _ 2 5 23 2 (fun j => w.heap.size + j) 23 31 _ (two (nmC K O n i T) (nmC L P m j Q)) (two (nmC K O n i T) (nmC L P m j Q)) (nmC 0 ⟨#[]⟩ 0 0 ⟨#[]⟩) rfl rfl (by omega) (by omega) (by simp) (by kernel_rfl) (below2 rfl rfl) (below2 HX.out.1 HX.out.2.1) Tryd.underlying23 rfl (below2 infoN infoN) (below2 infoName infoName) (below2 (nm_one _ _ _ _ _) (nm_one _ _ _ _ _)) (below2 rfl rfl) (below2 ⟨_, rfl, rfl, rfl, rfl⟩ ⟨_, rfl, rfl, rfl, rfl⟩) (below2 ⟨_, rfl, rfl, by kernel_rfl, fun a V K he h => ?_⟩ ⟨_, rfl, rfl, by kernel_rfl, fun a V K he h => ?_⟩) (below2 ⟨_, rfl, rfl, fun a V K h => ?_⟩ ⟨_, rfl, rfl, fun a V K h => ?_⟩) (below2 ⟨_, rfl, rfl, rfl, rfl, by kernel_rfl, by kernel_rfl⟩ ⟨_, rfl, rfl, rfl, rfl, by kernel_rfl, by kernel_rfl⟩) ?_
  · go_simp
    rw [getD_eval he]
    refine (HT1.out _).mono ?_
    rintro e V' ⟨rfl, hb⟩
    exact h V' hb
  · go_simp
    rw [getD_eval he]
    refine (HT2.out _).mono ?_
    rintro e V' ⟨rfl, hb⟩
    exact h V' hb
  · go_simp
    exact h
  · go_simp
    exact h
  · intro σ V hb h1 h2 h3 h4
    obtain ⟨g, q1, q2, q3⟩ := h3 0 (by omega)
    obtain ⟨f, r1, r2, r3⟩ := h3 1 (by omega)
    have HD : Hid (D2 w g f (nmC K O n i T) (nmC L P m j Q) V) := Lib.hid (d2_of HX.out hb q3 r3)
    have e5 : σ 5 = .pointer (some ⟨g, 0, none⟩) := q1
    have e6 : σ 6 = .pointer (some ⟨f, 0, none⟩) := r1
    have e23 : σ 23 = nmV K O n i T := h1 0 (by omega)
    have e24 : σ 24 = nmV K O n i T := h2 0 (by omega)
    have e25 : σ 25 = nmV L P m j Q := h1 1 (by omega)
    have e26 : σ 26 = nmV L P m j Q := h2 1 (by omega)
    simp only [asgL, List.range', List.cons_append, List.nil_append, puts, e5, e6, e23, e24, e25, e26, Act.put, List.setIfInBounds_toArray, List.set_cons_zero, List.set_cons_succ]
    clear e5 e6 e23 e24 e25 e26 h1 h2 h3 h4 q1 q2 q3 r1 r2 r3 HX hb
    go_upto_region 4 with fail
    go_cut [39] (fun s wx => s = .bool R ∧ D2 w g f (nmC K O n i T) (nmC L P m j Q) wx)
    case first =>
      have hRo := HR.out
      obtain ⟨x, hx⟩ : ∃ x, x = ((CA : Int) != 0) := ⟨_, rfl⟩
      obtain ⟨y, hy⟩ : ∃ y, y = ((CB : Int) != 0) := ⟨_, rfl⟩
      rw [← hx, ← hy] at hRo
      have HRo := Lib.hid hRo
      clear hRo HR
      have c0 := HD.out.1.cell 0; have c1 := HD.out.1.cell 1; have c2 := HD.out.1.cell 2; have c3 := HD.out.1.cell 3; have c4 := HD.out.1.cell 4
      have d0 := HD.out.2.1.cell 0; have d1 := HD.out.2.1.cell 1; have d2 := HD.out.2.1.cell 2; have d3 := HD.out.2.1.cell 3; have d4 := HD.out.2.1.cell 4
      cases x <;> cases y
      all_goals
        have hx' := hx.symm
        have hy' := hy.symm
        clear hx hy
        go_wp2_with (first
          | (go_at_call 11; (try subst_vars); (with_reducible refine (HCA.out _ HD.out.bel).mono ?_); rintro e W1 ⟨rfl, hb⟩; replace HD := Lib.hid (HD.out.under hb); clear hb c0 c1 c2 c3 c4 d0 d1 d2 d3 d4; have d0 := HD.out.2.1.cell 0; have d1 := HD.out.2.1.cell 1; have d2 := HD.out.2.1.cell 2; have d3 := HD.out.2.1.cell 3; have d4 := HD.out.2.1.cell 4)
          | (go_at_call 11; (try subst_vars); (with_reducible refine (HCB.out _ HD.out.bel).mono ?_); rintro e W2 ⟨rfl, hb⟩; replace HD := Lib.hid (HD.out.under hb); clear hb d0 d1 d2 d3 d4))
      all_goals (try subst_vars)
      all_goals
        go_meet
        case rel =>
          refine ⟨?_, HD.out⟩
          try rw [HRo.out]
          first
            | (simp only [Bool.or_true, Bool.true_or]; done)
            | (rw [r_no (by rintro ⟨h1, h2, h3, h4, h5⟩; contradiction)]; rfl)
            | (rw [r_yes ⟨by first | rfl | assumption, by first | rfl | assumption, by first | rfl | assumption, by first | rfl | assumption, by first | rfl | assumption⟩]; rfl)
            | (refine congrArg Value.bool ?_
               symm
               rw [Bool.or_false, Bool.or_false]
               refine decide_eq_false ?_
               rintro ⟨h1, h2, h3, h4, h5⟩
               subst_vars
               contradiction)
    case rest =>
      obtain ⟨hs, hD⟩ := hcut
      subst hs
      clear HD
      have HD := Lib.hid hD
      clear hD
      have hR2 := HR.out
      have HRo := Lib.hid hR2
      clear hR2
      cases R
      · have hbb := HRo.out
        clear HRo HR
        have hb2 := HN.out rfl
        have hca : CA = 0 := by
          rcases Nat.eq_zero_or_pos CA with h | h
          · exact h
          · rw [show ((CA : Int) != 0) = true by rw [bne_iff_ne]; omega] at hbb; simp at hbb
        have hcb : CB = 0 := by
          rcases Nat.eq_zero_or_pos CB with h | h
          · exact h
          · rw [show ((CB : Int) != 0) = true by rw [bne_iff_ne]; omega] at hbb; simp at hbb
        subst hca hcb
        clear hbb HCA HCB HN
        have HB2 := Lib.hid hb2
        clear hb2
        have c0 := HD.out.1.cell 0; have c1 := HD.out.1.cell 1; have c2 := HD.out.1.cell 2; have c3 := HD.out.1.cell 3; have c4 := HD.out.1.cell 4
        go_upto_region 8 with (first
          | (go_at_call 24; (with_reducible refine (HXA.out _ HD.out.bel).mono ?_); rintro e W1 ⟨rfl, hb⟩; replace HD := Lib.hid (HD.out.under hb); clear hb c0 c1 c2 c3 c4; have d0 := HD.out.2.1.cell 0; have d1 := HD.out.2.1.cell 1; have d2 := HD.out.2.1.cell 2; have d3 := HD.out.2.1.cell 3; have d4 := HD.out.2.1.cell 4)
          | (go_at_call 24; (with_reducible refine (HXB.out _ HD.out.bel).mono ?_); rintro e W2 ⟨rfl, hb⟩; replace HD := Lib.hid (HD.out.under hb); clear hb d0 d1 d2 d3 d4))
        have hM := HM.out
        go_upto_region 9 with fail
        clear hM HM
        obtain ⟨q1, q2⟩ := HB2.out
        clear HB2
        have l1 : (M : Int) ≤ (EA.size : Int) := by have := HL.out.1; omega
        have l2 : (M : Int) ≤ (EB.size : Int) := by have := HL.out.2; omega
        have l3 : ¬ (EA.size : Int) < (M : Int) := by omega
        have l4 : ¬ (EB.size : Int) < (M : Int) := by omega
        have hV := HD.out
        clear HD
        have f0 : ∀ W, D2 w g f (nmC K O n i T) (nmC L P m j Q) W → W.cell? ⟨g, 0, none⟩ = some (.int .i64 K) := fun W h => h.1.cell 0
        have f1 : ∀ W, D2 w g f (nmC K O n i T) (nmC L P m j Q) W → W.cell? ⟨g, 1, none⟩ = some (.string O) := fun W h => h.1.cell 1
        have f2 : ∀ W, D2 w g f (nmC K O n i T) (nmC L P m j Q) W → W.cell? ⟨g, 2, none⟩ = some (.int .i64 n) := fun W h => h.1.cell 2
        have f3 : ∀ W, D2 w g f (nmC K O n i T) (nmC L P m j Q) W → W.cell? ⟨g, 3, none⟩ = some (.int .i64 i) := fun W h => h.1.cell 3
        have f4 : ∀ W, D2 w g f (nmC K O n i T) (nmC L P m j Q) W → W.cell? ⟨g, 4, none⟩ = some (.string T) := fun W h => h.1.cell 4
        have k0 : ∀ W, D2 w g f (nmC K O n i T) (nmC L P m j Q) W → W.cell? ⟨f, 0, none⟩ = some (.int .i64 L) := fun W h => h.2.1.cell 0
        have k1 : ∀ W, D2 w g f (nmC K O n i T) (nmC L P m j Q) W → W.cell? ⟨f, 1, none⟩ = some (.string P) := fun W h => h.2.1.cell 1
        have k2 : ∀ W, D2 w g f (nmC K O n i T) (nmC L P m j Q) W → W.cell? ⟨f, 2, none⟩ = some (.int .i64 m) := fun W h => h.2.1.cell 2
        have k3 : ∀ W, D2 w g f (nmC K O n i T) (nmC L P m j Q) W → W.cell? ⟨f, 3, none⟩ = some (.int .i64 j) := fun W h => h.2.1.cell 3
        have k4 : ∀ W, D2 w g f (nmC K O n i T) (nmC L P m j Q) W → W.cell? ⟨f, 4, none⟩ = some (.string Q) := fun W h => h.2.1.cell 4
        go_region_held3 (D2 w g f (nmC K O n i T) (nmC L P m j Q)) (first | assumption | exact D2.drew (by assumption)) ((first
          | (go_at_call 19; (with_reducible refine (HSA.out _ (D2.bel (by assumption))).mono ?_); rintro e W3 ⟨rfl, hb⟩; have hS1 := D2.under (by assumption) hb; clear hb)
          | (go_at_call 19; (with_reducible refine (HSB.out _ (D2.bel (by assumption))).mono ?_); rintro e W4 ⟨rfl, hb⟩; have hS2 := D2.under (by assumption) hb; clear hb)))
        all_goals
          go_wp2
          go_ret
          exact ⟨rfl, D2.bel (by assumption)⟩
      · go_wp2
        go_ret
        exact ⟨rfl, HD.out.bel⟩
end Go.Proofs.YtiihngpofonnbaaDoor
