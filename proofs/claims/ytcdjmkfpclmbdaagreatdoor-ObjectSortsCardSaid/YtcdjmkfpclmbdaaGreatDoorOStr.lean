/- object: the walk of String. -/
import Derived.Test.YtcdjmkfpclmbdaaGreatDoorOChk
import Derived.Deep.RegionHeld3
set_option linter.unusedVariables false
namespace Go.Proofs.YtcdjmkfpclmbdaaGreatDoor
open Go.RowKit

abbrev sv (l : List UInt8) : ByteArray := ⟨l.toArray⟩
theorem sv_list (l : List UInt8) : (sv l).data.toList = l := rfl
theorem sv_size (l : List UInt8) : (sv l).size = l.length := by show l.toArray.size = _; simp
theorem sv_app (a b : List UInt8) : sv a ++ sv b = sv (a ++ b) := by apply ByteArray.ext; apply Array.ext'; simp
theorem sv_back (S : ByteArray) : sv S.data.toList = S := by apply ByteArray.ext; apply Array.ext'; simp
set_option maxRecDepth 100000 in
theorem ownerText_any (O : ByteArray) (w : World) : Calls Tryz.prog 70 #[.string O] w fun e w' => e = .returned (.string (sv (ownerT O.data.toList))) ∧ w = w' := by
  by_cases h : O.data.toList = []
  · have h2 : O = ⟨#[]⟩ := by rw [← sv_back O, h]
    subst h2
    clear h
    go_enter Tryz.func70, Tryz.ntmps70
    go_wp2
    go_ret
    exact ⟨rfl, rfl⟩
  · have h1 : O.toList.isEmpty = false := by rw [toList_data]; simpa using h
    have h3 : ¬ O.toList = [] := by rw [toList_data]; exact h
    have HR : Hid (sv (ownerT O.data.toList) = O) := Lib.hid (by unfold ownerT; rw [if_neg h, sv_back])
    clear h
    go_enter Tryz.func70, Tryz.ntmps70
    go_wp2
    go_ret
    exact ⟨by rw [HR.out]; rfl, rfl⟩
set_option maxRecDepth 100000 in
theorem numberMark_any (b1 b2 b3 b4 : Bool) (m : Int) (U : ByteArray) (w : World) :
    Calls Tryz.prog 71 #[.agg #[.string U, .bool b1, .bool b2, .bool b3, .bool b4, .int .i64 m]] w fun e w' => e = .returned (.string (sv [if b1 then 35 else 32])) ∧ Below w.heap.size w w' := by
  cases b1
  all_goals
    go_enter Tryz.func71, Tryz.ntmps71
    go_wp2
    go_ret
    exact ⟨rfl, (Below.refl _ _).alloc (Nat.le_refl _) _⟩

/-- A name in a block of the callee's own, and a kind in a later one. -/
def SK (w : World) (G : Nat) (cs us : Array Value) (V : World) : Prop := Blk V w.heap.size 28 cs ∧ Blk V G 69 us ∧ Below w.heap.size w V
theorem SK.under {w : World} {G : Nat} {cs us : Array Value} {V V' : World} (h : SK w G cs us V) (hb : Below V.heap.size V V') : SK w G cs us V' :=
  ⟨h.1.under hb, h.2.1.under hb, h.2.2.trans (hb.mono h.2.2.size)⟩
theorem sk_new {w V : World} {cs us : Array Value} (h1 : Blk V w.heap.size 28 cs) (hb : Below w.heap.size w V) : SK w V.heap.size cs us (V.alloc (.cells us 69)) :=
  ⟨h1.alloc _, Blk.new _ _ _, hb.alloc hb.size _⟩
theorem SK.drew {w : World} {G : Nat} {cs us : Array Value} {V : World} (h : SK w G cs us V) : SK w G cs us V.drew := ⟨h.1.drew, h.2.1.drew, h.2.2.drew⟩

theorem SK.below {w : World} {G : Nat} {cs us : Array Value} {V : World} (h : SK w G cs us V) : Below w.heap.size w V := h.2.2
def catB (b : Bool) (l m : List UInt8) : List UInt8 := if b then l ++ m else l
set_option maxHeartbeats 4000000 in
set_option maxRecDepth 100000 in
theorem string_gen (k n i m : Nat) (b1 b2 b3 b4 : Bool) (O T : ByteArray) (u : List UInt8) (w : World) (hP : Pow w) (hu : ∀ W, Below w.heap.size w W → W.rangeAt 0 (k * 6) (usL (sv u) b1 b2 b3 b4 m))
    (hC : ∀ W, Below w.heap.size w W → Calls Tryz.prog 54 #[nmV k O n i T] W fun e w' => e = .returned (.int .i64 0) ∧ Below W.heap.size W w')
    (hul : u.length ≤ 100) (hO : O.size ≤ 1000000) (hT : T.size ≤ 1000000) (hn : n ≤ 4294967295) (hi : i ≤ 4294967295) (h20 : k ≤ 20) (R : List UInt8)
    (hR : R = catB b4 (catB b3 (catB b2 (catB b1 u (32 :: ownerT O.data.toList)) ((if b1 then 35 else 32) :: dec n)) (32 :: dec i)) (32 :: T.data.toList)) :
    Calls Tryz.prog 27 #[nmV k O n i T] w fun e w' => e = .returned (.string (sv R)) ∧ Below w.heap.size w w' := by
  have g3 : (k : Int) < 21 := by omega
  have HU := Lib.hid hu
  have HCK := Lib.hid hC
  have HPW := Lib.hid (fun W (hb : Below w.heap.size w W) => hP.below hb hP.lt)
  obtain ⟨OT, hOT⟩ : ∃ OT, OT = ownerT O.data.toList := ⟨_, rfl⟩
  have hOTl : OT.length ≤ 1000001 := by
    rw [hOT]; unfold ownerT
    split
    · simp
    · have : O.data.toList.length = O.size := by simp
      omega
  have HOT : Hid (∀ W, Calls Tryz.prog 70 #[.string O] W fun e w' => e = .returned (.string (sv OT)) ∧ W = w') := Lib.hid fun W => by rw [hOT]; exact ownerText_any O W
  obtain ⟨mk, hmk⟩ : ∃ mk : UInt8, mk = if b1 then 35 else 32 := ⟨_, rfl⟩
  have HMK : Hid (∀ W, Calls Tryz.prog 71 #[.agg (usC (sv u) b1 b2 b3 b4 m)] W fun e w' => e = .returned (.string (sv [mk])) ∧ Below W.heap.size W w') := Lib.hid fun W => by rw [hmk]; exact numberMark_any b1 b2 b3 b4 m (sv u) W
  obtain ⟨D, hD⟩ : ∃ D, D = dec n := ⟨_, rfl⟩
  obtain ⟨I, hI⟩ : ∃ I, I = dec i := ⟨_, rfl⟩
  have hDl : D.length ≤ 30 := by rw [hD]; exact dec_len32 hn
  have hIl : I.length ≤ 30 := by rw [hI]; exact dec_len32 hi
  have HIT : Hid (∀ W, Below w.heap.size w W → Calls Tryz.prog 72 #[.int .i64 (n : Int)] W fun e w' => e = .returned (.string (sv D)) ∧ Below W.heap.size W w') := Lib.hid fun W hb => by rw [hD]; exact itoa_any n W (by omega) (HPW.out W hb)
  have HII : Hid (∀ W, Below w.heap.size w W → Calls Tryz.prog 72 #[.int .i64 (i : Int)] W fun e w' => e = .returned (.string (sv I)) ∧ Below W.heap.size W w') := Lib.hid fun W hb => by rw [hI]; exact itoa_any i W (by omega) (HPW.out W hb)
  rw [← hOT, ← hmk, ← hD, ← hI] at hR
  have hTl : T.data.toList.length = T.size := by simp
  obtain ⟨t, ht⟩ : ∃ t, t = T.data.toList := ⟨_, rfl⟩
  have hTs : T = sv t := by rw [ht, sv_back]
  rw [← ht] at hR hTl
  subst hTs
  obtain ⟨p1, hp1⟩ : ∃ x, x = 32 :: OT := ⟨_, rfl⟩
  obtain ⟨r1, hr1⟩ : ∃ x, x = catB b1 u p1 := ⟨_, rfl⟩
  obtain ⟨p2, hp2⟩ : ∃ x, x = mk :: D := ⟨_, rfl⟩
  obtain ⟨r2, hr2⟩ : ∃ x, x = catB b2 r1 p2 := ⟨_, rfl⟩
  obtain ⟨p3, hp3⟩ : ∃ x, x = 32 :: I := ⟨_, rfl⟩
  obtain ⟨r3, hr3⟩ : ∃ x, x = catB b3 r2 p3 := ⟨_, rfl⟩
  obtain ⟨p4, hp4⟩ : ∃ x, x = 32 :: t := ⟨_, rfl⟩
  obtain ⟨r4, hr4⟩ : ∃ x, x = catB b4 r3 p4 := ⟨_, rfl⟩
  have hRr : R = r4 := by rw [hr4, hr3, hr2, hr1, hp1, hp2, hp3, hp4]; exact hR
  have cl : ∀ (b : Bool) (x y : List UInt8), (catB b x y).length ≤ x.length + y.length := fun b x y => by unfold catB; split <;> simp
  have l1 : r1.length ≤ 1000200 := by rw [hr1]; have := cl b1 u p1; rw [hp1] at this ⊢; simp at this ⊢; omega
  have l2 : r2.length ≤ 1000300 := by rw [hr2]; have := cl b2 r1 p2; rw [hp2] at this ⊢; simp at this ⊢; omega
  have l3 : r3.length ≤ 1000400 := by rw [hr3]; have := cl b3 r2 p3; rw [hp3] at this ⊢; simp at this ⊢; omega
  have q1 : (⟨#[32]⟩ : ByteArray) ++ sv OT = sv p1 := by rw [hp1]; exact sv_app [32] OT
  have q2 : sv [mk] ++ sv D = sv p2 := by rw [hp2]; exact sv_app [mk] D
  have q3 : (⟨#[32]⟩ : ByteArray) ++ sv I = sv p3 := by rw [hp3]; exact sv_app [32] I
  have q4 : (⟨#[32]⟩ : ByteArray) ++ sv t = sv p4 := by rw [hp4]; exact sv_app [32] t
  have a1 : b1 = true → sv u ++ sv p1 = sv r1 := fun e => by rw [hr1, sv_app, catB, if_pos e]
  have a2 : b2 = true → sv r1 ++ sv p2 = sv r2 := fun e => by rw [hr2, sv_app, catB, if_pos e]
  have a3 : b3 = true → sv r2 ++ sv p3 = sv r3 := fun e => by rw [hr3, sv_app, catB, if_pos e]
  have a4 : b4 = true → sv r3 ++ sv p4 = sv r4 := fun e => by rw [hr4, sv_app, catB, if_pos e]
  have z1 : ¬ 9223372036854775807 < 1 + (sv OT).size := by rw [sv_size]; omega
  have z2 : ¬ 9223372036854775807 < (sv [mk]).size + (sv D).size := by rw [sv_size, sv_size]; simp; omega
  have z3 : ¬ 9223372036854775807 < 1 + (sv I).size := by rw [sv_size]; omega
  have z4 : ¬ 9223372036854775807 < 1 + (sv t).size := by rw [sv_size]; omega
  have y1 : ¬ 9223372036854775807 < (sv u).size + (sv p1).size := by rw [sv_size, sv_size, hp1]; simp; omega
  have y2 : ¬ 9223372036854775807 < (sv r1).size + (sv p2).size := by rw [sv_size, sv_size, hp2]; simp; omega
  have y3 : ¬ 9223372036854775807 < (sv r2).size + (sv p3).size := by rw [sv_size, sv_size, hp3]; simp; omega
  have y4 : ¬ 9223372036854775807 < (sv r3).size + (sv p4).size := by rw [sv_size, sv_size, hp4]; simp; omega
  have c1 : b1 = false → sv u = sv r1 := fun e => by rw [hr1, e]; rfl
  have c2 : b2 = false → sv r1 = sv r2 := fun e => by rw [hr2, e]; rfl
  have c3 : b3 = false → sv r2 = sv r3 := fun e => by rw [hr3, e]; rfl
  have c4 : b4 = false → sv r3 = sv r4 := fun e => by rw [hr4, e]; rfl
  rw [hRr]
  clear hR hRr hOT hmk hD hI ht hP hu hC hp1 hp2 hp3 hp4 hr1 hr2 hr3 hr4 cl l1 l2 l3 hDl hIl hTl hOTl hul hn hi
  generalize sv OT = SO at HOT q1 z1
  generalize sv [mk] = MK at HMK q2 z2
  generalize sv D = SD at HIT q2 z2
  generalize sv I = SI at HII q3 z3
  generalize sv t = ST at HCK q4 z4 ⊢
  generalize sv p1 = P1 at q1 a1 y1
  generalize sv p2 = P2 at q2 a2 y2
  generalize sv p3 = P3 at q3 a3 y3
  generalize sv p4 = P4 at q4 a4 y4
  generalize sv r1 = R1 at a1 a2 y2 c1 c2
  generalize sv r2 = R2 at a2 a3 y3 c2 c3
  generalize sv r3 = R3 at a3 a4 y4 c3 c4
  generalize sv r4 = R4 at a4 c4 ⊢
  generalize sv u = U at HU HMK a1 y1 c1
  have HB := Lib.hid (Below.refl w.heap.size w)
  cases b1 <;> cases b2 <;> cases b3 <;> cases b4
  all_goals
    first | (have c1 := c1 rfl; subst c1; clear a1 y1) | (have a1 := a1 rfl; clear c1)
    first | (have c2 := c2 rfl; subst c2; clear a2 y2) | (have a2 := a2 rfl; clear c2)
    first | (have c3 := c3 rfl; subst c3; clear a3 y3) | (have a3 := a3 rfl; clear c3)
    first | (have c4 := c4 rfl; subst c4; clear a4 y4) | (have a4 := a4 rfl; clear c4)
  case false.false.false.false =>
    go_enter Tryz.func27, Tryz.ntmps27
    go_wp2_with (first
      | (go_at_call 54; refine (HCK.out _ (below_alloc0 _ _ (Nat.le_refl _))).mono ?_; rintro e V1 ⟨rfl, hb⟩; have HV1 := Lib.hid ((Blk.new w 28 (nmC k O n i ST)).under hb); have HB1 := Lib.hid ((below_alloc0 w (.cells (nmC k O n i ST) 28) (Nat.le_refl _)).trans (hb.mono (by simp))); clear hb; have c0 := HV1.out.cell 0)
      | (show wpList _ _ _ (⟨some 11, _, _, _, _, _⟩ :: _) _ _; refine wpList_load_mid (by rfl) 69 (.tmp 10) (by rfl) 0 (k * 6) (by rfl) (usL U _ _ _ _ m) _ (HU.out _ HB1.out) Tryz.underlying69 rfl infoUse ?_)
      | (show wpList _ _ _ (⟨some 12, _, _, _, _, _⟩ :: _) _ _; refine wpl_gen (SK w V1.heap.size (nmC k O n i ST) (usC U _ _ _ _ m)) (sk_new HV1.out HB1.out) ?_; intro V hV; clear c0; generalize V1.heap.size = G at hV ⊢; have c1 := hV.1.cell 1; have c2 := hV.1.cell 2; have c3 := hV.1.cell 3; have c4 := hV.1.cell 4; have d0 := hV.2.1.cell 0; have d1 := hV.2.1.cell 1; have d2 := hV.2.1.cell 2; have d3 := hV.2.1.cell 3; have d4 := hV.2.1.cell 4; have d5 := hV.2.1.cell 5; have HV := Lib.hid hV; clear hV)
      | (go_at_call 70; refine (HOT.out _).mono ?_; rintro e w' ⟨rfl, rfl⟩)
      | (go_at_call 72; refine (HII.out _ HV.out.2.2).mono ?_; rintro e V2 ⟨rfl, hb⟩; replace HV := Lib.hid (HV.out.under hb); clear hb c1 c2 c3 c4 d0 d1 d2 d3 d4 d5; have c4 := HV.out.1.cell 4; have d4 := HV.out.2.1.cell 4))
    go_ret
    exact ⟨rfl, HV.out.2.2⟩
  case false.false.false.true =>
    go_enter Tryz.func27, Tryz.ntmps27
    go_wp2_with (first
      | (go_at_call 54; refine (HCK.out _ (below_alloc0 _ _ (Nat.le_refl _))).mono ?_; rintro e V1 ⟨rfl, hb⟩; have HV1 := Lib.hid ((Blk.new w 28 (nmC k O n i ST)).under hb); have HB1 := Lib.hid ((below_alloc0 w (.cells (nmC k O n i ST) 28) (Nat.le_refl _)).trans (hb.mono (by simp))); clear hb; have c0 := HV1.out.cell 0)
      | (show wpList _ _ _ (⟨some 11, _, _, _, _, _⟩ :: _) _ _; refine wpList_load_mid (by rfl) 69 (.tmp 10) (by rfl) 0 (k * 6) (by rfl) (usL U _ _ _ _ m) _ (HU.out _ HB1.out) Tryz.underlying69 rfl infoUse ?_)
      | (show wpList _ _ _ (⟨some 12, _, _, _, _, _⟩ :: _) _ _; refine wpl_gen (SK w V1.heap.size (nmC k O n i ST) (usC U _ _ _ _ m)) (sk_new HV1.out HB1.out) ?_; intro V hV; clear c0; generalize V1.heap.size = G at hV ⊢; have c1 := hV.1.cell 1; have c2 := hV.1.cell 2; have c3 := hV.1.cell 3; have c4 := hV.1.cell 4; have d0 := hV.2.1.cell 0; have d1 := hV.2.1.cell 1; have d2 := hV.2.1.cell 2; have d3 := hV.2.1.cell 3; have d4 := hV.2.1.cell 4; have d5 := hV.2.1.cell 5; have HV := Lib.hid hV; clear hV)
      | (go_at_call 70; refine (HOT.out _).mono ?_; rintro e w' ⟨rfl, rfl⟩)
      | (go_at_call 72; refine (HII.out _ HV.out.2.2).mono ?_; rintro e V2 ⟨rfl, hb⟩; replace HV := Lib.hid (HV.out.under hb); clear hb c1 c2 c3 c4 d0 d1 d2 d3 d4 d5; have c4 := HV.out.1.cell 4; have d4 := HV.out.2.1.cell 4))
    go_ret
    exact ⟨rfl, HV.out.2.2⟩
  case false.false.true.false =>
    go_enter Tryz.func27, Tryz.ntmps27
    go_wp2_with (first
      | (go_at_call 54; refine (HCK.out _ (below_alloc0 _ _ (Nat.le_refl _))).mono ?_; rintro e V1 ⟨rfl, hb⟩; have HV1 := Lib.hid ((Blk.new w 28 (nmC k O n i ST)).under hb); have HB1 := Lib.hid ((below_alloc0 w (.cells (nmC k O n i ST) 28) (Nat.le_refl _)).trans (hb.mono (by simp))); clear hb; have c0 := HV1.out.cell 0)
      | (show wpList _ _ _ (⟨some 11, _, _, _, _, _⟩ :: _) _ _; refine wpList_load_mid (by rfl) 69 (.tmp 10) (by rfl) 0 (k * 6) (by rfl) (usL U _ _ _ _ m) _ (HU.out _ HB1.out) Tryz.underlying69 rfl infoUse ?_)
      | (show wpList _ _ _ (⟨some 12, _, _, _, _, _⟩ :: _) _ _; refine wpl_gen (SK w V1.heap.size (nmC k O n i ST) (usC U _ _ _ _ m)) (sk_new HV1.out HB1.out) ?_; intro V hV; clear c0; generalize V1.heap.size = G at hV ⊢; have c1 := hV.1.cell 1; have c2 := hV.1.cell 2; have c3 := hV.1.cell 3; have c4 := hV.1.cell 4; have d0 := hV.2.1.cell 0; have d1 := hV.2.1.cell 1; have d2 := hV.2.1.cell 2; have d3 := hV.2.1.cell 3; have d4 := hV.2.1.cell 4; have d5 := hV.2.1.cell 5; have HV := Lib.hid hV; clear hV)
      | (go_at_call 70; refine (HOT.out _).mono ?_; rintro e w' ⟨rfl, rfl⟩)
      | (go_at_call 72; refine (HII.out _ HV.out.2.2).mono ?_; rintro e V2 ⟨rfl, hb⟩; replace HV := Lib.hid (HV.out.under hb); clear hb c1 c2 c3 c4 d0 d1 d2 d3 d4 d5; have c4 := HV.out.1.cell 4; have d4 := HV.out.2.1.cell 4))
    go_ret
    exact ⟨rfl, HV.out.2.2⟩
  case false.false.true.true =>
    go_enter Tryz.func27, Tryz.ntmps27
    go_wp2_with (first
      | (go_at_call 54; refine (HCK.out _ (below_alloc0 _ _ (Nat.le_refl _))).mono ?_; rintro e V1 ⟨rfl, hb⟩; have HV1 := Lib.hid ((Blk.new w 28 (nmC k O n i ST)).under hb); have HB1 := Lib.hid ((below_alloc0 w (.cells (nmC k O n i ST) 28) (Nat.le_refl _)).trans (hb.mono (by simp))); clear hb; have c0 := HV1.out.cell 0)
      | (show wpList _ _ _ (⟨some 11, _, _, _, _, _⟩ :: _) _ _; refine wpList_load_mid (by rfl) 69 (.tmp 10) (by rfl) 0 (k * 6) (by rfl) (usL U _ _ _ _ m) _ (HU.out _ HB1.out) Tryz.underlying69 rfl infoUse ?_)
      | (show wpList _ _ _ (⟨some 12, _, _, _, _, _⟩ :: _) _ _; refine wpl_gen (SK w V1.heap.size (nmC k O n i ST) (usC U _ _ _ _ m)) (sk_new HV1.out HB1.out) ?_; intro V hV; clear c0; generalize V1.heap.size = G at hV ⊢; have c1 := hV.1.cell 1; have c2 := hV.1.cell 2; have c3 := hV.1.cell 3; have c4 := hV.1.cell 4; have d0 := hV.2.1.cell 0; have d1 := hV.2.1.cell 1; have d2 := hV.2.1.cell 2; have d3 := hV.2.1.cell 3; have d4 := hV.2.1.cell 4; have d5 := hV.2.1.cell 5; have HV := Lib.hid hV; clear hV)
      | (go_at_call 70; refine (HOT.out _).mono ?_; rintro e w' ⟨rfl, rfl⟩)
      | (go_at_call 72; refine (HII.out _ HV.out.2.2).mono ?_; rintro e V2 ⟨rfl, hb⟩; replace HV := Lib.hid (HV.out.under hb); clear hb c1 c2 c3 c4 d0 d1 d2 d3 d4 d5; have c4 := HV.out.1.cell 4; have d4 := HV.out.2.1.cell 4))
    go_ret
    exact ⟨rfl, HV.out.2.2⟩
  case false.true.false.false =>
    go_enter Tryz.func27, Tryz.ntmps27
    go_wp2_with (first
      | (go_at_call 54; refine (HCK.out _ (below_alloc0 _ _ (Nat.le_refl _))).mono ?_; rintro e V1 ⟨rfl, hb⟩; have HV1 := Lib.hid ((Blk.new w 28 (nmC k O n i ST)).under hb); have HB1 := Lib.hid ((below_alloc0 w (.cells (nmC k O n i ST) 28) (Nat.le_refl _)).trans (hb.mono (by simp))); clear hb; have c0 := HV1.out.cell 0)
      | (show wpList _ _ _ (⟨some 11, _, _, _, _, _⟩ :: _) _ _; refine wpList_load_mid (by rfl) 69 (.tmp 10) (by rfl) 0 (k * 6) (by rfl) (usL U _ _ _ _ m) _ (HU.out _ HB1.out) Tryz.underlying69 rfl infoUse ?_)
      | (show wpList _ _ _ (⟨some 12, _, _, _, _, _⟩ :: _) _ _; refine wpl_gen (SK w V1.heap.size (nmC k O n i ST) (usC U _ _ _ _ m)) (sk_new HV1.out HB1.out) ?_; intro V hV; clear c0; generalize V1.heap.size = G at hV ⊢; have c1 := hV.1.cell 1; have c2 := hV.1.cell 2; have c3 := hV.1.cell 3; have c4 := hV.1.cell 4; have d0 := hV.2.1.cell 0; have d1 := hV.2.1.cell 1; have d2 := hV.2.1.cell 2; have d3 := hV.2.1.cell 3; have d4 := hV.2.1.cell 4; have d5 := hV.2.1.cell 5; have HV := Lib.hid hV; clear hV)
      | (go_at_call 70; refine (HOT.out _).mono ?_; rintro e w' ⟨rfl, rfl⟩))
    have hV := HV.out
    clear c1 c2 c3 c4 d0 d1 d2 d3 d4 d5
    have e2 : ∀ W, SK w G (nmC k O n i ST) (usC U false true false false m) W → W.cell? ⟨w.heap.size, 2, none⟩ = some (.int .i64 (n : Int)) := fun W h => h.1.cell 2
    have f0 : ∀ W, SK w G (nmC k O n i ST) (usC U false true false false m) W → W.cell? ⟨G, 0, none⟩ = some (.string U) := fun W h => h.2.1.cell 0
    have f1 : ∀ W, SK w G (nmC k O n i ST) (usC U false true false false m) W → W.cell? ⟨G, 1, none⟩ = some (.bool false) := fun W h => h.2.1.cell 1
    have f2 : ∀ W, SK w G (nmC k O n i ST) (usC U false true false false m) W → W.cell? ⟨G, 2, none⟩ = some (.bool true) := fun W h => h.2.1.cell 2
    have f3 : ∀ W, SK w G (nmC k O n i ST) (usC U false true false false m) W → W.cell? ⟨G, 3, none⟩ = some (.bool false) := fun W h => h.2.1.cell 3
    have f4 : ∀ W, SK w G (nmC k O n i ST) (usC U false true false false m) W → W.cell? ⟨G, 4, none⟩ = some (.bool false) := fun W h => h.2.1.cell 4
    have f5 : ∀ W, SK w G (nmC k O n i ST) (usC U false true false false m) W → W.cell? ⟨G, 5, none⟩ = some (.int .i64 (m : Int)) := fun W h => h.2.1.cell 5
    go_region_held3 (SK w G (nmC k O n i ST) (usC U false true false false m)) (first | assumption | exact SK.drew (by assumption)) ((first | (go_at_call 71; refine (HMK.out _).mono ?_; rintro e W1 ⟨rfl, hb⟩; have hS1 := SK.under (by assumption) hb; clear hb) | (go_at_call 72; refine (HIT.out _ (SK.below (by assumption))).mono ?_; rintro e W2 ⟨rfl, hb⟩; have hS2 := SK.under (by assumption) hb; clear hb)))
    all_goals
      have hV3 : SK w G (nmC k O n i ST) (usC U false true false false m) W2 := by assumption
      clear e2 f0 f1 f2 f3 f4 f5
      have c3 := hV3.1.cell 3
      have c4 := hV3.1.cell 4
      have d3 := hV3.2.1.cell 3
      have d4 := hV3.2.1.cell 4
      replace HV := Lib.hid hV3
      clear hV3
      go_wp2_with (first
        | (go_at_call 72; refine (HII.out _ HV.out.2.2).mono ?_; rintro e V2 ⟨rfl, hb⟩; replace HV := Lib.hid (HV.out.under hb); clear hb c3 c4 d3 d4; have c4 := HV.out.1.cell 4; have d4 := HV.out.2.1.cell 4))
      go_ret
      exact ⟨rfl, HV.out.2.2⟩
  case false.true.false.true =>
    go_enter Tryz.func27, Tryz.ntmps27
    go_wp2_with (first
      | (go_at_call 54; refine (HCK.out _ (below_alloc0 _ _ (Nat.le_refl _))).mono ?_; rintro e V1 ⟨rfl, hb⟩; have HV1 := Lib.hid ((Blk.new w 28 (nmC k O n i ST)).under hb); have HB1 := Lib.hid ((below_alloc0 w (.cells (nmC k O n i ST) 28) (Nat.le_refl _)).trans (hb.mono (by simp))); clear hb; have c0 := HV1.out.cell 0)
      | (show wpList _ _ _ (⟨some 11, _, _, _, _, _⟩ :: _) _ _; refine wpList_load_mid (by rfl) 69 (.tmp 10) (by rfl) 0 (k * 6) (by rfl) (usL U _ _ _ _ m) _ (HU.out _ HB1.out) Tryz.underlying69 rfl infoUse ?_)
      | (show wpList _ _ _ (⟨some 12, _, _, _, _, _⟩ :: _) _ _; refine wpl_gen (SK w V1.heap.size (nmC k O n i ST) (usC U _ _ _ _ m)) (sk_new HV1.out HB1.out) ?_; intro V hV; clear c0; generalize V1.heap.size = G at hV ⊢; have c1 := hV.1.cell 1; have c2 := hV.1.cell 2; have c3 := hV.1.cell 3; have c4 := hV.1.cell 4; have d0 := hV.2.1.cell 0; have d1 := hV.2.1.cell 1; have d2 := hV.2.1.cell 2; have d3 := hV.2.1.cell 3; have d4 := hV.2.1.cell 4; have d5 := hV.2.1.cell 5; have HV := Lib.hid hV; clear hV)
      | (go_at_call 70; refine (HOT.out _).mono ?_; rintro e w' ⟨rfl, rfl⟩))
    have hV := HV.out
    clear c1 c2 c3 c4 d0 d1 d2 d3 d4 d5
    have e2 : ∀ W, SK w G (nmC k O n i ST) (usC U false true false true m) W → W.cell? ⟨w.heap.size, 2, none⟩ = some (.int .i64 (n : Int)) := fun W h => h.1.cell 2
    have f0 : ∀ W, SK w G (nmC k O n i ST) (usC U false true false true m) W → W.cell? ⟨G, 0, none⟩ = some (.string U) := fun W h => h.2.1.cell 0
    have f1 : ∀ W, SK w G (nmC k O n i ST) (usC U false true false true m) W → W.cell? ⟨G, 1, none⟩ = some (.bool false) := fun W h => h.2.1.cell 1
    have f2 : ∀ W, SK w G (nmC k O n i ST) (usC U false true false true m) W → W.cell? ⟨G, 2, none⟩ = some (.bool true) := fun W h => h.2.1.cell 2
    have f3 : ∀ W, SK w G (nmC k O n i ST) (usC U false true false true m) W → W.cell? ⟨G, 3, none⟩ = some (.bool false) := fun W h => h.2.1.cell 3
    have f4 : ∀ W, SK w G (nmC k O n i ST) (usC U false true false true m) W → W.cell? ⟨G, 4, none⟩ = some (.bool true) := fun W h => h.2.1.cell 4
    have f5 : ∀ W, SK w G (nmC k O n i ST) (usC U false true false true m) W → W.cell? ⟨G, 5, none⟩ = some (.int .i64 (m : Int)) := fun W h => h.2.1.cell 5
    go_region_held3 (SK w G (nmC k O n i ST) (usC U false true false true m)) (first | assumption | exact SK.drew (by assumption)) ((first | (go_at_call 71; refine (HMK.out _).mono ?_; rintro e W1 ⟨rfl, hb⟩; have hS1 := SK.under (by assumption) hb; clear hb) | (go_at_call 72; refine (HIT.out _ (SK.below (by assumption))).mono ?_; rintro e W2 ⟨rfl, hb⟩; have hS2 := SK.under (by assumption) hb; clear hb)))
    all_goals
      have hV3 : SK w G (nmC k O n i ST) (usC U false true false true m) W2 := by assumption
      clear e2 f0 f1 f2 f3 f4 f5
      have c3 := hV3.1.cell 3
      have c4 := hV3.1.cell 4
      have d3 := hV3.2.1.cell 3
      have d4 := hV3.2.1.cell 4
      replace HV := Lib.hid hV3
      clear hV3
      go_wp2_with (first
        | (go_at_call 72; refine (HII.out _ HV.out.2.2).mono ?_; rintro e V2 ⟨rfl, hb⟩; replace HV := Lib.hid (HV.out.under hb); clear hb c3 c4 d3 d4; have c4 := HV.out.1.cell 4; have d4 := HV.out.2.1.cell 4))
      go_ret
      exact ⟨rfl, HV.out.2.2⟩
  case false.true.true.false =>
    go_enter Tryz.func27, Tryz.ntmps27
    go_wp2_with (first
      | (go_at_call 54; refine (HCK.out _ (below_alloc0 _ _ (Nat.le_refl _))).mono ?_; rintro e V1 ⟨rfl, hb⟩; have HV1 := Lib.hid ((Blk.new w 28 (nmC k O n i ST)).under hb); have HB1 := Lib.hid ((below_alloc0 w (.cells (nmC k O n i ST) 28) (Nat.le_refl _)).trans (hb.mono (by simp))); clear hb; have c0 := HV1.out.cell 0)
      | (show wpList _ _ _ (⟨some 11, _, _, _, _, _⟩ :: _) _ _; refine wpList_load_mid (by rfl) 69 (.tmp 10) (by rfl) 0 (k * 6) (by rfl) (usL U _ _ _ _ m) _ (HU.out _ HB1.out) Tryz.underlying69 rfl infoUse ?_)
      | (show wpList _ _ _ (⟨some 12, _, _, _, _, _⟩ :: _) _ _; refine wpl_gen (SK w V1.heap.size (nmC k O n i ST) (usC U _ _ _ _ m)) (sk_new HV1.out HB1.out) ?_; intro V hV; clear c0; generalize V1.heap.size = G at hV ⊢; have c1 := hV.1.cell 1; have c2 := hV.1.cell 2; have c3 := hV.1.cell 3; have c4 := hV.1.cell 4; have d0 := hV.2.1.cell 0; have d1 := hV.2.1.cell 1; have d2 := hV.2.1.cell 2; have d3 := hV.2.1.cell 3; have d4 := hV.2.1.cell 4; have d5 := hV.2.1.cell 5; have HV := Lib.hid hV; clear hV)
      | (go_at_call 70; refine (HOT.out _).mono ?_; rintro e w' ⟨rfl, rfl⟩))
    have hV := HV.out
    clear c1 c2 c3 c4 d0 d1 d2 d3 d4 d5
    have e2 : ∀ W, SK w G (nmC k O n i ST) (usC U false true true false m) W → W.cell? ⟨w.heap.size, 2, none⟩ = some (.int .i64 (n : Int)) := fun W h => h.1.cell 2
    have f0 : ∀ W, SK w G (nmC k O n i ST) (usC U false true true false m) W → W.cell? ⟨G, 0, none⟩ = some (.string U) := fun W h => h.2.1.cell 0
    have f1 : ∀ W, SK w G (nmC k O n i ST) (usC U false true true false m) W → W.cell? ⟨G, 1, none⟩ = some (.bool false) := fun W h => h.2.1.cell 1
    have f2 : ∀ W, SK w G (nmC k O n i ST) (usC U false true true false m) W → W.cell? ⟨G, 2, none⟩ = some (.bool true) := fun W h => h.2.1.cell 2
    have f3 : ∀ W, SK w G (nmC k O n i ST) (usC U false true true false m) W → W.cell? ⟨G, 3, none⟩ = some (.bool true) := fun W h => h.2.1.cell 3
    have f4 : ∀ W, SK w G (nmC k O n i ST) (usC U false true true false m) W → W.cell? ⟨G, 4, none⟩ = some (.bool false) := fun W h => h.2.1.cell 4
    have f5 : ∀ W, SK w G (nmC k O n i ST) (usC U false true true false m) W → W.cell? ⟨G, 5, none⟩ = some (.int .i64 (m : Int)) := fun W h => h.2.1.cell 5
    go_region_held3 (SK w G (nmC k O n i ST) (usC U false true true false m)) (first | assumption | exact SK.drew (by assumption)) ((first | (go_at_call 71; refine (HMK.out _).mono ?_; rintro e W1 ⟨rfl, hb⟩; have hS1 := SK.under (by assumption) hb; clear hb) | (go_at_call 72; refine (HIT.out _ (SK.below (by assumption))).mono ?_; rintro e W2 ⟨rfl, hb⟩; have hS2 := SK.under (by assumption) hb; clear hb)))
    all_goals
      have hV3 : SK w G (nmC k O n i ST) (usC U false true true false m) W2 := by assumption
      clear e2 f0 f1 f2 f3 f4 f5
      have c3 := hV3.1.cell 3
      have c4 := hV3.1.cell 4
      have d3 := hV3.2.1.cell 3
      have d4 := hV3.2.1.cell 4
      replace HV := Lib.hid hV3
      clear hV3
      go_wp2_with (first
        | (go_at_call 72; refine (HII.out _ HV.out.2.2).mono ?_; rintro e V2 ⟨rfl, hb⟩; replace HV := Lib.hid (HV.out.under hb); clear hb c3 c4 d3 d4; have c4 := HV.out.1.cell 4; have d4 := HV.out.2.1.cell 4))
      go_ret
      exact ⟨rfl, HV.out.2.2⟩
  case false.true.true.true =>
    go_enter Tryz.func27, Tryz.ntmps27
    go_wp2_with (first
      | (go_at_call 54; refine (HCK.out _ (below_alloc0 _ _ (Nat.le_refl _))).mono ?_; rintro e V1 ⟨rfl, hb⟩; have HV1 := Lib.hid ((Blk.new w 28 (nmC k O n i ST)).under hb); have HB1 := Lib.hid ((below_alloc0 w (.cells (nmC k O n i ST) 28) (Nat.le_refl _)).trans (hb.mono (by simp))); clear hb; have c0 := HV1.out.cell 0)
      | (show wpList _ _ _ (⟨some 11, _, _, _, _, _⟩ :: _) _ _; refine wpList_load_mid (by rfl) 69 (.tmp 10) (by rfl) 0 (k * 6) (by rfl) (usL U _ _ _ _ m) _ (HU.out _ HB1.out) Tryz.underlying69 rfl infoUse ?_)
      | (show wpList _ _ _ (⟨some 12, _, _, _, _, _⟩ :: _) _ _; refine wpl_gen (SK w V1.heap.size (nmC k O n i ST) (usC U _ _ _ _ m)) (sk_new HV1.out HB1.out) ?_; intro V hV; clear c0; generalize V1.heap.size = G at hV ⊢; have c1 := hV.1.cell 1; have c2 := hV.1.cell 2; have c3 := hV.1.cell 3; have c4 := hV.1.cell 4; have d0 := hV.2.1.cell 0; have d1 := hV.2.1.cell 1; have d2 := hV.2.1.cell 2; have d3 := hV.2.1.cell 3; have d4 := hV.2.1.cell 4; have d5 := hV.2.1.cell 5; have HV := Lib.hid hV; clear hV)
      | (go_at_call 70; refine (HOT.out _).mono ?_; rintro e w' ⟨rfl, rfl⟩))
    have hV := HV.out
    clear c1 c2 c3 c4 d0 d1 d2 d3 d4 d5
    have e2 : ∀ W, SK w G (nmC k O n i ST) (usC U false true true true m) W → W.cell? ⟨w.heap.size, 2, none⟩ = some (.int .i64 (n : Int)) := fun W h => h.1.cell 2
    have f0 : ∀ W, SK w G (nmC k O n i ST) (usC U false true true true m) W → W.cell? ⟨G, 0, none⟩ = some (.string U) := fun W h => h.2.1.cell 0
    have f1 : ∀ W, SK w G (nmC k O n i ST) (usC U false true true true m) W → W.cell? ⟨G, 1, none⟩ = some (.bool false) := fun W h => h.2.1.cell 1
    have f2 : ∀ W, SK w G (nmC k O n i ST) (usC U false true true true m) W → W.cell? ⟨G, 2, none⟩ = some (.bool true) := fun W h => h.2.1.cell 2
    have f3 : ∀ W, SK w G (nmC k O n i ST) (usC U false true true true m) W → W.cell? ⟨G, 3, none⟩ = some (.bool true) := fun W h => h.2.1.cell 3
    have f4 : ∀ W, SK w G (nmC k O n i ST) (usC U false true true true m) W → W.cell? ⟨G, 4, none⟩ = some (.bool true) := fun W h => h.2.1.cell 4
    have f5 : ∀ W, SK w G (nmC k O n i ST) (usC U false true true true m) W → W.cell? ⟨G, 5, none⟩ = some (.int .i64 (m : Int)) := fun W h => h.2.1.cell 5
    go_region_held3 (SK w G (nmC k O n i ST) (usC U false true true true m)) (first | assumption | exact SK.drew (by assumption)) ((first | (go_at_call 71; refine (HMK.out _).mono ?_; rintro e W1 ⟨rfl, hb⟩; have hS1 := SK.under (by assumption) hb; clear hb) | (go_at_call 72; refine (HIT.out _ (SK.below (by assumption))).mono ?_; rintro e W2 ⟨rfl, hb⟩; have hS2 := SK.under (by assumption) hb; clear hb)))
    all_goals
      have hV3 : SK w G (nmC k O n i ST) (usC U false true true true m) W2 := by assumption
      clear e2 f0 f1 f2 f3 f4 f5
      have c3 := hV3.1.cell 3
      have c4 := hV3.1.cell 4
      have d3 := hV3.2.1.cell 3
      have d4 := hV3.2.1.cell 4
      replace HV := Lib.hid hV3
      clear hV3
      go_wp2_with (first
        | (go_at_call 72; refine (HII.out _ HV.out.2.2).mono ?_; rintro e V2 ⟨rfl, hb⟩; replace HV := Lib.hid (HV.out.under hb); clear hb c3 c4 d3 d4; have c4 := HV.out.1.cell 4; have d4 := HV.out.2.1.cell 4))
      go_ret
      exact ⟨rfl, HV.out.2.2⟩
  case true.false.false.false =>
    go_enter Tryz.func27, Tryz.ntmps27
    go_wp2_with (first
      | (go_at_call 54; refine (HCK.out _ (below_alloc0 _ _ (Nat.le_refl _))).mono ?_; rintro e V1 ⟨rfl, hb⟩; have HV1 := Lib.hid ((Blk.new w 28 (nmC k O n i ST)).under hb); have HB1 := Lib.hid ((below_alloc0 w (.cells (nmC k O n i ST) 28) (Nat.le_refl _)).trans (hb.mono (by simp))); clear hb; have c0 := HV1.out.cell 0)
      | (show wpList _ _ _ (⟨some 11, _, _, _, _, _⟩ :: _) _ _; refine wpList_load_mid (by rfl) 69 (.tmp 10) (by rfl) 0 (k * 6) (by rfl) (usL U _ _ _ _ m) _ (HU.out _ HB1.out) Tryz.underlying69 rfl infoUse ?_)
      | (show wpList _ _ _ (⟨some 12, _, _, _, _, _⟩ :: _) _ _; refine wpl_gen (SK w V1.heap.size (nmC k O n i ST) (usC U _ _ _ _ m)) (sk_new HV1.out HB1.out) ?_; intro V hV; clear c0; generalize V1.heap.size = G at hV ⊢; have c1 := hV.1.cell 1; have c2 := hV.1.cell 2; have c3 := hV.1.cell 3; have c4 := hV.1.cell 4; have d0 := hV.2.1.cell 0; have d1 := hV.2.1.cell 1; have d2 := hV.2.1.cell 2; have d3 := hV.2.1.cell 3; have d4 := hV.2.1.cell 4; have d5 := hV.2.1.cell 5; have HV := Lib.hid hV; clear hV)
      | (go_at_call 70; refine (HOT.out _).mono ?_; rintro e w' ⟨rfl, rfl⟩)
      | (go_at_call 72; refine (HII.out _ HV.out.2.2).mono ?_; rintro e V2 ⟨rfl, hb⟩; replace HV := Lib.hid (HV.out.under hb); clear hb c1 c2 c3 c4 d0 d1 d2 d3 d4 d5; have c4 := HV.out.1.cell 4; have d4 := HV.out.2.1.cell 4))
    go_ret
    exact ⟨rfl, HV.out.2.2⟩
  case true.false.false.true =>
    go_enter Tryz.func27, Tryz.ntmps27
    go_wp2_with (first
      | (go_at_call 54; refine (HCK.out _ (below_alloc0 _ _ (Nat.le_refl _))).mono ?_; rintro e V1 ⟨rfl, hb⟩; have HV1 := Lib.hid ((Blk.new w 28 (nmC k O n i ST)).under hb); have HB1 := Lib.hid ((below_alloc0 w (.cells (nmC k O n i ST) 28) (Nat.le_refl _)).trans (hb.mono (by simp))); clear hb; have c0 := HV1.out.cell 0)
      | (show wpList _ _ _ (⟨some 11, _, _, _, _, _⟩ :: _) _ _; refine wpList_load_mid (by rfl) 69 (.tmp 10) (by rfl) 0 (k * 6) (by rfl) (usL U _ _ _ _ m) _ (HU.out _ HB1.out) Tryz.underlying69 rfl infoUse ?_)
      | (show wpList _ _ _ (⟨some 12, _, _, _, _, _⟩ :: _) _ _; refine wpl_gen (SK w V1.heap.size (nmC k O n i ST) (usC U _ _ _ _ m)) (sk_new HV1.out HB1.out) ?_; intro V hV; clear c0; generalize V1.heap.size = G at hV ⊢; have c1 := hV.1.cell 1; have c2 := hV.1.cell 2; have c3 := hV.1.cell 3; have c4 := hV.1.cell 4; have d0 := hV.2.1.cell 0; have d1 := hV.2.1.cell 1; have d2 := hV.2.1.cell 2; have d3 := hV.2.1.cell 3; have d4 := hV.2.1.cell 4; have d5 := hV.2.1.cell 5; have HV := Lib.hid hV; clear hV)
      | (go_at_call 70; refine (HOT.out _).mono ?_; rintro e w' ⟨rfl, rfl⟩)
      | (go_at_call 72; refine (HII.out _ HV.out.2.2).mono ?_; rintro e V2 ⟨rfl, hb⟩; replace HV := Lib.hid (HV.out.under hb); clear hb c1 c2 c3 c4 d0 d1 d2 d3 d4 d5; have c4 := HV.out.1.cell 4; have d4 := HV.out.2.1.cell 4))
    go_ret
    exact ⟨rfl, HV.out.2.2⟩
  case true.false.true.false =>
    go_enter Tryz.func27, Tryz.ntmps27
    go_wp2_with (first
      | (go_at_call 54; refine (HCK.out _ (below_alloc0 _ _ (Nat.le_refl _))).mono ?_; rintro e V1 ⟨rfl, hb⟩; have HV1 := Lib.hid ((Blk.new w 28 (nmC k O n i ST)).under hb); have HB1 := Lib.hid ((below_alloc0 w (.cells (nmC k O n i ST) 28) (Nat.le_refl _)).trans (hb.mono (by simp))); clear hb; have c0 := HV1.out.cell 0)
      | (show wpList _ _ _ (⟨some 11, _, _, _, _, _⟩ :: _) _ _; refine wpList_load_mid (by rfl) 69 (.tmp 10) (by rfl) 0 (k * 6) (by rfl) (usL U _ _ _ _ m) _ (HU.out _ HB1.out) Tryz.underlying69 rfl infoUse ?_)
      | (show wpList _ _ _ (⟨some 12, _, _, _, _, _⟩ :: _) _ _; refine wpl_gen (SK w V1.heap.size (nmC k O n i ST) (usC U _ _ _ _ m)) (sk_new HV1.out HB1.out) ?_; intro V hV; clear c0; generalize V1.heap.size = G at hV ⊢; have c1 := hV.1.cell 1; have c2 := hV.1.cell 2; have c3 := hV.1.cell 3; have c4 := hV.1.cell 4; have d0 := hV.2.1.cell 0; have d1 := hV.2.1.cell 1; have d2 := hV.2.1.cell 2; have d3 := hV.2.1.cell 3; have d4 := hV.2.1.cell 4; have d5 := hV.2.1.cell 5; have HV := Lib.hid hV; clear hV)
      | (go_at_call 70; refine (HOT.out _).mono ?_; rintro e w' ⟨rfl, rfl⟩)
      | (go_at_call 72; refine (HII.out _ HV.out.2.2).mono ?_; rintro e V2 ⟨rfl, hb⟩; replace HV := Lib.hid (HV.out.under hb); clear hb c1 c2 c3 c4 d0 d1 d2 d3 d4 d5; have c4 := HV.out.1.cell 4; have d4 := HV.out.2.1.cell 4))
    go_ret
    exact ⟨rfl, HV.out.2.2⟩
  case true.false.true.true =>
    go_enter Tryz.func27, Tryz.ntmps27
    go_wp2_with (first
      | (go_at_call 54; refine (HCK.out _ (below_alloc0 _ _ (Nat.le_refl _))).mono ?_; rintro e V1 ⟨rfl, hb⟩; have HV1 := Lib.hid ((Blk.new w 28 (nmC k O n i ST)).under hb); have HB1 := Lib.hid ((below_alloc0 w (.cells (nmC k O n i ST) 28) (Nat.le_refl _)).trans (hb.mono (by simp))); clear hb; have c0 := HV1.out.cell 0)
      | (show wpList _ _ _ (⟨some 11, _, _, _, _, _⟩ :: _) _ _; refine wpList_load_mid (by rfl) 69 (.tmp 10) (by rfl) 0 (k * 6) (by rfl) (usL U _ _ _ _ m) _ (HU.out _ HB1.out) Tryz.underlying69 rfl infoUse ?_)
      | (show wpList _ _ _ (⟨some 12, _, _, _, _, _⟩ :: _) _ _; refine wpl_gen (SK w V1.heap.size (nmC k O n i ST) (usC U _ _ _ _ m)) (sk_new HV1.out HB1.out) ?_; intro V hV; clear c0; generalize V1.heap.size = G at hV ⊢; have c1 := hV.1.cell 1; have c2 := hV.1.cell 2; have c3 := hV.1.cell 3; have c4 := hV.1.cell 4; have d0 := hV.2.1.cell 0; have d1 := hV.2.1.cell 1; have d2 := hV.2.1.cell 2; have d3 := hV.2.1.cell 3; have d4 := hV.2.1.cell 4; have d5 := hV.2.1.cell 5; have HV := Lib.hid hV; clear hV)
      | (go_at_call 70; refine (HOT.out _).mono ?_; rintro e w' ⟨rfl, rfl⟩)
      | (go_at_call 72; refine (HII.out _ HV.out.2.2).mono ?_; rintro e V2 ⟨rfl, hb⟩; replace HV := Lib.hid (HV.out.under hb); clear hb c1 c2 c3 c4 d0 d1 d2 d3 d4 d5; have c4 := HV.out.1.cell 4; have d4 := HV.out.2.1.cell 4))
    go_ret
    exact ⟨rfl, HV.out.2.2⟩
  case true.true.false.false =>
    go_enter Tryz.func27, Tryz.ntmps27
    go_wp2_with (first
      | (go_at_call 54; refine (HCK.out _ (below_alloc0 _ _ (Nat.le_refl _))).mono ?_; rintro e V1 ⟨rfl, hb⟩; have HV1 := Lib.hid ((Blk.new w 28 (nmC k O n i ST)).under hb); have HB1 := Lib.hid ((below_alloc0 w (.cells (nmC k O n i ST) 28) (Nat.le_refl _)).trans (hb.mono (by simp))); clear hb; have c0 := HV1.out.cell 0)
      | (show wpList _ _ _ (⟨some 11, _, _, _, _, _⟩ :: _) _ _; refine wpList_load_mid (by rfl) 69 (.tmp 10) (by rfl) 0 (k * 6) (by rfl) (usL U _ _ _ _ m) _ (HU.out _ HB1.out) Tryz.underlying69 rfl infoUse ?_)
      | (show wpList _ _ _ (⟨some 12, _, _, _, _, _⟩ :: _) _ _; refine wpl_gen (SK w V1.heap.size (nmC k O n i ST) (usC U _ _ _ _ m)) (sk_new HV1.out HB1.out) ?_; intro V hV; clear c0; generalize V1.heap.size = G at hV ⊢; have c1 := hV.1.cell 1; have c2 := hV.1.cell 2; have c3 := hV.1.cell 3; have c4 := hV.1.cell 4; have d0 := hV.2.1.cell 0; have d1 := hV.2.1.cell 1; have d2 := hV.2.1.cell 2; have d3 := hV.2.1.cell 3; have d4 := hV.2.1.cell 4; have d5 := hV.2.1.cell 5; have HV := Lib.hid hV; clear hV)
      | (go_at_call 70; refine (HOT.out _).mono ?_; rintro e w' ⟨rfl, rfl⟩))
    have hV := HV.out
    clear c1 c2 c3 c4 d0 d1 d2 d3 d4 d5
    have e2 : ∀ W, SK w G (nmC k O n i ST) (usC U true true false false m) W → W.cell? ⟨w.heap.size, 2, none⟩ = some (.int .i64 (n : Int)) := fun W h => h.1.cell 2
    have f0 : ∀ W, SK w G (nmC k O n i ST) (usC U true true false false m) W → W.cell? ⟨G, 0, none⟩ = some (.string U) := fun W h => h.2.1.cell 0
    have f1 : ∀ W, SK w G (nmC k O n i ST) (usC U true true false false m) W → W.cell? ⟨G, 1, none⟩ = some (.bool true) := fun W h => h.2.1.cell 1
    have f2 : ∀ W, SK w G (nmC k O n i ST) (usC U true true false false m) W → W.cell? ⟨G, 2, none⟩ = some (.bool true) := fun W h => h.2.1.cell 2
    have f3 : ∀ W, SK w G (nmC k O n i ST) (usC U true true false false m) W → W.cell? ⟨G, 3, none⟩ = some (.bool false) := fun W h => h.2.1.cell 3
    have f4 : ∀ W, SK w G (nmC k O n i ST) (usC U true true false false m) W → W.cell? ⟨G, 4, none⟩ = some (.bool false) := fun W h => h.2.1.cell 4
    have f5 : ∀ W, SK w G (nmC k O n i ST) (usC U true true false false m) W → W.cell? ⟨G, 5, none⟩ = some (.int .i64 (m : Int)) := fun W h => h.2.1.cell 5
    go_region_held3 (SK w G (nmC k O n i ST) (usC U true true false false m)) (first | assumption | exact SK.drew (by assumption)) ((first | (go_at_call 71; refine (HMK.out _).mono ?_; rintro e W1 ⟨rfl, hb⟩; have hS1 := SK.under (by assumption) hb; clear hb) | (go_at_call 72; refine (HIT.out _ (SK.below (by assumption))).mono ?_; rintro e W2 ⟨rfl, hb⟩; have hS2 := SK.under (by assumption) hb; clear hb)))
    all_goals
      have hV3 : SK w G (nmC k O n i ST) (usC U true true false false m) W2 := by assumption
      clear e2 f0 f1 f2 f3 f4 f5
      have c3 := hV3.1.cell 3
      have c4 := hV3.1.cell 4
      have d3 := hV3.2.1.cell 3
      have d4 := hV3.2.1.cell 4
      replace HV := Lib.hid hV3
      clear hV3
      go_wp2_with (first
        | (go_at_call 72; refine (HII.out _ HV.out.2.2).mono ?_; rintro e V2 ⟨rfl, hb⟩; replace HV := Lib.hid (HV.out.under hb); clear hb c3 c4 d3 d4; have c4 := HV.out.1.cell 4; have d4 := HV.out.2.1.cell 4))
      go_ret
      exact ⟨rfl, HV.out.2.2⟩
  case true.true.false.true =>
    go_enter Tryz.func27, Tryz.ntmps27
    go_wp2_with (first
      | (go_at_call 54; refine (HCK.out _ (below_alloc0 _ _ (Nat.le_refl _))).mono ?_; rintro e V1 ⟨rfl, hb⟩; have HV1 := Lib.hid ((Blk.new w 28 (nmC k O n i ST)).under hb); have HB1 := Lib.hid ((below_alloc0 w (.cells (nmC k O n i ST) 28) (Nat.le_refl _)).trans (hb.mono (by simp))); clear hb; have c0 := HV1.out.cell 0)
      | (show wpList _ _ _ (⟨some 11, _, _, _, _, _⟩ :: _) _ _; refine wpList_load_mid (by rfl) 69 (.tmp 10) (by rfl) 0 (k * 6) (by rfl) (usL U _ _ _ _ m) _ (HU.out _ HB1.out) Tryz.underlying69 rfl infoUse ?_)
      | (show wpList _ _ _ (⟨some 12, _, _, _, _, _⟩ :: _) _ _; refine wpl_gen (SK w V1.heap.size (nmC k O n i ST) (usC U _ _ _ _ m)) (sk_new HV1.out HB1.out) ?_; intro V hV; clear c0; generalize V1.heap.size = G at hV ⊢; have c1 := hV.1.cell 1; have c2 := hV.1.cell 2; have c3 := hV.1.cell 3; have c4 := hV.1.cell 4; have d0 := hV.2.1.cell 0; have d1 := hV.2.1.cell 1; have d2 := hV.2.1.cell 2; have d3 := hV.2.1.cell 3; have d4 := hV.2.1.cell 4; have d5 := hV.2.1.cell 5; have HV := Lib.hid hV; clear hV)
      | (go_at_call 70; refine (HOT.out _).mono ?_; rintro e w' ⟨rfl, rfl⟩))
    have hV := HV.out
    clear c1 c2 c3 c4 d0 d1 d2 d3 d4 d5
    have e2 : ∀ W, SK w G (nmC k O n i ST) (usC U true true false true m) W → W.cell? ⟨w.heap.size, 2, none⟩ = some (.int .i64 (n : Int)) := fun W h => h.1.cell 2
    have f0 : ∀ W, SK w G (nmC k O n i ST) (usC U true true false true m) W → W.cell? ⟨G, 0, none⟩ = some (.string U) := fun W h => h.2.1.cell 0
    have f1 : ∀ W, SK w G (nmC k O n i ST) (usC U true true false true m) W → W.cell? ⟨G, 1, none⟩ = some (.bool true) := fun W h => h.2.1.cell 1
    have f2 : ∀ W, SK w G (nmC k O n i ST) (usC U true true false true m) W → W.cell? ⟨G, 2, none⟩ = some (.bool true) := fun W h => h.2.1.cell 2
    have f3 : ∀ W, SK w G (nmC k O n i ST) (usC U true true false true m) W → W.cell? ⟨G, 3, none⟩ = some (.bool false) := fun W h => h.2.1.cell 3
    have f4 : ∀ W, SK w G (nmC k O n i ST) (usC U true true false true m) W → W.cell? ⟨G, 4, none⟩ = some (.bool true) := fun W h => h.2.1.cell 4
    have f5 : ∀ W, SK w G (nmC k O n i ST) (usC U true true false true m) W → W.cell? ⟨G, 5, none⟩ = some (.int .i64 (m : Int)) := fun W h => h.2.1.cell 5
    go_region_held3 (SK w G (nmC k O n i ST) (usC U true true false true m)) (first | assumption | exact SK.drew (by assumption)) ((first | (go_at_call 71; refine (HMK.out _).mono ?_; rintro e W1 ⟨rfl, hb⟩; have hS1 := SK.under (by assumption) hb; clear hb) | (go_at_call 72; refine (HIT.out _ (SK.below (by assumption))).mono ?_; rintro e W2 ⟨rfl, hb⟩; have hS2 := SK.under (by assumption) hb; clear hb)))
    all_goals
      have hV3 : SK w G (nmC k O n i ST) (usC U true true false true m) W2 := by assumption
      clear e2 f0 f1 f2 f3 f4 f5
      have c3 := hV3.1.cell 3
      have c4 := hV3.1.cell 4
      have d3 := hV3.2.1.cell 3
      have d4 := hV3.2.1.cell 4
      replace HV := Lib.hid hV3
      clear hV3
      go_wp2_with (first
        | (go_at_call 72; refine (HII.out _ HV.out.2.2).mono ?_; rintro e V2 ⟨rfl, hb⟩; replace HV := Lib.hid (HV.out.under hb); clear hb c3 c4 d3 d4; have c4 := HV.out.1.cell 4; have d4 := HV.out.2.1.cell 4))
      go_ret
      exact ⟨rfl, HV.out.2.2⟩
  case true.true.true.false =>
    go_enter Tryz.func27, Tryz.ntmps27
    go_wp2_with (first
      | (go_at_call 54; refine (HCK.out _ (below_alloc0 _ _ (Nat.le_refl _))).mono ?_; rintro e V1 ⟨rfl, hb⟩; have HV1 := Lib.hid ((Blk.new w 28 (nmC k O n i ST)).under hb); have HB1 := Lib.hid ((below_alloc0 w (.cells (nmC k O n i ST) 28) (Nat.le_refl _)).trans (hb.mono (by simp))); clear hb; have c0 := HV1.out.cell 0)
      | (show wpList _ _ _ (⟨some 11, _, _, _, _, _⟩ :: _) _ _; refine wpList_load_mid (by rfl) 69 (.tmp 10) (by rfl) 0 (k * 6) (by rfl) (usL U _ _ _ _ m) _ (HU.out _ HB1.out) Tryz.underlying69 rfl infoUse ?_)
      | (show wpList _ _ _ (⟨some 12, _, _, _, _, _⟩ :: _) _ _; refine wpl_gen (SK w V1.heap.size (nmC k O n i ST) (usC U _ _ _ _ m)) (sk_new HV1.out HB1.out) ?_; intro V hV; clear c0; generalize V1.heap.size = G at hV ⊢; have c1 := hV.1.cell 1; have c2 := hV.1.cell 2; have c3 := hV.1.cell 3; have c4 := hV.1.cell 4; have d0 := hV.2.1.cell 0; have d1 := hV.2.1.cell 1; have d2 := hV.2.1.cell 2; have d3 := hV.2.1.cell 3; have d4 := hV.2.1.cell 4; have d5 := hV.2.1.cell 5; have HV := Lib.hid hV; clear hV)
      | (go_at_call 70; refine (HOT.out _).mono ?_; rintro e w' ⟨rfl, rfl⟩))
    have hV := HV.out
    clear c1 c2 c3 c4 d0 d1 d2 d3 d4 d5
    have e2 : ∀ W, SK w G (nmC k O n i ST) (usC U true true true false m) W → W.cell? ⟨w.heap.size, 2, none⟩ = some (.int .i64 (n : Int)) := fun W h => h.1.cell 2
    have f0 : ∀ W, SK w G (nmC k O n i ST) (usC U true true true false m) W → W.cell? ⟨G, 0, none⟩ = some (.string U) := fun W h => h.2.1.cell 0
    have f1 : ∀ W, SK w G (nmC k O n i ST) (usC U true true true false m) W → W.cell? ⟨G, 1, none⟩ = some (.bool true) := fun W h => h.2.1.cell 1
    have f2 : ∀ W, SK w G (nmC k O n i ST) (usC U true true true false m) W → W.cell? ⟨G, 2, none⟩ = some (.bool true) := fun W h => h.2.1.cell 2
    have f3 : ∀ W, SK w G (nmC k O n i ST) (usC U true true true false m) W → W.cell? ⟨G, 3, none⟩ = some (.bool true) := fun W h => h.2.1.cell 3
    have f4 : ∀ W, SK w G (nmC k O n i ST) (usC U true true true false m) W → W.cell? ⟨G, 4, none⟩ = some (.bool false) := fun W h => h.2.1.cell 4
    have f5 : ∀ W, SK w G (nmC k O n i ST) (usC U true true true false m) W → W.cell? ⟨G, 5, none⟩ = some (.int .i64 (m : Int)) := fun W h => h.2.1.cell 5
    go_region_held3 (SK w G (nmC k O n i ST) (usC U true true true false m)) (first | assumption | exact SK.drew (by assumption)) ((first | (go_at_call 71; refine (HMK.out _).mono ?_; rintro e W1 ⟨rfl, hb⟩; have hS1 := SK.under (by assumption) hb; clear hb) | (go_at_call 72; refine (HIT.out _ (SK.below (by assumption))).mono ?_; rintro e W2 ⟨rfl, hb⟩; have hS2 := SK.under (by assumption) hb; clear hb)))
    all_goals
      have hV3 : SK w G (nmC k O n i ST) (usC U true true true false m) W2 := by assumption
      clear e2 f0 f1 f2 f3 f4 f5
      have c3 := hV3.1.cell 3
      have c4 := hV3.1.cell 4
      have d3 := hV3.2.1.cell 3
      have d4 := hV3.2.1.cell 4
      replace HV := Lib.hid hV3
      clear hV3
      go_wp2_with (first
        | (go_at_call 72; refine (HII.out _ HV.out.2.2).mono ?_; rintro e V2 ⟨rfl, hb⟩; replace HV := Lib.hid (HV.out.under hb); clear hb c3 c4 d3 d4; have c4 := HV.out.1.cell 4; have d4 := HV.out.2.1.cell 4))
      go_ret
      exact ⟨rfl, HV.out.2.2⟩
  case true.true.true.true =>
    go_enter Tryz.func27, Tryz.ntmps27
    go_wp2_with (first
      | (go_at_call 54; refine (HCK.out _ (below_alloc0 _ _ (Nat.le_refl _))).mono ?_; rintro e V1 ⟨rfl, hb⟩; have HV1 := Lib.hid ((Blk.new w 28 (nmC k O n i ST)).under hb); have HB1 := Lib.hid ((below_alloc0 w (.cells (nmC k O n i ST) 28) (Nat.le_refl _)).trans (hb.mono (by simp))); clear hb; have c0 := HV1.out.cell 0)
      | (show wpList _ _ _ (⟨some 11, _, _, _, _, _⟩ :: _) _ _; refine wpList_load_mid (by rfl) 69 (.tmp 10) (by rfl) 0 (k * 6) (by rfl) (usL U _ _ _ _ m) _ (HU.out _ HB1.out) Tryz.underlying69 rfl infoUse ?_)
      | (show wpList _ _ _ (⟨some 12, _, _, _, _, _⟩ :: _) _ _; refine wpl_gen (SK w V1.heap.size (nmC k O n i ST) (usC U _ _ _ _ m)) (sk_new HV1.out HB1.out) ?_; intro V hV; clear c0; generalize V1.heap.size = G at hV ⊢; have c1 := hV.1.cell 1; have c2 := hV.1.cell 2; have c3 := hV.1.cell 3; have c4 := hV.1.cell 4; have d0 := hV.2.1.cell 0; have d1 := hV.2.1.cell 1; have d2 := hV.2.1.cell 2; have d3 := hV.2.1.cell 3; have d4 := hV.2.1.cell 4; have d5 := hV.2.1.cell 5; have HV := Lib.hid hV; clear hV)
      | (go_at_call 70; refine (HOT.out _).mono ?_; rintro e w' ⟨rfl, rfl⟩))
    have hV := HV.out
    clear c1 c2 c3 c4 d0 d1 d2 d3 d4 d5
    have e2 : ∀ W, SK w G (nmC k O n i ST) (usC U true true true true m) W → W.cell? ⟨w.heap.size, 2, none⟩ = some (.int .i64 (n : Int)) := fun W h => h.1.cell 2
    have f0 : ∀ W, SK w G (nmC k O n i ST) (usC U true true true true m) W → W.cell? ⟨G, 0, none⟩ = some (.string U) := fun W h => h.2.1.cell 0
    have f1 : ∀ W, SK w G (nmC k O n i ST) (usC U true true true true m) W → W.cell? ⟨G, 1, none⟩ = some (.bool true) := fun W h => h.2.1.cell 1
    have f2 : ∀ W, SK w G (nmC k O n i ST) (usC U true true true true m) W → W.cell? ⟨G, 2, none⟩ = some (.bool true) := fun W h => h.2.1.cell 2
    have f3 : ∀ W, SK w G (nmC k O n i ST) (usC U true true true true m) W → W.cell? ⟨G, 3, none⟩ = some (.bool true) := fun W h => h.2.1.cell 3
    have f4 : ∀ W, SK w G (nmC k O n i ST) (usC U true true true true m) W → W.cell? ⟨G, 4, none⟩ = some (.bool true) := fun W h => h.2.1.cell 4
    have f5 : ∀ W, SK w G (nmC k O n i ST) (usC U true true true true m) W → W.cell? ⟨G, 5, none⟩ = some (.int .i64 (m : Int)) := fun W h => h.2.1.cell 5
    go_region_held3 (SK w G (nmC k O n i ST) (usC U true true true true m)) (first | assumption | exact SK.drew (by assumption)) ((first | (go_at_call 71; refine (HMK.out _).mono ?_; rintro e W1 ⟨rfl, hb⟩; have hS1 := SK.under (by assumption) hb; clear hb) | (go_at_call 72; refine (HIT.out _ (SK.below (by assumption))).mono ?_; rintro e W2 ⟨rfl, hb⟩; have hS2 := SK.under (by assumption) hb; clear hb)))
    all_goals
      have hV3 : SK w G (nmC k O n i ST) (usC U true true true true m) W2 := by assumption
      clear e2 f0 f1 f2 f3 f4 f5
      have c3 := hV3.1.cell 3
      have c4 := hV3.1.cell 4
      have d3 := hV3.2.1.cell 3
      have d4 := hV3.2.1.cell 4
      replace HV := Lib.hid hV3
      clear hV3
      go_wp2_with (first
        | (go_at_call 72; refine (HII.out _ HV.out.2.2).mono ?_; rintro e V2 ⟨rfl, hb⟩; replace HV := Lib.hid (HV.out.under hb); clear hb c3 c4 d3 d4; have c4 := HV.out.1.cell 4; have d4 := HV.out.2.1.cell 4))
      go_ret
      exact ⟨rfl, HV.out.2.2⟩
end Go.Proofs.YtcdjmkfpclmbdaaGreatDoor
