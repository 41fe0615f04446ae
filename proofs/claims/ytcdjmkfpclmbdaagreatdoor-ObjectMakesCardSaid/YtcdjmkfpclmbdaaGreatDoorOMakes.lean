/- object: the walk of the law ObjectMakes. -/
import Derived.Test.YtcdjmkfpclmbdaaGreatDoorOMakesA
import Derived.Test.YtcdjmkfpclmbdaaGreatDoorOKnown
set_option linter.unusedVariables false
namespace Go.Proofs.YtcdjmkfpclmbdaaGreatDoor
open Go.RowKit

theorem infoBirth : (Tryz.prog.info? 34).map (·.size) = some 2 := by kernel_rfl
theorem two_new (w : World) (c1 c2 : Array Value) (t1 t2 : TypeId) : Blk ((w.alloc (.cells c1 t1)).alloc (.cells c2 t2)) (w.heap.size + 1) t2 c2 ∧ Below w.heap.size w ((w.alloc (.cells c1 t1)).alloc (.cells c2 t2)) := by
  have e : (w.alloc (Obj.cells c1 t1)).heap.size = w.heap.size + 1 := by simp
  have h := Blk.new (w.alloc (.cells c1 t1)) t2 c2
  rw [e] at h
  exact ⟨h, ((Below.refl _ w).alloc (Nat.le_refl _) _).alloc (by simp) _⟩
def bornI (K : Int) : Bool := decide (7 ≤ K) && decide (K ≤ 12)
def bO (K : Int) (O : ByteArray) : ByteArray := if bornI K then O else ⟨#[]⟩
def bN (K n : Int) : Int := if bornI K then n else 0
set_option maxRecDepth 100000 in
theorem nbirth_any (K n i : Int) (O T : ByteArray) (w : World) : Calls Tryz.prog 15 #[nmV K O n i T] w fun e w' => e = .returned (.tuple #[.agg #[.string (bO K O), .int .i64 (bN K n)], .bool (bornI K)]) ∧ Below w.heap.size w w' := by
  by_cases h1 : K < 7
  · have e : bornI K = false := by unfold bornI; rw [Bool.and_eq_false_iff, decide_eq_false_iff_not, decide_eq_false_iff_not]; omega
    unfold bO bN
    rw [e]
    clear e
    show Calls Tryz.prog 15 #[nmV K O n i T] w fun e w' => e = .returned (.tuple #[.agg #[.string ⟨#[]⟩, .int .i64 0], .bool false]) ∧ Below w.heap.size w w'
    go_enter Tryz.func15, Tryz.ntmps15
    go_wp2
    exact bodyPost_ret (results_row2 rfl _ _ (w.heap.size + 1) [.string ⟨#[]⟩, .int .i64 0] _ rfl (two_new w (nmC K O n i T) #[.string ⟨#[]⟩, .int .i64 0] _ _).1.range Tryz.underlying34 rfl infoBirth) rfl ⟨rfl, (two_new w _ _ _ _).2⟩
  · by_cases h2 : 12 < K
    · have e : bornI K = false := by unfold bornI; rw [Bool.and_eq_false_iff, decide_eq_false_iff_not, decide_eq_false_iff_not]; omega
      unfold bO bN
      rw [e]
      clear e
      show Calls Tryz.prog 15 #[nmV K O n i T] w fun e w' => e = .returned (.tuple #[.agg #[.string ⟨#[]⟩, .int .i64 0], .bool false]) ∧ Below w.heap.size w w'
      go_enter Tryz.func15, Tryz.ntmps15
      go_wp2
      exact bodyPost_ret (results_row2 rfl _ _ (w.heap.size + 1) [.string ⟨#[]⟩, .int .i64 0] _ rfl (two_new w (nmC K O n i T) #[.string ⟨#[]⟩, .int .i64 0] _ _).1.range Tryz.underlying34 rfl infoBirth) rfl ⟨rfl, (two_new w _ _ _ _).2⟩
    · have e : bornI K = true := by unfold bornI; rw [Bool.and_eq_true, decide_eq_true_eq, decide_eq_true_eq]; omega
      unfold bO bN
      rw [e]
      clear e
      show Calls Tryz.prog 15 #[nmV K O n i T] w fun e w' => e = .returned (.tuple #[.agg #[.string O, .int .i64 n], .bool true]) ∧ Below w.heap.size w w'
      go_enter Tryz.func15, Tryz.ntmps15
      go_wp2
      exact bodyPost_ret (results_row2 rfl _ _ (w.heap.size + 1) [.string O, .int .i64 n] _ rfl (two_new w (nmC K O n i T) #[.string O, .int .i64 n] _ _).1.range Tryz.underlying34 rfl infoBirth) rfl ⟨rfl, (two_new w _ _ _ _).2⟩

def wiB (K : Int) (O X : ByteArray) : Bool := ownI K && withinB O.data.toList X.data.toList
theorem own_out {K : Int} (h : K < 1 ∨ 20 < K) : ownI K = false := by
  unfold ownI; simp; omega
def BN (w : World) (cs : Array Value) (V : World) : Prop := Blk V w.heap.size 28 cs ∧ Below w.heap.size w V
theorem bn_new (w : World) (cs : Array Value) : BN w cs (w.alloc (.cells cs 28)) := ⟨Blk.new _ _ _, below_alloc0 _ _ (Nat.le_refl _)⟩
theorem BN.under {w : World} {cs : Array Value} {V V' : World} (h : BN w cs V) (hb : Below V.heap.size V V') : BN w cs V' := ⟨h.1.under hb, h.2.trans (hb.mono h.2.size)⟩

set_option maxHeartbeats 1000000 in
set_option maxRecDepth 100000 in
theorem owithin_any (K n i : Int) (O T X : ByteArray) (w : World) (hE : Env w) (hO : O.size ≤ 1000000) (hX : X.size ≤ 1000000) :
    Calls Tryz.prog 17 #[nmV K O n i T, .string X] w fun e w' => e = .returned (.bool (wiB K O X)) ∧ Below w.heap.size w w' := by
  by_cases h1 : K < 1
  · have e : wiB K O X = false := by unfold wiB; rw [own_out (.inl h1)]; rfl
    have h1' : ¬ (1 : Int) ≤ K := by omega
    rw [e]
    clear e hE hO hX h1
    go_enter Tryz.func17, Tryz.ntmps17
    go_wp2
    go_ret
    exact ⟨rfl, (Below.refl _ _).alloc (Nat.le_refl _) _⟩
  · have h1' : (1 : Int) ≤ K := by omega
    by_cases h2 : 20 < K
    · have e : wiB K O X = false := by unfold wiB; rw [own_out (.inr h2)]; rfl
      have h2' : ¬ K ≤ 20 := by omega
      rw [e]
      clear e hE hO hX h1
      go_enter Tryz.func17, Tryz.ntmps17
      go_wp2
      go_ret
      exact ⟨rfl, (Below.refl _ _).alloc (Nat.le_refl _) _⟩
    · have h2' : K ≤ 20 := by omega
      obtain ⟨k, rfl⟩ := Int.eq_ofNat_of_zero_le (show 0 ≤ K by omega)
      have h21 : (k : Int) < 21 := by omega
      have hw : wiB k O X = (ownN k && withinB O.data.toList X.data.toList) := by unfold wiB; rw [ownI_nat k (by omega)]
      rw [hw]
      clear hw
      have HW := Lib.hid fun W => within_any O X W hO hX
      obtain ⟨bw, hbw⟩ : ∃ b, b = withinB O.data.toList X.data.toList := ⟨_, rfl⟩
      rw [← hbw] at HW ⊢
      clear hbw
      have HB := Lib.hid (bn_new w (nmC k O n i T))
      have HE := Lib.hid hE
      clear hE
      go_enter Tryz.func17, Tryz.ntmps17
      go_upto_region 1 with fail
      refine cwp_gen (BN w (nmC k O n i T)) HB.out ?_
      intro V hV
      replace HB := Lib.hid hV
      have cK := (HE.out.below hV.2).kinds k (by omega) 1 (.bool (ownN k)) rfl
      have c0 := hV.1.cell 0; have c1 := hV.1.cell 1
      clear hV
      cases hbo : ownN k
      · rw [hbo] at cK
        go_wp2
        go_ret
        exact ⟨by first | rfl | (rw [hbo]; rfl), HB.out.2⟩
      · rw [hbo] at cK
        go_wp2_with (go_at_call 47; refine (HW.out _).mono ?_; rintro e V1 ⟨rfl, hb⟩; replace HB := Lib.hid (HB.out.under hb); clear hb c0 c1 cK)
        go_ret
        exact ⟨by rw [hbo]; simp, HB.out.2⟩

set_option maxHeartbeats 1000000 in
set_option maxRecDepth 100000 in
theorem refNWithin_any (K n i : Int) (O T X : ByteArray) (w : World) (hO : O.size ≤ 1000000) (hX : X.size ≤ 1000000) :
    Calls Tryz.prog 18 #[nmV K O n i T, .string X] w fun e w' => e = .returned (.bool (wiB K O X)) ∧ Below w.heap.size w w' := by
  have HW := Lib.hid fun W => refWithin_any O X W hO hX
  have HO := Lib.hid fun W => owned_any K W
  have HB := Lib.hid (bx_new w (nmC K O n i T))
  unfold wiB
  obtain ⟨bw, hbw⟩ : ∃ b, b = withinB O.data.toList X.data.toList := ⟨_, rfl⟩
  obtain ⟨bo, hbo⟩ : ∃ b, b = ownI K := ⟨_, rfl⟩
  rw [← hbw] at HW ⊢
  rw [← hbo] at HO ⊢
  clear hbw hbo hO hX
  go_enter Tryz.func18, Tryz.ntmps18
  have c0 := HB.out.1.cell 0; have c1 := HB.out.1.cell 1
  cases bo
  · go_wp2_with (go_at_call 10; refine (HO.out _).mono ?_; rintro e w' ⟨rfl, rfl⟩)
    go_ret
    exact ⟨rfl, HB.out.bel⟩
  · go_wp2_with (first
      | (go_at_call 10; refine (HO.out _).mono ?_; rintro e w' ⟨rfl, rfl⟩)
      | (go_at_call 48; refine (HW.out _).mono ?_; rintro e V1 ⟨rfl, hb⟩; replace HB := Lib.hid (HB.out.under hb); clear hb c0 c1))
    go_ret
    exact ⟨by simp, HB.out.bel⟩
end Go.Proofs.YtcdjmkfpclmbdaaGreatDoor
