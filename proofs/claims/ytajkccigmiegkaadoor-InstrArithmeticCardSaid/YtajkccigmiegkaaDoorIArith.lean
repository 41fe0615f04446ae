/- instr: the law InstrArithmetic, walked. -/
import Derived.Test.YtajkccigmiegkaaDoorIKnown
set_option linter.unusedVariables false
namespace Go.Proofs.YtajkccigmiegkaaDoor
open Go.RowKit

theorem calc_to (op : Int) (x y z : UInt32) (E : Int) (hz : calZ op x y = z) (hE : calcE op y = E) : Hid (∀ W, Calls Tryd.prog 35 #[.int .i64 op, wv x, wv y] W fun e w' => e = .returned (.tuple #[wv z, .int .i64 E]) ∧ Below W.heap.size W w') :=
  Lib.hid fun W => by rw [← hz, ← hE]; exact calculate_any op x y W
set_option maxHeartbeats 2000000 in
set_option maxRecDepth 100000 in
theorem instrArithmetic_walk (x y : UInt32) (w : World) (hE : Env w) :
    Calls Tryd.prog 10 #[wv x, wv y] w fun e w' => e = .returned (.bool true) ∧ Below w.heap.size w w' := by
  have HK := Lib.hid (known_any w hE)
  obtain ⟨s, hs⟩ : ∃ s, wadd x y = s := ⟨_, rfl⟩
  obtain ⟨b, hb⟩ : ∃ b, wxor x y = b := ⟨_, rfl⟩
  have C1 := calc_to 4 x y s 0 hs rfl
  have C2 := calc_to 5 s y x 0 (by rw [← hs]; exact sub_add x y) rfl
  have C3 := calc_to 11 x y b 0 hb rfl
  have C4 := calc_to 11 b y x 0 (by rw [← hb]; exact xor_xor x y) rfl
  obtain ⟨p, hp⟩ : ∃ p, sg x = p := ⟨_, rfl⟩
  obtain ⟨q, hq⟩ : ∃ q, sg y = q := ⟨_, rfl⟩
  have HSx : Hid (∀ W, Calls Tryd.prog 37 #[wv x] W fun e w' => e = .returned (.int .i64 p) ∧ W = w') := Lib.hid fun W => by rw [← hp]; exact (signed_any x W).mono fun _ _ h => ⟨h.1, h.2.symm⟩
  have HSy : Hid (∀ W, Calls Tryd.prog 37 #[wv y] W fun e w' => e = .returned (.int .i64 q) ∧ W = w') := Lib.hid fun W => by rw [← hq]; exact (signed_any y W).mono fun _ _ h => ⟨h.1, h.2.symm⟩
  have HUx : Hid (∀ W, Calls Tryd.prog 38 #[.int .i64 p] W fun e w' => e = .returned (wv x) ∧ W = w') := Lib.hid fun W => by
    have := unsigned_any p W
    rw [← hp, us_sg] at this
    rw [← hp]
    exact this.mono fun _ _ h => ⟨h.1, h.2.symm⟩
  obtain ⟨t, ht⟩ : ∃ t, decide (p < q) = t := ⟨_, rfl⟩
  have C5 := calc_to 14 x y (if t then 1 else 0) 0 (by rw [← ht, ← hp, ← hq]; simp [calZ]) rfl
  have HB := Lib.hid (Below.refl w.heap.size w)
  by_cases hy : (y.toNat : Int) = 0
  · have C6 := calc_to 7 x y 0 38 (by simp [calZ, hy]) (by simp [calcE, hy])
    have C7 := calc_to 8 x y 0 38 (by simp [calZ, hy]) (by simp [calcE, hy])
    have hy0 : ((y.toNat : Int) == 0) = true := by simp [hy]
    clear hs hb hp hq hy hE
    cases t
    all_goals
      simp only [Bool.false_eq_true, if_false, if_true] at C5
      go_enter Tryd.func10, Tryd.ntmps10
      go_wp2_with (first
        | (go_at_call 13; refine HK.out.mono ?_; rintro e V ⟨rfl, hb⟩; replace HB := Lib.hid hb; clear hb)
        | (go_at_call 35; (with_reducible refine (C1.out _).mono ?_); rintro e V1 ⟨rfl, hb⟩; replace HB := Lib.hid (HB.out.trans (hb.mono HB.out.size)); clear hb)
        | (go_at_call 35; (with_reducible refine (C2.out _).mono ?_); rintro e V1 ⟨rfl, hb⟩; replace HB := Lib.hid (HB.out.trans (hb.mono HB.out.size)); clear hb)
        | (go_at_call 35; (with_reducible refine (C3.out _).mono ?_); rintro e V1 ⟨rfl, hb⟩; replace HB := Lib.hid (HB.out.trans (hb.mono HB.out.size)); clear hb)
        | (go_at_call 35; (with_reducible refine (C4.out _).mono ?_); rintro e V1 ⟨rfl, hb⟩; replace HB := Lib.hid (HB.out.trans (hb.mono HB.out.size)); clear hb)
        | (go_at_call 35; (with_reducible refine (C5.out _).mono ?_); rintro e V1 ⟨rfl, hb⟩; replace HB := Lib.hid (HB.out.trans (hb.mono HB.out.size)); clear hb)
        | (go_at_call 35; (with_reducible refine (C6.out _).mono ?_); rintro e V1 ⟨rfl, hb⟩; replace HB := Lib.hid (HB.out.trans (hb.mono HB.out.size)); clear hb)
        | (go_at_call 35; (with_reducible refine (C7.out _).mono ?_); rintro e V1 ⟨rfl, hb⟩; replace HB := Lib.hid (HB.out.trans (hb.mono HB.out.size)); clear hb)
        | (go_at_call 37; (with_reducible refine (HSx.out _).mono ?_); rintro e w' ⟨rfl, rfl⟩)
        | (go_at_call 37; (with_reducible refine (HSy.out _).mono ?_); rintro e w' ⟨rfl, rfl⟩)
        | (go_at_call 38; (with_reducible refine (HUx.out _).mono ?_); rintro e w' ⟨rfl, rfl⟩))
      go_ret
      exact ⟨rfl, HB.out⟩
  · have hy1 : ¬ y.toNat = 0 := by omega
    obtain ⟨d, hd⟩ : ∃ d, us ((sg x).tdiv (sg y)) = d := ⟨_, rfl⟩
    obtain ⟨r, hr⟩ : ∃ r, us ((sg x).tmod (sg y)) = r := ⟨_, rfl⟩
    obtain ⟨m, hm⟩ : ∃ m, wmul d y = m := ⟨_, rfl⟩
    have C6 := calc_to 7 x y d 0 (by rw [← hd]; simp [calZ, hy1]) (by simp [calcE, hy1])
    have C7 := calc_to 8 x y r 0 (by rw [← hr]; simp [calZ, hy1]) (by simp [calcE, hy1])
    have C8 := calc_to 6 d y m 0 hm rfl
    have C9 := calc_to 4 m r x 0 (by rw [← hm, ← hd, ← hr]; exact div_mod x y) rfl
    have hy0 : ((y.toNat : Int) == 0) = false := by simp [hy1]
    clear hs hb hp hq hy hE hd hr hm hy1
    cases t
    all_goals
      simp only [Bool.false_eq_true, if_false, if_true] at C5
      go_enter Tryd.func10, Tryd.ntmps10
      go_wp2_with (first
        | (go_at_call 13; refine HK.out.mono ?_; rintro e V ⟨rfl, hb⟩; replace HB := Lib.hid hb; clear hb)
        | (go_at_call 35; (with_reducible refine (C1.out _).mono ?_); rintro e V1 ⟨rfl, hb⟩; replace HB := Lib.hid (HB.out.trans (hb.mono HB.out.size)); clear hb)
        | (go_at_call 35; (with_reducible refine (C2.out _).mono ?_); rintro e V1 ⟨rfl, hb⟩; replace HB := Lib.hid (HB.out.trans (hb.mono HB.out.size)); clear hb)
        | (go_at_call 35; (with_reducible refine (C3.out _).mono ?_); rintro e V1 ⟨rfl, hb⟩; replace HB := Lib.hid (HB.out.trans (hb.mono HB.out.size)); clear hb)
        | (go_at_call 35; (with_reducible refine (C4.out _).mono ?_); rintro e V1 ⟨rfl, hb⟩; replace HB := Lib.hid (HB.out.trans (hb.mono HB.out.size)); clear hb)
        | (go_at_call 35; (with_reducible refine (C5.out _).mono ?_); rintro e V1 ⟨rfl, hb⟩; replace HB := Lib.hid (HB.out.trans (hb.mono HB.out.size)); clear hb)
        | (go_at_call 35; (with_reducible refine (C6.out _).mono ?_); rintro e V1 ⟨rfl, hb⟩; replace HB := Lib.hid (HB.out.trans (hb.mono HB.out.size)); clear hb)
        | (go_at_call 35; (with_reducible refine (C7.out _).mono ?_); rintro e V1 ⟨rfl, hb⟩; replace HB := Lib.hid (HB.out.trans (hb.mono HB.out.size)); clear hb)
        | (go_at_call 35; (with_reducible refine (C8.out _).mono ?_); rintro e V1 ⟨rfl, hb⟩; replace HB := Lib.hid (HB.out.trans (hb.mono HB.out.size)); clear hb)
        | (go_at_call 35; (with_reducible refine (C9.out _).mono ?_); rintro e V1 ⟨rfl, hb⟩; replace HB := Lib.hid (HB.out.trans (hb.mono HB.out.size)); clear hb)
        | (go_at_call 37; (with_reducible refine (HSx.out _).mono ?_); rintro e w' ⟨rfl, rfl⟩)
        | (go_at_call 37; (with_reducible refine (HSy.out _).mono ?_); rintro e w' ⟨rfl, rfl⟩)
        | (go_at_call 38; (with_reducible refine (HUx.out _).mono ?_); rintro e w' ⟨rfl, rfl⟩))
      go_ret
      exact ⟨rfl, HB.out⟩
end Go.Proofs.YtajkccigmiegkaaDoor
