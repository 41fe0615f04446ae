/- pack: newFinder. -/
import Derived.Test.YtocohoojnjdkiaaKLong
import Derived.Test.YtocohoojnjdkiaaKWr
import Derived.WalkKit
set_option linter.unusedVariables false
namespace Go.Proofs.Ytocohoojnjdkiaa
open Go.RowKit

def isI0 : Value → Bool
  | .int .i64 0 => true
  | _ => false
theorem isI0_eq {v : Value} (h : isI0 v = true) : v = .int .i64 0 := by
  unfold isI0 at h
  split at h
  · rfl
  · cases h
/-- A finder's zero value. -/
noncomputable def finZ : Array Value := match (Try.prog.info? 69).bind (·.zero) with | some (.agg cs) => cs | _ => #[]
theorem finZ_run (w : World) : (zeroValue 69).run Try.prog w = .ok (.agg finZ) w := by kernel_rfl
theorem finZ_size : finZ.size = 4098 := by kernel_rfl
theorem finZ_all : (finZ.toList.drop 2).all isI0 = true := by kernel_rfl
theorem finZ_at {i : Nat} (hi : i < 4096) : finZ[2 + i]? = some (.int .i64 0) := by
  have h := finZ_all
  have hs := finZ_size
  generalize finZ = Z at h hs
  rw [List.all_eq_true] at h
  have hlt : 2 + i < Z.size := by omega
  have hm : Z[2 + i] ∈ Z.toList.drop 2 := by
    rw [List.mem_iff_getElem]
    exact ⟨i, by simp; omega, by simp⟩
  rw [Array.getElem?_eq_getElem hlt, isI0_eq (h _ hm)]
theorem fd_new {W : World} {T : Option Addr} {c : Nat} {t : List UInt8} {Z : Array Value} (hzs : Z.size = 4098) (hza : ∀ i, i < 4096 → Z[2 + i]? = some (.int .i64 0)) (hr : RB W W.heap.size T t) (hc : t.length ≤ c) (hl : t.length ≤ 4000000) :
    FD ((W.alloc (.map #[] 0)).alloc (.cells ((Z.setIfInBounds 0 (.slice T t.length c)).setIfInBounds 1 (.map (some W.heap.size))) 69)) (W.heap.size + 1) W.heap.size T c t 0 := by
  have e1 : (W.alloc (.map #[] 0)).heap.size = W.heap.size + 1 := by simp
  have hb := Blk.new (W.alloc (.map #[] 0)) 69 ((Z.setIfInBounds 0 (.slice T t.length c)).setIfInBounds 1 (.map (some W.heap.size)))
  rw [e1] at hb
  refine ⟨fun _ => 0, fun _ => none, ⟨⟨_, hb, by simp [hzs], ?_, ?_, fun i hi => ?_⟩, (SM.new W).alloc _, ⟨W.heap.size, ?_, by omega, Nat.le_refl _⟩, hc, hl⟩, Lrn.zero _ _⟩
  · rw [Array.getElem?_setIfInBounds_ne (by omega), Array.getElem?_setIfInBounds_self_of_lt (by omega)]
  · rw [Array.getElem?_setIfInBounds_self_of_lt (by simp; omega)]
  · rw [Array.getElem?_setIfInBounds_ne (by omega), Array.getElem?_setIfInBounds_ne (by omega)]; exact hza i hi
  · exact hr.below (((Below.refl W.heap.size W).alloc (Nat.le_refl _) _).alloc (by simp) _)
set_option maxHeartbeats 4000000 in
set_option maxRecDepth 100000 in
theorem newFinder_any (w : World) (D : Option Addr) (dict : List UInt8) (dc : Nat) (A : Option Addr) (b : List UInt8) (bc : Nat) (hd : RB w w.heap.size D dict) (hb : RB w w.heap.size A b) (hdl : dict.length ≤ 4096) (hbl : b.length ≤ 1048576) :
    Calls Try.prog 30 #[.slice D dict.length dc, .slice A b.length bc] w fun e w' => ∃ g r T c, e = .returned (.pointer (some ⟨g, 0, none⟩)) ∧ FD w' g r T c (dict ++ b) (min dict.length ((dict ++ b).length - 3)) ∧ w.heap.size ≤ g ∧ w.heap.size ≤ r ∧ Below w.heap.size w w' := by
  have HD := Lib.hid hd
  have HB := Lib.hid hb
  clear hd hb
  have hmm := @run_makeMap Try.prog
  have hzs := finZ_size
  have hzr := finZ_run
  have hza : ∀ i, i < 4096 → finZ[2 + i]? = some (.int .i64 0) := fun i hi => finZ_at hi
  generalize finZ = Z at hzs hzr hza
  have hzn : ¬ Z = #[] := by rintro rfl; cases hzs
  have hz2 : ¬ Z.size < 2 := by omega
  have HZA := Lib.hid hza
  have HZS := Lib.hid hzs
  clear hza hzs
  obtain ⟨i, hi, hz, hs, hbts⟩ := bslK.parts
  obtain ⟨n, hn⟩ : ∃ n, dict.length = n := ⟨_, rfl⟩
  obtain ⟨m, hm⟩ : ∃ m, b.length = m := ⟨_, rfl⟩
  rw [hn] at hdl
  rw [hm] at hbl
  have HN := Lib.hid hn
  have HM := Lib.hid hm
  have w1 : IntKind.i64.wrap ((n : Int) + (m : Int)) = ((n + m : Nat) : Int) := by rw [IntKind.wrap_i64]; omega
  rw [hn, hm]
  clear hn hm
  go_enter Try.func30, Try.ntmps30
  go_wp2_with (first | (at_make; refine wpList_make_own _ rfl _ _ 22 rfl w.heap.size 5 i (.int .u8 0) 1 Try.underlying22 hi hz hs .i64 .i64 _ (n + m) rfl rfl rfl (by rw [hbts]; omega) (by unfold maxLen; omega) (Nat.le_refl _) ?_; intro W0 ho hg; have HO0 : Hid (OB 5 W0 w.heap.size _ []) := Lib.hid ho; have HB0 := Lib.hid ((Below.refl w.heap.size w).grown hg (Nat.le_refl _) (fun _ h => by cases h)); clear ho hg) | (at_builtin; refine wpList_app bslK rfl (.tmp 13) (.tmp 14) rfl w.heap.size _ [] rfl HO0.out w.heap.size D dict dc (by rw [HN.out]; rfl) (HD.out.below HB0.out) (by have := HN.out; simp; omega) HB0.out.size ?_; intro v1 W1 ho hg; have HO1 : Hid (OB 5 W1 w.heap.size v1 dict) := Lib.hid ho; have HB1 := Lib.hid (HB0.out.trans (hg.below HB0.out.size (fun k hk => (HO0.out.lt k hk).1))); clear ho hg) | (at_builtin; refine wpList_app bslK rfl (.tmp 15) (.tmp 16) rfl w.heap.size _ dict rfl HO1.out w.heap.size A b bc (by rw [HM.out]; rfl) (HB.out.below HB1.out) (by have := HN.out; have := HM.out; omega) HB1.out.size ?_; intro v2 W2 ho hg; obtain ⟨T2, c2, hv2, hrb2, hlc2, _⟩ := ho.form; have HRB := Lib.hid hrb2; have HLC := Lib.hid hlc2; have HB2 := Lib.hid (HB1.out.trans (hg.below HB1.out.size (fun k hk => (HO1.out.lt k hk).1))); subst hv2; clear ho hg hrb2 hlc2) | (go_at_call 34; have hfd := fd_new (t := dict ++ b) HZS.out HZA.out HRB.out HLC.out (by have := HN.out; have := HM.out; simp; omega); rw [List.length_append] at hfd; refine (learn_any _ _ _ _ (dict ++ b) _ 0 n (by omega) (by omega) (by rw [show min 0 ((dict ++ b).length - 3) = 0 by omega]; exact hfd)).mono ?_; rintro e V ⟨rfl, hf, hm⟩; have HF := Lib.hid hf; have HMM := Lib.hid hm; clear hf hm hfd))
  go_ret
  have hBA : Below w.heap.size w ((W2.alloc (.map #[] 0)).alloc (.cells ((Z.setIfInBounds 0 (.slice T2 (dict.length + b.length) c2)).setIfInBounds 1 (.map (some W2.heap.size))) 69)) := (HB2.out.alloc HB2.out.size _).alloc (by have := HB2.out.size; simp; omega) _
  refine ⟨_, _, T2, c2, rfl, HF.out, by have := HB2.out.size; omega, HB2.out.size, hBA.trans (HMM.out.below hBA.size (fun k hk hs => ?_))⟩
  have := HB2.out.size
  rcases hs with rfl | rfl <;> omega
end Go.Proofs.Ytocohoojnjdkiaa
