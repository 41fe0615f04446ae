/- lineage: the walk of the reference's Make. -/
import Derived.Test.YtdfenaoddbdppaaDoorLOrds
set_option linter.unusedVariables false
namespace Go.Proofs.YtdfenaoddbdppaaDoor
open Go.RowKit

theorem isO_false {n : Int} (h : isO n = false) : n < 1 ∨ 999999 < n := by
  simp only [isO, Bool.and_eq_false_iff, decide_eq_false_iff_not] at h
  omega

set_option maxHeartbeats 2000000 in
set_option maxRecDepth 100000 in
theorem refMake_any (A : Option Addr) (l : List Int) (c B : Nat) (w : World) (hr : RZ w B A l) (hB : B ≤ w.heap.size) :
    Calls Tryd.prog 13 #[.slice A l.length c] w fun e w' => e = .returned (.tuple #[.string (mkL l).1, .int .i64 ((mkL l).2 : Int)]) ∧ Below w.heap.size w w' := by
  by_cases h8 : 8 < l.length
  · have g8 : (8 : Int) < (l.length : Int) := by omega
    have hm : mkL l = (⟨#[]⟩, 9) := by unfold mkL; rw [if_pos h8]
    rw [hm]
    clear h8 hm
    go_enter Tryd.func13, Tryd.ntmps13
    go_wp2
    refine bodyPost_ret (results_tmp2' rfl _ _ _) rfl ?_
    exact ⟨rfl, Below.refl _ _⟩
  · have g8 : ¬ (8 : Int) < (l.length : Int) := by omega
    have HR := Lib.hid hr
    have HML : Hid (mkL l = if l.all isO then (⟨(tx (l.map Int.toNat)).toArray⟩, 0) else (⟨#[]⟩, 2)) := Lib.hid (by unfold mkL; rw [if_neg h8])
    obtain ⟨M, hM⟩ : ∃ M, M = mkL l := ⟨_, rfl⟩
    rw [← hM] at HML ⊢
    clear hr hM
    go_enter Tryd.func13, Tryd.ntmps13
    go_wp2
    go_loopw [4] (fun i wr => ∃ k : Nat, k ≤ l.length ∧ i = .int .i64 k ∧ (∀ x ∈ l.take k, isO x = true) ∧ w = wr) (fun i _ => l.length - (intOf i).toNat)
    case atStart => exact ⟨0, by omega, rfl, by simp, rfl⟩
    case round =>
      obtain ⟨k, hk, rfl, hok, rfl⟩ := hrel
      have HOK := Lib.hid hok
      clear hok
      by_cases hlt : k < l.length
      · have h1 : (k : Int) < (l.length : Int) := by omega
        obtain ⟨b, off, x, rfl, hbb, hv, h0⟩ := HR.out.at_ hlt
        have HV := Lib.hid hv
        clear hv
        by_cases hx : isO x = true
        · obtain ⟨n, rfl, hn1, hn2⟩ := isO_nat hx
          have HXO := Lib.hid hx
          have g1 : ¬ (n : Int) < 1 := by omega
          have g2 : ¬ (999999 : Int) < (n : Int) := by omega
          clear hx
          go_wp2
          go_roundw
          case rel =>
            refine ⟨k + 1, by omega, by go_num, ?_, trivial⟩
            intro y hy
            rw [List.take_add_one, HV.out] at hy
            rcases List.mem_append.1 hy with hy | hy
            · exact HOK.out y hy
            · simp at hy; rw [hy]; exact HXO.out
          case measure => simp [intOf] <;> omega
        · have hxf : isO x = false := by simpa using hx
          have hMe : M = (⟨#[]⟩, 2) := by
            rw [HML.out, if_neg]
            intro hall
            rw [List.all_eq_true] at hall
            have := hall x (List.mem_of_getElem? HV.out)
            rw [hxf] at this; cases this
          subst hMe
          have hcase := isO_false hxf
          clear hx hxf HML
          by_cases hx1 : x < 1
          · go_wp2
            refine bodyPost_ret (results_tmp2' rfl _ _ _) rfl ?_
            exact ⟨rfl, Below.refl _ _⟩
          · have hx2 : 999999 < x := by omega
            go_wp2
            refine bodyPost_ret (results_tmp2' rfl _ _ _) rfl ?_
            exact ⟨rfl, Below.refl _ _⟩
      · have h1 : ¬ (k : Int) < (l.length : Int) := by omega
        have hkl : k = l.length := by omega
        have hall : ∀ x ∈ l, isO x = true := fun x hx => HOK.out x (by rw [hkl, List.take_length]; exact hx)
        have hMe : M = (⟨(tx (l.map Int.toNat)).toArray⟩, 0) := by
          rw [HML.out, if_pos]
          rw [List.all_eq_true]
          exact hall
        have HT : Hid (Calls Tryd.prog 20 #[.slice A l.length c] w fun e w' => e = .returned (.string M.1) ∧ Below w.heap.size w w') := Lib.hid (by
          rw [hMe]
          have h3 := refText_any A (l.map Int.toNat) c B w (HR.out.toRI (fun x hx => by obtain ⟨n, rfl, _⟩ := isO_nat (hall x hx); omega)) hB (by rw [List.length_map]; omega) (fun y hy => by
            obtain ⟨z, hz, rfl⟩ := List.mem_map.1 hy
            obtain ⟨n, rfl, _, hn⟩ := isO_nat (hall z hz)
            simpa using hn)
          rw [List.length_map, textS_tx] at h3
          exact h3)
        have HM2 : Hid (M.2 = 0) := Lib.hid (by rw [hMe])
        clear hMe hkl HML hall
        go_wp2_with (go_at_call 20; refine HT.out.mono ?_; rintro e W1 ⟨rfl, hb1⟩; have HB1 := Lib.hid hb1; clear hb1)
        refine bodyPost_ret (results_tmp2' rfl _ _ _) rfl ?_
        refine ⟨?_, HB1.out⟩
        rw [HM2.out]; rfl
end Go.Proofs.YtdfenaoddbdppaaDoor
