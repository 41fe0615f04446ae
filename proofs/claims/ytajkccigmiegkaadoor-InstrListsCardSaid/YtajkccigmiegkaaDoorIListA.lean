/- instr: the law's list, walked. -/
import Derived.Test.YtajkccigmiegkaaDoorIEncRf
set_option linter.unusedVariables false
namespace Go.Proofs.YtajkccigmiegkaaDoor
open Go.RowKit

set_option maxHeartbeats 2000000 in
set_option maxRecDepth 100000 in
theorem list_any (A : Option Addr) (q : List Q4) (c : Nat) (w : World) (hr : RQ encQ 4 w w.heap.size A q) (hq : q.length ≤ 40) :
    Calls Tryd.prog 31 #[.slice A q.length c] w fun e w' => ∃ v, e = .returned v ∧ OQ encQ 4 26 w' w.heap.size v q ∧ Below w.heap.size w w' := by
  have HR := Lib.hid hr
  obtain ⟨P, hP⟩ : ∃ P, q.length = P := ⟨_, rfl⟩
  rw [hP] at hq
  rw [hP]
  have HP := Lib.hid hP
  have HC : Hid (∀ (x : Q4) W, Calls Tryd.prog 14 #[inV x.o x.a x.b x.c] W fun e w' => e = .returned (inV x.o x.a x.b x.c) ∧ Below W.heap.size W w') := Lib.hid fun x W => to_any x.o x.a x.b x.c W
  clear hr hP
  go_enter Tryd.func31, Tryd.ntmps31
  go_wp2
  go_loopw [3, 4] (fun v i wr => ∃ k : Nat, k ≤ P ∧ i = .int .i64 (k : Int) ∧ OQ encQ 4 26 wr w.heap.size v (q.take k) ∧ Below w.heap.size w wr) (fun _ i _ => P - (intOf i).toNat)
  case atStart => exact ⟨0, by omega, rfl, OQ.nil _ _, Below.refl _ _⟩
  case round =>
    obtain ⟨k, hk, rfl, ho, hW⟩ := hrel
    have HO := Lib.hid ho
    have HW := Lib.hid hW
    clear ho hW
    by_cases hlt : k < P
    · have h1 : (k : Int) < (P : Int) := by omega
      obtain ⟨b, off, x, rfl, hb, hx, hrg⟩ := HR.out.at_ (j := k) (by rw [HP.out]; exact hlt)
      have HX := Lib.hid hx
      have HRG : Hid (wr.rangeAt b (off + k * 4) (encQ x)) := Lib.hid (fun i v hv => (HW.out.cell (p := ⟨b, off + k * 4 + i, none⟩) hb).trans (hrg i v hv))
      have HLN := Lib.hid (show (q.take k).length ≤ 40 by rw [List.length_take]; omega)
      clear hx hrg hb
      go_wp2_with (first
        | ((with_reducible show wpList _ _ _ (⟨some 15, _, _, _, _, _⟩ :: _) _ _); refine wpList_load_mid (by rfl) 23 (.tmp 14) (by rfl) b (off + k * 4) (by rfl) [.int .i64 x.o, .int .i64 x.a, .int .i64 x.b, .int .i64 x.c] _ HRG.out Tryd.underlying23 rfl (refQ_info x) ?_)
        | (go_at_call 14; refine (HC.out x _).mono ?_; rintro e V ⟨rfl, hb2⟩; have HO2 := Lib.hid (HO.out.under hb2); have HW2 := Lib.hid (HW.out.trans (hb2.mono HW.out.size)); clear hb2)
        | (at_builtin; refine wpList_pushQG encQ_ok insT_ok rfl (.tmp 11) (.tmp 17) rfl w.heap.size _ (q.take k) rfl x _ rfl HO2.out _ rfl ?_ ?_ ?_ ?_ ?_; (focus (first | rfl | simp)); (focus (have := HLN.out; unfold maxLen; omega)); (focus (have := HLN.out; omega)); (focus (exact HW2.out.size)); intro v3 W3 ho3 hg3; have HO3 := Lib.hid ho3; have HG3 := Lib.hid (HW2.out.trans (hg3.below (B := w.heap.size) HW2.out.size (fun i hi => (HO2.out.lt i hi).1))); clear ho3 hg3))
      go_roundw
      case rel => exact ⟨k + 1, by omega, by go_num, by rw [take_one_more HX.out]; exact HO3.out, HG3.out⟩
      case measure => simp [intOf] <;> omega
    · have h1 : ¬ (k : Int) < (P : Int) := by omega
      have hkP : k = q.length := by rw [HP.out]; omega
      go_wp2
      go_ret
      exact ⟨_, rfl, by have h := HO.out; rwa [hkP, List.take_length] at h, HW.out⟩
end Go.Proofs.YtajkccigmiegkaaDoor
