/- instr: the reference's EncodeAll, walked. -/
import Derived.Test.YtajkccigmiegkaaDoorIEncA
set_option linter.unusedVariables false
namespace Go.Proofs.YtajkccigmiegkaaDoor
open Go.RowKit

theorem RB.lit2 (V : World) (o : Obj) (e : TypeId) (l : List UInt8) : RB ((V.alloc o).alloc (.cells (l.map bv).toArray e)) (V.heap.size + 2) (some ⟨V.heap.size + 1, 0, none⟩) l := by
  have h := RB.lit (V.alloc o) e l
  rwa [show (V.alloc o).heap.size = V.heap.size + 1 by simp] at h
set_option maxHeartbeats 2000000 in
set_option maxRecDepth 100000 in
theorem rencodeAll_any (A : Option Addr) (q : List Q4) (c : Nat) (w : World) (hr : RQ encQ 4 w w.heap.size A q) (hq : q.length ≤ 40) :
    Calls Tryd.prog 32 #[.slice A q.length c] w fun e w' => ∃ v bs x y, e = .returned (.tuple #[v, .int .i64 x, .int .i64 y]) ∧ OB 5 w' w.heap.size v bs ∧ ER q bs x y ∧ Below w.heap.size w w' := by
  have HR := Lib.hid hr
  obtain ⟨P, hP⟩ : ∃ P, q.length = P := ⟨_, rfl⟩
  rw [hP] at hq
  rw [hP]
  have HP := Lib.hid hP
  clear hr hP
  go_enter Tryd.func32, Tryd.ntmps32
  go_wp2
  go_loopw [5, 6] (fun v i wr => ∃ k : Nat, k ≤ P ∧ i = .int .i64 (k : Int) ∧ (∀ y ∈ q.take k, zE y = 0) ∧ OB 5 wr w.heap.size v ((q.take k).flatMap eB) ∧ Below w.heap.size w wr) (fun _ i _ => P - (intOf i).toNat)
  case atStart => exact ⟨0, by omega, rfl, by simp, OB.nil _ _ _, Below.refl _ _⟩
  case round =>
    obtain ⟨k, hk, rfl, hz, ho, hW⟩ := hrel
    have HZ := Lib.hid hz
    have HO := Lib.hid ho
    have HW := Lib.hid hW
    clear hz ho hW
    by_cases hlt : k < P
    · have h1 : (k : Int) < (P : Int) := by omega
      have w1 : IntKind.i64.wrap ((k : Int) + 1) = (k : Int) + 1 := by rw [IntKind.wrap_i64]; omega
      obtain ⟨b, off, x, rfl, hb, hx, hrg⟩ := HR.out.at_ (j := k) (by rw [HP.out]; exact hlt)
      have HX := Lib.hid hx
      have HRG : Hid (wr.rangeAt b (off + k * 4) (encQ x)) := Lib.hid (fun i v hv => (HW.out.cell (p := ⟨b, off + k * 4 + i, none⟩) hb).trans (hrg i v hv))
      have HLN := Lib.hid (show ((q.take k).flatMap eB).length ≤ 4 * P by rw [flatB_len, List.length_take]; omega)
      clear hx hrg hb
      by_cases hz0 : zE x = 0
      · obtain ⟨x0, x1, x2, x3, he, hv, -⟩ := good hz0
        have HC : Hid (∀ W, Below w.heap.size w W → Calls Tryd.prog 26 #[inV x.o x.a x.b x.c] W fun e w' => e = .returned (.tuple #[byV (x0.toNat : Int) (x1.toNat : Int) (x2.toNat : Int) (x3.toNat : Int), .int .i64 0]) ∧ Below W.heap.size W w') := Lib.hid fun W hb => by
          have h := rencode_any x.o x.a x.b x.c W
          rw [hv, show chkZ x.o x.a x.b x.c = 0 from hz0] at h
          exact h
        have HE4 := Lib.hid he
        have HZ0 := Lib.hid hz0
        clear he hv hz0
        go_wp2_with (first
          | ((with_reducible show wpList _ _ _ (⟨some 19, _, _, _, _, _⟩ :: _) _ _); refine wpList_load_mid (by rfl) 23 (.tmp 18) (by rfl) b (off + k * 4) (by rfl) [.int .i64 x.o, .int .i64 x.a, .int .i64 x.b, .int .i64 x.c] _ HRG.out Tryd.underlying23 rfl (refQ_info x) ?_)
          | (go_at_call 26; refine (HC.out _ HW.out).mono ?_; rintro e V ⟨rfl, hb2⟩; have HO2 := Lib.hid (HO.out.under hb2); have HW2 := Lib.hid (HW.out.trans (hb2.mono HW.out.size)); clear hb2)
          | (at_builtin; refine wpList_app bsl rfl (.tmp 27) (.tmp 36) rfl w.heap.size _ ((q.take k).flatMap eB) rfl ((HO2.out.alloc _).alloc _) (V.heap.size + 2) (some ⟨V.heap.size + 1, 0, none⟩) [x0, x1, x2, x3] 4 (by rfl) (RB.lit2 V _ _ _) (by have := HLN.out; simp only [List.length_cons, List.length_nil]; omega) (by have := HW2.out.size; simp; omega) ?_; intro v3 W3 ho3 hg3; have HO3 := Lib.hid ho3; have HW3 := Lib.hid ((HW2.out.alloc HW2.out.size _).trans ((below_alloc0 _ _).mono (by have := HW2.out.size; simp; omega)) |>.trans (hg3.below (B := w.heap.size) (by have := HW2.out.size; simp; omega) (fun i hi => (HO2.out.lt i hi).1))); clear ho3 hg3))
        go_roundw
        case rel => exact ⟨k + 1, by omega, by go_num, take_good HX.out HZ0.out HZ.out, by rw [take_flat HX.out, HE4.out]; exact HO3.out, HW3.out⟩
        case measure => simp [intOf] <;> omega
      · obtain ⟨z, hz⟩ : ∃ z, zE x = z := ⟨_, rfl⟩
        have hv : encV x.o x.a x.b x.c = byV 0 0 0 0 := by unfold encV; exact if_neg hz0
        have HC : Hid (∀ W, Below w.heap.size w W → Calls Tryd.prog 26 #[inV x.o x.a x.b x.c] W fun e w' => e = .returned (.tuple #[byV 0 0 0 0, .int .i64 z]) ∧ Below W.heap.size W w') := Lib.hid fun W hb => by
          have h := rencode_any x.o x.a x.b x.c W
          rw [hv, show chkZ x.o x.a x.b x.c = z from hz] at h
          exact h
        have HZ1 := Lib.hid hz
        have HZ0 := Lib.hid hz0
        rw [hz] at hz0
        clear hv hz
        go_wp2_with (first
          | ((with_reducible show wpList _ _ _ (⟨some 19, _, _, _, _, _⟩ :: _) _ _); refine wpList_load_mid (by rfl) 23 (.tmp 18) (by rfl) b (off + k * 4) (by rfl) [.int .i64 x.o, .int .i64 x.a, .int .i64 x.b, .int .i64 x.c] _ HRG.out Tryd.underlying23 rfl (refQ_info x) ?_)
          | (go_at_call 26; refine (HC.out _ HW.out).mono ?_; rintro e V ⟨rfl, hb2⟩; have HO2 := Lib.hid (HO.out.under hb2); have HW2 := Lib.hid (HW.out.trans (hb2.mono HW.out.size)); clear hb2))
        go_ret3
        exact ⟨_, [], (k : Int), z, rfl, OB.nil _ _ _, .inl ⟨k, x, HX.out, HZ.out, HZ0.out, rfl, rfl, HZ1.out.symm⟩, HW2.out.alloc HW2.out.size _⟩
    · have h1 : ¬ (k : Int) < (P : Int) := by omega
      have hkP : k = q.length := by rw [HP.out]; omega
      go_wp2
      go_ret3
      exact ⟨_, (q.take k).flatMap eB, 0, 0, rfl, HO.out, .inr ⟨fun y hy => HZ.out y (by rw [hkP, List.take_length]; exact hy), by rw [hkP, List.take_length], rfl, rfl⟩, HW.out⟩
end Go.Proofs.YtajkccigmiegkaaDoor
