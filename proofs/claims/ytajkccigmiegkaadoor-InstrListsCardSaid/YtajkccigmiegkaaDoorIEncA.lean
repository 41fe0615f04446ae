/- instr: EncodeAll, walked. -/
import Derived.Test.YtajkccigmiegkaaDoorIEncP
set_option linter.unusedVariables false
namespace Go.Proofs.YtajkccigmiegkaaDoor
open Go.RowKit

theorem RB.lit (W : World) (e : TypeId) (l : List UInt8) : RB (W.alloc (.cells (l.map bv).toArray e)) (W.heap.size + 1) (some ⟨W.heap.size, 0, none⟩) l := fun _ =>
  ⟨_, _, rfl, by omega, fun j c hj => by rw [World.cell?_alloc_at _ _ _ _ rfl, Nat.zero_add]; simp [hj]⟩
theorem OB.under {e : TypeId} {w w' : World} {base : Nat} {v : Value} {l : List UInt8} (h : OB e w base v l) (hb : Below w.heap.size w w') : OB e w' base v l := h.mod (Mod.of_below hb) (fun k hk => by have := (h.lt k hk).2; omega)
set_option maxHeartbeats 2000000 in
set_option maxRecDepth 100000 in
theorem encodeAll_any (A : Option Addr) (q : List Q4) (c : Nat) (w : World) (hE : Env w) (hr : RQ encQ 4 w w.heap.size A q) (hq : q.length ≤ 40) :
    Calls Tryd.prog 30 #[.slice A q.length c] w fun e w' => ∃ v bs x y, e = .returned (.tuple #[v, .int .i64 x, .int .i64 y]) ∧ OB 5 w' w.heap.size v bs ∧ ER q bs x y ∧ Below w.heap.size w w' := by
  obtain ⟨ti, hti, htz, hts, htb⟩ := bsl.parts
  have HE := Lib.hid hE
  have HR := Lib.hid hr
  obtain ⟨P, hP⟩ : ∃ P, q.length = P := ⟨_, rfl⟩
  rw [hP] at hq
  rw [hP]
  have HP := Lib.hid hP
  have w4 : IntKind.i64.wrap (4 * (P : Int)) = 4 * (P : Int) := by rw [IntKind.wrap_i64]; omega
  have HQ := Lib.hid (show 4 * (P : Int) = ((4 * P : Nat) : Int) by omega)
  clear hE hr hP
  go_enter Tryd.func30, Tryd.ntmps30
  go_wp2_with (at_make; refine wpList_make_own _ rfl _ _ 55 rfl w.heap.size 5 ti _ 1 Tryd.underlying55 hti htz hts .i64 .i64 _ (4 * P) rfl rfl HQ.out (by rw [htb]; omega) (by unfold maxLen; omega) (Nat.le_refl _) ?_; intro W0 ho hg; have HO0 : Hid (OB 5 W0 w.heap.size _ []) := Lib.hid ho; have HB0 := Lib.hid ((Below.refl w.heap.size w).grown hg (Nat.le_refl _) (fun _ h => by cases h)); clear ho hg)
  go_loopw [2, 15] (fun v i wr => ∃ k : Nat, k ≤ P ∧ i = .int .i64 (k : Int) ∧ (∀ y ∈ q.take k, zE y = 0) ∧ OB 5 wr w.heap.size v ((q.take k).flatMap eB) ∧ Below w.heap.size w wr) (fun _ i _ => P - (intOf i).toNat)
  case atStart => exact ⟨0, by omega, rfl, by simp, HO0.out, HB0.out⟩
  case round =>
    obtain ⟨k, hk, rfl, hz, ho, hW⟩ := hrel
    have HZ := Lib.hid hz
    have HO := Lib.hid ho
    have HW := Lib.hid hW
    clear hz ho hW HO0 HB0
    by_cases hlt : k < P
    · have h1 : (k : Int) < (P : Int) := by omega
      have w1 : IntKind.i64.wrap ((k : Int) + 1) = (k : Int) + 1 := by rw [IntKind.wrap_i64]; omega
      obtain ⟨b, off, x, rfl, hb, hx, hrg⟩ := HR.out.at_ (j := k) (by rw [HP.out]; exact hlt)
      have HX := Lib.hid hx
      have HRG : Hid (wr.rangeAt b (off + k * 4) (encQ x)) := Lib.hid (fun i v hv => (HW.out.cell (p := ⟨b, off + k * 4 + i, none⟩) hb).trans (hrg i v hv))
      have HLN := Lib.hid (show ((q.take k).flatMap eB).length ≤ 4 * P by rw [flatB_len, List.length_take]; omega)
      clear hx hrg hb
      by_cases hz0 : zE x = 0
      · obtain ⟨x0, x1, x2, x3, he, hv, -⟩ := good hz0
        have HC : Hid (∀ W, Below w.heap.size w W → Calls Tryd.prog 25 #[inV x.o x.a x.b x.c] W fun e w' => e = .returned (.tuple #[byV (x0.toNat : Int) (x1.toNat : Int) (x2.toNat : Int) (x3.toNat : Int), .int .i64 0]) ∧ Below W.heap.size W w') := Lib.hid fun W hb => by
          have h := encode_any x.o x.a x.b x.c W (HE.out.below hb)
          rw [hv, show chkZ x.o x.a x.b x.c = 0 from hz0] at h
          exact h
        have HE4 := Lib.hid he
        have HZ0 := Lib.hid hz0
        clear he hv hz0
        go_wp2_with (first
          | ((with_reducible show wpList _ _ _ (⟨some 19, _, _, _, _, _⟩ :: _) _ _); refine wpList_load_mid (by rfl) 26 (.tmp 18) (by rfl) b (off + k * 4) (by rfl) [.int .i64 x.o, .int .i64 x.a, .int .i64 x.b, .int .i64 x.c] _ HRG.out Tryd.underlying26 rfl (insQ_info x) ?_)
          | (go_at_call 25; refine (HC.out _ (HW.out.alloc HW.out.size _)).mono ?_; rintro e V ⟨rfl, hb2⟩; have HO2 := Lib.hid ((HO.out.alloc _).under hb2); have HW2 := Lib.hid ((HW.out.alloc HW.out.size _).trans (hb2.mono (by have := HW.out.size; simp; omega))); clear hb2)
          | (at_builtin; refine wpList_app bsl rfl (.tmp 29) (.tmp 30) rfl w.heap.size _ ((q.take k).flatMap eB) rfl (HO2.out.alloc _) (V.heap.size + 1) (some ⟨V.heap.size, 0, none⟩) [x0, x1, x2, x3] 4 (by rfl) (RB.lit V _ _) (by have := HLN.out; simp only [List.length_cons, List.length_nil]; omega) (by have := HW2.out.size; simp; omega) ?_; intro v3 W3 ho3 hg3; have HO3 := Lib.hid ho3; have HW3 := Lib.hid ((HW2.out.alloc HW2.out.size _).trans (hg3.below (B := w.heap.size) (by have := HW2.out.size; simp; omega) (fun i hi => (HO2.out.lt i hi).1))); clear ho3 hg3))
        go_roundw
        case rel => exact ⟨k + 1, by omega, by go_num, take_good HX.out HZ0.out HZ.out, by rw [take_flat HX.out, HE4.out]; exact HO3.out, HW3.out⟩
        case measure => simp [intOf] <;> omega
      · obtain ⟨z, hz⟩ : ∃ z, zE x = z := ⟨_, rfl⟩
        have hv : encV x.o x.a x.b x.c = byV 0 0 0 0 := by unfold encV; exact if_neg hz0
        have HC : Hid (∀ W, Below w.heap.size w W → Calls Tryd.prog 25 #[inV x.o x.a x.b x.c] W fun e w' => e = .returned (.tuple #[byV 0 0 0 0, .int .i64 z]) ∧ Below W.heap.size W w') := Lib.hid fun W hb => by
          have h := encode_any x.o x.a x.b x.c W (HE.out.below hb)
          rw [hv, show chkZ x.o x.a x.b x.c = z from hz] at h
          exact h
        have HZ1 := Lib.hid hz
        have HZ0 := Lib.hid hz0
        rw [hz] at hz0
        clear hv hz
        go_wp2_with (first
          | ((with_reducible show wpList _ _ _ (⟨some 19, _, _, _, _, _⟩ :: _) _ _); refine wpList_load_mid (by rfl) 26 (.tmp 18) (by rfl) b (off + k * 4) (by rfl) [.int .i64 x.o, .int .i64 x.a, .int .i64 x.b, .int .i64 x.c] _ HRG.out Tryd.underlying26 rfl (insQ_info x) ?_)
          | (go_at_call 25; refine (HC.out _ (HW.out.alloc HW.out.size _)).mono ?_; rintro e V ⟨rfl, hb2⟩; have HO2 := Lib.hid ((HO.out.alloc _).under hb2); have HW2 := Lib.hid ((HW.out.alloc HW.out.size _).trans (hb2.mono (by have := HW.out.size; simp; omega))); clear hb2))
        go_ret3
        exact ⟨_, [], (k : Int), z, rfl, OB.nil _ _ _, .inl ⟨k, x, HX.out, HZ.out, HZ0.out, rfl, rfl, HZ1.out.symm⟩, HW2.out.alloc HW2.out.size _⟩
    · have h1 : ¬ (k : Int) < (P : Int) := by omega
      have hkP : k = q.length := by rw [HP.out]; omega
      go_wp2
      go_ret3
      exact ⟨_, (q.take k).flatMap eB, 0, 0, rfl, HO.out, .inr ⟨fun y hy => HZ.out y (by rw [hkP, List.take_length]; exact hy), by rw [hkP, List.take_length], rfl, rfl⟩, HW.out⟩
end Go.Proofs.YtajkccigmiegkaaDoor
