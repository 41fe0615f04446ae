/- instr: the law InstrBytes, walked. -/
import Derived.Test.YtajkccigmiegkaaDoorIDecR
import Derived.Test.YtajkccigmiegkaaDoorILawsC
set_option linter.unusedVariables false
namespace Go.Proofs.YtajkccigmiegkaaDoor
open Go.RowKit

theorem bsl : ByteSlice Tryd.prog 55 5 := ⟨Tryd.underlying55, Tryd.underlying5, by kernel_rfl⟩
theorem DR.len {b : List UInt8} {l : List Q4} {x e : Int} (h : DR b l x e) : l.length ≤ b.length := by
  rcases h with ⟨j, h1, h2, h3, rfl, rfl, rfl⟩ | ⟨j, h1, h1', h2, ⟨p, rfl, rfl, rfl⟩ | ⟨p, rfl, rfl, rfl⟩⟩
  · simp
  · simp
  · rw [dL_len]; omega
theorem ops_atL {l : List Oper} {i : Nat} {o : Oper} (h : l[i]? = some o) : (List.toArray l)[i]? = some o := by rw [List.getElem?_toArray]; exact h
def valQ (x : Q4) : Value := .agg (encQ x).toArray
theorem insQ_info (x : Q4) : (Tryd.prog.info? 26).map (·.size) = some (encQ x).length := by
  obtain ⟨i, z, hi, hz, hs, hb, _⟩ := insT_ok.i
  rw [hi]; simp [hs, encQ]
theorem refQ_info (x : Q4) : (Tryd.prog.info? 23).map (·.size) = some (encQ x).length := by
  obtain ⟨i, z, hi, hz, hs, hb, _⟩ := refT_ok.i
  rw [hi]; simp [hs, encQ]
theorem ofQ_any (x : Q4) (W : World) : Calls Tryd.prog 28 #[valQ x] W fun e w' => e = .returned (valQ x) ∧ Below W.heap.size W w' := of_any x.o x.a x.b x.c W
theorem neQ (x : Q4) (W : World) : (binOp .neq 23 (valQ x) (valQ x)).run Tryd.prog W = .ok (.bool false) W := ne_in x.o x.a x.b x.c W
theorem guardQ (op : BinOp) (a b : Operand) (x y : Q4) (W : World) : (eqGuard op 23 a b (valQ x) (valQ y)).run Tryd.prog W = .ok () W := run_eqGuard_agg _ op _ a b _ _ (by kernel_rfl)
/-- The two lists. -/
def Z2 (w : World) (A1 A2 : Option Addr) (q : List Q4) (W : World) : Prop := RQ encQ 4 W W.heap.size A1 q ∧ RQ encQ 4 W W.heap.size A2 q ∧ Below w.heap.size w W
theorem Z2.next {w W W' : World} {A1 A2 : Option Addr} {q : List Q4} (h : Z2 w A1 A2 q W) (hb : Below W.heap.size W W') : Z2 w A1 A2 q W' := ⟨(h.1.below hb).more hb.size, (h.2.1.below hb).more hb.size, h.2.2.trans (hb.mono h.2.2.size)⟩
theorem Z2.drew {w W : World} {A1 A2 : Option Addr} {q : List Q4} (h : Z2 w A1 A2 q W) : Z2 w A1 A2 q W.drew := ⟨h.1, h.2.1, h.2.2.drew⟩
theorem rqQ_range {W : World} {B b o j : Nat} {l : List Q4} {x : Q4} (h : RQ encQ 4 W B (some ⟨b, o, none⟩) l) (hx : l[j]? = some x) : W.rangeAt b (o + j * 4) (encQ x) := by
  obtain ⟨b', o', y, e, -, hy, hr⟩ := h.at_ (j := j) (List.getElem?_eq_some_iff.1 hx).1
  cases e
  rw [hx] at hy; cases hy
  exact hr
set_option maxHeartbeats 4000000 in
set_option maxRecDepth 100000 in
theorem instrBytes_walk (A : Option Addr) (l : List UInt8) (c : Nat) (w : World) (hE : Env w) (hr : RB w w.heap.size A l) (hlc : l.length ≤ c) (hcm : c ≤ maxLen) :
    Calls Tryd.prog 8 #[.slice A l.length c] w fun e w' => e = .returned (.bool true) ∧ Below w.heap.size w w' := by
  have HK : Hid (∀ W, Below w.heap.size w W → Calls Tryd.prog 13 #[] W fun e w' => e = .returned (.bool true) ∧ Below W.heap.size W w') := Lib.hid fun W hb => known_any W (hE.below hb)
  have HB : Hid (Below w.heap.size w w) := Lib.hid (Below.refl _ _)
  by_cases h200 : l.length ≤ 200
  · have h2 : ¬ (l.length : Int) > 200 := by omega
    have HST : Hid (∀ W, Below w.heap.size w W → (convert 55 9 (.slice A l.length c)).run Tryd.prog W = .ok (.string ⟨l.toArray⟩) W) := Lib.hid fun W hb => run_str bsl 9 Tryd.underlying9 (hr.below hb) c
    have HD : Hid (∀ W, Below w.heap.size w W → Calls Tryd.prog 33 #[.slice A l.length c] W fun e w' => ∃ v q x y, e = .returned (.tuple #[v, .int .i64 x, .int .i64 y]) ∧ OQ encQ 4 26 w' W.heap.size v q ∧ DR l q x y ∧ Below W.heap.size W w') := Lib.hid fun W hb => decodeAll_any A l c W (hE.below hb) ((hr.below hb).more hb.size) h200 hlc hcm
    have HR : Hid (∀ W, Below w.heap.size w W → Calls Tryd.prog 34 #[.slice A l.length c] W fun e w' => ∃ v q x y, e = .returned (.tuple #[v, .int .i64 x, .int .i64 y]) ∧ OQ encQ 4 23 w' W.heap.size v q ∧ DR l q x y ∧ Below W.heap.size W w') := Lib.hid fun W hb => rdecodeAll_any A l c W ((hr.below hb).more hb.size) h200
    have HL2 := Lib.hid h200
    obtain ⟨N, hN⟩ : ∃ N, l.length = N := ⟨_, rfl⟩
    rw [hN] at h2 h200 HST HD HR ⊢
    clear hN hE hr hlc hcm
    go_enter Tryd.func8, Tryd.ntmps8
    go_wp2_with (first
      | (go_at_call 13; refine (HK.out _ HB.out).mono ?_; rintro e W1 ⟨rfl, hb⟩; replace HB := Lib.hid (HB.out.trans (hb.mono HB.out.size)); have hs1 := HST.out W1 HB.out; clear hb)
      | (go_at_call 33; refine (HD.out _ HB.out).mono ?_; rintro e W2 ⟨v1, q1, x1, y1, rfl, ho1, hd1, hb⟩; obtain ⟨A1, cap1, rfl, hr1, -⟩ := ho1.form encQ_ok; have HR1 := Lib.hid hr1; have HD1 := Lib.hid hd1; have HPQ := Lib.hid (Nat.le_trans hd1.len HL2.out); replace HB := Lib.hid (HB.out.trans (hb.mono HB.out.size)); clear hb ho1 hr1 hd1 hs1)
      | (go_at_call 34; refine (HR.out _ HB.out).mono ?_; rintro e W3 ⟨v2, q2, x2, y2, rfl, ho2, hd2, hb⟩; obtain ⟨rfl, rfl, rfl⟩ := HD1.out.one hd2; obtain ⟨A2, cap2, rfl, hr2, -⟩ := ho2.form encQ_ok; replace HB := Lib.hid (HB.out.trans (hb.mono HB.out.size)); have HZ := Lib.hid (show Z2 w A1 A2 q1 W3 from ⟨(HR1.out.below hb).more hb.size, hr2, HB.out⟩); have hs3 := HST.out W3 HB.out; clear hb ho2 hr2 hd2 HR1 HD1))
    clear hs3 HB HST HK HD HR
    obtain ⟨P, hP⟩ : ∃ P, q1.length = P := ⟨_, rfl⟩
    rw [hP]
    have HPL := Lib.hid hP
    have hP2 : P ≤ 200 := by rw [← hP]; exact HPQ.out
    clear hP
    go_loopw [10] (fun i wr => ∃ k : Nat, k ≤ P ∧ i = .int .i64 k ∧ Z2 w A1 A2 q1 wr) (fun i _ => P - (intOf i).toNat)
    case atStart => exact ⟨0, by omega, rfl, HZ.out⟩
    case round =>
      obtain ⟨k, hk, rfl, hZ⟩ := hrel
      clear HZ
      by_cases hlt : k < P
      · have h3 : (k : Int) < (P : Int) := by omega
        obtain ⟨b1, o1, x, rfl, -, hx, -⟩ := hZ.1.at_ (j := k) (by rw [HPL.out]; exact hlt)
        obtain ⟨b2, o2, x2, rfl, -, -, -⟩ := hZ.2.1.at_ (j := k) (by rw [HPL.out]; exact hlt)
        have HX := Lib.hid hx
        have HZ2 := Lib.hid hZ
        clear hx hZ
        have r1 : ∀ V, Z2 w (some ⟨b1, o1, none⟩) (some ⟨b2, o2, none⟩) q1 V → V.rangeAt b1 (o1 + k * 4) (encQ x) := fun V hV => rqQ_range hV.1 HX.out
        have r2 : ∀ V, Z2 w (some ⟨b1, o1, none⟩) (some ⟨b2, o2, none⟩) q1 V → V.rangeAt b2 (o2 + k * 4) (encQ x) := fun V hV => rqQ_range hV.2.1 HX.out
        have HOF : Hid (∀ W, Z2 w (some ⟨b1, o1, none⟩) (some ⟨b2, o2, none⟩) q1 W → Calls Tryd.prog 28 #[valQ x] W fun e w' => e = .returned (valQ x) ∧ Z2 w (some ⟨b1, o1, none⟩) (some ⟨b2, o2, none⟩) q1 w') := Lib.hid fun W hW => (ofQ_any x W).mono fun e w' h => ⟨h.1, hW.next h.2⟩
        have hq := fun V => neQ x V
        have hg := fun V => guardQ .neq (.tmp 64) (.tmp 68) x x V
        go_wp2
        refine wp_region_held_drew (S := Z2 w (some ⟨b1, o1, none⟩) (some ⟨b2, o2, none⟩) q1) (by kernel_rfl) (HZ2.out.drew) (fun hHeld => ?_)
        refine wpAnyH_take (i := 0) (v := ?_) (ops_atL rfl) (by kernel_rfl) (by kernel_rfl) (by kernel_rfl) (fun _ _ _ h => h) (Or.inl ⟨by rfl, ?_⟩) hHeld ?_
        rotate_left
        · (intro W hSW; go_simp; try with_reducible rfl)
        try simp only [Act.put, List.setIfInBounds_toArray, List.set_cons_zero, List.set_cons_succ]
        refine wpAnyH_take (i := 1) (v := ?_) (ops_atL rfl) (by kernel_rfl) (by kernel_rfl) (by kernel_rfl) (fun _ _ _ h => h) (Or.inl ⟨by rfl, ?_⟩) hHeld ?_
        rotate_left
        · (intro W hSW; go_simp; try with_reducible rfl)
        try simp only [Act.put, List.setIfInBounds_toArray, List.set_cons_zero, List.set_cons_succ]
        refine wpAnyH_take (i := 2) (v := ?_) (ops_atL rfl) (by kernel_rfl) (by kernel_rfl) (by kernel_rfl) (fun _ _ _ h => h) (Or.inl ⟨by rfl, ?_⟩) hHeld ?_
        rotate_left
        · (intro W hSW; go_simp; try with_reducible rfl)
        try simp only [Act.put, List.setIfInBounds_toArray, List.set_cons_zero, List.set_cons_succ]
        refine wpAnyH_take (i := 3) (v := valQ x) (ops_atL rfl) (by kernel_rfl) (by kernel_rfl) (by kernel_rfl) (fun _ _ _ h => h) (yieldsIf_load_mid (by rfl) 26 (.tmp 62) rfl b1 (o1 + k * 4) (by rfl) (encQ x) _ r1 Tryd.underlying26 rfl (insQ_info _)) hHeld ?_
        try simp only [Act.put, List.setIfInBounds_toArray, List.set_cons_zero, List.set_cons_succ]
        refine wpAnyH_take (i := 5) (v := ?_) (ops_atL rfl) (by kernel_rfl) (by kernel_rfl) (by kernel_rfl) (fun _ _ _ h => h) (Or.inl ⟨by rfl, ?_⟩) hHeld ?_
        rotate_left
        · (intro W hSW; go_simp; try with_reducible rfl)
        try simp only [Act.put, List.setIfInBounds_toArray, List.set_cons_zero, List.set_cons_succ]
        refine wpAnyH_take (i := 6) (v := ?_) (ops_atL rfl) (by kernel_rfl) (by kernel_rfl) (by kernel_rfl) (fun _ _ _ h => h) (Or.inl ⟨by rfl, ?_⟩) hHeld ?_
        rotate_left
        · (intro W hSW; go_simp; try with_reducible rfl)
        try simp only [Act.put, List.setIfInBounds_toArray, List.set_cons_zero, List.set_cons_succ]
        refine wpAnyH_take (i := 7) (v := ?_) (ops_atL rfl) (by kernel_rfl) (by kernel_rfl) (by kernel_rfl) (fun _ _ _ h => h) (Or.inl ⟨by rfl, ?_⟩) hHeld ?_
        rotate_left
        · (intro W hSW; go_simp; try with_reducible rfl)
        try simp only [Act.put, List.setIfInBounds_toArray, List.set_cons_zero, List.set_cons_succ]
        refine wpAnyH_take (i := 8) (v := valQ x) (ops_atL rfl) (by kernel_rfl) (by kernel_rfl) (by kernel_rfl) (fun _ _ _ h => h) (yieldsIf_load_mid (by rfl) 23 (.tmp 67) rfl b2 (o2 + k * 4) (by rfl) (encQ x) _ r2 Tryd.underlying23 rfl (refQ_info _)) hHeld ?_
        try simp only [Act.put, List.setIfInBounds_toArray, List.set_cons_zero, List.set_cons_succ]
        refine wpAnyH_ready (rs := [4]) (by kernel_rfl) (by simp) ?_
        refine AllReadyH.cons (ops_atL rfl) (fun K hK => ?_) AllReadyH.nil
        go_simp
        (go_at_call 28; refine (HOF.out _ hHeld).mono ?_; rintro e W' ⟨rfl, hb'⟩)
        refine hK.out _ _ (hb') (fun hHeld => ?_)
        clear hK K
        try simp only [Act.put, List.setIfInBounds_toArray, List.set_cons_zero, List.set_cons_succ]
        refine wpAnyH_take (i := 9) (v := ?_) (ops_atL rfl) (by kernel_rfl) (by kernel_rfl) (by kernel_rfl) (fun _ _ _ h => h) (Or.inl ⟨by rfl, ?_⟩) hHeld ?_
        rotate_left
        · (intro W hSW; go_simp; try with_reducible rfl)
        try simp only [Act.put, List.setIfInBounds_toArray, List.set_cons_zero, List.set_cons_succ]
        refine wpAnyH_done (by kernel_rfl) ?_ _
        have HH := Lib.hid hHeld
        clear hHeld r1 r2 hq hg
        go_wp2
        go_roundw
        case rel => exact ⟨k + 1, by omega, by go_num, HH.out⟩
        case measure => simp [intOf] <;> omega
      · have h3 : ¬ (k : Int) < (P : Int) := by omega
        go_wp2
        go_ret
        exact ⟨rfl, hZ.2.2⟩
  · have h2 : (l.length : Int) > 200 := by omega
    obtain ⟨N, hN⟩ : ∃ N, l.length = N := ⟨_, rfl⟩
    rw [hN] at h2 ⊢
    clear hN hE hr hlc hcm h200
    go_enter Tryd.func8, Tryd.ntmps8
    go_wp2_with (go_at_call 13; refine (HK.out _ HB.out).mono ?_; rintro e W1 ⟨rfl, hb⟩; replace HB := Lib.hid (HB.out.trans (hb.mono HB.out.size)); clear hb)
    go_ret
    exact ⟨rfl, HB.out⟩
end Go.Proofs.YtajkccigmiegkaaDoor
