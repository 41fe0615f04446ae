/- instr: the walk of DecodeAll. -/
import Derived.Test.YtajkccigmiegkaaDoorIDecAll
set_option linter.unusedVariables false
namespace Go.Proofs.YtajkccigmiegkaaDoor
open Go.RowKit

theorem slice_mid {P : Program} {t e : TypeId} (ht : P.underlying t = some (.slice e)) (hs : (P.info? e).map (·.size) = some 1) (b off n c m k : Nat) (h1 : m + k ≤ n) (h2 : n ≤ c ∧ 0 < k) (W : World) :
    (Instr.slice t (.slice (some ⟨b, off, none⟩) n c) (some (.int .i64 (m : Int))) (some (.int .i64 ((m : Int) + (k : Int)))) none).run P W = .ok (.slice (some ⟨b, off + m, none⟩) k (c - m)) W := by
  cases hq : P.info? e with
  | none => simp [hq] at hs
  | some j =>
    have hj : j.size = 1 := by simpa [hq] using hs
    have e1 : ((m : Int) + (k : Int)).toNat = m + k := by omega
    have g1 : ¬ c = m := by omega
    have g2 : (0 : Int) ≤ (m : Int) + (k : Int) := by omega
    have g3 : (m : Int) + (k : Int) ≤ (c : Int) := by omega
    have g4 : (m : Int) ≤ (m : Int) + (k : Int) := by omega
    have g5 : (m : Int) ≤ (m : Int) + (k : Int) := by omega
    simp [Instr.slice, Instr.sliceBounds, Instr.sliceBound, asIntOf, run_underlying ht, sizeOf, typeInfo, hq, hj, Result.andThen, e1, g1, g2, g3, Addr.add]
set_option maxHeartbeats 2000000 in
set_option maxRecDepth 100000 in
theorem decodeAll_any (A : Option Addr) (l : List UInt8) (c : Nat) (w : World) (hE : Env w) (hr : RB w w.heap.size A l) (hl : l.length ≤ 200) (hlc : l.length ≤ c) (hcm : c ≤ maxLen) :
    Calls Tryd.prog 33 #[.slice A l.length c] w fun e w' => ∃ v q x y, e = .returned (.tuple #[v, .int .i64 x, .int .i64 y]) ∧ OQ encQ 4 26 w' w.heap.size v q ∧ DR l q x y ∧ Below w.heap.size w w' := by
  obtain ⟨ti, tz, hti, htz, hts, htb, _⟩ := insT_ok.i
  have HE := Lib.hid hE
  have HR := Lib.hid hr
  have HLC := Lib.hid hlc
  have HCM := Lib.hid hcm
  have HI := Lib.hid infoB
  obtain ⟨n, hn⟩ : ∃ n, l.length = n := ⟨_, rfl⟩
  rw [hn] at hl
  rw [hn]
  have HN := Lib.hid hn
  have hq : (n : Int) / 4 = ((n / 4 : Nat) : Int) := by omega
  have HQ := Lib.hid hq
  clear hE hr hlc hcm hn hq
  go_enter Tryd.func33, Tryd.ntmps33
  go_wp2_with (at_make; refine wpList_make_own _ rfl _ _ 58 rfl w.heap.size 26 ti tz 4 Tryd.underlying58 hti htz hts .i64 .i64 _ (n / 4) rfl rfl HQ.out (by rw [htb]; omega) (by unfold maxLen; omega) (Nat.le_refl _) ?_; intro W0 ho hg; have HO0 : Hid (OQ encQ 4 26 W0 w.heap.size _ []) := Lib.hid ho; have HB0 := Lib.hid ((Below.refl w.heap.size w).grown hg (Nat.le_refl _) (fun _ h => by cases h)); clear ho hg)
  go_loopw [2, 3] (fun v i wr => ∃ j m : Nat, m = 4 * j ∧ m ≤ n ∧ i = .int .i64 (m : Int) ∧ (∀ i, i < j → dE l i = 0) ∧ OQ encQ 4 26 wr w.heap.size v (dL l j) ∧ Below w.heap.size w wr) (fun _ i _ => n + 1 - (intOf i).toNat)
  case atStart => exact ⟨0, 0, rfl, by omega, rfl, fun i h => by omega, HO0.out, HB0.out⟩
  case round =>
    obtain ⟨j, m, hm, hmn, rfl, hz, ho, hW⟩ := hrel
    have HM := Lib.hid hm
    have HZ := Lib.hid hz
    have HO := Lib.hid ho
    have HW := Lib.hid hW
    clear hm hz ho hW HO0 HB0
    by_cases h4 : m + 4 ≤ n
    · have h1 : (m : Int) + 4 ≤ (n : Int) := by omega
      obtain ⟨b, off, rfl, hb, hc⟩ := rb_byt HR.out (i := m) (by rw [HN.out]; omega)
      have HCC := Lib.hid hc
      clear hc
      have hlc := HLC.out
      rw [HN.out] at hlc
      have g1 : (n : Int) ≤ (c : Int) := by omega
      have hap : ∀ W, (Instr.arrayAt 43 (.slice (some ⟨b, off + m, none⟩) 4 (c - m))).run Tryd.prog W = .ok (.pointer (some ⟨b, off + m, none⟩)) W := fun W => run_arrayAt Tryd.underlying43 _ 4 _ (Nat.le_refl 4) W
      have hsl : ∀ W, (Instr.slice 55 (.slice (some ⟨b, off, none⟩) n c) (some (.int .i64 (m : Int))) (some (.int .i64 ((m : Int) + 4))) none).run Tryd.prog W = .ok (.slice (some ⟨b, off + m, none⟩) 4 (c - m)) W := fun W => slice_mid Tryd.underlying55 (by kernel_rfl) b off n c m 4 (by omega) (by omega) W
      have hd := dE_or l j
      have HD : Hid (∀ W, Below w.heap.size w W → Calls Tryd.prog 27 #[byV (byt l m) (byt l (m + 1)) (byt l (m + 2)) (byt l (m + 3))] W fun e w' => e = .returned (.tuple #[dV l j, .int .i64 (dE l j)]) ∧ Below W.heap.size W w') := Lib.hid fun W hb => by
        rw [HM.out]; exact decode_any _ _ _ _ W (HE.out.below hb) (byt_lt _ _) (byt_lt _ _) (byt_lt _ _) (byt_lt _ _)
      have HRG : Hid (wr.rangeAt b (off + m) [.int .u8 (byt l m), .int .u8 (byt l (m + 1)), .int .u8 (byt l (m + 2)), .int .u8 (byt l (m + 3))]) := Lib.hid (by
        intro k v hv
        have hk : k < 4 := by have := (List.getElem?_eq_some_iff.1 hv).1; simpa using this
        have h := HCC.out (m + k) (by rw [HN.out]; omega)
        have h' := (HW.out.cell (p := ⟨b, off + (m + k), none⟩) hb).trans h
        rw [← Nat.add_assoc] at h'
        rw [h']
        match k, hk, hv with
        | 0, _, hv => simpa using hv
        | 1, _, hv => simpa using hv
        | 2, _, hv => simpa using hv
        | 3, _, hv => simpa using hv)
      rcases hd with ⟨d1, d2⟩ | ⟨d1, d2⟩
      · rw [d1, d2] at HD
        have HD1 := Lib.hid d1
        obtain ⟨q, hq⟩ : ∃ q, dQ l j = q := ⟨_, rfl⟩
        rw [hq] at HD
        have HQQ := Lib.hid hq
        clear d1 d2 hq
        replace HD : Hid (∀ W, Below w.heap.size w W → Calls Tryd.prog 27 #[byV (byt l m) (byt l (m + 1)) (byt l (m + 2)) (byt l (m + 3))] W fun e w' => e = .returned (.tuple #[inV q.o q.a q.b q.c, .int .i64 0]) ∧ Below W.heap.size W w') := HD
        go_wp2_with (first
          | ((with_reducible show wpList _ _ _ (⟨some 23, _, _, _, _, _⟩ :: _) _ _); refine wpList_load_mid (by rfl) 43 (.tmp 22) (by rfl) b (off + m) (by rfl) _ _ HRG.out Tryd.underlying43 rfl infoB ?_)
          | (go_at_call 27; refine (HD.out _ HW.out).mono ?_; rintro e V ⟨rfl, hb2⟩; have HO2 := Lib.hid (HO.out.under hb2); have HW2 := Lib.hid (HW.out.trans (hb2.mono HW.out.size)); clear hb2)
          | (at_builtin; refine wpList_pushQG encQ_ok insT_ok rfl (.tmp 31) (.tmp 33) rfl w.heap.size _ (dL l j) rfl q _ rfl (HO2.out.alloc _) _ rfl ?_ ?_ ?_ ?_ ?_; (focus (simp)); (focus (rw [dL_len]; have := HM.out; unfold maxLen; omega)); (focus (rw [dL_len]; have := HM.out; omega)); (focus (have := HW2.out.size; simp; omega)); intro v3 W3 ho3 hg3; have HO3 := Lib.hid ho3; have HG3 := Lib.hid ((HW2.out.alloc HW2.out.size _).trans (hg3.below (B := w.heap.size) (by have := HW2.out.size; simp; omega) (fun i hi => (HO2.out.lt i hi).1))); clear ho3 hg3))
        go_roundw
        case rel =>
          refine ⟨j + 1, m + 4, by have := HM.out; omega, h4, by go_num, fun i hi => ?_, ?_, HG3.out⟩
          · by_cases e : i = j
            · subst e; exact HD1.out
            · exact HZ.out i (by omega)
          · rw [dL_succ, HQQ.out]; exact HO3.out
        case measure => simp [intOf] <;> omega
      · rw [d1, d2] at HD
        have HD1 := Lib.hid d1
        clear d1 d2
        go_wp2_with (first
          | ((with_reducible show wpList _ _ _ (⟨some 23, _, _, _, _, _⟩ :: _) _ _); refine wpList_load_mid (by rfl) 43 (.tmp 22) (by rfl) b (off + m) (by rfl) _ _ HRG.out Tryd.underlying43 rfl infoB ?_)
          | (go_at_call 27; refine (HD.out _ HW.out).mono ?_; rintro e V ⟨rfl, hb2⟩; have HO2 := Lib.hid (HO.out.under hb2); have HW2 := Lib.hid (HW.out.trans (hb2.mono HW.out.size)); clear hb2))
        go_ret3
        refine ⟨_, [], (m : Int), 24, rfl, OQ.nil _ _, .inl ⟨j, by have := HM.out; have := HN.out; omega, HZ.out, HD1.out, rfl, by have := HM.out; omega, rfl⟩, HW2.out.alloc HW2.out.size _⟩
    · have h1 : ¬ (m : Int) + 4 ≤ (n : Int) := by omega
      by_cases h5 : m < n
      · have h2 : (m : Int) < (n : Int) := by omega
        go_wp2
        go_ret3
        exact ⟨_, [], (m : Int), 28, rfl, OQ.nil _ _, .inr ⟨j, by have := HM.out; have := HN.out; omega, by have := HM.out; have := HN.out; omega, HZ.out, .inl ⟨by have := HM.out; have := HN.out; omega, rfl, by have := HM.out; omega, rfl⟩⟩, HW.out⟩
      · have h2 : ¬ (m : Int) < (n : Int) := by omega
        go_wp2
        go_ret3
        exact ⟨_, dL l j, 0, 0, rfl, HO.out, .inr ⟨j, by have := HM.out; have := HN.out; omega, by have := HM.out; have := HN.out; omega, HZ.out, .inr ⟨by have := HM.out; have := HN.out; omega, rfl, rfl, rfl⟩⟩, HW.out⟩
end Go.Proofs.YtajkccigmiegkaaDoor
