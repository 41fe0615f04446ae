/- The walk of the law Sha256Pieces: what it says of every text and its pieces. -/
import Derived.Test.YtedmnepilbfihaaDoorSLens
set_option linter.unusedVariables false
namespace Go.Proofs.YtedmnepilbfihaaDoor
open Go.RowKit

theorem new_any (w : World) : Calls Tryd.prog 31 #[] w fun e w' => e = .returned (.pointer (some ⟨w.heap.size, 0, none⟩)) ∧ HashIs w' w.heap.size [] ∧ Below w.heap.size w w' := by
  obtain ⟨z, ez⟩ : ∃ z, z = zeroH.toArray := ⟨_, rfl⟩
  have hz := (zero_of_info zeroHash).1
  rw [← ez] at hz
  have HZ := Lib.hid ez
  clear ez
  go_enter Tryd.func31, Tryd.ntmps31
  go_wp2
  go_ret
  refine ⟨rfl, ?_, below_alloc0 _ _ (Nat.le_refl _)⟩
  rw [HZ.out]
  exact hash_new w 67

theorem len_any (h : Nat) (m : List UInt8) (w : World) (H : HashIs w h m) : Calls Tryd.prog 35 #[.pointer (some ⟨h, 0, none⟩)] w fun e w' => e = .returned (.int .i64 (m.length : Int)) ∧ w = w' := by
  have hc := H.lenCell
  clear H
  obtain ⟨L, hL⟩ : ∃ L, L = m.length := ⟨_, rfl⟩
  rw [← hL] at hc ⊢
  clear hL
  go_enter Tryd.func35, Tryd.ntmps35
  go_wp2
  go_ret
  exact ⟨rfl, rfl⟩

theorem infoH : (Tryd.prog.info? 67).map (·.size) = some 73 := by kernel_rfl
theorem zeroH_one : ∀ v ∈ zeroH, v.oneCell' = true := by
  intro v hv
  unfold zeroH at hv
  rcases List.mem_append.1 hv with hv | hv
  · rcases List.mem_append.1 hv with hv | hv
    · rw [List.eq_of_mem_replicate hv]; rfl
    · rw [List.eq_of_mem_replicate hv]; rfl
  · rw [List.mem_singleton.1 hv]; rfl
theorem HashIs.all {w : World} {h : Nat} {m : List UInt8} (H : HashIs w h m) : Arr w h 0 ((wordsOf m).map wv ++ (restOf m).map bv ++ [.int .i64 (m.length : Int)]) := by
  have l1 : ((wordsOf m).map wv).length = 8 := by rw [List.length_map, wordsOf_length]
  have l2 : ((restOf m).map bv).length = 64 := by rw [List.length_map, restOf_length]
  have key : ∀ j, j < 73 → ∃ v, ((wordsOf m).map wv ++ (restOf m).map bv ++ [Value.int .i64 (m.length : Int)])[j]? = some v ∧ w.cell? ⟨h, 0 + j, none⟩ = some v ∧ w.frozen? ⟨h, 0 + j, none⟩ = false := by
    intro j hj
    by_cases h1 : j < 8
    · have e : ((wordsOf m).map wv)[j]? = some (((wordsOf m).map wv)[j]'(by omega)) := List.getElem?_eq_getElem _
      refine ⟨_, ?_, H.words.cell e, H.words.frozen (by omega)⟩
      rw [List.getElem?_append_left (by simp only [List.length_append]; omega), List.getElem?_append_left (by omega)]; exact e
    · by_cases h2 : j < 72
      · have e : ((restOf m).map bv)[j - 8]? = some (((restOf m).map bv)[j - 8]'(by omega)) := List.getElem?_eq_getElem _
        have c := H.rest.cell e
        have f := H.rest.frozen (i := j - 8) (by omega)
        rw [show 8 + (j - 8) = 0 + j by omega] at c f
        refine ⟨_, ?_, c, f⟩
        rw [List.getElem?_append_left (by simp only [List.length_append]; omega), List.getElem?_append_right (by omega), l1]; exact e
      · have e72 : j = 72 := by omega
        subst e72
        refine ⟨_, ?_, H.len.cell (i := 0) rfl, H.len.frozen (i := 0) (by simp)⟩
        rw [List.getElem?_append_right (by simp only [List.length_append]; omega), List.length_append, l1, l2]; rfl
  have hlen : ((wordsOf m).map wv ++ (restOf m).map bv ++ [Value.int .i64 (m.length : Int)]).length = 73 := by simp only [List.length_append, l1, l2]; rfl
  refine ⟨fun j v hv => ?_, fun j hj => ?_⟩
  · obtain ⟨v', e1, e2, _⟩ := key j (by have := (List.getElem?_eq_some_iff.1 hv).1; omega)
    rw [hv] at e1; rw [e2, e1]
  · obtain ⟨v', _, e2, e3⟩ := key j (by omega)
    rw [e2]; exact ⟨rfl, e3⟩
theorem hash_of {w : World} {h : Nat} {m : List UInt8} (H : Arr w h 0 ((wordsOf m).map wv ++ (restOf m).map bv ++ [.int .i64 (m.length : Int)])) : HashIs w h m := by
  have l1 : ((wordsOf m).map wv).length = 8 := by rw [List.length_map, wordsOf_length]
  have l2 : ((restOf m).map bv).length = 64 := by rw [List.length_map, restOf_length]
  refine ⟨?_, ?_, ?_⟩
  · have := rangeAt_part (a := []) (b := (wordsOf m).map wv) (c := (restOf m).map bv ++ [.int .i64 (m.length : Int)]) (by rw [List.nil_append, ← List.append_assoc]; exact H)
    exact this
  · have := rangeAt_part (a := (wordsOf m).map wv) (b := (restOf m).map bv) (c := [.int .i64 (m.length : Int)]) H
    rw [l1] at this; exact this
  · have := rangeAt_part (a := (wordsOf m).map wv ++ (restOf m).map bv) (b := [.int .i64 (m.length : Int)]) (c := []) (by rw [List.append_nil]; exact H)
    rw [List.length_append, l1, l2] at this; exact this
theorem hash_len (m : List UInt8) : ((wordsOf m).map wv ++ (restOf m).map bv ++ [Value.int .i64 (m.length : Int)]).length = 73 := by
  simp only [List.length_append, List.length_map, wordsOf_length, restOf_length]; rfl
theorem zeroH_nil : ((wordsOf []).map wv ++ (restOf []).map bv ++ [Value.int .i64 (([] : List UInt8).length : Int)]) = zeroH := rfl

set_option maxRecDepth 100000 in
theorem reset_any (h : Nat) (m : List UInt8) (w : World) (H : HashIs w h m) : Calls Tryd.prog 33 #[.pointer (some ⟨h, 0, none⟩)] w fun e w' => e = .returned (.int .i64 0) ∧ HashIs w' h [] ∧ w.grownBy w' (some h) := by
  have HA := Lib.hid H.all
  have HL := Lib.hid (hash_len m)
  clear H
  obtain ⟨cs, hcs⟩ : ∃ cs, cs = (wordsOf m).map wv ++ (restOf m).map bv ++ [Value.int .i64 (m.length : Int)] := ⟨_, rfl⟩
  rw [← hcs] at HA HL
  clear hcs
  have hz := (zero_of_info zeroHash).1
  obtain ⟨z, ez⟩ : ∃ z, z = zeroH.toArray := ⟨_, rfl⟩
  rw [← ez] at hz
  have HZ := Lib.hid ez
  have HS : Hid ((Tryd.prog.info? 67).map (·.size) = some z.size) := Lib.hid (by rw [ez, infoH]; rfl)
  have HO1 := Lib.hid (show z.all (·.oneCell') = true by rw [ez]; exact all_oneCell_toArray zeroH_one)
  have HTH := Lib.hid (show w.there h 0 z.size by rw [ez]; exact HA.out.thereA zeroH (by rw [HL.out]; rfl))
  clear ez
  go_enter Tryd.func33, Tryd.ntmps33
  go_wp2_with (refine wpList_store_mid (by rfl) 67 (.tmp 7) (.tmp 6) (by rfl) h 0 z (by rfl) (by rfl) HTH.out HS.out HO1.out ?_)
  go_ret
  refine ⟨rfl, ?_, grown_setCells _ _ _ _ (World.grownBy.refl _ _)⟩
  rw [HZ.out]
  have := HA.out.sets zeroH (by rw [HL.out]; rfl)
  rw [← zeroH_nil] at this
  exact hash_of this

theorem neq_dig (d : List UInt8) (hd : d.length = 32) (w : World) : (binOp .neq 25 (.agg (d.map bv).toArray) (.agg (d.map bv).toArray)).run Tryd.prog w = .ok (.bool false) w := by
  have h : (Op.equalIn 10000 25 (.agg (d.map bv).toArray) (.agg (d.map bv).toArray)).run Tryd.prog w = .ok (d == d) w := run_equalIn_bytes w 9998 25 5 32 Tryd.underlying25 Tryd.underlying5 size1 d d hd hd
  rw [run_neq_struct, h]
  simp [Result.andThen]
theorem drop_all (R : ByteArray) : R.data.toList.drop R.size = [] := List.drop_eq_nil_of_le (by simp)
/-- What the rounds stand on. -/
def PS (w : World) (h : Nat) (cuts : List UInt8) (A : Option Addr) (k : List UInt8) (W : World) : Prop := HashIs W h k ∧ Tab W ∧ Below w.heap.size w W ∧ RB W w.heap.size A cuts
theorem PS.grown {w W W' : World} {h : Nat} {cuts : List UInt8} {A : Option Addr} {k k' : List UInt8} (H : PS w h cuts A k W) (hg : W.grownBy W' (some h)) (hk : HashIs W' h k') (h0 : 0 < h) (hw : w.heap.size ≤ h) : PS w h cuts A k' W' := by
  have hb := H.2.2.1.grown hg H.2.2.1.size (fun k e => by injection e with e; omega)
  exact ⟨hk, H.2.1.grown hg h0, hb, H.2.2.2.keep fun p hp => World.cell?_of_block (hg.block p.block (Nat.lt_of_lt_of_le hp H.2.2.1.size) (by intro e; injection e with e; omega))⟩
theorem PS.below {w W W' : World} {h : Nat} {cuts : List UInt8} {A : Option Addr} {k : List UInt8} (H : PS w h cuts A k W) (hb : Below W.heap.size W W') (h0 : 0 < W.heap.size) : PS w h cuts A k W' :=
  ⟨H.1.below hb H.1.lt, H.2.1.below hb h0, H.2.2.1.trans (hb.mono H.2.2.1.size), H.2.2.2.below (hb.mono H.2.2.1.size)⟩

set_option maxHeartbeats 4000000 in
set_option maxRecDepth 100000 in
theorem sha256Pieces_walk (S0 T0 : ByteArray) (A : Option Addr) (cuts : List UInt8) (cap : Nat) (w : World) (hT : Tab w) (hS : S0.size ≤ maxLen) (hT0 : T0.size ≤ maxLen) (hr : RB w w.heap.size A cuts) (hcap : cuts.length ≤ cap) (hcm : cap ≤ maxLen) :
    Calls Tryd.prog 11 #[.string S0, .string T0, .slice A cuts.length cap] w fun e w' => e = .returned (.bool true) ∧ Below w.heap.size w w' := by
  obtain ⟨s, es⟩ : ∃ s, s = shortS S0 600 := ⟨_, rfl⟩
  obtain ⟨t, et⟩ : ∃ t, t = shortS T0 200 := ⟨_, rfl⟩
  have hs : s.size ≤ 600 := by rw [es]; exact shortS_size _ _
  have ht : t.size ≤ 200 := by rw [et]; exact shortS_size _ _
  have K1 : Hid (∀ W, Calls Tryd.prog 13 #[.string S0, .int .i64 600] W fun e w' => e = .returned (.string s) ∧ W = w') := Lib.hid (fun W => by rw [es]; exact short_any S0 600 W (by omega))
  have K2 : Hid (∀ W, Calls Tryd.prog 13 #[.string T0, .int .i64 200] W fun e w' => e = .returned (.string t) ∧ W = w') := Lib.hid (fun W => by rw [et]; exact short_any T0 200 W (by omega))
  have h0 : 0 < w.heap.size := hT.1
  obtain ⟨C, hC⟩ : ∃ C, C = cuts.length := ⟨_, rfl⟩
  have hCb : C ≤ 9223372036854775807 := by unfold maxLen at hcm; omega
  have KN := Lib.hid (new_any w)
  have HT := Lib.hid hT
  have HR := Lib.hid hr
  have HC := Lib.hid hC
  rw [← hC]
  have hccap : C ≤ cap := by omega
  have HCM := Lib.hid hcm
  have HCB := Lib.hid hCb
  clear es et hT hr hC hS hT0 hcm hCb hcap
  go_enter Tryd.func11, Tryd.ntmps11
  go_wp2_with (first
    | (go_at_call 13; (with_reducible refine (K1.out _).mono ?_); rintro e w' ⟨rfl, rfl⟩)
    | (go_at_call 13; (with_reducible refine (K2.out _).mono ?_); rintro e w' ⟨rfl, rfl⟩)
    | (go_at_call 31; refine KN.out.mono ?_; rintro e W1 ⟨rfl, hh1, hb1⟩; have P1 : Hid (PS w w.heap.size cuts A [] W1) := Lib.hid ⟨hh1, HT.out.below hb1 h0, hb1, HR.out.below hb1⟩; clear hh1 hb1)
    | (go_at_call 14; refine (known_any W1 P1.out.2.1).mono ?_; rintro e W2 ⟨rfl, hb2⟩; have P2 := Lib.hid (P1.out.below hb2 P1.out.2.1.1); clear hb2)
    | (go_at_call 32; refine (write_any w.heap.size [] t W2 P2.out.1 P2.out.2.1 h0 (by simp; omega)).mono ?_; rintro e W3 ⟨rfl, hh3, hg3⟩; have P3 := Lib.hid (P2.out.grown hg3 hh3 h0 (Nat.le_refl _)); clear hh3 hg3)
    | (go_at_call 33; refine (reset_any w.heap.size _ W3 P3.out.1).mono ?_; rintro e W4 ⟨rfl, hh4, hg4⟩; have P4 := Lib.hid (P3.out.grown hg4 hh4 h0 (Nat.le_refl _)); clear hh4 hg4))
  clear P1 P2 P3
  go_loopw [8, 9] (fun u i wr => ∃ (R : ByteArray) (k : List UInt8) (n : Nat), u = .string R ∧ i = .int .i64 (n : Int) ∧ n ≤ 40 ∧ n ≤ C ∧ k ++ R.data.toList = s.data.toList ∧ PS w w.heap.size cuts A k wr) (fun _ i _ => 40 - (intOf i).toNat)
  case atStart => exact ⟨s, [], 0, rfl, rfl, by omega, by omega, rfl, P4.out⟩
  case round =>
    obtain ⟨R, k, n, rfl, rfl, hn40, hnC, hk, hP⟩ := hrel
    have hkl : k.length + R.size = s.size := by
      have := congrArg List.length hk
      rw [List.length_append, bytes_length, bytes_length] at this; exact this
    have HP := Lib.hid hP
    have HK := Lib.hid hk
    by_cases hgo : n < C ∧ n < 40
    · obtain ⟨g1, g2⟩ := hgo
      have g1i : (n : Int) < (C : Int) := by omega
      have g2i : (n : Int) < 40 := by omega
      obtain ⟨b, off, c, rfl, hbB, hcn, hcell⟩ := hP.2.2.2.at_ (k := n) (by rw [← HC.out]; exact g1)
      have hn0 : (0 : Int) ≤ (n : Int) := by omega
      obtain ⟨m, hm⟩ : ∃ m, m = min c.toNat R.size := ⟨_, rfl⟩
      have hmR : m ≤ R.size := by omega
      have hPl : (R.extract 0 m).data.toList = R.data.toList.take m := by
        rw [ByteArray.data_extract, Array.toList_extract, List.extract_eq_take_drop]; simp
      obtain ⟨K', hK'⟩ : ∃ K', K' = k ++ (R.extract 0 m).data.toList := ⟨_, rfl⟩
      have hKl : K'.length = k.length + m := by
        rw [hK', List.length_append, hPl, List.length_take, bytes_length]; omega
      have hPz : (R.extract 0 m).size = m := by rw [← bytes_length, hPl, List.length_take, bytes_length]; omega
      obtain ⟨d, hd⟩ : ∃ d, d = sumS K' := ⟨_, rfl⟩
      have hdl : d.length = 32 := by rw [hd]; exact sumS_length _
      have hneq := neq_dig d hdl
      obtain ⟨L, hL⟩ : ∃ L, L = K'.length := ⟨_, rfl⟩
      have HW : Hid (Calls Tryd.prog 32 #[.pointer (some ⟨w.heap.size, 0, none⟩), .string (R.extract 0 m)] wr fun e w' => e = .returned (.int .i64 0) ∧ PS w w.heap.size cuts (some ⟨b, off, none⟩) K' w') := Lib.hid ((write_any w.heap.size k (R.extract 0 m) wr hP.1 hP.2.1 h0 (by omega)).mono fun e w' ⟨he, hh, hg⟩ => ⟨he, hP.grown hg (by rw [hK']; exact hh) h0 (Nat.le_refl _)⟩)
      have HSm : Hid (∀ W, PS w w.heap.size cuts (some ⟨b, off, none⟩) K' W → Calls Tryd.prog 34 #[.pointer (some ⟨w.heap.size, 0, none⟩)] W fun e w' => e = .returned (.agg (d.map bv).toArray) ∧ PS w w.heap.size cuts (some ⟨b, off, none⟩) K' w') := Lib.hid fun W h => by
        rw [hd]
        exact (sum_any w.heap.size K' W h.1 h.2.1 (by omega)).mono fun e w' ⟨he, hb⟩ => ⟨he, h.below hb h.2.1.1⟩
      have HLn : Hid (∀ W, PS w w.heap.size cuts (some ⟨b, off, none⟩) K' W → Calls Tryd.prog 35 #[.pointer (some ⟨w.heap.size, 0, none⟩)] W fun e w' => e = .returned (.int .i64 (L : Int)) ∧ W = w') := Lib.hid fun W h => by rw [hL]; exact len_any _ K' W h.1
      have hLe : L + R.size = s.size + m := by omega
      have HKN : Hid (K' ++ (R.extract m R.size).data.toList = s.data.toList) := Lib.hid (by
        rw [hK', hPl, extract_end, List.append_assoc, List.take_append_drop]; exact hk)
      have hcb : (c.toNat : Int) < 256 := by have := c.toNat_lt; omega
      have hmi : min (c.toNat : Int) (R.size : Int) = (m : Int) := by omega
      have hm0 : (0 : Int) ≤ (m : Int) := by omega
      have hmRi : (m : Int) ≤ (R.size : Int) := by omega
      have hlast : ((L : Int) != (s.size : Int) - ((R.size : Int) - (m : Int))) = false := by simp; omega
      clear hP hk hK' hKl hPz hd hdl hL hPl hm hLe
      go_wp2_with (first
        | (go_at_call 32; (with_reducible refine HW.out.mono ?_); rintro e V1 ⟨rfl, hp1⟩; have Q1 := Lib.hid hp1; clear hp1)
        | (go_at_call 34; (with_reducible refine (HSm.out _ Q2.out).mono ?_); rintro e V3 ⟨rfl, hp3⟩; have Q3 := Lib.hid hp3; clear hp3)
        | (go_at_call 34; (with_reducible refine (HSm.out _ Q1.out).mono ?_); rintro e V2 ⟨rfl, hp2⟩; have Q2 := Lib.hid hp2; clear hp2)
        | (go_at_call 35; (with_reducible refine (HLn.out _ Q3.out).mono ?_); rintro e V4 ⟨rfl, rfl⟩))
      go_roundw
      case rel => exact ⟨R.extract m R.size, _, n + 1, rfl, rfl, by omega, by omega, HKN.out, Q3.out⟩
      case measure => simp [intOf] <;> omega
    · obtain ⟨d, hd⟩ : ∃ d, d = sumS s.data.toList := ⟨_, rfl⟩
      have hdl : d.length = 32 := by rw [hd]; exact sumS_length _
      have heq := fun W => eq_arr d d hdl hdl W
      rw [show (d == d) = true by simp] at heq
      have HW : Hid (Calls Tryd.prog 32 #[.pointer (some ⟨w.heap.size, 0, none⟩), .string R] wr fun e w' => e = .returned (.int .i64 0) ∧ PS w w.heap.size cuts A s.data.toList w') := Lib.hid ((write_any w.heap.size k R wr hP.1 hP.2.1 h0 (by omega)).mono fun e w' ⟨he, hh, hg⟩ => ⟨he, hP.grown hg (by rw [← hk]; exact hh) h0 (Nat.le_refl _)⟩)
      have HSm : Hid (∀ W, PS w w.heap.size cuts A s.data.toList W → Calls Tryd.prog 34 #[.pointer (some ⟨w.heap.size, 0, none⟩)] W fun e w' => e = .returned (.agg (d.map bv).toArray) ∧ PS w w.heap.size cuts A s.data.toList w') := Lib.hid fun W h => by
        rw [hd]
        exact (sum_any w.heap.size s.data.toList W h.1 h.2.1 (by simp; omega)).mono fun e w' ⟨he, hb⟩ => ⟨he, h.below hb h.2.1.1⟩
      have HLn : Hid (∀ W, PS w w.heap.size cuts A s.data.toList W → Calls Tryd.prog 35 #[.pointer (some ⟨w.heap.size, 0, none⟩)] W fun e w' => e = .returned (.int .i64 (s.size : Int)) ∧ W = w') := Lib.hid fun W h => by
        have := len_any _ s.data.toList W h.1
        rw [bytes_length] at this; exact this
      have HRf : Hid (∀ W, Calls Tryd.prog 16 #[.string s] W fun e w' => e = .returned (.agg (d.map bv).toArray) ∧ Below W.heap.size W w') := Lib.hid fun W => by rw [hd]; exact refSum_any s W (by omega)
      clear hd hdl hP hk
      by_cases g1 : n < C
      all_goals
        first | (have g1i : (n : Int) < (C : Int) := by omega) | (have g1i : ¬ (n : Int) < (C : Int) := by omega)
        have g2i : ¬ ((n : Int) < (C : Int) ∧ (n : Int) < 40) := by omega
        first | (have g3i : ¬ (n : Int) < 40 := by omega) | skip
        clear g2i
        go_wp2_with (first
          | (go_at_call 32; (with_reducible refine HW.out.mono ?_); rintro e V1 ⟨rfl, hp1⟩; have Q1 := Lib.hid hp1; clear hp1)
          | (go_at_call 35; (with_reducible refine (HLn.out _ Q1.out).mono ?_); rintro e V2 ⟨rfl, rfl⟩)
          | (go_at_call 34; (with_reducible refine (HSm.out _ Q1.out).mono ?_); rintro e V3 ⟨rfl, hp3⟩; have Q3 := Lib.hid hp3; clear hp3)
          | (go_at_call 16; (with_reducible refine (HRf.out _).mono ?_); rintro e V4 ⟨rfl, hp4⟩; have Q4 := Lib.hid (Q3.out.below hp4 Q3.out.2.1.1); clear hp4))
        go_ret
        exact ⟨rfl, Q4.out.2.2.1⟩
end Go.Proofs.YtedmnepilbfihaaDoor
