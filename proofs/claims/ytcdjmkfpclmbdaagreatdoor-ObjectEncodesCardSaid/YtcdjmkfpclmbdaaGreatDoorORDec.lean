/- object: the reference's take, piece and Decode. -/
import Derived.Test.YtcdjmkfpclmbdaaGreatDoorODec
import Derived.Test.YtcdjmkfpclmbdaaGreatDoorOREnc
set_option linter.unusedVariables false
namespace Go.Proofs.YtcdjmkfpclmbdaaGreatDoor
open Go.RowKit

theorem ext_from (S : ByteArray) (m : Nat) : S.extract m S.size = sv (S.data.toList.drop m) := by
  apply ByteArray.ext
  apply Array.ext'
  have h : S.data.toList.length = S.size := by simp
  have e : (S.data.toList.drop m).take (S.size - m) = S.data.toList.drop m := List.take_of_length_le (by rw [List.length_drop]; omega)
  rw [← e]
  simp [sv, List.extract_eq_take_drop]
theorem ext_to (S : ByteArray) (m : Nat) : S.extract 0 m = sv (S.data.toList.take m) := by
  apply ByteArray.ext
  apply Array.ext'
  simp [sv, List.extract_eq_take_drop]
set_option maxHeartbeats 2000000 in
set_option maxRecDepth 100000 in
theorem take_any (S : ByteArray) (w : World) (hS : S.size ≤ 1000000) :
    Calls Tryz.prog 66 #[.string S] w fun e w' => e = .returned (.tuple #[.int .i64 (tk true S.data.toList).1, .string (sv (tk true S.data.toList).2)]) ∧ Below w.heap.size w w' := by
  obtain ⟨cap, VC, hrun, hbc, hrb⟩ := conv_bytes S w
  have hl : S.data.toList.length = S.size := by simp
  have HP := Lib.hid (Cod.refParse_any _ S.data.toList cap _ VC hrb (by omega))
  have hsz := Cod.grp_size S.data.toList 9
  have HB := Lib.hid hbc
  have HX : Hid (∀ m, S.extract m S.size = sv (S.data.toList.drop m)) := Lib.hid (ext_from S)
  unfold tk
  rw [if_pos rfl]
  obtain ⟨NL, hNL⟩ : ∃ n, n = S.data.toList.length := ⟨_, rfl⟩
  rw [← hNL] at hrun HP
  generalize hg : Cod.grp S.data.toList 9 = G at *
  obtain ⟨n, sz, e⟩ := G
  simp only at HP hsz ⊢
  have hsz1 : (sz : Int) ≤ (S.size : Int) := by omega
  have hsz0 : (0 : Int) ≤ (sz : Int) := by omega
  clear hrb hbc hg hsz hNL hl
  by_cases he : e = 0
  · subst he
    rw [if_neg (by simp)]
    go_enter Tryz.func66, Tryz.ntmps66
    go_wp2_with (go_at_call 101; refine HP.out.mono ?_; rintro e w' ⟨rfl, rfl⟩)
    go_quiet (fail)
    go_wp2
    go_ret2
    exact ⟨by rw [← HX.out] <;> rfl, below_drewN HB.out _⟩
  · have h1 : ((e : Int) != 0) = true := by simp; omega
    rw [if_pos he]
    clear he
    go_enter Tryz.func66, Tryz.ntmps66
    go_wp2_with (go_at_call 101; refine HP.out.mono ?_; rintro e w' ⟨rfl, rfl⟩)
    go_ret2
    exact ⟨rfl, HB.out⟩

theorem tk_len (b : Bool) (r : List UInt8) : (tk b r).2.length ≤ r.length := by
  unfold tk
  split
  · split
    · simp
    · simp
  · exact Nat.le_refl _
theorem tk_int (r : List UInt8) : ∃ n : Nat, (tk true r).1 = n ∨ (tk true r).1 = -1 := by
  unfold tk
  rw [if_pos rfl]
  split
  · exact ⟨0, .inr rfl⟩
  · exact ⟨_, .inl rfl⟩
theorem pc_len (b : Bool) (r : List UInt8) : (pc b r).1.length ≤ r.length ∧ (pc b r).2.length ≤ r.length := by
  have h := tk_len true r
  unfold pc
  split
  · split
    · simp
    · refine ⟨?_, ?_⟩
      · show ((tk true r).2.take _).length ≤ _
        rw [List.length_take]; omega
      · show ((tk true r).2.drop _).length ≤ _
        rw [List.length_drop]; omega
  · simp
set_option maxHeartbeats 2000000 in
set_option maxRecDepth 100000 in
theorem piece_any (S : ByteArray) (w : World) (hS : S.size ≤ 1000000) :
    Calls Tryz.prog 67 #[.string S] w fun e w' => e = .returned (.tuple #[.string (sv (pc true S.data.toList).1), .string (sv (pc true S.data.toList).2)]) ∧ Below w.heap.size w w' := by
  have HT := Lib.hid (take_any S w hS)
  have hl : S.data.toList.length = S.size := by simp
  have htl := tk_len true S.data.toList
  unfold pc
  rw [if_pos rfl]
  obtain ⟨n, r, hnr⟩ : ∃ n r, (n, r) = tk true S.data.toList := ⟨_, _, rfl⟩
  rw [← hnr] at HT htl ⊢
  simp only at HT htl ⊢
  obtain ⟨R, hR⟩ : ∃ R, R = sv r := ⟨_, rfl⟩
  have hRs : R.size = r.length := by rw [hR, sv_size]
  have hRd : R.data.toList = r := by rw [hR, sv_list]
  have HX : Hid (∀ m, R.extract m R.size = sv (r.drop m)) := Lib.hid (by rw [← hRd]; exact ext_from R)
  have HY : Hid (∀ m, R.extract 0 m = sv (r.take m)) := Lib.hid (by rw [← hRd]; exact ext_to R)
  rw [← hR] at HT
  clear hnr hR hRd
  by_cases h0 : n < 0
  · rw [if_pos (.inl h0)]
    clear htl hRs
    go_enter Tryz.func67, Tryz.ntmps67
    go_wp2_with (go_at_call 66; refine HT.out.mono ?_; rintro e V1 ⟨rfl, hb⟩; have HB := Lib.hid hb; clear hb)
    go_ret2
    exact ⟨rfl, HB.out⟩
  · by_cases h1 : (r.length : Int) < n
    · rw [if_pos (.inr h1)]
      have h2 : (R.size : Int) < n := by omega
      clear htl h1 hRs
      go_enter Tryz.func67, Tryz.ntmps67
      go_wp2_with (go_at_call 66; refine HT.out.mono ?_; rintro e V1 ⟨rfl, hb⟩; have HB := Lib.hid hb; clear hb)
      go_ret2
      exact ⟨rfl, HB.out⟩
    · rw [if_neg (by omega)]
      obtain ⟨k, rfl⟩ := Int.eq_ofNat_of_zero_le (show 0 ≤ n by omega)
      rw [Int.toNat_natCast]
      have h2 : ¬ (R.size : Int) < (k : Int) := by omega
      have h3 : (k : Int) ≤ (R.size : Int) := by omega
      have h4 : (0 : Int) ≤ (k : Int) := by omega
      clear htl h1 h0 hRs
      go_enter Tryz.func67, Tryz.ntmps67
      go_wp2_with (go_at_call 66; refine HT.out.mono ?_; rintro e V1 ⟨rfl, hb⟩; have HB := Lib.hid hb; clear hb)
      go_quiet (fail)
      go_wp2
      go_ret2
      exact ⟨by rw [← HX.out, ← HY.out] <;> rfl, below_drewN HB.out _⟩

theorem infoRN : (Tryz.prog.info? 23).map (·.size) = some 5 := by kernel_rfl
/-- The reference's Decode's blocks: its result, the name. -/
def RPB (w : World) (cs : Array Value) (V : World) : Prop := Blk V w.heap.size 23 (nmC 0 ⟨#[]⟩ 0 0 ⟨#[]⟩) ∧ Blk V (w.heap.size + 1) 23 cs ∧ Below w.heap.size w V
theorem RPB.bel {w : World} {cs : Array Value} {V : World} (h : RPB w cs V) : Below w.heap.size w V := h.2.2
theorem RPB.under {w : World} {cs : Array Value} {V V' : World} (h : RPB w cs V) (hb : Below V.heap.size V V') : RPB w cs V' :=
  ⟨h.1.under hb, h.2.1.under hb, h.2.2.trans (hb.mono h.2.2.size)⟩
theorem RPB.set_ {w : World} {cs : Array Value} {V : World} (h : RPB w cs V) (j : Nat) (u : Value) : RPB w (cs.setIfInBounds j u) (V.setCell ⟨w.heap.size + 1, j, none⟩ u) :=
  ⟨h.1.far (p := ⟨w.heap.size + 1, j, none⟩) (by show w.heap.size ≠ w.heap.size + 1; omega) u, h.2.1.set_ j u, h.2.2.setCell (p := ⟨w.heap.size + 1, j, none⟩) (by show w.heap.size ≤ w.heap.size + 1; omega) u⟩
theorem rpb_new (w : World) (cs : Array Value) : RPB w cs ((w.alloc (.cells (nmC 0 ⟨#[]⟩ 0 0 ⟨#[]⟩) 23)).alloc (.cells cs 23)) := by
  have e1 : (w.alloc (Obj.cells (nmC 0 ⟨#[]⟩ 0 0 ⟨#[]⟩) 23)).heap.size = w.heap.size + 1 := by simp
  refine ⟨(Blk.new w _ _).alloc _, ?_, (below_alloc0 w _ (Nat.le_refl _)).alloc (by simp) _⟩
  rw [← e1]; exact Blk.new _ _ _

set_option maxHeartbeats 8000000 in
set_option maxRecDepth 100000 in
theorem refDec_gen (S R0 R1 R2 R3 R4 : ByteArray) (K : Int) (b1 b2 b3 b4 : Bool) (Mst : Int) (O1 T1 Y : ByteArray) (N1 I1 : Int) (E : Nat) (w : World) (res : Array Value)
    (hK : ∀ W, Calls Tryz.prog 66 #[.string S] W fun e w' => e = .returned (.tuple #[.int .i64 K, .string R0]) ∧ Below W.heap.size W w')
    (h1 : ∀ W, Calls Tryz.prog 10 #[.int .i64 K] W fun e w' => e = .returned (.bool b1) ∧ W = w')
    (h2 : ∀ W, Calls Tryz.prog 11 #[.int .i64 K] W fun e w' => e = .returned (.bool b2) ∧ W = w')
    (h3 : ∀ W, Calls Tryz.prog 12 #[.int .i64 K] W fun e w' => e = .returned (.int .i64 Mst) ∧ W = w')
    (h4 : ∀ W, Calls Tryz.prog 13 #[.int .i64 K] W fun e w' => e = .returned (.bool b4) ∧ W = w')
    (hM1 : b3 = true → (0 : Int) ≤ Mst) (hM0 : b3 = false → ¬ (0 : Int) ≤ Mst)
    (hO : b1 = true → ∀ W, Calls Tryz.prog 67 #[.string R0] W fun e w' => e = .returned (.tuple #[.string O1, .string R1]) ∧ Below W.heap.size W w') (hO0 : b1 = false → O1 = ⟨#[]⟩ ∧ R1 = R0)
    (hN : b2 = true → ∀ W, Calls Tryz.prog 66 #[.string R1] W fun e w' => e = .returned (.tuple #[.int .i64 N1, .string R2]) ∧ Below W.heap.size W w') (hN0 : b2 = false → N1 = 0 ∧ R2 = R1)
    (hI : b3 = true → ∀ W, Calls Tryz.prog 66 #[.string R2] W fun e w' => e = .returned (.tuple #[.int .i64 I1, .string R3]) ∧ Below W.heap.size W w') (hI0 : b3 = false → I1 = 0 ∧ R3 = R2)
    (hT : b4 = true → ∀ W, Calls Tryz.prog 67 #[.string R3] W fun e w' => e = .returned (.tuple #[.string T1, .string R4]) ∧ Below W.heap.size W w') (hT0 : b4 = false → T1 = ⟨#[]⟩ ∧ R4 = R3)
    (hY : ∀ W, Calls Tryz.prog 22 #[nmV K O1 N1 I1 T1] W fun e w' => e = .returned (.tuple #[.string Y, .int .i64 (E : Int)]) ∧ Below W.heap.size W w')
    (hres : (((E : Int) != 0) = true ∧ res = #[nmV 0 ⟨#[]⟩ 0 0 ⟨#[]⟩, .int .i64 3]) ∨ (((E : Int) != 0) = false ∧ (Y.toList == S.toList) = false ∧ res = #[nmV 0 ⟨#[]⟩ 0 0 ⟨#[]⟩, .int .i64 3]) ∨
      (((E : Int) != 0) = false ∧ (Y.toList == S.toList) = true ∧ R4.toList.isEmpty = false ∧ res = #[nmV 0 ⟨#[]⟩ 0 0 ⟨#[]⟩, .int .i64 3]) ∨ (((E : Int) != 0) = false ∧ (Y.toList == S.toList) = true ∧ R4.toList.isEmpty = true ∧ res = #[nmV K O1 N1 I1 T1, .int .i64 0])) :
    Calls Tryz.prog 24 #[.string S] w fun e w' => e = .returned (.tuple res) ∧ Below w.heap.size w w' := by
  have HK := Lib.hid hK
  have H1 := Lib.hid h1
  have H2 := Lib.hid h2
  have H3 := Lib.hid h3
  have H4 := Lib.hid h4
  have HMM := Lib.hid (And.intro hM1 hM0)
  have HO := Lib.hid (And.intro hO hO0)
  have HN := Lib.hid (And.intro hN hN0)
  have HI := Lib.hid (And.intro hI hI0)
  have HT := Lib.hid (And.intro hT hT0)
  have HY := Lib.hid hY
  have HRES := Lib.hid hres
  have HI5 := Lib.hid infoRN
  have H1C := Lib.hid nm_one
  clear hK h1 h2 h3 h4 hM1 hM0 hO hO0 hN hN0 hI hI0 hT hT0 hY hres
  go_enter Tryz.func24, Tryz.ntmps24
  go_upto_region 3 with fail
  refine cwp_gen (RPB w (nmC 0 ⟨#[]⟩ 0 0 ⟨#[]⟩)) (rpb_new w _) ?_
  intro V0 hV
  have HV := Lib.hid hV
  clear hV
  go_upto_region 4 with (go_at_call 66; refine (HK.out _).mono ?_; rintro e V1 ⟨rfl, hb⟩; replace HV := Lib.hid (HV.out.under hb); clear hb; have n0 := HV.out.2.1.cell 0; have q0 := HV.out.2.1.frozen 0)
  refine cwp_gen (RPB w (nmC K ⟨#[]⟩ 0 0 ⟨#[]⟩)) (HV.out.set_ 0 (.int .i64 K)) ?_
  intro V2 hV
  clear n0 q0
  replace HV := Lib.hid hV
  clear hV HK
  have n0 := HV.out.2.1.cell 0
  go_upto_if 17 with (go_at_call 10; refine (H1.out _).mono ?_; rintro e w' ⟨rfl, rfl⟩)
  go_cut [5] (fun s wx => s = .string R1 ∧ RPB w (nmC K O1 0 0 ⟨#[]⟩) wx)
  case first =>
    have nj := HV.out.2.1.cell 1; have qj := HV.out.2.1.frozen 1
    cases b1
    · have HF := Lib.hid (HO.out.2 rfl)
      go_wp2
      go_meet
      case rel => rw [HF.out.1, HF.out.2]; exact ⟨rfl, HV.out⟩
    · have HF := Lib.hid (HO.out.1 rfl)
      go_wp2_with (go_at_call 67; refine (HF.out _).mono ?_; rintro e V3 ⟨rfl, hb⟩; replace HV := Lib.hid (HV.out.under hb); clear hb n0 nj qj; have nj := HV.out.2.1.cell 1; have qj := HV.out.2.1.frozen 1)
      go_meet
      case rel => exact ⟨rfl, HV.out.set_ 1 (.string O1)⟩
  case rest =>
    obtain ⟨hr, hV⟩ := hcut
    subst hr
    replace HV := Lib.hid hV
    clear hV n0 H1 HO
    have n0 := HV.out.2.1.cell 0
    go_upto_if 26 with (go_at_call 11; refine (H2.out _).mono ?_; rintro e w' ⟨rfl, rfl⟩)
    go_cut [5] (fun s wx => s = .string R2 ∧ RPB w (nmC K O1 N1 0 ⟨#[]⟩) wx)
    case first =>
      have nj := HV.out.2.1.cell 2; have qj := HV.out.2.1.frozen 2
      cases b2
      · have HF := Lib.hid (HN.out.2 rfl)
        go_wp2
        go_meet
        case rel => rw [HF.out.1, HF.out.2]; exact ⟨rfl, HV.out⟩
      · have HF := Lib.hid (HN.out.1 rfl)
        go_wp2_with (go_at_call 66; refine (HF.out _).mono ?_; rintro e V3 ⟨rfl, hb⟩; replace HV := Lib.hid (HV.out.under hb); clear hb n0 nj qj; have nj := HV.out.2.1.cell 2; have qj := HV.out.2.1.frozen 2)
        go_meet
        case rel => exact ⟨rfl, HV.out.set_ 2 (.int .i64 N1)⟩
    case rest =>
      obtain ⟨hr, hV⟩ := hcut
      subst hr
      replace HV := Lib.hid hV
      clear hV n0 H2 HN
      have n0 := HV.out.2.1.cell 0
      go_upto_if 36 with (go_at_call 12; refine (H3.out _).mono ?_; rintro e w' ⟨rfl, rfl⟩)
      go_cut [5] (fun s wx => s = .string R3 ∧ RPB w (nmC K O1 N1 I1 ⟨#[]⟩) wx)
      case first =>
        have nj := HV.out.2.1.cell 3; have qj := HV.out.2.1.frozen 3
        cases b3
        · have HF := Lib.hid (HI.out.2 rfl)
          have mm := HMM.out.2 rfl
          have mb : decide ((0 : Int) ≤ Mst) = false := decide_eq_false (by omega)
          go_wp2
          go_meet
          case rel => rw [HF.out.1, HF.out.2]; exact ⟨rfl, HV.out⟩
        · have HF := Lib.hid (HI.out.1 rfl)
          have mm := HMM.out.1 rfl
          have mb : decide ((0 : Int) ≤ Mst) = true := decide_eq_true (by omega)
          go_wp2_with (go_at_call 66; refine (HF.out _).mono ?_; rintro e V3 ⟨rfl, hb⟩; replace HV := Lib.hid (HV.out.under hb); clear hb n0 nj qj; have nj := HV.out.2.1.cell 3; have qj := HV.out.2.1.frozen 3)
          go_meet
          case rel => exact ⟨rfl, HV.out.set_ 3 (.int .i64 I1)⟩
      case rest =>
        obtain ⟨hr, hV⟩ := hcut
        subst hr
        replace HV := Lib.hid hV
        clear hV n0 H3 HI
        have n0 := HV.out.2.1.cell 0
        go_upto_if 45 with (go_at_call 13; refine (H4.out _).mono ?_; rintro e w' ⟨rfl, rfl⟩)
        go_cut [5] (fun s wx => s = .string R4 ∧ RPB w (nmC K O1 N1 I1 T1) wx)
        case first =>
          have nj := HV.out.2.1.cell 4; have qj := HV.out.2.1.frozen 4
          cases b4
          · have HF := Lib.hid (HT.out.2 rfl)
            go_wp2
            go_meet
            case rel => rw [HF.out.1, HF.out.2]; exact ⟨rfl, HV.out⟩
          · have HF := Lib.hid (HT.out.1 rfl)
            go_wp2_with (go_at_call 67; refine (HF.out _).mono ?_; rintro e V3 ⟨rfl, hb⟩; replace HV := Lib.hid (HV.out.under hb); clear hb n0 nj qj; have nj := HV.out.2.1.cell 4; have qj := HV.out.2.1.frozen 4)
            go_meet
            case rel => exact ⟨rfl, HV.out.set_ 4 (.string T1)⟩
        case rest =>
          obtain ⟨hr, hV⟩ := hcut
          subst hr
          replace HV := Lib.hid hV
          clear hV n0 H4 HT
          have n0 := HV.out.2.1.cell 0; have n1 := HV.out.2.1.cell 1; have n2 := HV.out.2.1.cell 2; have n3 := HV.out.2.1.cell 3; have n4 := HV.out.2.1.cell 4
          rcases HRES.out with ⟨e1, rfl⟩ | ⟨e1, e2, rfl⟩ | ⟨e1, e2, e3, rfl⟩ | ⟨e1, e2, e3, rfl⟩
          · go_wp2_with (first | (go_at_call 22; refine (HY.out _).mono ?_; rintro e V4 ⟨rfl, hb⟩; replace HV := Lib.hid (HV.out.under hb); clear hb n0 n1 n2 n3 n4; have n0 := HV.out.2.1.cell 0; have n1 := HV.out.2.1.cell 1; have n2 := HV.out.2.1.cell 2; have n3 := HV.out.2.1.cell 3; have n4 := HV.out.2.1.cell 4; have HZ := Lib.hid HV.out.1.there) | (show wpList _ _ _ (⟨none, _, _, _, _, _⟩ :: _) _ _; refine wpList_store_mid (by rfl) 23 (.tmp 2) (.tmp 68) (by rfl) w.heap.size 0 (nmC 0 ⟨#[]⟩ 0 0 ⟨#[]⟩) (by rfl) (by rfl) HZ.out HI5.out (H1C.out _ _ _ _ _) ?_))
            exact bodyPost_ret (results_row2 rfl _ _ w.heap.size (nmC 0 ⟨#[]⟩ 0 0 ⟨#[]⟩).toList _ rfl (World.rangeAt_setCells_same _ _ _ _ HV.out.1.there) Tryz.underlying23 rfl infoRN) rfl ⟨rfl, below_setCells _ (Nat.le_refl _) _ _ _ HV.out.bel⟩
          · have p2 : ¬ Y.toList = S.toList := by simpa using e2
            go_wp2_with (first | (go_at_call 22; refine (HY.out _).mono ?_; rintro e V4 ⟨rfl, hb⟩; replace HV := Lib.hid (HV.out.under hb); clear hb n0 n1 n2 n3 n4; have n0 := HV.out.2.1.cell 0; have n1 := HV.out.2.1.cell 1; have n2 := HV.out.2.1.cell 2; have n3 := HV.out.2.1.cell 3; have n4 := HV.out.2.1.cell 4; have HZ := Lib.hid HV.out.1.there) | (show wpList _ _ _ (⟨none, _, _, _, _, _⟩ :: _) _ _; refine wpList_store_mid (by rfl) 23 (.tmp 2) (.tmp 68) (by rfl) w.heap.size 0 (nmC 0 ⟨#[]⟩ 0 0 ⟨#[]⟩) (by rfl) (by rfl) HZ.out HI5.out (H1C.out _ _ _ _ _) ?_))
            exact bodyPost_ret (results_row2 rfl _ _ w.heap.size (nmC 0 ⟨#[]⟩ 0 0 ⟨#[]⟩).toList _ rfl (World.rangeAt_setCells_same _ _ _ _ HV.out.1.there) Tryz.underlying23 rfl infoRN) rfl ⟨rfl, below_setCells _ (Nat.le_refl _) _ _ _ HV.out.bel⟩
          · have p2 : Y.toList = S.toList := by simpa using e2
            have p3 : ¬ R4.toList = [] := by simpa using e3
            go_wp2_with (first | (go_at_call 22; refine (HY.out _).mono ?_; rintro e V4 ⟨rfl, hb⟩; replace HV := Lib.hid (HV.out.under hb); clear hb n0 n1 n2 n3 n4; have n0 := HV.out.2.1.cell 0; have n1 := HV.out.2.1.cell 1; have n2 := HV.out.2.1.cell 2; have n3 := HV.out.2.1.cell 3; have n4 := HV.out.2.1.cell 4; have HZ := Lib.hid HV.out.1.there) | (show wpList _ _ _ (⟨none, _, _, _, _, _⟩ :: _) _ _; refine wpList_store_mid (by rfl) 23 (.tmp 2) (.tmp 68) (by rfl) w.heap.size 0 (nmC 0 ⟨#[]⟩ 0 0 ⟨#[]⟩) (by rfl) (by rfl) HZ.out HI5.out (H1C.out _ _ _ _ _) ?_))
            exact bodyPost_ret (results_row2 rfl _ _ w.heap.size (nmC 0 ⟨#[]⟩ 0 0 ⟨#[]⟩).toList _ rfl (World.rangeAt_setCells_same _ _ _ _ HV.out.1.there) Tryz.underlying23 rfl infoRN) rfl ⟨rfl, below_setCells _ (Nat.le_refl _) _ _ _ HV.out.bel⟩
          · have p2 : Y.toList = S.toList := by simpa using e2
            have p3 : R4.toList = [] := by simpa using e3
            go_wp2_with (first | (go_at_call 22; refine (HY.out _).mono ?_; rintro e V4 ⟨rfl, hb⟩; replace HV := Lib.hid (HV.out.under hb); clear hb n0 n1 n2 n3 n4; have n0 := HV.out.2.1.cell 0; have n1 := HV.out.2.1.cell 1; have n2 := HV.out.2.1.cell 2; have n3 := HV.out.2.1.cell 3; have n4 := HV.out.2.1.cell 4; have HZ := Lib.hid HV.out.1.there) | (show wpList _ _ _ (⟨none, _, _, _, _, _⟩ :: _) _ _; refine wpList_store_mid (by rfl) 23 (.tmp 2) (.tmp 69) (by rfl) w.heap.size 0 (nmC K O1 N1 I1 T1) (by rfl) (by rfl) HZ.out HI5.out (H1C.out _ _ _ _ _) ?_))
            exact bodyPost_ret (results_row2 rfl _ _ w.heap.size (nmC K O1 N1 I1 T1).toList _ rfl (World.rangeAt_setCells_same _ _ _ _ HV.out.1.there) Tryz.underlying23 rfl infoRN) rfl ⟨rfl, below_setCells _ (Nat.le_refl _) _ _ _ HV.out.bel⟩

set_option maxHeartbeats 1000000 in
theorem refDecode_any (S : ByteArray) (w : World) (hS : S.size ≤ 1000000) :
    Calls Tryz.prog 24 #[.string S] w fun e w' => e = .returned (.tuple #[vN (refDecN S.data.toList).1, .int .i64 ((refDecN S.data.toList).2 : Int)]) ∧ Below w.heap.size w w' := by
  have hl : S.data.toList.length = S.size := by simp
  obtain ⟨s, hs⟩ : ∃ s, s = S.data.toList := ⟨_, rfl⟩
  obtain ⟨p, hp⟩ : ∃ p, p = tk true s := ⟨_, rfl⟩
  obtain ⟨o, ho⟩ : ∃ o, o = pc (ownI p.1) p.2 := ⟨_, rfl⟩
  obtain ⟨n, hn⟩ : ∃ n, n = tk (numI p.1) o.2 := ⟨_, rfl⟩
  obtain ⟨i, hi⟩ : ∃ i, i = tk (decide (0 ≤ mostI p.1)) n.2 := ⟨_, rfl⟩
  obtain ⟨t, ht⟩ : ∃ t, t = pc (txtI p.1) i.2 := ⟨_, rfl⟩
  have e : rfD s = (⟨p.1, o.1, n.1, i.1, t.1⟩, t.2) := by
    unfold rfD rfK
    rw [← hp]
    simp only []
    rw [← ho, ← hn, ← hi, ← ht]
  have l0 : p.2.length ≤ s.length := by rw [hp]; exact tk_len _ _
  have l1 : o.1.length ≤ p.2.length ∧ o.2.length ≤ p.2.length := by rw [ho]; exact pc_len _ _
  have l2 : n.2.length ≤ o.2.length := by rw [hn]; exact tk_len _ _
  have l3 : i.2.length ≤ n.2.length := by rw [hi]; exact tk_len _ _
  have l4 : t.1.length ≤ i.2.length ∧ t.2.length ≤ i.2.length := by rw [ht]; exact pc_len _ _
  have ls : s.length = S.size := by rw [hs]; exact hl
  have hds : refDecN S.data.toList = if checkN ⟨p.1, o.1, n.1, i.1, t.1⟩ = 0 ∧ encN ⟨p.1, o.1, n.1, i.1, t.1⟩ = s ∧ t.2 = [] then (⟨p.1, o.1, n.1, i.1, t.1⟩, 0) else (⟨0, [], 0, 0, []⟩, 3) := by
    unfold refDecN; rw [← hs, e]
  rw [hds]
  have tkc : ∀ (r : List UInt8), r.length ≤ 1000000 → ∀ W, Calls Tryz.prog 66 #[.string (sv r)] W fun e w' => e = .returned (.tuple #[.int .i64 (tk true r).1, .string (sv (tk true r).2)]) ∧ Below W.heap.size W w' := fun r hr W => by
    have := take_any (sv r) W (by rw [sv_size]; exact hr)
    rwa [sv_list] at this
  have pcc : ∀ (r : List UInt8), r.length ≤ 1000000 → ∀ W, Calls Tryz.prog 67 #[.string (sv r)] W fun e w' => e = .returned (.tuple #[.string (sv (pc true r).1), .string (sv (pc true r).2)]) ∧ Below W.heap.size W w' := fun r hr W => by
    have := piece_any (sv r) W (by rw [sv_size]; exact hr)
    rwa [sv_list] at this
  refine refDec_gen S (sv p.2) (sv o.2) (sv n.2) (sv i.2) (sv t.2) p.1 (ownI p.1) (numI p.1) (decide (0 ≤ mostI p.1)) (txtI p.1) (mostI p.1) (sv o.1) (sv t.1) (sv (encN ⟨p.1, o.1, n.1, i.1, t.1⟩)) n.1 i.1 (checkN ⟨p.1, o.1, n.1, i.1, t.1⟩) w _
    (fun W => by have := take_any S W hS; rw [← hs, ← hp] at this; exact this)
    (fun W => owned_any p.1 W) (fun W => numbered_any p.1 W) (fun W => most_any p.1 W) (fun W => texted_any p.1 W) (fun h => of_decide_eq_true h) (fun h => of_decide_eq_false h)
    (fun hb W => by have := pcc p.2 (by omega) W; rw [hb] at ho; rw [← ho] at this; exact this) (fun hb => by rw [hb] at ho; rw [ho]; exact ⟨rfl, rfl⟩)
    (fun hb W => by have := tkc o.2 (by omega) W; rw [hb] at hn; rw [← hn] at this; exact this) (fun hb => by rw [hb] at hn; rw [hn]; exact ⟨rfl, rfl⟩)
    (fun hb W => by have := tkc n.2 (by omega) W; rw [hb] at hi; rw [← hi] at this; exact this) (fun hb => by rw [hb] at hi; rw [hi]; exact ⟨rfl, rfl⟩)
    (fun hb W => by have := pcc i.2 (by omega) W; rw [hb] at ht; rw [← ht] at this; exact this) (fun hb => by rw [hb] at ht; rw [ht]; exact ⟨rfl, rfl⟩)
    (fun W => by
      have := refEncode_any p.1 n.1 i.1 (sv o.1) (sv t.1) W (by rw [sv_size]; omega) (by rw [sv_size]; omega)
      simp only [sv_list] at this
      exact this) ?_
  have ey : ((sv (encN ⟨p.1, o.1, n.1, i.1, t.1⟩)).toList == S.toList) = decide (encN ⟨p.1, o.1, n.1, i.1, t.1⟩ = s) := by
    rw [toList_data, toList_data, sv_list, ← hs, Bool.eq_iff_iff]; simp
  have er : (sv t.2).toList.isEmpty = decide (t.2 = []) := by
    rw [toList_data, sv_list]; cases t.2 <;> simp
  rw [ey, er]
  by_cases h1 : checkN ⟨p.1, o.1, n.1, i.1, t.1⟩ = 0
  · by_cases h2 : encN ⟨p.1, o.1, n.1, i.1, t.1⟩ = s
    · by_cases h3 : t.2 = []
      · rw [if_pos ⟨h1, h2, h3⟩]
        exact .inr (.inr (.inr ⟨by rw [h1]; rfl, decide_eq_true h2, decide_eq_true h3, rfl⟩))
      · rw [if_neg (fun h => h3 h.2.2)]
        exact .inr (.inr (.inl ⟨by rw [h1]; rfl, decide_eq_true h2, decide_eq_false h3, rfl⟩))
    · rw [if_neg (fun h => h2 h.2.1)]
      exact .inr (.inl ⟨by rw [h1]; rfl, decide_eq_false h2, rfl⟩)
  · rw [if_neg (fun h => h1 h.1)]
    exact .inl ⟨by simp; omega, rfl⟩
end Go.Proofs.YtcdjmkfpclmbdaaGreatDoor
