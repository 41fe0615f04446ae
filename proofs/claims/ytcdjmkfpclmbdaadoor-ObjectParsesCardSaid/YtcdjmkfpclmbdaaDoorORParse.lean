/- object: the walk of the reference's Parse. -/
import Derived.Test.YtcdjmkfpclmbdaaDoorONumber
import Derived.Test.YtcdjmkfpclmbdaaDoorORStrB
import Derived.Test.YtcdjmkfpclmbdaaDoorOParse
set_option linter.unusedVariables false
namespace Go.Proofs.YtcdjmkfpclmbdaaDoor
open Go.RowKit

theorem dw_drop (p : UInt8 → Bool) : ∀ l : List UInt8, l.dropWhile p = l.drop (l.takeWhile p).length
  | [] => rfl
  | c :: r => by
    rw [List.dropWhile_cons, List.takeWhile_cons]
    cases h : p c
    · simp
    · simp [dw_drop p r]
theorem until_cut (S : ByteArray) (m : Nat) (a b : UInt8) (hS : S.size ≤ 1000000) (hm : m ≤ S.size) :
    ∃ m', m' ≤ S.size ∧ S.data.toList.drop m' = (cut2 a b (S.data.toList.drop m)).2 ∧ ∀ w, Calls Tryd.prog 46 #[.string S, .int .i64 (m : Int), bv a, bv b] w fun e w' => e = .returned (.tuple #[.string (sv (cut2 a b (S.data.toList.drop m)).1), .int .i64 (m' : Int)]) ∧ w = w' := by
  have hl : S.data.toList.length = S.size := by simp
  refine ⟨min (m + ((S.data.toList.drop m).takeWhile (pAB a b)).length + 1) S.size, by omega, ?_, fun w => (until_any S m a b w hS hm).mono ?_⟩
  · have e : (cut2 a b (S.data.toList.drop m)).2 = S.data.toList.drop (m + ((S.data.toList.drop m).takeWhile (pAB a b)).length + 1) := by
      show ((S.data.toList.drop m).dropWhile (pAB a b)).drop 1 = _
      rw [dw_drop, List.drop_drop, List.drop_drop]
      congr 1 <;> omega
    rw [e]
    by_cases h : m + ((S.data.toList.drop m).takeWhile (pAB a b)).length + 1 ≤ S.size
    · rw [Nat.min_eq_left h]
    · rw [Nat.min_eq_right (by omega), List.drop_eq_nil_of_le (by omega), List.drop_eq_nil_of_le (by omega)]
  · rintro e w' ⟨k, h1, h2, rfl, h3, rfl⟩
    refine ⟨?_, rfl⟩
    have e : k + 1 = m + ((S.data.toList.drop m).takeWhile (pAB a b)).length + 1 := by omega
    rw [e]; rfl

/-- The last kind below j with a word. -/
def lastK (x : List UInt8) : Nat → Nat
  | 0 => 0
  | j + 1 => if 1 ≤ j ∧ wordN j = x then j else lastK x j
theorem lastK_spec (x : List UInt8) : ∀ j, (lastK x j = 0 ∧ ∀ k, 1 ≤ k → k < j → wordN k ≠ x) ∨ (1 ≤ lastK x j ∧ lastK x j < j ∧ wordN (lastK x j) = x)
  | 0 => .inl ⟨rfl, fun k _ h => by omega⟩
  | j + 1 => by
    rw [lastK]
    split
    · rename_i h; exact .inr ⟨h.1, by omega, h.2⟩
    · rename_i h
      rcases lastK_spec x j with ⟨h1, h2⟩ | ⟨h1, h2, h3⟩
      · refine .inl ⟨h1, fun k hk hk2 => ?_⟩
        by_cases e : k = j
        · subst e; exact fun e2 => h ⟨hk, e2⟩
        · exact h2 k hk (by omega)
      · exact .inr ⟨h1, by omega, h3⟩
theorem lastK_kind (x : List UInt8) : lastK x 21 = kindOf x := by
  rcases lastK_spec x 21 with ⟨h1, h2⟩ | ⟨h1, h2, h3⟩
  · rw [h1]; exact (kindF_miss x 20 1 fun i hi hf => h2 i hi (by omega)).symm
  · obtain ⟨k, hk⟩ : ∃ k, k = lastK x 21 := ⟨_, rfl⟩
    rw [← hk] at h1 h2 h3 ⊢
    subst h3
    exact (kindOf_word h1 (by omega)).symm
theorem lastK_le (x : List UInt8) {j : Nat} (hj : j ≤ 21) : lastK x j ≤ 20 := by
  rcases lastK_spec x j with ⟨h, _⟩ | ⟨_, h, _⟩ <;> omega

set_option maxHeartbeats 2000000 in
set_option maxRecDepth 100000 in
theorem words_all (w : World) : Calls Tryd.prog 43 #[] w fun e w' => ∃ g t cs, w.heap.size ≤ g ∧ e = .returned (.slice (some ⟨g, 0, none⟩) 21 21) ∧ Below w.heap.size w w' ∧ Blk w' g t cs ∧ ∀ k, k ≤ 20 → cs[k]? = some (.string (sv (wordN k))) := by
  go_enter Tryd.func43, Tryd.ntmps43
  go_wp2
  go_ret
  refine ⟨_, _, _, Nat.le_refl _, rfl, (Below.refl _ w).alloc (Nat.le_refl _) _, Blk.new w _ _, ?_⟩
  intro k hk
  obtain rfl | rfl | rfl | rfl | rfl | rfl | rfl | rfl | rfl | rfl | rfl | rfl | rfl | rfl | rfl | rfl | rfl | rfl | rfl | rfl | rfl : k = 0 ∨ k = 1 ∨ k = 2 ∨ k = 3 ∨ k = 4 ∨ k = 5 ∨ k = 6 ∨ k = 7 ∨ k = 8 ∨ k = 9 ∨ k = 10 ∨ k = 11 ∨ k = 12 ∨ k = 13 ∨ k = 14 ∨ k = 15 ∨ k = 16 ∨ k = 17 ∨ k = 18 ∨ k = 19 ∨ k = 20 := by omega
  all_goals rfl

theorem infoRN : (Tryd.prog.info? 23).map (·.size) = some 5 := by kernel_rfl
/-- The reference's Parse's blocks: its result, the name. -/
def RPB (w : World) (cs : Array Value) (V : World) : Prop := Blk V w.heap.size 23 (nmC 0 ⟨#[]⟩ 0 0 ⟨#[]⟩) ∧ Blk V (w.heap.size + 1) 23 cs ∧ Below w.heap.size w V
theorem RPB.bel {w : World} {cs : Array Value} {V : World} (h : RPB w cs V) : Below w.heap.size w V := h.2.2
theorem RPB.under {w : World} {cs : Array Value} {V V' : World} (h : RPB w cs V) (hb : Below V.heap.size V V') : RPB w cs V' :=
  ⟨h.1.under hb, h.2.1.under hb, h.2.2.trans (hb.mono h.2.2.size)⟩
theorem RPB.set_ {w : World} {cs : Array Value} {V : World} (h : RPB w cs V) (j : Nat) (u : Value) : RPB w (cs.setIfInBounds j u) (V.setCell ⟨w.heap.size + 1, j, none⟩ u) :=
  ⟨h.1.far (p := ⟨w.heap.size + 1, j, none⟩) (by show w.heap.size ≠ w.heap.size + 1; omega) u, h.2.1.set_ j u, h.2.2.setCell (p := ⟨w.heap.size + 1, j, none⟩) (by show w.heap.size ≤ w.heap.size + 1; omega) u⟩
theorem RPB.drew {w : World} {cs : Array Value} {V : World} (h : RPB w cs V) : RPB w cs V.drew := ⟨h.1.drew, h.2.1.drew, h.2.2.drew⟩
theorem rpb_new (w : World) (cs : Array Value) : RPB w cs ((w.alloc (.cells (nmC 0 ⟨#[]⟩ 0 0 ⟨#[]⟩) 23)).alloc (.cells cs 23)) := by
  have e1 : (w.alloc (Obj.cells (nmC 0 ⟨#[]⟩ 0 0 ⟨#[]⟩) 23)).heap.size = w.heap.size + 1 := by simp
  refine ⟨(Blk.new w _ _).alloc _, ?_, (below_alloc0 w _ (Nat.le_refl _)).alloc (by simp) _⟩
  rw [← e1]; exact Blk.new _ _ _

set_option maxHeartbeats 8000000 in
set_option maxRecDepth 100000 in
theorem refNParse_gen (S X : ByteArray) (k : Nat) (b1 b2 b3 b4 : Bool) (Mst : Int) (P1 ON P2 P3 TX Y : ByteArray) (a0 a1 a2 a3 : Nat) (N I : Int) (w : World) (res : Array Value)
    (hk : k = kindOf X.data.toList) (hS : S.size ≤ 1000000)
    (hU0 : ∀ W, Calls Tryd.prog 46 #[.string S, .int .i64 0, .int .u8 32, .int .u8 32] W fun e w' => e = .returned (.tuple #[.string X, .int .i64 (a0 : Int)]) ∧ W = w')
    (h1 : ∀ W, Calls Tryd.prog 30 #[.int .i64 (k : Int)] W fun e w' => e = .returned (.bool b1) ∧ W = w')
    (h2 : ∀ W, Calls Tryd.prog 31 #[.int .i64 (k : Int)] W fun e w' => e = .returned (.bool b2) ∧ W = w')
    (h3 : ∀ W, Calls Tryd.prog 32 #[.int .i64 (k : Int)] W fun e w' => e = .returned (.int .i64 Mst) ∧ W = w')
    (h4 : ∀ W, Calls Tryd.prog 33 #[.int .i64 (k : Int)] W fun e w' => e = .returned (.bool b4) ∧ W = w')
    (hM1 : b3 = true → (0 : Int) ≤ Mst) (hM0 : b3 = false → ¬ (0 : Int) ≤ Mst)
    (hU1 : b1 = true → ∀ W, Calls Tryd.prog 46 #[.string S, .int .i64 (a0 : Int), .int .u8 32, .int .u8 35] W fun e w' => e = .returned (.tuple #[.string P1, .int .i64 (a1 : Int)]) ∧ W = w')
    (hON1 : b1 = true → P1 = ⟨#[48]⟩ → ON = ⟨#[]⟩) (hON2 : b1 = true → P1 ≠ ⟨#[48]⟩ → ON = P1) (hON3 : b1 = false → ON = ⟨#[]⟩ ∧ a1 = a0)
    (hU2 : b2 = true → ∀ W, Calls Tryd.prog 46 #[.string S, .int .i64 (a1 : Int), .int .u8 32, .int .u8 32] W fun e w' => e = .returned (.tuple #[.string P2, .int .i64 (a2 : Int)]) ∧ W = w')
    (hN2 : b2 = true → ∀ W, Calls Tryd.prog 47 #[.string P2] W fun e w' => e = .returned (.int .i64 N) ∧ W = w') (hN0 : b2 = false → N = 0 ∧ a2 = a1)
    (hU3 : b3 = true → ∀ W, Calls Tryd.prog 46 #[.string S, .int .i64 (a2 : Int), .int .u8 32, .int .u8 32] W fun e w' => e = .returned (.tuple #[.string P3, .int .i64 (a3 : Int)]) ∧ W = w')
    (hI2 : b3 = true → ∀ W, Calls Tryd.prog 47 #[.string P3] W fun e w' => e = .returned (.int .i64 I) ∧ W = w') (hI0 : b3 = false → I = 0 ∧ a3 = a2)
    (ha3 : a3 ≤ S.size) (hT1 : b4 = true → TX = S.extract a3 S.size) (hT0 : b4 = false → TX = ⟨#[]⟩)
    (hY : ∀ W, Calls Tryd.prog 20 #[nmV k ON N I TX] W fun e w' => e = .returned (.string Y) ∧ Below W.heap.size W w')
    (hres : (S.toList.isEmpty = true ∧ res = #[nmV 0 ⟨#[]⟩ 0 0 ⟨#[]⟩, .int .i64 3]) ∨ (S.toList.isEmpty = false ∧ (Y.toList == S.toList) = false ∧ res = #[nmV 0 ⟨#[]⟩ 0 0 ⟨#[]⟩, .int .i64 3]) ∨ (S.toList.isEmpty = false ∧ (Y.toList == S.toList) = true ∧ res = #[nmV k ON N I TX, .int .i64 0])) :
    Calls Tryd.prog 23 #[.string S] w fun e w' => e = .returned (.tuple res) ∧ Below w.heap.size w w' := by
  have HU0 := Lib.hid hU0
  have HKD := Lib.hid hk
  have H1 := Lib.hid h1
  have H2 := Lib.hid h2
  have H3 := Lib.hid h3
  have H4 := Lib.hid h4
  have HW := Lib.hid words_all
  have HY := Lib.hid hY
  have HRES := Lib.hid hres
  have hx : ∃ x, x = X.data.toList := ⟨_, rfl⟩
  obtain ⟨x, hx⟩ := hx
  rw [← hx] at HKD
  have HXX := Lib.hid hx
  have HQ0 := Lib.hid (rpb_new w (nmC 0 ⟨#[]⟩ 0 0 ⟨#[]⟩))
  clear hU0 h1 h2 h3 h4 hY hres hk hx
  go_enter Tryd.func23, Tryd.ntmps23
  go_upto_region 3 with (go_at_call 46; refine (HU0.out _).mono ?_; rintro e w' ⟨rfl, rfl⟩)
  refine cwp_gen (RPB w (nmC 0 ⟨#[]⟩ 0 0 ⟨#[]⟩)) HQ0.out ?_
  intro V0 hV
  replace HQ0 := Lib.hid hV
  have HS0 : Hid (w.heap.size + 2 ≤ V0.heap.size) := Lib.hid (by have := hV.2.1.lt; omega)
  clear hV
  go_upto_region 4 with (go_at_call 43; refine (HW.out _).mono ?_; rintro e V1 ⟨g, tg, cg, hg, rfl, hb, hB, hc⟩; replace HQ0 := Lib.hid (HQ0.out.under hb); have HBG := Lib.hid hB; have HCG := Lib.hid hc; have HG := Lib.hid (show g ≠ w.heap.size + 1 by have := HS0.out; omega); clear hb hB hc hg HS0)
  go_wp2
  go_loopw [8] (fun i wr => ∃ j : Nat, 1 ≤ j ∧ j ≤ 21 ∧ i = .int .i64 (j : Int) ∧ RPB w (nmC (lastK x j) ⟨#[]⟩ 0 0 ⟨#[]⟩) wr ∧ Blk wr g tg cg) (fun i _ => 21 - (intOf i).toNat)
  case atStart => exact ⟨1, by omega, by omega, rfl, HQ0.out, HBG.out⟩
  case round =>
    obtain ⟨j, hj1, hj2, rfl, hq, hB⟩ := hrel
    have HQ := Lib.hid hq
    have HB := Lib.hid hB
    clear hq hB
    by_cases hlt : j ≤ 20
    · have l1 : (j : Int) ≤ 20 := by omega
      have l2 : (j : Int) < 21 := by omega
      have cw : wr.cell? ⟨g, j, none⟩ = some (.string (sv (wordN j))) := by rw [HB.out.cell j]; exact HCG.out j hlt
      have n0 := HQ.out.2.1.cell 0
      have q0 := HQ.out.2.1.frozen 0
      by_cases hw : wordN j = x
      · have e1 : wordN j = X.toList := by rw [hw, HXX.out, toList_data]
        have HL : Hid (lastK x (j + 1) = j) := Lib.hid (by rw [lastK, if_pos ⟨hj1, hw⟩])
        clear hw
        go_wp2
        go_roundw
        case rel =>
          refine ⟨j + 1, by omega, by omega, by go_num, ?_, HB.out.far (p := ⟨w.heap.size + 1, 0, none⟩) HG.out _⟩
          rw [HL.out]; exact HQ.out.set_ 0 (.int .i64 (j : Int))
        case measure => simp [intOf] <;> omega
      · have e1 : ¬ wordN j = X.toList := fun e => hw (by rw [toList_data] at e; rw [HXX.out]; exact e)
        have e2 : (wordN j == X.toList) = false := by simpa using e1
        have HL : Hid (lastK x (j + 1) = lastK x j) := Lib.hid (by rw [lastK, if_neg (fun h => hw h.2)])
        clear hw
        go_wp2
        go_roundw
        case rel => exact ⟨j + 1, by omega, by omega, by go_num, by rw [HL.out]; exact HQ.out, HB.out⟩
        case measure => simp [intOf] <;> omega
    · have l1 : ¬ (j : Int) ≤ 20 := by omega
      obtain rfl : j = 21 := by omega
      have HV : Hid (RPB w (nmC k ⟨#[]⟩ 0 0 ⟨#[]⟩) wr) := Lib.hid (by rw [HKD.out, ← lastK_kind]; exact HQ.out)
      clear HQ0 HBG HCG HG HW HXX HKD HQ HB hlt hj1 hj2
      have n0 := HV.out.2.1.cell 0
      go_upto_if 30 with (go_at_call 30; refine (H1.out _).mono ?_; rintro e w' ⟨rfl, rfl⟩)
      go_cut [6, 9] (fun a p wx => a = .int .i64 (a1 : Int) ∧ (∃ q, p = .string q) ∧ RPB w (nmC k ON 0 0 ⟨#[]⟩) wx)
      case first =>
        have n1 := HV.out.2.1.cell 1; have q1 := HV.out.2.1.frozen 1
        cases b1
        · obtain ⟨rfl, rfl⟩ := hON3 rfl
          clear hU1 hON1 hON2 hON3
          go_wp2
          go_meet
          case rel => exact ⟨rfl, ⟨_, rfl⟩, HV.out⟩
        · have HU := Lib.hid (hU1 rfl)
          by_cases hz : P1 = ⟨#[48]⟩
          · have hz0 : P1.toList = [48] := by rw [hz, toList_data]
            obtain rfl := hON1 rfl hz
            clear hz hU1 hON1 hON2 hON3
            go_wp2_with (first
              | (go_at_call 46; refine (HU.out _).mono ?_; rintro e w' ⟨rfl, rfl⟩))
            go_meet
            case rel => exact ⟨rfl, ⟨_, rfl⟩, (HV.out.set_ 1 (.string P1)).set_ 1 (.string ⟨#[]⟩)⟩
          · have hz0 : ¬ P1.toList = [48] := fun e => hz (by rw [toList_data] at e; rw [← sv_back P1, e])
            have hz1 : (P1.toList == [48]) = false := by simpa using hz0
            obtain rfl := hON2 rfl hz
            clear hz hU1 hON1 hON2 hON3
            go_wp2_with (first
              | (go_at_call 46; refine (HU.out _).mono ?_; rintro e w' ⟨rfl, rfl⟩))
            go_meet
            case rel => exact ⟨rfl, ⟨_, rfl⟩, HV.out.set_ 1 (.string _)⟩
      case rest =>
        obtain ⟨ha, ⟨p1, hp⟩, hV⟩ := hcut
        subst ha hp
        replace HV := Lib.hid hV
        clear hV n0 hU1 hON1 hON2 hON3 H1
        have n0 := HV.out.2.1.cell 0
        go_upto_if 44 with (go_at_call 31; refine (H2.out _).mono ?_; rintro e w' ⟨rfl, rfl⟩)
        go_cut [6, 9] (fun a p wx => a = .int .i64 (a2 : Int) ∧ (∃ q, p = .string q) ∧ RPB w (nmC k ON N 0 ⟨#[]⟩) wx)
        case first =>
          have n2 := HV.out.2.1.cell 2; have q2 := HV.out.2.1.frozen 2
          cases b2
          · obtain ⟨rfl, rfl⟩ := hN0 rfl
            clear hU2 hN2 hN0
            go_wp2
            go_meet
            case rel => exact ⟨rfl, ⟨_, rfl⟩, HV.out⟩
          · have HU := Lib.hid (hU2 rfl)
            have HN := Lib.hid (hN2 rfl)
            clear hU2 hN2 hN0
            go_wp2_with (first
              | (go_at_call 46; refine (HU.out _).mono ?_; rintro e w' ⟨rfl, rfl⟩)
              | (go_at_call 47; refine (HN.out _).mono ?_; rintro e w' ⟨rfl, rfl⟩))
            go_meet
            case rel => exact ⟨rfl, ⟨_, rfl⟩, HV.out.set_ 2 (.int .i64 N)⟩
        case rest =>
          obtain ⟨ha, ⟨p2, hp⟩, hV⟩ := hcut
          subst ha hp
          replace HV := Lib.hid hV
          clear hV n0 hU2 hN2 hN0 H2
          have n0 := HV.out.2.1.cell 0
          go_upto_if 57 with (go_at_call 32; refine (H3.out _).mono ?_; rintro e w' ⟨rfl, rfl⟩)
          go_cut [6, 9] (fun a p wx => a = .int .i64 (a3 : Int) ∧ (∃ q, p = .string q) ∧ RPB w (nmC k ON N I ⟨#[]⟩) wx)
          case first =>
            have n3 := HV.out.2.1.cell 3; have q3 := HV.out.2.1.frozen 3
            cases b3
            · obtain ⟨rfl, rfl⟩ := hI0 rfl
              replace hM0 := hM0 rfl
              have mb : decide ((0 : Int) ≤ Mst) = false := decide_eq_false (by omega)
              clear hU3 hI2 hI0 hM1
              go_wp2
              go_meet
              case rel => exact ⟨rfl, ⟨_, rfl⟩, HV.out⟩
            · have HU := Lib.hid (hU3 rfl)
              have HN := Lib.hid (hI2 rfl)
              replace hM1 := hM1 rfl
              have mb : decide ((0 : Int) ≤ Mst) = true := decide_eq_true (by omega)
              clear hU3 hI2 hI0 hM0
              go_wp2_with (first
                | (go_at_call 46; refine (HU.out _).mono ?_; rintro e w' ⟨rfl, rfl⟩)
                | (go_at_call 47; refine (HN.out _).mono ?_; rintro e w' ⟨rfl, rfl⟩))
              go_meet
              case rel => exact ⟨rfl, ⟨_, rfl⟩, HV.out.set_ 3 (.int .i64 I)⟩
          case rest =>
            obtain ⟨ha, ⟨p3, hp⟩, hV⟩ := hcut
            subst ha hp
            replace HV := Lib.hid hV
            clear hV n0 hU3 hI2 hI0 H3 hM0 hM1
            have n0 := HV.out.2.1.cell 0
            go_upto_if 69 with (go_at_call 33; refine (H4.out _).mono ?_; rintro e w' ⟨rfl, rfl⟩)
            go_cut [] (fun wx => RPB w (nmC k ON N I TX) wx)
            case first =>
              have n4 := HV.out.2.1.cell 4; have q4 := HV.out.2.1.frozen 4
              cases b4
              · obtain rfl := hT0 rfl
                clear hT0 hT1
                go_wp2
                go_meet
                case rel => exact HV.out
              · have HTX := Lib.hid (hT1 rfl)
                have l1 : (a3 : Int) ≤ (S.size : Int) := by omega
                clear hT0 hT1
                go_wp2
                go_meet
                case rel => rw [HTX.out]; exact HV.out.set_ 4 (.string (S.extract a3 S.size))
            case rest =>
              have hV := hcut
              clear hcut n0
              replace HV := Lib.hid hV
              have HZ := Lib.hid hV.1.there
              have HI5 := Lib.hid infoRN
              have H1C := Lib.hid nm_one
              clear hV hT0 hT1 H4
              have n0 := HV.out.2.1.cell 0; have n1 := HV.out.2.1.cell 1; have n2 := HV.out.2.1.cell 2; have n3 := HV.out.2.1.cell 3; have n4 := HV.out.2.1.cell 4
              rcases HRES.out with ⟨e1, rfl⟩ | ⟨e1, e2, rfl⟩ | ⟨e1, e2, rfl⟩
              · have e0 : S.toList = [] := by simpa using e1
                go_wp2_with (show wpList _ _ _ (⟨none, _, _, _, _, _⟩ :: _) _ _; refine wpList_store_mid (by rfl) 23 (.tmp 2) (.tmp 82) (by rfl) w.heap.size 0 (nmC 0 ⟨#[]⟩ 0 0 ⟨#[]⟩) (by rfl) (by rfl) HZ.out HI5.out (H1C.out _ _ _ _ _) ?_)
                exact bodyPost_ret (results_row2 rfl _ _ w.heap.size (nmC 0 ⟨#[]⟩ 0 0 ⟨#[]⟩).toList _ rfl (World.rangeAt_setCells_same _ _ _ _ HV.out.1.there) Tryd.underlying23 rfl infoRN) rfl ⟨rfl, below_setCells _ (Nat.le_refl _) _ _ _ HV.out.bel⟩
              · have e0 : ¬ S.toList = [] := by simpa using e1
                have e3 : ¬ Y.toList = S.toList := by simpa using e2
                go_wp2_with (first
                  | (go_at_call 20; refine (HY.out _).mono ?_; rintro e V2 ⟨rfl, hb⟩; replace HV := Lib.hid (HV.out.under hb); clear hb n0 n1 n2 n3 n4; replace HZ := Lib.hid HV.out.1.there)
                  | (show wpList _ _ _ (⟨none, _, _, _, _, _⟩ :: _) _ _; refine wpList_store_mid (by rfl) 23 (.tmp 2) (.tmp 82) (by rfl) w.heap.size 0 (nmC 0 ⟨#[]⟩ 0 0 ⟨#[]⟩) (by rfl) (by rfl) HZ.out HI5.out (H1C.out _ _ _ _ _) ?_))
                exact bodyPost_ret (results_row2 rfl _ _ w.heap.size (nmC 0 ⟨#[]⟩ 0 0 ⟨#[]⟩).toList _ rfl (World.rangeAt_setCells_same _ _ _ _ HV.out.1.there) Tryd.underlying23 rfl infoRN) rfl ⟨rfl, below_setCells _ (Nat.le_refl _) _ _ _ HV.out.bel⟩
              · have e0 : ¬ S.toList = [] := by simpa using e1
                have e3 : Y.toList = S.toList := by simpa using e2
                go_wp2_with (first
                  | (go_at_call 20; refine (HY.out _).mono ?_; rintro e V2 ⟨rfl, hb⟩; replace HV := Lib.hid (HV.out.under hb); clear hb n0 n1 n2 n3 n4; have n0 := HV.out.2.1.cell 0; have n1 := HV.out.2.1.cell 1; have n2 := HV.out.2.1.cell 2; have n3 := HV.out.2.1.cell 3; have n4 := HV.out.2.1.cell 4; replace HZ := Lib.hid HV.out.1.there)
                  | (show wpList _ _ _ (⟨none, _, _, _, _, _⟩ :: _) _ _; refine wpList_store_mid (by rfl) 23 (.tmp 2) (.tmp 83) (by rfl) w.heap.size 0 (nmC k ON N I TX) (by rfl) (by rfl) HZ.out HI5.out (H1C.out _ _ _ _ _) ?_))
                exact bodyPost_ret (results_row2 rfl _ _ w.heap.size (nmC k ON N I TX).toList _ rfl (World.rangeAt_setCells_same _ _ _ _ HV.out.1.there) Tryd.underlying23 rfl infoRN) rfl ⟨rfl, below_setCells _ (Nat.le_refl _) _ _ _ HV.out.bel⟩

theorem cut2_len (a b : UInt8) (s : List UInt8) : (cut2 a b s).1.length ≤ s.length ∧ (cut2 a b s).2.length ≤ s.length := by
  unfold cut2
  refine ⟨(List.takeWhile_prefix _).length_le, ?_⟩
  show ((s.dropWhile _).drop 1).length ≤ _
  rw [List.length_drop]
  have := (List.dropWhile_suffix (l := s) (fun c => c != a && c != b)).length_le
  omega
theorem rr1_len (k : Nat) (r : List UInt8) : (rr1 k r).1.length ≤ r.length ∧ (rr1 k r).2.length ≤ r.length := by
  have h := cut2_len 32 35 r
  by_cases ho : ownN k = true
  · unfold rr1
    rw [if_pos ho]
    refine ⟨?_, h.2⟩
    by_cases hz : (cut2 32 35 r).1 = [48]
    · rw [if_pos hz]; simp
    · rw [if_neg hz]; exact h.1
  · unfold rr1
    rw [if_neg ho]
    simp
theorem rr2_len (b : Bool) (r : List UInt8) : (rr2 b r).2.length ≤ r.length := by
  unfold rr2
  split
  · exact (cut2_len 32 32 r).2
  · exact Nat.le_refl _
theorem until_if (S : ByteArray) (b : Bool) (m : Nat) (x y : UInt8) (r : List UInt8) (hS : S.size ≤ 1000000) (hm : m ≤ S.size) (hr : S.data.toList.drop m = r) :
    ∃ m', m' ≤ S.size ∧ S.data.toList.drop m' = (if b then (cut2 x y r).2 else r) ∧ (b = true → ∀ w, Calls Tryd.prog 46 #[.string S, .int .i64 (m : Int), bv x, bv y] w fun e w' => e = .returned (.tuple #[.string (sv (cut2 x y r).1), .int .i64 (m' : Int)]) ∧ w = w') ∧ (b = false → m' = m) := by
  subst hr
  cases b
  · exact ⟨m, hm, rfl, (fun h => by cases h), fun _ => rfl⟩
  · obtain ⟨m', h1, h2, h3⟩ := until_cut S m x y hS hm
    exact ⟨m', h1, h2, fun _ => h3, (fun h => by cases h)⟩

set_option maxHeartbeats 1000000 in
theorem refNParse_any (S : ByteArray) (w : World) (hS : S.size ≤ 1000000) :
    Calls Tryd.prog 23 #[.string S] w fun e w' => e = .returned (.tuple #[vN (refParseN S.data.toList).1, .int .i64 ((refParseN S.data.toList).2 : Int)]) ∧ Below w.heap.size w w' := by
  have hl : S.data.toList.length = S.size := by simp
  obtain ⟨a0, ha0, d0, u0, -⟩ := until_if S true 0 32 32 S.data.toList hS (Nat.zero_le _) List.drop_zero
  replace u0 := u0 rfl
  obtain ⟨c, hc⟩ : ∃ c, c = cut2 32 32 S.data.toList := ⟨_, rfl⟩
  have lc := cut2_len 32 32 S.data.toList
  rw [if_pos rfl, ← hc] at d0
  rw [← hc] at u0 lc
  have hk20 := kindOf_le c.1
  have er : refReadN S.data.toList = refReadK (kindOf c.1) c.2 := by unfold refReadN; rw [← hc]
  obtain ⟨k, hk⟩ : ∃ k, k = kindOf c.1 := ⟨_, rfl⟩
  rw [← hk] at hk20 er
  have h21 : k < 21 := by omega
  have hmi := mostI_nat k h21
  obtain ⟨a1, ha1, d1, u1, v1⟩ := until_if S (ownN k) a0 32 35 c.2 hS ha0 d0
  have l1 := rr1_len k c.2
  have d1' : S.data.toList.drop a1 = (rr1 k c.2).2 := by rw [d1]; unfold rr1; split <;> rfl
  obtain ⟨a2, ha2, d2, u2, v2⟩ := until_if S (numN k) a1 32 32 (rr1 k c.2).2 hS ha1 d1'
  have l2 := rr2_len (numN k) (rr1 k c.2).2
  have d2' : S.data.toList.drop a2 = (rr2 (numN k) (rr1 k c.2).2).2 := by rw [d2]; unfold rr2; split <;> rfl
  obtain ⟨a3, ha3, d3, u3, v3⟩ := until_if S (idxN k) a2 32 32 (rr2 (numN k) (rr1 k c.2).2).2 hS ha2 d2'
  have l3 := rr2_len (idxN k) (rr2 (numN k) (rr1 k c.2).2).2
  have d3' : S.data.toList.drop a3 = (rr2 (idxN k) (rr2 (numN k) (rr1 k c.2).2).2).2 := by rw [d3]; unfold rr2; split <;> rfl
  have lcut := fun r : List UInt8 => cut2_len 32 32 r
  have hnum : ∀ r : List UInt8, r.length ≤ 1000000 → ∀ W, Calls Tryd.prog 47 #[.string (sv (cut2 32 32 r).1)] W fun e w' => e = .returned (.int .i64 (refNum (cut2 32 32 r).1)) ∧ W = w' := fun r hr W => by
    have := number_any (sv (cut2 32 32 r).1) W (by rw [sv_size]; have := (lcut r).1; omega)
    rwa [sv_list] at this
  have hTXl : (if txtN k then (rr2 (idxN k) (rr2 (numN k) (rr1 k c.2).2).2).2 else []).length ≤ 1000000 := by
    split
    · omega
    · simp
  have eK : (refReadK k c.2) = ⟨k, (rr1 k c.2).1, (rr2 (numN k) (rr1 k c.2).2).1, (rr2 (idxN k) (rr2 (numN k) (rr1 k c.2).2).2).1, if txtN k then (rr2 (idxN k) (rr2 (numN k) (rr1 k c.2).2).2).2 else []⟩ := rfl
  refine refNParse_gen S (sv c.1) k (ownN k) (numN k) (idxN k) (txtN k) (mostI k) (sv (cut2 32 35 c.2).1) (sv (rr1 k c.2).1) (sv (cut2 32 32 (rr1 k c.2).2).1) (sv (cut2 32 32 (rr2 (numN k) (rr1 k c.2).2).2).1) (sv (if txtN k then (rr2 (idxN k) (rr2 (numN k) (rr1 k c.2).2).2).2 else []))
    (sv (textN (refReadN S.data.toList))) a0 a1 a2 a3 (rr2 (numN k) (rr1 k c.2).2).1 (rr2 (idxN k) (rr2 (numN k) (rr1 k c.2).2).2).1 w _
    (by rw [sv_list]; exact hk) hS u0
    (fun W => by have := owned_any k W; rwa [ownI_nat k h21] at this) (fun W => by have := numbered_any k W; rwa [numI_nat k h21] at this) (fun W => most_any k W) (fun W => by have := texted_any k W; rwa [txtI_nat k h21] at this)
    (fun h => by rw [hmi.2] at h; exact of_decide_eq_true h) (fun h => by rw [hmi.2] at h; exact of_decide_eq_false h)
    u1 ?_ ?_ ?_ u2 ?_ ?_ u3 ?_ ?_ ha3 ?_ ?_ ?_ ?_
  · intro hb he
    have e : (cut2 32 35 c.2).1 = [48] := by
      have := congrArg (fun x : ByteArray => x.data.toList) he
      simpa using this
    unfold rr1; rw [if_pos hb]; show sv (if _ then _ else _) = _; rw [if_pos e]
  · intro hb he
    have e : ¬ (cut2 32 35 c.2).1 = [48] := fun h => he (by rw [h])
    unfold rr1; rw [if_pos hb]; show sv (if _ then _ else _) = _; rw [if_neg e]
  · intro hb
    refine ⟨?_, v1 hb⟩
    unfold rr1; rw [if_neg (by rw [hb]; decide)]
  · intro hb W
    have := hnum (rr1 k c.2).2 (by omega) W
    unfold rr2; rw [if_pos hb]; exact this
  · intro hb
    refine ⟨?_, v2 hb⟩
    unfold rr2; rw [if_neg (by rw [hb]; decide)]
  · intro hb W
    have := hnum (rr2 (numN k) (rr1 k c.2).2).2 (by omega) W
    have e : ∀ r, (rr2 (idxN k) r).1 = refNum (cut2 32 32 r).1 := fun r => by unfold rr2; rw [if_pos hb]
    rw [e]; exact this
  · intro hb
    refine ⟨?_, v3 hb⟩
    have e : ∀ r, (rr2 (idxN k) r).1 = 0 := fun r => by unfold rr2; rw [if_neg (by rw [hb]; decide)]
    exact e _
  · intro hb
    rw [if_pos hb, ext_mid, ← d3', List.take_of_length_le (by rw [List.length_drop]; omega)]
  · intro hb
    rw [if_neg (by rw [hb]; decide)]
  · intro W
    have := refString_any k (rr2 (numN k) (rr1 k c.2).2).1 (rr2 (idxN k) (rr2 (numN k) (rr1 k c.2).2).2).1 (sv (rr1 k c.2).1) (sv (if txtN k then (rr2 (idxN k) (rr2 (numN k) (rr1 k c.2).2).2).2 else [])) W (by rw [sv_size]; omega) (by rw [sv_size]; exact hTXl)
    rw [sv_list, sv_list] at this
    rw [er, eK]; exact this
  · have eS : S = sv S.data.toList := (sv_back S).symm
    have eb : S.toList.isEmpty = decide (S.data.toList = []) := by
      rw [toList_data]; cases S.data.toList <;> simp
    have ey : ((sv (textN (refReadN S.data.toList))).toList == S.toList) = decide (textN (refReadN S.data.toList) = S.data.toList) := by
      rw [toList_data, toList_data, sv_list, Bool.eq_iff_iff]; simp
    rw [eb, ey]
    unfold refParseN
    by_cases h1 : S.data.toList = []
    · left
      rw [if_pos (.inl h1)]
      exact ⟨decide_eq_true h1, rfl⟩
    · right
      by_cases h2 : textN (refReadN S.data.toList) = S.data.toList
      · right
        rw [if_neg (by rintro (h | h); exact h1 h; exact h h2), er, eK]
        exact ⟨decide_eq_false h1, by rw [← eK, ← er]; exact decide_eq_true h2, rfl⟩
      · left
        rw [if_pos (.inr h2)]
        exact ⟨decide_eq_false h1, decide_eq_false h2, rfl⟩
end Go.Proofs.YtcdjmkfpclmbdaaDoor
