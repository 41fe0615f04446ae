/- lineage: the walk of partAt. -/
import Derived.Test.YtdfenaoddbdppaaDoorLPart
import Derived.Test.YtdfenaoddbdppaaDoorSComp
set_option linter.unusedVariables false
namespace Go.Proofs.YtdfenaoddbdppaaDoor
open Go.RowKit

theorem results_row2 {P : Program} {fn : Func} {p q : Tmp} {ty : TypeId} (h : fn.results = #[.cell p ty, .tmp q]) (tmps : Array Value) (w : World) (g : Nat) (cs : List Value) (d : TypeDesc)
    (hp : tmps.getD p undef = .pointer (some ⟨g, 0, none⟩)) (hg : w.rangeAt g 0 cs) (hu : P.underlying ty = some d) (hd : d.isRow = true) (hi : (P.info? ty).map (·.size) = some cs.length) :
    (results fn tmps).run P w = .ok (.tuple #[.agg cs.toArray, tmps.getD q undef]) w := by
  have hp' : tmps[p]?.getD undef = .pointer (some ⟨g, 0, none⟩) := by simpa using hp
  simp [results, h, hp', asAddr, run_loadVar_mid w g 0 ty cs d hg hu hd hi]
theorem range3 {w : World} {g : Nat} {a b c : Value} (ha : w.cell? ⟨g, 0, none⟩ = some a) (hb : w.cell? ⟨g, 1, none⟩ = some b) (hc : w.cell? ⟨g, 2, none⟩ = some c) : w.rangeAt g 0 [a, b, c] := by
  intro j v hj
  match j, hj with
  | 0, hj => simp at hj; subst hj; exact ha
  | 1, hj => simp at hj; subst hj; exact hb
  | 2, hj => simp at hj; subst hj; exact hc

theorem new3 (w : World) (a b c : Value) (t : TypeId) : (w.alloc (.cells #[a, b, c] t)).rangeAt w.heap.size 0 [a, b, c] := by
  refine range3 ?_ ?_ ?_ <;> (rw [World.cell?_alloc_at _ _ _ _ rfl]; rfl)
theorem info_part : (Tryd.prog.info? 105).map (·.size) = some 3 := by kernel_rfl
def part3 (a b c : Nat) : List Value := [.int .i64 (a : Int), .int .i64 (b : Int), .int .i64 (c : Int)]
theorem partP_cons {s : List UInt8} {at_ count : Nat} {c : UInt8} {r : List UInt8} (h8 : ¬ count = 8) (h : s.drop at_ = c :: r) : partP s at_ count = if isD c then (if c = 48 then (at_, 0, 3, at_) else match dig (c :: r) 0 0 with
    | none => (at_, 0, 2, at_)
    | some (n, k) => (at_, n, 0, at_ + k)) else (at_, 0, 6, at_) := by
  unfold partP; rw [if_neg h8, h]; rfl

theorem info_part3 (a b c : Nat) : (Tryd.prog.info? 105).map (·.size) = some (part3 a b c).toArray.size := info_part
theorem part3_one (a b c : Nat) : ∀ v ∈ part3 a b c, v.oneCell' = true := by
  intro v hv
  simp only [part3, List.mem_cons, List.not_mem_nil, or_false] at hv
  rcases hv with rfl | rfl | rfl <;> rfl
theorem pow_step {n k x : Nat} (h : n < 10 ^ k) (hx : x ≤ 9) : 10 * n + x < 10 ^ (k + 1) := by
  rw [Nat.pow_succ]
  generalize 10 ^ k = P at *
  omega
/-- The result's variable and p. -/
def PB (w : World) (at_ n : Nat) (V : World) : Prop := Arr V w.heap.size 0 (part3 0 0 0) ∧ Arr V (w.heap.size + 1) 0 (part3 at_ n 0) ∧ Below w.heap.size w V
theorem pb_new (w : World) (at_ : Nat) (z y : Array Value) (hz : z = (part3 0 0 0).toArray) (hy : y = (part3 at_ 0 0).toArray) (s t : TypeId) : PB w at_ 0 ((w.alloc (.cells z s)).alloc (.cells y t)) := by
  subst hz hy
  have e1 : (w.alloc (Obj.cells (part3 0 0 0).toArray s)).heap.size = w.heap.size + 1 := by simp
  refine ⟨(Arr.new w _ _).alloc _, ?_, ((Below.refl _ w).alloc (Nat.le_refl _) _).alloc (by simp) _⟩
  rw [← e1]; exact Arr.new _ (part3 at_ 0 0) t

set_option maxHeartbeats 1000000 in
set_option maxRecDepth 100000 in
theorem partAt_any (S : ByteArray) (at_ count : Nat) (w : World) (ha : at_ ≤ S.size) (hS : S.size ≤ 1000000) (hc : count ≤ 8) (r : Nat × Nat × Nat × Nat) (hr : r = partP S.data.toList at_ count) :
    Calls Tryd.prog 80 #[.string S, .int .i64 (at_ : Int), .int .i64 (count : Int)] w fun e w' => e = .returned (.tuple #[.agg (part3 r.1 r.2.1 r.2.2.1).toArray, .int .i64 (r.2.2.2 : Int)]) ∧ Below w.heap.size w w' := by
  by_cases h8 : count = 8
  · subst h8
    have h2 : r = (at_, 0, 9, at_) := by rw [hr]; rfl
    subst h2
    clear hr
    go_enter Tryd.func80, Tryd.ntmps80
    go_wp2
    exact bodyPost_ret (results_row2 rfl _ _ w.heap.size _ _ rfl (new3 w _ _ _ _) Tryd.underlying105 rfl info_part) rfl ⟨rfl, (Below.refl _ w).alloc (Nat.le_refl _) _⟩
  · have g8 : ((count : Int) == 8) = false := by simp; omega
    by_cases hl : at_ = S.size
    · have h2 : r = (at_, 0, 4, at_) := by
        rw [hr]; unfold partP
        rw [if_neg h8, List.drop_eq_nil_of_le (by simp; omega)]
      subst h2
      subst hl
      clear hr
      go_enter Tryd.func80, Tryd.ntmps80
      go_wp2
      exact bodyPost_ret (results_row2 rfl _ _ w.heap.size _ _ rfl (new3 w _ _ _ _) Tryd.underlying105 rfl info_part) rfl ⟨rfl, (Below.refl _ w).alloc (Nat.le_refl _) _⟩
    · have gl : ((at_ : Int) == (S.size : Int)) = false := by simp; omega
      have hlt : at_ < S.size := by omega
      obtain ⟨c, hcv⟩ : ∃ c, c = S.data.toList[at_]'(by simpa using hlt) := ⟨_, rfl⟩
      obtain ⟨rest, hrest⟩ : ∃ x, x = S.data.toList.drop (at_ + 1) := ⟨_, rfl⟩
      have hdrop : S.data.toList.drop at_ = c :: rest := by rw [hcv, hrest, List.drop_eq_getElem_cons]
      rw [partP_cons h8 hdrop] at hr
      have hix : ∀ W, (Instr.index 9 (.string S) (.int .i64 (at_ : Int))).run Tryd.prog W = .ok (bv c) W := fun W => by
        rw [run_index_string W 9 S .i64 at_ Tryd.underlying9, dif_pos ⟨by omega, by omega⟩]
        rw [hcv]; rfl
      have HD : Hid (∀ W, Calls Tryd.prog 101 #[bv c] W fun e w' => e = .returned (.bool (isD c)) ∧ W = w') := Lib.hid fun W => isDigit_any c W
      have HCV := Lib.hid hcv
      have HDR := Lib.hid hdrop
      clear hcv hrest hdrop
      by_cases hdc : isD c = true
      · rw [hdc] at HD
        rw [if_pos hdc] at hr
        by_cases h48 : c = 48
        · rw [if_pos h48] at hr
          have q48 : ((c.toNat : Int) == 48) = true := by rw [h48]; decide
          subst hr
          clear h48
          go_enter Tryd.func80, Tryd.ntmps80
          go_wp2_with (go_at_call 101; refine (HD.out _).mono ?_; rintro e w' ⟨rfl, rfl⟩)
          exact bodyPost_ret (results_row2 rfl _ _ w.heap.size _ _ rfl (new3 w _ _ _ _) Tryd.underlying105 rfl info_part) rfl ⟨rfl, (Below.refl _ w).alloc (Nat.le_refl _) _⟩
        · have q48 : ((c.toNat : Int) == 48) = false := by
            rw [beq_eq_false_iff_ne]; intro e; exact h48 (UInt8.toNat_inj.1 (by rw [show c.toNat = 48 by omega]; rfl))
          rw [if_neg h48] at hr
          clear h48
          go_enter Tryd.func80, Tryd.ntmps80
          go_wp2_with (go_at_call 101; refine (HD.out _).mono ?_; rintro e w' ⟨rfl, rfl⟩)
          have HR := Lib.hid hr
          have HD2 : Hid (∀ (c : UInt8) W, Calls Tryd.prog 101 #[bv c] W fun e w' => e = .returned (.bool (isD c)) ∧ W = w') := Lib.hid isDigit_any
          have HLT := Lib.hid hlt
          clear HCV
          clear hr HD hix gl g8 hl h8 hdc q48 hlt
          refine cwp_gen (PB w at_ 0) (pb_new w at_ _ _ rfl rfl _ _) ?_
          intro V hV
          go_loopw [9] (fun i wr => ∃ m k n : Nat, i = .int .i64 (m : Int) ∧ m = at_ + k ∧ k ≤ 6 ∧ m ≤ S.size ∧ n < 10 ^ k ∧ dig (c :: rest) 0 0 = dig (S.data.toList.drop m) k n ∧ PB w at_ n wr) (fun i _ => S.size - (intOf i).toNat)
          case atStart => exact ⟨at_, 0, 0, rfl, rfl, by omega, ha, by decide, by rw [HDR.out], hV⟩
          case round =>
            obtain ⟨m, k, n, rfl, hm, hk, hmS, hn, hdig, hP⟩ := hrel
            have HP := Lib.hid hP
            have HN := Lib.hid hn
            have HG := Lib.hid hdig
            have HM := Lib.hid hm
            have hn6 : n < 1000000 := Nat.lt_of_lt_of_le hn (Nat.pow_le_pow_right (by decide) hk)
            have e1 := hP.2.1.cell0 (i := 1) (v := .int .i64 (n : Int)) rfl
            have f1 := hP.2.1.frozen0 (i := 1) (by simp [part3])
            have HZ : Hid (∀ a b c : Nat, wr.there w.heap.size 0 (part3 a b c).toArray.size) := Lib.hid fun a b c => hP.1.thereA (part3 a b c) rfl
            have HI3 : Hid (∀ a b c : Nat, (Tryd.prog.info? 105).map (·.size) = some (part3 a b c).toArray.size) := Lib.hid info_part3
            have HI3l : Hid (∀ a b c : Nat, (Tryd.prog.info? 105).map (·.size) = some (part3 a b c).length) := Lib.hid fun _ _ _ => info_part
            have HO3 : Hid (∀ a b c : Nat, (part3 a b c).toArray.all Value.oneCell' = true) := Lib.hid fun a b c => all_oneCell_toArray (part3_one a b c)
            have HR8 : Hid (wr.rangeAt (w.heap.size + 1) 0 (part3 at_ n 0)) := Lib.hid hP.2.1.1
            clear hV hP hn hdig hm
            by_cases hlt : m < S.size
            · have gl : (m : Int) < (S.size : Int) := by omega
              obtain ⟨d, hd⟩ : ∃ d, d = S.data.toList[m]'(by simpa using hlt) := ⟨_, rfl⟩
              have hix : ∀ W, (Instr.index 9 (.string S) (.int .i64 (m : Int))).run Tryd.prog W = .ok (bv d) W := fun W => by
                rw [run_index_string W 9 S .i64 m Tryd.underlying9, dif_pos ⟨by omega, by omega⟩]
                rw [hd]; rfl
              have HDR2 : Hid (S.data.toList.drop m = d :: S.data.toList.drop (m + 1)) := Lib.hid (by rw [hd, List.drop_eq_getElem_cons])
              have HD := Lib.hid (HD2.out d)
              clear hd
              by_cases hdd : isD d = true
              · rw [hdd] at HD
                have hd0 : 48 ≤ d.toNat ∧ d.toNat ≤ 57 := by simpa [isD] using hdd
                have gd0 : (48 : Int) ≤ (d.toNat : Int) := by omega
                have gd1 : (d.toNat : Int) ≤ 57 := by omega
                have HDD := Lib.hid hdd
                clear hdd
                by_cases h6 : k = 6
                · have q6 : ((m : Int) - (at_ : Int) == 6) = true := by have := HM.out; simp; omega
                  have hr2 : r = (at_, 0, 2, at_) := by
                    rw [HR.out, HG.out, HDR2.out, dig, if_pos HDD.out, if_pos h6]
                  subst hr2
                  clear HR HG
                  go_wp2_with (first
                    | (go_at_call 101; refine (HD.out _).mono ?_; rintro e w' ⟨rfl, rfl⟩)
                    | (refine wpList_store_mid (by rfl) 105 (.tmp 6) (.tmp 59) (by rfl) w.heap.size 0 (part3 at_ 0 2).toArray (by rfl) (by rfl) (HZ.out at_ 0 2) (HI3.out at_ 0 2) (HO3.out at_ 0 2) ?_))
                  refine bodyPost_ret (results_row2 rfl _ _ w.heap.size (part3 at_ 0 2) _ rfl (HP.out.1.sets (part3 at_ 0 2) rfl).1 Tryd.underlying105 rfl info_part) rfl ?_
                  exact ⟨rfl, below_setCells _ (Nat.le_refl _) _ _ _ HP.out.2.2⟩
                · have q6 : ((m : Int) - (at_ : Int) == 6) = false := by have := HM.out; simp; omega
                  go_wp2_with (go_at_call 101; refine (HD.out _).mono ?_; rintro e w' ⟨rfl, rfl⟩)
                  go_region
                  have ev : (10 * (n : Int) + ((d.toNat : Int) - 48)) = ((10 * n + (d.toNat - 48) : Nat) : Int) := by omega
                  rw [ev]
                  go_wp2
                  go_roundw
                  case rel =>
                    refine ⟨m + 1, k + 1, 10 * n + (d.toNat - 48), by go_num, by have := HM.out; omega, by omega, by omega, pow_step HN.out (by omega), ?_, (HP.out.1.other _ (.inl (by show w.heap.size + 1 ≠ w.heap.size; omega))).drew, (HP.out.2.1.set0 (i := 1) (by simp [part3]) _).drew, (HP.out.2.2.setCell (p := ⟨w.heap.size + 1, 1, none⟩) (by show w.heap.size ≤ w.heap.size + 1; omega) _).drew⟩
                    rw [HG.out, HDR2.out, dig, if_pos HDD.out, if_neg h6]
                  case measure => simp [intOf] <;> omega
              · have hdf : isD d = false := by simpa using hdd
                rw [hdf] at HD
                clear hdd
                have hr2 : r = (at_, n, 0, m) := by
                  rw [HR.out, HG.out, HDR2.out, dig, if_neg (by rw [hdf]; decide)]
                  show (at_, n, 0, at_ + k) = _
                  rw [← HM.out]
                subst hr2
                clear HR HG
                go_wp2_with (first
                  | (go_at_call 101; refine (HD.out _).mono ?_; rintro e w' ⟨rfl, rfl⟩)
                  | (refine wpList_load_mid (by rfl) 105 (.tmp 8) (by rfl) (w.heap.size + 1) 0 (by rfl) (part3 at_ n 0) _ HR8.out Tryd.underlying105 rfl (HI3l.out at_ n 0) ?_)
                  | (refine wpList_store_mid (by rfl) 105 (.tmp 6) (.tmp 73) (by rfl) w.heap.size 0 (part3 at_ n 0).toArray (by rfl) (by rfl) (HZ.out at_ n 0) (HI3.out at_ n 0) (HO3.out at_ n 0) ?_))
                refine bodyPost_ret (results_row2 rfl _ _ w.heap.size (part3 at_ n 0) _ rfl (HP.out.1.sets (part3 at_ n 0) rfl).1 Tryd.underlying105 rfl info_part) rfl ?_
                exact ⟨rfl, below_setCells _ (Nat.le_refl _) _ _ _ HP.out.2.2⟩
            · have gl : ¬ (m : Int) < (S.size : Int) := by omega
              have hr2 : r = (at_, n, 0, m) := by
                rw [HR.out, HG.out, List.drop_eq_nil_of_le (by simp; omega), dig]
                show (at_, n, 0, at_ + k) = _
                rw [← HM.out]
              subst hr2
              clear HR HG
              go_wp2_with (first
                | (refine wpList_load_mid (by rfl) 105 (.tmp 8) (by rfl) (w.heap.size + 1) 0 (by rfl) (part3 at_ n 0) _ HR8.out Tryd.underlying105 rfl (HI3l.out at_ n 0) ?_)
                | (refine wpList_store_mid (by rfl) 105 (.tmp 6) (.tmp 73) (by rfl) w.heap.size 0 (part3 at_ n 0).toArray (by rfl) (by rfl) (HZ.out at_ n 0) (HI3.out at_ n 0) (HO3.out at_ n 0) ?_))
              refine bodyPost_ret (results_row2 rfl _ _ w.heap.size (part3 at_ n 0) _ rfl (HP.out.1.sets (part3 at_ n 0) rfl).1 Tryd.underlying105 rfl info_part) rfl ?_
              exact ⟨rfl, below_setCells _ (Nat.le_refl _) _ _ _ HP.out.2.2⟩
      · have hdf : isD c = false := by simpa using hdc
        rw [hdf] at HD
        rw [if_neg hdc] at hr
        subst hr
        go_enter Tryd.func80, Tryd.ntmps80
        go_wp2_with (go_at_call 101; refine (HD.out _).mono ?_; rintro e w' ⟨rfl, rfl⟩)
        exact bodyPost_ret (results_row2 rfl _ _ w.heap.size _ _ rfl (new3 w _ _ _ _) Tryd.underlying105 rfl info_part) rfl ⟨rfl, (Below.refl _ w).alloc (Nat.le_refl _) _⟩
end Go.Proofs.YtdfenaoddbdppaaDoor
