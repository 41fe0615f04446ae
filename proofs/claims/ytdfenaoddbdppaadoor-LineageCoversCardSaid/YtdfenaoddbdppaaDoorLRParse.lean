/- lineage: the walk of the reference's Parse. -/
import Derived.Test.YtdfenaoddbdppaaDoorLAt
import Derived.Test.YtdfenaoddbdppaaDoorLInt
set_option linter.unusedVariables false
namespace Go.Proofs.YtdfenaoddbdppaaDoor
open Go.RowKit

/-- The ordinals behind those of out, from at_ on; or none, the offset of the first error, and its number. -/
def parseF (s : List UInt8) : Nat → Nat → List Nat → List Nat × Nat × Nat
  | 0, _, _ => ([], 0, 0)
  | f + 1, at_, out =>
    if (partP s at_ out.length).2.2.1 = 0 then
      (match s.drop (partP s at_ out.length).2.2.2 with
      | [] => (out ++ [(partP s at_ out.length).2.1], 0, 0)
      | c :: _ => if c = 46 then parseF s f ((partP s at_ out.length).2.2.2 + 1) (out ++ [(partP s at_ out.length).2.1]) else ([], (partP s at_ out.length).2.2.2, 6))
    else ([], (partP s at_ out.length).1, (partP s at_ out.length).2.2.1)
def parseL (s : List UInt8) : List Nat × Nat × Nat := match s with
  | [] => ([], 0, 0)
  | _ => parseF s 9 0 []
section
variable {s : List UInt8} {f at_ a n e b : Nat} {out : List Nat} {c : UInt8} {r : List UInt8}
theorem parseF_err (h : partP s at_ out.length = (a, n, e, b)) (he : e ≠ 0) : parseF s (f + 1) at_ out = ([], a, e) := by
  rw [parseF, h]; exact if_neg he
theorem parseF_end (h : partP s at_ out.length = (a, n, 0, b)) (hb : s.drop b = []) : parseF s (f + 1) at_ out = (out ++ [n], 0, 0) := by
  rw [parseF, h]; show (if 0 = 0 then _ else _) = _; rw [if_pos rfl, hb]
theorem parseF_bad (h : partP s at_ out.length = (a, n, 0, b)) (hb : s.drop b = c :: r) (hc : ¬ c = 46) : parseF s (f + 1) at_ out = ([], b, 6) := by
  rw [parseF, h]; show (if 0 = 0 then _ else _) = _; rw [if_pos rfl, hb]; exact if_neg hc
theorem parseF_go (h : partP s at_ out.length = (a, n, 0, b)) (hb : s.drop b = c :: r) (hc : c = 46) : parseF s (f + 1) at_ out = parseF s f (b + 1) (out ++ [n]) := by
  rw [parseF, h]; show (if 0 = 0 then _ else _) = _; rw [if_pos rfl, hb]; exact if_pos hc
end
theorem results_tmp3' {fn : Func} {t u v : Tmp} (h : fn.results = #[.tmp t, .tmp u, .tmp v]) (tmps : Array Value) (P : Program) (w : World) :
    (results fn tmps).run P w = .ok (.tuple #[tmps.getD t undef, tmps.getD u undef, tmps.getD v undef]) w := by
  simp [results, h]

set_option maxHeartbeats 2000000 in
set_option maxRecDepth 100000 in
theorem refParse_any (S : ByteArray) (w : World) (hS : S.size ≤ 1000000) (R : List Nat × Nat × Nat) (hR : R = parseL S.data.toList) :
    Calls Tryd.prog 19 #[.string S] w fun e w' => ∃ v, e = .returned (.tuple #[v, .int .i64 (R.2.1 : Int), .int .i64 (R.2.2 : Int)]) ∧ OI 3 w' w.heap.size v R.1 ∧ Below w.heap.size w w' := by
  by_cases h0 : S.size = 0
  · have hd : S.data.toList = [] := List.eq_nil_of_length_eq_zero (by simpa using h0)
    have hSe : S = ⟨#[]⟩ := by apply ByteArray.ext; apply Array.ext'; simpa using hd
    rw [hd] at hR
    have h2 : R = ([], 0, 0) := hR
    subst h2
    subst hSe
    clear hR hd h0
    go_enter Tryd.func19, Tryd.ntmps19
    go_wp2
    refine bodyPost_ret (results_tmp3' rfl _ _ _) rfl ?_
    exact ⟨_, rfl, OI.nil _ _ _, Below.refl _ _⟩
  · have hR0 : R = parseF S.data.toList 9 0 [] := by
      rw [hR]
      cases hq : S.data.toList with
      | nil => exact absurd (by simpa using congrArg List.length hq) h0
      | cons a b => rfl
    have hSe : S.toList.isEmpty = false := by
      rw [ByteArray.toList_eq]
      cases hq : S.data.toList with
      | nil => exact absurd (by simpa using congrArg List.length hq) h0
      | cons a b => rfl
    have HR0 := Lib.hid hR0
    clear hR hR0
    go_enter Tryd.func19, Tryd.ntmps19
    go_wp2
    go_loopw [5, 6] (fun u i wr => ∃ (at_ f : Nat) (out : List Nat), i = .int .i64 (at_ : Int) ∧ at_ ≤ S.size ∧ out.length + f = 8 ∧ R = parseF S.data.toList (f + 1) at_ out ∧ OI 3 wr w.heap.size u out ∧ Below w.heap.size w wr) (fun _ i _ => S.size + 1 - (intOf i).toNat)
    case atStart => exact ⟨0, 8, [], rfl, by omega, rfl, HR0.out, OI.nil _ _ _, Below.refl _ _⟩
    case round =>
      obtain ⟨at_, f, out, rfl, ha, hf, hRf, ho, hb⟩ := hrel
      obtain ⟨W0, hW0⟩ : ∃ W0 : World, W0 = wr := ⟨_, rfl⟩
      subst hW0
      obtain ⟨A, cap, hv, _⟩ := ho.form
      subst hv
      have HO := Lib.hid ho
      have HB := Lib.hid hb
      have HF := Lib.hid hRf
      have HFL := Lib.hid hf
      clear ho hb hRf hSe HR0
      by_cases h8 : out.length = 8
      · have g8 : ((out.length : Int) == 8) = true := by simp; omega
        have hp : partP S.data.toList at_ out.length = (at_, 0, 9, at_) := by unfold partP; rw [if_pos h8]
        have hr := HF.out.trans (parseF_err hp (by decide))
        subst hr
        clear hp h8 HF
        go_wp2
        refine bodyPost_ret (results_tmp3' rfl _ _ _) rfl ?_
        exact ⟨_, rfl, OI.nil _ _ _, HB.out⟩
      · have g8 : ((out.length : Int) == 8) = false := by simp; omega
        by_cases hl : at_ = S.size
        · have gl : ((at_ : Int) == (S.size : Int)) = true := by simp; omega
          have hp : partP S.data.toList at_ out.length = (at_, 0, 4, at_) := by
            unfold partP; rw [if_neg h8, List.drop_eq_nil_of_le (by simp; omega)]
          have hr := HF.out.trans (parseF_err hp (by decide))
          subst hr
          clear hp h8 HF
          go_wp2
          refine bodyPost_ret (results_tmp3' rfl _ _ _) rfl ?_
          exact ⟨_, rfl, OI.nil _ _ _, HB.out⟩
        · have gl : ((at_ : Int) == (S.size : Int)) = false := by simp; omega
          have hlt : at_ < S.size := by omega
          obtain ⟨c, hcv⟩ : ∃ c, c = S.data.toList[at_]'(by simpa using hlt) := ⟨_, rfl⟩
          obtain ⟨rest, hrest⟩ : ∃ x, x = S.data.toList.drop (at_ + 1) := ⟨_, rfl⟩
          have hdrop : S.data.toList.drop at_ = c :: rest := by rw [hcv, hrest, List.drop_eq_getElem_cons]
          have hix : ∀ W, (Instr.index 9 (.string S) (.int .i64 (at_ : Int))).run Tryd.prog W = .ok (bv c) W := fun W => by
            rw [run_index_string W 9 S .i64 at_ Tryd.underlying9, dif_pos ⟨by omega, by omega⟩]
            rw [hcv]; rfl
          have hPC := partP_cons h8 hdrop
          have HDR := Lib.hid hdrop
          clear hcv hrest hdrop h8
          by_cases hd1 : c.toNat < 48
          · have g1 : (c.toNat : Int) < 48 := by omega
            have hdc : isD c = false := by simp [isD]; omega
            rw [if_neg (by rw [hdc]; decide)] at hPC
            have hr := HF.out.trans (parseF_err hPC (by decide))
            subst hr
            clear hPC HF
            go_wp2
            refine bodyPost_ret (results_tmp3' rfl _ _ _) rfl ?_
            exact ⟨_, rfl, OI.nil _ _ _, HB.out⟩
          · have g1 : ¬ (c.toNat : Int) < 48 := by omega
            by_cases hd2 : 57 < c.toNat
            · have g2 : (57 : Int) < (c.toNat : Int) := by omega
              have hdc : isD c = false := by simp [isD]; omega
              rw [if_neg (by rw [hdc]; decide)] at hPC
              have hr := HF.out.trans (parseF_err hPC (by decide))
              subst hr
              clear hPC HF
              go_wp2
              refine bodyPost_ret (results_tmp3' rfl _ _ _) rfl ?_
              exact ⟨_, rfl, OI.nil _ _ _, HB.out⟩
            · have g2 : ¬ (57 : Int) < (c.toNat : Int) := by omega
              have hdc : isD c = true := by simp [isD]; omega
              rw [if_pos hdc] at hPC
              by_cases h48 : c = 48
              · rw [if_pos h48] at hPC
                have q48 : ((c.toNat : Int) == 48) = true := by rw [h48]; decide
                have hr := HF.out.trans (parseF_err hPC (by decide))
                subst hr
                clear hPC HF h48
                go_wp2
                refine bodyPost_ret (results_tmp3' rfl _ _ _) rfl ?_
                exact ⟨_, rfl, OI.nil _ _ _, HB.out⟩
              · have q48 : ((c.toNat : Int) == 48) = false := by
                  rw [beq_eq_false_iff_ne]; intro e; exact h48 (UInt8.toNat_inj.1 (by rw [show c.toNat = 48 by omega]; rfl))
                rw [if_neg h48] at hPC
                have HPC := Lib.hid hPC
                obtain ⟨f2, rfl⟩ : ∃ f2, f = f2 + 1 := ⟨f - 1, by have := HFL.out; simp at g8; omega⟩
                clear hPC h48 hdc hd1 hd2 hf
                go_wp2
                go_loopw [7, 8] (fun a b wq => ∃ m k n : Nat, a = .int .i64 (n : Int) ∧ b = .int .i64 (m : Int) ∧ m = at_ + k ∧ k ≤ 7 ∧ m ≤ S.size ∧ n < 10 ^ k ∧ dig (c :: rest) 0 0 = (if k = 7 then none else dig (S.data.toList.drop m) k n) ∧ W0 = wq) (fun _ b _ => S.size - (intOf b).toNat)
                case atStart => exact ⟨at_, 0, 0, rfl, rfl, by omega, by omega, ha, by decide, by rw [HDR.out]; rfl, rfl⟩
                case round =>
                  obtain ⟨m, k, n, rfl, rfl, hm, hk, hmS, hn, hdig, rfl⟩ := hrel
                  have hn7 : n < 10000000 := Nat.lt_of_lt_of_le hn (Nat.pow_le_pow_right (by decide) hk)
                  have HM := Lib.hid hm
                  have HN := Lib.hid hn
                  have HG := Lib.hid hdig
                  clear hm hn hdig
                  by_cases hml : m < S.size
                  · have gm : (m : Int) < (S.size : Int) := by omega
                    obtain ⟨d, hd⟩ : ∃ d, d = S.data.toList[m]'(by simpa using hml) := ⟨_, rfl⟩
                    have hix2 : ∀ W, (Instr.index 9 (.string S) (.int .i64 (m : Int))).run Tryd.prog W = .ok (bv d) W := fun W => by
                      rw [run_index_string W 9 S .i64 m Tryd.underlying9, dif_pos ⟨by omega, by omega⟩]
                      rw [hd]; rfl
                    have HDR2 : Hid (S.data.toList.drop m = d :: S.data.toList.drop (m + 1)) := Lib.hid (by rw [hd, List.drop_eq_getElem_cons])
                    clear hd
                    by_cases hb1 : d.toNat < 48
                    · have gb1 : ¬ (48 : Int) ≤ (d.toNat : Int) := by omega
                      have hdf : isD d = false := by simp [isD]; omega
                      by_cases h7 : k = 7
                      · skip
                        have q7 : ((m : Int) == (at_ : Int) + 7) = true := by have := HM.out; simp; omega
                        have hp : partP S.data.toList at_ out.length = (at_, 0, 2, at_) := by rw [HPC.out, HG.out, if_pos h7]
                        have hr := HF.out.trans (parseF_err hp (by decide))
                        subst hr
                        clear hp HF h7
                        go_wp2
                        refine bodyPost_ret (results_tmp3' rfl _ _ _) rfl ?_
                        exact ⟨_, rfl, OI.nil _ _ _, HB.out⟩
                      · have q7 : ((m : Int) == (at_ : Int) + 7) = false := by have := HM.out; simp; omega
                        have hp : partP S.data.toList at_ out.length = (at_, n, 0, m) := by
                          rw [HPC.out, HG.out, if_neg h7, HDR2.out, dig, if_neg (by rw [hdf]; decide), HM.out]
                        have gms : ((m : Int) == (S.size : Int)) = false := by simp; omega
                        by_cases h46 : d = 46
                        · have q46 : ((d.toNat : Int) == 46) = true := by rw [h46]; decide
                          have HR2 := Lib.hid (HF.out.trans (parseF_go hp HDR2.out h46))
                          clear hp HF h7 h46
                          go_wp2_with (refine wpList_pushI isl (by rfl) (.tmp 74) (.tmp 76) (by rfl) w.heap.size _ out (by rfl) n HO.out _ (by rfl) rfl (by have := HFL.out; omega) HB.out.size ?_; intro v3 W3 ho3 hb3; (obtain ⟨A3, cap3, hv3, _⟩ := ho3.form); subst hv3; (simp only [List.length_append, List.length_cons, List.length_nil, Nat.zero_add] at ho3); have HO3 := Lib.hid ho3; have HB3 := Lib.hid (HB.out.trans hb3); clear ho3 hb3)
                          go_roundw
                          case rel => exact ⟨m + 1, f2, out ++ [n], by go_num, by omega, by have := HFL.out; simp; omega, HR2.out, HO3.out, HB3.out⟩
                          case measure => have := HM.out; simp [intOf] <;> omega
                        · have q46 : ((d.toNat : Int) == 46) = false := by
                            rw [beq_eq_false_iff_ne]; intro e; exact h46 (UInt8.toNat_inj.1 (by rw [show d.toNat = 46 by omega]; rfl))
                          have hr := HF.out.trans (parseF_bad hp HDR2.out h46)
                          subst hr
                          clear hp HF h7 h46
                          go_wp2_with (refine wpList_pushI isl (by rfl) (.tmp 74) (.tmp 76) (by rfl) w.heap.size _ out (by rfl) n HO.out _ (by rfl) rfl (by have := HFL.out; omega) HB.out.size ?_; intro v3 W3 ho3 hb3; (obtain ⟨A3, cap3, hv3, _⟩ := ho3.form); subst hv3; (simp only [List.length_append, List.length_cons, List.length_nil, Nat.zero_add] at ho3); have HO3 := Lib.hid ho3; have HB3 := Lib.hid (HB.out.trans hb3); clear ho3 hb3)
                          refine bodyPost_ret (results_tmp3' rfl _ _ _) rfl ?_
                          exact ⟨_, rfl, OI.nil _ _ _, HB3.out⟩
                    · have gb1 : (48 : Int) ≤ (d.toNat : Int) := by omega
                      by_cases hb2 : 57 < d.toNat
                      · have gb2 : ¬ (d.toNat : Int) ≤ 57 := by omega
                        have hdf : isD d = false := by simp [isD]; omega
                        by_cases h7 : k = 7
                        · skip
                          have q7 : ((m : Int) == (at_ : Int) + 7) = true := by have := HM.out; simp; omega
                          have hp : partP S.data.toList at_ out.length = (at_, 0, 2, at_) := by rw [HPC.out, HG.out, if_pos h7]
                          have hr := HF.out.trans (parseF_err hp (by decide))
                          subst hr
                          clear hp HF h7
                          go_wp2
                          refine bodyPost_ret (results_tmp3' rfl _ _ _) rfl ?_
                          exact ⟨_, rfl, OI.nil _ _ _, HB.out⟩
                        · have q7 : ((m : Int) == (at_ : Int) + 7) = false := by have := HM.out; simp; omega
                          have hp : partP S.data.toList at_ out.length = (at_, n, 0, m) := by
                            rw [HPC.out, HG.out, if_neg h7, HDR2.out, dig, if_neg (by rw [hdf]; decide), HM.out]
                          have gms : ((m : Int) == (S.size : Int)) = false := by simp; omega
                          by_cases h46 : d = 46
                          · exact absurd hb2 (by rw [h46]; decide)
                          · have q46 : ((d.toNat : Int) == 46) = false := by
                              rw [beq_eq_false_iff_ne]; intro e; exact h46 (UInt8.toNat_inj.1 (by rw [show d.toNat = 46 by omega]; rfl))
                            have hr := HF.out.trans (parseF_bad hp HDR2.out h46)
                            subst hr
                            clear hp HF h7 h46
                            go_wp2_with (refine wpList_pushI isl (by rfl) (.tmp 74) (.tmp 76) (by rfl) w.heap.size _ out (by rfl) n HO.out _ (by rfl) rfl (by have := HFL.out; omega) HB.out.size ?_; intro v3 W3 ho3 hb3; (obtain ⟨A3, cap3, hv3, _⟩ := ho3.form); subst hv3; (simp only [List.length_append, List.length_cons, List.length_nil, Nat.zero_add] at ho3); have HO3 := Lib.hid ho3; have HB3 := Lib.hid (HB.out.trans hb3); clear ho3 hb3)
                            refine bodyPost_ret (results_tmp3' rfl _ _ _) rfl ?_
                            exact ⟨_, rfl, OI.nil _ _ _, HB3.out⟩
                      · have gb2 : (d.toNat : Int) ≤ 57 := by omega
                        have hdd : isD d = true := by simp [isD]; omega
                        by_cases h7 : k = 7
                        · have g7 : ¬ (m : Int) < (at_ : Int) + 7 := by have := HM.out; omega
                          have q7 : ((m : Int) == (at_ : Int) + 7) = true := by have := HM.out; simp; omega
                          have hp : partP S.data.toList at_ out.length = (at_, 0, 2, at_) := by rw [HPC.out, HG.out, if_pos h7]
                          have hr := HF.out.trans (parseF_err hp (by decide))
                          subst hr
                          clear hp HF h7
                          go_wp2
                          refine bodyPost_ret (results_tmp3' rfl _ _ _) rfl ?_
                          exact ⟨_, rfl, OI.nil _ _ _, HB.out⟩
                        · have g7 : (m : Int) < (at_ : Int) + 7 := by have := HM.out; omega
                          have hnx := pow_step (x := d.toNat - 48) HN.out (by omega)
                          have HX := Lib.hid hnx
                          clear hnx
                          have HG2 : Hid (dig (c :: rest) 0 0 = (if k + 1 = 7 then none else dig (S.data.toList.drop (m + 1)) (k + 1) (10 * n + (d.toNat - 48)))) := Lib.hid (by
                            rw [HG.out, if_neg h7, HDR2.out, dig, if_pos hdd]
                            by_cases h6 : k = 6
                            · rw [if_pos h6, if_pos (by omega)]
                            · rw [if_neg h6, if_neg (by omega)])
                          clear hdd
                          go_wp2
                          go_roundw
                          case rel => exact ⟨m + 1, k + 1, 10 * n + (d.toNat - 48), by (show Value.int .i64 _ = Value.int .i64 _); congr 1; omega, by go_num, by have := HM.out; omega, by omega, by omega, HX.out, HG2.out, by first | rfl | trivial⟩
                          case measure => simp [intOf] <;> omega
                  · have gm : ¬ (m : Int) < (S.size : Int) := by omega
                    have HNL : Hid (S.data.toList.drop m = []) := Lib.hid (List.drop_eq_nil_of_le (by simp; omega))
                    by_cases h7 : k = 7
                    · skip
                      have q7 : ((m : Int) == (at_ : Int) + 7) = true := by have := HM.out; simp; omega
                      have hp : partP S.data.toList at_ out.length = (at_, 0, 2, at_) := by rw [HPC.out, HG.out, if_pos h7]
                      have hr := HF.out.trans (parseF_err hp (by decide))
                      subst hr
                      clear hp HF h7
                      go_wp2
                      refine bodyPost_ret (results_tmp3' rfl _ _ _) rfl ?_
                      exact ⟨_, rfl, OI.nil _ _ _, HB.out⟩
                    · have q7 : ((m : Int) == (at_ : Int) + 7) = false := by have := HM.out; simp; omega
                      have hp : partP S.data.toList at_ out.length = (at_, n, 0, m) := by
                        rw [HPC.out, HG.out, if_neg h7, HNL.out, dig, HM.out]
                      have gms : ((m : Int) == (S.size : Int)) = true := by simp; omega
                      have hr := HF.out.trans (parseF_end hp HNL.out)
                      subst hr
                      clear hp HF h7
                      go_wp2_with (refine wpList_pushI isl (by rfl) (.tmp 74) (.tmp 76) (by rfl) w.heap.size _ out (by rfl) n HO.out _ (by rfl) rfl (by have := HFL.out; omega) HB.out.size ?_; intro v3 W3 ho3 hb3; (obtain ⟨A3, cap3, hv3, _⟩ := ho3.form); subst hv3; (simp only [List.length_append, List.length_cons, List.length_nil, Nat.zero_add] at ho3); have HO3 := Lib.hid ho3; have HB3 := Lib.hid (HB.out.trans hb3); clear ho3 hb3)
                      refine bodyPost_ret (results_tmp3' rfl _ _ _) rfl ?_
                      exact ⟨_, rfl, HO3.out, HB3.out⟩
end Go.Proofs.YtdfenaoddbdppaaDoor
