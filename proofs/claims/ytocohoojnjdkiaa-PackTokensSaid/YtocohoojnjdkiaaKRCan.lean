/- pack: the reference's Canonical. -/
import Derived.Test.YtocohoojnjdkiaaKBestL
import Derived.Test.YtocohoojnjdkiaaKLim
set_option linter.unusedVariables false
namespace Go.Proofs.Ytocohoojnjdkiaa
open Go.RowKit

/-- A token as an element: the token, where its literals lie, their capacity. -/
abbrev TE := Tok × Option Addr × Nat
def encT (x : TE) : List Value := [.slice x.2.1 x.1.lits.length x.2.2, .int .i64 (x.1.dist : Int), .int .i64 (x.1.len : Int)]
theorem encT_ok : EncK encT 3 where
  len _ := rfl
  one x u hu := by
    simp [encT] at hu
    rcases hu with rfl | rfl | rfl <;> rfl
  pos := by decide
theorem rtT_ok : TypK Try.prog 30 46 3 40 := ⟨Try.underlying30, by
  obtain ⟨i, hi, hz, hs, hb⟩ := info_parts (P := Try.prog) (e := 46) (z := tokV none 0 0 0 0) (size := 3) (bytes := 40) (by kernel_rfl)
  exact ⟨i, _, hi, hz, hs, hb, rfl⟩⟩
/-- The literals of tokens: each one's own, from base on and below H. -/
def LT (w : World) (base H : Nat) (q : List TE) : Prop := ∀ x ∈ q, OB 5 w base (.slice x.2.1 x.1.lits.length x.2.2) x.1.lits ∧ ∀ k, (Value.slice x.2.1 x.1.lits.length x.2.2).ownBlock = some k → k < H
theorem LT.nil {w : World} {base H : Nat} : LT w base H [] := fun x hx => by cases hx
theorem LT.mod {w w' : World} {base H : Nat} {q : List TE} {S : Nat → Prop} (h : LT w base H q) (hm : Mod w w' S) (hS : ∀ x ∈ q, ∀ k, (Value.slice x.2.1 x.1.lits.length x.2.2).ownBlock = some k → ¬ S k) : LT w' base H q :=
  fun x hx => ⟨(h x hx).1.mod hm (hS x hx), (h x hx).2⟩
theorem LT.mono {w : World} {base H H' : Nat} {q : List TE} (h : LT w base H q) (hH : H ≤ H') : LT w base H' q := fun x hx => ⟨(h x hx).1, fun k hk => Nat.lt_of_lt_of_le ((h x hx).2 k hk) hH⟩
theorem LT.app {w : World} {base H : Nat} {q r : List TE} (h : LT w base H q) (k : LT w base H r) : LT w base H (q ++ r) := fun x hx => by
  rcases List.mem_append.1 hx with h1 | h1
  · exact h x h1
  · exact k x h1
theorem OQ.ne_ob {α : Type} {enc : α → List Value} {k : Nat} {e e' : TypeId} {w : World} {base base' : Nat} {v u : Value} {l : List α} {m : List UInt8} (h : OQ enc k e w base v l) (h' : OB e' w base' u m) (hne : e ≠ e') : ∀ j, u.ownBlock = some j → v.ownBlock ≠ some j := by
  intro j hj
  rcases h'.2 with ⟨rfl, _⟩ | ⟨g, cap, cur, rfl, _, hh, _⟩
  · simp [Value.ownBlock] at hj
  · have e1 : g = j := by simpa [Value.ownBlock] using hj
    subst e1
    exact h.ne_blk (t := e') (cs := cur) hh hne
/-- After a literal token was appended. -/
theorem push_lit {W W3 : World} {H0 H : Nat} {ov v3 : Value} {q : List TE} {run : List UInt8} {rA : Option Addr} {rc : Nat} (hO : OQ encT 3 46 W H0 ov q) (hq : LT W H0 H q) (hr : OB 5 W H (.slice rA run.length rc) run) (h1 : H0 ≤ H) (h2 : H ≤ W.heap.size) (hg : Grew W W3 ov v3) :
    LT W3 H0 W.heap.size (q ++ [(.lit run, rA, rc)]) := by
  have hx : LT W H0 W.heap.size (q ++ [(.lit run, rA, rc)]) := (hq.mono h2).app fun x hx => by
    obtain rfl : x = (.lit run, rA, rc) := by simpa using hx
    exact ⟨hr.base0 h1, fun k hk => (hr.lt k hk).2⟩
  exact hx.mod hg.mod fun x hm k hk => hO.ne_ob (hx x hm).1 (by decide) k hk
theorem push_mch {W W3 : World} {H0 H d n : Nat} {ov v3 : Value} {q : List TE} (hO : OQ encT 3 46 W H0 ov q) (hq : LT W H0 H q) (hg : Grew W W3 ov v3) :
    LT W3 H0 H (q ++ [(.mch d n, none, 0)]) := by
  have hx : LT W H0 H (q ++ [(.mch d n, none, 0)]) := hq.app fun x hx => by
    obtain rfl : x = (.mch d n, none, 0) := by simpa using hx
    exact ⟨OB.nil _ _ _, fun k hk => by simp [Value.ownBlock] at hk⟩
  exact hx.mod hg.mod fun x hm k hk => hO.ne_ob (hx x hm).1 (by decide) k hk
/-- After a byte was appended to the run. -/
theorem push_run {W W2 : World} {H0 H : Nat} {ov rv v2 : Value} {q : List TE} {run : List UInt8} (hO : OQ encT 3 46 W H0 ov q) (hq : LT W H0 H q) (hr : OB 5 W H rv run) (hg : Grew W W2 rv v2) :
    OQ encT 3 46 W2 H0 ov q ∧ LT W2 H0 H q :=
  ⟨hO.mod hg.mod fun j hj e => hO.ne_ob hr (by decide) j e hj, hq.mod hg.mod fun x hx k hk e => by have := (hq x hx).2 k hk; have := (hr.lt k e).1; omega⟩
/-- What Canonical keeps up: the place, the run, the tokens so far. -/
def Can (W0 : World) (t : List UInt8) (T0 : List Tok) (dl N : Nat) (ov rv i : Value) (wr : World) : Prop :=
  ∃ (at_ : Nat) (run : List UInt8) (q : List TE) (H : Nat), i = .int .i64 (at_ : Int) ∧ dl ≤ at_ ∧ at_ ≤ N ∧ run.length < 128 ∧ q.length + run.length ≤ at_ ∧ q.map (·.1) ++ cn t at_ run = T0 ∧ OQ encT 3 46 wr W0.heap.size ov q ∧ LT wr W0.heap.size H q ∧ OB 5 wr H rv run ∧ W0.heap.size ≤ H ∧ H ≤ wr.heap.size ∧ Below W0.heap.size W0 wr
set_option maxHeartbeats 4000000 in
set_option maxRecDepth 100000 in
theorem rcan_any (w : World) (D : Option Addr) (dict : List UInt8) (dc : Nat) (A : Option Addr) (b : List UInt8) (c : Nat) (hd : RB w w.heap.size D dict) (hr : RB w w.heap.size A b) (hl : dict.length + b.length ≤ 100000) :
    Calls Try.prog 18 #[.slice D dict.length dc, .slice A b.length c] w fun e w' => ∃ v q, e = .returned v ∧ OQ encT 3 46 w' w.heap.size v q ∧ q.map (·.1) = cn (dict ++ b) dict.length [] ∧ LT w' w.heap.size w'.heap.size q ∧ Below w.heap.size w w' := by
  have ho : OB 5 (w.alloc (.cells #[] 5)) w.heap.size (.slice (some ⟨w.heap.size, 0, none⟩) 0 0) [] :=
    ⟨rfl, .inr ⟨w.heap.size, 0, #[], rfl, Nat.le_refl _, heap_alloc_new _ _, Nat.le_refl _, Nat.zero_le _, rfl, rfl⟩⟩
  have HO := Lib.hid ho
  have hb0 : Below w.heap.size w (w.alloc (.cells #[] 5)) := (Below.refl _ _).alloc (Nat.le_refl _) _
  have HB0 := Lib.hid hb0
  have HD := Lib.hid hd
  have HR := Lib.hid hr
  obtain ⟨t, ht⟩ : ∃ t, dict ++ b = t := ⟨_, rfl⟩
  have htl : t.length = dict.length + b.length := by rw [← ht, List.length_append]
  obtain ⟨T0, hT0⟩ : ∃ T0, cn t dict.length [] = T0 := ⟨_, rfl⟩
  rw [ht, hT0]
  have HT := Lib.hid ht
  have HT0 := Lib.hid hT0
  obtain ⟨dl, hdl⟩ : ∃ n, dict.length = n := ⟨_, rfl⟩
  obtain ⟨bl, hbl⟩ : ∃ n, b.length = n := ⟨_, rfl⟩
  have HDL := Lib.hid hdl
  have HBL := Lib.hid hbl
  rw [hdl] at hl HT0 htl ⊢
  rw [hbl] at hl htl ⊢
  obtain ⟨N, hN⟩ : ∃ n, t.length = n := ⟨_, rfl⟩
  have HN := Lib.hid hN
  rw [hN] at htl
  have hdN : dl ≤ N := by omega
  have hN1 : N ≤ 100000 := by omega
  have HL1 : Hid (([] : List UInt8).length + dict.length ≤ 140737488355328) := Lib.hid (by rw [hdl]; simp; omega)
  have HL2 : Hid (([] ++ dict : List UInt8).length + b.length ≤ 140737488355328) := Lib.hid (by rw [List.nil_append, hdl, hbl]; omega)
  clear ho hb0 hd hr ht hT0 hdl hbl hN hl htl
  go_enter Try.func18, Try.ntmps18
  go_upto_region 2 with (first
    | (at_builtin; refine wpList_app bslK rfl (.tmp 11) (.tmp 12) rfl w.heap.size _ [] ?_ HO.out w.heap.size D dict dc ?_ ?_ ?_ ?_ ?_; (focus rfl); (focus (rw [HDL.out]; rfl)); (focus (exact HD.out.below HB0.out)); (focus (exact HL1.out)); (focus (exact HB0.out.size)); intro v1 W1 ho1 hg1; have HO1 := Lib.hid ho1; have HB1 := Lib.hid (HB0.out.trans (hg1.below HB0.out.size (fun k hk => (HO.out.lt k hk).1))); clear ho1 hg1)
    | (at_builtin; refine wpList_app bslK rfl (.tmp 13) (.tmp 14) rfl w.heap.size _ _ ?_ HO1.out w.heap.size A b c ?_ ?_ ?_ ?_ ?_; (focus rfl); (focus (rw [HBL.out]; rfl)); (focus (exact HR.out.below HB1.out)); (focus (exact HL2.out)); (focus (exact HB1.out.size)); intro v2 W2 ho2 hg2; have HB2 := Lib.hid (HB1.out.trans (hg2.below HB1.out.size (fun k hk => (HO1.out.lt k hk).1))); rw [List.nil_append, HT.out] at ho2; obtain ⟨tA, tc, hv2, hrt, hct, _⟩ := ho2.form; rw [HN.out] at hv2 hct; subst hv2; have HRT := Lib.hid hrt; clear ho2 hg2 hrt))
  have HBE : Hid (∀ W at_, Below W2.heap.size W2 W → at_ < N → Calls Try.prog 36 #[.slice tA N tc, .int .i64 (at_ : Int)] W fun e w' => e = .returned (.tuple #[.int .i64 ((bst t at_).1 : Int), .int .i64 ((bst t at_).2 : Int)]) ∧ Below W.heap.size W w') := Lib.hid fun W at_ h ha => by
    have h2 := rbest_all tA t tc W ((HRT.out.below h).more h.size) (by rw [HN.out]; omega) at_ (by rw [HN.out]; exact ha)
    rwa [HN.out] at h2
  go_wp2
  go_loopw [6, 7, 8] (fun ov rv i wr => Can W2 t T0 dl N ov rv i wr) (fun _ _ i _ => N - (intOf i).toNat)
  case atStart => exact ⟨dl, [], [], W2.heap.size, rfl, by omega, by omega, by simp, by simp, HT0.out, OQ.nil _ _, LT.nil, OB.nil _ _ _, Nat.le_refl _, Nat.le_refl _, Below.refl _ _⟩
  case round =>
    obtain ⟨at_, run, q, H, rfl, hda, haN, hrl, hql, hT, hOQ, hLT, hOB, hH0, hHw, hb⟩ := hrel
    obtain ⟨rA, rc, hrv, _, _, _⟩ := hOB.form
    obtain ⟨oA, oc, hov, _, _, _, _⟩ := hOQ.form encT_ok
    obtain ⟨m, hm⟩ : ∃ m, run.length = m := ⟨_, rfl⟩
    obtain ⟨ql, hqm⟩ : ∃ m, q.length = m := ⟨_, rfl⟩
    rw [hm] at hrl hql hrv
    rw [hqm] at hql hov
    subst hrv
    subst hov
    have HM := Lib.hid hm
    have HQM := Lib.hid hqm
    have HTT := Lib.hid hT
    have HQ := Lib.hid hOQ
    have HLT := Lib.hid hLT
    have HRB := Lib.hid hOB
    have HHS := Lib.hid (And.intro hH0 hHw)
    have HB := Lib.hid hb
    have HX : Hid (q.length + 1 ≤ maxLen ∧ (q.length + 1) * 40 ≤ 140737488355328) := Lib.hid (by rw [hqm]; unfold maxLen; omega)
    have HX2 : Hid (∀ x : TE, (q ++ [x]).length + 1 ≤ maxLen ∧ ((q ++ [x]).length + 1) * 40 ≤ 140737488355328) := Lib.hid (fun x => by rw [List.length_append, hqm]; unfold maxLen; simp; omega)
    have HBS : Hid (W2.heap.size ≤ wr.heap.size) := Lib.hid hb.size
    clear hm hqm hT hOQ hLT hOB hH0 hHw hb
    by_cases h1 : at_ < N
    · have g1 : (at_ : Int) < (N : Int) := by omega
      obtain ⟨nb, hnb⟩ : ∃ n, (bst t at_).1 = n := ⟨_, rfl⟩
      obtain ⟨db, hdb⟩ : ∃ n, (bst t at_).2 = n := ⟨_, rfl⟩
      have HC : Hid (Calls Try.prog 36 #[.slice tA N tc, .int .i64 (at_ : Int)] wr fun e w' => e = .returned (.tuple #[.int .i64 (nb : Int), .int .i64 (db : Int)]) ∧ Below wr.heap.size wr w') := Lib.hid (by
        have h := HBE.out wr at_ HB.out h1
        rwa [hnb, hdb] at h)
      have hble := bst_le t at_
      rw [hnb, HN.out] at hble
      have HNB := Lib.hid hnb
      have HDB := Lib.hid hdb
      clear hnb hdb
      by_cases h4 : 4 ≤ nb
      · have g4 : (nb : Int) ≥ 4 := by omega
        have hstep := cn_match (t := t) (at_ := at_) (by rw [HN.out]; exact h1) (by rw [HNB.out]; exact h4) run
        rw [HNB.out, HDB.out] at hstep
        have HST := Lib.hid hstep
        have w1 : IntKind.i64.wrap ((at_ : Int) + (nb : Int)) = ((at_ + nb : Nat) : Int) := by rw [IntKind.wrap_i64]; omega
        clear hstep
        by_cases hm0 : m = 0
        · subst hm0
          have hrun : run = [] := List.eq_nil_of_length_eq_zero HM.out
          subst hrun
          go_wp2_with (first
            | (go_at_call 36; refine HC.out.mono ?_; rintro e V ⟨rfl, hb1⟩; have HB1 := Lib.hid (HB.out.trans (hb1.mono HB.out.size)); have HQ1 := Lib.hid (HQ.out.under hb1); have HLT1 := Lib.hid (HLT.out.mod (Mod.of_new hb1 (fun _ => False)) (fun _ _ _ _ h => h)); have HRB1 := Lib.hid (HRB.out.mod (Mod.of_new hb1 (fun _ => False)) (fun _ _ h => h)); have HV := Lib.hid (Nat.le_trans HHS.out.2 hb1.size); clear hb1)
            | (at_builtin; refine wpList_pushQ encT_ok rtT_ok rfl (.tmp 38) (.tmp 42) rfl W2.heap.size _ q ?_ (.mch db nb, none, 0) _ ?_ HQ1.out ?_ HX.out.1 HX.out.2 HB1.out.size ?_; (focus rfl); (focus rfl); (focus rfl); intro v3 W3 ho3 hg3; have HO3 := Lib.hid ho3; have HG3 := Lib.hid hg3; clear ho3 hg3))
          go_roundw
          case rel =>
            refine ⟨at_ + nb, [], q ++ [(.mch db nb, none, 0)], H, by go_num, by omega, by omega, by simp, by rw [List.length_append, HQM.out]; simp; omega, ?_, HO3.out, push_mch HQ1.out HLT1.out HG3.out, HRB1.out.mod HG3.out.mod (fun j hj e => HQ1.out.ne_ob HRB1.out (by decide) j hj e), HHS.out.1, Nat.le_trans HV.out HG3.out.mod.size, HB1.out.trans (HG3.out.below HB1.out.size (fun j hj => (HQ1.out.lt j hj).1))⟩
            rw [← HTT.out, HST.out, List.map_append]
            simp [flush]
          case measure => simp [intOf] <;> omega
        · have g5 : (m : Int) > 0 := by omega
          have g6 : 0 < m := by omega
          have hfl := flush_pos (run := run) (by rw [HM.out]; exact g6)
          have HFL := Lib.hid hfl
          clear hfl
          go_wp2_with (first
            | (go_at_call 36; refine HC.out.mono ?_; rintro e V ⟨rfl, hb1⟩; have HB1 := Lib.hid (HB.out.trans (hb1.mono HB.out.size)); have HQ1 := Lib.hid (HQ.out.under hb1); have HLT1 := Lib.hid (HLT.out.mod (Mod.of_new hb1 (fun _ => False)) (fun _ _ _ _ h => h)); have HRB1 := Lib.hid (HRB.out.mod (Mod.of_new hb1 (fun _ => False)) (fun _ _ h => h)); have HV := Lib.hid (Nat.le_trans HHS.out.2 hb1.size); clear hb1)
            | (at_builtin; refine wpList_pushQ encT_ok rtT_ok rfl (.tmp 33) (.tmp 36) rfl W2.heap.size _ q ?_ (.lit run, rA, rc) _ ?_ HQ1.out ?_ HX.out.1 HX.out.2 HB1.out.size ?_; (focus rfl); (focus (exact congrArg (fun z => [Value.slice rA z rc, .int .i64 0, .int .i64 0]) HM.out.symm)); (focus rfl); intro v3 W3 ho3 hg3; have HO3 := Lib.hid ho3; have HLT3 := Lib.hid (push_lit HQ1.out HLT1.out (by rw [HM.out]; exact HRB1.out) HHS.out.1 HV.out hg3); have HB3 := Lib.hid (HB1.out.trans (hg3.below HB1.out.size (fun j hj => (HQ1.out.lt j hj).1))); have HV3 := Lib.hid hg3.mod.size; clear ho3 hg3)
            | (at_builtin; refine wpList_pushQ encT_ok rtT_ok rfl (.tmp 38) (.tmp 42) rfl W2.heap.size _ _ ?_ (.mch db nb, none, 0) _ ?_ HO3.out ?_ (HX2.out _).1 (HX2.out _).2 HB3.out.size ?_; (focus rfl); (focus rfl); (focus rfl); intro v4 W4 ho4 hg4; have HO4 := Lib.hid ho4; have HG4 := Lib.hid hg4; clear ho4 hg4))
          go_roundw
          case rel =>
            refine ⟨at_ + nb, [], q ++ [(.lit run, rA, rc)] ++ [(.mch db nb, none, 0)], V.heap.size, by go_num, by omega, by omega, by simp, by rw [List.length_append, List.length_append, HQM.out]; simp; omega, ?_, HO4.out, push_mch HO3.out HLT3.out HG4.out, OB.nil _ _ _, HB1.out.size, Nat.le_trans HV3.out HG4.out.mod.size, HB3.out.trans (HG4.out.below HB3.out.size (fun j hj => (HO3.out.lt j hj).1))⟩
            rw [← HTT.out, HST.out, HFL.out, List.map_append, List.map_append]
            simp
          case measure => simp [intOf] <;> omega
      · have g4 : ¬ (nb : Int) ≥ 4 := by omega
        obtain ⟨tb, toff, rfl, htb, hcs⟩ := rb_byt HRT.out (i := 0) (by rw [HN.out]; omega)
        obtain ⟨cc, hcc⟩ : ∃ cc, t.getD at_ 0 = cc := ⟨_, rfl⟩
        have hcell := hcs at_ (by rw [HN.out]; exact h1)
        have HCE : Hid (∀ W, Below W2.heap.size W2 W → W.cell? ⟨tb, toff + at_, none⟩ = some (.int .u8 (cc.toNat : Int))) := Lib.hid fun W h => by
          rw [h.cell (p := ⟨tb, toff + at_, none⟩) htb, hcell, ← hcc]; rfl
        have w1 : IntKind.i64.wrap ((at_ : Int) + 1) = (at_ : Int) + 1 := by rw [IntKind.wrap_i64]; omega
        have HX3 : Hid (run.length + 1 ≤ 140737488355328) := Lib.hid (by rw [HM.out]; omega)
        have hrl1 : (run ++ [cc]).length = m + 1 := by rw [List.length_append, HM.out]; rfl
        have HRL := Lib.hid hrl1
        clear hcs hcell hrl1
        by_cases h5 : m + 1 = 128
        · have hstep := cn_full (t := t) (at_ := at_) (by rw [HN.out]; exact h1) (by rw [HNB.out]; exact h4) (run := run) (by rw [HM.out]; exact h5)
          rw [hcc] at hstep
          have HST := Lib.hid hstep
          clear hstep hcc
          have HR8 : Hid ((run ++ [cc]).length = 128) := Lib.hid (by rw [HRL.out]; exact h5)
          clear h5
          go_wp2_with (first
            | (go_at_call 36; refine HC.out.mono ?_; rintro e V ⟨rfl, hb1⟩; have HB1 := Lib.hid (HB.out.trans (hb1.mono HB.out.size)); have HQ1 := Lib.hid (HQ.out.under hb1); have HLT1 := Lib.hid (HLT.out.mod (Mod.of_new hb1 (fun _ => False)) (fun _ _ _ _ h => h)); have HRB1 := Lib.hid (HRB.out.mod (Mod.of_new hb1 (fun _ => False)) (fun _ _ h => h)); have HV := Lib.hid (Nat.le_trans HHS.out.2 hb1.size); have hce := HCE.out V HB1.out; clear hb1)
            | (at_builtin; refine wpList_push bslK (by rfl) (.tmp 47) (.tmp 52) (by rfl) H _ _ (by rfl) _ cc rfl HRB1.out (by rfl) HX3.out HV.out ?_; intro v2 W3 ho2 hg2; obtain ⟨uA, uc, hu, _, _, _⟩ := ho2.form; rw [HR8.out] at hu; subst hu; have HR2 := Lib.hid ho2; have HP2 := Lib.hid (push_run HQ1.out HLT1.out HRB1.out hg2); have HB2' := Lib.hid (HB1.out.trans (hg2.below HB1.out.size (fun j hj => Nat.le_trans HHS.out.1 (HRB1.out.lt j hj).1))); have HV2 := Lib.hid (Nat.le_trans HV.out hg2.mod.size); clear ho2 hg2)
            | (at_builtin; refine wpList_pushQ encT_ok rtT_ok rfl (.tmp 59) (.tmp 62) rfl W2.heap.size _ q ?_ (.lit (run ++ [cc]), uA, uc) _ ?_ HP2.out.1 ?_ HX.out.1 HX.out.2 HB2'.out.size ?_; (focus rfl); (focus (exact congrArg (fun z => [Value.slice uA z uc, .int .i64 0, .int .i64 0]) HR8.out.symm)); (focus rfl); intro v4 W4 ho4 hg4; have HO4 := Lib.hid ho4; have HLT4 := Lib.hid (push_lit HP2.out.1 HP2.out.2 (by rw [HR8.out]; exact HR2.out) HHS.out.1 HV2.out hg4); have HB4 := Lib.hid (HB2'.out.trans (hg4.below HB2'.out.size (fun j hj => (HP2.out.1.lt j hj).1))); have HV4 := Lib.hid hg4.mod.size; clear ho4 hg4))
          go_roundw
          case rel =>
            refine ⟨at_ + 1, [], q ++ [(.lit (run ++ [cc]), uA, uc)], W3.heap.size, by go_num, by omega, by omega, by simp, by rw [List.length_append, HQM.out]; simp; omega, ?_, HO4.out, HLT4.out, OB.nil _ _ _, HB2'.out.size, HV4.out, HB4.out⟩
            rw [← HTT.out, HST.out, List.map_append]
            simp
          case measure => simp [intOf] <;> omega
        · have hstep := cn_lit (t := t) (at_ := at_) (by rw [HN.out]; exact h1) (by rw [HNB.out]; exact h4) (run := run) (by rw [HM.out]; exact h5)
          rw [hcc] at hstep
          have HST := Lib.hid hstep
          clear hstep hcc
          have g5 : ¬ (m : Int) + 1 = 128 := by omega
          have g7 : ¬ m + 1 = 128 := h5
          have g8 : ¬ m = 127 := by omega
          have g9 : ¬ (m : Int) = 127 := by omega
          go_wp2_with (first
            | (go_at_call 36; refine HC.out.mono ?_; rintro e V ⟨rfl, hb1⟩; have HB1 := Lib.hid (HB.out.trans (hb1.mono HB.out.size)); have HQ1 := Lib.hid (HQ.out.under hb1); have HLT1 := Lib.hid (HLT.out.mod (Mod.of_new hb1 (fun _ => False)) (fun _ _ _ _ h => h)); have HRB1 := Lib.hid (HRB.out.mod (Mod.of_new hb1 (fun _ => False)) (fun _ _ h => h)); have HV := Lib.hid (Nat.le_trans HHS.out.2 hb1.size); have hce := HCE.out V HB1.out; clear hb1)
            | (at_builtin; refine wpList_push bslK (by rfl) (.tmp 47) (.tmp 52) (by rfl) H _ _ (by rfl) _ cc rfl HRB1.out (by rfl) HX3.out HV.out ?_; intro v2 W3 ho2 hg2; obtain ⟨uA, uc, hu, _, _, _⟩ := ho2.form; rw [HRL.out] at hu; subst hu; have HR2 := Lib.hid ho2; have HP2 := Lib.hid (push_run HQ1.out HLT1.out HRB1.out hg2); have HB2' := Lib.hid (HB1.out.trans (hg2.below HB1.out.size (fun j hj => Nat.le_trans HHS.out.1 (HRB1.out.lt j hj).1))); have HV2 := Lib.hid (Nat.le_trans HV.out hg2.mod.size); clear ho2 hg2))
          go_roundw
          case rel => exact ⟨at_ + 1, run ++ [cc], q, H, by go_num, by omega, by omega, by rw [HRL.out]; omega, by rw [HRL.out, HQM.out]; omega, by rw [← HTT.out, HST.out], HP2.out.1, HP2.out.2, HR2.out, HHS.out.1, HV2.out, HB2'.out⟩
          case measure => simp [intOf] <;> omega
    · have g1 : ¬ (at_ : Int) < (N : Int) := by omega
      have hend := cn_end (t := t) (at_ := at_) (by rw [HN.out]; omega) run
      have HE := Lib.hid hend
      clear hend
      by_cases hm0 : m = 0
      · subst hm0
        have hrun : run = [] := List.eq_nil_of_length_eq_zero HM.out
        subst hrun
        go_wp2
        refine bodyPost_ret (results_tmp rfl _ _ _) rfl ?_
        refine ⟨_, rfl, q, HQ.out.base0 HB2.out.size, ?_, fun x hx => ⟨(HLT.out x hx).1.base0 HB2.out.size, fun k hk => Nat.lt_of_lt_of_le ((HLT.out x hx).2 k hk) HHS.out.2⟩, HB2.out.trans (HB.out.mono HB2.out.size)⟩
        rw [← HTT.out, HE.out]
        simp [flush]
      · have g5 : (m : Int) > 0 := by omega
        have g6 : 0 < m := by omega
        have hfl := flush_pos (run := run) (by rw [HM.out]; exact g6)
        have HFL := Lib.hid hfl
        clear hfl
        go_wp2_with (at_builtin; refine wpList_pushQ encT_ok rtT_ok rfl (.tmp 67) (.tmp 70) rfl W2.heap.size _ q ?_ (.lit run, rA, rc) _ ?_ HQ.out ?_ HX.out.1 HX.out.2 HBS.out ?_; (focus rfl); (focus (exact congrArg (fun z => [Value.slice rA z rc, .int .i64 0, .int .i64 0]) HM.out.symm)); (focus rfl); intro v3 W3 ho3 hg3; have HO3 := Lib.hid ho3; have HLT3 := Lib.hid (push_lit HQ.out HLT.out (by rw [HM.out]; exact HRB.out) HHS.out.1 HHS.out.2 hg3); have HB3 := Lib.hid (HB.out.trans (hg3.below HB.out.size (fun j hj => (HQ.out.lt j hj).1))); have HV3 := Lib.hid hg3.mod.size; clear ho3 hg3)
        refine bodyPost_ret (results_tmp rfl _ _ _) rfl ?_
        refine ⟨_, rfl, q ++ [((Tok.lit run, rA, rc) : TE)], HO3.out.base0 HB2.out.size, ?_, fun x hx => ⟨(HLT3.out x hx).1.base0 HB2.out.size, fun k hk => Nat.lt_of_lt_of_le ((HLT3.out x hx).2 k hk) HV3.out⟩, HB2.out.trans (HB3.out.mono HB2.out.size)⟩
        rw [← HTT.out, HE.out, HFL.out, List.map_append]
        simp
end Go.Proofs.Ytocohoojnjdkiaa
