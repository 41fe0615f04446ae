/- pack: Tokens, the program's and the reference's. -/
import Derived.Test.YtocohoojnjdkiaaKRCan
import Derived.Test.YtocohoojnjdkiaaKRTok
import Derived.Test.YtocohoojnjdkiaaKUnp
set_option linter.unusedVariables false
namespace Go.Proofs.Ytocohoojnjdkiaa
open Go.RowKit

def tokL (p : List UInt8) : Nat → Nat → List Tok → Except (Nat × Nat) (List Tok)
  | 0, _, q => .ok q
  | k + 1, at_, q =>
    if p.length ≤ at_ then .ok q else
    match tok1 (p.drop at_) with
    | .error e => .error (at_, e)
    | .ok (t, n) => tokL p k (at_ + n) (q ++ [t])
/-- The tokens from a place on, behind those that were read. -/
def tokS (p : List UInt8) (at_ : Nat) (q : List Tok) : Except (Nat × Nat) (List Tok) := tokL p (p.length - at_) at_ q
theorem tokL_fuel (p : List UInt8) : ∀ (k j at_ : Nat) (q : List Tok), p.length - at_ ≤ k → p.length - at_ ≤ j → tokL p k at_ q = tokL p j at_ q := by
  intro k
  induction k with
  | zero =>
    intro j at_ q h1 h2
    cases j with
    | zero => rfl
    | succ j => unfold tokL; rw [if_pos (by omega)]
  | succ k ih =>
    intro j at_ q h1 h2
    cases j with
    | zero => unfold tokL; rw [if_pos (by omega)]
    | succ j =>
      unfold tokL
      by_cases h : p.length ≤ at_
      · rw [if_pos h, if_pos h]
      · rw [if_neg h, if_neg h]
        cases ht : tok1 (p.drop at_) with
        | error e => rfl
        | ok z =>
          obtain ⟨t, n⟩ := z
          have := tok1_size ht
          simp only
          rw [ih j (at_ + n) _ (by simp at this; omega) (by simp at this; omega)]
theorem tokS_end {p : List UInt8} {at_ : Nat} (h : p.length ≤ at_) (q : List Tok) : tokS p at_ q = .ok q := by
  unfold tokS; rw [show p.length - at_ = 0 by omega]; rfl
theorem tokS_step {p : List UInt8} {at_ : Nat} (h : at_ < p.length) (q : List Tok) : tokS p at_ q =
    (match tok1 (p.drop at_) with
    | .error e => .error (at_, e)
    | .ok (t, n) => tokS p (at_ + n) (q ++ [t])) := by
  have hk : p.length - at_ = (p.length - at_ - 1) + 1 := by omega
  unfold tokS
  rw [hk]
  conv => lhs; unfold tokL
  rw [if_neg (by omega)]
  cases ht : tok1 (p.drop at_) with
  | error e => rfl
  | ok z =>
    obtain ⟨t, n⟩ := z
    have := tok1_size ht
    simp only
    rw [tokL_fuel p (p.length - at_ - 1) (p.length - (at_ + n)) _ _ (by simp at this; omega) (by simp at this; omega)]
/-- What Tokens answers. -/
def TokQ (e : TypeId) (W : World) (base : Nat) (R : Except (Nat × Nat) (List Tok)) (v : Value) (a y : Int) : Prop := match R with
  | .ok l => (∃ q, OQ encT 3 e W base v q ∧ q.map (·.1) = l ∧ LT W base W.heap.size q) ∧ a = 0 ∧ y = 0
  | .error (x, k) => v = .slice none 0 0 ∧ a = (x : Int) ∧ y = (k : Int)
theorem pkT_ok : TypK Try.prog 39 45 3 40 := ⟨Try.underlying39, by
  obtain ⟨i, hi, hz, hs, hb⟩ := info_parts (P := Try.prog) (e := 45) (z := tokV none 0 0 0 0) (size := 3) (bytes := 40) (by kernel_rfl)
  exact ⟨i, _, hi, hz, hs, hb, rfl⟩⟩
theorem push_tok {e : TypeId} (he : e ≠ 5) {W W3 : World} {H0 : Nat} {ov v3 : Value} {q : List TE} {t : Tok} {A : Option Addr} {c : Nat} (hO : OQ encT 3 e W H0 ov q) (hq : LT W H0 W.heap.size q) (hx : OB 5 W H0 (.slice A t.lits.length c) t.lits) (hg : Grew W W3 ov v3) :
    LT W3 H0 W3.heap.size (q ++ [(t, A, c)]) := by
  have h1 : LT W H0 W.heap.size (q ++ [(t, A, c)]) := hq.app fun x hm => by
    obtain rfl : x = (t, A, c) := by simpa using hm
    exact ⟨hx, fun k hk => (hx.lt k hk).2⟩
  exact (h1.mod hg.mod fun x hm k hk => hO.ne_ob (h1 x hm).1 he k hk).mono hg.mod.size
theorem LT.under {W W' : World} {H0 : Nat} {q : List TE} (h : LT W H0 W.heap.size q) (hb : Below W.heap.size W W') : LT W' H0 W'.heap.size q :=
  (h.mod (Mod.of_below hb) fun x hx k hk e => by have := (h x hx).2 k hk; omega).mono hb.size
set_option maxHeartbeats 4000000 in
set_option maxRecDepth 100000 in
theorem rtoks_any (w : World) (A : Option Addr) (p : List UInt8) (c : Nat) (hr : RB w w.heap.size A p) (hc : p.length ≤ c) (hl : p.length ≤ 3000000) :
    Calls Try.prog 23 #[.slice A p.length c] w fun e w' => ∃ v a y, e = .returned (.tuple #[v, .int .i64 a, .int .i64 y]) ∧ TokQ 46 w' w.heap.size (tokS p 0 []) v a y ∧ Below w.heap.size w w' := by
  obtain ⟨R, hR⟩ : ∃ R, tokS p 0 [] = R := ⟨_, rfl⟩
  rw [hR]
  have HUR := Lib.hid hR
  obtain ⟨n, hn⟩ : ∃ n, p.length = n := ⟨_, rfl⟩
  have Hn := Lib.hid hn
  have HR := Lib.hid hr
  rw [hn] at hc hl ⊢
  clear hR hr hn
  go_enter Try.func23, Try.ntmps23
  go_wp2
  go_loopw [5, 6] (fun lv i wr => ∃ (at_ : Nat) (q : List TE), i = .int .i64 (at_ : Int) ∧ at_ ≤ n ∧ q.length ≤ at_ ∧ OQ encT 3 46 wr w.heap.size lv q ∧ LT wr w.heap.size wr.heap.size q ∧ tokS p at_ (q.map (·.1)) = R ∧ Below w.heap.size w wr) (fun _ i _ => n - (intOf i).toNat)
  case atStart => exact ⟨0, [], rfl, by omega, by simp, OQ.nil _ _, LT.nil, HUR.out, Below.refl _ _⟩
  case round =>
    obtain ⟨at_, q, rfl, hat, hql, ho, hlt, hu, hb⟩ := hrel
    obtain ⟨oA, oc, hov, _, _, _, _⟩ := ho.form encT_ok
    obtain ⟨ql, hqm⟩ : ∃ m, q.length = m := ⟨_, rfl⟩
    rw [hqm] at hov hql
    subst hov
    have HQM := Lib.hid hqm
    have HO := Lib.hid ho
    have HLT := Lib.hid hlt
    have HU := Lib.hid hu
    have HB := Lib.hid hb
    have HX : Hid (q.length + 1 ≤ maxLen ∧ (q.length + 1) * 40 ≤ 140737488355328) := Lib.hid (by rw [hqm]; unfold maxLen; omega)
    clear hqm ho hlt hu hb HUR
    by_cases h1 : at_ < n
    · have g4 : (at_ : Int) < (n : Int) := by omega
      have HTK : Hid (Calls Try.prog 41 #[.slice A n c, .int .i64 (at_ : Int)] wr fun e w' => ∃ x s y, e = .returned (.tuple #[x, .int .i64 s, .int .i64 y]) ∧ FirstR w' wr.heap.size (p.drop at_) x s y ∧ Below wr.heap.size wr w') := Lib.hid (by
        have h3 := rtoken_any wr A p c at_ ((HR.out.below HB.out).more HB.out.size) (by rw [Hn.out]; omega) (by rw [Hn.out]; omega) (by rw [Hn.out]; omega)
        rwa [Hn.out] at h3)
      have hst := tokS_step (p := p) (at_ := at_) (by rw [Hn.out]; exact h1) (q.map (·.1))
      rw [HU.out] at hst
      have HST := Lib.hid hst
      clear hst
      cases hT : tok1 (p.drop at_) with
      | error k =>
        have hk := tok1_err hT
        have HT := Lib.hid hT
        clear hT
        have hk1 : ¬ (k : Int) = 0 := by omega
        go_wp2_with (go_at_call 41; refine HTK.out.mono ?_; rintro e V ⟨x, s, y, rfl, hq, hb1⟩; unfold FirstR at hq; rw [HT.out] at hq; obtain ⟨hx, hs, hy⟩ := hq; subst hx; subst hs; subst hy; unfold tokV; have HB1 := Lib.hid hb1; clear hb1)
        refine bodyPost_ret (results_tmp3 rfl _ _ _) rfl ?_
        exact ⟨_, _, _, rfl, by rw [HST.out, HT.out]; exact ⟨rfl, rfl, rfl⟩, HB.out.trans ((HB1.out.alloc HB1.out.size _).mono HB.out.size)⟩
      | ok z =>
        obtain ⟨t, s⟩ := z
        have hsz := tok1_size hT
        rw [List.length_drop, Hn.out] at hsz
        have HT := Lib.hid hT
        clear hT
        have w3 : IntKind.i64.wrap ((at_ : Int) + (s : Int)) = ((at_ + s : Nat) : Int) := by rw [IntKind.wrap_i64]; omega
        go_upto_region 7 with (go_at_call 41; refine HTK.out.mono ?_; rintro e V ⟨x, s, y, rfl, hq, hb1⟩; unfold FirstR at hq; rw [HT.out] at hq; obtain ⟨⟨A2, c2, hx, hob⟩, hs, hy⟩ := hq; subst hx; subst hs; subst hy; unfold tokV; have HB1 := Lib.hid hb1; have HOB := Lib.hid hob; clear hb1 hob)
        have hblk := Blk.new V 46 #[.slice A2 t.lits.length c2, .int .i64 (t.dist : Int), .int .i64 (t.len : Int)]
        have hbW : Below wr.heap.size wr (V.alloc (.cells #[.slice A2 t.lits.length c2, .int .i64 (t.dist : Int), .int .i64 (t.len : Int)] 46)) := HB1.out.alloc HB1.out.size _
        have hobW := HOB.out.alloc (.cells #[.slice A2 t.lits.length c2, .int .i64 (t.dist : Int), .int .i64 (t.len : Int)] 46)
        obtain ⟨W, hWe⟩ : ∃ W, W = V.alloc (.cells #[.slice A2 t.lits.length c2, .int .i64 (t.dist : Int), .int .i64 (t.len : Int)] 46) := ⟨_, rfl⟩
        obtain ⟨G, hGe⟩ : ∃ G, G = V.heap.size := ⟨_, rfl⟩
        rw [← hWe] at hblk hbW hobW ⊢
        rw [← hGe] at hblk ⊢
        clear hWe hGe
        have d0 : W.cell? ⟨G, 0, none⟩ = some (.slice A2 t.lits.length c2) := hblk.cell 0
        have d1 : W.cell? ⟨G, 1, none⟩ = some (.int .i64 (t.dist : Int)) := hblk.cell 1
        have d2 : W.cell? ⟨G, 2, none⟩ = some (.int .i64 (t.len : Int)) := hblk.cell 2
        have HOW := Lib.hid (HO.out.under hbW)
        have HLW := Lib.hid (HLT.out.under hbW)
        have HXW := Lib.hid (hobW.base0 HB.out.size)
        have HBW := Lib.hid (HB.out.trans (hbW.mono HB.out.size))
        clear hblk hbW hobW
        go_wp2_with (at_builtin; refine wpList_pushQ encT_ok rtT_ok rfl (.tmp 25) (.tmp 27) rfl w.heap.size _ q ?_ (t, A2, c2) _ ?_ HOW.out ?_ HX.out.1 HX.out.2 HBW.out.size ?_; (focus rfl); (focus rfl); (focus rfl); intro v3 W3 ho3 hg3; have HO3 := Lib.hid ho3; have HL3 := Lib.hid (push_tok (by decide) HOW.out HLW.out HXW.out hg3); have HB3 := Lib.hid (HBW.out.trans (hg3.below HBW.out.size (fun j hj => (HOW.out.lt j hj).1))); clear ho3 hg3)
        go_roundw
        case rel => exact ⟨at_ + s, q ++ [(t, A2, c2)], by go_num, by omega, by rw [List.length_append, HQM.out]; simp; omega, HO3.out, HL3.out, by have := HST.out; rw [HT.out] at this; rw [this, List.map_append]; rfl, HB3.out⟩
        case measure => simp [intOf] <;> omega
    · have g4 : ¬ (at_ : Int) < (n : Int) := by omega
      have hfin : R = .ok (q.map (·.1)) := by rw [← HU.out]; exact tokS_end (by rw [Hn.out]; omega) _
      have HFIN := Lib.hid hfin
      clear hfin
      go_wp2
      refine bodyPost_ret (results_tmp3 rfl _ _ _) rfl ?_
      refine ⟨_, _, _, rfl, ?_, HB.out⟩
      rw [HFIN.out]
      exact ⟨⟨q, HO.out, rfl, HLT.out⟩, rfl, rfl⟩
set_option maxHeartbeats 4000000 in
set_option maxRecDepth 100000 in
theorem toks_any (w : World) (A : Option Addr) (p : List UInt8) (c : Nat) (hr : RB w w.heap.size A p) (hc : p.length ≤ c) (hl : p.length ≤ 3000000) :
    Calls Try.prog 22 #[.slice A p.length c] w fun e w' => ∃ v a y, e = .returned (.tuple #[v, .int .i64 a, .int .i64 y]) ∧ TokQ 45 w' w.heap.size (tokS p 0 []) v a y ∧ Below w.heap.size w w' := by
  obtain ⟨R, hR⟩ : ∃ R, tokS p 0 [] = R := ⟨_, rfl⟩
  rw [hR]
  have HUR := Lib.hid hR
  obtain ⟨n, hn⟩ : ∃ n, p.length = n := ⟨_, rfl⟩
  have Hn := Lib.hid hn
  have HR := Lib.hid hr
  rw [hn] at hc hl ⊢
  clear hR hr hn
  go_enter Try.func22, Try.ntmps22
  go_wp2
  go_loopw [2, 3] (fun lv i wr => ∃ (at_ : Nat) (q : List TE), i = .int .i64 (at_ : Int) ∧ at_ ≤ n ∧ q.length ≤ at_ ∧ OQ encT 3 45 wr w.heap.size lv q ∧ LT wr w.heap.size wr.heap.size q ∧ tokS p at_ (q.map (·.1)) = R ∧ Below w.heap.size w wr) (fun _ i _ => n - (intOf i).toNat)
  case atStart => exact ⟨0, [], rfl, by omega, by simp, OQ.nil _ _, LT.nil, HUR.out, Below.refl _ _⟩
  case round =>
    obtain ⟨at_, q, rfl, hat, hql, ho, hlt, hu, hb⟩ := hrel
    obtain ⟨oA, oc, hov, _, _, _, _⟩ := ho.form encT_ok
    obtain ⟨ql, hqm⟩ : ∃ m, q.length = m := ⟨_, rfl⟩
    rw [hqm] at hov hql
    subst hov
    have HQM := Lib.hid hqm
    have HO := Lib.hid ho
    have HLT := Lib.hid hlt
    have HU := Lib.hid hu
    have HB := Lib.hid hb
    have HX : Hid (q.length + 1 ≤ maxLen ∧ (q.length + 1) * 40 ≤ 140737488355328) := Lib.hid (by rw [hqm]; unfold maxLen; omega)
    clear hqm ho hlt hu hb HUR
    by_cases h1 : at_ < n
    · have g4 : (at_ : Int) < (n : Int) := by omega
      obtain ⟨pb, poff, rfl, hpb, hpc⟩ := rb_byt HR.out (i := 0) (by rw [Hn.out]; omega)
      clear hpc
      have q1 : (0 : Int) ≤ (at_ : Int) := by omega
      have q2 : (at_ : Int) ≤ (n : Int) := by omega
      have q3 : (at_ : Int) ≤ (c : Int) := by omega
      have q4 : ¬ c = at_ := by omega
      have q5 : (n : Int) ≤ (c : Int) := by omega
      have hlen : (p.drop at_).length = n - at_ := by rw [List.length_drop, Hn.out]
      have HFI : Hid (Calls Try.prog 38 #[.slice (some ⟨pb, poff + at_, none⟩) (n - at_) (c - at_)] wr fun e w' => ∃ x s y, e = .returned (.tuple #[x, .int .i64 s, .int .i64 y]) ∧ FirstQ wr w' (p.drop at_) x s y ∧ Below wr.heap.size wr w') := Lib.hid (by
        rw [← hlen]
        exact first_any wr _ (p.drop at_) (c - at_) (((HR.out.below HB.out).drop at_).more HB.out.size) (by rw [hlen]; omega) (by rw [hlen]; omega) (by rw [hlen]; omega))
      clear hlen
      have hst := tokS_step (p := p) (at_ := at_) (by rw [Hn.out]; exact h1) (q.map (·.1))
      rw [HU.out] at hst
      have HST := Lib.hid hst
      clear hst
      cases hT : tok1 (p.drop at_) with
      | error k =>
        have hk := tok1_err hT
        have HT := Lib.hid hT
        clear hT
        have hk1 : ¬ (k : Int) = 0 := by omega
        go_wp2_with (go_at_call 38; refine HFI.out.mono ?_; rintro e V ⟨x, s, y, rfl, hq, hb1⟩; unfold FirstQ at hq; rw [HT.out] at hq; obtain ⟨hx, hs, hy⟩ := hq; subst hx; subst hs; subst hy; unfold tokV; have HB1 := Lib.hid hb1; clear hb1)
        refine bodyPost_ret (results_tmp3 rfl _ _ _) rfl ?_
        exact ⟨_, _, _, rfl, by rw [HST.out, HT.out]; exact ⟨rfl, rfl, rfl⟩, HB.out.trans ((HB1.out.alloc HB1.out.size _).mono HB.out.size)⟩
      | ok z =>
        obtain ⟨t, s⟩ := z
        have hsz := tok1_size hT
        obtain ⟨_, _, hll, _⟩ := tok1_ok hT
        rw [List.length_drop, Hn.out] at hsz
        have HT := Lib.hid hT
        clear hT
        have HLL := Lib.hid hll
        clear hll
        have w3 : IntKind.i64.wrap ((at_ : Int) + (s : Int)) = ((at_ + s : Nat) : Int) := by rw [IntKind.wrap_i64]; omega
        go_upto_region 5 with (go_at_call 38; refine HFI.out.mono ?_; rintro e V ⟨x, s, y, rfl, hq, hb1⟩; unfold FirstQ at hq; rw [HT.out] at hq; obtain ⟨⟨A2, c2, hx, hrb, hcc⟩, hs, hy⟩ := hq; subst hx; subst hs; subst hy; unfold tokV; have HB1 := Lib.hid hb1; have HRB := Lib.hid hrb; clear hb1 hrb hcc)
        have hblk := Blk.new V 45 #[.slice A2 t.lits.length c2, .int .i64 (t.dist : Int), .int .i64 (t.len : Int)]
        have hbW : Below wr.heap.size wr (V.alloc (.cells #[.slice A2 t.lits.length c2, .int .i64 (t.dist : Int), .int .i64 (t.len : Int)] 45)) := HB1.out.alloc HB1.out.size _
        have hrbW := HRB.out.below (((Below.refl V.heap.size V).alloc (Nat.le_refl _) (.cells #[.slice A2 t.lits.length c2, .int .i64 (t.dist : Int), .int .i64 (t.len : Int)] 45)).mono HB1.out.size)
        obtain ⟨W, hWe⟩ : ∃ W, W = V.alloc (.cells #[.slice A2 t.lits.length c2, .int .i64 (t.dist : Int), .int .i64 (t.len : Int)] 45) := ⟨_, rfl⟩
        obtain ⟨G, hGe⟩ : ∃ G, G = V.heap.size := ⟨_, rfl⟩
        have hGw : wr.heap.size ≤ G := by rw [hGe]; exact HB1.out.size
        rw [← hWe] at hblk hbW hrbW ⊢
        rw [← hGe] at hblk ⊢
        clear hWe hGe
        have d0 : W.cell? ⟨G, 0, none⟩ = some (.slice A2 t.lits.length c2) := hblk.cell 0
        have HGW := Lib.hid hGw
        have HBK := Lib.hid hblk
        have HBW := Lib.hid hbW
        have HCL : Hid (Calls Try.prog 37 #[.slice A2 t.lits.length c2] W fun e w' => ∃ v, e = .returned v ∧ OB 5 w' W.heap.size v t.lits ∧ Below W.heap.size W w') := Lib.hid (clone_any W A2 t.lits c2 (hrbW.more hbW.size) (by have := HLL.out; omega))
        clear hblk hbW hrbW hGw
        go_upto_region 6 with (go_at_call 37; refine HCL.out.mono ?_; rintro e V2 ⟨v2, rfl, ho2, hb2⟩; obtain ⟨A4, c4, hv4, _, _, _⟩ := ho2.form; subst hv4; have HO2 := Lib.hid ho2; have HB2 := Lib.hid hb2; have hk2 := HBK.out.mod (Mod.of_new hb2 (fun _ => False)) (fun h => h); have HK2 := Lib.hid hk2; have z0 := hk2.frozen 0; have k0 : V2.cell? ⟨G, 0, none⟩ = some (.slice A2 t.lits.length c2) := hk2.cell 0; clear ho2 hb2 hk2)
        have hk3 : Blk (V2.setCell ⟨G, 0, none⟩ (.slice A4 t.lits.length c4)) G 45 #[.slice A4 t.lits.length c4, .int .i64 (t.dist : Int), .int .i64 (t.len : Int)] := HK2.out.set_ 0 _
        have hb3 : Below wr.heap.size wr (V2.setCell ⟨G, 0, none⟩ (.slice A4 t.lits.length c4)) := (HBW.out.trans (HB2.out.mono HBW.out.size)).setCell (p := ⟨G, 0, none⟩) HGW.out _
        have ho3 : OB 5 (V2.setCell ⟨G, 0, none⟩ (.slice A4 t.lits.length c4)) W.heap.size (.slice A4 t.lits.length c4) t.lits := HO2.out.mod ((Mod.refl V2 (fun k => k = G)).setCell (p := ⟨G, 0, none⟩) (fun _ => rfl) _) (fun k hk e => by have h1 := (HO2.out.lt k hk).1; have h2 := HBK.out.lt; omega)
        obtain ⟨U, hUe⟩ : ∃ U, U = V2.setCell ⟨G, 0, none⟩ (.slice A4 t.lits.length c4) := ⟨_, rfl⟩
        rw [← hUe] at hk3 hb3 ho3 ⊢
        clear hUe d0 z0 k0
        have d0 : U.cell? ⟨G, 0, none⟩ = some (.slice A4 t.lits.length c4) := hk3.cell 0
        have d1 : U.cell? ⟨G, 1, none⟩ = some (.int .i64 (t.dist : Int)) := hk3.cell 1
        have d2 : U.cell? ⟨G, 2, none⟩ = some (.int .i64 (t.len : Int)) := hk3.cell 2
        have HOW := Lib.hid (HO.out.under hb3)
        have HLW := Lib.hid (HLT.out.under hb3)
        have HXW := Lib.hid (ho3.base0 (Nat.le_trans HB.out.size HBW.out.size))
        have HBU := Lib.hid (HB.out.trans (hb3.mono HB.out.size))
        clear hk3 hb3 ho3
        go_wp2_with (at_builtin; refine wpList_pushQ encT_ok pkT_ok rfl (.tmp 28) (.tmp 30) rfl w.heap.size _ q ?_ (t, A4, c4) _ ?_ HOW.out ?_ HX.out.1 HX.out.2 HBU.out.size ?_; (focus rfl); (focus rfl); (focus rfl); intro v3 W3 ho3 hg3; have HO3 := Lib.hid ho3; have HL3 := Lib.hid (push_tok (by decide) HOW.out HLW.out HXW.out hg3); have HB3 := Lib.hid (HBU.out.trans (hg3.below HBU.out.size (fun j hj => (HOW.out.lt j hj).1))); clear ho3 hg3)
        go_roundw
        case rel => exact ⟨at_ + s, q ++ [(t, A4, c4)], by go_num, by omega, by rw [List.length_append, HQM.out]; simp; omega, HO3.out, HL3.out, by have := HST.out; rw [HT.out] at this; rw [this, List.map_append]; rfl, HB3.out⟩
        case measure => simp [intOf] <;> omega
    · have g4 : ¬ (at_ : Int) < (n : Int) := by omega
      have hfin : R = .ok (q.map (·.1)) := by rw [← HU.out]; exact tokS_end (by rw [Hn.out]; omega) _
      have HFIN := Lib.hid hfin
      clear hfin
      go_wp2
      refine bodyPost_ret (results_tmp3 rfl _ _ _) rfl ?_
      refine ⟨_, _, _, rfl, ?_, HB.out⟩
      rw [HFIN.out]
      exact ⟨⟨q, HO.out, rfl, HLT.out⟩, rfl, rfl⟩
end Go.Proofs.Ytocohoojnjdkiaa
