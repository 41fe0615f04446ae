/- pack: UnpackWith. -/
import Derived.Test.YtocohoojnjdkiaaKApp
import Derived.Test.YtocohoojnjdkiaaKReach
import Derived.Lib.SliceRun
set_option linter.unusedVariables false
namespace Go.Proofs.Ytocohoojnjdkiaa
open Go.RowKit

set_option maxHeartbeats 1000000 in
set_option maxRecDepth 100000 in
theorem clone_any (w : World) (A : Option Addr) (l : List UInt8) (c : Nat) (hr : RB w w.heap.size A l) (hl : l.length ≤ 4000000) :
    Calls Try.prog 37 #[.slice A l.length c] w fun e w' => ∃ v, e = .returned v ∧ OB 5 w' w.heap.size v l ∧ Below w.heap.size w w' := by
  cases A with
  | none =>
    obtain rfl : l = [] := by
      cases l with
      | nil => rfl
      | cons a r => obtain ⟨b, off, h, _⟩ := hr (by simp); cases h
    have hq : ∀ W : World, (binOp .eql 22 (.slice none 0 c) (.slice none 0 0)).run Try.prog W = .ok (.bool true) W := fun W => Lib.run_eql_slice_nil W _ _ _ _ _ _ _ bslK.u
    go_enter Try.func37, Try.ntmps37
    go_wp2
    go_ret
    exact ⟨_, rfl, OB.nil _ _ _, Below.refl _ _⟩
  | some a =>
    have hq : ∀ W : World, (binOp .eql 22 (.slice (some a) l.length c) (.slice none 0 0)).run Try.prog W = .ok (.bool false) W := fun W => Lib.run_eql_slice_nil W _ _ _ _ _ _ _ bslK.u
    have ho : OB 5 (w.alloc (.cells #[] 5)) w.heap.size (.slice (some ⟨w.heap.size, 0, none⟩) 0 0) [] :=
      ⟨rfl, .inr ⟨w.heap.size, 0, #[], rfl, Nat.le_refl _, heap_alloc_new _ _, Nat.le_refl _, Nat.zero_le _, rfl, rfl⟩⟩
    have HO := Lib.hid ho
    have hb0 : Below w.heap.size w (w.alloc (.cells #[] 5)) := (Below.refl _ _).alloc (Nat.le_refl _) _
    have HB0 := Lib.hid hb0
    have HR := Lib.hid hr
    have HL : Hid (([] : List UInt8).length + l.length ≤ 140737488355328) := Lib.hid (by simp; omega)
    clear ho hb0 hr
    go_enter Try.func37, Try.ntmps37
    go_wp2_with (at_builtin; refine wpList_app bslK rfl (.tmp 5) (.tmp 6) rfl w.heap.size _ [] ?_ HO.out w.heap.size (some a) l c ?_ ?_ ?_ ?_ ?_; (focus rfl); (focus rfl); (focus (exact HR.out.below HB0.out)); (focus (exact HL.out)); (focus (exact HB0.out.size)); intro v1 W1 ho1 hg1; have HO1 := Lib.hid ho1; have HG1 := Lib.hid hg1; clear ho1 hg1)
    go_ret
    exact ⟨_, rfl, HO1.out, HB0.out.trans (HG1.out.below HB0.out.size (fun k hk => (HO.out.lt k hk).1))⟩
/-- What unpacking answers. -/
def UnpQ (W : World) (R : Except (Nat × Nat) (List UInt8)) (v : Value) (a e : Int) : Prop := match R with
  | .ok l => (∃ A c, v = .slice A l.length c ∧ RB W W.heap.size A l ∧ l.length ≤ c) ∧ a = 0 ∧ e = 0
  | .error (x, k) => v = .slice none 0 0 ∧ a = (x : Int) ∧ e = (k : Int)
theorem RB.drop {w : World} {B b off : Nat} {l : List UInt8} (h : RB w B (some ⟨b, off, none⟩) l) (k : Nat) : RB w B (some ⟨b, off + k, none⟩) (l.drop k) := fun hn => by
  obtain ⟨b', off', he, hb, hc⟩ := h (by simp at hn; omega)
  cases he
  refine ⟨b, off + k, rfl, hb, fun j c hj => ?_⟩
  rw [List.getElem?_drop] at hj
  rw [Nat.add_assoc]
  exact hc (k + j) c hj
theorem tok1_ok {p : List UInt8} {t : Tok} {n : Nat} (h : tok1 p = .ok (t, n)) : t.dist ≤ 4096 ∧ t.len ≤ 131 ∧ t.lits.length ≤ 128 ∧ (0 < t.len → 1 ≤ t.dist) := by
  have h0 := byt_lt p 0
  unfold tok1 at h
  split at h
  · split at h
    · cases h
    · injection h with h; injection h with h1 h2
      subst h1
      refine ⟨by simp [Tok.dist], by simp [Tok.len], ?_, by simp [Tok.len]⟩
      simp [Tok.lits]; omega
  · split at h
    · cases h
    · split at h
      · cases h
      · injection h with h; injection h with h1 h2
        subst h1
        refine ⟨by simp [Tok.dist]; omega, by simp [Tok.len]; omega, by simp [Tok.lits], by simp [Tok.dist]⟩
theorem tok1_err {p : List UInt8} {k : Nat} (h : tok1 p = .error k) : k = 28 ∨ k = 2 := by
  unfold tok1 at h
  split at h
  · split at h
    · injection h with h; omega
    · cases h
  · split at h
    · injection h with h; omega
    · split at h
      · injection h with h; omega
      · cases h
set_option maxHeartbeats 4000000 in
set_option maxRecDepth 100000 in
theorem unpackWith_any (w : World) (D : Option Addr) (dict : List UInt8) (dc : Nat) (A : Option Addr) (p : List UInt8) (c : Nat) (most : Nat) (hd : RB w w.heap.size D dict) (hr : RB w w.heap.size A p) (hdl : dict.length ≤ 4096) (hdc : dict.length ≤ dc) (hc : p.length ≤ c) (hl : p.length ≤ 3000000) (hm : most ≤ 1048576) :
    Calls Try.prog 19 #[.slice D dict.length dc, .slice A p.length c, .int .i64 (most : Int)] w fun e w' => ∃ v a y, e = .returned (.tuple #[v, .int .i64 a, .int .i64 y]) ∧ UnpQ w' (unpackF dict p most) v a y ∧ Below w.heap.size w w' := by
  have hF : unpackF dict p most = unp dict.length most p 0 dict := by
    unfold unpackF
    rw [if_neg (by omega), if_neg (by omega), reachF_small hdl, Int.toNat_natCast]
  rw [hF]
  obtain ⟨R, hR⟩ : ∃ R, unp dict.length most p 0 dict = R := ⟨_, rfl⟩
  rw [hR]
  have HUR := Lib.hid hR
  have HCL : Hid (∀ W, Below w.heap.size w W → Calls Try.prog 37 #[.slice D dict.length dc] W fun e w' => ∃ v, e = .returned v ∧ OB 5 w' W.heap.size v dict ∧ Below W.heap.size W w') := Lib.hid fun W h => clone_any W D dict dc ((hd.below h).more h.size) (by omega)
  obtain ⟨N, hN⟩ : ∃ N, dict.length = N := ⟨_, rfl⟩
  obtain ⟨n, hn⟩ : ∃ n, p.length = n := ⟨_, rfl⟩
  have HN := Lib.hid hN
  have Hn := Lib.hid hn
  have HR := Lib.hid hr
  rw [hN] at hdl hdc HUR HCL ⊢
  rw [hn] at hc hl ⊢
  have HRE := Lib.hid (fun W => reach_any D N dc W hdc hdl)
  clear hF hR hd hr hN hn
  have g1 : ¬ (most : Int) < 0 := by omega
  have g2 : ¬ (most : Int) > 1048576 := by omega
  have g3 : ¬ (N : Int) > 1048576 := by omega
  go_enter Try.func19, Try.ntmps19
  go_wp2_with (first | (go_at_call 29; refine (HRE.out _).mono ?_; rintro e V ⟨rfl, hv⟩; subst V) | (go_at_call 37; refine (HCL.out w (Below.refl _ _)).mono ?_; rintro e W1 ⟨v1, rfl, ho, hb⟩; obtain ⟨A1, c1, hv1, _, _, _⟩ := ho.form; rw [HN.out] at hv1; subst hv1; have HO1 := Lib.hid ho; have HB1 := Lib.hid hb; clear ho hb))
  clear HRE HCL
  go_loopw [7, 9] (fun i tv wr => ∃ (at_ : Nat) (text : List UInt8), i = .int .i64 (at_ : Int) ∧ at_ ≤ n ∧ OB 5 wr w.heap.size tv text ∧ unp N most p at_ text = R ∧ N ≤ text.length ∧ text.length ≤ N + most ∧ Below w.heap.size w wr) (fun i _ _ => n - (intOf i).toNat)
  case atStart => exact ⟨0, dict, rfl, by omega, HO1.out, HUR.out, by rw [HN.out]; omega, by rw [HN.out]; omega, HB1.out⟩
  case round =>
    obtain ⟨at_, text, rfl, hat, ho, hu, hNt, htm, hb⟩ := hrel
    obtain ⟨tA, tc, htv, htr, htc, _⟩ := ho.form
    obtain ⟨L, hL⟩ : ∃ L, text.length = L := ⟨_, rfl⟩
    rw [hL] at htv hNt htm htc
    subst htv
    have HO := Lib.hid ho
    have HU := Lib.hid hu
    have HB := Lib.hid hb
    have HL := Lib.hid hL
    have HTR := Lib.hid htr
    clear ho hu hb hL htr HO1 HB1 HUR
    by_cases h1 : at_ < n
    · have g4 : (at_ : Int) < (n : Int) := by omega
      obtain ⟨pb, poff, rfl, hpb, hpc⟩ := rb_byt HR.out (i := 0) (by rw [Hn.out]; omega)
      clear hpc
      have q1 : (0 : Int) ≤ (at_ : Int) := by omega
      have q2 : (at_ : Int) ≤ (n : Int) := by omega
      have q3 : (at_ : Int) ≤ (c : Int) := by omega
      have q4 : ¬ c = at_ := by omega
      have q5 : (n : Int) ≤ (c : Int) := by omega
      have hlen : (p.drop at_).length = n - at_ := by rw [List.length_drop, Hn.out]
      have HFI : Hid (∀ W, Below w.heap.size w W → Calls Try.prog 38 #[.slice (some ⟨pb, poff + at_, none⟩) (n - at_) (c - at_)] W fun e w' => ∃ x s y, e = .returned (.tuple #[x, .int .i64 s, .int .i64 y]) ∧ FirstQ W w' (p.drop at_) x s y ∧ Below W.heap.size W w') := Lib.hid fun W h => by
        rw [← hlen]
        exact first_any W _ (p.drop at_) (c - at_) (((HR.out.below h).drop at_).more h.size) (by rw [hlen]; omega) (by rw [hlen]; omega) (by rw [hlen]; omega)
      clear hlen
      have hst := unp_step (begin := N) (most := most) (p := p) (at_ := at_) (by rw [Hn.out]; exact h1) text
      rw [HU.out, HL.out] at hst
      have HST := Lib.hid hst
      clear hst
      cases hT : tok1 (p.drop at_) with
      | error k =>
        have hk := tok1_err hT
        have HT := Lib.hid hT
        clear hT
        have hk1 : ¬ (k : Int) = 0 := by omega
        go_wp2_with (go_at_call 38; refine (HFI.out _ HB.out).mono ?_; rintro e V ⟨x, s, y, rfl, hq, hb2⟩; unfold FirstQ at hq; rw [HT.out] at hq; obtain ⟨hx, hs, hy⟩ := hq; subst hx; subst hs; subst hy; unfold tokV; have HB2 := Lib.hid hb2; clear hb2)
        refine bodyPost_ret (results_tmp3 rfl _ _ _) rfl ?_
        refine ⟨_, _, _, rfl, ?_, HB.out.trans ((HB2.out.mono HB.out.size).alloc ?_ _)⟩
        · rw [HST.out, HT.out]; exact ⟨rfl, rfl, rfl⟩
        · exact Nat.le_trans HB.out.size HB2.out.size
      | ok z =>
        obtain ⟨t, s⟩ := z
        obtain ⟨hb1, hb2, hb3, hb4⟩ := tok1_ok hT
        have hsz := tok1_size hT
        rw [List.length_drop, Hn.out] at hsz
        have HT := Lib.hid hT
        have hchk : (if L < t.dist then 2 else if N + most < L + (t.lits.length + t.len) then 5 else 0 : Nat) = t.chk L (N + most) := by unfold Tok.chk; rw [Tok.out_eq]
        have hcl : t.chk L (N + most) = 0 ∨ t.chk L (N + most) = 2 ∨ t.chk L (N + most) = 5 := by
          unfold Tok.chk
          split
          · omega
          · split <;> omega
        have hok : t.chk L (N + most) = 0 → t.dist ≤ L ∧ L + t.out ≤ N + most := by
          unfold Tok.chk
          split
          · omega
          · split <;> omega
        rw [Tok.out_eq] at hok
        have happ := app_len text t
        rw [HL.out, Tok.out_eq] at happ
        obtain ⟨y, hy⟩ : ∃ y, t.chk L (N + most) = y := ⟨_, rfl⟩
        rw [hy] at hchk hcl hok
        have HCK : Hid (∀ W A' c', Calls Try.prog 39 #[tokV A' t.lits.length c' (t.dist : Int) (t.len : Int), .int .i64 (L : Int), .int .i64 ((N + most : Nat) : Int)] W fun e w' => e = .returned (.int .i64 (y : Int)) ∧ Below W.heap.size W w') := Lib.hid fun W A' c' => by
          rw [← hchk]
          exact check_any W A' t.lits.length c' t.dist t.len L (N + most) (by omega) (by omega) (by omega) (by omega) (by omega)
        have HAP := Lib.hid happ
        have HOK := Lib.hid hok
        have HY := Lib.hid hy
        have w1 : IntKind.i64.wrap ((N : Int) + (most : Int)) = ((N + most : Nat) : Int) := by rw [IntKind.wrap_i64]; omega
        have w2 : IntKind.i64.wrap ((at_ : Int) + (s : Int)) = ((at_ + s : Nat) : Int) := by rw [IntKind.wrap_i64]; omega
        clear hT hchk hok happ hy
        by_cases hy0 : y = 0
        · subst hy0
          obtain ⟨hok1, hok2⟩ := HOK.out rfl
          have HAT : Hid (∀ W A' c', Below w.heap.size w W → OB 5 W w.heap.size (.slice tA L tc) text → RB W W.heap.size A' t.lits → Calls Try.prog 40 #[tokV A' t.lits.length c' (t.dist : Int) (t.len : Int), .slice tA L tc] W fun e w' => ∃ v', e = .returned v' ∧ OB 5 w' w.heap.size v' (t.app text) ∧ Below w.heap.size W w') := Lib.hid fun W A' c' hW hO hR' =>
            appendTo_any W t A' c' w.heap.size _ text hO hW.size hR' (by rw [HL.out]; omega) (by omega) (by omega) (by rw [HL.out]; exact hok1) hb4
          clear hcl
          go_wp2_with (first
            | (go_at_call 38; refine (HFI.out _ HB.out).mono ?_; rintro e V ⟨x, s, y, rfl, hq, hb2⟩; unfold FirstQ at hq; rw [HT.out] at hq; obtain ⟨⟨A', c', hx, hrb, hcc⟩, hs, hy⟩ := hq; subst hx; subst hs; subst hy; unfold tokV; have HO1 := Lib.hid (HO.out.mod (Mod.of_new hb2 (fun _ => False)) (fun _ _ h => h)); have HB2 := Lib.hid (HB.out.trans (hb2.mono HB.out.size)); have HRB := Lib.hid (hrb.more hb2.size); clear hb2 hrb)
            | (go_at_call 39; refine (HCK.out _ _ _).mono ?_; rintro e V2 ⟨rfl, hb3⟩; have HO2 := Lib.hid ((HO1.out.alloc _).mod (Mod.of_new hb3 (fun _ => False)) (fun _ _ h => h)); have HB3 := Lib.hid ((HB2.out.alloc HB2.out.size _).trans (hb3.mono (Nat.le_trans HB2.out.size (by simp)))); have HRB3 := Lib.hid ((HRB.out.below (((Below.refl _ V).alloc (Nat.le_refl _) _).trans (hb3.mono (by simp)))).more (Nat.le_trans (by simp) hb3.size)); have HK3 := Lib.hid ((Blk.new V 45 #[.slice A' t.lits.length c', .int .i64 (t.dist : Int), .int .i64 (t.len : Int)]).mod (Mod.of_new hb3 (fun _ => False)) (fun h => h)); have d0 : V2.cell? ⟨V.heap.size, 0, none⟩ = some (.slice A' t.lits.length c') := HK3.out.cell 0; have d1 : V2.cell? ⟨V.heap.size, 1, none⟩ = some (.int .i64 (t.dist : Int)) := HK3.out.cell 1; have d2 : V2.cell? ⟨V.heap.size, 2, none⟩ = some (.int .i64 (t.len : Int)) := HK3.out.cell 2; clear hb3)
            | (go_at_call 40; refine (HAT.out _ _ _ HB3.out HO2.out HRB3.out).mono ?_; rintro e V4 ⟨v4, rfl, ho4, hb4'⟩; have HO4 := Lib.hid ho4; have HB4 := Lib.hid (HB3.out.trans hb4'); clear ho4 hb4'))
          go_roundw
          case rel => exact ⟨at_ + s, t.app text, by go_num, by omega, HO4.out, by have := HST.out; rw [HT.out] at this; simp only [HY.out, if_true] at this; exact this.symm, by rw [HAP.out]; omega, by rw [HAP.out]; omega, HB4.out⟩
          case measure => simp [intOf] <;> omega
        · have hy1 : ¬ (y : Int) = 0 := by omega
          clear HAP HOK
          go_wp2_with (first
            | (go_at_call 38; refine (HFI.out _ HB.out).mono ?_; rintro e V ⟨x, s, y, rfl, hq, hb2⟩; unfold FirstQ at hq; rw [HT.out] at hq; obtain ⟨⟨A', c', hx, hrb, hcc⟩, hs, hy⟩ := hq; subst hx; subst hs; subst hy; unfold tokV; have HB2 := Lib.hid (HB.out.trans (hb2.mono HB.out.size)); clear hb2 hrb)
            | (go_at_call 39; refine (HCK.out _ _ _).mono ?_; rintro e V2 ⟨rfl, hb3⟩; have HB3 := Lib.hid ((HB2.out.alloc HB2.out.size _).trans (hb3.mono (Nat.le_trans HB2.out.size (by simp)))); clear hb3))
          refine bodyPost_ret (results_tmp3 rfl _ _ _) rfl ?_
          refine ⟨_, _, _, rfl, ?_, HB3.out⟩
          have := HST.out
          rw [HT.out] at this
          simp only [HY.out, if_neg hy0] at this
          rw [this]
          exact ⟨rfl, rfl, rfl⟩
    · have g4 : ¬ (at_ : Int) < (n : Int) := by omega
      have hfin : R = .ok (text.drop N) := by rw [← HU.out]; exact unp_end (by rw [Hn.out]; omega) text
      have HFIN := Lib.hid hfin
      clear hfin
      have r1 : (0 : Int) ≤ (N : Int) := by omega
      have r2 : (N : Int) ≤ (L : Int) := by omega
      have r3 : (L : Int) ≤ (tc : Int) := by omega
      by_cases hN0 : N = 0
      · subst hN0
        have hq : UnpQ wr R (.slice tA L tc) 0 0 := by
          rw [HFIN.out]
          exact ⟨⟨tA, tc, by rw [List.drop_zero, HL.out], by rw [List.drop_zero]; exact HTR.out, by rw [List.drop_zero, HL.out]; exact htc⟩, rfl, rfl⟩
        have HQ := Lib.hid hq
        clear hq
        cases tA with
        | none =>
          go_wp2
          refine bodyPost_ret (results_tmp3 rfl _ _ _) rfl ?_
          exact ⟨_, _, _, rfl, HQ.out, HB.out⟩
        | some a =>
          go_wp2
          refine bodyPost_ret (results_tmp3 rfl _ _ _) rfl ?_
          exact ⟨_, _, _, rfl, HQ.out, HB.out⟩
      · obtain ⟨b, off, rfl, hbb, hcs⟩ := HTR.out (by rw [HL.out]; omega)
        have hdl2 : (text.drop N).length = L - N := by rw [List.length_drop, HL.out]
        by_cases hNc : tc = N
        · have hLN : L - N = 0 := by omega
          have hd0 : text.drop N = [] := List.eq_nil_of_length_eq_zero (by omega)
          rw [hd0] at HFIN
          clear hd0 hdl2 hcs
          subst hNc
          go_wp2
          refine bodyPost_ret (results_tmp3 rfl _ _ _) rfl ?_
          refine ⟨_, _, _, rfl, ?_, HB.out⟩
          rw [HFIN.out]
          exact ⟨⟨some ⟨b, off, none⟩, 0, rfl, RB.nil, Nat.zero_le _⟩, rfl, rfl⟩
        · have hq : UnpQ wr R (.slice (some ⟨b, off + N, none⟩) (L - N) (tc - N)) 0 0 := by
            rw [HFIN.out]
            exact ⟨⟨_, _, by rw [hdl2], HTR.out.drop N, by rw [hdl2]; omega⟩, rfl, rfl⟩
          have HQ := Lib.hid hq
          clear hq hdl2 hcs
          go_wp2
          refine bodyPost_ret (results_tmp3 rfl _ _ _) rfl ?_
          exact ⟨_, _, _, rfl, HQ.out, HB.out⟩
set_option maxHeartbeats 1000000 in
set_option maxRecDepth 100000 in
theorem unpackWith_most (w : World) (D : Option Addr) (n dc : Nat) (A : Option Addr) (m c : Nat) (most : Int) (hm : most < 0 ∨ 1048576 < most) :
    Calls Try.prog 19 #[.slice D n dc, .slice A m c, .int .i64 most] w fun e w' => e = .returned (.tuple #[.slice none 0 0, .int .i64 0, .int .i64 2]) ∧ w' = w := by
  by_cases h1 : most < 0
  · go_enter Try.func19, Try.ntmps19
    go_wp2
    refine bodyPost_ret (results_tmp3 rfl _ _ _) rfl ?_
    exact ⟨rfl, rfl⟩
  · have h2 : most > 1048576 := by omega
    go_enter Try.func19, Try.ntmps19
    go_wp2
    refine bodyPost_ret (results_tmp3 rfl _ _ _) rfl ?_
    exact ⟨rfl, rfl⟩
set_option maxHeartbeats 1000000 in
set_option maxRecDepth 100000 in
theorem unpackWith_long (w : World) (D : Option Addr) (n dc : Nat) (A : Option Addr) (m c most : Nat) (hm : most ≤ 1048576) (hn : 1048576 < n) :
    Calls Try.prog 19 #[.slice D n dc, .slice A m c, .int .i64 (most : Int)] w fun e w' => e = .returned (.tuple #[.slice none 0 0, .int .i64 0, .int .i64 5]) ∧ w' = w := by
  have h1 : ¬ (most : Int) < 0 := by omega
  have h2 : ¬ (most : Int) > 1048576 := by omega
  have h3 : (n : Int) > 1048576 := by omega
  go_enter Try.func19, Try.ntmps19
  go_wp2
  refine bodyPost_ret (results_tmp3 rfl _ _ _) rfl ?_
  exact ⟨rfl, rfl⟩
/-- The whole of UnpackWith, for dictionaries within the window. -/
theorem unpackWith_all (w : World) (D : Option Addr) (dict : List UInt8) (dc : Nat) (A : Option Addr) (p : List UInt8) (c : Nat) (most : Int) (hd : RB w w.heap.size D dict) (hr : RB w w.heap.size A p) (hdl : dict.length ≤ 4096) (hdc : dict.length ≤ dc) (hc : p.length ≤ c) (hl : p.length ≤ 3000000) :
    Calls Try.prog 19 #[.slice D dict.length dc, .slice A p.length c, .int .i64 most] w fun e w' => ∃ v a y, e = .returned (.tuple #[v, .int .i64 a, .int .i64 y]) ∧ UnpQ w' (unpackF dict p most) v a y ∧ Below w.heap.size w w' := by
  by_cases h : most < 0 ∨ 1048576 < most
  · refine (unpackWith_most w D _ dc A _ c most h).mono ?_
    rintro e V ⟨rfl, rfl⟩
    refine ⟨_, _, _, rfl, ?_, Below.refl _ _⟩
    unfold unpackF
    rw [if_pos h]
    exact ⟨rfl, rfl, rfl⟩
  · obtain ⟨m, rfl⟩ : ∃ m : Nat, most = (m : Int) := ⟨most.toNat, by omega⟩
    exact unpackWith_any w D dict dc A p c m hd hr hdl hdc hc hl (by omega)
set_option maxHeartbeats 1000000 in
set_option maxRecDepth 100000 in
theorem unpack_all (w : World) (A : Option Addr) (p : List UInt8) (c : Nat) (most : Int) (hr : RB w w.heap.size A p) (hc : p.length ≤ c) (hl : p.length ≤ 3000000) :
    Calls Try.prog 21 #[.slice A p.length c, .int .i64 most] w fun e w' => ∃ v a y, e = .returned (.tuple #[v, .int .i64 a, .int .i64 y]) ∧ UnpQ w' (unpackF [] p most) v a y ∧ Below w.heap.size w w' := by
  have HU := Lib.hid (unpackWith_all w none [] 0 A p c most RB.nil hr (by simp) (by simp) hc hl)
  obtain ⟨n, hn⟩ : ∃ n, p.length = n := ⟨_, rfl⟩
  rw [hn] at HU ⊢
  clear hn hr hc hl
  go_enter Try.func21, Try.ntmps21
  go_wp2_with (go_at_call 19; refine HU.out.mono ?_; rintro e V ⟨v, a, y, rfl, hq, hb⟩; have HQ := Lib.hid hq; have HB := Lib.hid hb; clear hq hb)
  refine bodyPost_ret (results_tmp3 rfl _ _ _) rfl ?_
  exact ⟨_, _, _, rfl, HQ.out, HB.out⟩
end Go.Proofs.Ytocohoojnjdkiaa
