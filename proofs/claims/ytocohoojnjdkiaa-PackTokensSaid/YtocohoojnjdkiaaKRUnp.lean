/- pack: the reference's Unpack. Made by mkrunp.py. -/
import Derived.Test.YtocohoojnjdkiaaKRTok
import Derived.Test.YtocohoojnjdkiaaKUnp
set_option linter.unusedVariables false
namespace Go.Proofs.Ytocohoojnjdkiaa
open Go.RowKit

theorem app_eq (text : List UInt8) (t : Tok) : t.app text = copyF (text ++ t.lits) t.dist t.len := by cases t <;> simp [Tok.app, Tok.lits, Tok.dist, Tok.len, copyF]
set_option maxHeartbeats 8000000 in
set_option maxRecDepth 100000 in
theorem runpack_any (w : World) (D : Option Addr) (dict : List UInt8) (dc : Nat) (A : Option Addr) (p : List UInt8) (c : Nat) (most : Nat) (hd : RB w w.heap.size D dict) (hr : RB w w.heap.size A p) (hdl : dict.length ≤ 4096) (hdc : dict.length ≤ dc) (hc : p.length ≤ c) (hl : p.length ≤ 3000000) (hm : most ≤ 1048576) :
    Calls Try.prog 20 #[.slice D dict.length dc, .slice A p.length c, .int .i64 (most : Int)] w fun e w' => ∃ v a y, e = .returned (.tuple #[v, .int .i64 a, .int .i64 y]) ∧ UnpQ w' (unpackF dict p most) v a y ∧ Below w.heap.size w w' := by
  have hF : unpackF dict p most = unp dict.length most p 0 dict := by
    unfold unpackF
    rw [if_neg (by omega), if_neg (by omega), reachF_small hdl, Int.toNat_natCast]
  rw [hF]
  obtain ⟨R, hR⟩ : ∃ R, unp dict.length most p 0 dict = R := ⟨_, rfl⟩
  rw [hR]
  have HUR := Lib.hid hR
  have ho : OB 5 (w.alloc (.cells #[] 5)) w.heap.size (.slice (some ⟨w.heap.size, 0, none⟩) 0 0) [] :=
    ⟨rfl, .inr ⟨w.heap.size, 0, #[], rfl, Nat.le_refl _, heap_alloc_new _ _, Nat.le_refl _, Nat.zero_le _, rfl, rfl⟩⟩
  have HO := Lib.hid ho
  have hb0 : Below w.heap.size w (w.alloc (.cells #[] 5)) := (Below.refl _ _).alloc (Nat.le_refl _) _
  have HB0 := Lib.hid hb0
  have HD := Lib.hid hd
  obtain ⟨N, hN⟩ : ∃ N, dict.length = N := ⟨_, rfl⟩
  obtain ⟨n, hn⟩ : ∃ n, p.length = n := ⟨_, rfl⟩
  have HN := Lib.hid hN
  have Hn := Lib.hid hn
  have HR := Lib.hid hr
  have HL0 : Hid (([] : List UInt8).length + dict.length ≤ 140737488355328) := Lib.hid (by simp; omega)
  rw [hN] at hdl hdc HUR ⊢
  rw [hn] at hc hl ⊢
  clear hF hR hd hr hN hn ho hb0
  have g1 : ¬ (most : Int) < 0 := by omega
  have g2 : ¬ (most : Int) > 1048576 := by omega
  have g3 : ¬ (N : Int) > 1048576 := by omega
  go_enter Try.func20, Try.ntmps20
  go_wp2_with (at_builtin; refine wpList_app bslK rfl (.tmp 24) (.tmp 25) rfl w.heap.size _ [] ?_ HO.out w.heap.size D dict dc ?_ ?_ ?_ ?_ ?_; (focus rfl); (focus (rw [HN.out]; rfl)); (focus (exact HD.out.below HB0.out)); (focus (exact HL0.out)); (focus (exact HB0.out.size)); intro v1 W1 ho1 hg1; have HO1 := Lib.hid ho1; have HB1 := Lib.hid (HB0.out.trans (hg1.below HB0.out.size (fun k hk => (HO.out.lt k hk).1))); clear ho1 hg1)
  go_loopw [9, 10] (fun tv i wr => ∃ (at_ : Nat) (text : List UInt8), i = .int .i64 (at_ : Int) ∧ at_ ≤ n ∧ OB 5 wr w.heap.size tv text ∧ unp N most p at_ text = R ∧ N ≤ text.length ∧ text.length ≤ N + most ∧ Below w.heap.size w wr) (fun _ i _ => n - (intOf i).toNat)
  case atStart => exact ⟨0, dict, rfl, by omega, by simpa using HO1.out, HUR.out, by rw [HN.out]; omega, by rw [HN.out]; omega, HB1.out⟩
  case round =>
    obtain ⟨at_, text, rfl, hat, ho, hu, hNt, htm, hb⟩ := hrel
    obtain ⟨tA, tc, htv, htr, htc, _⟩ := ho.form
    obtain ⟨L, hL⟩ : ∃ L, text.length = L := ⟨_, rfl⟩
    rw [hL] at htv hNt htm htc
    subst htv
    have HO := Lib.hid ho
    have HU := Lib.hid hu
    have HB := Lib.hid hb
    have HL := Lib.hid hL
    have HTR := Lib.hid htr
    clear ho hu hb hL htr HO1 HB1 HUR
    by_cases h1 : at_ < n
    · have g4 : (at_ : Int) < (n : Int) := by omega
      have hTK : ∀ W, Below wr.heap.size wr W → Calls Try.prog 41 #[.slice A n c, .int .i64 (at_ : Int)] W fun e w' => ∃ x s y, e = .returned (.tuple #[x, .int .i64 s, .int .i64 y]) ∧ FirstR w' W.heap.size (p.drop at_) x s y ∧ Below W.heap.size W w' := fun W h => by
        have h2 := HB.out.trans (h.mono HB.out.size)
        have h3 := rtoken_any W A p c at_ ((HR.out.below h2).more h2.size) (by rw [Hn.out]; omega) (by rw [Hn.out]; omega) (by rw [Hn.out]; omega)
        rwa [Hn.out] at h3
      have HTK := Lib.hid hTK
      have hst := unp_step (begin := N) (most := most) (p := p) (at_ := at_) (by rw [Hn.out]; exact h1) text
      rw [HU.out, HL.out] at hst
      have HST := Lib.hid hst
      clear hst hTK
      have hS0 : Below wr.heap.size wr wr := Below.refl _ _
      cases hT : tok1 (p.drop at_) with
      | error k =>
        have hk := tok1_err hT
        have HT := Lib.hid hT
        clear hT
        have hk1 : ¬ (k : Int) = 0 := by omega
        go_upto_region 9 with (go_at_call 41; refine (HTK.out _ ?_).mono ?_; (focus exact hS0); rintro e V ⟨x, s, y, rfl, hq, hb1⟩; unfold FirstR at hq; rw [HT.out] at hq; obtain ⟨hx, hs, hy⟩ := hq; subst hx; subst hs; subst hy; unfold tokV)
        go_wp2
        refine bodyPost_ret (results_tmp3 rfl _ _ _) rfl ?_
        exact ⟨_, _, _, rfl, by rw [HST.out, HT.out]; exact ⟨rfl, rfl, rfl⟩, HB.out.trans ((hb1.alloc hb1.size _).mono HB.out.size)⟩
      | ok z =>
        obtain ⟨t, s⟩ := z
        obtain ⟨hb1', hb2', hb3', hb4'⟩ := tok1_ok hT
        have hsz := tok1_size hT
        rw [List.length_drop, Hn.out] at hsz
        have HT := Lib.hid hT
        have hchk : (if L < t.dist then 2 else if N + most < L + (t.lits.length + t.len) then 5 else 0 : Nat) = t.chk L (N + most) := by unfold Tok.chk; rw [Tok.out_eq]
        have happ := app_len text t
        rw [HL.out, Tok.out_eq] at happ
        rw [app_eq] at happ
        have HAE := Lib.hid (app_eq text t)
        obtain ⟨y, hy⟩ : ∃ y, t.chk L (N + most) = y := ⟨_, rfl⟩
        rw [hy] at hchk
        obtain ⟨LS, hLS⟩ : ∃ LS, t.lits = LS := ⟨_, rfl⟩
        obtain ⟨d, hdd⟩ : ∃ d, t.dist = d := ⟨_, rfl⟩
        obtain ⟨k, hkk⟩ : ∃ k, t.len = k := ⟨_, rfl⟩
        obtain ⟨m, hmm⟩ : ∃ m, LS.length = m := ⟨_, rfl⟩
        have HY := Lib.hid hy
        have HLS := Lib.hid hLS
        have HDD := Lib.hid hdd
        have HKK := Lib.hid hkk
        have HMM := Lib.hid hmm
        rw [hLS] at hb3' hchk HAE happ
        rw [hdd] at hb1' hb4' hchk HAE happ
        rw [hkk] at hb2' hb4' hchk HAE happ
        rw [hmm] at hb3' hchk happ
        have HAPP := Lib.hid happ
        clear hT happ hy hLS hdd hkk hmm
        have w0 : IntKind.i64.wrap ((L : Int) - (N : Int)) = ((L - N : Nat) : Int) := by rw [IntKind.wrap_i64]; omega
        have w1 : IntKind.i64.wrap (((L - N : Nat) : Int) + (k : Int)) = ((L - N + k : Nat) : Int) := by rw [IntKind.wrap_i64]; omega
        have w2 : IntKind.i64.wrap (((L - N + k : Nat) : Int) + (m : Int)) = ((L - N + k + m : Nat) : Int) := by rw [IntKind.wrap_i64]; omega
        have w3 : IntKind.i64.wrap ((at_ : Int) + (s : Int)) = ((at_ + s : Nat) : Int) := by rw [IntKind.wrap_i64]; omega
        go_upto_region 9 with (go_at_call 41; refine (HTK.out _ ?_).mono ?_; (focus exact hS0); rintro e V ⟨x, s, y, rfl, hq, hb1⟩; unfold FirstR at hq; rw [HT.out] at hq; obtain ⟨⟨A2, c2, hx, hob⟩, hs, hy⟩ := hq; rw [HLS.out, HDD.out, HKK.out, HMM.out] at hx; rw [HLS.out, HMM.out] at hob; subst hx; subst hs; subst hy; unfold tokV)
        have hblk := Blk.new V 46 #[.slice A2 m c2, .int .i64 (d : Int), .int .i64 (k : Int)]
        have hbW : Below wr.heap.size wr (V.alloc (.cells #[.slice A2 m c2, .int .i64 (d : Int), .int .i64 (k : Int)] 46)) := hb1.alloc hb1.size _
        have hobW := hob.alloc (.cells #[.slice A2 m c2, .int .i64 (d : Int), .int .i64 (k : Int)] 46)
        replace hobW := hobW.base0 (base' := 0) (Nat.zero_le _)
        obtain ⟨W, hWe⟩ : ∃ W, W = V.alloc (.cells #[.slice A2 m c2, .int .i64 (d : Int), .int .i64 (k : Int)] 46) := ⟨_, rfl⟩
        obtain ⟨G, hGe⟩ : ∃ G, G = V.heap.size := ⟨_, rfl⟩
        rw [← hWe] at hblk hbW hobW ⊢
        rw [← hGe] at hblk ⊢
        clear hWe hGe hb1 hob
        have HOW := Lib.hid (HO.out.mod (S := fun k => wr.heap.size ≤ k) (Mod.of_below hbW) (fun k hk e => by have := (HO.out.lt k hk).2; omega))
        have HBW := Lib.hid (HB.out.trans (hbW.mono HB.out.size))
        have HBK := Lib.hid hblk
        have HOB := Lib.hid hobW
        clear hblk hbW hS0 hobW HTK
        have d0 : W.cell? ⟨G, 0, none⟩ = some (.slice A2 m c2) := HBK.out.cell 0
        have d1 : W.cell? ⟨G, 1, none⟩ = some (.int .i64 (d : Int)) := HBK.out.cell 1
        have d2 : W.cell? ⟨G, 2, none⟩ = some (.int .i64 (k : Int)) := HBK.out.cell 2
        by_cases hd1 : L < d
        · have e1 : (d : Int) > (L : Int) := by omega
          rw [if_pos hd1] at hchk
          go_wp2
          refine bodyPost_ret (results_tmp3 rfl _ _ _) rfl ?_
          refine ⟨_, _, _, rfl, ?_, HBW.out⟩
          have := HST.out
          rw [HT.out] at this
          simp only [HY.out, ← hchk] at this
          rw [this]
          exact ⟨rfl, rfl, rfl⟩
        · have e1 : ¬ (d : Int) > (L : Int) := by omega
          rw [if_neg hd1] at hchk
          by_cases hd2 : N + most < L + (m + k)
          · have e2 : ((L - N + k + m : Nat) : Int) > (most : Int) := by omega
            rw [if_pos hd2] at hchk
            go_wp2
            refine bodyPost_ret (results_tmp3 rfl _ _ _) rfl ?_
            refine ⟨_, _, _, rfl, ?_, HBW.out⟩
            have := HST.out
            rw [HT.out] at this
            simp only [HY.out, ← hchk] at this
            rw [this]
            exact ⟨rfl, rfl, rfl⟩
          · have e2 : ¬ ((L - N + k + m : Nat) : Int) > (most : Int) := by omega
            rw [if_neg hd2] at hchk
            subst hchk
            have HRL := Lib.hid (show RB W W.heap.size A2 LS from by obtain ⟨A3, c3, he, hr3, _⟩ := HOB.out.form; cases he; exact hr3)
            have HLEN : Hid (text.length + LS.length ≤ 140737488355328) := Lib.hid (by rw [HL.out, HMM.out]; omega)
            go_upto_region 16 with (at_builtin; refine wpList_app bslK rfl (.tmp 63) (.tmp 65) rfl w.heap.size (Value.slice tA L tc) text ?_ HOW.out W.heap.size A2 LS c2 ?_ ?_ ?_ ?_ ?_; (focus rfl); (focus (rw [HMM.out]; rfl)); (focus (exact HRL.out)); (focus (exact HLEN.out)); (focus (exact HBW.out.size)); intro v1 W1 ho1 hg1; have HO1 := Lib.hid ho1; have HG1 := Lib.hid hg1; clear ho1 hg1)
            have HK1 := Lib.hid (HBK.out.mod HG1.out.mod (fun e => HOW.out.ne_blk HBK.out (by decide) e))
            have HB1 := Lib.hid (HBW.out.trans (HG1.out.below HBW.out.size (fun j hj => (HOW.out.lt j hj).1)))
            clear d0 d1 d2
            go_wp2
            go_loopw [9, 14] (fun tv i wq => ∃ j : Nat, i = .int .i64 (j : Int) ∧ j ≤ k ∧ OB 5 wq w.heap.size tv (copyF (text ++ LS) d j) ∧ Blk wq G 46 #[.slice A2 m c2, .int .i64 (d : Int), .int .i64 (k : Int)] ∧ Below w.heap.size w wq) (fun _ i _ => k - (intOf i).toNat)
            case atStart => exact ⟨0, rfl, by omega, HO1.out, HK1.out, HB1.out⟩
            case round =>
              obtain ⟨j, rfl, hj, hoj, hkj, hbj⟩ := hrel
              obtain ⟨uA, uc, hu, hrb, _, _⟩ := hoj.form
              have hlenj : (copyF (text ++ LS) d j).length = L + m + j := by rw [copyF_len, List.length_append, HL.out, HMM.out]
              rw [hlenj] at hu
              subst hu
              have d1 := hkj.cell 1
              have d2 := hkj.cell 2
              have HOJ := Lib.hid hoj
              have HKJ := Lib.hid hkj
              have HBJ := Lib.hid hbj
              have HLJ := Lib.hid hlenj
              clear hoj hkj hbj hlenj HO1 HK1 HB1
              by_cases hjk : j < k
              · have u1 : (j : Int) < (k : Int) := by omega
                have hd1' := hb4' (by omega)
                obtain ⟨ub, uoff, rfl, hub, hcs⟩ := rb_byt hrb (i := 0) (by rw [HLJ.out]; omega)
                have hcell := hcs (L + m + j - d) (by rw [HLJ.out]; omega)
                obtain ⟨cc, hcc⟩ : ∃ cc, (copyF (text ++ LS) d j).getD (L + m + j - d) 0 = cc := ⟨_, rfl⟩
                have hcell2 : wr.cell? ⟨ub, uoff + (L + m + j - d), none⟩ = some (.int .u8 (cc.toNat : Int)) := by rw [hcell, ← hcc]; rfl
                have HCC : Hid (copyF (text ++ LS) d (j + 1) = copyF (text ++ LS) d j ++ [cc]) := Lib.hid (by rw [copyF_succ, HLJ.out, hcc])
                clear hcs hcell hcc hrb
                have x1 : IntKind.i64.wrap (((L + m + j : Nat) : Int) - (d : Int)) = ((L + m + j - d : Nat) : Int) := by rw [IntKind.wrap_i64]; omega
                have x2 : IntKind.i64.wrap ((L : Int) + (m : Int) + (j : Int) - (d : Int)) = ((L + m + j - d : Nat) : Int) := by rw [IntKind.wrap_i64]; omega
                have x3 : IntKind.i64.wrap ((j : Int) + 1) = (j : Int) + 1 := by rw [IntKind.wrap_i64]; omega
                have p1 : ((L + m + j - d : Nat) : Int) < (L : Int) + (m : Int) + (j : Int) := by omega
                have p2 : L + m + j - d < L + m + j := by omega
                go_wp2_with (at_builtin; refine wpList_push bslK (by rfl) (.tmp 73) (.tmp 82) (by rfl) w.heap.size _ _ (by rfl) _ cc rfl HOJ.out (by rfl) (by rw [HLJ.out]; omega) HBJ.out.size ?_; intro v2 W2 ho2 hg2; have HO2 := Lib.hid ho2; have HK2 := Lib.hid (HKJ.out.mod hg2.mod (fun e => HOJ.out.ne_blk HKJ.out (by decide) e)); have HB2 := Lib.hid (HBJ.out.trans (hg2.below HBJ.out.size (fun j hj => (HOJ.out.lt j hj).1))); clear ho2 hg2)
                go_roundw
                case rel => exact ⟨j + 1, by go_num, by omega, by rw [HCC.out]; exact HO2.out, HK2.out, HB2.out⟩
                case measure => simp [intOf] <;> omega
              · have u1 : ¬ (j : Int) < (k : Int) := by omega
                obtain rfl : j = k := by omega
                go_wp2
                go_roundw
                case rel => exact ⟨at_ + s, t.app text, by go_num, by omega, by rw [HAE.out]; exact HOJ.out, by have := HST.out; rw [HT.out] at this; simp only [HY.out, if_true] at this; exact this.symm, by rw [HAE.out, HAPP.out]; omega, by rw [HAE.out, HAPP.out]; omega, HBJ.out⟩
                case measure => simp [intOf] <;> omega
    · have g4 : ¬ (at_ : Int) < (n : Int) := by omega
      have hfin : R = .ok (text.drop N) := by rw [← HU.out]; exact unp_end (by rw [Hn.out]; omega) text
      have HFIN := Lib.hid hfin
      clear hfin
      have r1 : (0 : Int) ≤ (N : Int) := by omega
      have r2 : (N : Int) ≤ (L : Int) := by omega
      have r3 : (L : Int) ≤ (tc : Int) := by omega
      by_cases hN0 : N = 0
      · subst hN0
        have hq : UnpQ wr R (.slice tA L tc) 0 0 := by
          rw [HFIN.out]
          exact ⟨⟨tA, tc, by rw [List.drop_zero, HL.out], by rw [List.drop_zero]; exact HTR.out, by rw [List.drop_zero, HL.out]; exact htc⟩, rfl, rfl⟩
        have HQ := Lib.hid hq
        clear hq
        cases tA with
        | none =>
          go_wp2
          refine bodyPost_ret (results_tmp3 rfl _ _ _) rfl ?_
          exact ⟨_, _, _, rfl, HQ.out, HB.out⟩
        | some a =>
          go_wp2
          refine bodyPost_ret (results_tmp3 rfl _ _ _) rfl ?_
          exact ⟨_, _, _, rfl, HQ.out, HB.out⟩
      · obtain ⟨b, off, rfl, hbb, hcs⟩ := HTR.out (by rw [HL.out]; omega)
        have hdl2 : (text.drop N).length = L - N := by rw [List.length_drop, HL.out]
        by_cases hNc : tc = N
        · have hLN : L - N = 0 := by omega
          have hd0 : text.drop N = [] := List.eq_nil_of_length_eq_zero (by omega)
          rw [hd0] at HFIN
          clear hd0 hdl2 hcs
          subst hNc
          go_wp2
          refine bodyPost_ret (results_tmp3 rfl _ _ _) rfl ?_
          refine ⟨_, _, _, rfl, ?_, HB.out⟩
          rw [HFIN.out]
          exact ⟨⟨some ⟨b, off, none⟩, 0, rfl, RB.nil, Nat.zero_le _⟩, rfl, rfl⟩
        · have hq : UnpQ wr R (.slice (some ⟨b, off + N, none⟩) (L - N) (tc - N)) 0 0 := by
            rw [HFIN.out]
            exact ⟨⟨_, _, by rw [hdl2], HTR.out.drop N, by rw [hdl2]; omega⟩, rfl, rfl⟩
          have HQ := Lib.hid hq
          clear hq hdl2 hcs
          go_wp2
          refine bodyPost_ret (results_tmp3 rfl _ _ _) rfl ?_
          exact ⟨_, _, _, rfl, HQ.out, HB.out⟩
set_option maxHeartbeats 1000000 in
set_option maxRecDepth 100000 in
theorem runpack_most (w : World) (D : Option Addr) (n dc : Nat) (A : Option Addr) (m c : Nat) (most : Int) (hm : most < 0 ∨ 1048576 < most) :
    Calls Try.prog 20 #[.slice D n dc, .slice A m c, .int .i64 most] w fun e w' => e = .returned (.tuple #[.slice none 0 0, .int .i64 0, .int .i64 2]) ∧ w' = w := by
  by_cases h1 : most < 0
  · go_enter Try.func20, Try.ntmps20
    go_wp2
    refine bodyPost_ret (results_tmp3 rfl _ _ _) rfl ?_
    exact ⟨rfl, rfl⟩
  · have h2 : most > 1048576 := by omega
    go_enter Try.func20, Try.ntmps20
    go_wp2
    refine bodyPost_ret (results_tmp3 rfl _ _ _) rfl ?_
    exact ⟨rfl, rfl⟩
/-- The whole of the reference's Unpack, for dictionaries within the window. -/
theorem runpack_all (w : World) (D : Option Addr) (dict : List UInt8) (dc : Nat) (A : Option Addr) (p : List UInt8) (c : Nat) (most : Int) (hd : RB w w.heap.size D dict) (hr : RB w w.heap.size A p) (hdl : dict.length ≤ 4096) (hdc : dict.length ≤ dc) (hc : p.length ≤ c) (hl : p.length ≤ 3000000) :
    Calls Try.prog 20 #[.slice D dict.length dc, .slice A p.length c, .int .i64 most] w fun e w' => ∃ v a y, e = .returned (.tuple #[v, .int .i64 a, .int .i64 y]) ∧ UnpQ w' (unpackF dict p most) v a y ∧ Below w.heap.size w w' := by
  by_cases h : most < 0 ∨ 1048576 < most
  · refine (runpack_most w D _ dc A _ c most h).mono ?_
    rintro e V ⟨rfl, rfl⟩
    refine ⟨_, _, _, rfl, ?_, Below.refl _ _⟩
    unfold unpackF
    rw [if_pos h]
    exact ⟨rfl, rfl, rfl⟩
  · obtain ⟨m, rfl⟩ : ∃ m : Nat, most = (m : Int) := ⟨most.toNat, by omega⟩
    exact runpack_any w D dict dc A p c m hd hr hdl hdc hc hl (by omega)
end Go.Proofs.Ytocohoojnjdkiaa
