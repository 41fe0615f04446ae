/- pack: PackWith. -/
import Derived.Test.YtocohoojnjdkiaaKNew
import Derived.Test.YtocohoojnjdkiaaKEnd
import Derived.Test.YtocohoojnjdkiaaKReach
set_option linter.unusedVariables false
namespace Go.Proofs.Ytocohoojnjdkiaa
open Go.RowKit

theorem FD.mod {w w' : World} {g r c p : Nat} {A : Option Addr} {t : List UInt8} {S : Nat → Prop} (h : FD w g r A c t p) (hm : Mod w w' S) (hS : ∀ k, k ≤ g ∨ k ≤ r → ¬ S k) : FD w' g r A c t p := by
  obtain ⟨B, f, h1, h2⟩ := h
  exact ⟨B, f, h1.mod hm hS, h2⟩
theorem FD.cell0 {w : World} {g r c p : Nat} {A : Option Addr} {t : List UInt8} (h : FD w g r A c t p) : w.cell? ⟨g, 0, none⟩ = some (.slice A t.length c) := by
  obtain ⟨B, f, h1, h2⟩ := h
  exact h1.cell0
theorem FD.txt {w : World} {g r c p : Nat} {A : Option Addr} {t : List UInt8} (h : FD w g r A c t p) : RB w w.heap.size A t := by
  obtain ⟨B, f, h1, h2⟩ := h
  exact h1.txt
theorem pack_len (dict b : List UInt8) (h : b.length ≤ 1048576) : (packF dict b).length ≤ 2000000 := by have := pack_bound dict b; omega
/-- What a round of the packing keeps. -/
structure PR (w0 w : World) (g r : Nat) (T : Option Addr) (c : Nat) (t : List UInt8) (h base : Nat) (at_ : Nat) (pk run : List UInt8) (v u : Value) (out : List UInt8) : Prop where
  le : at_ ≤ t.length
  fd : FD w g r T c t (min at_ (t.length - 3))
  wr : WR w h base pk run v u
  rl : run.length ≤ 127
  oo : pk ++ encs (cn t at_ run) = out
  below : Below w0.heap.size w0 w
  gb : g < base
  rb : r < base
  b0 : w0.heap.size ≤ base
  g0 : w0.heap.size ≤ g
  r0 : w0.heap.size ≤ r
theorem PR.pk_le {w0 w : World} {g r c h base at_ : Nat} {T : Option Addr} {t pk run out : List UInt8} {v u : Value} (H : PR w0 w g r T c t h base at_ pk run v u out) (ho : out.length ≤ 2000000) : pk.length ≤ 2000000 := by
  have := congrArg List.length H.oo
  rw [List.length_append] at this
  omega
set_option maxHeartbeats 4000000 in
set_option maxRecDepth 100000 in
theorem packWith_any (w : World) (D : Option Addr) (dict : List UInt8) (dc : Nat) (A : Option Addr) (b : List UInt8) (bc : Nat) (hd : RB w w.heap.size D dict) (hb : RB w w.heap.size A b) (hdl : dict.length ≤ 4096) (hdc : dict.length ≤ dc) (hbl : b.length ≤ 1048576) :
    Calls Try.prog 14 #[.slice D dict.length dc, .slice A b.length bc] w fun e w' => ∃ v, e = .returned (.tuple #[v, .int .i64 0]) ∧ OB 5 w' w.heap.size v (packF dict b) ∧ Below w.heap.size w w' := by
  have hpl := pack_len dict b hbl
  have hpf : packF dict b = encs (cn (dict ++ b) dict.length []) := by unfold packF; rw [reachF_small hdl]
  obtain ⟨out, hout⟩ : ∃ out, packF dict b = out := ⟨_, rfl⟩
  rw [hout] at hpl hpf ⊢
  have HNF := Lib.hid (newFinder_any w D dict dc A b bc hd hb hdl hbl)
  have HPF := Lib.hid hpf
  have HPL := Lib.hid hpl
  have HTL : Hid ((dict ++ b).length ≤ 2000000) := Lib.hid (by simp; omega)
  have HDT : Hid (dict.length ≤ (dict ++ b).length) := Lib.hid (by simp)
  obtain ⟨n, hn⟩ : ∃ n, dict.length = n := ⟨_, rfl⟩
  obtain ⟨m, hm⟩ : ∃ m, b.length = m := ⟨_, rfl⟩
  rw [hn] at hdl hdc HNF HPF HDT ⊢
  rw [hm] at hbl HNF ⊢
  have HRE := Lib.hid (fun W => reach_any D n dc W hdc hdl)
  have g1 : ¬ (n : Int) > 1048576 := by omega
  have g2 : ¬ (m : Int) > 1048576 := by omega
  clear hd hb hn hm hpl hpf hout
  obtain ⟨t, ht⟩ : ∃ t, dict ++ b = t := ⟨_, rfl⟩
  rw [ht] at HNF HPF HTL HDT
  clear ht
  go_enter Try.func14, Try.ntmps14
  go_wp2_with (first | (go_at_call 29; refine (HRE.out _).mono ?_; rintro e V ⟨rfl, hv⟩; subst V) | (go_at_call 30; refine HNF.out.mono ?_; rintro e W1 ⟨g, r, T, c, rfl, hfd, hgg, hrr, hbel⟩; have HFD := Lib.hid hfd; have HBL := Lib.hid hbel; have HGR := Lib.hid (And.intro hgg hrr); clear hfd hbel hgg hrr))
  have HP0 : Hid (PR w (W1.alloc (.cells #[.slice none 0 0, .slice none 0 0] 65)) g r T c t W1.heap.size W1.heap.size n [] [] (.slice none 0 0) (.slice none 0 0) out) := Lib.hid (by
    have hfd := HFD.out
    have hgl := hfd.lt
    have hm0 : Mod W1 (W1.alloc (.cells #[.slice none 0 0, .slice none 0 0] 65)) (fun k => W1.heap.size ≤ k) := (Mod.refl _ _).alloc _
    exact ⟨HDT.out, hfd.mod hm0 (fun k hk hs => by omega), ⟨Blk.new _ _ _, OB.nil _ _ _, OB.nil _ _ _, (fun k hk => by cases hk), Nat.le_refl _⟩, by simp, by rw [List.nil_append]; exact HPF.out.symm, HBL.out.alloc HBL.out.size _, hgl.1, hgl.2, HBL.out.size, HGR.out.1, HGR.out.2⟩)
  obtain ⟨hh, hhe⟩ : ∃ hh, hh = W1.heap.size := ⟨_, rfl⟩
  rw [← hhe] at HP0 ⊢
  obtain ⟨WA, hWA⟩ : ∃ WA, WA = W1.alloc (.cells #[.slice none 0 0, .slice none 0 0] 65) := ⟨_, rfl⟩
  rw [← hWA] at HP0 ⊢
  clear hWA hhe HFD HBL HGR HNF HPF HDT
  go_loopw [9] (fun i wr => ∃ (at_ : Nat) (pk run : List UInt8) (v u : Value), i = .int .i64 (at_ : Int) ∧ PR w wr g r T c t hh hh at_ pk run v u out) (fun i _ => t.length - (intOf i).toNat)
  case atStart => exact ⟨n, [], [], _, _, rfl, HP0.out⟩
  case round =>
    obtain ⟨at_, pk, run, v, u, rfl, hP⟩ := hrel
    have HP := Lib.hid hP
    have c0 : wr.cell? ⟨g, 0, none⟩ = some (.slice T t.length c) := hP.fd.cell0
    have hle := hP.le
    clear hP HP0
    by_cases hat : at_ < t.length
    · have g3 : (at_ : Int) < (t.length : Int) := by omega
      have HLO := Lib.hid (longest_any g r T c t wr at_ hat HP.out.fd)
      by_cases h4 : 4 ≤ (bst t at_).1
      · have hb4 := bst_le t at_
        have hbp := bst_pos (t := t) (at_ := at_) (by omega)
        obtain ⟨d, hd⟩ : ∃ d, (bst t at_).2 = d := ⟨_, rfl⟩
        obtain ⟨k, hk⟩ : ∃ k, (bst t at_).1 = k := ⟨_, rfl⟩
        rw [hd, hk] at hbp
        rw [hk] at hb4 h4
        have HDK := Lib.hid (And.intro hd hk)
        clear hd hk
        have g4 : ¬ (k : Int) < 4 := by omega
        have htl := HTL.out
        have w5 : IntKind.i64.wrap ((at_ : Int) + (k : Int)) = ((at_ + k : Nat) : Int) := by rw [IntKind.wrap_i64]; omega
        go_wp2_with (first
          | (go_at_call 31; refine HLO.out.mono ?_; rintro e V ⟨d', m', rfl, hfo, hb2⟩; obtain ⟨hm', hd'⟩ := hfo.1 (by rw [HDK.out.2]; exact h4); rw [HDK.out.2] at hm'; rw [HDK.out.1] at hd'; subst m'; subst d'; have HV := Lib.hid hb2; clear hb2 hfo)
          | (go_at_call 33; refine (match_any V hh hh pk run v u d k (HP.out.wr.mod (Mod.of_new HV.out (fun _ => False)) (fun _ _ _ h => h)) (by have := HP.out.pk_le HPL.out; omega) HP.out.rl ⟨hbp.1, hbp.2.1, h4, hb4.1⟩).mono ?_; rintro e V2 ⟨rfl, hw2, hb3⟩; have HW2 := Lib.hid hw2; have HV2 := Lib.hid hb3; have HFD2 : Hid (FD V2 g r T c t (min at_ (t.length - 3))) := Lib.hid ((HP.out.fd.below HV.out).mod (Mod.of_below hb3) (fun j hj hs => by have := HP.out.gb; have := HP.out.rb; omega)); clear hw2 hb3)
          | (go_at_call 34; refine (learn_any g r T c t V2 at_ (at_ + k) (by omega) (by omega) HFD2.out).mono ?_; rintro e V3 ⟨rfl, hf3, hm3⟩; have HF3 := Lib.hid hf3; have HM3 := Lib.hid hm3; clear hf3 hm3))
        go_roundw
        case rel =>
          obtain ⟨v', u', hW⟩ := HW2.out
          have hP := HP.out
          refine ⟨at_ + k, pk ++ encs (flush run ++ [.mch d k]), [], v', u', by go_num, ⟨by omega, HF3.out, hW.mod HM3.out (fun j hj _ hs => ?_), by simp, ?_, ?_, hP.gb, hP.rb, hP.b0, hP.g0, hP.r0⟩⟩
          · have := hP.gb; have := hP.rb; omega
          · have ho := hP.oo
            rw [cn_match hat (by rw [HDK.out.2]; exact h4), HDK.out.1, HDK.out.2] at ho
            rw [← ho, List.append_assoc, ← encs_app, List.append_assoc]
            rfl
          · exact ((hP.below.trans (HV.out.mono hP.below.size)).trans (HV2.out.mono hP.b0)).trans (HM3.out.below (Nat.le_trans hP.below.size (Nat.le_trans HV.out.size HV2.out.size)) (fun j _ hs => by have := hP.g0; have := hP.r0; rcases hs with rfl | rfl <;> omega))
        case measure => simp [intOf] <;> omega
      · have htl := HTL.out
        obtain ⟨bt, offt, rfl, hbt, hct⟩ := rb_byt HP.out.fd.txt hat
        obtain ⟨cc, hcc⟩ : ∃ cc, t.getD at_ 0 = cc := ⟨_, rfl⟩
        have hcell : wr.cell? ⟨bt, offt + at_, none⟩ = some (.int .u8 (cc.toNat : Int)) := by rw [hct at_ hat, ← hcc]; rfl
        have HCC := Lib.hid hcc
        clear hct hcc
        have w5 : IntKind.i64.wrap ((at_ : Int) + 1) = ((at_ + 1 : Nat) : Int) := by rw [IntKind.wrap_i64]; omega
        have p0 : (0 : Int) ≤ (at_ : Int) := by omega
        go_wp2_with (first
          | (go_at_call 31; refine HLO.out.mono ?_; rintro e V ⟨d', m', rfl, hfo, hb2⟩; have hm4 := hfo.2 h4; have g4 : (m' : Int) < 4 := (by omega); have HV := Lib.hid hb2; have c1 : V.cell? ⟨g, 0, none⟩ = some (.slice (some ⟨bt, offt, none⟩) t.length c) := (HP.out.fd.below hb2).cell0; have c2 : V.cell? ⟨bt, offt + at_, none⟩ = some (.int .u8 (cc.toNat : Int)) := (hb2.cell (p := ⟨bt, offt + at_, none⟩) hbt).trans hcell; clear hb2 hfo)
          | (go_at_call 32; refine (literal_any V hh hh pk run v u cc (HP.out.wr.mod (Mod.of_new HV.out (fun _ => False)) (fun _ _ _ h => h)) (by have := HP.out.pk_le HPL.out; omega) HP.out.rl).mono ?_; rintro e V2 ⟨rfl, hw2, hb3⟩; have HW2 := Lib.hid hw2; have HV2 := Lib.hid hb3; have HFD2 : Hid (FD V2 g r (some ⟨bt, offt, none⟩) c t (min at_ (t.length - 3))) := Lib.hid ((HP.out.fd.below HV.out).mod (Mod.of_below hb3) (fun j hj hs => by have := HP.out.gb; have := HP.out.rb; omega)); clear hw2 hb3)
          | (go_at_call 34; refine (learn_any g r _ c t V2 at_ (at_ + 1) (by omega) (by omega) HFD2.out).mono ?_; rintro e V3 ⟨rfl, hf3, hm3⟩; have HF3 := Lib.hid hf3; have HM3 := Lib.hid hm3; clear hf3 hm3))
        go_roundw
        case rel =>
          have hP := HP.out
          have hbl : Below w.heap.size w V3 := ((hP.below.trans (HV.out.mono hP.below.size)).trans (HV2.out.mono hP.b0)).trans (HM3.out.below (Nat.le_trans hP.below.size (Nat.le_trans HV.out.size HV2.out.size)) (fun j _ hs => by have := hP.g0; have := hP.r0; rcases hs with rfl | rfl <;> omega))
          have hmo : ∀ j, hh ≤ j → j < V2.heap.size → ¬ (j = g ∨ j = r) := fun j hj _ hs => by have := hP.gb; have := hP.rb; omega
          rcases HW2.out with ⟨h128, v', u', hW⟩ | ⟨h128, v', u', hW⟩
          · refine ⟨at_ + 1, pk ++ encs [.lit (run ++ [cc])], [], v', u', by go_num, ⟨by omega, HF3.out, hW.mod HM3.out hmo, by simp, ?_, hbl, hP.gb, hP.rb, hP.b0, hP.g0, hP.r0⟩⟩
            have ho := hP.oo
            rw [cn_full hat h4 h128, HCC.out] at ho
            rw [← ho, List.append_assoc, ← encs_app]
            rfl
          · refine ⟨at_ + 1, pk, run ++ [cc], v', u', by go_num, ⟨by omega, HF3.out, hW.mod HM3.out hmo, by have := hP.rl; simp; omega, ?_, hbl, hP.gb, hP.rb, hP.b0, hP.g0, hP.r0⟩⟩
            have ho := hP.oo
            rw [cn_lit hat h4 h128, HCC.out] at ho
            exact ho
        case measure => simp [intOf] <;> omega
    · have g3 : ¬ (at_ : Int) < (t.length : Int) := by omega
      go_wp2_with (go_at_call 35; refine (endRun_any wr hh hh pk run v u HP.out.wr (by have := HP.out.pk_le HPL.out; omega) (by have := HP.out.rl; omega)).mono ?_; rintro e V ⟨rfl, ⟨v', u', hw2⟩, hb3⟩; have HW2 := Lib.hid hw2; have HV2 := Lib.hid hb3; have c3 : V.cell? ⟨hh, 0, none⟩ = some v' := hw2.cell0; clear hw2 hb3)
      refine bodyPost_ret (results_tmp2' rfl _ _ _) rfl ?_
      have hP := HP.out
      refine ⟨v', rfl, ?_, hP.below.trans (HV2.out.mono hP.b0)⟩
      have ho := hP.oo
      rw [cn_end (by omega)] at ho
      rw [← ho]
      exact HW2.out.pk.base0 hP.b0
end Go.Proofs.Ytocohoojnjdkiaa
