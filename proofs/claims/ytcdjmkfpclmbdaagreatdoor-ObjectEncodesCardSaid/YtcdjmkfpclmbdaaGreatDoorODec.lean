/- object: the walk of Decode. -/
import Derived.Test.YtcdjmkfpclmbdaaGreatDoorODecM
import Derived.Test.YtcdjmkfpclmbdaaGreatDoorOParse
set_option linter.unusedVariables false
namespace Go.Proofs.YtcdjmkfpclmbdaaGreatDoor
open Go.RowKit

/-- Block r is a Reader of l: what is left, the error. -/
def RD (w : World) (r : Nat) (l : List UInt8) (st : List UInt8 × Nat) (V : World) : Prop := w.heap.size ≤ r ∧ l.length ≤ 1000000 ∧ ∃ v at_, Cod.IsR V r v l at_ st.2 ∧ l.drop at_ = st.1
theorem RD.alloc {w V : World} {r : Nat} {l : List UInt8} {st : List UInt8 × Nat} (h : RD w r l st V) (o : Obj) : RD w r l st (V.alloc o) := by
  obtain ⟨h1, h2, v, a, h3, h4⟩ := h; exact ⟨h1, h2, v, a, h3.alloc o, h4⟩
theorem RD.under {w V V' : World} {r : Nat} {l : List UInt8} {st : List UInt8 × Nat} (h : RD w r l st V) (hb : Below V.heap.size V V') : RD w r l st V' := by
  obtain ⟨h1, h2, v, a, h3, h4⟩ := h
  exact ⟨h1, h2, v, a, h3.mod (Mod.of_below hb) (fun k hk => by have := h3.foot_lt k hk; omega), h4⟩
theorem RD.ne {w V : World} {r g : Nat} {l : List UInt8} {st : List UInt8 × Nat} {t : TypeId} {cs : Array Value} (h : RD w r l st V) (hb : Blk V g t cs) (ht : t ≠ 120) : g ≠ r := by
  obtain ⟨_, _, v, a, h3, _⟩ := h
  rintro rfl
  have e := hb.symm.trans h3.1
  injection e with e; injection e with _ e
  exact ht e
theorem RD.set_ {w V : World} {r g : Nat} {l : List UInt8} {st : List UInt8 × Nat} {t : TypeId} {cs : Array Value} (h : RD w r l st V) (hb : Blk V g t cs) (ht : t ≠ 120) (h8 : 5 ≠ t) (j : Nat) (u : Value) : RD w r l st (V.setCell ⟨g, j, none⟩ u) := by
  have hne := h.ne hb ht
  obtain ⟨h1, h2, v, a, h3, h4⟩ := h
  refine ⟨h1, h2, v, a, ⟨h3.1.far (p := ⟨g, j, none⟩) (fun e => hne e.symm) u, ?_, h3.2.2⟩, h4⟩
  exact h3.2.1.mod ((Mod.refl V (· = g)).setCell (p := ⟨g, j, none⟩) (fun _ => rfl) u) (fun k hk e => (h3.2.1.ne_blk hb h8) (by rw [hk, e]))
theorem rd_num {w V : World} {r : Nat} {l : List UInt8} {st : List UInt8 × Nat} (most : Int) (h : RD w r l st V) :
    Calls Tryz.prog 63 #[.pointer (some ⟨r, 0, none⟩), .int .i64 most] V fun e w' => e = .returned (.int .i64 (pn true most st).1) ∧ RD w r l (pn true most st).2 w' ∧ Mod V w' (· = r) := by
  obtain ⟨h1, h2, v, a, h3, h4⟩ := h
  refine (Cod.numberR_any V r v l a st.2 most h3 (by omega)).mono ?_
  rintro e w' ⟨he, hr, hm⟩
  rw [h4] at he hr
  obtain ⟨r0, e0⟩ := st
  simp only at h3 h4 he hr
  subst h4
  by_cases hz : e0 = 0
  · subst hz
    rw [Cod.rat0, Cod.rerr0] at hr
    rw [if_neg (by simp)] at he
    have hp := Cod.pNum_err most (l.drop a)
    have e1 : pn true most (l.drop a, 0) = if (Cod.pNum most (l.drop a)).2.2 ≠ 0 then (0, (l.drop a, (Cod.pNum most (l.drop a)).2.2)) else ((Cod.pNum most (l.drop a)).1, ((l.drop a).drop (Cod.pNum most (l.drop a)).2.1, 0)) := by
      unfold pn; rw [if_pos rfl, if_neg (by simp)]
    rw [e1]
    by_cases hx : (Cod.pNum most (l.drop a)).2.2 = 0
    · rw [if_neg (by simpa using hx)] at hr ⊢
      rw [hx] at hr
      exact ⟨he, ⟨h1, h2, v, _, hr, by rw [List.drop_drop]⟩, hm⟩
    · rw [if_pos hx] at hr ⊢
      rw [hp hx] at he
      exact ⟨he, ⟨h1, h2, v, _, hr, rfl⟩, hm⟩
  · rw [Cod.rat1 _ _ _ hz, Cod.rerr1 _ hz] at hr
    rw [if_pos hz] at he
    have e1 : pn true most (l.drop a, e0) = (0, (l.drop a, e0)) := by unfold pn; rw [if_pos rfl, if_pos hz]
    rw [e1]
    exact ⟨he, ⟨h1, h2, v, _, hr, rfl⟩, hm⟩
theorem rd_txt {w V : World} {r : Nat} {l : List UInt8} {st : List UInt8 × Nat} (most : Int) (h : RD w r l st V) :
    Calls Tryz.prog 64 #[.pointer (some ⟨r, 0, none⟩), .int .i64 most] V fun e w' => e = .returned (.string (sv (pt true most st).1)) ∧ RD w r l (pt true most st).2 w' ∧ Mod V w' (· = r) := by
  obtain ⟨h1, h2, v, a, h3, h4⟩ := h
  refine (Cod.textR_any V r v l a st.2 most h3 (by omega)).mono ?_
  rintro e w' ⟨he, hr, hm⟩
  rw [h4] at he hr
  obtain ⟨r0, e0⟩ := st
  simp only at h3 h4 he hr
  subst h4
  by_cases hz : e0 = 0
  · subst hz
    rw [Cod.rat0, Cod.rerr0] at hr
    rw [if_neg (by simp)] at he
    have hp := Cod.pText_err most (l.drop a)
    have e1 : pt true most (l.drop a, 0) = if (Cod.pText most (l.drop a)).2.2 ≠ 0 then ([], (l.drop a, (Cod.pText most (l.drop a)).2.2)) else ((Cod.pText most (l.drop a)).1, ((l.drop a).drop (Cod.pText most (l.drop a)).2.1, 0)) := by
      unfold pt; rw [if_pos rfl, if_neg (by simp)]
    rw [e1]
    by_cases hx : (Cod.pText most (l.drop a)).2.2 = 0
    · rw [if_neg (by simpa using hx)] at hr ⊢
      rw [hx] at hr
      exact ⟨he, ⟨h1, h2, v, _, hr, by rw [List.drop_drop]⟩, hm⟩
    · rw [if_pos hx] at hr ⊢
      rw [hp hx] at he
      exact ⟨he, ⟨h1, h2, v, _, hr, rfl⟩, hm⟩
  · rw [Cod.rat1 _ _ _ hz, Cod.rerr1 _ hz] at hr
    rw [if_pos hz] at he
    have e1 : pt true most (l.drop a, e0) = ([], (l.drop a, e0)) := by unfold pt; rw [if_pos rfl, if_pos hz]
    rw [e1]
    exact ⟨he, ⟨h1, h2, v, _, hr, rfl⟩, hm⟩
def clE (st : List UInt8 × Nat) : Nat := if st.2 ≠ 0 then st.2 else if st.1 = [] then 0 else 5
theorem rd_close {w V : World} {r : Nat} {l : List UInt8} {st : List UInt8 × Nat} (h : RD w r l st V) :
    Calls Tryz.prog 65 #[.pointer (some ⟨r, 0, none⟩)] V fun e w' => e = .returned (.int .i64 (clE st : Nat)) ∧ ∃ n, w' = V.drewN n := by
  obtain ⟨h1, h2, v, a, h3, h4⟩ := h
  refine (Cod.closeR_any V r v l a st.2 h3 (by omega)).mono ?_
  rintro e w' ⟨he, hd⟩
  refine ⟨?_, hd⟩
  rw [he]
  have : (if st.2 ≠ 0 then st.2 else if a < l.length then 5 else 0) = clE st := by
    unfold clE
    rw [← h4]
    have e : (if a < l.length then 5 else 0) = (if l.drop a = [] then 0 else 5) := by
      by_cases ha : a < l.length
      · rw [if_pos ha, if_neg (fun e => by have := congrArg List.length e; rw [List.length_drop, List.length_nil] at this; omega)]
      · rw [if_neg ha, if_pos (List.drop_eq_nil_of_le (by omega))]
    rw [e]
  rw [this]

/-- Decode's blocks: its result, the name, the kind, the Reader. -/
def DK (w : World) (g : Nat) (cs us : Array Value) (r : Nat) (l : List UInt8) (st : List UInt8 × Nat) (V : World) : Prop := RK w g cs us V ∧ RD w r l st V
theorem DK.bel {w : World} {g r : Nat} {cs us : Array Value} {l : List UInt8} {st : List UInt8 × Nat} {V : World} (h : DK w g cs us r l st V) : Below w.heap.size w V := h.1.bel
theorem DK.under {w : World} {g r : Nat} {cs us : Array Value} {l : List UInt8} {st : List UInt8 × Nat} {V V' : World} (h : DK w g cs us r l st V) (hb : Below V.heap.size V V') : DK w g cs us r l st V' := ⟨h.1.under hb, h.2.under hb⟩
theorem DK.set_ {w : World} {g r : Nat} {cs us : Array Value} {l : List UInt8} {st : List UInt8 × Nat} {V : World} (h : DK w g cs us r l st V) (j : Nat) (u : Value) : DK w g (cs.setIfInBounds j u) us r l st (V.setCell ⟨g, j, none⟩ u) :=
  ⟨h.1.set_ j u, h.2.set_ h.1.2.1 (by decide) (by decide) j u⟩
theorem DK.step {w : World} {g r : Nat} {cs us : Array Value} {l : List UInt8} {st st' : List UInt8 × Nat} {V V' : World} (h : DK w g cs us r l st V) (h' : RD w r l st' V') (hm : Mod V V' (· = r)) : DK w g cs us r l st' V' :=
  ⟨⟨h.1.1.mod hm (h.2.ne h.1.1 (by decide)), h.1.2.1.mod hm (h.2.ne h.1.2.1 (by decide)), h.1.2.2.1.mod hm (h.2.ne h.1.2.2.1 (by decide)), h.1.2.2.2.1.trans (hm.below h.1.2.2.2.1.size fun i _ hi => by rw [hi]; exact h.2.1), h.1.2.2.2.2⟩, h'⟩
theorem dk_num {w : World} {g r : Nat} {cs us : Array Value} {l : List UInt8} {st : List UInt8 × Nat} {V : World} (most : Int) (h : DK w g cs us r l st V) :
    Calls Tryz.prog 63 #[.pointer (some ⟨r, 0, none⟩), .int .i64 most] V fun e w' => e = .returned (.int .i64 (pn true most st).1) ∧ DK w g cs us r l (pn true most st).2 w' :=
  (rd_num most h.2).mono fun e w' x => ⟨x.1, h.step x.2.1 x.2.2⟩
theorem dk_txt {w : World} {g r : Nat} {cs us : Array Value} {l : List UInt8} {st : List UInt8 × Nat} {V : World} (most : Int) (h : DK w g cs us r l st V) :
    Calls Tryz.prog 64 #[.pointer (some ⟨r, 0, none⟩), .int .i64 most] V fun e w' => e = .returned (.string (sv (pt true most st).1)) ∧ DK w g cs us r l (pt true most st).2 w' :=
  (rd_txt most h.2).mono fun e w' x => ⟨x.1, h.step x.2.1 x.2.2⟩
theorem DK.drewN {w : World} {g r : Nat} {cs us : Array Value} {l : List UInt8} {st : List UInt8 × Nat} {V : World} (h : DK w g cs us r l st V) (n : Nat) : DK w g cs us r l st (V.drewN n) :=
  h.under (below_drewN (Below.refl _ V) n)

theorem conv_bytes (S : ByteArray) (W : World) : ∃ cap V, (convert 9 53 (.string S)).run Tryz.prog W = .ok (.slice (some ⟨W.heap.size, 0, none⟩) S.data.toList.length cap) V ∧ Below W.heap.size W V ∧ RB V V.heap.size (some ⟨W.heap.size, 0, none⟩) S.data.toList := by
  have h := Lib.run_convert_string_bytes (P := Tryz.prog) W 9 53 5 S Tryz.underlying9 Tryz.underlying53 (by kernel_rfl)
  have hl : S.data.toList.length = S.size := by simp
  rw [← hl] at h
  refine ⟨_, _, h, Lib.bytesWorld_below _ _ _, fun _ => ⟨_, _, rfl, by rw [Lib.bytesWorld_size]; omega, fun j c hj => ?_⟩⟩
  have hj2 : j < S.data.toList.length := (List.getElem?_eq_some_iff.1 hj).1
  rw [Nat.zero_add, Lib.bytesWorld_cell _ _ _ _ (by omega)]
  have e : S.data.toList.getD j 0 = c := by rw [List.getD_eq_getElem?_getD, hj]; rfl
  rw [e]

set_option maxHeartbeats 8000000 in
set_option maxRecDepth 100000 in
theorem decode_gen (S : ByteArray) (k m C E : Nat) (b1 b2 b3 b4 : Bool) (U O1 T1 : ByteArray) (N1 I1 : Int) (st0 st1 st2 st3 st4 : List UInt8 × Nat) (w : World) (res : Array Value) (hS : S.size ≤ 1000000)
    (hN0 : pn true 20 (S.data.toList, 0) = ((k : Int), st0)) (h20 : k ≤ 20)
    (hu : ∀ W, Below w.heap.size w W → W.rangeAt 0 (k * 6) (usL U b1 b2 b3 b4 m))
    (hO : pt b1 16777216 st0 = (O1.data.toList, st1)) (hN : pn b2 1073741824 st1 = (N1, st2)) (hI : pn b3 (m : Int) st2 = (I1, st3)) (hT : pt b4 32 st3 = (T1.data.toList, st4)) (hC : C = clE st4)
    (hCk : ∀ W, Below w.heap.size w W → Calls Tryz.prog 54 #[nmV k O1 N1 I1 T1] W fun r w' => r = .returned (.int .i64 (E : Int)) ∧ Below W.heap.size W w')
    (hres : (((C : Int) != 0) = true ∧ res = #[nmV 0 ⟨#[]⟩ 0 0 ⟨#[]⟩, .int .i64 3]) ∨ (((C : Int) != 0) = false ∧ ((E : Int) != 0) = true ∧ res = #[nmV 0 ⟨#[]⟩ 0 0 ⟨#[]⟩, .int .i64 3]) ∨ (((C : Int) != 0) = false ∧ ((E : Int) != 0) = false ∧ res = #[nmV k O1 N1 I1 T1, .int .i64 0])) :
    Calls Tryz.prog 23 #[.string S] w fun e w' => e = .returned (.tuple res) ∧ Below w.heap.size w w' := by
  obtain ⟨l, hl⟩ : ∃ l, l = S.data.toList := ⟨_, rfl⟩
  have hll : l.length ≤ 1000000 := by rw [hl]; simpa using hS
  obtain ⟨cap, VC, hrun, hbc, hrb⟩ := conv_bytes S (w.alloc (.cells (nmC 0 ⟨#[]⟩ 0 0 ⟨#[]⟩) 28))
  rw [← hl] at hN0 hrun hrb
  have ew : (w.alloc (.cells (nmC 0 ⟨#[]⟩ 0 0 ⟨#[]⟩) 28)).heap.size = w.heap.size + 1 := by simp
  rw [ew] at hrun
  have HB0 := Lib.hid hbc
  have HNR : Hid (Calls Tryz.prog 62 #[.slice (some ⟨w.heap.size + 1, 0, none⟩) l.length cap] VC fun e w' => ∃ r, e = .returned (.pointer (some ⟨r, 0, none⟩)) ∧ RD (w.alloc (.cells (nmC 0 ⟨#[]⟩ 0 0 ⟨#[]⟩) 28)) r l (l, 0) w' ∧ Below VC.heap.size VC w') := Lib.hid (by
    rw [ew] at hrb
    refine (Cod.newReader_any _ l cap VC hrb (by omega)).mono ?_
    rintro e w' ⟨r, v, he, hi, hf, hb⟩
    exact ⟨r, he, ⟨Nat.le_trans hbc.size (hf r (.inl rfl)), hll, v, 0, hi, by simp⟩, hb⟩)
  have HNK : Hid (∀ r V, RD (w.alloc (.cells (nmC 0 ⟨#[]⟩ 0 0 ⟨#[]⟩) 28)) r l (l, 0) V → Calls Tryz.prog 63 #[.pointer (some ⟨r, 0, none⟩), .int .i64 20] V fun e w' => e = .returned (.int .i64 (k : Int)) ∧ RD (w.alloc (.cells (nmC 0 ⟨#[]⟩ 0 0 ⟨#[]⟩) 28)) r l st0 w' ∧ Mod V w' (· = r)) := Lib.hid fun r V h => by
    have := rd_num 20 h
    rw [hN0] at this
    exact this
  have H1 : Hid (b1 = true → ∀ g cs us r V, DK w g cs us r l st0 V → Calls Tryz.prog 64 #[.pointer (some ⟨r, 0, none⟩), .int .i64 16777216] V fun e w' => e = .returned (.string O1) ∧ DK w g cs us r l st1 w') := Lib.hid fun hb g cs us r V h => by
    have := dk_txt 16777216 h
    rw [hb] at hO
    rw [hO, sv_back] at this
    exact this
  have H1F : Hid (b1 = false → O1 = ⟨#[]⟩ ∧ st1 = st0) := Lib.hid fun hb => by
    rw [hb] at hO
    have e : pt false 16777216 st0 = ([], st0) := rfl
    rw [e] at hO
    injection hO with a b
    exact ⟨by rw [← sv_back O1, ← a], b.symm⟩
  have H2 : Hid (b2 = true → ∀ g cs us r V, DK w g cs us r l st1 V → Calls Tryz.prog 63 #[.pointer (some ⟨r, 0, none⟩), .int .i64 1073741824] V fun e w' => e = .returned (.int .i64 N1) ∧ DK w g cs us r l st2 w') := Lib.hid fun hb g cs us r V h => by
    have := dk_num 1073741824 h
    rw [hb] at hN
    rw [hN] at this
    exact this
  have H2F : Hid (b2 = false → N1 = 0 ∧ st2 = st1) := Lib.hid fun hb => by
    rw [hb] at hN
    have e : pn false 1073741824 st1 = (0, st1) := rfl
    rw [e] at hN
    injection hN with a b
    exact ⟨a.symm, b.symm⟩
  have H3 : Hid (b3 = true → ∀ g cs us r V, DK w g cs us r l st2 V → Calls Tryz.prog 63 #[.pointer (some ⟨r, 0, none⟩), .int .i64 (m : Int)] V fun e w' => e = .returned (.int .i64 I1) ∧ DK w g cs us r l st3 w') := Lib.hid fun hb g cs us r V h => by
    have := dk_num (m : Int) h
    rw [hb] at hI
    rw [hI] at this
    exact this
  have H3F : Hid (b3 = false → I1 = 0 ∧ st3 = st2) := Lib.hid fun hb => by
    rw [hb] at hI
    have e : pn false (m : Int) st2 = (0, st2) := rfl
    rw [e] at hI
    injection hI with a b
    exact ⟨a.symm, b.symm⟩
  have H4 : Hid (b4 = true → ∀ g cs us r V, DK w g cs us r l st3 V → Calls Tryz.prog 64 #[.pointer (some ⟨r, 0, none⟩), .int .i64 32] V fun e w' => e = .returned (.string T1) ∧ DK w g cs us r l st4 w') := Lib.hid fun hb g cs us r V h => by
    have := dk_txt 32 h
    rw [hb] at hT
    rw [hT, sv_back] at this
    exact this
  have H4F : Hid (b4 = false → T1 = ⟨#[]⟩ ∧ st4 = st3) := Lib.hid fun hb => by
    rw [hb] at hT
    have e : pt false 32 st3 = ([], st3) := rfl
    rw [e] at hT
    injection hT with a b
    exact ⟨by rw [← sv_back T1, ← a], b.symm⟩
  have HCL : Hid (∀ g cs us r V, DK w g cs us r l st4 V → Calls Tryz.prog 65 #[.pointer (some ⟨r, 0, none⟩)] V fun e w' => e = .returned (.int .i64 (C : Int)) ∧ DK w g cs us r l st4 w') := Lib.hid fun g cs us r V h => by
    refine (rd_close h.2).mono ?_
    rintro e w' ⟨he, n, rfl⟩
    rw [← hC] at he
    exact ⟨he, h.drewN n⟩
  have HCK := Lib.hid hCk
  have HRES := Lib.hid hres
  have HU := Lib.hid hu
  have HI5 := Lib.hid infoName
  have H1C := Lib.hid nm_one
  have g3 : (k : Int) < 21 := by omega
  clear hN0 hu hO hN hI hT hC hCk hres hbc hrb ew hll h20 hS
  obtain ⟨NL, hNL⟩ : ∃ n, n = l.length := ⟨_, rfl⟩
  rw [← hNL] at hrun HNR
  have HNL := Lib.hid hNL
  have HL := Lib.hid hl
  clear hNL hl
  go_enter Tryz.func23, Tryz.ntmps23
  go_upto_region 4 with (first
    | (go_at_call 62; refine HNR.out.mono ?_; rintro e V1 ⟨r, rfl, hr, hb⟩; have HRD := Lib.hid hr; replace HB0 := Lib.hid (HB0.out.trans (hb.mono HB0.out.size)); clear hr hb)
    | (go_at_call 63; refine (HNK.out r _ HRD.out).mono ?_; rintro e V2 ⟨rfl, hr, hm⟩; replace HB0 := Lib.hid (HB0.out.trans (hm.below HB0.out.size fun i _ hi => by rw [hi]; exact HRD.out.1)); replace HRD := Lib.hid hr; clear hr hm)
    | (show wpList _ _ _ (⟨some 16, _, _, _, _, _⟩ :: _) _ _; refine wpList_load_mid (by rfl) 69 (.tmp 15) (by rfl) 0 (k * 6) (by rfl) (usL U _ _ _ _ m) _ (HU.out _ (((below_alloc0 w _ (Nat.le_refl _)).trans (HB0.out.mono (by simp))).alloc ((below_alloc0 w _ (Nat.le_refl _)).trans (HB0.out.mono (by simp))).size _)) Tryz.underlying69 rfl infoUse ?_))
  refine cwp_gen (DK w V2.heap.size (nmC k ⟨#[]⟩ 0 0 ⟨#[]⟩) (usC U b1 b2 b3 b4 m) r l st0) ⟨rk_new HB0.out, Nat.le_trans (by simp) HRD.out.1, (HRD.out.alloc _).alloc _ |>.2⟩ ?_
  intro V hV
  have HV := Lib.hid hV
  clear hV HB0 HRD hrun HNR HNK
  generalize V2.heap.size = g at HV ⊢
  have u1 := HV.out.1.2.2.1.cell 1
  go_upto_if 18 with fail
  go_cut [] (fun wx => DK w g (nmC k O1 0 0 ⟨#[]⟩) (usC U b1 b2 b3 b4 m) r l st1 wx)
  case first =>
    have u5 := HV.out.1.2.2.1.cell 5; have nj := HV.out.1.2.1.cell 1; have qj := HV.out.1.2.1.frozen 1
    cases b1
    · have HF := Lib.hid (H1F.out rfl)
      go_wp2
      go_meet
      case rel => rw [HF.out.1, HF.out.2]; exact HV.out
    · have HT := Lib.hid (H1.out rfl)
      go_wp2_with (go_at_call 64; refine (HT.out _ _ _ _ _ HV.out).mono ?_; rintro e V3 ⟨rfl, hd⟩; replace HV := Lib.hid hd; clear hd u1 u5 nj qj; have nj := HV.out.1.2.1.cell 1; have qj := HV.out.1.2.1.frozen 1)
      go_meet
      case rel => exact HV.out.set_ 1 (.string O1)
  case rest =>
    replace HV := Lib.hid hcut
    clear hcut u1 H1 H1F
    have u2 := HV.out.1.2.2.1.cell 2
    go_upto_if 23 with fail
    go_cut [] (fun wx => DK w g (nmC k O1 N1 0 ⟨#[]⟩) (usC U b1 b2 b3 b4 m) r l st2 wx)
    case first =>
      have u5 := HV.out.1.2.2.1.cell 5; have nj := HV.out.1.2.1.cell 2; have qj := HV.out.1.2.1.frozen 2
      cases b2
      · have HF := Lib.hid (H2F.out rfl)
        go_wp2
        go_meet
        case rel => rw [HF.out.1, HF.out.2]; exact HV.out
      · have HT := Lib.hid (H2.out rfl)
        go_wp2_with (go_at_call 63; refine (HT.out _ _ _ _ _ HV.out).mono ?_; rintro e V3 ⟨rfl, hd⟩; replace HV := Lib.hid hd; clear hd u2 u5 nj qj; have nj := HV.out.1.2.1.cell 2; have qj := HV.out.1.2.1.frozen 2)
        go_meet
        case rel => exact HV.out.set_ 2 (.int .i64 N1)
    case rest =>
      replace HV := Lib.hid hcut
      clear hcut u2 H2 H2F
      have u3 := HV.out.1.2.2.1.cell 3
      go_upto_if 28 with fail
      go_cut [] (fun wx => DK w g (nmC k O1 N1 I1 ⟨#[]⟩) (usC U b1 b2 b3 b4 m) r l st3 wx)
      case first =>
        have u5 := HV.out.1.2.2.1.cell 5; have nj := HV.out.1.2.1.cell 3; have qj := HV.out.1.2.1.frozen 3
        cases b3
        · have HF := Lib.hid (H3F.out rfl)
          go_wp2
          go_meet
          case rel => rw [HF.out.1, HF.out.2]; exact HV.out
        · have HT := Lib.hid (H3.out rfl)
          go_wp2_with (go_at_call 63; refine (HT.out _ _ _ _ _ HV.out).mono ?_; rintro e V3 ⟨rfl, hd⟩; replace HV := Lib.hid hd; clear hd u3 u5 nj qj; have nj := HV.out.1.2.1.cell 3; have qj := HV.out.1.2.1.frozen 3)
          go_meet
          case rel => exact HV.out.set_ 3 (.int .i64 I1)
      case rest =>
        replace HV := Lib.hid hcut
        clear hcut u3 H3 H3F
        have u4 := HV.out.1.2.2.1.cell 4
        go_upto_if 35 with fail
        go_cut [] (fun wx => DK w g (nmC k O1 N1 I1 T1) (usC U b1 b2 b3 b4 m) r l st4 wx)
        case first =>
          have u5 := HV.out.1.2.2.1.cell 5; have nj := HV.out.1.2.1.cell 4; have qj := HV.out.1.2.1.frozen 4
          cases b4
          · have HF := Lib.hid (H4F.out rfl)
            go_wp2
            go_meet
            case rel => rw [HF.out.1, HF.out.2]; exact HV.out
          · have HT := Lib.hid (H4.out rfl)
            go_wp2_with (go_at_call 64; refine (HT.out _ _ _ _ _ HV.out).mono ?_; rintro e V3 ⟨rfl, hd⟩; replace HV := Lib.hid hd; clear hd u4 u5 nj qj; have nj := HV.out.1.2.1.cell 4; have qj := HV.out.1.2.1.frozen 4)
            go_meet
            case rel => exact HV.out.set_ 4 (.string T1)
        case rest =>
          replace HV := Lib.hid hcut
          clear hcut u4 H4 H4F
          rcases HRES.out with ⟨e1, rfl⟩ | ⟨e1, e2, rfl⟩ | ⟨e1, e2, rfl⟩
          · go_wp2_with (first
              | (go_at_call 65; refine (HCL.out _ _ _ _ _ HV.out).mono ?_; rintro e V4 ⟨rfl, hd⟩; replace HV := Lib.hid hd; clear hd; have HZ := Lib.hid HV.out.1.1.there; have n0 := HV.out.1.2.1.cell 0; have n1 := HV.out.1.2.1.cell 1; have n2 := HV.out.1.2.1.cell 2; have n3 := HV.out.1.2.1.cell 3; have n4 := HV.out.1.2.1.cell 4)
              | (show wpList _ _ _ (⟨none, _, _, _, _, _⟩ :: _) _ _; refine wpList_store_mid (by rfl) 28 (.tmp 2) (.tmp 47) (by rfl) w.heap.size 0 (nmC 0 ⟨#[]⟩ 0 0 ⟨#[]⟩) (by rfl) (by rfl) HZ.out HI5.out (H1C.out _ _ _ _ _) ?_))
            exact bodyPost_ret (results_row2 rfl _ _ w.heap.size (nmC 0 ⟨#[]⟩ 0 0 ⟨#[]⟩).toList _ rfl (World.rangeAt_setCells_same _ _ _ _ HV.out.1.1.there) Tryz.underlying28 rfl infoName) rfl ⟨rfl, below_setCells _ (Nat.le_refl _) _ _ _ HV.out.bel⟩
          · go_wp2_with (first
              | (go_at_call 65; refine (HCL.out _ _ _ _ _ HV.out).mono ?_; rintro e V4 ⟨rfl, hd⟩; replace HV := Lib.hid hd; clear hd; have HZ := Lib.hid HV.out.1.1.there; have n0 := HV.out.1.2.1.cell 0; have n1 := HV.out.1.2.1.cell 1; have n2 := HV.out.1.2.1.cell 2; have n3 := HV.out.1.2.1.cell 3; have n4 := HV.out.1.2.1.cell 4)
              | (go_at_call 54; refine (HCK.out _ HV.out.bel).mono ?_; rintro e V5 ⟨rfl, hb⟩; replace HV := Lib.hid (HV.out.under hb); clear hb n0 n1 n2 n3 n4; replace HZ := Lib.hid HV.out.1.1.there; have n0 := HV.out.1.2.1.cell 0; have n1 := HV.out.1.2.1.cell 1; have n2 := HV.out.1.2.1.cell 2; have n3 := HV.out.1.2.1.cell 3; have n4 := HV.out.1.2.1.cell 4)
              | (show wpList _ _ _ (⟨none, _, _, _, _, _⟩ :: _) _ _; refine wpList_store_mid (by rfl) 28 (.tmp 2) (.tmp 47) (by rfl) w.heap.size 0 (nmC 0 ⟨#[]⟩ 0 0 ⟨#[]⟩) (by rfl) (by rfl) HZ.out HI5.out (H1C.out _ _ _ _ _) ?_))
            exact bodyPost_ret (results_row2 rfl _ _ w.heap.size (nmC 0 ⟨#[]⟩ 0 0 ⟨#[]⟩).toList _ rfl (World.rangeAt_setCells_same _ _ _ _ HV.out.1.1.there) Tryz.underlying28 rfl infoName) rfl ⟨rfl, below_setCells _ (Nat.le_refl _) _ _ _ HV.out.bel⟩
          · go_wp2_with (first
              | (go_at_call 65; refine (HCL.out _ _ _ _ _ HV.out).mono ?_; rintro e V4 ⟨rfl, hd⟩; replace HV := Lib.hid hd; clear hd; have HZ := Lib.hid HV.out.1.1.there; have n0 := HV.out.1.2.1.cell 0; have n1 := HV.out.1.2.1.cell 1; have n2 := HV.out.1.2.1.cell 2; have n3 := HV.out.1.2.1.cell 3; have n4 := HV.out.1.2.1.cell 4)
              | (go_at_call 54; refine (HCK.out _ HV.out.bel).mono ?_; rintro e V5 ⟨rfl, hb⟩; replace HV := Lib.hid (HV.out.under hb); clear hb n0 n1 n2 n3 n4; replace HZ := Lib.hid HV.out.1.1.there; have n0 := HV.out.1.2.1.cell 0; have n1 := HV.out.1.2.1.cell 1; have n2 := HV.out.1.2.1.cell 2; have n3 := HV.out.1.2.1.cell 3; have n4 := HV.out.1.2.1.cell 4)
              | (show wpList _ _ _ (⟨none, _, _, _, _, _⟩ :: _) _ _; refine wpList_store_mid (by rfl) 28 (.tmp 2) (.tmp 48) (by rfl) w.heap.size 0 (nmC k O1 N1 I1 T1) (by rfl) (by rfl) HZ.out HI5.out (H1C.out _ _ _ _ _) ?_))
            exact bodyPost_ret (results_row2 rfl _ _ w.heap.size (nmC k O1 N1 I1 T1).toList _ rfl (World.rangeAt_setCells_same _ _ _ _ HV.out.1.1.there) Tryz.underlying28 rfl infoName) rfl ⟨rfl, below_setCells _ (Nat.le_refl _) _ _ _ HV.out.bel⟩

theorem pn_lim {m : Int} {st : List UInt8 × Nat} (hm : 0 ≤ m) : ∃ k : Nat, (pn true m st).1 = k ∧ (k : Int) ≤ m := by
  by_cases h0 : st.2 = 0
  · have e : pn true m st = if (Cod.pNum m st.1).2.2 ≠ 0 then (0, (st.1, (Cod.pNum m st.1).2.2)) else ((Cod.pNum m st.1).1, (st.1.drop (Cod.pNum m st.1).2.1, 0)) := by
      unfold pn; rw [if_pos rfl, if_neg (by simpa using h0)]
    by_cases h1 : (Cod.pNum m st.1).2.2 = 0
    · have hz : (pn true m st).2.2 = 0 := by rw [e, if_neg (by simpa using h1)]
      obtain ⟨_, k, ek, _, hk, _⟩ := pn_ok hz
      exact ⟨k, ek, hk rfl⟩
    · exact ⟨0, by rw [e, if_pos h1]; rfl, by omega⟩
  · exact ⟨0, by unfold pn; rw [if_pos rfl, if_pos h0]; rfl, by omega⟩
theorem pt_len (b : Bool) (m : Int) (st : List UInt8 × Nat) : (pt b m st).1.length ≤ st.1.length ∧ (pt b m st).2.1.length ≤ st.1.length := by
  unfold pt
  split
  · split
    · simp
    · split
      · simp
      · refine ⟨?_, by simp⟩
        show (Cod.pText m st.1).1.length ≤ _
        unfold Cod.pText
        split
        · simp
        · split
          · simp
          · split
            · simp
            · simp only [List.length_take, List.length_drop]; omega
  · simp
theorem pn_len (b : Bool) (m : Int) (st : List UInt8 × Nat) : (pn b m st).2.1.length ≤ st.1.length := by
  unfold pn
  split
  · split
    · simp
    · split
      · simp
      · simp
  · simp
set_option maxHeartbeats 1000000 in
theorem decode_any (S : ByteArray) (w : World) (hE : Env w) (hS : S.size ≤ 1000000) :
    Calls Tryz.prog 23 #[.string S] w fun e w' => e = .returned (.tuple #[vN (decN S.data.toList).1, .int .i64 ((decN S.data.toList).2 : Int)]) ∧ Below w.heap.size w w' := by
  have hl : S.data.toList.length = S.size := by simp
  obtain ⟨s, hs⟩ : ∃ s, s = S.data.toList := ⟨_, rfl⟩
  obtain ⟨k, hk, h20⟩ := pn_lim (m := 20) (st := (s, 0)) (by omega)
  obtain ⟨p, hp⟩ : ∃ p, p = pn true 20 (s, 0) := ⟨_, rfl⟩
  have l0 := pn_len true 20 (s, 0)
  rw [← hp] at hk l0
  have hk20 : k ≤ 20 := by omega
  obtain ⟨o, ho⟩ : ∃ o, o = pt (ownN k) 16777216 p.2 := ⟨_, rfl⟩
  obtain ⟨n, hn⟩ : ∃ n, n = pn (numN k) 1073741824 o.2 := ⟨_, rfl⟩
  obtain ⟨i, hi⟩ : ∃ i, i = pn (idxN k) (mostN k : Int) n.2 := ⟨_, rfl⟩
  obtain ⟨t, ht⟩ : ∃ t, t = pt (txtN k) 32 i.2 := ⟨_, rfl⟩
  have e : rdD s = (⟨k, o.1, n.1, i.1, t.1⟩, t.2) := by
    unfold rdD rdK
    rw [← hp, hk]
    simp only [Int.toNat_natCast]
    rw [← ho, ← hn, ← hi, ← ht]
  have l1 := pt_len (ownN k) 16777216 p.2
  rw [← ho] at l1
  have hds : decN S.data.toList = if t.2.2 = 0 ∧ t.2.1 = [] ∧ checkN ⟨k, o.1, n.1, i.1, t.1⟩ = 0 then (⟨k, o.1, n.1, i.1, t.1⟩, 0) else (⟨0, [], 0, 0, []⟩, 3) := by
    unfold decN; rw [← hs, e]
  rw [hds]
  have hcl : clE t.2 = 0 ↔ t.2.2 = 0 ∧ t.2.1 = [] := by
    unfold clE
    by_cases h1 : t.2.2 = 0
    · rw [if_neg (by simpa using h1)]
      by_cases h2 : t.2.1 = []
      · rw [if_pos h2]; simp [h1, h2]
      · rw [if_neg h2]; simp [h2]
    · rw [if_pos h1]; simp [h1]
  have hlo : o.1.length ≤ 1000000 := by
    have h1 : p.2.1.length ≤ s.length := l0
    have h2 := l1.1
    have h3 : s.length = S.size := by rw [hs]; exact hl
    omega
  refine decode_gen S k (mostN k) (clE t.2) (checkN ⟨k, o.1, n.1, i.1, t.1⟩) (ownN k) (numN k) (idxN k) (txtN k) (sv (wordN k)) (sv o.1) (sv t.1) n.1 i.1 p.2 o.2 n.2 i.2 t.2 w _ hS (by rw [← hs, ← hp, ← hk]) hk20 (fun W hb => (hE.below hb).use hk20)
    (by rw [sv_list, ← ho]) (by rw [← hn]) (by rw [← hi]) (by rw [sv_list, ← ht]) rfl
    (fun W hb => by
      have := check_any k n.1 i.1 (sv o.1) (sv t.1) W (hE.below hb) (by rw [sv_size]; exact hlo)
      simp only [sv_list] at this
      exact this) ?_
  by_cases h1 : clE t.2 = 0
  · have h1' := hcl.1 h1
    by_cases h2 : checkN ⟨k, o.1, n.1, i.1, t.1⟩ = 0
    · rw [if_pos ⟨h1'.1, h1'.2, h2⟩]
      exact .inr (.inr ⟨by rw [h1]; rfl, by rw [h2]; rfl, rfl⟩)
    · rw [if_neg (fun h => h2 h.2.2)]
      exact .inr (.inl ⟨by rw [h1]; rfl, by simp; omega, rfl⟩)
  · rw [if_neg (fun h => h1 (hcl.2 ⟨h.1, h.2.1⟩))]
    exact .inl ⟨by simp; omega, rfl⟩
end Go.Proofs.YtcdjmkfpclmbdaaGreatDoor
