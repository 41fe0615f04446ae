/- object: readText at any text; the walk of Parse. -/
import Derived.Test.YtcdjmkfpclmbdaaGreatDoorORead
set_option linter.unusedVariables false
namespace Go.Proofs.YtcdjmkfpclmbdaaGreatDoor
open Go.RowKit

abbrev vN (x : Nm) : Value := nmV x.kind (sv x.owner) x.num x.idx (sv x.text)
theorem rd1_len (k : Nat) (r : List UInt8) : (rd1 k r).1.length ≤ r.length ∧ (rd1 k r).2.length ≤ r.length := by
  by_cases ho : ownN k = true
  · have h := cutC_len (if numN k then 35 else 32) r
    unfold rd1
    rw [if_pos ho]
    refine ⟨?_, h.2⟩
    by_cases hz : (cutC (if numN k then 35 else 32) r).1 = [48]
    · rw [if_pos hz]; simp
    · rw [if_neg hz]; exact h.1
  · unfold rd1
    rw [if_neg ho]
    simp
theorem rd2_len (b : Bool) (r : List UInt8) : (rd2 b r).2.length ≤ r.length := by
  unfold rd2
  split
  · exact (cutC_len 32 r).2
  · exact Nat.le_refl _
theorem readText_any (S : ByteArray) (w : World) (hE : Env w) (hS : S.size ≤ 1000000) :
    Calls Tryz.prog 69 #[.string S] w fun e w' => e = .returned (vN (readN S.data.toList)) ∧ Below w.heap.size w w' := by
  have hl : S.data.toList.length = S.size := by simp
  obtain ⟨s, hs⟩ : ∃ s, s = S.data.toList := ⟨_, rfl⟩
  rw [← hs] at hl ⊢
  have l0 := cutC_len 32 s
  obtain ⟨c, hc⟩ : ∃ c, c = cutC 32 s := ⟨_, rfl⟩
  have hk20 := kindOf_le c.1
  have l1 := rd1_len (kindOf c.1) c.2
  have l2 := rd2_len (numN (kindOf c.1)) (rd1 (kindOf c.1) c.2).2
  have l3 := rd2_len (idxN (kindOf c.1)) (rd2 (numN (kindOf c.1)) (rd1 (kindOf c.1) c.2).2).2
  have er : readN s = readK (kindOf c.1) c.2 := by unfold readN; rw [← hc]
  rw [er]
  rw [← hc] at l0
  unfold readK
  refine readText_gen S (sv c.1) (sv c.2) (kindOf c.1) (mostN (kindOf c.1)) (ownN (kindOf c.1)) (numN (kindOf c.1)) (idxN (kindOf c.1)) (txtN (kindOf c.1)) (sv (wordN (kindOf c.1)))
    (sv (cutC (if numN (kindOf c.1) then 35 else 32) c.2).1) (sv (rd1 (kindOf c.1) c.2).2) (sv (rd1 (kindOf c.1) c.2).1) (sv (rd2 (numN (kindOf c.1)) (rd1 (kindOf c.1) c.2).2).2) (sv (rd2 (idxN (kindOf c.1)) (rd2 (numN (kindOf c.1)) (rd1 (kindOf c.1) c.2).2).2).2)
    _ _ w hE ?_ ?_ ?_ hk20 ?_ ?_ ?_ ?_ ?_ ?_ ?_ ?_
  · intro W; have := cut_any S 32 W (by omega); rw [← hs, ← hc] at this; exact this
  · intro W hb; exact kindOf_any (sv c.1) W (hE.below hb)
  · intro W hb; exact (hE.below hb).use hk20
  · intro hb1 W
    have := cut_any (sv c.2) (if numN (kindOf c.1) then 35 else 32) W (by rw [sv_size]; omega)
    rw [sv_list] at this
    have e : (rd1 (kindOf c.1) c.2).2 = (cutC (if numN (kindOf c.1) then 35 else 32) c.2).2 := by unfold rd1; rw [if_pos hb1]
    rw [e]; exact this
  · intro hb1 he
    have e : (cutC (if numN (kindOf c.1) then 35 else 32) c.2).1 = [48] := by
      have := congrArg (fun x : ByteArray => x.data.toList) he
      simpa using this
    have e2 : (rd1 (kindOf c.1) c.2).1 = [] := by unfold rd1; rw [if_pos hb1]; show (if _ then _ else _ : List UInt8) = _; rw [if_pos e]
    rw [e2]
  · intro hb1 he
    have e : ¬ (cutC (if numN (kindOf c.1) then 35 else 32) c.2).1 = [48] := fun h => he (by rw [h])
    have e2 : (rd1 (kindOf c.1) c.2).1 = (cutC (if numN (kindOf c.1) then 35 else 32) c.2).1 := by unfold rd1; rw [if_pos hb1]; show (if _ then _ else _ : List UInt8) = _; rw [if_neg e]
    rw [e2]
  · intro hb1
    have e : rd1 (kindOf c.1) c.2 = ([], c.2) := by unfold rd1; rw [if_neg (by rw [hb1]; decide)]
    rw [e]; exact ⟨rfl, rfl⟩
  · intro hb2 W hb
    have := readNumber_any (sv (rd1 (kindOf c.1) c.2).2) W (hE.below hb) (by rw [sv_size]; omega)
    rw [sv_list] at this
    unfold rd2; rw [if_pos hb2]; exact this
  · intro hb2; unfold rd2; rw [if_neg (by rw [hb2]; decide)]; exact ⟨rfl, rfl⟩
  · intro hb3 W hb
    have := readNumber_any (sv (rd2 (numN (kindOf c.1)) (rd1 (kindOf c.1) c.2).2).2) W (hE.below hb) (by rw [sv_size]; omega)
    rw [sv_list] at this
    have e : ∀ r, rd2 (idxN (kindOf c.1)) r = (atoiV (cutC 32 r).1, (cutC 32 r).2) := fun r => by unfold rd2; rw [if_pos hb3]
    rw [e]; exact this
  · intro hb3
    have e : ∀ r, rd2 (idxN (kindOf c.1)) r = (0, r) := fun r => by unfold rd2; rw [if_neg (by rw [hb3]; decide)]
    rw [e]; exact ⟨rfl, rfl⟩

/-- Parse's blocks: its result, the name. -/
def PK (w : World) (g : Nat) (cs : Array Value) (V : World) : Prop := Blk V w.heap.size 28 (nmC 0 ⟨#[]⟩ 0 0 ⟨#[]⟩) ∧ Blk V g 28 cs ∧ Below w.heap.size w V
theorem PK.under {w : World} {g : Nat} {cs : Array Value} {V V' : World} (h : PK w g cs V) (hb : Below V.heap.size V V') : PK w g cs V' :=
  ⟨h.1.under hb, h.2.1.under hb, h.2.2.trans (hb.mono h.2.2.size)⟩
theorem PK.bel {w : World} {g : Nat} {cs : Array Value} {V : World} (h : PK w g cs V) : Below w.heap.size w V := h.2.2
theorem pk_new {w V : World} {cs : Array Value} (hb : Below (w.alloc (.cells (nmC 0 ⟨#[]⟩ 0 0 ⟨#[]⟩) 28)).heap.size (w.alloc (.cells (nmC 0 ⟨#[]⟩ 0 0 ⟨#[]⟩) 28)) V) :
    PK w V.heap.size cs (V.alloc (.cells cs 28)) := by
  have h0 : Blk V w.heap.size 28 (nmC 0 ⟨#[]⟩ 0 0 ⟨#[]⟩) := (Blk.new w _ _).under hb
  have hB : Below w.heap.size w V := (below_alloc0 w _ (Nat.le_refl _)).trans (hb.mono (by simp))
  exact ⟨h0.alloc _, Blk.new _ _ _, hB.alloc hB.size _⟩
theorem readN_len (s : List UInt8) : (readN s).owner.length ≤ s.length ∧ (readN s).text.length ≤ s.length := by
  have l0 := cutC_len 32 s
  have l1 := rd1_len (kindOf (cutC 32 s).1) (cutC 32 s).2
  have l2 := rd2_len (numN (kindOf (cutC 32 s).1)) (rd1 (kindOf (cutC 32 s).1) (cutC 32 s).2).2
  have l3 := rd2_len (idxN (kindOf (cutC 32 s).1)) (rd2 (numN (kindOf (cutC 32 s).1)) (rd1 (kindOf (cutC 32 s).1) (cutC 32 s).2).2).2
  unfold readN readK
  exact ⟨by show (rd1 _ _).1.length ≤ _; omega, by show (rd2 _ _).2.length ≤ _; omega⟩
set_option maxHeartbeats 4000000 in
set_option maxRecDepth 100000 in
theorem parse_gen (S TX O T : ByteArray) (K n i : Int) (e : Nat) (w : World)
    (hR : ∀ W, Below w.heap.size w W → Calls Tryz.prog 69 #[.string S] W fun e w' => e = .returned (nmV K O n i T) ∧ Below W.heap.size W w')
    (hC : ∀ W, Below w.heap.size w W → Calls Tryz.prog 54 #[nmV K O n i T] W fun r w' => r = .returned (.int .i64 (e : Int)) ∧ Below W.heap.size W w')
    (hT : ∀ W, Below w.heap.size w W → Calls Tryz.prog 27 #[nmV K O n i T] W fun r w' => r = .returned (.string TX) ∧ Below W.heap.size W w') (b : Bool) (hb : b = true ↔ TX = S) :
    Calls Tryz.prog 26 #[.string S] w fun r w' => r = .returned (.tuple (if e = 0 ∧ b = true then #[nmV K O n i T, .int .i64 0] else #[nmV 0 ⟨#[]⟩ 0 0 ⟨#[]⟩, .int .i64 3])) ∧ Below w.heap.size w w' := by
  have HR := Lib.hid hR
  have HC := Lib.hid hC
  have HT := Lib.hid hT
  have HI5 := Lib.hid infoName
  have H1C := Lib.hid nm_one
  have tok1 : True := trivial
  clear hR hC hT
  by_cases h0 : e = 0
  · subst h0
    cases b with
    | true =>
      have hq : TX.toList = S.toList := by rw [hb.1 rfl]
      rw [if_pos ⟨rfl, rfl⟩]
      clear hb
      go_enter Tryz.func26, Tryz.ntmps26
      go_wp2_with (first
        | (go_at_call 69; refine (HR.out _ (below_alloc0 _ _ (Nat.le_refl _))).mono ?_; rintro e V1 ⟨rfl, hb⟩; have HB := Lib.hid hb; clear hb)
        | (show wpList _ _ _ (⟨some 7, _, _, _, _, _⟩ :: _) _ _; have _t := tok1; refine wpl_gen (PK w V1.heap.size (nmC K O n i T)) (pk_new HB.out) ?_; intro V hV; clear tok1; generalize V1.heap.size = g at hV ⊢; have HV := Lib.hid hV; clear hV HB; have c0 := HV.out.2.1.cell 0; have c1 := HV.out.2.1.cell 1; have c2 := HV.out.2.1.cell 2; have c3 := HV.out.2.1.cell 3; have c4 := HV.out.2.1.cell 4)
        | (go_at_call 54; refine (HC.out _ HV.out.bel).mono ?_; rintro e V2 ⟨rfl, hb⟩; replace HV := Lib.hid (HV.out.under hb); clear hb c0 c1 c2 c3 c4; have c0 := HV.out.2.1.cell 0; have c1 := HV.out.2.1.cell 1; have c2 := HV.out.2.1.cell 2; have c3 := HV.out.2.1.cell 3; have c4 := HV.out.2.1.cell 4)
        | (go_at_call 27; refine (HT.out _ HV.out.bel).mono ?_; rintro e V2 ⟨rfl, hb⟩; replace HV := Lib.hid (HV.out.under hb); clear hb c0 c1 c2 c3 c4; have c0 := HV.out.2.1.cell 0; have c1 := HV.out.2.1.cell 1; have c2 := HV.out.2.1.cell 2; have c3 := HV.out.2.1.cell 3; have c4 := HV.out.2.1.cell 4; have HZ := Lib.hid HV.out.1.there)
        | (show wpList _ _ _ (⟨none, _, _, _, _, _⟩ :: _) _ _; refine wpList_store_mid (by rfl) 28 (.tmp 2) (.tmp 17) (by rfl) w.heap.size 0 (nmC K O n i T) (by rfl) (by rfl) HZ.out HI5.out (H1C.out _ _ _ _ _) ?_))
      exact bodyPost_ret (results_row2 rfl _ _ w.heap.size (nmC K O n i T).toList _ rfl (World.rangeAt_setCells_same _ _ _ _ HV.out.1.there) Tryz.underlying28 rfl infoName) rfl ⟨rfl, below_setCells _ (Nat.le_refl _) _ _ _ HV.out.bel⟩
    | false =>
      have hq : ¬ TX.toList = S.toList := fun h => by
        have h2 : TX = S := by rw [toList_data, toList_data] at h; rw [← sv_back TX, ← sv_back S, h]
        have := hb.2 h2; cases this
      have hq2 : (TX.toList == S.toList) = false := by simpa using hq
      rw [if_neg (by rintro ⟨_, h⟩; cases h)]
      clear hb
      go_enter Tryz.func26, Tryz.ntmps26
      go_wp2_with (first
        | (go_at_call 69; refine (HR.out _ (below_alloc0 _ _ (Nat.le_refl _))).mono ?_; rintro e V1 ⟨rfl, hb⟩; have HB := Lib.hid hb; clear hb)
        | (show wpList _ _ _ (⟨some 7, _, _, _, _, _⟩ :: _) _ _; have _t := tok1; refine wpl_gen (PK w V1.heap.size (nmC K O n i T)) (pk_new HB.out) ?_; intro V hV; clear tok1; generalize V1.heap.size = g at hV ⊢; have HV := Lib.hid hV; clear hV HB; have c0 := HV.out.2.1.cell 0; have c1 := HV.out.2.1.cell 1; have c2 := HV.out.2.1.cell 2; have c3 := HV.out.2.1.cell 3; have c4 := HV.out.2.1.cell 4)
        | (go_at_call 54; refine (HC.out _ HV.out.bel).mono ?_; rintro e V2 ⟨rfl, hb⟩; replace HV := Lib.hid (HV.out.under hb); clear hb c0 c1 c2 c3 c4; have c0 := HV.out.2.1.cell 0; have c1 := HV.out.2.1.cell 1; have c2 := HV.out.2.1.cell 2; have c3 := HV.out.2.1.cell 3; have c4 := HV.out.2.1.cell 4)
        | (go_at_call 27; refine (HT.out _ HV.out.bel).mono ?_; rintro e V2 ⟨rfl, hb⟩; replace HV := Lib.hid (HV.out.under hb); clear hb c0 c1 c2 c3 c4; have HZ := Lib.hid HV.out.1.there)
        | (show wpList _ _ _ (⟨none, _, _, _, _, _⟩ :: _) _ _; refine wpList_store_mid (by rfl) 28 (.tmp 2) (.tmp 16) (by rfl) w.heap.size 0 (nmC 0 ⟨#[]⟩ 0 0 ⟨#[]⟩) (by rfl) (by rfl) HZ.out HI5.out (H1C.out _ _ _ _ _) ?_))
      exact bodyPost_ret (results_row2 rfl _ _ w.heap.size (nmC 0 ⟨#[]⟩ 0 0 ⟨#[]⟩).toList _ rfl (World.rangeAt_setCells_same _ _ _ _ HV.out.1.there) Tryz.underlying28 rfl infoName) rfl ⟨rfl, below_setCells _ (Nat.le_refl _) _ _ _ HV.out.bel⟩
  · have ge : ((e : Int) == 0) = false := by simp; omega
    have gn : ((e : Int) != 0) = true := by simp; omega
    rw [if_neg (fun h => h0 h.1)]
    clear hb h0
    go_enter Tryz.func26, Tryz.ntmps26
    go_wp2_with (first
      | (go_at_call 69; refine (HR.out _ (below_alloc0 _ _ (Nat.le_refl _))).mono ?_; rintro e V1 ⟨rfl, hb⟩; have HB := Lib.hid hb; clear hb)
      | (show wpList _ _ _ (⟨some 7, _, _, _, _, _⟩ :: _) _ _; have _t := tok1; refine wpl_gen (PK w V1.heap.size (nmC K O n i T)) (pk_new HB.out) ?_; intro V hV; clear tok1; generalize V1.heap.size = g at hV ⊢; have HV := Lib.hid hV; clear hV HB; have c0 := HV.out.2.1.cell 0; have c1 := HV.out.2.1.cell 1; have c2 := HV.out.2.1.cell 2; have c3 := HV.out.2.1.cell 3; have c4 := HV.out.2.1.cell 4)
      | (go_at_call 54; refine (HC.out _ HV.out.bel).mono ?_; rintro e V2 ⟨rfl, hb⟩; replace HV := Lib.hid (HV.out.under hb); clear hb c0 c1 c2 c3 c4; have HZ := Lib.hid HV.out.1.there)
      | (show wpList _ _ _ (⟨none, _, _, _, _, _⟩ :: _) _ _; refine wpList_store_mid (by rfl) 28 (.tmp 2) (.tmp 16) (by rfl) w.heap.size 0 (nmC 0 ⟨#[]⟩ 0 0 ⟨#[]⟩) (by rfl) (by rfl) HZ.out HI5.out (H1C.out _ _ _ _ _) ?_))
    exact bodyPost_ret (results_row2 rfl _ _ w.heap.size (nmC 0 ⟨#[]⟩ 0 0 ⟨#[]⟩).toList _ rfl (World.rangeAt_setCells_same _ _ _ _ HV.out.1.there) Tryz.underlying28 rfl infoName) rfl ⟨rfl, below_setCells _ (Nat.le_refl _) _ _ _ HV.out.bel⟩
theorem parse_any (S : ByteArray) (w : World) (hE : Env w) (hS : S.size ≤ 1000000) :
    Calls Tryz.prog 26 #[.string S] w fun r w' => r = .returned (.tuple #[vN (parseN S.data.toList).1, .int .i64 ((parseN S.data.toList).2 : Int)]) ∧ Below w.heap.size w w' := by
  have hl : S.data.toList.length = S.size := by simp
  have hr := readN_len S.data.toList
  obtain ⟨x, hx⟩ : ∃ x, x = readN S.data.toList := ⟨_, rfl⟩
  rw [← hx] at hr
  have h := parse_gen S (sv (textN x)) (sv x.owner) (sv x.text) x.kind x.num x.idx (checkN x) w
    (fun W hb => by rw [hx]; exact readText_any S W (hE.below hb) hS)
    (fun W hb => check_any x.kind x.num x.idx (sv x.owner) (sv x.text) W (hE.below hb) (by rw [sv_size]; omega))
    (fun W hb => string_any x.kind x.num x.idx (sv x.owner) (sv x.text) W (hE.below hb) (by rw [sv_size]; omega))
    (decide (textN x = S.data.toList)) (by
      rw [decide_eq_true_eq]
      exact ⟨fun h => by rw [h, sv_back], fun h => by rw [← h]⟩)
  refine h.mono ?_
  rintro e w' ⟨he, hb⟩
  refine ⟨?_, hb⟩
  rw [he]
  unfold parseN
  rw [← hx]
  by_cases hc : checkN x = 0 ∧ textN x = S.data.toList
  · rw [if_pos hc, if_pos ⟨hc.1, by simpa using hc.2⟩]; rfl
  · rw [if_neg hc, if_neg (fun h => hc ⟨h.1, by simpa using h.2⟩)]; rfl
end Go.Proofs.YtcdjmkfpclmbdaaGreatDoor
