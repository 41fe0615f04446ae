/- object: the walk of the law ObjectParses. -/
import Derived.Test.YtcdjmkfpclmbdaaDoorORParse
import Derived.Test.YtcdjmkfpclmbdaaDoorOTextsB
set_option linter.unusedVariables false
namespace Go.Proofs.YtcdjmkfpclmbdaaDoor
open Go.RowKit

theorem ops_at {l : List Oper} {i : Nat} {o : Oper} (h : l[i]? = some o) : (List.toArray l)[i]? = some o := by rw [List.getElem?_toArray]; exact h
/-- Two blocks: Parse's name and the reference's. -/
def LP (w : World) (g h : Nat) (cs ms : Array Value) (V : World) : Prop := Blk V g 31 cs ∧ Blk V h 23 ms ∧ Below w.heap.size w V
theorem lp_new {w V1 V2 : World} {cs ms : Array Value} (h1 : Below w.heap.size w V1) (h2 : Below (V1.alloc (.cells cs 31)).heap.size (V1.alloc (.cells cs 31)) V2) :
    LP w V1.heap.size V2.heap.size cs ms (V2.alloc (.cells ms 23)) := by
  have hB : Below w.heap.size w V2 := (h1.alloc h1.size _).trans (h2.mono (by have := h1.size; simp; omega))
  exact ⟨((Blk.new V1 _ _).under h2).alloc _, Blk.new _ _ _, hB.alloc hB.size _⟩
theorem LP.under {w : World} {g h : Nat} {cs ms : Array Value} {V V' : World} (x : LP w g h cs ms V) (hb : Below V.heap.size V V') : LP w g h cs ms V' := ⟨x.1.under hb, x.2.1.under hb, x.2.2.trans (hb.mono x.2.2.size)⟩
theorem LP.bel {w : World} {g h : Nat} {cs ms : Array Value} {V : World} (x : LP w g h cs ms V) : Below w.heap.size w V := x.2.2
theorem LP.drew {w : World} {g h : Nat} {cs ms : Array Value} {V : World} (x : LP w g h cs ms V) : LP w g h cs ms V.drew := ⟨x.1.drew, x.2.1.drew, x.2.2.drew⟩

set_option maxHeartbeats 4000000 in
set_option maxRecDepth 100000 in
theorem parses_long (S : ByteArray) (w : World) (hl : 200 < S.size)
    (hK : ∀ W, Below w.heap.size w W → Calls Tryd.prog 8 #[] W fun e w' => e = .returned (.bool true) ∧ Below W.heap.size W w') :
    Calls Tryd.prog 6 #[.string S] w fun e w' => e = .returned (.bool true) ∧ Below w.heap.size w w' := by
  have HK := Lib.hid hK
  have HB := Lib.hid (Below.refl w.heap.size w)
  have l1 : (200 : Int) < (S.size : Int) := by omega
  clear hK
  go_enter Tryd.func6, Tryd.ntmps6
  go_wp2_with (go_at_call 8; refine (HK.out _ HB.out).mono ?_; rintro e V1 ⟨rfl, hb⟩; replace HB := Lib.hid (HB.out.trans (hb.mono HB.out.size)); clear hb)
  go_ret
  exact ⟨rfl, HB.out⟩

set_option maxHeartbeats 8000000 in
set_option maxRecDepth 100000 in
theorem parses_short (S : ByteArray) (L : Int) (P : ByteArray) (m j : Int) (Q : ByteArray) (E : Int) (w : World) (hl : S.size ≤ 200) (hE : E = 0 ∨ E = 3)
    (hK : ∀ W, Below w.heap.size w W → Calls Tryd.prog 8 #[] W fun e w' => e = .returned (.bool true) ∧ Below W.heap.size W w')
    (hP : ∀ W, Below w.heap.size w W → Calls Tryd.prog 21 #[.string S] W fun e w' => e = .returned (.tuple #[nmV L P m j Q, .int .i64 E]) ∧ Below W.heap.size W w')
    (hR : ∀ W, Calls Tryd.prog 23 #[.string S] W fun e w' => e = .returned (.tuple #[nmV L P m j Q, .int .i64 E]) ∧ Below W.heap.size W w')
    (hS : E = 0 → ∀ W, Below w.heap.size w W → Calls Tryd.prog 19 #[nmV L P m j Q] W fun e w' => e = .returned (.string S) ∧ Below W.heap.size W w')
    (hC : E = 0 → ∀ W, Below w.heap.size w W → Calls Tryd.prog 11 #[nmV L P m j Q] W fun e w' => e = .returned (.int .i64 0) ∧ Below W.heap.size W w') :
    Calls Tryd.prog 6 #[.string S] w fun e w' => e = .returned (.bool true) ∧ Below w.heap.size w w' := by
  have HK := Lib.hid hK
  have HP := Lib.hid hP
  have HR := Lib.hid hR
  have HB := Lib.hid (Below.refl w.heap.size w)
  have HEE := Lib.hid hE
  have HS := Lib.hid hS
  have HC := Lib.hid hC
  have HOF := Lib.hid fun W => ofN_any L m j P Q W
  have l1 : ¬ (200 : Int) < (S.size : Int) := by omega
  clear hK hP hR hE hS hC
  go_enter Tryd.func6, Tryd.ntmps6
  go_upto_region 5 with (first
    | (go_at_call 8; refine (HK.out _ HB.out).mono ?_; rintro e V1 ⟨rfl, hb⟩; replace HB := Lib.hid (HB.out.trans (hb.mono HB.out.size)); clear hb)
    | (go_at_call 21; refine (HP.out _ HB.out).mono ?_; rintro e V2 ⟨rfl, hb⟩; replace HB := Lib.hid (HB.out.trans (hb.mono HB.out.size)); clear hb)
    | (go_at_call 23; refine (HR.out _).mono ?_; rintro e V3 ⟨rfl, hb⟩; have HB3 := Lib.hid hb; clear hb))
  refine cwp_gen (LP w V2.heap.size V3.heap.size (nmC L P m j Q) (nmC L P m j Q)) (lp_new HB.out HB3.out) ?_
  intro V hV
  generalize V2.heap.size = g at hV ⊢
  generalize V3.heap.size = h at hV ⊢
  clear HB HB3
  have e1 : (S.toList == S.toList) = true := by simp
  have hq := fun W => eq_self_rn L P m j Q W
  have f0 : ∀ W, LP w g h (nmC L P m j Q) (nmC L P m j Q) W → W.cell? ⟨g, 0, none⟩ = some (.int .i64 L) := fun W x => x.1.cell 0
  have f1 : ∀ W, LP w g h (nmC L P m j Q) (nmC L P m j Q) W → W.cell? ⟨g, 1, none⟩ = some (.string P) := fun W x => x.1.cell 1
  have f2 : ∀ W, LP w g h (nmC L P m j Q) (nmC L P m j Q) W → W.cell? ⟨g, 2, none⟩ = some (.int .i64 m) := fun W x => x.1.cell 2
  have f3 : ∀ W, LP w g h (nmC L P m j Q) (nmC L P m j Q) W → W.cell? ⟨g, 3, none⟩ = some (.int .i64 j) := fun W x => x.1.cell 3
  have f4 : ∀ W, LP w g h (nmC L P m j Q) (nmC L P m j Q) W → W.cell? ⟨g, 4, none⟩ = some (.string Q) := fun W x => x.1.cell 4
  have k0 : ∀ W, LP w g h (nmC L P m j Q) (nmC L P m j Q) W → W.cell? ⟨h, 0, none⟩ = some (.int .i64 L) := fun W x => x.2.1.cell 0
  have k1 : ∀ W, LP w g h (nmC L P m j Q) (nmC L P m j Q) W → W.cell? ⟨h, 1, none⟩ = some (.string P) := fun W x => x.2.1.cell 1
  have k2 : ∀ W, LP w g h (nmC L P m j Q) (nmC L P m j Q) W → W.cell? ⟨h, 2, none⟩ = some (.int .i64 m) := fun W x => x.2.1.cell 2
  have k3 : ∀ W, LP w g h (nmC L P m j Q) (nmC L P m j Q) W → W.cell? ⟨h, 3, none⟩ = some (.int .i64 j) := fun W x => x.2.1.cell 3
  have k4 : ∀ W, LP w g h (nmC L P m j Q) (nmC L P m j Q) W → W.cell? ⟨h, 4, none⟩ = some (.string Q) := fun W x => x.2.1.cell 4
  rcases HEE.out with h0 | h0
  · replace HS := Lib.hid (HS.out h0)
    replace HC := Lib.hid (HC.out h0)
    have z1 : (E != 0) = false := by rw [h0]; rfl
    have z2 : (E == E) = true := by simp
    have z3 : ((0 : Int) == 0) = true := rfl
    clear h0 HEE
    go_region_held3 (LP w g h (nmC L P m j Q) (nmC L P m j Q)) (first | assumption | exact LP.drew (by assumption)) ((first
      | (go_at_call 22; refine (HOF.out _).mono ?_; rintro e W1 ⟨rfl, hb⟩; have hS1 := LP.under (by assumption) hb; clear hb)
      | (go_at_call 19; refine (HS.out _ (LP.bel (by assumption))).mono ?_; rintro e W1 ⟨rfl, hb⟩; have hS1 := LP.under (by assumption) hb; clear hb)
      | (go_at_call 11; refine (HC.out _ (LP.bel (by assumption))).mono ?_; rintro e W1 ⟨rfl, hb⟩; have hS1 := LP.under (by assumption) hb; clear hb)))
    all_goals
      go_wp2
      go_ret
      exact ⟨rfl, LP.bel (by assumption)⟩
  · have z1 : (E != 0) = true := by rw [h0]; rfl
    have z2 : (E == E) = true := by simp
    clear HS HC h0 HEE
    refine wp_region_held_drew (S := LP w g h (nmC L P m j Q) (nmC L P m j Q)) (by kernel_rfl) (hV.drew) (fun hHeld => ?_)
    refine wpAnyH_take (i := 0) (v := ?_) (ops_at rfl) (by kernel_rfl) (by kernel_rfl) (by kernel_rfl) (fun _ _ _ h => h) (Or.inl ⟨by rfl, ?_⟩) hHeld ?_
    rotate_left
    · (intro W hSW; have a0 := f0 W hSW; have a1 := f1 W hSW; have a2 := f2 W hSW; have a3 := f3 W hSW; have a4 := f4 W hSW; go_simp; try with_reducible rfl)
    try simp only [Act.put, List.setIfInBounds_toArray, List.set_cons_zero, List.set_cons_succ]
    refine wpAnyH_take (i := 2) (v := ?_) (ops_at rfl) (by kernel_rfl) (by kernel_rfl) (by kernel_rfl) (fun _ _ _ h => h) (Or.inl ⟨by rfl, ?_⟩) hHeld ?_
    rotate_left
    · (intro W hSW; have a0 := k0 W hSW; have a1 := k1 W hSW; have a2 := k2 W hSW; have a3 := k3 W hSW; have a4 := k4 W hSW; go_simp; try with_reducible rfl)
    try simp only [Act.put, List.setIfInBounds_toArray, List.set_cons_zero, List.set_cons_succ]
    refine wpAnyH_ready (rs := [1]) (by kernel_rfl) (by simp) ?_
    refine AllReadyH.cons (ops_at rfl) (fun K hK => ?_) AllReadyH.nil
    go_simp
    (go_at_call 22; refine (HOF.out _).mono ?_; rintro e W' ⟨rfl, hb'⟩)
    refine hK.out _ _ (LP.under hHeld hb') (fun hHeld => ?_)
    clear hK K
    try simp only [Act.put, List.setIfInBounds_toArray, List.set_cons_zero, List.set_cons_succ]
    refine wpAnyH_take (i := 3) (v := ?_) (ops_at rfl) (by kernel_rfl) (by kernel_rfl) (by kernel_rfl) (fun _ _ _ h => h) (Or.inl ⟨by rfl, ?_⟩) hHeld ?_
    rotate_left
    · (intro W hSW; go_simp; try with_reducible rfl)
    try simp only [Act.put, List.setIfInBounds_toArray, List.set_cons_zero, List.set_cons_succ]
    refine wpAnyH_take (i := 4) (v := ?_) (ops_at rfl) (by kernel_rfl) (by kernel_rfl) (by kernel_rfl) (fun _ _ _ h => h) (Or.inl ⟨by rfl, ?_⟩) hHeld ?_
    rotate_left
    · (intro W hSW; go_simp; try with_reducible rfl)
    try simp only [Act.put, List.setIfInBounds_toArray, List.set_cons_zero, List.set_cons_succ]
    refine wpAnyH_take (i := 5) (v := ?_) (ops_at rfl) (by kernel_rfl) (by kernel_rfl) (by kernel_rfl) (fun _ _ _ h => h) (Or.inl ⟨by rfl, ?_⟩) hHeld ?_
    rotate_left
    · (intro W hSW; go_simp; try with_reducible rfl)
    try simp only [Act.put, List.setIfInBounds_toArray, List.set_cons_zero, List.set_cons_succ]
    refine wpAnyH_take (i := 6) (v := ?_) (ops_at rfl) (by kernel_rfl) (by kernel_rfl) (by kernel_rfl) (fun _ _ _ h => h) (Or.inl ⟨by rfl, ?_⟩) hHeld ?_
    rotate_left
    · (intro W hSW; go_simp; try with_reducible rfl)
    try simp only [Act.put, List.setIfInBounds_toArray, List.set_cons_zero, List.set_cons_succ]
    refine wpAnyH_take (i := 7) (v := ?_) (ops_at rfl) (by kernel_rfl) (by kernel_rfl) (by kernel_rfl) (fun _ _ _ h => h) (Or.inl ⟨by rfl, ?_⟩) hHeld ?_
    rotate_left
    · (intro W hSW; go_simp; try with_reducible rfl)
    try simp only [Act.put, List.setIfInBounds_toArray, List.set_cons_zero, List.set_cons_succ]
    refine wpAnyH_take (i := 8) (v := ?_) (ops_at rfl) (by kernel_rfl) (by kernel_rfl) (by kernel_rfl) (fun _ _ _ h => h) (Or.inl ⟨by rfl, ?_⟩) hHeld ?_
    rotate_left
    · (intro W hSW; go_simp; try with_reducible rfl)
    try simp only [Act.put, List.setIfInBounds_toArray, List.set_cons_zero, List.set_cons_succ]
    refine wpAnyH_take (i := 9) (v := ?_) (ops_at rfl) (by kernel_rfl) (by kernel_rfl) (by kernel_rfl) (fun _ _ _ h => h) (Or.inl ⟨by rfl, ?_⟩) hHeld ?_
    rotate_left
    · (intro W hSW; go_simp; try with_reducible rfl)
    try simp only [Act.put, List.setIfInBounds_toArray, List.set_cons_zero, List.set_cons_succ]
    refine wpAnyH_take (i := 10) (v := ?_) (ops_at rfl) (by kernel_rfl) (by kernel_rfl) (by kernel_rfl) (fun _ _ _ h => h) (Or.inl ⟨by rfl, ?_⟩) hHeld ?_
    rotate_left
    · (intro W hSW; go_simp; try with_reducible rfl)
    try simp only [Act.put, List.setIfInBounds_toArray, List.set_cons_zero, List.set_cons_succ]
    refine wpAnyH_take (i := 11) (v := ?_) (ops_at rfl) (by kernel_rfl) (by kernel_rfl) (by kernel_rfl) (fun _ _ _ h => h) (Or.inl ⟨by rfl, ?_⟩) hHeld ?_
    rotate_left
    · (intro W hSW; go_simp; try with_reducible rfl)
    try simp only [Act.put, List.setIfInBounds_toArray, List.set_cons_zero, List.set_cons_succ]
    refine wpAnyH_take (i := 12) (v := ?_) (ops_at rfl) (by kernel_rfl) (by kernel_rfl) (by kernel_rfl) (fun _ _ _ h => h) (Or.inl ⟨by rfl, ?_⟩) hHeld ?_
    rotate_left
    · (intro W hSW; go_simp; try with_reducible rfl)
    try simp only [Act.put, List.setIfInBounds_toArray, List.set_cons_zero, List.set_cons_succ]
    refine wpAnyH_take (i := 13) (v := undef) (ops_at rfl) (by kernel_rfl) (by kernel_rfl) (by kernel_rfl) (fun _ _ _ h => h) (Or.inr ⟨by rfl, rfl⟩) hHeld ?_
    try simp only [Act.put, List.setIfInBounds_toArray, List.set_cons_zero, List.set_cons_succ]
    refine wpAnyH_take (i := 14) (v := undef) (ops_at rfl) (by kernel_rfl) (by kernel_rfl) (by kernel_rfl) (fun _ _ _ h => h) (Or.inr ⟨by rfl, rfl⟩) hHeld ?_
    try simp only [Act.put, List.setIfInBounds_toArray, List.set_cons_zero, List.set_cons_succ]
    refine wpAnyH_take (i := 15) (v := undef) (ops_at rfl) (by kernel_rfl) (by kernel_rfl) (by kernel_rfl) (fun _ _ _ h => h) (Or.inr ⟨by rfl, rfl⟩) hHeld ?_
    try simp only [Act.put, List.setIfInBounds_toArray, List.set_cons_zero, List.set_cons_succ]
    refine wpAnyH_take (i := 16) (v := undef) (ops_at rfl) (by kernel_rfl) (by kernel_rfl) (by kernel_rfl) (fun _ _ _ h => h) (Or.inr ⟨by rfl, rfl⟩) hHeld ?_
    try simp only [Act.put, List.setIfInBounds_toArray, List.set_cons_zero, List.set_cons_succ]
    refine wpAnyH_take (i := 17) (v := undef) (ops_at rfl) (by kernel_rfl) (by kernel_rfl) (by kernel_rfl) (fun _ _ _ h => h) (Or.inr ⟨by rfl, rfl⟩) hHeld ?_
    try simp only [Act.put, List.setIfInBounds_toArray, List.set_cons_zero, List.set_cons_succ]
    refine wpAnyH_take (i := 18) (v := undef) (ops_at rfl) (by kernel_rfl) (by kernel_rfl) (by kernel_rfl) (fun _ _ _ h => h) (Or.inr ⟨by rfl, rfl⟩) hHeld ?_
    try simp only [Act.put, List.setIfInBounds_toArray, List.set_cons_zero, List.set_cons_succ]
    refine wpAnyH_take (i := 19) (v := undef) (ops_at rfl) (by kernel_rfl) (by kernel_rfl) (by kernel_rfl) (fun _ _ _ h => h) (Or.inr ⟨by rfl, rfl⟩) hHeld ?_
    try simp only [Act.put, List.setIfInBounds_toArray, List.set_cons_zero, List.set_cons_succ]
    refine wpAnyH_take (i := 20) (v := undef) (ops_at rfl) (by kernel_rfl) (by kernel_rfl) (by kernel_rfl) (fun _ _ _ h => h) (Or.inr ⟨by rfl, rfl⟩) hHeld ?_
    try simp only [Act.put, List.setIfInBounds_toArray, List.set_cons_zero, List.set_cons_succ]
    refine wpAnyH_take (i := 21) (v := undef) (ops_at rfl) (by kernel_rfl) (by kernel_rfl) (by kernel_rfl) (fun _ _ _ h => h) (Or.inr ⟨by rfl, rfl⟩) hHeld ?_
    try simp only [Act.put, List.setIfInBounds_toArray, List.set_cons_zero, List.set_cons_succ]
    refine wpAnyH_take (i := 22) (v := ?_) (ops_at rfl) (by kernel_rfl) (by kernel_rfl) (by kernel_rfl) (fun _ _ _ h => h) (Or.inl ⟨by rfl, ?_⟩) hHeld ?_
    rotate_left
    · (intro W hSW; go_simp; try with_reducible rfl)
    try simp only [Act.put, List.setIfInBounds_toArray, List.set_cons_zero, List.set_cons_succ]
    refine wpAnyH_take (i := 23) (v := ?_) (ops_at rfl) (by kernel_rfl) (by kernel_rfl) (by kernel_rfl) (fun _ _ _ h => h) (Or.inl ⟨by rfl, ?_⟩) hHeld ?_
    rotate_left
    · (intro W hSW; go_simp; try with_reducible rfl)
    try simp only [Act.put, List.setIfInBounds_toArray, List.set_cons_zero, List.set_cons_succ]
    refine wpAnyH_take (i := 24) (v := ?_) (ops_at rfl) (by kernel_rfl) (by kernel_rfl) (by kernel_rfl) (fun _ _ _ h => h) (Or.inl ⟨by rfl, ?_⟩) hHeld ?_
    rotate_left
    · (intro W hSW; go_simp; try with_reducible rfl)
    try simp only [Act.put, List.setIfInBounds_toArray, List.set_cons_zero, List.set_cons_succ]
    refine wpAnyH_done (by kernel_rfl) ?_ _
    go_wp2
    go_ret
    exact ⟨rfl, hHeld.bel⟩

set_option maxHeartbeats 1000000 in
theorem objectParses_walk (S : ByteArray) (w : World) (hE : Env w) (hS : S.size ≤ maxLen) :
    Calls Tryd.prog 6 #[.string S] w fun e w' => e = .returned (.bool true) ∧ Below w.heap.size w w' := by
  have hK : ∀ W, Below w.heap.size w W → Calls Tryd.prog 8 #[] W fun e w' => e = .returned (.bool true) ∧ Below W.heap.size W w' := fun W hb => known_any W (hE.below hb)
  by_cases hl : 200 < S.size
  · exact parses_long S w hl hK
  · have hlen : S.data.toList.length = S.size := by simp
    have hP := fun W hb => parse_any S W (hE.below (w' := W) hb) (by omega)
    have hR := fun W => refNParse_any S W (by omega)
    rw [parse_eq] at hR
    have hr := readN_len S.data.toList
    by_cases h0 : checkN (readN S.data.toList) = 0 ∧ textN (readN S.data.toList) = S.data.toList
    · have ep : parseN S.data.toList = (readN S.data.toList, 0) := by unfold parseN; rw [if_pos h0]
      rw [ep] at hP hR
      obtain ⟨x, hx⟩ : ∃ x, x = readN S.data.toList := ⟨_, rfl⟩
      rw [← hx] at hP hR h0 hr
      refine parses_short S x.kind (sv x.owner) x.num x.idx (sv x.text) 0 w (by omega) (.inl rfl) hK hP hR (fun _ W hb => ?_) (fun _ W hb => ?_)
      · have h := string_any x.kind x.num x.idx (sv x.owner) (sv x.text) W (hE.below hb) (by rw [sv_size]; omega)
        simp only [sv_list] at h
        rw [h0.2, sv_back] at h
        exact h
      · have h := check_any x.kind x.num x.idx (sv x.owner) (sv x.text) W (hE.below hb) (by rw [sv_size]; omega)
        simp only [sv_list] at h
        rw [h0.1] at h
        exact h
    · have ep : parseN S.data.toList = (⟨0, [], 0, 0, []⟩, 3) := by unfold parseN; rw [if_neg h0]
      rw [ep] at hP hR
      exact parses_short S 0 (sv []) 0 0 (sv []) 3 w (by omega) (.inr rfl) hK hP hR (fun h => absurd h (by decide)) (fun h => absurd h (by decide))
end Go.Proofs.YtcdjmkfpclmbdaaDoor
