/- The walk of the law Sha256Joins: what it says of every tag and list. -/
import Derived.Test.YtedmnepilbfihaaDoorSRJn
import Derived.Test.YtedmnepilbfihaaDoorSTexts
import Derived.Test.YtedmnepilbfihaaDoorSHeld
set_option linter.unusedVariables false
namespace Go.Proofs.YtedmnepilbfihaaDoor
open Go.RowKit

/-- What the last region stands on. -/
def TJ (w : World) (G : Nat) (d : List UInt8) (W : World) : Prop := Below w.heap.size w W ∧ W.rangeAt G 0 (d.map bv)
theorem TJ.below {w : World} {G : Nat} {d : List UInt8} {W W' : World} (h : TJ w G d W) (hb : Below W.heap.size W W') (hd : d.length = 32) : TJ w G d W' :=
  ⟨h.1.trans (hb.mono h.1.size), range_below h.2 (by rw [List.length_map, hd]; omega) hb⟩
theorem TJ.drew {w : World} {G : Nat} {d : List UInt8} {W : World} (h : TJ w G d W) : TJ w G d W.drew := ⟨h.1.drew, (World.rangeAt_drew _ _ _ _).2 h.2⟩
theorem TJ.start {w V : World} {d : List UInt8} (hB : Below w.heap.size w V) (hd : d.length = 32) (z : Array Value) (hz : z = zero32.toArray) (t : TypeId) : TJ w V.heap.size d ((V.alloc (.cells z t)).setCells V.heap.size 0 (d.map bv)) := by
  subst hz
  exact ⟨below_setCells _ hB.size _ _ _ (hB.alloc hB.size _), ((Arr.new V zero32 t).sets (d.map bv) (by rw [List.length_map, hd]; rfl)).1⟩

set_option maxHeartbeats 2000000 in
set_option maxRecDepth 100000 in
theorem sha256Joins_walk (tag : UInt8) (A : Option Addr) (l : List ByteArray) (c : Nat) (w : World) (hT : Tab w) (hr : RT w w.heap.size A l) :
    Calls Tryd.prog 5 #[bv tag, .slice A l.length c] w fun e w' => e = .returned (.bool true) ∧ Below w.heap.size w w' := by
  have H1 := Lib.hid (list_any A l c _ w hr (Nat.le_refl _))
  obtain ⟨m, em⟩ : ∃ m, m = listS l := ⟨_, rfl⟩
  have hm : m.length ≤ 255 := by rw [em, listS_length]; omega
  have hms : ∀ s ∈ m, s.size ≤ 100 := by rw [em]; exact listS_size l
  rw [← em] at H1
  obtain ⟨S, eS⟩ : ∃ S : ByteArray, S = ⟨(joinS tag m).toArray⟩ := ⟨_, rfl⟩
  have eS2 : S.data.toList = joinS tag m := by rw [eS]
  have eS3 : S.size ≤ 26522 := by rw [eS]; show (joinS tag m).toArray.size ≤ _; rw [List.size_toArray]; exact joinS_le tag m hm hms
  obtain ⟨dg, edg⟩ : ∃ d, d = sumS (joinS tag m) := ⟨_, rfl⟩
  have hdg : dg.length = 32 := by rw [edg]; exact sumS_length _
  have heq := fun W => eq_arr dg dg hdg hdg W
  rw [show (dg == dg) = true by simp] at heq
  have hi25 : (Tryd.prog.info? 25).map (·.size) = some (dg.map bv).length := by rw [info32, List.length_map, hdg]
  have hi25a : Hid ((Tryd.prog.info? 25).map (·.size) = some (dg.map bv).toArray.size) := Lib.hid (by rw [info32, List.size_toArray, List.length_map, hdg])
  have hu25 := Tryd.underlying25
  have heq25 : ∀ W, (binOp .eql 24 (.agg (dg.map bv).toArray) (.agg (dg.map bv).toArray)).run Tryd.prog W = .ok (.bool true) W := heq
  have hss : (S.toList == S.toList) = true := by simp
  have HDG := Lib.hid hdg
  have HT := Lib.hid hT
  have HM := Lib.hid hm
  have HMS := Lib.hid hms
  have HES := Lib.hid eS
  have HED := Lib.hid edg
  have HS2 := Lib.hid eS2
  have HS3 := Lib.hid eS3
  clear hr em hm hms eS eS2 eS3 edg hdg hT heq
  go_enter Tryd.func5, Tryd.ntmps5
  go_wp2_with (go_at_call 18; refine H1.out.mono ?_; rintro e W1 ⟨v1, rfl, ho1, hb1⟩; have HO1 := Lib.hid ho1; have B1 := Lib.hid hb1; (obtain ⟨A1, c1, hv1, hr1, _, _⟩ := ho1.form); subst hv1; clear ho1 hb1)
  have HR1 := Lib.hid hr1
  have hJ : Hid (∀ W, Below W1.heap.size W1 W → Calls Tryd.prog 19 #[bv tag, .slice A1 m.length c1] W fun e w' => e = .returned (.tuple #[.string S, .int .i64 0]) ∧ Below W1.heap.size W1 w') := Lib.hid fun W h => by
    rw [HES.out]
    exact (join_any tag A1 m c1 _ W (HR1.out.below h) h.size HM.out HMS.out).mono fun e w' ⟨he, hb2⟩ => ⟨he, h.trans (hb2.mono h.size)⟩
  have hTg : Hid (∀ W, Below W1.heap.size W1 W → Calls Tryd.prog 20 #[bv tag, .slice A1 m.length c1] W fun e w' => e = .returned (.tuple #[.agg (dg.map bv).toArray, .int .i64 0]) ∧ Below W1.heap.size W1 w') := Lib.hid fun W h => by
    rw [HED.out]
    exact (tagged_any tag A1 m c1 _ W (HR1.out.below h) h.size HM.out HMS.out (HT.out.below (B1.out.trans (h.mono B1.out.size)) HT.out.1)).mono fun e w' ⟨he, hb2⟩ => ⟨he, h.trans (hb2.mono h.size)⟩
  have hRJ : Hid (∀ W G, TJ W1 G dg W → Calls Tryd.prog 21 #[bv tag, .slice A1 m.length c1] W fun e w' => e = .returned (.tuple #[.string S, .int .i64 0]) ∧ TJ W1 G dg w') := Lib.hid fun W G h => by
    rw [HES.out]
    exact (refJoin_any tag A1 m c1 _ W (HR1.out.below h.1) h.1.size HM.out HMS.out).mono fun e w' ⟨he, hb2⟩ => ⟨he, h.below hb2 HDG.out⟩
  clear hr1
  go_wp2_with (first
    | (go_at_call 19; refine (hJ.out _ (Below.refl _ _)).mono ?_; rintro e W2 ⟨rfl, hb2⟩; have B2 := Lib.hid hb2; clear hb2)
    | (go_at_call 20; refine (hTg.out _ B2.out).mono ?_; rintro e W3 ⟨rfl, hb3⟩; have B3 := Lib.hid hb3; clear hb3)
    | (show wpList _ _ _ (⟨none, .store 25 _ _, _, _, _, _⟩ :: _) _ _; refine wpList_store_mid (by rfl) 25 (.tmp 7) (.tmp 23) (by rfl) W3.heap.size 0 (dg.map bv).toArray (by rfl) (by rfl) ((new32 _ _ rfl _).thereA (dg.map bv) (by rw [List.length_map, HDG.out]; rfl)) hi25a.out (all_oneCell_toArray (bvs_oneCell _)) ?_; refine wpl_gen (TJ W1 W3.heap.size dg) (TJ.start B3.out HDG.out _ rfl _) ?_; intro V hV; have HV := Lib.hid hV; clear hV)
    | (go_at_call 21; refine (hRJ.out _ _ HV.out).mono ?_; rintro e W4 ⟨rfl, hb4⟩; have hTJ := hb4; clear hb4))
  have K0 : Hid (∀ W, TJ W1 W3.heap.size dg W → Calls Tryd.prog 14 #[] W fun e w' => e = .returned (.bool true) ∧ TJ W1 W3.heap.size dg w') := Lib.hid fun W h => (known_any W (HT.out.below (B1.out.trans (h.1.mono B1.out.size)) HT.out.1)).mono fun e w' ⟨he, hb⟩ => ⟨he, h.below hb HDG.out⟩
  have K1 : Hid (∀ W, TJ W1 W3.heap.size dg W → Calls Tryd.prog 16 #[.string S] W fun e w' => e = .returned (.agg (dg.map bv).toArray) ∧ TJ W1 W3.heap.size dg w') := Lib.hid fun W h => by
    rw [HED.out, ← HS2.out]
    exact (refSum_any S W (by have := HS3.out; omega)).mono fun e w' ⟨he, hb⟩ => ⟨he, by rw [HS2.out, ← HED.out]; exact h.below hb HDG.out⟩
  refine wp_region_held_drew (S := TJ W1 W3.heap.size dg) (by kernel_rfl) ((TJ.drew hTJ)) (fun hHeld => ?_)
  refine wpAnyH_ready (rs := [0]) (by kernel_rfl) (by simp) ?_
  refine AllReadyH.cons (ops_at rfl) (fun K hK => ?_) AllReadyH.nil
  go_simp
  (go_at_call 14; refine (K0.out _ hHeld).mono ?_; rintro e W' ⟨rfl, hb'⟩)
  refine hK.out _ _ hb' (fun hHeld => ?_)
  clear hK K
  try simp only [Act.put, List.setIfInBounds_toArray, List.set_cons_zero, List.set_cons_succ]
  refine wpAnyH_take (i := 1) (v := ?_) (ops_at rfl) (by kernel_rfl) (by kernel_rfl) (by kernel_rfl) (fun _ _ _ h => h) (Or.inl ⟨by rfl, ?_⟩) hHeld ?_
  rotate_left
  · (intro W hSW; go_simp; try with_reducible rfl)
  try simp only [Act.put, List.setIfInBounds_toArray, List.set_cons_zero, List.set_cons_succ]
  refine wpAnyH_take (i := 2) (v := ?_) (ops_at rfl) (by kernel_rfl) (by kernel_rfl) (by kernel_rfl) (fun _ _ _ h => h) (Or.inl ⟨by rfl, ?_⟩) hHeld ?_
  rotate_left
  · (intro W hSW; go_simp; try with_reducible rfl)
  try simp only [Act.put, List.setIfInBounds_toArray, List.set_cons_zero, List.set_cons_succ]
  refine wpAnyH_take (i := 3) (v := ?_) (ops_at rfl) (by kernel_rfl) (by kernel_rfl) (by kernel_rfl) (fun _ _ _ h => h) (Or.inl ⟨by rfl, ?_⟩) hHeld ?_
  rotate_left
  · (intro W hSW; go_simp; try with_reducible rfl)
  try simp only [Act.put, List.setIfInBounds_toArray, List.set_cons_zero, List.set_cons_succ]
  refine wpAnyH_take (i := 4) (v := ?_) (ops_at rfl) (by kernel_rfl) (by kernel_rfl) (by kernel_rfl) (fun _ _ _ h => h) (Or.inl ⟨by rfl, ?_⟩) hHeld ?_
  rotate_left
  · (intro W hSW; go_simp; try with_reducible rfl)
  try simp only [Act.put, List.setIfInBounds_toArray, List.set_cons_zero, List.set_cons_succ]
  refine wpAnyH_take (i := 5) (v := ?_) (ops_at rfl) (by kernel_rfl) (by kernel_rfl) (by kernel_rfl) (fun _ _ _ h => h) (Or.inl ⟨by rfl, ?_⟩) hHeld ?_
  rotate_left
  · (intro W hSW; go_simp; try with_reducible rfl)
  try simp only [Act.put, List.setIfInBounds_toArray, List.set_cons_zero, List.set_cons_succ]
  refine wpAnyH_take (i := 6) (v := ?_) (ops_at rfl) (by kernel_rfl) (by kernel_rfl) (by kernel_rfl) (fun _ _ _ h => h) (Or.inl ⟨by rfl, ?_⟩) hHeld ?_
  rotate_left
  · (intro W hSW; go_simp; try with_reducible rfl)
  try simp only [Act.put, List.setIfInBounds_toArray, List.set_cons_zero, List.set_cons_succ]
  refine wpAnyH_take (i := 7) (v := ?_) (ops_at rfl) (by kernel_rfl) (by kernel_rfl) (by kernel_rfl) (fun _ _ _ h => h) (Or.inl ⟨by rfl, ?_⟩) hHeld ?_
  rotate_left
  · (intro W hSW; go_simp; try with_reducible rfl)
  try simp only [Act.put, List.setIfInBounds_toArray, List.set_cons_zero, List.set_cons_succ]
  refine wpAnyH_take (i := 8) (v := ?_) (ops_at rfl) (by kernel_rfl) (by kernel_rfl) (by kernel_rfl) (fun _ _ _ h => h) (Or.inl ⟨by rfl, ?_⟩) hHeld ?_
  rotate_left
  · (intro W hSW; go_simp; try with_reducible rfl)
  try simp only [Act.put, List.setIfInBounds_toArray, List.set_cons_zero, List.set_cons_succ]
  refine wpAnyH_take (i := 9) (v := ?_) (ops_at rfl) (by kernel_rfl) (by kernel_rfl) (by kernel_rfl) (fun _ _ _ h => h) (Or.inl ⟨by rfl, ?_⟩) hHeld ?_
  rotate_left
  · (intro W hSW; go_simp; try with_reducible rfl)
  try simp only [Act.put, List.setIfInBounds_toArray, List.set_cons_zero, List.set_cons_succ]
  refine wpAnyH_take (i := 10) (v := ?_) (ops_at rfl) (by kernel_rfl) (by kernel_rfl) (by kernel_rfl) (fun _ _ _ h => h) (Or.inl ⟨by rfl, ?_⟩) hHeld ?_
  rotate_left
  · (intro W hSW; go_simp; try with_reducible rfl)
  try simp only [Act.put, List.setIfInBounds_toArray, List.set_cons_zero, List.set_cons_succ]
  refine wpAnyH_take (i := 11) (v := ?_) (ops_at rfl) (by kernel_rfl) (by kernel_rfl) (by kernel_rfl) (fun _ _ _ h => h) (Or.inl ⟨by rfl, ?_⟩) hHeld ?_
  rotate_left
  · (intro W hSW; go_simp; try with_reducible rfl)
  try simp only [Act.put, List.setIfInBounds_toArray, List.set_cons_zero, List.set_cons_succ]
  refine wpAnyH_take (i := 12) (v := ?_) (ops_at rfl) (by kernel_rfl) (by kernel_rfl) (by kernel_rfl) (fun _ _ _ h => h) (Or.inl ⟨by rfl, ?_⟩) hHeld ?_
  rotate_left
  · (intro W hSW; go_simp; try with_reducible rfl)
  try simp only [Act.put, List.setIfInBounds_toArray, List.set_cons_zero, List.set_cons_succ]
  refine wpAnyH_take (i := 13) (v := ?_) (ops_at rfl) (by kernel_rfl) (by kernel_rfl) (by kernel_rfl) (fun _ _ _ h => h) (Or.inl ⟨by rfl, ?_⟩) hHeld ?_
  rotate_left
  · (intro W hSW; go_simp; try with_reducible rfl)
  try simp only [Act.put, List.setIfInBounds_toArray, List.set_cons_zero, List.set_cons_succ]
  refine wpAnyH_take (i := 14) (v := ?_) (ops_at rfl) (by kernel_rfl) (by kernel_rfl) (by kernel_rfl) (fun _ _ _ h => h) (Or.inl ⟨by rfl, ?_⟩) hHeld ?_
  rotate_left
  · (intro W hSW; go_simp; try with_reducible rfl)
  try simp only [Act.put, List.setIfInBounds_toArray, List.set_cons_zero, List.set_cons_succ]
  refine wpAnyH_take (i := 15) (ops_at rfl) (by kernel_rfl) (by kernel_rfl) (by kernel_rfl) (fun _ _ _ h => h) (yieldsIf_load_mid (by rfl) 25 _ rfl W3.heap.size 0 rfl (dg.map bv) _ (fun _ h => h.2) hu25 rfl hi25) hHeld ?_
  try simp only [Act.put, List.setIfInBounds_toArray, List.set_cons_zero, List.set_cons_succ]
  refine wpAnyH_take (i := 16) (v := ?_) (ops_at rfl) (by kernel_rfl) (by kernel_rfl) (by kernel_rfl) (fun _ _ _ h => h) (Or.inl ⟨by rfl, ?_⟩) hHeld ?_
  rotate_left
  · (intro W hSW; go_simp; try with_reducible rfl)
  try simp only [Act.put, List.setIfInBounds_toArray, List.set_cons_zero, List.set_cons_succ]
  refine wpAnyH_ready (rs := [17]) (by kernel_rfl) (by simp) ?_
  refine AllReadyH.cons (ops_at rfl) (fun K hK => ?_) AllReadyH.nil
  go_simp
  (go_at_call 16; refine (K1.out _ hHeld).mono ?_; rintro e W' ⟨rfl, hb'⟩)
  refine hK.out _ _ hb' (fun hHeld => ?_)
  clear hK K
  try simp only [Act.put, List.setIfInBounds_toArray, List.set_cons_zero, List.set_cons_succ]
  refine wpAnyH_take (i := 18) (v := ?_) (ops_at rfl) (by kernel_rfl) (by kernel_rfl) (by kernel_rfl) (fun _ _ _ h => h) (Or.inl ⟨by rfl, ?_⟩) hHeld ?_
  rotate_left
  · (intro W hSW; go_simp; try with_reducible rfl)
  try simp only [Act.put, List.setIfInBounds_toArray, List.set_cons_zero, List.set_cons_succ]
  refine wpAnyH_take (i := 19) (v := ?_) (ops_at rfl) (by kernel_rfl) (by kernel_rfl) (by kernel_rfl) (fun _ _ _ h => h) (Or.inl ⟨by rfl, ?_⟩) hHeld ?_
  rotate_left
  · (intro W hSW; go_simp; try with_reducible rfl)
  try simp only [Act.put, List.setIfInBounds_toArray, List.set_cons_zero, List.set_cons_succ]
  refine wpAnyH_take (i := 20) (v := ?_) (ops_at rfl) (by kernel_rfl) (by kernel_rfl) (by kernel_rfl) (fun _ _ _ h => h) (Or.inl ⟨by rfl, ?_⟩) hHeld ?_
  rotate_left
  · (intro W hSW; go_simp; try with_reducible rfl)
  try simp only [Act.put, List.setIfInBounds_toArray, List.set_cons_zero, List.set_cons_succ]
  refine wpAnyH_done (by kernel_rfl) ?_ _
  go_wp2
  go_ret
  exact ⟨rfl, B1.out.trans (hHeld.1.mono B1.out.size)⟩
end Go.Proofs.YtedmnepilbfihaaDoor
