/- The walk of the law Sha256Texts: what it says of every digest. -/
import Derived.Test.YtedmnepilbfihaaDoorSTxt
set_option linter.unusedVariables false
namespace Go.Proofs.YtedmnepilbfihaaDoor
open Go.RowKit

theorem ops_at {l : List Oper} {i : Nat} {o : Oper} (h : l[i]? = some o) : (List.toArray l)[i]? = some o := by rw [List.getElem?_toArray]; exact h
theorem texts_two {V : World} {d : List UInt8} (w : World) (hA : Arr V w.heap.size 0 (d.map bv)) (hB : Below w.heap.size w V) (hd : d.length = 32) (z : Array Value) (hz : z = zero32.toArray) (t : TypeId) :
    (Arr ((V.alloc (.cells z t)).setCells V.heap.size 0 (d.map bv)) w.heap.size 0 (d.map bv) ∧ Arr ((V.alloc (.cells z t)).setCells V.heap.size 0 (d.map bv)) V.heap.size 0 (d.map bv) ∧ Below w.heap.size w ((V.alloc (.cells z t)).setCells V.heap.size 0 (d.map bv))) ∧ w.heap.size ≤ V.heap.size := by
  subst hz
  have hl := hA.lt (by rw [List.length_map, hd]; omega)
  refine ⟨⟨(hA.alloc _).sets_other _ _ _ (.inl (by omega)), (Arr.new V zero32 t).sets _ (by rw [List.length_map, hd]; rfl), below_setCells _ (by omega) _ _ _ (hB.alloc (by omega) _)⟩, by omega⟩

theorem range_below {W W' : World} {G : Nat} {cs : List Value} (h : W.rangeAt G 0 cs) (h0 : 0 < cs.length) (hb : Below W.heap.size W W') : W'.rangeAt G 0 cs := fun j v hj => by
  have h1 := World.block_lt_of_cell? W (a := ⟨G, 0 + j, none⟩) (h j v hj)
  exact (hb.cell (p := ⟨G, 0 + j, none⟩) h1).trans (h j v hj)
/-- What the last region stands on. -/
def TS (w : World) (G : Nat) (d : List UInt8) (W : World) : Prop := Below w.heap.size w W ∧ W.rangeAt w.heap.size 0 (d.map bv) ∧ W.rangeAt G 0 (d.map bv)
theorem TS.below {w : World} {G : Nat} {d : List UInt8} {W W' : World} (h : TS w G d W) (hb : Below W.heap.size W W') (hd : d.length = 32) : TS w G d W' :=
  ⟨h.1.trans (hb.mono h.1.size), range_below h.2.1 (by rw [List.length_map, hd]; omega) hb, range_below h.2.2 (by rw [List.length_map, hd]; omega) hb⟩

set_option maxHeartbeats 2000000 in
set_option maxRecDepth 100000 in
theorem sha256Texts_walk (d : List UInt8) (w : World) (hT : Tab w) (hd : d.length = 32) :
    Calls Tryd.prog 8 #[.agg (d.map bv).toArray] w fun e w' => e = .returned (.bool true) ∧ Below w.heap.size w w' := by
  obtain ⟨X, eX⟩ : ∃ X, X = (⟨(hexOf d).toArray⟩ : ByteArray) := ⟨_, rfl⟩
  have hXs : X.size = 64 := by rw [eX]; show (hexOf d).toArray.size = 64; rw [List.size_toArray, hexOf_length, hd]
  have hXl : X.data.toList = hexOf d := by rw [eX]
  have H1 : Hid (∀ W, Calls Tryd.prog 24 #[.agg (d.map bv).toArray] W fun e w' => e = .returned (.string X) ∧ Below W.heap.size W w') := Lib.hid fun W => by rw [eX]; exact string_any d W hd
  have H2 : Hid (∀ W, Calls Tryd.prog 25 #[.string X] W fun e w' => e = .returned (.tuple #[.agg (d.map bv).toArray, .int .i64 0, .int .i64 0]) ∧ Below W.heap.size W w') := Lib.hid fun W => by
    have h := parse_any X W (by omega)
    rw [hXl, parse_hex d hd] at h
    exact h
  have H3 : Hid (∀ W, Tab W → Calls Tryd.prog 14 #[] W fun e w' => e = .returned (.bool true) ∧ Below W.heap.size W w') := Lib.hid fun W h => known_any W h
  have H4 : Hid (∀ W, Calls Tryd.prog 26 #[.agg (d.map bv).toArray] W fun e w' => e = .returned (.string X) ∧ Below W.heap.size W w') := Lib.hid fun W => by rw [eX]; exact refText_any d W hd
  obtain ⟨r, hr⟩ : ∃ r, r = (d == zs 32) := ⟨_, rfl⟩
  have H5 : Hid (∀ W, Calls Tryd.prog 27 #[.agg (d.map bv).toArray] W fun e w' => e = .returned (.bool r) ∧ Below W.heap.size W w') := Lib.hid fun W => by rw [hr]; exact isZero_any d W hd
  have heq1 : ∀ W, (binOp .eql 24 (.agg (d.map bv).toArray) (.agg (d.map bv).toArray)).run Tryd.prog W = .ok (.bool true) W := fun W => by
    rw [eq_arr d d hd hd W]; simp
  have heq0 : ∀ W, (binOp .eql 24 (.agg (d.map bv).toArray) (.agg #[.int .u8 0, .int .u8 0, .int .u8 0, .int .u8 0, .int .u8 0, .int .u8 0, .int .u8 0, .int .u8 0, .int .u8 0, .int .u8 0, .int .u8 0, .int .u8 0, .int .u8 0, .int .u8 0, .int .u8 0, .int .u8 0, .int .u8 0, .int .u8 0, .int .u8 0, .int .u8 0, .int .u8 0, .int .u8 0, .int .u8 0, .int .u8 0, .int .u8 0, .int .u8 0, .int .u8 0, .int .u8 0, .int .u8 0, .int .u8 0, .int .u8 0, .int .u8 0])).run Tryd.prog W = .ok (.bool r) W := fun W => by
    have h := eq_arr d (zs 32) hd zs32_length W
    rw [zero32_bv] at h; rw [hr]; exact h
  have hi24 : (Tryd.prog.info? 24).map (·.size) = some (d.map bv).length := by rw [info32r, List.length_map, hd]
  have hi25 : (Tryd.prog.info? 25).map (·.size) = some (d.map bv).length := by rw [info32, List.length_map, hd]
  have hi25a : Hid ((Tryd.prog.info? 25).map (·.size) = some (d.map bv).toArray.size) := Lib.hid (by rw [info32, List.size_toArray, List.length_map, hd])
  have hu24 := Tryd.underlying24
  have hu25 := Tryd.underlying25
  have HT := Lib.hid hT
  have HD := Lib.hid hd
  have HR := Lib.hid hr
  have HXS := Lib.hid hXs
  clear eX hXs hXl hT hd hr
  go_enter Tryd.func8, Tryd.ntmps8
  go_wp2_with (first
    | (show wpList _ _ _ (⟨some 7, _, _, _, _, _⟩ :: _) _ _; refine wpl_gen (fun V => Arr V w.heap.size 0 (d.map bv) ∧ Below w.heap.size w V) ⟨Arr.new w (d.map bv) _, below_alloc0 _ _ (Nat.le_refl _)⟩ ?_; rintro V0 ⟨a0, b0⟩; refine wpList_load_mid (by rfl) 24 (.tmp 1) (by rfl) w.heap.size 0 (by rfl) (d.map bv) _ a0.1 Tryd.underlying24 rfl hi24 ?_; have A0 := Lib.hid a0; have B0 := Lib.hid b0; clear a0 b0)
    | (go_at_call 24; refine (H1.out _).mono ?_; rintro e V1 ⟨rfl, hb1⟩; have B1 := Lib.hid hb1; clear hb1)
    | (go_at_call 25; refine (H2.out _).mono ?_; rintro e V2 ⟨rfl, hb2⟩; have B2 := Lib.hid hb2; clear hb2)
    | (show wpList _ _ _ (⟨none, .store 25 _ _, _, _, _, _⟩ :: _) _ _; refine wpList_store_mid (by rfl) 25 (.tmp 4) (.tmp 12) (by rfl) V2.heap.size 0 (d.map bv).toArray (by rfl) (by rfl) ((new32 _ _ rfl _).thereA (d.map bv) (by rw [List.length_map, HD.out]; rfl)) hi25a.out (all_oneCell_toArray (bvs_oneCell _)) ?_))
  obtain ⟨G, hG⟩ : ∃ G, G = V2.heap.size := ⟨_, rfl⟩
  refine cwp_gen (fun V => Arr V w.heap.size 0 (d.map bv) ∧ Arr V V2.heap.size 0 (d.map bv) ∧ Below w.heap.size w V) (texts_two w ((A0.out.below B1.out (A0.out.lt (by rw [List.length_map, HD.out]; omega))).below B2.out (Nat.lt_of_lt_of_le (A0.out.lt (by rw [List.length_map, HD.out]; omega)) B1.out.size)) ((B0.out.trans (B1.out.mono B0.out.size)).trans (B2.out.mono (Nat.le_trans B0.out.size B1.out.size))) HD.out _ rfl _).1 ?_
  rintro V ⟨a1, a2, aB⟩
  rw [← hG] at a2 ⊢
  clear hG
  have hs0 : Below w.heap.size w V := aB
  have hs1 : V.rangeAt w.heap.size 0 (d.map bv) := a1.1
  have hs2 : V.rangeAt G 0 (d.map bv) := a2.1
  have K3 : Hid (∀ W, TS w G d W → Calls Tryd.prog 14 #[] W fun e w' => e = .returned (.bool true) ∧ TS w G d w') := Lib.hid fun W h => (H3.out W (HT.out.below h.1 HT.out.1)).mono fun e w' ⟨he, hb⟩ => ⟨he, h.below hb HD.out⟩
  have K4 : Hid (∀ W, TS w G d W → Calls Tryd.prog 26 #[.agg (d.map bv).toArray] W fun e w' => e = .returned (.string X) ∧ TS w G d w') := Lib.hid fun W h => (H4.out W).mono fun e w' ⟨he, hb⟩ => ⟨he, h.below hb HD.out⟩
  have K5 : Hid (∀ W, TS w G d W → Calls Tryd.prog 27 #[.agg (d.map bv).toArray] W fun e w' => e = .returned (.bool r) ∧ TS w G d w') := Lib.hid fun W h => (H5.out W).mono fun e w' ⟨he, hb⟩ => ⟨he, h.below hb HD.out⟩
  clear a1 a2 aB
  refine wp_region_held_drew (S := TS w G d) (by kernel_rfl) ((⟨Below.drew hs0, (World.rangeAt_drew _ _ _ _).2 hs1, (World.rangeAt_drew _ _ _ _).2 hs2⟩ : TS w G d V.drew)) (fun hHeld => ?_)
  refine wpAnyH_ready (rs := [0]) (by kernel_rfl) (by simp) ?_
  refine AllReadyH.cons (ops_at rfl) (fun K hK => ?_) AllReadyH.nil
  go_simp
  (go_at_call 14; refine (K3.out _ hHeld).mono ?_; rintro e W' ⟨rfl, hb'⟩)
  refine hK.out _ _ hb' (fun hHeld => ?_)
  clear hK K
  try simp only [Act.put, List.setIfInBounds_toArray, List.set_cons_zero, List.set_cons_succ]
  refine wpAnyH_take (i := 1) (v := ?_) (ops_at rfl) (by kernel_rfl) (by kernel_rfl) (by kernel_rfl) (fun _ _ _ h => h) (Or.inl ⟨by rfl, ?_⟩) hHeld ?_
  rotate_left
  · (intro W hSW; go_simp; try with_reducible rfl)
  try simp only [Act.put, List.setIfInBounds_toArray, List.set_cons_zero, List.set_cons_succ]
  refine wpAnyH_take (i := 2) (v := ?_) (ops_at rfl) (by kernel_rfl) (by kernel_rfl) (by kernel_rfl) (fun _ _ _ h => h) (Or.inl ⟨by rfl, ?_⟩) hHeld ?_
  rotate_left
  · (intro W hSW; go_simp; try with_reducible rfl)
  try simp only [Act.put, List.setIfInBounds_toArray, List.set_cons_zero, List.set_cons_succ]
  refine wpAnyH_take (i := 3) (ops_at rfl) (by kernel_rfl) (by kernel_rfl) (by kernel_rfl) (fun _ _ _ h => h) (yieldsIf_load_mid (by rfl) 24 _ rfl w.heap.size 0 rfl (d.map bv) _ (fun _ h => h.2.1) hu24 rfl hi24) hHeld ?_
  try simp only [Act.put, List.setIfInBounds_toArray, List.set_cons_zero, List.set_cons_succ]
  refine wpAnyH_ready (rs := [4]) (by kernel_rfl) (by simp) ?_
  refine AllReadyH.cons (ops_at rfl) (fun K hK => ?_) AllReadyH.nil
  go_simp
  (go_at_call 26; refine (K4.out _ hHeld).mono ?_; rintro e W' ⟨rfl, hb'⟩)
  refine hK.out _ _ hb' (fun hHeld => ?_)
  clear hK K
  try simp only [Act.put, List.setIfInBounds_toArray, List.set_cons_zero, List.set_cons_succ]
  refine wpAnyH_take (i := 5) (v := ?_) (ops_at rfl) (by kernel_rfl) (by kernel_rfl) (by kernel_rfl) (fun _ _ _ h => h) (Or.inl ⟨by rfl, ?_⟩) hHeld ?_
  rotate_left
  · (intro W hSW; go_simp; try with_reducible rfl)
  try simp only [Act.put, List.setIfInBounds_toArray, List.set_cons_zero, List.set_cons_succ]
  refine wpAnyH_take (i := 6) (v := ?_) (ops_at rfl) (by kernel_rfl) (by kernel_rfl) (by kernel_rfl) (fun _ _ _ h => h) (Or.inl ⟨by rfl, ?_⟩) hHeld ?_
  rotate_left
  · (intro W hSW; go_simp; try with_reducible rfl)
  try simp only [Act.put, List.setIfInBounds_toArray, List.set_cons_zero, List.set_cons_succ]
  refine wpAnyH_take (i := 7) (v := ?_) (ops_at rfl) (by kernel_rfl) (by kernel_rfl) (by kernel_rfl) (fun _ _ _ h => h) (Or.inl ⟨by rfl, ?_⟩) hHeld ?_
  rotate_left
  · (intro W hSW; go_simp; try with_reducible rfl)
  try simp only [Act.put, List.setIfInBounds_toArray, List.set_cons_zero, List.set_cons_succ]
  refine wpAnyH_take (i := 8) (ops_at rfl) (by kernel_rfl) (by kernel_rfl) (by kernel_rfl) (fun _ _ _ h => h) (yieldsIf_load_mid (by rfl) 25 _ rfl G 0 rfl (d.map bv) _ (fun _ h => h.2.2) hu25 rfl hi25) hHeld ?_
  try simp only [Act.put, List.setIfInBounds_toArray, List.set_cons_zero, List.set_cons_succ]
  refine wpAnyH_take (i := 9) (ops_at rfl) (by kernel_rfl) (by kernel_rfl) (by kernel_rfl) (fun _ _ _ h => h) (yieldsIf_load_mid (by rfl) 24 _ rfl w.heap.size 0 rfl (d.map bv) _ (fun _ h => h.2.1) hu24 rfl hi24) hHeld ?_
  try simp only [Act.put, List.setIfInBounds_toArray, List.set_cons_zero, List.set_cons_succ]
  refine wpAnyH_take (i := 10) (v := ?_) (ops_at rfl) (by kernel_rfl) (by kernel_rfl) (by kernel_rfl) (fun _ _ _ h => h) (Or.inl ⟨by rfl, ?_⟩) hHeld ?_
  rotate_left
  · (intro W hSW; go_simp; try with_reducible rfl)
  try simp only [Act.put, List.setIfInBounds_toArray, List.set_cons_zero, List.set_cons_succ]
  refine wpAnyH_take (i := 11) (v := ?_) (ops_at rfl) (by kernel_rfl) (by kernel_rfl) (by kernel_rfl) (fun _ _ _ h => h) (Or.inl ⟨by rfl, ?_⟩) hHeld ?_
  rotate_left
  · (intro W hSW; go_simp; try with_reducible rfl)
  try simp only [Act.put, List.setIfInBounds_toArray, List.set_cons_zero, List.set_cons_succ]
  refine wpAnyH_take (i := 12) (v := ?_) (ops_at rfl) (by kernel_rfl) (by kernel_rfl) (by kernel_rfl) (fun _ _ _ h => h) (Or.inl ⟨by rfl, ?_⟩) hHeld ?_
  rotate_left
  · (intro W hSW; go_simp; try with_reducible rfl)
  try simp only [Act.put, List.setIfInBounds_toArray, List.set_cons_zero, List.set_cons_succ]
  refine wpAnyH_take (i := 13) (v := ?_) (ops_at rfl) (by kernel_rfl) (by kernel_rfl) (by kernel_rfl) (fun _ _ _ h => h) (Or.inl ⟨by rfl, ?_⟩) hHeld ?_
  rotate_left
  · (intro W hSW; go_simp; try with_reducible rfl)
  try simp only [Act.put, List.setIfInBounds_toArray, List.set_cons_zero, List.set_cons_succ]
  refine wpAnyH_take (i := 14) (v := ?_) (ops_at rfl) (by kernel_rfl) (by kernel_rfl) (by kernel_rfl) (fun _ _ _ h => h) (Or.inl ⟨by rfl, ?_⟩) hHeld ?_
  rotate_left
  · (intro W hSW; go_simp; try with_reducible rfl)
  try simp only [Act.put, List.setIfInBounds_toArray, List.set_cons_zero, List.set_cons_succ]
  refine wpAnyH_take (i := 15) (v := ?_) (ops_at rfl) (by kernel_rfl) (by kernel_rfl) (by kernel_rfl) (fun _ _ _ h => h) (Or.inl ⟨by rfl, ?_⟩) hHeld ?_
  rotate_left
  · (intro W hSW; go_simp; try with_reducible rfl)
  try simp only [Act.put, List.setIfInBounds_toArray, List.set_cons_zero, List.set_cons_succ]
  refine wpAnyH_take (i := 16) (v := ?_) (ops_at rfl) (by kernel_rfl) (by kernel_rfl) (by kernel_rfl) (fun _ _ _ h => h) (Or.inl ⟨by rfl, ?_⟩) hHeld ?_
  rotate_left
  · (intro W hSW; go_simp; try with_reducible rfl)
  try simp only [Act.put, List.setIfInBounds_toArray, List.set_cons_zero, List.set_cons_succ]
  refine wpAnyH_take (i := 17) (v := ?_) (ops_at rfl) (by kernel_rfl) (by kernel_rfl) (by kernel_rfl) (fun _ _ _ h => h) (Or.inl ⟨by rfl, ?_⟩) hHeld ?_
  rotate_left
  · (intro W hSW; go_simp; try with_reducible rfl)
  try simp only [Act.put, List.setIfInBounds_toArray, List.set_cons_zero, List.set_cons_succ]
  refine wpAnyH_take (i := 18) (v := ?_) (ops_at rfl) (by kernel_rfl) (by kernel_rfl) (by kernel_rfl) (fun _ _ _ h => h) (Or.inl ⟨by rfl, ?_⟩) hHeld ?_
  rotate_left
  · (intro W hSW; go_simp; try with_reducible rfl)
  try simp only [Act.put, List.setIfInBounds_toArray, List.set_cons_zero, List.set_cons_succ]
  refine wpAnyH_take (i := 19) (v := ?_) (ops_at rfl) (by kernel_rfl) (by kernel_rfl) (by kernel_rfl) (fun _ _ _ h => h) (Or.inl ⟨by rfl, ?_⟩) hHeld ?_
  rotate_left
  · (intro W hSW; go_simp; try with_reducible rfl)
  try simp only [Act.put, List.setIfInBounds_toArray, List.set_cons_zero, List.set_cons_succ]
  refine wpAnyH_take (i := 20) (v := ?_) (ops_at rfl) (by kernel_rfl) (by kernel_rfl) (by kernel_rfl) (fun _ _ _ h => h) (Or.inl ⟨by rfl, ?_⟩) hHeld ?_
  rotate_left
  · (intro W hSW; go_simp; try with_reducible rfl)
  try simp only [Act.put, List.setIfInBounds_toArray, List.set_cons_zero, List.set_cons_succ]
  refine wpAnyH_take (i := 21) (ops_at rfl) (by kernel_rfl) (by kernel_rfl) (by kernel_rfl) (fun _ _ _ h => h) (yieldsIf_load_mid (by rfl) 24 _ rfl w.heap.size 0 rfl (d.map bv) _ (fun _ h => h.2.1) hu24 rfl hi24) hHeld ?_
  try simp only [Act.put, List.setIfInBounds_toArray, List.set_cons_zero, List.set_cons_succ]
  refine wpAnyH_take (i := 23) (ops_at rfl) (by kernel_rfl) (by kernel_rfl) (by kernel_rfl) (fun _ _ _ h => h) (yieldsIf_load_mid (by rfl) 24 _ rfl w.heap.size 0 rfl (d.map bv) _ (fun _ h => h.2.1) hu24 rfl hi24) hHeld ?_
  try simp only [Act.put, List.setIfInBounds_toArray, List.set_cons_zero, List.set_cons_succ]
  refine wpAnyH_take (i := 24) (v := ?_) (ops_at rfl) (by kernel_rfl) (by kernel_rfl) (by kernel_rfl) (fun _ _ _ h => h) (Or.inl ⟨by rfl, ?_⟩) hHeld ?_
  rotate_left
  · (intro W hSW; go_simp; try with_reducible rfl)
  try simp only [Act.put, List.setIfInBounds_toArray, List.set_cons_zero, List.set_cons_succ]
  refine wpAnyH_take (i := 25) (v := ?_) (ops_at rfl) (by kernel_rfl) (by kernel_rfl) (by kernel_rfl) (fun _ _ _ h => h) (Or.inl ⟨by rfl, ?_⟩) hHeld ?_
  rotate_left
  · (intro W hSW; go_simp; try with_reducible rfl)
  try simp only [Act.put, List.setIfInBounds_toArray, List.set_cons_zero, List.set_cons_succ]
  refine wpAnyH_ready (rs := [22]) (by kernel_rfl) (by simp) ?_
  refine AllReadyH.cons (ops_at rfl) (fun K hK => ?_) AllReadyH.nil
  go_simp
  (go_at_call 27; refine (K5.out _ hHeld).mono ?_; rintro e W' ⟨rfl, hb'⟩)
  refine hK.out _ _ hb' (fun hHeld => ?_)
  clear hK K
  try simp only [Act.put, List.setIfInBounds_toArray, List.set_cons_zero, List.set_cons_succ]
  refine wpAnyH_take (i := 26) (v := ?_) (ops_at rfl) (by kernel_rfl) (by kernel_rfl) (by kernel_rfl) (fun _ _ _ h => h) (Or.inl ⟨by rfl, ?_⟩) hHeld ?_
  rotate_left
  · (intro W hSW; go_simp; try with_reducible rfl)
  try simp only [Act.put, List.setIfInBounds_toArray, List.set_cons_zero, List.set_cons_succ]
  refine wpAnyH_take (i := 27) (v := ?_) (ops_at rfl) (by kernel_rfl) (by kernel_rfl) (by kernel_rfl) (fun _ _ _ h => h) (Or.inl ⟨by rfl, ?_⟩) hHeld ?_
  rotate_left
  · (intro W hSW; go_simp; try with_reducible rfl)
  try simp only [Act.put, List.setIfInBounds_toArray, List.set_cons_zero, List.set_cons_succ]
  refine wpAnyH_take (i := 28) (v := ?_) (ops_at rfl) (by kernel_rfl) (by kernel_rfl) (by kernel_rfl) (fun _ _ _ h => h) (Or.inl ⟨by rfl, ?_⟩) hHeld ?_
  rotate_left
  · (intro W hSW; go_simp; try with_reducible rfl)
  try simp only [Act.put, List.setIfInBounds_toArray, List.set_cons_zero, List.set_cons_succ]
  refine wpAnyH_done (by kernel_rfl) ?_ _
  go_wp2
  go_ret
  exact ⟨rfl, hHeld.1⟩
end Go.Proofs.YtedmnepilbfihaaDoor
