/- The walk of the law Sha256Many: what it says of every tag and count. -/
import Derived.Test.YtedmnepilbfihaaDoorSJoins
import Derived.Test.YtedmnepilbfihaaDoorSLens
set_option linter.unusedVariables false
namespace Go.Proofs.YtedmnepilbfihaaDoor
open Go.RowKit

theorem rep_size (n : Nat) : ∀ s ∈ List.replicate n (⟨#[]⟩ : ByteArray), s.size ≤ 100 := by
  intro s hs; rw [List.eq_of_mem_replicate hs]; decide
theorem flat_rep (n : Nat) : ((List.replicate n (⟨#[]⟩ : ByteArray)).flatMap partS).length = 4 * n := by
  induction n with
  | zero => rfl
  | succ n ih =>
    rw [List.replicate_succ, List.flatMap_cons, List.length_append, partS_length, ih]
    show (0 + 4) + 4 * n = _
    omega
/-- The list that was made lies in the first new block. -/
def MK (w : World) (n : Nat) (V : World) : Prop := Below w.heap.size w V ∧ RT V (w.heap.size + 1) (some ⟨w.heap.size, 0, none⟩) (List.replicate n ⟨#[]⟩) ∧ w.heap.size + 1 ≤ V.heap.size
theorem mk_new (w : World) (n : Nat) (t : TypeId) : MK w n (w.alloc (.cells (madeCells #[Value.string ⟨#[]⟩] n) t)) := by
  refine ⟨below_alloc0 _ _ (Nat.le_refl _), fun hn => ⟨w.heap.size, 0, rfl, by omega, fun j s hj => ?_⟩, by simp⟩
  rw [List.getElem?_replicate] at hj
  split at hj
  · obtain rfl := Option.some.inj hj
    rw [World.cell?_alloc_at _ _ _ _ rfl]
    have hj2 : j < n := by assumption
    simp [madeCells, hj2, Nat.mod_one]
  · cases hj
theorem eq_dgt (xs ys : List UInt8) (hx : xs.length = 32) (hy : ys.length = 32) (w : World) :
    (binOp .eql 25 (.agg (xs.map bv).toArray) (.agg (ys.map bv).toArray)).run Tryd.prog w = .ok (.bool (xs == ys)) w :=
  run_eql_bytes w 25 5 32 Tryd.underlying25 Tryd.underlying5 size1 xs ys hx hy

set_option maxHeartbeats 2000000 in
set_option maxRecDepth 100000 in
theorem many_long (tag : UInt8) (k n : Nat) (hk : k ≤ 255) (hn : n = 258 - k % 8) (h255 : 255 < n) (w : World) (hT : Tab w) :
    Calls Tryd.prog 7 #[bv tag, .int .u8 (k : Int)] w fun e w' => e = .returned (.bool true) ∧ Below w.heap.size w w' := by
  obtain ⟨dg, edg⟩ : ∃ d, d = zs 32 := ⟨_, rfl⟩
  have hdg : dg.length = 32 := by rw [edg]; exact zs32_length
  have heq0 : ∀ W, (binOp .eql 25 (.agg (dg.map bv).toArray) (.agg #[.int .u8 0, .int .u8 0, .int .u8 0, .int .u8 0, .int .u8 0, .int .u8 0, .int .u8 0, .int .u8 0, .int .u8 0, .int .u8 0, .int .u8 0, .int .u8 0, .int .u8 0, .int .u8 0, .int .u8 0, .int .u8 0, .int .u8 0, .int .u8 0, .int .u8 0, .int .u8 0, .int .u8 0, .int .u8 0, .int .u8 0, .int .u8 0, .int .u8 0, .int .u8 0, .int .u8 0, .int .u8 0, .int .u8 0, .int .u8 0, .int .u8 0, .int .u8 0])).run Tryd.prog W = .ok (.bool true) W := fun W => by
    have h := eq_dgt dg (zs 32) hdg zs32_length W
    rw [zero32_bv] at h
    rw [edg] at h ⊢; rw [show (zs 32 == zs 32) = true by simp] at h; exact h
  have hg : (255 : Int) < (n : Int) := by omega
  have HZ := Lib.hid edg
  clear edg
  have hb0 : (0 : Int) ≤ 258 - (k : Int) % 8 := by omega
  obtain ⟨i, hi, hz, hsz, hb⟩ := tsl.parts
  have hmk : ∀ W : World, (Instr.makeSlice 32 (.int .i64 (258 - (k : Int) % 8)) (.int .i64 (258 - (k : Int) % 8))).run Tryd.prog W = .ok (.slice (some ⟨W.heap.size, 0, none⟩) n n) (W.alloc (.cells (madeCells #[Value.string ⟨#[]⟩] n) 9)) := fun W => by
    have h := run_make (P := Tryd.prog) W 32 9 i (.string ⟨#[]⟩) tsl.u hi hz .i64 .i64 (258 - (k : Int) % 8) (258 - (k : Int) % 8) (by omega) (by omega) (by rw [hb]; omega) (by omega)
    rw [h, hsz, Nat.mul_one, show (258 - (k : Int) % 8).toNat = n by omega]
    rfl
  have hi25a : Hid ((Tryd.prog.info? 25).map (·.size) = some (dg.map bv).toArray.size) := Lib.hid (by rw [info32, List.size_toArray, List.length_map, hdg])
  have HDG := Lib.hid hdg
  have HT := Lib.hid hT
  have HN := Lib.hid hn
  clear hi hz hsz hb hT hn
  go_enter Tryd.func7, Tryd.ntmps7
  go_wp2_with fail
  refine calls_gen (MK w n) (mk_new w n _) ?_
  intro V hMK
  have HM := Lib.hid hMK
  have hJ : Hid (∀ W, Below V.heap.size V W → Calls Tryd.prog 19 #[bv tag, .slice (some ⟨w.heap.size, 0, none⟩) n n] W fun e w' => e = .returned (.tuple #[.string ⟨#[]⟩, .int .i64 9]) ∧ Below V.heap.size V w') := Lib.hid fun W h => by
    have h2 := join_long tag (some ⟨w.heap.size, 0, none⟩) (List.replicate n ⟨#[]⟩) n W (by rw [List.length_replicate]; exact h255)
    rw [List.length_replicate] at h2
    exact h2.mono fun e w' ⟨he, hb2⟩ => ⟨he, by rw [← hb2]; exact h⟩
  have hTg : Hid (∀ W, Below V.heap.size V W → Calls Tryd.prog 20 #[bv tag, .slice (some ⟨w.heap.size, 0, none⟩) n n] W fun e w' => e = .returned (.tuple #[.agg (dg.map bv).toArray, .int .i64 9]) ∧ Below V.heap.size V w') := Lib.hid fun W h => by
    have h2 := tagged_long tag (some ⟨w.heap.size, 0, none⟩) (List.replicate n ⟨#[]⟩) n W (by rw [List.length_replicate]; exact h255)
    rw [List.length_replicate] at h2
    exact h2.mono fun e w' ⟨he, hb2⟩ => ⟨by rw [he, HZ.out, zero32_bv], h.trans (hb2.mono h.size)⟩
  clear hMK
  refine (hJ.out _ (Below.refl _ _)).mono ?_
  rintro e W2 ⟨rfl, hb2⟩
  have B2 := Lib.hid hb2
  clear hb2 hmk
  go_wp2_with (first
    | (go_at_call 20; refine (hTg.out _ B2.out).mono ?_; rintro e W3 ⟨rfl, hb3⟩; have B3 := Lib.hid hb3; clear hb3)
    | (show wpList _ _ _ (⟨none, .store 25 _ _, _, _, _, _⟩ :: _) _ _; refine wpList_store_mid (by rfl) 25 (.tmp 8) (.tmp 25) (by rfl) W3.heap.size 0 (dg.map bv).toArray (by rfl) (by rfl) ((new32 _ _ rfl _).thereA (dg.map bv) (by rw [List.length_map, HDG.out]; rfl)) hi25a.out (all_oneCell_toArray (bvs_oneCell _)) ?_; refine wpl_gen (TJ V W3.heap.size dg) (TJ.start B3.out HDG.out _ rfl _) ?_; intro V4 hV; have HV := Lib.hid hV; clear hV))
  have hi25 : (Tryd.prog.info? 25).map (·.size) = some (dg.map bv).length := by rw [info32, List.length_map, HDG.out]
  have hu25 := Tryd.underlying25
  have K0 : Hid (∀ W, TJ V W3.heap.size dg W → Calls Tryd.prog 14 #[] W fun e w' => e = .returned (.bool true) ∧ TJ V W3.heap.size dg w') := Lib.hid fun W h => (known_any W (HT.out.below (HM.out.1.trans (h.1.mono HM.out.1.size)) HT.out.1)).mono fun e w' ⟨he, hb⟩ => ⟨he, h.below hb HDG.out⟩
  go_wp2_with (first
    | (go_at_call 14; refine (K0.out _ HV.out).mono ?_; rintro e W5 ⟨rfl, hb5⟩; have T5 := Lib.hid hb5; clear hb5)
    | (show wpList _ _ _ (⟨some 40, _, _, _, _, _⟩ :: _) _ _; refine wpList_load_midG (by rfl) 25 (.tmp 8) (by rfl) W3.heap.size 0 (by rfl) (dg.map bv) _ T5.out.2 Tryd.underlying25 rfl hi25 ?_))
  go_ret
  exact ⟨rfl, HM.out.1.trans (T5.out.1.mono HM.out.1.size)⟩

set_option maxHeartbeats 2000000 in
set_option maxRecDepth 100000 in
theorem many_ok (tag : UInt8) (k n : Nat) (hk : k ≤ 255) (hn : n = 258 - k % 8) (h255 : n ≤ 255) (w : World) (hT : Tab w) :
    Calls Tryd.prog 7 #[bv tag, .int .u8 (k : Int)] w fun e w' => e = .returned (.bool true) ∧ Below w.heap.size w w' := by
  obtain ⟨dg, edg⟩ : ∃ d, d = sumS (joinS tag (List.replicate n ⟨#[]⟩)) := ⟨_, rfl⟩
  have hdg : dg.length = 32 := by rw [edg]; exact sumS_length _
  obtain ⟨S, eS⟩ : ∃ S : ByteArray, S = ⟨(joinS tag (List.replicate n ⟨#[]⟩)).toArray⟩ := ⟨_, rfl⟩
  have hS : S.size = 2 + 4 * n := by
    rw [eS]; show (joinS tag (List.replicate n ⟨#[]⟩)).toArray.size = _
    rw [List.size_toArray]; unfold joinS
    simp only [List.length_cons, flat_rep]; omega
  have hSb : ((S.size : Int) == 2 + 4 * (n : Int)) = true := by rw [hS]; simp
  have heq25 : ∀ W, (binOp .eql 24 (.agg (dg.map bv).toArray) (.agg (dg.map bv).toArray)).run Tryd.prog W = .ok (.bool true) W := fun W => by
    rw [eq_arr dg dg hdg hdg W]; simp
  have hg : ¬ (255 : Int) < (n : Int) := by omega
  have hw1 : IntKind.i64.wrap (4 * (n : Int)) = 4 * (n : Int) := by rw [IntKind.wrap_i64]; omega
  have hw2 : IntKind.i64.wrap (2 + 4 * (n : Int)) = 2 + 4 * (n : Int) := by rw [IntKind.wrap_i64]; omega
  have HED := Lib.hid edg
  have HES := Lib.hid eS
  clear edg eS hS
  have hb0 : (0 : Int) ≤ 258 - (k : Int) % 8 := by omega
  obtain ⟨i, hi, hz, hsz, hb⟩ := tsl.parts
  have hmk : ∀ W : World, (Instr.makeSlice 32 (.int .i64 (258 - (k : Int) % 8)) (.int .i64 (258 - (k : Int) % 8))).run Tryd.prog W = .ok (.slice (some ⟨W.heap.size, 0, none⟩) n n) (W.alloc (.cells (madeCells #[Value.string ⟨#[]⟩] n) 9)) := fun W => by
    have h := run_make (P := Tryd.prog) W 32 9 i (.string ⟨#[]⟩) tsl.u hi hz .i64 .i64 (258 - (k : Int) % 8) (258 - (k : Int) % 8) (by omega) (by omega) (by rw [hb]; omega) (by omega)
    rw [h, hsz, Nat.mul_one, show (258 - (k : Int) % 8).toNat = n by omega]
    rfl
  have hi25a : Hid ((Tryd.prog.info? 25).map (·.size) = some (dg.map bv).toArray.size) := Lib.hid (by rw [info32, List.size_toArray, List.length_map, hdg])
  have HDG := Lib.hid hdg
  have HT := Lib.hid hT
  have HN := Lib.hid hn
  clear hi hz hsz hb hT hn
  go_enter Tryd.func7, Tryd.ntmps7
  go_wp2_with fail
  refine calls_gen (MK w n) (mk_new w n _) ?_
  intro V hMK
  have HM := Lib.hid hMK
  have hJ : Hid (∀ W, Below V.heap.size V W → Calls Tryd.prog 19 #[bv tag, .slice (some ⟨w.heap.size, 0, none⟩) n n] W fun e w' => e = .returned (.tuple #[.string S, .int .i64 0]) ∧ Below V.heap.size V w') := Lib.hid fun W h => by
    have h2 := join_any tag (some ⟨w.heap.size, 0, none⟩) (List.replicate n ⟨#[]⟩) n (w.heap.size + 1) W (hMK.2.1.below (h.mono hMK.2.2)) (Nat.le_trans hMK.2.2 h.size) (by rw [List.length_replicate]; omega) (rep_size n)
    rw [List.length_replicate, ← HES.out] at h2
    exact h2.mono fun e w' ⟨he, hb2⟩ => ⟨he, h.trans (hb2.mono h.size)⟩
  have hTg : Hid (∀ W, Below V.heap.size V W → Calls Tryd.prog 20 #[bv tag, .slice (some ⟨w.heap.size, 0, none⟩) n n] W fun e w' => e = .returned (.tuple #[.agg (dg.map bv).toArray, .int .i64 0]) ∧ Below V.heap.size V w') := Lib.hid fun W h => by
    have h2 := tagged_any tag (some ⟨w.heap.size, 0, none⟩) (List.replicate n ⟨#[]⟩) n (w.heap.size + 1) W (hMK.2.1.below (h.mono hMK.2.2)) (Nat.le_trans hMK.2.2 h.size) (by rw [List.length_replicate]; omega) (rep_size n) (HT.out.below (hMK.1.trans (h.mono hMK.1.size)) HT.out.1)
    rw [List.length_replicate, ← HED.out] at h2
    exact h2.mono fun e w' ⟨he, hb2⟩ => ⟨he, h.trans (hb2.mono h.size)⟩
  clear hMK
  refine (hJ.out _ (Below.refl _ _)).mono ?_
  rintro e W2 ⟨rfl, hb2⟩
  have B2 := Lib.hid hb2
  clear hb2 hmk
  go_wp2_with (first
    | (go_at_call 20; refine (hTg.out _ B2.out).mono ?_; rintro e W3 ⟨rfl, hb3⟩; have B3 := Lib.hid hb3; clear hb3)
    | (show wpList _ _ _ (⟨none, .store 25 _ _, _, _, _, _⟩ :: _) _ _; refine wpList_store_mid (by rfl) 25 (.tmp 8) (.tmp 25) (by rfl) W3.heap.size 0 (dg.map bv).toArray (by rfl) (by rfl) ((new32 _ _ rfl _).thereA (dg.map bv) (by rw [List.length_map, HDG.out]; rfl)) hi25a.out (all_oneCell_toArray (bvs_oneCell _)) ?_; refine wpl_gen (TJ V W3.heap.size dg) (TJ.start B3.out HDG.out _ rfl _) ?_; intro V4 hV; have HV := Lib.hid hV; clear hV))
  have hi25 : (Tryd.prog.info? 25).map (·.size) = some (dg.map bv).length := by rw [info32, List.length_map, HDG.out]
  have hu25 := Tryd.underlying25
  have K0 : Hid (∀ W, TJ V W3.heap.size dg W → Calls Tryd.prog 14 #[] W fun e w' => e = .returned (.bool true) ∧ TJ V W3.heap.size dg w') := Lib.hid fun W h => (known_any W (HT.out.below (HM.out.1.trans (h.1.mono HM.out.1.size)) HT.out.1)).mono fun e w' ⟨he, hb⟩ => ⟨he, h.below hb HDG.out⟩
  have K1 : Hid (∀ W, TJ V W3.heap.size dg W → Calls Tryd.prog 23 #[bv tag, .slice (some ⟨w.heap.size, 0, none⟩) n n] W fun e w' => e = .returned (.agg (dg.map bv).toArray) ∧ TJ V W3.heap.size dg w') := Lib.hid fun W h => by
    have h2 := refTagged_any tag (some ⟨w.heap.size, 0, none⟩) (List.replicate n ⟨#[]⟩) n (w.heap.size + 1) W (HM.out.2.1.below (h.1.mono HM.out.2.2)) (Nat.le_trans HM.out.2.2 h.1.size) (by rw [List.length_replicate]; omega) (rep_size n)
    rw [List.length_replicate, ← HED.out] at h2
    exact h2.mono fun e w' ⟨he, hb⟩ => ⟨he, h.below hb HDG.out⟩
  go_wp2_with fail
  refine wp_region_held_drew (S := TJ V W3.heap.size dg) (by kernel_rfl) ((TJ.drew HV.out)) (fun hHeld => ?_)
  refine wpAnyH_ready (rs := [0]) (by kernel_rfl) (by simp) ?_
  refine AllReadyH.cons (ops_at rfl) (fun K hK => ?_) AllReadyH.nil
  go_simp
  (go_at_call 14; refine (K0.out _ hHeld).mono ?_; rintro e W' ⟨rfl, hb'⟩)
  refine hK.out _ _ hb' (fun hHeld => ?_)
  clear hK K
  try simp only [Act.put, List.setIfInBounds_toArray, List.set_cons_zero, List.set_cons_succ]
  refine wpAnyH_take (i := 1) (v := ?_) (ops_at rfl) (by kernel_rfl) (by kernel_rfl) (by kernel_rfl) (fun _ _ _ h => h) (Or.inl ⟨by rfl, ?_⟩) hHeld ?_
  rotate_left
  · (intro W hSW; go_simp; try with_reducible rfl)
  try simp only [Act.put, List.setIfInBounds_toArray, List.set_cons_zero, List.set_cons_succ]
  refine wpAnyH_take (i := 2) (v := ?_) (ops_at rfl) (by kernel_rfl) (by kernel_rfl) (by kernel_rfl) (fun _ _ _ h => h) (Or.inl ⟨by rfl, ?_⟩) hHeld ?_
  rotate_left
  · (intro W hSW; go_simp; try with_reducible rfl)
  try simp only [Act.put, List.setIfInBounds_toArray, List.set_cons_zero, List.set_cons_succ]
  refine wpAnyH_take (i := 3) (v := ?_) (ops_at rfl) (by kernel_rfl) (by kernel_rfl) (by kernel_rfl) (fun _ _ _ h => h) (Or.inl ⟨by rfl, ?_⟩) hHeld ?_
  rotate_left
  · (intro W hSW; go_simp; try with_reducible rfl)
  try simp only [Act.put, List.setIfInBounds_toArray, List.set_cons_zero, List.set_cons_succ]
  refine wpAnyH_take (i := 4) (v := ?_) (ops_at rfl) (by kernel_rfl) (by kernel_rfl) (by kernel_rfl) (fun _ _ _ h => h) (Or.inl ⟨by rfl, ?_⟩) hHeld ?_
  rotate_left
  · (intro W hSW; go_simp; try with_reducible rfl)
  try simp only [Act.put, List.setIfInBounds_toArray, List.set_cons_zero, List.set_cons_succ]
  refine wpAnyH_take (i := 5) (v := ?_) (ops_at rfl) (by kernel_rfl) (by kernel_rfl) (by kernel_rfl) (fun _ _ _ h => h) (Or.inl ⟨by rfl, ?_⟩) hHeld ?_
  rotate_left
  · (intro W hSW; go_simp; try with_reducible rfl)
  try simp only [Act.put, List.setIfInBounds_toArray, List.set_cons_zero, List.set_cons_succ]
  refine wpAnyH_take (i := 6) (v := ?_) (ops_at rfl) (by kernel_rfl) (by kernel_rfl) (by kernel_rfl) (fun _ _ _ h => h) (Or.inl ⟨by rfl, ?_⟩) hHeld ?_
  rotate_left
  · (intro W hSW; go_simp; try with_reducible rfl)
  try simp only [Act.put, List.setIfInBounds_toArray, List.set_cons_zero, List.set_cons_succ]
  refine wpAnyH_take (i := 7) (v := ?_) (ops_at rfl) (by kernel_rfl) (by kernel_rfl) (by kernel_rfl) (fun _ _ _ h => h) (Or.inl ⟨by rfl, ?_⟩) hHeld ?_
  rotate_left
  · (intro W hSW; go_simp; try with_reducible rfl)
  try simp only [Act.put, List.setIfInBounds_toArray, List.set_cons_zero, List.set_cons_succ]
  refine wpAnyH_take (i := 8) (v := ?_) (ops_at rfl) (by kernel_rfl) (by kernel_rfl) (by kernel_rfl) (fun _ _ _ h => h) (Or.inl ⟨by rfl, ?_⟩) hHeld ?_
  rotate_left
  · (intro W hSW; go_simp; try with_reducible rfl)
  try simp only [Act.put, List.setIfInBounds_toArray, List.set_cons_zero, List.set_cons_succ]
  refine wpAnyH_take (i := 9) (v := ?_) (ops_at rfl) (by kernel_rfl) (by kernel_rfl) (by kernel_rfl) (fun _ _ _ h => h) (Or.inl ⟨by rfl, ?_⟩) hHeld ?_
  rotate_left
  · (intro W hSW; go_simp; try with_reducible rfl)
  try simp only [Act.put, List.setIfInBounds_toArray, List.set_cons_zero, List.set_cons_succ]
  refine wpAnyH_take (i := 10) (v := ?_) (ops_at rfl) (by kernel_rfl) (by kernel_rfl) (by kernel_rfl) (fun _ _ _ h => h) (Or.inl ⟨by rfl, ?_⟩) hHeld ?_
  rotate_left
  · (intro W hSW; go_simp; try with_reducible rfl)
  try simp only [Act.put, List.setIfInBounds_toArray, List.set_cons_zero, List.set_cons_succ]
  refine wpAnyH_take (i := 11) (v := ?_) (ops_at rfl) (by kernel_rfl) (by kernel_rfl) (by kernel_rfl) (fun _ _ _ h => h) (Or.inl ⟨by rfl, ?_⟩) hHeld ?_
  rotate_left
  · (intro W hSW; go_simp; try with_reducible rfl)
  try simp only [Act.put, List.setIfInBounds_toArray, List.set_cons_zero, List.set_cons_succ]
  refine wpAnyH_take (i := 12) (v := ?_) (ops_at rfl) (by kernel_rfl) (by kernel_rfl) (by kernel_rfl) (fun _ _ _ h => h) (Or.inl ⟨by rfl, ?_⟩) hHeld ?_
  rotate_left
  · (intro W hSW; go_simp; try with_reducible rfl)
  try simp only [Act.put, List.setIfInBounds_toArray, List.set_cons_zero, List.set_cons_succ]
  refine wpAnyH_take (i := 13) (v := ?_) (ops_at rfl) (by kernel_rfl) (by kernel_rfl) (by kernel_rfl) (fun _ _ _ h => h) (Or.inl ⟨by rfl, ?_⟩) hHeld ?_
  rotate_left
  · (intro W hSW; go_simp; try with_reducible rfl)
  try simp only [Act.put, List.setIfInBounds_toArray, List.set_cons_zero, List.set_cons_succ]
  refine wpAnyH_take (i := 14) (v := ?_) (ops_at rfl) (by kernel_rfl) (by kernel_rfl) (by kernel_rfl) (fun _ _ _ h => h) (Or.inl ⟨by rfl, ?_⟩) hHeld ?_
  rotate_left
  · (intro W hSW; go_simp; try with_reducible rfl)
  try simp only [Act.put, List.setIfInBounds_toArray, List.set_cons_zero, List.set_cons_succ]
  refine wpAnyH_take (i := 15) (v := ?_) (ops_at rfl) (by kernel_rfl) (by kernel_rfl) (by kernel_rfl) (fun _ _ _ h => h) (Or.inl ⟨by rfl, ?_⟩) hHeld ?_
  rotate_left
  · (intro W hSW; go_simp; try with_reducible rfl)
  try simp only [Act.put, List.setIfInBounds_toArray, List.set_cons_zero, List.set_cons_succ]
  refine wpAnyH_take (i := 16) (v := ?_) (ops_at rfl) (by kernel_rfl) (by kernel_rfl) (by kernel_rfl) (fun _ _ _ h => h) (Or.inl ⟨by rfl, ?_⟩) hHeld ?_
  rotate_left
  · (intro W hSW; go_simp; try with_reducible rfl)
  try simp only [Act.put, List.setIfInBounds_toArray, List.set_cons_zero, List.set_cons_succ]
  refine wpAnyH_take (i := 17) (v := ?_) (ops_at rfl) (by kernel_rfl) (by kernel_rfl) (by kernel_rfl) (fun _ _ _ h => h) (Or.inl ⟨by rfl, ?_⟩) hHeld ?_
  rotate_left
  · (intro W hSW; go_simp; try with_reducible rfl)
  try simp only [Act.put, List.setIfInBounds_toArray, List.set_cons_zero, List.set_cons_succ]
  refine wpAnyH_take (i := 18) (v := ?_) (ops_at rfl) (by kernel_rfl) (by kernel_rfl) (by kernel_rfl) (fun _ _ _ h => h) (Or.inl ⟨by rfl, ?_⟩) hHeld ?_
  rotate_left
  · (intro W hSW; go_simp; try with_reducible rfl)
  try simp only [Act.put, List.setIfInBounds_toArray, List.set_cons_zero, List.set_cons_succ]
  refine wpAnyH_take (i := 19) (ops_at rfl) (by kernel_rfl) (by kernel_rfl) (by kernel_rfl) (fun _ _ _ h => h) (yieldsIf_load_mid (by rfl) 25 _ rfl W3.heap.size 0 rfl (dg.map bv) _ (fun _ h => h.2) hu25 rfl hi25) hHeld ?_
  try simp only [Act.put, List.setIfInBounds_toArray, List.set_cons_zero, List.set_cons_succ]
  refine wpAnyH_take (i := 20) (v := ?_) (ops_at rfl) (by kernel_rfl) (by kernel_rfl) (by kernel_rfl) (fun _ _ _ h => h) (Or.inl ⟨by rfl, ?_⟩) hHeld ?_
  rotate_left
  · (intro W hSW; go_simp; try with_reducible rfl)
  try simp only [Act.put, List.setIfInBounds_toArray, List.set_cons_zero, List.set_cons_succ]
  refine wpAnyH_take (i := 21) (v := ?_) (ops_at rfl) (by kernel_rfl) (by kernel_rfl) (by kernel_rfl) (fun _ _ _ h => h) (Or.inl ⟨by rfl, ?_⟩) hHeld ?_
  rotate_left
  · (intro W hSW; go_simp; try with_reducible rfl)
  try simp only [Act.put, List.setIfInBounds_toArray, List.set_cons_zero, List.set_cons_succ]
  refine wpAnyH_ready (rs := [22]) (by kernel_rfl) (by simp) ?_
  refine AllReadyH.cons (ops_at rfl) (fun K hK => ?_) AllReadyH.nil
  go_simp
  (go_at_call 23; refine (K1.out _ hHeld).mono ?_; rintro e W' ⟨rfl, hb'⟩)
  refine hK.out _ _ hb' (fun hHeld => ?_)
  clear hK K
  try simp only [Act.put, List.setIfInBounds_toArray, List.set_cons_zero, List.set_cons_succ]
  refine wpAnyH_take (i := 23) (v := ?_) (ops_at rfl) (by kernel_rfl) (by kernel_rfl) (by kernel_rfl) (fun _ _ _ h => h) (Or.inl ⟨by rfl, ?_⟩) hHeld ?_
  rotate_left
  · (intro W hSW; go_simp; try with_reducible rfl)
  try simp only [Act.put, List.setIfInBounds_toArray, List.set_cons_zero, List.set_cons_succ]
  refine wpAnyH_take (i := 24) (v := ?_) (ops_at rfl) (by kernel_rfl) (by kernel_rfl) (by kernel_rfl) (fun _ _ _ h => h) (Or.inl ⟨by rfl, ?_⟩) hHeld ?_
  rotate_left
  · (intro W hSW; go_simp; try with_reducible rfl)
  try simp only [Act.put, List.setIfInBounds_toArray, List.set_cons_zero, List.set_cons_succ]
  refine wpAnyH_take (i := 25) (v := ?_) (ops_at rfl) (by kernel_rfl) (by kernel_rfl) (by kernel_rfl) (fun _ _ _ h => h) (Or.inl ⟨by rfl, ?_⟩) hHeld ?_
  rotate_left
  · (intro W hSW; go_simp; try with_reducible rfl)
  try simp only [Act.put, List.setIfInBounds_toArray, List.set_cons_zero, List.set_cons_succ]
  refine wpAnyH_done (by kernel_rfl) ?_ _
  go_wp2
  go_ret
  exact ⟨rfl, HM.out.1.trans (hHeld.1.mono HM.out.1.size)⟩

theorem sha256Many_row (a0 a1 : Int) (w : World) (hT : Tab w) (h0 : (Lit.int .u8 a0).wf = true) (h1 : (Lit.int .u8 a1).wf = true) :
    Calls Tryd.prog 7 #[.int .u8 a0, .int .u8 a1] w fun e w' => e = .returned (.bool true) ∧ Below w.heap.size w w' := by
  have b0 := wf_u8x h0
  have b1 := wf_u8x h1
  have e0 : (Value.int .u8 a0) = bv (UInt8.ofNat a0.toNat) := by
    show Value.int .u8 a0 = Value.int .u8 (((UInt8.ofNat a0.toNat).toNat : Nat) : Int)
    rw [UInt8.toNat_ofNat']
    congr 1; omega
  have e1 : a1 = ((a1.toNat : Nat) : Int) := by omega
  rw [e0, e1]
  by_cases h : 255 < 258 - a1.toNat % 8
  · exact many_long _ a1.toNat _ (by omega) rfl h w hT
  · exact many_ok _ a1.toNat _ (by omega) rfl (by omega) w hT
end Go.Proofs.YtedmnepilbfihaaDoor
