/- The walks of a nil Hash's methods, of Clone and of Equal. -/
import Derived.Test.YtedmnepilbfihaaDoorSEqH
set_option linter.unusedVariables false
namespace Go.Proofs.YtedmnepilbfihaaDoor
open Go.RowKit
section
variable (w : World) (S : ByteArray) (h : Nat)

theorem write_nil : Calls Tryd.prog 32 #[.pointer none, .string S] w fun e w' => e = .returned (.int .i64 1) ∧ w = w' := by
  go_enter Tryd.func32, Tryd.ntmps32
  go_wp2
  go_ret
  exact ⟨rfl, rfl⟩

theorem reset_nil : Calls Tryd.prog 33 #[.pointer none] w fun e w' => e = .returned (.int .i64 1) ∧ w = w' := by
  go_enter Tryd.func33, Tryd.ntmps33
  go_wp2
  go_ret
  exact ⟨rfl, rfl⟩

theorem len_nil : Calls Tryd.prog 35 #[.pointer none] w fun e w' => e = .returned (.int .i64 0) ∧ w = w' := by
  go_enter Tryd.func35, Tryd.ntmps35
  go_wp2
  go_ret
  exact ⟨rfl, rfl⟩

theorem clone_nil : Calls Tryd.prog 36 #[.pointer none] w fun e w' => e = .returned (.pointer none) ∧ w = w' := by
  go_enter Tryd.func36, Tryd.ntmps36
  go_wp2
  go_ret
  exact ⟨rfl, rfl⟩

theorem equal_nil_nil : Calls Tryd.prog 37 #[.pointer none, .pointer none] w fun e w' => e = .returned (.bool true) ∧ w = w' := by
  go_enter Tryd.func37, Tryd.ntmps37
  go_wp2
  go_ret
  exact ⟨rfl, rfl⟩

theorem equal_nil_some : Calls Tryd.prog 37 #[.pointer none, .pointer (some ⟨h, 0, none⟩)] w fun e w' => e = .returned (.bool false) ∧ w = w' := by
  have hnp : ∀ W, (binOp .eql 56 (.pointer none) (.pointer (some ⟨h, 0, none⟩))).run Tryd.prog W = .ok (.bool false) W := fun W => by kernel_rfl
  go_enter Tryd.func37, Tryd.ntmps37
  go_wp2
  go_ret
  exact ⟨rfl, rfl⟩

theorem equal_some_nil : Calls Tryd.prog 37 #[.pointer (some ⟨h, 0, none⟩), .pointer none] w fun e w' => e = .returned (.bool false) ∧ w = w' := by
  go_enter Tryd.func37, Tryd.ntmps37
  go_wp2
  go_ret
  exact ⟨rfl, rfl⟩
end

set_option maxRecDepth 100000 in
theorem sum_nil (w : World) : Calls Tryd.prog 34 #[.pointer none] w fun e w' => e = .returned (.agg #[.int .u8 0, .int .u8 0, .int .u8 0, .int .u8 0, .int .u8 0, .int .u8 0, .int .u8 0, .int .u8 0, .int .u8 0, .int .u8 0, .int .u8 0, .int .u8 0, .int .u8 0, .int .u8 0, .int .u8 0, .int .u8 0, .int .u8 0, .int .u8 0, .int .u8 0, .int .u8 0, .int .u8 0, .int .u8 0, .int .u8 0, .int .u8 0, .int .u8 0, .int .u8 0, .int .u8 0, .int .u8 0, .int .u8 0, .int .u8 0, .int .u8 0, .int .u8 0]) ∧ Below w.heap.size w w' := by
  have HI : Hid ((Tryd.prog.info? 25).map (·.size) = some zero32.toArray.size) := Lib.hid (by rw [info32]; rfl)
  have HI' : Hid ((Tryd.prog.info? 25).map (·.size) = some zero32.length) := Lib.hid (by rw [info32]; rfl)
  go_enter Tryd.func34, Tryd.ntmps34
  go_wp2_with (show wpList _ _ _ (⟨none, .store 25 _ _, _, _, _, _⟩ :: _) _ _; refine wpList_store_mid (by rfl) 25 (.tmp 2) _ (by rfl) w.heap.size 0 zero32.toArray (by rfl) (by rfl) ((new32 _ _ rfl _).thereA zero32 rfl) HI.out (all_oneCell_toArray (by rw [← zero32_bv]; exact bvs_oneCell _)) ?_)
  refine bodyPost_ret (results_cell_mid rfl _ _ w.heap.size zero32 _ rfl ((new32 _ _ rfl _).sets zero32 rfl) Tryd.underlying25 rfl HI'.out) rfl ?_
  exact ⟨rfl, below_setCells _ (Nat.le_refl _) _ _ _ (below_alloc0 _ _ (Nat.le_refl _))⟩

set_option maxRecDepth 100000 in
theorem clone_any (h : Nat) (m : List UInt8) (w : World) (H : HashIs w h m) : Calls Tryd.prog 36 #[.pointer (some ⟨h, 0, none⟩)] w fun e w' => e = .returned (.pointer (some ⟨w.heap.size, 0, none⟩)) ∧ HashIs w' w.heap.size m ∧ Below w.heap.size w w' := by
  obtain ⟨cs, hcs⟩ : ∃ cs, cs = (wordsOf m).map wv ++ (restOf m).map bv ++ [Value.int .i64 (m.length : Int)] := ⟨_, rfl⟩
  have ha := H.all
  rw [← hcs] at ha
  have hl : cs.length = 73 := by rw [hcs]; exact hash_len m
  have hone : ∀ v ∈ cs, v.oneCell' = true := by
    rw [hcs]; intro v hv
    rcases List.mem_append.1 hv with hv | hv
    · rcases List.mem_append.1 hv with hv | hv
      · exact wvs_oneCell _ v hv
      · exact bvs_oneCell _ v hv
    · rw [List.mem_singleton.1 hv]; rfl
  have HA := Lib.hid ha
  have HL := Lib.hid hl
  have HC := Lib.hid hcs
  have HO := Lib.hid (all_oneCell_toArray hone)
  have HI : Hid ((Tryd.prog.info? 67).map (·.size) = some cs.length) := Lib.hid (by rw [infoH, hl])
  have HI' : Hid ((Tryd.prog.info? 67).map (·.size) = some cs.toArray.size) := Lib.hid (by rw [infoH, List.size_toArray, hl])
  have hz := (zero_of_info zeroHash).1
  obtain ⟨z, ez⟩ : ∃ z, z = zeroH.toArray := ⟨_, rfl⟩
  rw [← ez] at hz
  have HZ : Hid (∀ t, Arr (w.alloc (.cells z t)) w.heap.size 0 zeroH) := Lib.hid fun t => by rw [ez]; exact Arr.new w zeroH t
  have HZL : Hid (zeroH.length = 73) := Lib.hid rfl
  clear ha hl hone hcs H ez
  go_enter Tryd.func36, Tryd.ntmps36
  go_wp2_with (first
    | (refine wpList_load_mid (by rfl) 67 (.tmp 7) (by rfl) h 0 (by rfl) cs _ HA.out.1 Tryd.underlying67 rfl HI.out ?_)
    | (refine wpList_store_mid (by rfl) 67 (.tmp 3) (.tmp 8) (by rfl) w.heap.size 0 cs.toArray (by rfl) (by rfl) ((HZ.out _).thereA cs (by rw [HL.out]; rfl)) HI'.out HO.out ?_))
  go_ret
  refine ⟨rfl, ?_, below_setCells _ (Nat.le_refl _) _ _ _ (below_alloc0 _ _ (Nat.le_refl _))⟩
  have h := (HZ.out 67).sets cs (by rw [HL.out]; rfl)
  rw [HC.out] at h
  exact hash_of (by rw [HC.out]; exact h)

set_option maxHeartbeats 1000000 in
set_option maxRecDepth 100000 in
theorem equal_run (h h' : Nat) (m m' : List UInt8) (r : Bool) (w : World) (H : HashIs w h m) (H' : HashIs w h' m')
    (hr : ∀ W, (binOp .eql 67 (.agg ((wordsOf m).map wv ++ (restOf m).map bv ++ [Value.int .i64 (m.length : Int)]).toArray) (.agg ((wordsOf m').map wv ++ (restOf m').map bv ++ [Value.int .i64 (m'.length : Int)]).toArray)).run Tryd.prog W = .ok (.bool r) W) :
    Calls Tryd.prog 37 #[.pointer (some ⟨h, 0, none⟩), .pointer (some ⟨h', 0, none⟩)] w fun e w' => e = .returned (.bool r) ∧ Below w.heap.size w w' := by
  obtain ⟨cs, hcs⟩ : ∃ cs, cs = (wordsOf m).map wv ++ (restOf m).map bv ++ [Value.int .i64 (m.length : Int)] := ⟨_, rfl⟩
  obtain ⟨cs', hcs'⟩ : ∃ cs, cs = (wordsOf m').map wv ++ (restOf m').map bv ++ [Value.int .i64 (m'.length : Int)] := ⟨_, rfl⟩
  have ha := H.all
  have ha' := H'.all
  rw [← hcs] at ha hr
  rw [← hcs'] at ha' hr
  have HI : Hid ((Tryd.prog.info? 67).map (·.size) = some cs.length) := Lib.hid (by rw [infoH, hcs, hash_len])
  have HI' : Hid ((Tryd.prog.info? 67).map (·.size) = some cs'.length) := Lib.hid (by rw [infoH, hcs', hash_len])
  have hH : Held w [(h', cs'), (h, cs)] w := ⟨Below.refl _ _, fun p hp => by
    rcases List.mem_cons.1 hp with rfl | hp
    · exact ⟨ha', H'.lt⟩
    · rw [List.mem_singleton.1 hp]; exact ⟨ha, H.lt⟩⟩
  clear hcs hcs' ha ha' H H'
  go_enter Tryd.func37, Tryd.ntmps37
  go_wp2_with fail
  refine wp_region_held_drew (S := Held w [(h', cs'), (h, cs)]) (by kernel_rfl) (hH.drew) (fun hHeld => ?_)
  refine wpAnyH_take (i := 0) (v := ?_) (ops_at rfl) (by kernel_rfl) (by kernel_rfl) (by kernel_rfl) (fun _ _ _ h => h) (Or.inl ⟨by rfl, ?_⟩) hHeld ?_
  rotate_left
  · (intro W hSW; go_simp; try with_reducible rfl)
  try simp only [Act.put, List.setIfInBounds_toArray, List.set_cons_zero, List.set_cons_succ]
  refine wpAnyH_take (i := 1) (v := ?_) (ops_at rfl) (by kernel_rfl) (by kernel_rfl) (by kernel_rfl) (fun _ _ _ h => h) (Or.inl ⟨by rfl, ?_⟩) hHeld ?_
  rotate_left
  · (intro W hSW; go_simp; try with_reducible rfl)
  try simp only [Act.put, List.setIfInBounds_toArray, List.set_cons_zero, List.set_cons_succ]
  refine wpAnyH_take (i := 2) (ops_at rfl) (by kernel_rfl) (by kernel_rfl) (by kernel_rfl) (fun _ _ _ h => h) (yieldsIf_load_mid (by rfl) 67 _ rfl h 0 rfl cs _ (fun _ hx => (Held.arr (G := h) (cs := cs) hx (by simp)).1) Tryd.underlying67 rfl HI.out) hHeld ?_
  try simp only [Act.put, List.setIfInBounds_toArray, List.set_cons_zero, List.set_cons_succ]
  refine wpAnyH_take (i := 3) (v := ?_) (ops_at rfl) (by kernel_rfl) (by kernel_rfl) (by kernel_rfl) (fun _ _ _ h => h) (Or.inl ⟨by rfl, ?_⟩) hHeld ?_
  rotate_left
  · (intro W hSW; go_simp; try with_reducible rfl)
  try simp only [Act.put, List.setIfInBounds_toArray, List.set_cons_zero, List.set_cons_succ]
  refine wpAnyH_take (i := 4) (v := ?_) (ops_at rfl) (by kernel_rfl) (by kernel_rfl) (by kernel_rfl) (fun _ _ _ h => h) (Or.inl ⟨by rfl, ?_⟩) hHeld ?_
  rotate_left
  · (intro W hSW; go_simp; try with_reducible rfl)
  try simp only [Act.put, List.setIfInBounds_toArray, List.set_cons_zero, List.set_cons_succ]
  refine wpAnyH_take (i := 5) (ops_at rfl) (by kernel_rfl) (by kernel_rfl) (by kernel_rfl) (fun _ _ _ h => h) (yieldsIf_load_mid (by rfl) 67 _ rfl h' 0 rfl cs' _ (fun _ hx => (Held.arr (G := h') (cs := cs') hx (by simp)).1) Tryd.underlying67 rfl HI'.out) hHeld ?_
  try simp only [Act.put, List.setIfInBounds_toArray, List.set_cons_zero, List.set_cons_succ]
  refine wpAnyH_take (i := 6) (v := ?_) (ops_at rfl) (by kernel_rfl) (by kernel_rfl) (by kernel_rfl) (fun _ _ _ h => h) (Or.inl ⟨by rfl, ?_⟩) hHeld ?_
  rotate_left
  · (intro W hSW; go_simp; try with_reducible rfl)
  try simp only [Act.put, List.setIfInBounds_toArray, List.set_cons_zero, List.set_cons_succ]
  refine wpAnyH_take (i := 7) (v := ?_) (ops_at rfl) (by kernel_rfl) (by kernel_rfl) (by kernel_rfl) (fun _ _ _ h => h) (Or.inl ⟨by rfl, ?_⟩) hHeld ?_
  rotate_left
  · (intro W hSW; go_simp; try with_reducible rfl)
  try simp only [Act.put, List.setIfInBounds_toArray, List.set_cons_zero, List.set_cons_succ]
  refine wpAnyH_done (by kernel_rfl) ?_ _
  go_wp2
  go_ret
  exact ⟨rfl, hHeld.1⟩
theorem equal_same (h h' : Nat) (m : List UInt8) (w : World) (H : HashIs w h m) (H' : HashIs w h' m) : Calls Tryd.prog 37 #[.pointer (some ⟨h, 0, none⟩), .pointer (some ⟨h', 0, none⟩)] w fun e w' => e = .returned (.bool true) ∧ Below w.heap.size w w' :=
  equal_run h h' m m true w H H' fun W => by
    obtain ⟨r, hr, h1, _⟩ := eq_hash (wordsOf m) (wordsOf m) (restOf m) (restOf m) (m.length : Int) (m.length : Int) (wordsOf_length m) (wordsOf_length m) (restOf_length m) (restOf_length m) W
    rw [hr, h1 rfl rfl rfl]
theorem equal_diff (h h' : Nat) (m m' : List UInt8) (hne : m.length ≠ m'.length) (w : World) (H : HashIs w h m) (H' : HashIs w h' m') : Calls Tryd.prog 37 #[.pointer (some ⟨h, 0, none⟩), .pointer (some ⟨h', 0, none⟩)] w fun e w' => e = .returned (.bool false) ∧ Below w.heap.size w w' :=
  equal_run h h' m m' false w H H' fun W => by
    obtain ⟨r, hr, _, h1⟩ := eq_hash (wordsOf m) (wordsOf m') (restOf m) (restOf m') (m.length : Int) (m'.length : Int) (wordsOf_length m) (wordsOf_length m') (restOf_length m) (restOf_length m') W
    rw [hr, h1 (by omega)]
end Go.Proofs.YtedmnepilbfihaaDoor
