/- The walks of sha256.Sum and of the example that every statement of the layer checks first. -/
import Derived.Test.YtifbeemcphndfaaDoorSSum
import Derived.Deep.WholeRow
set_option linter.unusedVariables false
namespace Go.Proofs.YtifbeemcphndfaaDoor
open Go.RowKit

def zeroH : List Value := List.replicate 8 (Value.int .u32 0) ++ List.replicate 64 (Value.int .u8 0) ++ [.int .i64 0]
theorem zeroHash : (Tryd.prog.info? 114).map (fun i => (i.zero, i.size)) = some (some (.agg zeroH.toArray), 73) := by kernel_rfl
theorem rangeAt_part {w : World} {g o : Nat} {a b c : List Value} (h : Arr w g o (a ++ b ++ c)) : Arr w g (o + a.length) b := by
  refine ⟨fun j v hv => ?_, fun j hj => ?_⟩
  · have hj := (List.getElem?_eq_some_iff.1 hv).1
    have := h.1 (a.length + j) v (by rw [List.append_assoc, List.getElem?_append_right (by omega), Nat.add_sub_cancel_left, List.getElem?_append_left hj]; exact hv)
    rwa [← Nat.add_assoc] at this
  · have := h.2 (a.length + j) (by simp; omega)
    rwa [← Nat.add_assoc] at this
theorem hash_new (w : World) (t : TypeId) : HashIs (w.alloc (.cells zeroH.toArray t)) w.heap.size [] := by
  have h := Arr.new w zeroH t
  unfold zeroH at h ⊢
  refine ⟨?_, ?_, ?_⟩
  · have := rangeAt_part (a := []) (b := List.replicate 8 (Value.int .u32 0)) (c := List.replicate 64 (Value.int .u8 0) ++ [.int .i64 0]) (by rw [List.nil_append, ← List.append_assoc]; exact h)
    exact this
  · have := rangeAt_part (a := List.replicate 8 (Value.int .u32 0)) (b := List.replicate 64 (Value.int .u8 0)) (c := [.int .i64 0]) h
    rw [show (restOf []).map bv = List.replicate 64 (Value.int .u8 0) from zeroB_bv]
    simpa using this
  · have := rangeAt_part (a := List.replicate 8 (Value.int .u32 0) ++ List.replicate 64 (Value.int .u8 0)) (b := [.int .i64 0]) (c := []) (by rw [List.append_nil]; exact h)
    simpa using this

theorem calls_gen {P : Program} {f : Nat} {args : Array Value} {W : World} {Q : Ending → World → Prop} (R : World → Prop) (hR : R W) (h : ∀ W0, R W0 → Calls P f args W0 Q) : Calls P f args W Q := h W hR
theorem Arr.grown {w w' : World} {g o b : Nat} {cs : List Value} (h : Arr w g o cs) (hg : w.grownBy w' (some b)) (hne : g ≠ b) (hlt : g < w.heap.size) : Arr w' g o cs :=
  h.keep (fun i _ => World.cell?_of_block (w := w) (w' := w') (a := ⟨g, o + i, none⟩) (hg.block g hlt (by intro e; injection e with e; exact hne e))) (fun i _ => World.frozen?_of_block (w := w) (w' := w') (a := ⟨g, o + i, none⟩) (hg.block g hlt (by intro e; injection e with e; exact hne e)))

/-- The variables of Sum. -/
def Setup (w V : World) : Prop := HashIs V (w.heap.size + 1) [] ∧ Arr V w.heap.size 0 zero32 ∧ Below w.heap.size w V ∧ Tab V ∧ V.heap.size = w.heap.size + 1 + 1
theorem setup_new (w : World) (hT : Tab w) (z0 z : Array Value) (h0 : z0 = zero32.toArray) (hz : z = zeroH.toArray) (s t : TypeId) : Setup w ((w.alloc (.cells z0 s)).alloc (.cells z t)) := by
  subst h0 hz
  have e1 : (w.alloc (.cells zero32.toArray s)).heap.size = w.heap.size + 1 := by simp
  have hB : Below w.heap.size w ((w.alloc (.cells zero32.toArray s)).alloc (.cells zeroH.toArray t)) := (below_alloc0 _ _ (Nat.le_refl _)).alloc (by simp) _
  refine ⟨?_, (Arr.new w zero32 s).alloc _, hB, hT.below hB hT.1, by simp⟩
  rw [← e1]; exact hash_new _ _

set_option maxHeartbeats 1000000 in
set_option maxRecDepth 100000 in
theorem sumText_any (S : ByteArray) (w : World) (hT : Tab w) (hS : S.size < 1152921504606846976) :
    Calls Tryd.prog 62 #[.string S] w fun e w' => e = .returned (.agg ((sumS S.data.toList).map bv).toArray) ∧ Below w.heap.size w w' := by
  have hz := (zero_of_info zeroHash).1
  obtain ⟨z, ez⟩ : ∃ z, z = zeroH.toArray := ⟨_, rfl⟩
  rw [← ez] at hz
  obtain ⟨dg, edg⟩ : ∃ d, d = sumS S.data.toList := ⟨_, rfl⟩
  rw [← edg]
  have hdg : (dg.map bv).length = 32 := by rw [List.length_map, edg]; unfold sumS; exact digest_length _
  have HI9 : Hid ((Tryd.prog.info? 96).map (·.size) = some (dg.map bv).length) := Lib.hid (by rw [info32, hdg])
  have HI8 : Hid ((Tryd.prog.info? 96).map (·.size) = some (dg.map bv).toArray.size) := Lib.hid (by rw [info32, List.size_toArray, hdg])
  have HT := Lib.hid hT
  have HS := Lib.hid hS
  have HZ := Lib.hid ez
  have HED := Lib.hid edg
  have HDG := Lib.hid hdg
  clear ez hT hS edg hdg
  go_enter Tryd.func62, Tryd.ntmps62
  go_wp2_with fail
  refine calls_gen (Setup w) (setup_new w HT.out _ _ rfl HZ.out _ _) ?_
  rintro V ⟨hH, hA, hB, hTV, hsz⟩
  have h0 : 0 < w.heap.size + 1 := by omega
  refine (write_any (w.heap.size + 1) [] S V hH hTV h0 (by have := HS.out; simp; omega)).mono ?_
  rintro e W1 ⟨rfl, hH1, hg1⟩
  rw [List.nil_append] at hH1
  have hT1 := hTV.grown hg1 h0
  have hA1 := hA.grown hg1 (by omega) (by omega)
  have hB1 := hB.grown hg1 hB.size (by intro k hk; injection hk with hk; omega)
  have HSm := Lib.hid (sum_any (w.heap.size + 1) S.data.toList W1 hH1 hT1 (by rw [bytes_length]; exact HS.out))
  rw [← HED.out] at HSm
  have h1 : w.heap.size < W1.heap.size := by have := hB1.size; have := hg1.size; omega
  have HA1 := Lib.hid hA1
  have HB1 := Lib.hid hB1
  clear hH hA hB hTV hsz hH1 hg1 hT1 hA1 hB1
  go_wp2_with (first
    | (go_at_call 74; refine HSm.out.mono ?_; rintro e W2 ⟨rfl, hb2⟩; have B2 := Lib.hid hb2; clear hb2)
    | (refine wpList_store_mid (by rfl) 96 (.tmp 2) (.tmp 6) (by rfl) w.heap.size 0 (dg.map bv).toArray (by rfl) (by rfl) ((HA1.out.below B2.out h1).thereA (dg.map bv) (by rw [HDG.out]; rfl)) HI8.out (all_oneCell_toArray (bvs_oneCell _)) ?_))
  refine bodyPost_ret (results_cell_mid rfl _ _ w.heap.size (dg.map bv) _ rfl ((HA1.out.below B2.out h1).sets _ (by rw [HDG.out]; rfl)) Tryd.underlying96 rfl HI9.out) rfl ?_
  exact ⟨rfl, below_setCells _ (Nat.le_refl _) _ _ _ (HB1.out.trans (B2.out.mono HB1.out.size))⟩
end Go.Proofs.YtifbeemcphndfaaDoor
