/- What a Hash holds, as lists; the walk of (*sha256.Hash).state. -/
import Derived.Test.YtdfenaoddbdppaaDoorSComp
set_option linter.unusedVariables false
namespace Go.Proofs.YtdfenaoddbdppaaDoor
open Go.RowKit

def blk (m : List UInt8) (i : Nat) : List UInt8 := (m.drop (64 * i)).take 64
def stateAt (m : List UInt8) : Nat → S8
  | 0 => start8
  | n + 1 => compressS (stateAt m n) (blk m n)
def tailOf (m : List UInt8) : List UInt8 := m.drop (64 * (m.length / 64))
def wordsOf (m : List UInt8) : List UInt32 := if m.length < 64 then List.replicate 8 0 else (stateAt m (m.length / 64)).toL
def restOf (m : List UInt8) : List UInt8 := tailOf m ++ List.replicate (64 - m.length % 64) 0

theorem tailOf_length (m : List UInt8) : (tailOf m).length = m.length % 64 := by
  unfold tailOf; rw [List.length_drop]; omega
theorem restOf_length (m : List UInt8) : (restOf m).length = 64 := by
  unfold restOf; rw [List.length_append, tailOf_length, List.length_replicate]; omega
theorem toL_length (s : S8) : s.toL.length = 8 := rfl
theorem wordsOf_length (m : List UInt8) : (wordsOf m).length = 8 := by
  unfold wordsOf; split
  · rfl
  · rfl

theorem blk_append (m x : List UInt8) (i : Nat) (h : 64 * (i + 1) ≤ m.length) : blk (m ++ x) i = blk m i := by
  unfold blk
  rw [List.drop_append_of_le_length (by omega), List.take_append_of_le_length (by rw [List.length_drop]; omega)]
theorem stateAt_append (m x : List UInt8) : ∀ n, 64 * n ≤ m.length → stateAt (m ++ x) n = stateAt m n
  | 0, _ => rfl
  | n + 1, h => by rw [stateAt, stateAt, stateAt_append m x n (by omega), blk_append m x n h]

/-- The block that is full now. -/
theorem blk_full (m x : List UInt8) (h : m.length % 64 + x.length = 64) : blk (m ++ x) (m.length / 64) = tailOf m ++ x := by
  unfold blk tailOf
  rw [List.drop_append_of_le_length (by omega)]
  apply List.take_of_length_le
  rw [List.length_append, List.length_drop]; omega
theorem full_div (m x : List UInt8) (h : m.length % 64 + x.length = 64) : (m ++ x).length / 64 = m.length / 64 + 1 ∧ (m ++ x).length % 64 = 0 := by
  rw [List.length_append]; omega
theorem part_div (m x : List UInt8) (h : m.length % 64 + x.length < 64) : (m ++ x).length / 64 = m.length / 64 ∧ (m ++ x).length % 64 = m.length % 64 + x.length := by
  rw [List.length_append]; omega
theorem tail_part (m x : List UInt8) (h : m.length % 64 + x.length < 64) : tailOf (m ++ x) = tailOf m ++ x := by
  unfold tailOf
  rw [(part_div m x h).1, List.drop_append_of_le_length (by omega)]
theorem words_part (m x : List UInt8) (h : m.length % 64 + x.length < 64) : wordsOf (m ++ x) = wordsOf m := by
  have hd := part_div m x h
  unfold wordsOf
  rw [hd.1]
  rw [stateAt_append m x _ (by omega)]
  by_cases h1 : m.length < 64
  · rw [if_pos h1, if_pos (by rw [List.length_append]; omega)]
  · rw [if_neg h1, if_neg (by rw [List.length_append]; omega)]
theorem words_full (m x : List UInt8) (h : m.length % 64 + x.length = 64) : wordsOf (m ++ x) = (compressS (stateAt m (m.length / 64)) (tailOf m ++ x)).toL := by
  have hd := full_div m x h
  unfold wordsOf
  rw [if_neg (by rw [List.length_append]; omega), hd.1, stateAt, stateAt_append m x _ (by omega), blk_full m x h]
theorem rest_full (m x : List UInt8) (h : m.length % 64 + x.length = 64) : restOf (m ++ x) = List.replicate 64 0 := by
  have hd := full_div m x h
  unfold restOf
  have : tailOf (m ++ x) = [] := List.eq_nil_of_length_eq_zero (by rw [tailOf_length, hd.2])
  rw [this, hd.2]; rfl
/-- The cells of rest once x has been copied in. -/
theorem rest_copied (m x : List UInt8) (h : m.length % 64 + x.length ≤ 64) :
    (restOf m).take (m.length % 64) ++ x ++ (restOf m).drop (m.length % 64 + x.length) = tailOf m ++ x ++ List.replicate (64 - (m.length % 64 + x.length)) 0 := by
  unfold restOf
  have e1 : (tailOf m ++ List.replicate (64 - m.length % 64) (0 : UInt8)).take (m.length % 64) = tailOf m := by
    rw [← tailOf_length m]; simp
  have e2 : (tailOf m ++ List.replicate (64 - m.length % 64) (0 : UInt8)).drop (m.length % 64 + x.length) = List.replicate (64 - (m.length % 64 + x.length)) 0 := by
    rw [List.drop_append, List.drop_eq_nil_of_le (by rw [tailOf_length]; omega), List.nil_append, tailOf_length, List.drop_replicate]
    congr 1; omega
  rw [e1, e2]
theorem rest_part (m x : List UInt8) (h : m.length % 64 + x.length < 64) : restOf (m ++ x) = tailOf m ++ x ++ List.replicate (64 - (m.length % 64 + x.length)) 0 := by
  have hd := part_div m x h
  unfold restOf
  rw [tail_part m x h, hd.2]

/-- The Hash in block h holds the text m. -/
structure HashIs (w : World) (h : Nat) (m : List UInt8) : Prop where
  words : Arr w h 0 ((wordsOf m).map wv)
  rest : Arr w h 8 ((restOf m).map bv)
  len : Arr w h 72 [.int .i64 (m.length : Int)]
theorem HashIs.below {w w' : World} {h : Nat} {m : List UInt8} (H : HashIs w h m) {B : Nat} (hb : Below B w w') (hh : h < B) : HashIs w' h m := ⟨H.words.below hb hh, H.rest.below hb hh, H.len.below hb hh⟩
theorem HashIs.lt {w : World} {h : Nat} {m : List UInt8} (H : HashIs w h m) : h < w.heap.size := H.len.lt (by simp)
theorem HashIs.lenCell {w : World} {h : Nat} {m : List UInt8} (H : HashIs w h m) : w.cell? ⟨h, 72, none⟩ = some (.int .i64 (m.length : Int)) := H.len.cell (i := 0) rfl

theorem new8 (w : World) (z : Array Value) (hz : z = zero8.toArray) (t : TypeId) : Arr (w.alloc (.cells z t)) w.heap.size 0 zero8 := by subst hz; exact Arr.new _ _ _
def start8V : List Value := [.int .u32 1779033703, .int .u32 3144134277, .int .u32 1013904242, .int .u32 2773480762, .int .u32 1359893119, .int .u32 2600822924, .int .u32 528734635, .int .u32 1541459225]
theorem start8_cells : start8.toL.map wv = start8V := rfl
theorem start8V_one : ∀ v ∈ start8V, v.oneCell' = true := by rw [← start8_cells]; exact wvs_oneCell _

set_option maxHeartbeats 1000000 in
set_option maxRecDepth 100000 in
theorem state_parts (h : Nat) (m : List UInt8) (w : World) (HW0 : Arr w h 0 ((wordsOf m).map wv)) (HL0 : Arr w h 72 [.int .i64 (m.length : Int)]) :
    Calls Tryd.prog 93 #[.pointer (some ⟨h, 0, none⟩)] w fun e w' => e = .returned (.agg ((stateAt m (m.length / 64)).toL.map wv).toArray) ∧ Below w.heap.size w w' := by
  have hc := HL0.cell (i := 0) rfl
  have hlt := HL0.lt (by simp)
  simp only [Nat.add_zero] at hc
  obtain ⟨s, hs⟩ : ∃ s, s = stateAt m (m.length / 64) := ⟨_, rfl⟩
  rw [← hs]
  obtain ⟨n, hn⟩ : ∃ n, n = m.length := ⟨_, rfl⟩
  rw [← hn] at hc
  by_cases h64 : (n : Int) < 64
  · have hs0 : s.toL.map wv = start8V := by rw [hs, show m.length / 64 = 0 by omega]; exact start8_cells
    rw [hs0]
    clear hs hs0 HW0 HL0 hn s
    go_enter Tryd.func93, Tryd.ntmps93
    go_wp2_with (refine wpList_store_mid (by rfl) 111 (.tmp 2) (.tmp 8) (by rfl) w.heap.size 0 start8V.toArray (by rfl) (by rfl) ((new8 _ _ rfl _).thereA start8V rfl) info8w (all_oneCell_toArray start8V_one) ?_)
    refine bodyPost_ret (results_cell_mid rfl _ _ w.heap.size start8V _ rfl ((new8 _ _ rfl _).sets start8V rfl) Tryd.underlying111 rfl info8w) rfl ?_
    exact ⟨rfl, below_setCells _ (Nat.le_refl _) _ _ _ (below_alloc0 _ _ (Nat.le_refl _))⟩
  · have hw2 : Arr w h 0 (s.toL.map wv) := by
      have := HW0
      unfold wordsOf at this
      rw [if_neg (by omega), ← hs] at this
      exact this
    have HW := Lib.hid hw2
    clear hs HW0 HL0 hn hw2
    go_enter Tryd.func93, Tryd.ntmps93
    go_wp2_with (first
      | (refine wpList_load_mid (by rfl) 111 (.tmp 11) (by rfl) h 0 (by rfl) (s.toL.map wv) _ (HW.out.alloc _).1 Tryd.underlying111 rfl info8w ?_)
      | (refine wpList_store_mid (by rfl) 111 (.tmp 2) (.tmp 12) (by rfl) w.heap.size 0 (s.toL.map wv).toArray (by rfl) (by rfl) ((new8 _ _ rfl _).thereA (s.toL.map wv) rfl) info8w (all_oneCell_toArray (wvs_oneCell _)) ?_))
    refine bodyPost_ret (results_cell_mid rfl _ _ w.heap.size (s.toL.map wv) _ rfl ((new8 _ _ rfl _).sets (s.toL.map wv) rfl) Tryd.underlying111 rfl info8w) rfl ?_
    exact ⟨rfl, below_setCells _ (Nat.le_refl _) _ _ _ (below_alloc0 _ _ (Nat.le_refl _))⟩
theorem state_any (h : Nat) (m : List UInt8) (w : World) (H : HashIs w h m) :
    Calls Tryd.prog 93 #[.pointer (some ⟨h, 0, none⟩)] w fun e w' => e = .returned (.agg ((stateAt m (m.length / 64)).toL.map wv).toArray) ∧ Below w.heap.size w w' := state_parts h m w H.words H.len
end Go.Proofs.YtdfenaoddbdppaaDoor
