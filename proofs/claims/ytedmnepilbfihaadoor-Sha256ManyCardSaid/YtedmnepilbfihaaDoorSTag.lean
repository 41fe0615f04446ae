/- The walk of sha256.Tagged. -/
import Derived.Test.YtedmnepilbfihaaDoorSJoin
import Derived.Test.YtedmnepilbfihaaDoorSParse
set_option linter.unusedVariables false
namespace Go.Proofs.YtedmnepilbfihaaDoor
open Go.RowKit

theorem results_mid2 {P : Program} {fn : Func} {p q : Tmp} {ty : TypeId} (h : fn.results = #[.cell p ty, .tmp q]) (tmps : Array Value) (w : World) (g : Nat) (cs : List Value) (d : TypeDesc)
    (hp : tmps.getD p undef = .pointer (some ⟨g, 0, none⟩)) (hg : Arr w g 0 cs) (hu : P.underlying ty = some d) (hd : d.isRow = true) (hi : (P.info? ty).map (·.size) = some cs.length) :
    (results fn tmps).run P w = .ok (.tuple #[.agg cs.toArray, tmps.getD q undef]) w := by
  have hp' : tmps[p]?.getD undef = .pointer (some ⟨g, 0, none⟩) := by simpa using hp
  simp [results, h, hp', asAddr, run_loadVar_mid w g 0 ty cs d hg.1 hu hd hi]
def One (w V : World) : Prop := Arr V w.heap.size 0 zero32 ∧ Below w.heap.size w V ∧ w.heap.size < V.heap.size
theorem one_new (w : World) (z : Array Value) (hz : z = zero32.toArray) (t : TypeId) : One w (w.alloc (.cells z t)) := by
  subst hz
  exact ⟨Arr.new w _ _, below_alloc0 _ _ (Nat.le_refl _), by simp⟩
theorem One.below {w V W : World} (h : One w V) (hb : Below V.heap.size V W) : One w W := ⟨h.1.below hb h.2.2, h.2.1.trans (hb.mono h.2.1.size), Nat.lt_of_lt_of_le h.2.2 hb.size⟩
theorem joinS_le (tag : UInt8) (l : List ByteArray) (hl : l.length ≤ 255) (hs : ∀ s ∈ l, s.size ≤ 100) : (joinS tag l).length ≤ 26522 := by
  have := preS_le tag l hs l.length (Nat.le_refl _)
  rw [preS_all] at this; omega

set_option maxHeartbeats 1000000 in
set_option maxRecDepth 100000 in
theorem tagged_any (tag : UInt8) (A : Option Addr) (l : List ByteArray) (c B : Nat) (w : World) (hr : RT w B A l) (hB : B ≤ w.heap.size) (hl : l.length ≤ 255) (hs : ∀ s ∈ l, s.size ≤ 100) (hT : Tab w) :
    Calls Tryd.prog 20 #[bv tag, .slice A l.length c] w fun e w' => e = .returned (.tuple #[.agg ((sumS (joinS tag l)).map bv).toArray, .int .i64 0]) ∧ Below w.heap.size w w' := by
  have HJ := Lib.hid (fun W (h : One w W) => join_any tag A l c B W (hr.below (h.2.1.mono hB)) (Nat.le_trans hB h.2.1.size) hl hs)
  have HS := Lib.hid (fun W (h : One w W) => sumText_any ⟨(joinS tag l).toArray⟩ W (hT.below h.2.1 hT.1) (by have := joinS_le tag l hl hs; show (joinS tag l).toArray.size < _; rw [List.size_toArray]; omega))
  obtain ⟨dg, edg⟩ : ∃ d, d = sumS (joinS tag l) := ⟨_, rfl⟩
  simp only [List.toList_toArray, ← edg] at HS
  rw [← edg]
  obtain ⟨S, eS⟩ : ∃ S : ByteArray, S = ⟨(joinS tag l).toArray⟩ := ⟨_, rfl⟩
  simp only [← eS] at HJ HS
  have hdg : (dg.map bv).length = 32 := by rw [List.length_map, edg]; unfold sumS; exact digest_length _
  have HI9 : Hid ((Tryd.prog.info? 25).map (·.size) = some (dg.map bv).length) := Lib.hid (by rw [info32, hdg])
  have HI8 : Hid ((Tryd.prog.info? 25).map (·.size) = some (dg.map bv).toArray.size) := Lib.hid (by rw [info32, List.size_toArray, hdg])
  have HDG := Lib.hid hdg
  clear hr hs hT hdg edg eS
  go_enter Tryd.func20, Tryd.ntmps20
  go_wp2_with (first
    | (go_at_call 19; refine calls_gen (One w) (one_new w _ rfl _) ?_; intro V hV; refine (HJ.out V hV).mono ?_; rintro e W1 ⟨rfl, hb1⟩; have H1 := Lib.hid (hV.below hb1); clear hV hb1)
    | (go_at_call 15; refine (HS.out W1 H1.out).mono ?_; rintro e W2 ⟨rfl, hb2⟩; have H2 := Lib.hid (H1.out.below hb2); clear hb2)
    | (refine wpList_store_mid (by rfl) 25 (.tmp 4) (.tmp 19) (by rfl) w.heap.size 0 (dg.map bv).toArray (by rfl) (by rfl) (H2.out.1.thereA (dg.map bv) (by rw [HDG.out]; rfl)) HI8.out (all_oneCell_toArray (bvs_oneCell _)) ?_))
  refine bodyPost_ret (results_mid2 rfl _ _ w.heap.size (dg.map bv) _ rfl (H2.out.1.sets _ (by rw [HDG.out]; rfl)) Tryd.underlying25 rfl HI9.out) rfl ?_
  exact ⟨rfl, below_setCells _ (Nat.le_refl _) _ _ _ H2.out.2.1⟩

set_option maxHeartbeats 1000000 in
set_option maxRecDepth 100000 in
theorem tagged_long (tag : UInt8) (A : Option Addr) (l : List ByteArray) (c : Nat) (w : World) (hl : 255 < l.length) :
    Calls Tryd.prog 20 #[bv tag, .slice A l.length c] w fun e w' => e = .returned (.tuple #[.agg zero32.toArray, .int .i64 9]) ∧ Below w.heap.size w w' := by
  have HJ := Lib.hid (fun W => join_long tag A l c W hl)
  have HI : Hid ((Tryd.prog.info? 25).map (·.size) = some zero32.toArray.size) := Lib.hid (by rw [info32]; rfl)
  go_enter Tryd.func20, Tryd.ntmps20
  go_wp2_with (first
    | (go_at_call 19; refine calls_gen (One w) (one_new w _ rfl _) ?_; intro V hV; refine (HJ.out V).mono ?_; rintro e W1 ⟨rfl, rfl⟩; have H1 := Lib.hid hV; clear hV)
    | (refine wpList_store_mid (by rfl) 25 (.tmp 4) (.tmp 16) (by rfl) w.heap.size 0 zero32.toArray (by rfl) (by rfl) (H1.out.1.thereA zero32 rfl) HI.out (all_oneCell_toArray (by rw [← zero32_bv]; exact bvs_oneCell _)) ?_))
  refine bodyPost_ret (results_mid2 rfl _ _ w.heap.size zero32 _ rfl (H1.out.1.sets _ rfl) Tryd.underlying25 rfl (by rw [info32]; rfl)) rfl ?_
  exact ⟨rfl, below_setCells _ (Nat.le_refl _) _ _ _ H1.out.2.1⟩
end Go.Proofs.YtedmnepilbfihaaDoor
