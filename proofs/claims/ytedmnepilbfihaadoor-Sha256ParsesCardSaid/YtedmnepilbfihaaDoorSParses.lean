/- The walk of the law Sha256Parses: what it says of every text. -/
import Derived.Test.YtedmnepilbfihaaDoorSTexts
set_option linter.unusedVariables false
namespace Go.Proofs.YtedmnepilbfihaaDoor
open Go.RowKit

theorem new32_size (V : World) (D : List UInt8) (hd : D.length = 32) (z : Array Value) (hz : z = zero32.toArray) (t : TypeId) :
    Arr ((V.alloc (.cells z t)).setCells V.heap.size 0 (D.map bv)) V.heap.size 0 (D.map bv) ∧ Below V.heap.size V ((V.alloc (.cells z t)).setCells V.heap.size 0 (D.map bv)) ∧ V.heap.size < ((V.alloc (.cells z t)).setCells V.heap.size 0 (D.map bv)).heap.size := by
  subst hz
  exact ⟨(Arr.new V zero32 t).sets _ (by rw [List.length_map, hd]; rfl), below_setCells _ (Nat.le_refl _) _ _ _ (below_alloc0 _ _ (Nat.le_refl _)), by rw [size_sets]; simp⟩

set_option maxHeartbeats 2000000 in
set_option maxRecDepth 100000 in
theorem sha256Parses_walk (S : ByteArray) (w : World) (hT : Tab w) (hS : S.size ≤ maxLen) :
    Calls Tryd.prog 9 #[.string S] w fun e w' => e = .returned (.bool true) ∧ Below w.heap.size w w' := by
  obtain ⟨s, es⟩ : ∃ s, s = shortS S 200 := ⟨_, rfl⟩
  have hs : s.size ≤ 200 := by rw [es]; exact shortS_size _ _
  have H1 := Lib.hid (fun W => short_any S 200 W (by omega))
  simp only [← es] at H1
  obtain ⟨D, hD⟩ : ∃ D, D = (parseR s.data.toList).1 := ⟨_, rfl⟩
  obtain ⟨p, hp⟩ : ∃ p, p = (parseR s.data.toList).2.1 := ⟨_, rfl⟩
  obtain ⟨q, hq⟩ : ∃ q, q = (parseR s.data.toList).2.2 := ⟨_, rfl⟩
  have hd : D.length = 32 := by rw [hD]; exact parseR_length _
  have H2 : Hid (∀ W, Calls Tryd.prog 25 #[.string s] W fun e w' => e = .returned (.tuple #[.agg (D.map bv).toArray, .int .i64 (p : Int), .int .i64 (q : Int)]) ∧ Below W.heap.size W w') := Lib.hid fun W => by rw [hD, hp, hq]; exact parse_any s W hs
  have H3 : Hid (∀ W, Calls Tryd.prog 28 #[.string s] W fun e w' => e = .returned (.tuple #[.agg (D.map bv).toArray, .int .i64 (p : Int), .int .i64 (q : Int)]) ∧ Below W.heap.size W w') := Lib.hid fun W => by rw [hD, hp, hq]; exact refParse_any s W hs
  have H4 : Hid (∀ W, Tab W → Calls Tryd.prog 14 #[] W fun e w' => e = .returned (.bool true) ∧ Below W.heap.size W w') := Lib.hid fun W h => known_any W h
  have H5 : Hid (q = 0 → ∀ W, Calls Tryd.prog 24 #[.agg (D.map bv).toArray] W fun e w' => e = .returned (.string s) ∧ Below W.heap.size W w') := Lib.hid fun h0 W => by
    have h := string_any D W hd
    rw [hD, parse_back _ (by rw [← hq]; exact h0)] at h
    rw [hD]
    exact h
  have heq1 : ∀ W, (binOp .eql 24 (.agg (D.map bv).toArray) (.agg (D.map bv).toArray)).run Tryd.prog W = .ok (.bool true) W := fun W => by
    rw [eq_arr D D hd hd W]; simp
  have hi24 : (Tryd.prog.info? 24).map (·.size) = some (D.map bv).length := by rw [info32r, List.length_map, hd]
  have hi25 : (Tryd.prog.info? 25).map (·.size) = some (D.map bv).length := by rw [info32, List.length_map, hd]
  have hi24a : Hid ((Tryd.prog.info? 24).map (·.size) = some (D.map bv).toArray.size) := Lib.hid (by rw [info32r, List.size_toArray, List.length_map, hd])
  have hi25a : Hid ((Tryd.prog.info? 25).map (·.size) = some (D.map bv).toArray.size) := Lib.hid (by rw [info32, List.size_toArray, List.length_map, hd])
  have HT := Lib.hid hT
  have HD := Lib.hid hd
  clear es hD hp hq hT hd hs
  by_cases h0 : q = 0
  all_goals
   first | (have hn0 : ((q : Int) != 0) = false := by simp; omega) | (have hn0 : ((q : Int) != 0) = true := by simp; omega)
   have H0 := Lib.hid h0
   clear h0
   go_enter Tryd.func9, Tryd.ntmps9
   go_wp2_with (first
    | (go_at_call 13; refine (H1.out _).mono ?_; rintro e w' ⟨rfl, rfl⟩)
    | (go_at_call 25; refine (H2.out _).mono ?_; rintro e V1 ⟨rfl, hb1⟩; have B1 := Lib.hid hb1; clear hb1)
    | (show wpList _ _ _ (⟨none, .store 25 _ _, _, _, _, _⟩ :: _) _ _; refine wpList_store_mid (by rfl) 25 (.tmp 3) (.tmp 14) (by rfl) V1.heap.size 0 (D.map bv).toArray (by rfl) (by rfl) ((new32 _ _ rfl _).thereA (D.map bv) (by rw [List.length_map, HD.out]; rfl)) hi25a.out (all_oneCell_toArray (bvs_oneCell _)) ?_; refine wpl_gen (fun V => Arr V V1.heap.size 0 (D.map bv) ∧ Below V1.heap.size V1 V ∧ V1.heap.size < V.heap.size) (new32_size V1 D HD.out _ rfl _) ?_; rintro V2 ⟨a2, b2, s2⟩; have A2 := Lib.hid a2; have B2 := Lib.hid b2; clear a2 b2)
    | (go_at_call 28; refine (H3.out _).mono ?_; rintro e V3 ⟨rfl, hb3⟩; have B3 := Lib.hid hb3; clear hb3)
    | (show wpList _ _ _ (⟨none, .store 24 _ _, _, _, _, _⟩ :: _) _ _; refine wpList_store_mid (by rfl) 24 (.tmp 6) (.tmp 20) (by rfl) V3.heap.size 0 (D.map bv).toArray (by rfl) (by rfl) ((new32 _ _ rfl _).thereA (D.map bv) (by rw [List.length_map, HD.out]; rfl)) hi24a.out (all_oneCell_toArray (bvs_oneCell _)) ?_; refine wpl_gen (fun V => Arr V V3.heap.size 0 (D.map bv) ∧ Below V3.heap.size V3 V ∧ V3.heap.size < V.heap.size) (new32_size V3 D HD.out _ rfl _) ?_; rintro V4 ⟨a4, b4, s4⟩; have A4 := Lib.hid a4; have B4 := Lib.hid b4; have A2' := Lib.hid ((A2.out.below B3.out s2).below B4.out (Nat.lt_of_lt_of_le s2 B3.out.size)); have BW := Lib.hid (((B1.out.trans (B2.out.mono B1.out.size)).trans (B3.out.mono (Nat.le_trans B1.out.size B2.out.size))).trans (B4.out.mono (Nat.le_trans (Nat.le_trans B1.out.size B2.out.size) B3.out.size))); clear a4 b4)
    | (go_at_call 14; refine (H4.out _ (HT.out.below BW.out HT.out.1)).mono ?_; rintro e V5 ⟨rfl, hb5⟩; have A6 := Lib.hid (A2'.out.below hb5 (Nat.lt_of_lt_of_le (Nat.lt_of_lt_of_le s2 B3.out.size) B4.out.size)); have A7 := Lib.hid (A4.out.below hb5 s4); have BX := Lib.hid (BW.out.trans (hb5.mono BW.out.size)); clear hb5)
    | (show wpList _ _ _ (⟨some 25, _, _, _, _, _⟩ :: _) _ _; refine wpList_load_midG (by rfl) 25 (.tmp 3) (by rfl) V1.heap.size 0 (by rfl) (D.map bv) _ A6.out.1 Tryd.underlying25 rfl hi25 ?_)
    | (show wpList _ _ _ (⟨some 26, _, _, _, _, _⟩ :: _) _ _; refine wpList_load_midG (by rfl) 24 (.tmp 6) (by rfl) V3.heap.size 0 (by rfl) (D.map bv) _ A7.out.1 Tryd.underlying24 rfl hi24 ?_)
    | (show wpList _ _ _ (⟨some 43, _, _, _, _, _⟩ :: _) _ _; refine wpList_load_midG (by rfl) 25 (.tmp 3) (by rfl) V1.heap.size 0 (by rfl) (D.map bv) _ A6.out.1 Tryd.underlying25 rfl hi25 ?_)
    | (go_at_call 24; refine (H5.out H0.out _).mono ?_; rintro e V6 ⟨rfl, hb6⟩; have BY := Lib.hid (BX.out.trans (hb6.mono BX.out.size)); clear hb6))
   go_ret
   first | exact ⟨rfl, BY.out⟩ | exact ⟨rfl, BX.out⟩
end Go.Proofs.YtedmnepilbfihaaDoor
