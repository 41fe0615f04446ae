/- The walks of the methods of a strings.Builder that the program writes to. -/
import Derived.Test.YtdfenaoddbdppaaDoorSApp
import Derived.Test.YtdfenaoddbdppaaDoorLDig
import Derived.Test.YtdfenaoddbdppaaDoorShelf
import Derived.Lib.Builder
import Derived.Laws.Externs
set_option linter.unusedVariables false
namespace Go.Proofs.YtdfenaoddbdppaaDoor
open Go.RowKit

/-- The Builder in block b holds l; its bytes lie from B on. -/
abbrev BS (B b : Nat) (l : List UInt8) (w : World) : Prop := Lib.IsBuilder 74 5 B b (l.map bv) w
theorem sizeB : (Tryd.prog.info? 74).map (·.size) = some 2 := by kernel_rfl
theorem liesB : liesAt Tryd.prog Tryd.prog.depth 74 (2 / Tryd.prog.cellsOf 74) 0 74 1 = true := by kernel_rfl
theorem neB : 74 ≠ 5 := by decide

set_option maxHeartbeats 1000000 in
set_option maxRecDepth 100000 in
theorem copyCheck_any (B b : Nat) (l : List UInt8) (w : World) (h : BS B b l w) :
    Calls Tryd.prog 65 #[.pointer (some ⟨b, 0, none⟩)] w fun e w' => e = .returned (.tuple #[]) ∧ Lib.BuilderAt 74 5 B b (.pointer (some ⟨b, 0, none⟩)) (l.map bv) w' ∧ Below B w w' := by
  obtain ⟨j, hj, hjs⟩ := Option.map_eq_some_iff.1 sizeB
  rcases h with h | h
  · have c0 := h.cell0
    have f0 := h.frozen0
    have k1 := Lib.run_to_unsafe w ⟨b, 0, none⟩ Tryd.underlying71 Tryd.underlying119 hj (by rw [hjs]; decide) h.shape (Nat.zero_lt_succ 1)
    have k2 := Lib.run_from_unsafe w ⟨b, 0, none⟩ Tryd.underlying119 Tryd.underlying71 hj h.shape liesB
    have HB := Lib.hid h
    clear h hj hjs
    go_enter Tryd.func65, Tryd.ntmps65
    go_wp2
    rw [run_callFunc_extern Tryd.func77 (by kernel_rfl) (by kernel_rfl) (by kernel_rfl) (e := Extern.AbiNoEscape.same) (by kernel_rfl), Lib.run_noEscape]
    simp only [Result.andThen]
    rw [Oper.upon_value]
    go_wp2
    go_end0
    exact ⟨rfl, HB.out.used _, (Below.refl B w).setCell (p := ⟨b, 0, none⟩) HB.out.1 _⟩
  · have c0 := h.cell0
    have k1 := Lib.run_neq_ptr_same w ⟨b, 0, none⟩ Tryd.underlying71 hj
    have HB := Lib.hid h
    clear h hj hjs
    go_enter Tryd.func65, Tryd.ntmps65
    go_wp2
    go_end0
    exact ⟨rfl, HB.out, Below.refl B w⟩

theorem blt {w : World} {b : Nat} {o : Obj} (h : w.heap[b]? = some o) : b < w.heap.size := by
  rcases Nat.lt_or_ge b w.heap.size with h' | h'
  · exact h'
  · rw [Array.getElem?_eq_none h'] at h; cases h

set_option maxHeartbeats 1000000 in
set_option maxRecDepth 100000 in
theorem writeByte_any (B b : Nat) (l : List UInt8) (c : UInt8) (w : World) (h : BS B b l w) (hl : l.length + 1 ≤ 140737488355328) (hBw : B ≤ w.heap.size) :
    Calls Tryd.prog 44 #[.pointer (some ⟨b, 0, none⟩), bv c] w fun e w' => e = .returned .nilIface ∧ BS B b (l ++ [c]) w' ∧ Below B w w' := by
  have HC := Lib.hid (copyCheck_any B b l w h)
  clear h
  go_enter Tryd.func44, Tryd.ntmps44
  go_wp2_with (go_at_call 65; refine HC.out.mono ?_)
  rintro e w1 ⟨rfl, h1, hb1⟩
  obtain ⟨hB, v, hbk, hown, hne⟩ := h1
  have ho : OB 5 w1 B v l := by unfold OB; simpa using hown
  have c0 : w1.cell? ⟨b, 0, none⟩ = some (.pointer (some ⟨b, 0, none⟩)) := by rw [Lib.cell_of_heap hbk]; rfl
  have c1 : w1.cell? ⟨b, 1, none⟩ = some v := by rw [Lib.cell_of_heap hbk]; rfl
  have hBw1 : B ≤ w1.heap.size := Nat.le_trans hBw hb1.size
  have HO := Lib.hid ho
  have HB1 := Lib.hid hb1
  have HK := Lib.hid hbk
  have HN := Lib.hid hne
  have HBB := Lib.hid hB
  clear ho hb1 hbk hne hown HC hB
  go_wp2_with (refine wpList_push bslL (by rfl) (.tmp 11) (.tmp 13) (by rfl) B v l (by rfl) (bv c) c rfl HO.out (by rfl) hl hBw1 ?_; intro v2 w2 ho2 hg2; have hk2 : w2.heap[b]? = some (.cells #[.pointer (some ⟨b, 0, none⟩), v] 74 (0, 0)) := (hg2.1.block b (blt HK.out) (fun e => HN.out e.symm)).trans HK.out; have d1 : w2.cell? ⟨b, 1, none⟩ = some v := (by rw [Lib.cell_of_heap hk2]; rfl); have f1 : w2.frozen? ⟨b, 1, none⟩ = false := Lib.frozen_of_heap hk2 1; have HO2 := Lib.hid ho2; have HK2 := Lib.hid hk2; have HG2 := Lib.hid hg2; (obtain ⟨A2, cap2, hv2, _⟩ := ho2.form); subst hv2; clear ho2 hk2 hg2)
  go_ret
  refine ⟨rfl, .inr ?_, ?_⟩
  · have h2 := HO2.out
    unfold OB at h2
    exact Lib.BuilderAt.put HBB.out HK2.out (bs' := (l ++ [c]).map bv) (by simpa using h2) neB
  · exact (HB1.out.trans (HG2.out.below hBw1 (fun k hk => (HO.out.lt k hk).1))).setCell (p := ⟨b, 1, none⟩) HBB.out _

set_option maxHeartbeats 1000000 in
set_option maxRecDepth 100000 in
theorem writeString_any (B b : Nat) (l : List UInt8) (s : ByteArray) (w : World) (h : BS B b l w) (hl : l.length + s.size ≤ 140737488355328) (hBw : B ≤ w.heap.size) :
    Calls Tryd.prog 45 #[.pointer (some ⟨b, 0, none⟩), .string s] w fun e w' => e = .returned (.tuple #[.int .i64 (s.size : Int), .nilIface]) ∧ BS B b (l ++ s.data.toList) w' ∧ Below B w w' := by
  have HC := Lib.hid (copyCheck_any B b l w h)
  clear h
  go_enter Tryd.func45, Tryd.ntmps45
  go_wp2_with (go_at_call 65; refine HC.out.mono ?_)
  rintro e w1 ⟨rfl, h1, hb1⟩
  obtain ⟨hB, v, hbk, hown, hne⟩ := h1
  have ho : OB 5 w1 B v l := by unfold OB; simpa using hown
  have c0 : w1.cell? ⟨b, 0, none⟩ = some (.pointer (some ⟨b, 0, none⟩)) := by rw [Lib.cell_of_heap hbk]; rfl
  have c1 : w1.cell? ⟨b, 1, none⟩ = some v := by rw [Lib.cell_of_heap hbk]; rfl
  have hBw1 : B ≤ w1.heap.size := Nat.le_trans hBw hb1.size
  have HO := Lib.hid ho
  have HB1 := Lib.hid hb1
  have HK := Lib.hid hbk
  have HN := Lib.hid hne
  have HBB := Lib.hid hB
  clear ho hb1 hbk hne hown HC hB
  go_wp2_with (refine wpList_app_str bslL (by rfl) (.tmp 12) (.tmp 13) 9 Tryd.underlying9 (by rfl) B v l (by rfl) HO.out s (by rfl) hl hBw1 ?_; intro v2 w2 ho2 hg2; have hk2 : w2.heap[b]? = some (.cells #[.pointer (some ⟨b, 0, none⟩), v] 74 (0, 0)) := (hg2.1.block b (blt HK.out) (fun e => HN.out e.symm)).trans HK.out; have d1 : w2.cell? ⟨b, 1, none⟩ = some v := (by rw [Lib.cell_of_heap hk2]; rfl); have f1 : w2.frozen? ⟨b, 1, none⟩ = false := Lib.frozen_of_heap hk2 1; have HO2 := Lib.hid ho2; have HK2 := Lib.hid hk2; have HG2 := Lib.hid hg2; (obtain ⟨A2, cap2, hv2, _⟩ := ho2.form); subst hv2; clear ho2 hk2 hg2)
  go_ret2
  refine ⟨rfl, .inr ?_, ?_⟩
  · have h2 := HO2.out
    unfold OB at h2
    exact Lib.BuilderAt.put HBB.out HK2.out (bs' := (l ++ s.data.toList).map bv) (by simpa using h2) neB
  · exact (HB1.out.trans (HG2.out.below hBw1 (fun k hk => (HO.out.lt k hk).1))).setCell (p := ⟨b, 1, none⟩) HBB.out _

theorem builderString_any (B b : Nat) (l : List UInt8) (w : World) (h : BS B b l w) (hBw : B ≤ w.heap.size) :
    Calls Tryd.prog 47 #[.pointer (some ⟨b, 0, none⟩)] w fun e w' => e = .returned (.string ⟨l.toArray⟩) ∧ Below B w w' := Tryd.Builder_String_any B b l w h hBw
end Go.Proofs.YtdfenaoddbdppaaDoor
