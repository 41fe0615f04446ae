/- The walk of the example that every statement of the layer checks first. -/
import Derived.Test.YtedmnepilbfihaaDoorSText
import Derived.Deep.QuietTactic
import Derived.BigQuiet
set_option linter.unusedVariables false
namespace Go.Proofs.YtedmnepilbfihaaDoor
open Go.RowKit

set_option maxRecDepth 1000000 in
set_option maxHeartbeats 4000000 in
theorem sum_abc : sumS [97, 98, 99] = [186, 120, 22, 191, 143, 1, 207, 234, 65, 65, 64, 222, 93, 174, 34, 35, 176, 3, 97, 163, 150, 23, 122, 156, 180, 16, 255, 97, 242, 0, 21, 173] := by decide

theorem wpList_load_midG {P : Program} {ops : Array Oper} {rest : List Oper} {op : Oper} {a : Act} {w : World} {Q : Exit → Act → World → Prop} (hw : Region.wanted op (yielded ops a.tmps) = true) (ty : TypeId) (x : Operand) (ho : op.op = .load ty x)
    (b o : Nat) (hx : a.eval x = .pointer (some ⟨b, o, none⟩)) (cs : List Value) (d : TypeDesc) (hc : w.rangeAt b o cs)
    (hu : P.underlying ty = some d) (hd : d.isRow = true) (hi : (P.info? ty).map (·.size) = some cs.length)
    (h : wpList P ops Q rest (a.put op.dst (.agg cs.toArray)) w) : wpList P ops Q (op :: rest) a w :=
  wpList_step fun K hK => by rw [if_pos hw]; exact wp_load_mid ty x ho b o hx cs d hc hu hd hi (hK _ _ h)

set_option maxHeartbeats 1000000 in
set_option maxRecDepth 100000 in
theorem known_any (w : World) (hT : Tab w) : Calls Tryd.prog 14 #[] w fun r w' => r = .returned (.bool true) ∧ Below w.heap.size w w' := by
  obtain ⟨dg, edg⟩ : ∃ d, d = sumS [97, 98, 99] := ⟨_, rfl⟩
  have HS : Hid (Calls Tryd.prog 15 #[.string ⟨#[97, 98, 99]⟩] w fun e w' => e = .returned (.agg (dg.map bv).toArray) ∧ Below w.heap.size w w') := Lib.hid (by
    have := sumText_any ⟨#[97, 98, 99]⟩ w hT (by decide)
    rw [edg]; exact this)
  rw [sum_abc] at edg
  have hdl : dg.length = 32 := by rw [edg]; rfl
  have hml : (dg.map bv).length = 32 := by rw [List.length_map, hdl]
  have h0 : (dg.map bv)[0]? = some (.int .u8 186) := by rw [edg]; rfl
  have h31 : (dg.map bv)[31]? = some (.int .u8 173) := by rw [edg]; rfl
  have HI9 : Hid ((Tryd.prog.info? 25).map (·.size) = some (dg.map bv).length) := Lib.hid (by rw [info32, hml])
  have HI8 : Hid ((Tryd.prog.info? 25).map (·.size) = some (dg.map bv).toArray.size) := Lib.hid (by rw [info32, List.size_toArray, hml])
  have HSt := Lib.hid (fun W => string_any dg W hdl)
  have HX := Lib.hid (show (hexOf dg).length = 64 by rw [hexOf_length, hdl])
  have HML := Lib.hid hml
  have H0 := Lib.hid h0
  have H31 := Lib.hid h31
  clear edg hdl hml h0 h31 hT
  obtain ⟨hx, ehx⟩ : ∃ x, x = (⟨(hexOf dg).toArray⟩ : ByteArray) := ⟨_, rfl⟩
  have hxs : hx.size = 64 := by rw [ehx]; simpa [ByteArray.size] using HX.out
  rw [← ehx] at HSt
  clear ehx
  go_enter Tryd.func14, Tryd.ntmps14
  go_wp2_with (first
    | (go_at_call 15; refine HS.out.mono ?_; rintro e w1 ⟨rfl, hb1⟩; have B1 := Lib.hid hb1; clear hb1)
    | (show wpList _ _ _ (⟨none, .store 25 _ _, _, _, _, _⟩ :: _) _ _; refine wpList_store_mid (by rfl) 25 (.tmp 1) (.tmp 2) (by rfl) w1.heap.size 0 (dg.map bv).toArray (by rfl) (by rfl) ((new32 _ _ rfl _).thereA (dg.map bv) (by rw [HML.out]; rfl)) HI8.out (all_oneCell_toArray (bvs_oneCell _)) ?_; refine wpl_gen (fun V => Arr V w1.heap.size 0 (dg.map bv) ∧ Below w.heap.size w V) ⟨(new32 _ _ rfl _).sets _ (by rw [HML.out]; rfl), below_setCells _ B1.out.size _ _ _ (B1.out.alloc B1.out.size _)⟩ ?_; rintro V ⟨hA, hB⟩; have c0 := hA.cell0 H0.out; have c31 := hA.cell0 H31.out; have HA := Lib.hid hA; have HB := Lib.hid hB; clear hA hB)
    | (refine wpList_load_midG (by rfl) 25 (.tmp 1) (by rfl) w1.heap.size 0 (by rfl) (dg.map bv) _ HA.out.1 Tryd.underlying25 rfl HI9.out ?_)
    | (go_at_call 24; refine (HSt.out _).mono ?_; rintro e w2 ⟨rfl, hb2⟩; have B2 := Lib.hid hb2; clear hb2))
  go_ret
  exact ⟨rfl, HB.out.trans (B2.out.mono HB.out.size)⟩
end Go.Proofs.YtedmnepilbfihaaDoor
