/- lineage: what LineageChooses' row opens: its four variables, an array of bytes, a pair of numbers. Plain lemmas. -/
import Derived.Test.YtifbeemcphndfaaDoorLRow
import Derived.Test.YtifbeemcphndfaaDoorLChooses
import Derived.WalkKit
set_option linter.unusedVariables false
namespace Go.Proofs.YtifbeemcphndfaaDoor
open Go.ChangeShapes Go.WideShapes Go.ChangeAt Go.WideMaps Go.WideElems Go.RowKit

def laid4 : List (String × DataW Unit) := [("math/bits.deBruijn32tab", Rows.laid_math_bits_deBruijn32tab), ("math/bits.deBruijn64tab", Rows.laid_math_bits_deBruijn64tab), ("internal/strconv.uint64pow10", Rows.laid_internal_strconv_uint64pow10), ("replevin/sha256.constants", Rows.laid_replevin_sha256_constants)]
theorem gConst : Tryd.prog.globalNamed "replevin/sha256.constants" = some 0 := by kernel_rfl
theorem tConst : (Tryd.prog.globals[0]?).map (·.type) = some 139 := by kernel_rfl
theorem door_met4 (os : Os) (args : Array Value) : laidMetH Tryd.prog laid4 ((World.doorLaid Tryd.prog 400 os).forCall (fun _ _ => 0) ⟨#[], args, []⟩).memory :=
  laidMetH_of_parts3 (fuel := 8) (laidMet_of_run' 8 (by kernel_rfl) (by kernel_rfl)) (by kernel_rfl) (by kernel_rfl)
theorem laid_list {H : Type} : (Rows.laid_replevin_sha256_constants : DataW H) = .agg (KS.map fun x => .lit (.int .u32 (x.toNat : Int))) := rfl
theorem take_one {α : Type} {l : List α} {t : Nat} {v : α} (h : (l.drop t).take 1 = [v]) : l[t]? = some v := by
  have h1 := congrArg (fun x => x[0]?) h
  simpa [List.getElem?_take, List.getElem?_drop] using h1
set_option maxRecDepth 100000 in
theorem of_laid4 {W : World} (h : laidMetH Tryd.prog laid4 W) : Pow W ∧ Tab W := by
  unfold laid4 at h
  rw [MakeChecks.laidMetH_plain _ _ _ (by kernel_rfl)] at h
  obtain ⟨ps, ⟨g0, t0, cs0, f0, p0, q0, hg0, ht0, hv0, hd0, ⟨g1, t1, cs1, f1, p1, q1, hg1, ht1, hv1, hd1, ⟨g2, t2, cs2, f2, p2, q2, hg2, ht2, hv2, hd2, ⟨g3, t3, cs3, f3, p3, q3, hg3, ht3, hv3, hd3, hrest⟩, _⟩, _⟩, _⟩, _⟩ := h
  constructor
  · obtain rfl := Option.some.inj (gPow.symm.trans hg2)
    obtain rfl := Option.some.inj (tPow.symm.trans ht2)
    rw [laid_pow] at hd2
    unfold Pow Lib.TabIs
    rw [hv2, ← Lib.cells_of_tab Tryd.underlying157 Tryd.underlying135 (by kernel_rfl) (by kernel_rfl) hd2]
  · obtain rfl := Option.some.inj (gConst.symm.trans hg3)
    obtain rfl := Option.some.inj (tConst.symm.trans ht3)
    obtain ⟨xs, m1, hx0, hx1, hlen, hn3, hel⟩ := DataW.trod_array Tryd.underlying139 hd3
    have c1 : Tryd.prog.cellsOf 110 = 1 := by kernel_rfl
    rw [c1] at hel
    have hl := (Prod.mk.inj hx1).1
    rw [laid_list] at hl
    injection hl with hl
    have htab : ∀ t, t < 64 → W.cell? ⟨0, t, none⟩ = some (wv (KS.getD t 0)) := by
      intro t ht
      have h0 := hel t ht
      have hxt : xs[t]? = some (xs[t]'(by omega)) := List.getElem?_eq_getElem _
      rw [hxt] at h0
      obtain ⟨k, e1, e2, _⟩ := DataW.trod_int Tryd.underlying110 h0
      have hk : (List.map (fun x => x.1) xs)[t]? = some (xs[t]'(by omega)).1 := by rw [List.getElem?_map, hxt]; rfl
      rw [← hl, List.getElem?_map, List.getElem?_eq_getElem (by rw [KS_length]; exact ht)] at hk
      simp only [Option.map_some, Option.some.injEq] at hk
      rw [e2] at hk
      have hk2 : ((KS[t]'(by rw [KS_length]; exact ht)).toNat : Int) = k := by
        injection hk with h1
        injection h1 with _ h2
      rw [Nat.mul_one] at e1
      have hc := World.var?_cell hg3 hv3 t
      have h3 : cs3[t]? = some (.int .u32 k) := by
        have := take_one e1
        simpa using this
      rw [h3] at hc
      rw [hc, ← hk2, List.getD_eq_getElem?_getD, List.getElem?_eq_getElem (by rw [KS_length]; exact ht)]
      rfl
    exact ⟨block_lt_of_cell (htab 0 (by omega)), htab⟩

theorem wf_u8 {n : Int} (h : (Lit.int .u8 n).wf = true) : 0 ≤ n ∧ n ≤ 255 := bounds_u8 h
theorem u8_of {n : Int} (h : 0 ≤ n ∧ n ≤ 255) : (Value.int .u8 n) = bv (UInt8.ofNat n.toNat) := by
  show Value.int .u8 n = Value.int .u8 (((UInt8.ofNat n.toNat).toNat : Nat) : Int)
  rw [UInt8.toNat_ofNat']
  congr 1; omega
def byteOf (v : Value) : UInt8 := match v with
  | .int _ n => UInt8.ofNat n.toNat
  | _ => 0
set_option maxRecDepth 100000 in
/-- An array of bytes. -/
theorem open_arr8 {H : Type} {enc : TypeId × Value → H} {W : World} {base : Nat} {t e : TypeId} {N : Nat} {v : Value} {d : DataW H} {p : List MemPlace} (hu : Tryd.prog.underlying t = some (.array N e)) (he : Tryd.prog.underlying e = some (.int .u8)) (hC : Tryd.prog.cellsOf e = 1) (hN : Tryd.prog.cellsOf t = N)
    (hv : Value.okWide Tryd.prog W .any base t v) (h : DataW.Trod enc Tryd.prog W 0 (fun _ => true) true t v d p) : ∃ l : List UInt8, v = .agg (l.map bv).toArray ∧ l.length = N := by
  have hv2 : ∃ cs, v = .agg cs ∧ cs.size = Tryd.prog.cellsOf t ∧ Row.okWide Tryd.prog W .any base t cs := by simpa only [Value.okWide, hu] using hv
  obtain ⟨cs, rfl, hsz, _⟩ := hv2
  rw [hN] at hsz
  obtain ⟨fuel, hf⟩ := h
  obtain ⟨xs, m1, hx0, hx1, hlen, hn3, hel⟩ := DataW.trod_array hu hf
  rw [hC] at hel
  have each : ∀ i, i < N → ∃ k : Int, cs.toList[i]? = some (.int .u8 k) ∧ 0 ≤ k ∧ k ≤ 255 := by
    intro i hi
    have h0 := hel i hi
    rw [List.getElem?_eq_getElem (show i < xs.length by omega)] at h0
    obtain ⟨k, e1, e2, hw⟩ := DataW.trod_int he h0
    rw [Nat.mul_one] at e1
    exact ⟨k, take_one e1, wf_u8 hw⟩
  refine ⟨cs.toList.map byteOf, ?_, by simpa using hsz⟩
  congr 1
  apply Array.ext'
  simp only [List.toList_toArray]
  apply List.ext_getElem?
  intro i
  rw [List.map_map, List.getElem?_map]
  by_cases hi : i < N
  · obtain ⟨k, hk, hb⟩ := each i hi
    rw [hk]
    simp only [Option.map_some, Function.comp, byteOf]
    rw [u8_of hb]
  · rw [List.getElem?_eq_none (by simpa [hsz] using Nat.le_of_not_lt hi)]; rfl
set_option maxRecDepth 100000 in
/-- A pair of numbers. -/
theorem open_pair {H : Type} {enc : TypeId × Value → H} {W : World} {base : Nat} {v : Value} {d : DataW H} {p : List MemPlace}
    (hv : Value.okWide Tryd.prog W .any base 65 v) (h : DataW.Trod enc Tryd.prog W 0 (fun _ => true) true 65 v d p) : ∃ c l : Int, v = .agg #[.int .i64 c, .int .i64 l] ∧ c < 9223372036854775808 := by
  have hv2 : ∃ cs, v = .agg cs ∧ cs.size = Tryd.prog.cellsOf 65 ∧ Row.okWide Tryd.prog W .any base 65 cs := by simpa only [Value.okWide, Tryd.underlying65] using hv
  obtain ⟨cs, rfl, hsz, _⟩ := hv2
  have hN : Tryd.prog.cellsOf 65 = 2 := by kernel_rfl
  rw [hN] at hsz
  obtain ⟨fuel, hf⟩ := h
  obtain ⟨xs, m1, hx0, hx1, hlen, hn3, hel⟩ := DataW.trod_array Tryd.underlying65 hf
  have c1 : Tryd.prog.cellsOf 3 = 1 := by kernel_rfl
  rw [c1] at hel
  have each : ∀ i, i < 2 → ∃ k : Int, cs.toList[i]? = some (.int .i64 k) ∧ k < 9223372036854775808 := by
    intro i hi
    have h0 := hel i hi
    rw [List.getElem?_eq_getElem (show i < xs.length by omega)] at h0
    obtain ⟨k, e1, e2, hw⟩ := DataW.trod_int Tryd.underlying3 h0
    rw [Nat.mul_one] at e1
    exact ⟨k, take_one e1, by have := bounds_i64 hw; omega⟩
  obtain ⟨c, h0, hc⟩ := each 0 (by omega)
  obtain ⟨l, h1, _⟩ := each 1 (by omega)
  refine ⟨c, l, ?_, hc⟩
  congr 1
  apply Array.ext'
  apply List.ext_getElem?
  intro i
  match i with
  | 0 => rw [h0]; rfl
  | 1 => rw [h1]; rfl
  | n + 2 => rw [List.getElem?_eq_none (by simp [hsz]), List.getElem?_eq_none (by simp)]
end Go.Proofs.YtifbeemcphndfaaDoor
