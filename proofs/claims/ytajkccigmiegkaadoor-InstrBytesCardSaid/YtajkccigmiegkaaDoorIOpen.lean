/- instr: four bytes that came in. -/
import Derived.Test.YtajkccigmiegkaaDoorIRow
import Derived.Test.YtajkccigmiegkaaDoorICheck
set_option linter.unusedVariables false
namespace Go.Proofs.YtajkccigmiegkaaDoor
open Go.ChangeShapes Go.WideShapes Go.ChangeAt Go.WideMaps Go.WideElems Go.RowKit Go.Joins Go.Deep

theorem take_one {α : Type} {l : List α} {t : Nat} {v : α} (h : (l.drop t).take 1 = [v]) : l[t]? = some v := by
  have h1 := congrArg (fun x => x[0]?) h
  simpa [List.getElem?_take, List.getElem?_drop] using h1
set_option maxRecDepth 100000 in
theorem wf_u8 {n : Int} (h : (Lit.int .u8 n).wf = true) : 0 ≤ n ∧ n ≤ 255 := bounds_u8 h
theorem u8_of {n : Int} (h : 0 ≤ n ∧ n ≤ 255) : (Value.int .u8 n) = bv (UInt8.ofNat n.toNat) := by
  show Value.int .u8 n = Value.int .u8 (((UInt8.ofNat n.toNat).toNat : Nat) : Int)
  rw [UInt8.toNat_ofNat']
  congr 1; omega
def byteOf (v : Value) : UInt8 := match v with
  | .int _ n => UInt8.ofNat n.toNat
  | _ => 0


set_option maxRecDepth 100000 in
theorem open_arr8 {H : Type} {enc : TypeId × Value → H} {W : World} {base : Nat} {t e : TypeId} {N : Nat} {v : Value} {d : DataW H} {p : List MemPlace} (hu : Tryd.prog.underlying t = some (.array N e)) (he : Tryd.prog.underlying e = some (.int .u8)) (hC : Tryd.prog.cellsOf e = 1) (hN : Tryd.prog.cellsOf t = N)
    (hv : Value.okWide Tryd.prog W .any base t v) (h : DataW.Trod enc Tryd.prog W 0 (fun _ => true) true t v d p) : ∃ l : List UInt8, v = .agg (l.map bv).toArray ∧ l.length = N := by
  have hv2 : ∃ cs, v = .agg cs ∧ cs.size = Tryd.prog.cellsOf t ∧ Row.okWide Tryd.prog W .any base t cs := by simpa only [Value.okWide, hu] using hv
  obtain ⟨cs, rfl, hsz, _⟩ := hv2
  rw [hN] at hsz
  obtain ⟨fuel, hf⟩ := h
  obtain ⟨xs, m1, hx0, hx1, hlen, hn3, hel⟩ := DataW.trod_array hu hf
  rw [hC] at hel
  have each : ∀ i, i < N → ∃ k : Int, cs.toList[i]? = some (.int .u8 k) ∧ 0 ≤ k ∧ k ≤ 255 := by
    intro i hi
    have h0 := hel i hi
    rw [List.getElem?_eq_getElem (show i < xs.length by omega)] at h0
    obtain ⟨k, e1, e2, hw⟩ := DataW.trod_int he h0
    rw [Nat.mul_one] at e1
    exact ⟨k, take_one e1, wf_u8 hw⟩
  refine ⟨cs.toList.map byteOf, ?_, by simpa using hsz⟩
  congr 1
  apply Array.ext'
  simp only [List.toList_toArray]
  apply List.ext_getElem?
  intro i
  rw [List.map_map, List.getElem?_map]
  by_cases hi : i < N
  · obtain ⟨k, hk, hb⟩ := each i hi
    rw [hk]
    simp only [Option.map_some, Function.comp, byteOf]
    rw [u8_of hb]
  · rw [List.getElem?_eq_none (by simpa [hsz] using Nat.le_of_not_lt hi)]; rfl
set_option maxRecDepth 100000 in
/-- A pair of numbers. -/
theorem open_by4 {H : Type} {enc : TypeId × Value → H} {W : World} {base : Nat} {v : Value} {d : DataW H} {p : List MemPlace}
    (hv : Value.okWide Tryd.prog W .any base 43 v) (h : DataW.Trod enc Tryd.prog W 0 (fun _ => true) true 43 v d p) :
    ∃ x0 x1 x2 x3 : Nat, v = .agg #[.int .u8 x0, .int .u8 x1, .int .u8 x2, .int .u8 x3] ∧ x0 < 256 ∧ x1 < 256 ∧ x2 < 256 ∧ x3 < 256 := by
  obtain ⟨l, rfl, hl⟩ := open_arr8 Tryd.underlying43 Tryd.underlying5 (by kernel_rfl) (by kernel_rfl) hv h
  match l, hl with
  | [a, b, c, d], _ => exact ⟨a.toNat, b.toNat, c.toNat, d.toNat, rfl, a.toNat_lt, b.toNat_lt, c.toNat_lt, d.toNat_lt⟩
end Go.Proofs.YtajkccigmiegkaaDoor
