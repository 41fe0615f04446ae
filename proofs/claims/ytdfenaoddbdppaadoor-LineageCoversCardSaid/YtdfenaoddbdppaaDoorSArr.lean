/- An array that lies in a block from an offset on. Plain lemmas, no program. -/
import Derived.Test.YtdfenaoddbdppaaDoorSPure
import Derived.Test.YtdfenaoddbdppaaDoorLib
import Derived.Deep.MidRow
import Derived.Deep.RegionHeld3
set_option linter.unusedVariables false
namespace Go.Proofs.YtdfenaoddbdppaaDoor
open Go.RowKit

theorem push_w (x : UInt32) (c : UInt8) : bits .or .u32 ((x.toNat : Int) * 256 % 4294967296) ((c.toNat : Int) % 4294967296) = ((wpush x c).toNat : Int) := by
  rw [shl_w x 8 256 rfl, show (c.toNat : Int) % 4294967296 = ((byteW c).toNat : Int) by rw [byteW_toNat]; have := c.toNat_lt; omega, bits_or_w]; rfl

/-- 'cs[i]' of an array value whose elements are one cell each. -/
theorem run_index_arr {P : Program} {t e : TypeId} {len : Nat} {k : IntKind} (hu : P.underlying t = some (.array len e)) (he : P.underlying e = some (.int k)) (hs : (P.info? e).map (·.size) = some 1)
    (cs : Array Value) (i : Nat) (hi : i < len) (v : Value) (hv : cs[i]? = some v) (w : World) : (Instr.index t (.agg cs) (.int .i64 (i : Int))).run P w = .ok v w := by
  cases hq : P.info? e with
  | none => simp [hq] at hs
  | some j =>
    have hj : j.size = 1 := by simpa [hq] using hs
    have hi' : (i : Int) < (len : Int) := by omega
    simp [Instr.index, asIntOf, run_underlying hu, hi', part, isAgg, run_underlying he, sizeOf, typeInfo, hq, hj, hv]
    intro h; omega

/-- The cells cs lie in block g from o on, and may be written. -/
def Arr (w : World) (g o : Nat) (cs : List Value) : Prop := w.rangeAt g o cs ∧ w.there g o cs.length

section
variable {w w' : World} {g o : Nat} {cs : List Value}
theorem Arr.cell (h : Arr w g o cs) {i : Nat} {v : Value} (hi : cs[i]? = some v) : w.cell? ⟨g, o + i, none⟩ = some v := h.1 i v hi
theorem Arr.cell0 (h : Arr w g 0 cs) {i : Nat} {v : Value} (hi : cs[i]? = some v) : w.cell? ⟨g, i, none⟩ = some v := by simpa using h.1 i v hi
theorem Arr.frozen (h : Arr w g o cs) {i : Nat} (hi : i < cs.length) : w.frozen? ⟨g, o + i, none⟩ = false := (h.2 i hi).2
theorem Arr.frozen0 (h : Arr w g 0 cs) {i : Nat} (hi : i < cs.length) : w.frozen? ⟨g, i, none⟩ = false := by simpa using (h.2 i hi).2
theorem Arr.lt (h : Arr w g o cs) (h0 : 0 < cs.length) : g < w.heap.size := by
  obtain ⟨u, hu⟩ := Option.isSome_iff_exists.1 (h.2 0 h0).1
  exact World.block_lt_of_cell? w _ hu
theorem Arr.keep (h : Arr w g o cs) (hc : ∀ i, i < cs.length → w'.cell? ⟨g, o + i, none⟩ = w.cell? ⟨g, o + i, none⟩) (hf : ∀ i, i < cs.length → w'.frozen? ⟨g, o + i, none⟩ = w.frozen? ⟨g, o + i, none⟩) : Arr w' g o cs :=
  ⟨fun j v hv => by rw [hc j (List.getElem?_eq_some_iff.1 hv).1]; exact h.1 j v hv, fun j hj => by rw [hc j hj, hf j hj]; exact h.2 j hj⟩
theorem Arr.below (h : Arr w g o cs) {B : Nat} (hb : Below B w w') (hg : g < B) : Arr w' g o cs :=
  h.keep (fun i _ => hb.cell (p := ⟨g, o + i, none⟩) hg) (fun i _ => hb.frozen (p := ⟨g, o + i, none⟩) hg)
theorem Arr.drew (h : Arr w g o cs) : Arr w.drew g o cs := h
theorem Arr.drewN (h : Arr w g o cs) (n : Nat) : Arr (w.drewN n) g o cs := h
theorem Arr.alloc (h : Arr w g o cs) (ob : Obj) : Arr (w.alloc ob) g o cs := ⟨World.rangeAt_alloc h.1 ob, World.there_alloc h.2 ob⟩
theorem Arr.new (w : World) (cs : List Value) (t : TypeId) : Arr (w.alloc (.cells cs.toArray t)) w.heap.size 0 cs := by
  refine ⟨fun j v hv => ?_, fun j hj => ?_⟩
  · rw [World.cell?_alloc_at _ _ _ _ rfl]; simpa using hv
  · rw [World.cell?_alloc_at _ _ _ _ rfl, World.frozen?_alloc_at _ _ _ _ rfl]
    refine ⟨?_, rfl⟩
    rw [Nat.zero_add, List.getElem?_toArray, List.getElem?_eq_getElem hj]; rfl
theorem Arr.other (h : Arr w g o cs) {p : Addr} (u : Value) (hp : p.block ≠ g ∨ p.off < o ∨ o + cs.length ≤ p.off) : Arr (w.setCell p u) g o cs :=
  h.keep (fun i hi => World.cell?_setCell_other w p _ u (fun e => by subst e; rcases hp with h | h | h <;> simp at h <;> omega)) (fun i hi => World.frozen?_setCell _ _ _ _)
theorem Arr.set (h : Arr w g o cs) {i : Nat} (hi : i < cs.length) (u : Value) : Arr (w.setCell ⟨g, o + i, none⟩ u) g o (cs.set i u) := by
  have hs : (w.cell? ⟨g, o + i, none⟩).isSome = true := (h.2 i hi).1
  refine ⟨fun j v hv => ?_, fun j hj => ?_⟩
  · rw [List.getElem?_set] at hv
    by_cases e : i = j
    · subst e
      rw [if_pos rfl, if_pos hi] at hv
      rw [World.cell?_setCell_same' _ _ _ hs]; exact hv
    · rw [if_neg e] at hv
      rw [World.cell?_setCell_other _ _ _ _ (by intro e'; injection e' with _ e2; omega)]
      exact h.1 j v hv
  · rw [List.length_set] at hj
    rw [World.frozen?_setCell]
    refine ⟨?_, (h.2 j hj).2⟩
    by_cases e : i = j
    · subst e; rw [World.cell?_setCell_same' _ _ _ hs]; rfl
    · rw [World.cell?_setCell_other _ _ _ _ (by intro e'; injection e' with _ e2; omega)]; exact (h.2 j hj).1
theorem Arr.set0 (h : Arr w g 0 cs) {i : Nat} (hi : i < cs.length) (u : Value) : Arr (w.setCell ⟨g, i, none⟩ u) g 0 (cs.set i u) := by simpa using h.set hi u
theorem Arr.sets (h : Arr w g o cs) (ds : List Value) (hl : ds.length = cs.length) : Arr (w.setCells g o ds) g o ds :=
  ⟨World.rangeAt_setCells_same w g o ds (by rw [hl]; exact h.2), World.there_setCells (by rw [hl]; exact h.2) g o ds⟩
theorem Arr.thereA (h : Arr w g o cs) (ds : List Value) (hl : ds.length = cs.length) : w.there g o ds.toArray.size := by
  rw [List.size_toArray, hl]; exact h.2
theorem Arr.sets_other (h : Arr w g o cs) (b o' : Nat) (vs : List Value) (hap : g ≠ b ∨ o + cs.length ≤ o' ∨ o' + vs.length ≤ o) : Arr (w.setCells b o' vs) g o cs :=
  ⟨World.rangeAt_setCells_apart h.1 b o' vs hap, World.there_setCells h.2 b o' vs⟩
end

theorem below_setCells {B : Nat} {a : World} (b : Nat) (hb : B ≤ b) : ∀ (vs : List Value) (o : Nat) (w : World), Below B a w → Below B a (w.setCells b o vs)
  | [], _, _, h => h
  | v :: r, o, w, h => below_setCells b hb r (o + 1) _ (h.setCell (p := ⟨b, o, none⟩) hb v)

theorem wvs_oneCell (l : List UInt32) : ∀ u ∈ l.map wv, u.oneCell' = true := by
  intro u hu; obtain ⟨_, _, rfl⟩ := List.mem_map.1 hu; rfl
/-- The result that lies in a variable: an array. -/
theorem results_cell_mid {P : Program} {fn : Func} {p : Tmp} {ty : TypeId} (h : fn.results = #[.cell p ty]) (tmps : Array Value) (w : World) (g : Nat) (cs : List Value) (d : TypeDesc)
    (hp : tmps.getD p undef = .pointer (some ⟨g, 0, none⟩)) (hg : Arr w g 0 cs) (hu : P.underlying ty = some d) (hd : d.isRow = true) (hi : (P.info? ty).map (·.size) = some cs.length) :
    (results fn tmps).run P w = .ok (.agg cs.toArray) w := by
  have hp' : tmps[p]?.getD undef = .pointer (some ⟨g, 0, none⟩) := by simpa using hp
  simp [results, h, hp', asAddr, run_loadVar_mid w g 0 ty cs d hg.1 hu hd hi]
end Go.Proofs.YtdfenaoddbdppaaDoor
