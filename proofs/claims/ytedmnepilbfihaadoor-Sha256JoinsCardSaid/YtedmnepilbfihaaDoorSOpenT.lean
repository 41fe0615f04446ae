/- How a row of the layer opens a '[]string', and the walks as the rows call them. -/
import Derived.Test.YtedmnepilbfihaaDoorSOpen
import Derived.Test.YtedmnepilbfihaaDoorSApart
import Derived.ProofKit
import Derived.OpenShut
import Derived.SliceStrings
set_option linter.unusedVariables false
namespace Go.Proofs.YtedmnepilbfihaaDoor
open Go.ChangeShapes Go.WideShapes Go.ChangeAt Go.RowKit
open Go.ChangeMaps (open_string shut_string)

/-- A '[]string' that came in. -/
theorem open_strs8 {H : Type} {enc : TypeId × Value → H} {W : World} {base : Nat} {v : Value} {d : DataW H} {p : List MemPlace}
    (hv : Value.okWide Tryd.prog W .any base 32 v) (h : DataW.Trod enc Tryd.prog W 0 (fun _ => true) true 32 v d p) :
    ∃ A l cap, v = .slice A (List.length (α := ByteArray) l) cap ∧ RT W W.heap.size A l ∧ l.length ≤ cap ∧ cap ≤ maxLen := by
  obtain ⟨a, len, cap, rfl⟩ := okWide_slice Tryd.underlying32 hv
  obtain ⟨fuel, hf⟩ := h
  rcases open_strings Tryd.underlying32 Tryd.underlying9 (by kernel_rfl) hf with ⟨hcs, _⟩ | ⟨x, l, c, ss, hcs, _, hl, hm, hz, _, hcell, _⟩
  · simp [Value.cells] at hcs
    obtain ⟨rfl, rfl, rfl⟩ := hcs
    exact ⟨none, [], 0, rfl, RT.nil, Nat.le_refl _, Nat.zero_le _⟩
  · simp [Value.cells] at hcs
    obtain ⟨rfl, rfl, rfl⟩ := hcs
    have hz' : ss.length = cap := by simpa using hz
    have hll : (ss.take len).length = len := by simp; omega
    refine ⟨some x, ss.take len, cap, by rw [hll], fun hn => ?_, by rw [hll]; exact hl, hm⟩
    rw [hll] at hn
    obtain ⟨b, off, spot⟩ := x
    have hc0 := hcell 0 (by omega)
    have hspot : spot = none := by simpa [Addr.add] using World.cell?_spot hc0
    subst hspot
    refine ⟨b, off, rfl, by simpa [Addr.add] using World.block_lt_of_cell? W _ hc0, fun j s hj => ?_⟩
    rw [List.getElem?_take] at hj
    split at hj
    · have hjz : j < ss.length := (List.getElem?_eq_some_iff.1 hj).1
      have h1 := hcell j hjz
      rw [Addr.add_lit] at h1
      rw [h1]
      have h2 : ss.getD j ByteArray.empty = s := by simp [List.getD, hj]
      rw [h2]
    · cases hj

theorem sha256Joins_row (a0 : Int) (A : Option Addr) (l : List ByteArray) (c : Nat) (w : World) (hT : Tab w) (h0 : (Lit.int .u8 a0).wf = true) (hr : RT w w.heap.size A l) (_ : l.length ≤ c) (_ : c ≤ maxLen) :
    Calls Tryd.prog 5 #[.int .u8 a0, .slice A l.length c] w fun e w' => e = .returned (.bool true) ∧ Below w.heap.size w w' := by
  rw [u8_of (wf_u8 h0)]
  exact sha256Joins_walk _ A l c w hT hr
theorem sha256Apart_row (d : List UInt8) (A : Option Addr) (a : List ByteArray) (c : Nat) (A' : Option Addr) (b : List ByteArray) (c' : Nat) (w : World) (hT : Tab w) (hd : d.length = 2) (hr : RT w w.heap.size A a) (_ : a.length ≤ c) (_ : c ≤ maxLen) (hr' : RT w w.heap.size A' b) (_ : b.length ≤ c') (_ : c' ≤ maxLen) :
    Calls Tryd.prog 6 #[.agg (d.map bv).toArray, .slice A a.length c, .slice A' b.length c'] w fun e w' => e = .returned (.bool true) ∧ Below w.heap.size w w' := by
  match d, hd with
  | [t0, t1], _ => exact sha256Apart_walk t0 t1 A A' a b c c' w hT hr hr'
end Go.Proofs.YtedmnepilbfihaaDoor
