/- instr: a list of the reference's instructions that came in. -/
import Derived.Test.YtajkccigmiegkaaDoorIRow
import Derived.Test.YtajkccigmiegkaaDoorILists
import Derived.Deep.Slices
import Derived.ChangeSlices
set_option linter.unusedVariables false
namespace Go.Proofs.YtajkccigmiegkaaDoor
open Go.ChangeShapes Go.WideShapes Go.ChangeAt Go.WideMaps Go.WideElems Go.RowKit Go.Joins Go.Deep

instance : Inhabited Q4 := ⟨⟨0, 0, 0, 0⟩⟩
set_option maxRecDepth 100000 in
theorem q_of_trod {H : Type} {enc : TypeId × Value → H} {W : World} {base : Nat} {sp : Nat → Bool} {held : Bool} {fuel : Nat} {cs : List Value} {z : DataW H × List MemPlace}
    (h : DataW.trod enc Tryd.prog W base sp held fuel 23 cs = some z) (hl : cs.length = 4) : ∃ x : Q4, cs = encQ x := by
  obtain ⟨d, p⟩ := z
  obtain ⟨f0, f1, f2, f3, hu, t0, t1, t2, t3, o0, o1, o2, o3⟩ := iFields
  obtain ⟨xs, m, _, hx, _, hlen, hg⟩ := DataW.trod_struct hu h
  have hxl4 : xs.length = 4 := hlen
  match cs, hl, xs, hxl4 with
  | [c0, c1, c2, c3], _, [y0, y1, y2, y3], _ =>
    have h0 := hg 0 f0 rfl
    have h1 := hg 1 f1 rfl
    have h2 := hg 2 f2 rfl
    have h3 := hg 3 f3 rfl
    rw [t0, o0, cInt] at h0
    rw [t1, o1, cInt] at h1
    rw [t2, o2, cInt] at h2
    rw [t3, o3, cInt] at h3
    obtain ⟨a0, e0, _, w0⟩ := DataW.trod_int Tryd.underlying3 h0
    obtain ⟨a1, e1, _, w1⟩ := DataW.trod_int Tryd.underlying3 h1
    obtain ⟨a2, e2, _, w2⟩ := DataW.trod_int Tryd.underlying3 h2
    obtain ⟨a3, e3, _, w3⟩ := DataW.trod_int Tryd.underlying3 h3
    simp at e0 e1 e2 e3
    subst e0 e1 e2 e3
    exact ⟨⟨a0, a1, a2, a3⟩, rfl⟩
set_option maxRecDepth 100000 in
theorem open_Is {H : Type} {enc : TypeId × Value → H} {W : World} {base : Nat} {v : Value} {d : DataW H} {p : List MemPlace}
    (hv : Value.okWide Tryd.prog W .any base 54 v) (h : DataW.Trod enc Tryd.prog W 0 (fun _ => true) true 54 v d p) :
    ∃ A l cap, v = .slice A (List.length (α := Q4) l) cap ∧ RQ encQ 4 W W.heap.size A l := by
  obtain ⟨a, len, cap, rfl⟩ := okWide_slice Tryd.underlying54 hv
  obtain ⟨fuel, hf⟩ := h
  rcases open_slice Tryd.underlying54 hf with ⟨hcs, _⟩ | ⟨x, l, c, m, n, D, Pl, hcs, _, hl, hm, hz, _, hel⟩
  · simp [Value.cells] at hcs
    obtain ⟨rfl, rfl, rfl⟩ := hcs
    exact ⟨none, [], 0, rfl, RQ.nil⟩
  · simp [Value.cells] at hcs
    obtain ⟨rfl, rfl, rfl⟩ := hcs
    have hz' : m = cap := by simpa using hz
    subst hz'
    rw [cI] at hel
    obtain ⟨f, hfx⟩ := choose_lt (α := Q4) (n := m) (p := fun i y => ∀ j, j < 4 → W.cell? ((x.add (i * 4)).add j) = (encQ y)[j]?) (fun i hi => by
      obtain ⟨cs', h1, h2⟩ := hel i hi
      obtain ⟨_, hlen, hc⟩ := World.cells?_some h1
      obtain ⟨y, rfl⟩ := q_of_trod h2 hlen
      exact ⟨y, hc⟩)
    have hll : ((List.range len).map f).length = len := by simp
    refine ⟨some x, (List.range len).map f, m, by rw [hll], fun hn => ?_⟩
    rw [hll] at hn
    obtain ⟨b, off, spot⟩ := x
    have hc0 := hfx 0 (by omega) 0 (by omega)
    have hc0' : W.cell? (((⟨b, off, spot⟩ : Addr).add (0 * 4)).add 0) = some (.int .i64 (f 0).o) := hc0
    have hspot : spot = none := by simpa [Addr.add] using World.cell?_spot hc0'
    subst hspot
    refine ⟨b, off, rfl, by simpa [Addr.add] using World.block_lt_of_cell? W _ hc0', fun j y hj i u hu => ?_⟩
    rw [List.getElem?_map] at hj
    have hjl : j < len := by
      rcases Nat.lt_or_ge j len with h | h
      · exact h
      · rw [List.getElem?_eq_none (by simpa using h)] at hj; cases hj
    rw [List.getElem?_range hjl] at hj
    simp at hj
    subst hj
    have hi4 : i < 4 := by have := (List.getElem?_eq_some_iff.1 hu).1; simpa [encQ] using this
    have := hfx j (by omega) i hi4
    rw [hu, Addr.add_lit, Addr.add_lit] at this
    exact this
end Go.Proofs.YtajkccigmiegkaaDoor
