/- object: a list of names of the reference that came in. -/
import Derived.Test.YtcdjmkfpclmbdaaGreatDoorORow
import Derived.Test.YtcdjmkfpclmbdaaGreatDoorOSorts
import Derived.Deep.Slices
import Derived.ChangeSlices
set_option linter.unusedVariables false
namespace Go.Proofs.YtcdjmkfpclmbdaaGreatDoor
open Go.ChangeShapes Go.WideShapes Go.ChangeAt Go.WideMaps Go.WideElems Go.RowKit Go.Joins Go.Deep

instance : Inhabited Nm := ⟨⟨0, [], 0, 0, []⟩⟩
set_option maxRecDepth 100000 in
/-- The cells of a name are those of a plain one. -/
theorem nm_of_trod {H : Type} {enc : TypeId × Value → H} {W : World} {base : Nat} {sp : Nat → Bool} {held : Bool} {fuel : Nat} {cs : List Value} {z : DataW H × List MemPlace}
    (h : DataW.trod enc Tryz.prog W base sp held fuel 23 cs = some z) (hl : cs.length = 5) : ∃ x : Nm, cs = encNm x ∧ x.owner.length ≤ maxLen ∧ x.text.length ≤ maxLen := by
  obtain ⟨d, p⟩ := z
  obtain ⟨f0, f1, f2, f3, f4, hu, t0, t1, t2, t3, t4, o0, o1, o2, o3, o4⟩ := nFields
  obtain ⟨xs, m, _, hx, _, hlen, hg⟩ := DataW.trod_struct hu h
  have hxl5 : xs.length = 5 := hlen
  match cs, hl, xs, hxl5 with
  | [c0, c1, c2, c3, c4], _, [y0, y1, y2, y3, y4], _ =>
    have h0 := hg 0 f0 rfl
    have h1 := hg 1 f1 rfl
    have h2 := hg 2 f2 rfl
    have h3 := hg 3 f3 rfl
    have h4 := hg 4 f4 rfl
    rw [t0, o0, cInt] at h0
    rw [t1, o1, cStr] at h1
    rw [t2, o2, cInt] at h2
    rw [t3, o3, cInt] at h3
    rw [t4, o4, cStr] at h4
    obtain ⟨a0, e0, _, w0⟩ := DataW.trod_int Tryz.underlying3 h0
    obtain ⟨a1, e1, _, w1⟩ := DataW.trod_string Tryz.underlying9 h1
    obtain ⟨a2, e2, _, w2⟩ := DataW.trod_int Tryz.underlying3 h2
    obtain ⟨a3, e3, _, w3⟩ := DataW.trod_int Tryz.underlying3 h3
    obtain ⟨a4, e4, _, w4⟩ := DataW.trod_string Tryz.underlying9 h4
    simp at e0 e1 e2 e3 e4
    subst e0 e1 e2 e3 e4
    refine ⟨⟨a0, a1.data.toList, a2, a3, a4.data.toList⟩, ?_, ?_, ?_⟩
    · unfold encNm
      rw [sv_back, sv_back]
    · simpa using w1
    · simpa using w4

set_option maxRecDepth 100000 in
/-- A list of names that came in. -/
theorem open_Ns {H : Type} {enc : TypeId × Value → H} {W : World} {base : Nat} {v : Value} {d : DataW H} {p : List MemPlace}
    (hv : Value.okWide Tryz.prog W .any base 41 v) (h : DataW.Trod enc Tryz.prog W 0 (fun _ => true) true 41 v d p) :
    ∃ A l cap, v = .slice A (List.length (α := Nm) l) cap ∧ RQ encNm 5 W W.heap.size A l ∧ l.length ≤ cap ∧ cap ≤ maxLen ∧ ∀ x ∈ l, x.owner.length ≤ maxLen ∧ x.text.length ≤ maxLen := by
  obtain ⟨a, len, cap, rfl⟩ := okWide_slice Tryz.underlying41 hv
  obtain ⟨fuel, hf⟩ := h
  rcases open_slice Tryz.underlying41 hf with ⟨hcs, _⟩ | ⟨x, l, c, m, n, D, Pl, hcs, _, hl, hm, hz, _, hel⟩
  · simp [Value.cells] at hcs
    obtain ⟨rfl, rfl, rfl⟩ := hcs
    exact ⟨none, [], 0, rfl, RQ.nil, Nat.le_refl _, Nat.zero_le _, fun s hs => by cases hs⟩
  · simp [Value.cells] at hcs
    obtain ⟨rfl, rfl, rfl⟩ := hcs
    have hz' : m = cap := by simpa using hz
    subst hz'
    rw [cN] at hel
    obtain ⟨f, hfx⟩ := choose_lt (α := Nm) (n := m) (p := fun i y => (y.owner.length ≤ maxLen ∧ y.text.length ≤ maxLen) ∧ ∀ j, j < 5 → W.cell? ((x.add (i * 5)).add j) = (encNm y)[j]?) (fun i hi => by
      obtain ⟨cs', h1, h2⟩ := hel i hi
      obtain ⟨_, hlen, hc⟩ := World.cells?_some h1
      obtain ⟨y, rfl, y1, y2⟩ := nm_of_trod h2 hlen
      exact ⟨y, ⟨y1, y2⟩, hc⟩)
    have hll : ((List.range len).map f).length = len := by simp
    refine ⟨some x, (List.range len).map f, m, by rw [hll], fun hn => ?_, by rw [hll]; exact hl, hm, fun y hy => ?_⟩
    · rw [hll] at hn
      obtain ⟨b, off, spot⟩ := x
      have hc0 := (hfx 0 (by omega)).2 0 (by omega)
      have hc0' : W.cell? (((⟨b, off, spot⟩ : Addr).add (0 * 5)).add 0) = some (.int .i64 (f 0).kind) := hc0
      have hspot : spot = none := by simpa [Addr.add] using World.cell?_spot hc0'
      subst hspot
      refine ⟨b, off, rfl, by simpa [Addr.add] using World.block_lt_of_cell? W _ hc0', fun j y hj i u hu => ?_⟩
      rw [List.getElem?_map] at hj
      have hjl : j < len := by
        rcases Nat.lt_or_ge j len with h | h
        · exact h
        · rw [List.getElem?_eq_none (by simpa using h)] at hj; cases hj
      rw [List.getElem?_range hjl] at hj
      simp at hj
      subst hj
      have hi5 : i < 5 := by have := (List.getElem?_eq_some_iff.1 hu).1; simpa [encNm] using this
      have := (hfx j (by omega)).2 i hi5
      rw [hu, Addr.add_lit, Addr.add_lit] at this
      exact this
    · obtain ⟨i, hi, rfl⟩ := List.mem_map.1 hy
      exact (hfx i (by have := List.mem_range.1 hi; omega)).1
theorem objectSorts_walk (A : Option Addr) (l : List Nm) (c : Nat) (w : World) (hE : Env w) (hr : RQ encNm 5 w w.heap.size A l) (hlc : l.length ≤ c) (hcm : c ≤ maxLen) (hz : ∀ x ∈ l, x.owner.length ≤ maxLen ∧ x.text.length ≤ maxLen) :
    Calls Tryz.prog 4 #[.slice A l.length c] w fun e w' => e = .returned (.bool true) ∧ Below w.heap.size w w' := by
  by_cases h : l.length ≤ 30
  · exact sorts_few A l c w hE h hr hz
  · exact sorts_many A l.length c w hE (by omega)
end Go.Proofs.YtcdjmkfpclmbdaaGreatDoor
