/- How an argument that is a slice of the reference's values is opened. -/
import Derived.Test.YtfjigooahdfbpaaRow
import Derived.Test.YtfjigooahdfbpaaVs
import Derived.Deep.Slices
import Derived.Deep.Fields
set_option linter.unusedVariables false
namespace Go.Proofs.Ytfjigooahdfbpaa
open Go.ChangeShapes Go.WideShapes Go.ChangeAt Go.RowKit

theorem v_fields : ∃ f0 f1 f2 f3 f4 : Field, Try.prog.underlying 56 = some (.struct #[f0, f1, f2, f3, f4]) ∧ Go.Deep.oneCellFields Try.prog #[f0, f1, f2, f3, f4] = true ∧
    f0.type = 5 ∧ f1.type = 3 ∧ f2.type = 4 ∧ f3.type = 9 ∧ f4.type = 3 :=
  ⟨_, _, _, _, _, Try.underlying56, by kernel_rfl, rfl, rfl, rfl, rfl, rfl⟩
theorem v_cells : Try.prog.cellsOf 56 = 5 := by kernel_rfl

/-- One value, out of its five cells. -/
theorem read_v {H : Type} {enc : TypeId × Value → H} {W : World} {base : Nat} {spare : Nat → Bool} {held : Bool} {fuel : Nat} {cs : List Value} {x : DataW H × List MemPlace}
    (h : DataW.trod enc Try.prog W base spare held fuel 56 cs = some x) : ∃ v : V, cs = v.cells ∧ v.Ok := by
  obtain ⟨f0, f1, f2, f3, f4, hu, ho, e0, e1, e2, e3, e4⟩ := v_fields
  obtain ⟨xs, n, _, _, hl, hxs, hf⟩ := DataW.trod_struct hu h
  rw [v_cells] at hl
  have one : ∀ (j : Nat) (f : Field), #[f0, f1, f2, f3, f4][j]? = some f → j < 5 → ∃ y, DataW.trod enc Try.prog W base spare held n f.type ((cs.drop j).take 1) = some y := fun j f hj hj5 => by
    obtain ⟨o1, o2⟩ := Go.Deep.hone_of ho j f hj
    have h1 := hf j f hj
    rw [o1, o2] at h1
    have hjl : j < xs.length := by rw [hxs]; exact hj5
    exact ⟨_, h1.trans (List.getElem?_eq_getElem hjl)⟩
  match cs, hl with
  | [c0, c1, c2, c3, c4], _ =>
    obtain ⟨y0, g0⟩ := one 0 f0 rfl (by omega)
    obtain ⟨y1, g1⟩ := one 1 f1 rfl (by omega)
    obtain ⟨y2, g2⟩ := one 2 f2 rfl (by omega)
    obtain ⟨y3, g3⟩ := one 3 f3 rfl (by omega)
    obtain ⟨y4, g4⟩ := one 4 f4 rfl (by omega)
    rw [e0] at g0
    rw [e1] at g1
    rw [e2] at g2
    rw [e3] at g3
    rw [e4] at g4
    obtain ⟨n0, h0, _, w0⟩ := DataW.trod_int Try.underlying5 g0
    obtain ⟨n1, h1, _, w1⟩ := DataW.trod_int Try.underlying3 g1
    obtain ⟨b2, h2, _⟩ := DataW.trod_bool Try.underlying4 g2
    obtain ⟨s3, h3, _, hs3⟩ := DataW.trod_string Try.underlying9 g3
    obtain ⟨n4, h4, _, w4⟩ := DataW.trod_int Try.underlying3 g4
    simp at h0 h1 h2 h3 h4
    subst h0; subst h1; subst h2; subst h3; subst h4
    have k0 := wf_u8 w0
    have k1 := bounds_i64 w1
    have k4 := bounds_i64 w4
    unfold maxLen at hs3
    refine ⟨⟨UInt8.ofNat n0.toNat, n1, b2, s3, n4⟩, ?_, ⟨k1.1, k1.2, k4.1, k4.2, by simpa using hs3⟩⟩
    have e : (((UInt8.ofNat n0.toNat).toNat : Nat) : Int) = n0 := by rw [UInt8.toNat_ofNat']; omega
    simp only [V.cells]
    rw [e]

theorem collect {α : Type} {P : Nat → α → Prop} : ∀ len, (∀ i, i < len → ∃ u, P i u) → ∃ L : List α, L.length = len ∧ ∀ i u, L[i]? = some u → P i u := by
  intro len
  induction len with
  | zero => intro _; exact ⟨[], rfl, by simp⟩
  | succ len ih =>
    intro each
    obtain ⟨L, h1, h2⟩ := ih (fun i hil => each i (by omega))
    obtain ⟨u, h3⟩ := each len (by omega)
    refine ⟨L ++ [u], by simp [h1], fun i y hy => ?_⟩
    rcases Nat.lt_or_ge i L.length with hlt | hge
    · rw [List.getElem?_append_left hlt] at hy
      exact h2 i y hy
    · rw [List.getElem?_append_right hge] at hy
      have hi0 : i = len := by
        have := (List.getElem?_eq_some_iff.1 hy).1
        simp at this; omega
      subst hi0
      rw [h1, Nat.sub_self] at hy
      simp at hy; subst hy
      exact h3

/-- A slice of values that came in. -/
theorem open_vs {H : Type} {enc : TypeId × Value → H} {W : World} {base : Nat} {v : Value} {d : DataW H} {p : List MemPlace}
    (hv : Value.okWide Try.prog W .any base 36 v) (h : DataW.Trod enc Try.prog W 0 (fun _ => true) true 36 v d p) :
    ∃ A l cap, v = .slice A l.length cap ∧ RV W W.heap.size A l ∧ l.length ≤ cap ∧ cap ≤ maxLen ∧ ∀ v ∈ l, V.Ok v := by
  obtain ⟨a, len, cap, rfl⟩ := okWide_slice Try.underlying36 hv
  obtain ⟨fuel, hf⟩ := h
  rcases Go.Deep.open_slice Try.underlying36 hf with ⟨hcs, _⟩ | ⟨x, l, c, m, n, D, Pl, hcs, _, hl, hm, hmm, _, hi⟩
  · simp [Value.cells] at hcs
    obtain ⟨rfl, rfl, rfl⟩ := hcs
    exact ⟨none, [], 0, rfl, RV.nil, Nat.le_refl _, Nat.zero_le _, by simp⟩
  · simp [Value.cells] at hcs
    obtain ⟨rfl, rfl, rfl⟩ := hcs
    have hlm : len ≤ m := by rw [hmm]; simp; exact hl
    have each : ∀ i, i < len → ∃ u : V, u.Ok ∧ ∀ j x', u.cells[j]? = some x' → W.cell? ((x.add (i * 5)).add j) = some x' := fun i hil => by
      obtain ⟨cs', h1, h2⟩ := hi i (by omega)
      rw [v_cells] at h1
      obtain ⟨u, rfl, hu⟩ := read_v h2
      obtain ⟨_, h3, h4⟩ := World.cells?_some h1
      exact ⟨u, hu, fun j x' hj => by
        have hj5 : j < 5 := by have := (List.getElem?_eq_some_iff.1 hj).1; simpa [V.cells_length] using this
        rw [h4 j hj5]; exact hj⟩
    have hall := collect (P := fun i (u : V) => u.Ok ∧ ∀ j x', u.cells[j]? = some x' → W.cell? ((x.add (i * 5)).add j) = some x') len each
    obtain ⟨L, hL, hLc⟩ := hall
    refine ⟨some x, L, cap, by rw [hL], fun hn => ?_, by omega, hm, fun v hv => ?_⟩
    · obtain ⟨b, off, spot⟩ := x
      have h0 := (hLc 0 _ (List.getElem?_eq_getElem hn)).2 0 _ rfl
      have hspot : spot = none := by simpa [Addr.add] using World.cell?_spot h0
      subst hspot
      simp only [Nat.zero_mul, Addr.add_lit, Nat.add_zero] at h0
      refine ⟨b, off, rfl, World.block_lt_of_cell? W _ h0, fun j u hj i x' hx => ?_⟩
      have := (hLc j u hj).2 i x' hx
      rw [Addr.add_lit, Addr.add_lit] at this
      exact this
    · obtain ⟨i, hi', rfl⟩ := List.mem_iff_getElem.1 hv
      exact (hLc i _ (List.getElem?_eq_getElem hi')).1
end Go.Proofs.Ytfjigooahdfbpaa
