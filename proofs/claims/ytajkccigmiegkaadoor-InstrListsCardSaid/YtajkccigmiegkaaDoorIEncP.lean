/- instr: EncodeAll, what it answers; the walk. -/
import Derived.Test.YtajkccigmiegkaaDoorIBytes
set_option linter.unusedVariables false
namespace Go.Proofs.YtajkccigmiegkaaDoor
open Go.RowKit

def zE (x : Q4) : Int := chkZ x.o x.a x.b x.c
/-- The bytes of an instruction. -/
def eB (x : Q4) : List UInt8 := [UInt8.ofNat x.o.toNat, UInt8.ofNat (16 * x.a + x.b).toNat, UInt8.ofNat (x.c % 256).toNat, UInt8.ofNat (x.c / 256 % 256).toNat]
theorem ofNat_to {n : Nat} (h : n < 256) : (UInt8.ofNat n).toNat = n := by rw [UInt8.toNat_ofNat']; omega
/-- A good instruction's bytes, and back. -/
theorem good {x : Q4} (h : zE x = 0) : ∃ x0 x1 x2 x3 : UInt8, eB x = [x0, x1, x2, x3] ∧ encV x.o x.a x.b x.c = byV (x0.toNat : Int) (x1.toNat : Int) (x2.toNat : Int) (x3.toNat : Int) ∧ decE (x0.toNat : Int) (x1.toNat : Int) (x2.toNat : Int) (x3.toNat : Int) = 0 ∧ (x0.toNat : Int) = x.o ∧ (x1.toNat : Int) / 16 = x.a ∧ (x1.toNat : Int) % 16 = x.b ∧ decC (x0.toNat : Int) (x1.toNat : Int) (x2.toNat : Int) (x3.toNat : Int) = x.c := by
  obtain ⟨x0, x1, x2, x3, b0, b1, b2, b3, y0, y1, y2, y3, hd⟩ := dec_enc h
  have h1 : (x1 : Int) / 16 = x.a := by have := (chk_ok h).2.2.1; omega
  have h2 : (x1 : Int) % 16 = x.b := by have := (chk_ok h).2.2.1; omega
  refine ⟨UInt8.ofNat x0, UInt8.ofNat x1, UInt8.ofNat x2, UInt8.ofNat x3, ?_, ?_, ?_, ?_, ?_, ?_, ?_⟩
  · unfold eB; rw [← y0, ← y1, ← y2, ← y3]; simp only [Int.toNat_natCast]
  all_goals (have z0 := ofNat_to b0; have z1 := ofNat_to b1; have z2 := ofNat_to b2; have z3 := ofNat_to b3; simp only [z0, z1, z2, z3])
  · have h0 : chkZ x.o x.a x.b x.c = 0 := h
    unfold encV; rw [if_pos h0, y0, y1, y2, y3]
  · unfold decE; rw [hd, h1, h2, y0]; exact if_pos h
  · exact y0
  · exact h1
  · exact h2
  · exact hd
theorem eB_len (x : Q4) : (eB x).length = 4 := rfl
theorem flatB_len (q : List Q4) : (q.flatMap eB).length = 4 * q.length := by
  induction q with
  | nil => rfl
  | cons y q ih => rw [List.flatMap_cons, List.length_append, ih, eB_len, List.length_cons]; omega
theorem flatB_at : ∀ (q : List Q4) (j i : Nat) (x : Q4), q[j]? = some x → i < 4 → (q.flatMap eB)[4 * j + i]? = (eB x)[i]?
  | [], j, i, x, h, _ => by simp at h
  | y :: q, 0, i, x, h, hi => by
    simp only [List.getElem?_cons_zero, Option.some.injEq] at h
    subst h
    rw [List.flatMap_cons, List.getElem?_append_left (by rw [eB_len]; omega)]
    congr 1; omega
  | y :: q, j + 1, i, x, h, hi => by
    simp only [List.getElem?_cons_succ] at h
    rw [List.flatMap_cons, List.getElem?_append_right (by rw [eB_len]; omega), eB_len, show 4 * (j + 1) + i - 4 = 4 * j + i by omega]
    exact flatB_at q j i x h hi
theorem byt_flat {q : List Q4} {j i : Nat} {x : Q4} {u : UInt8} (h : q[j]? = some x) (hi : i < 4) (hu : (eB x)[i]? = some u) : byt (q.flatMap eB) (4 * j + i) = u.toNat := by
  unfold byt
  rw [List.getD_eq_getElem?_getD, flatB_at q j i x h hi, hu]; rfl
theorem dec_flat {q : List Q4} {j : Nat} {x : Q4} (h : q[j]? = some x) (hz : zE x = 0) : dE (q.flatMap eB) j = 0 ∧ dQ (q.flatMap eB) j = x := by
  obtain ⟨x0, x1, x2, x3, he, _, h0, h1, h2, h3, h4⟩ := good hz
  have e0 := byt_flat (i := 0) h (by omega) (u := x0) (by rw [he]; rfl)
  have e1 := byt_flat (i := 1) h (by omega) (u := x1) (by rw [he]; rfl)
  have e2 := byt_flat (i := 2) h (by omega) (u := x2) (by rw [he]; rfl)
  have e3 := byt_flat (i := 3) h (by omega) (u := x3) (by rw [he]; rfl)
  rw [Nat.add_zero] at e0
  unfold dE dQ
  rw [e0, e1, e2, e3]
  exact ⟨h0, by rw [h4, h1, h2, h3]⟩
theorem dL_flat {q : List Q4} (h : ∀ y ∈ q, zE y = 0) : dL (q.flatMap eB) q.length = q := by
  apply List.ext_getElem?
  intro i
  unfold dL
  rw [List.getElem?_map]
  by_cases hi : i < q.length
  · rw [List.getElem?_range hi, List.getElem?_eq_getElem hi, Option.map_some, (dec_flat (List.getElem?_eq_getElem hi) (h _ (List.getElem_mem hi))).2]
  · rw [List.getElem?_eq_none (by simpa using hi), List.getElem?_eq_none (by omega)]; rfl
/-- The bytes of good instructions give them again. -/
theorem DR.flat {q : List Q4} (h : ∀ y ∈ q, zE y = 0) : DR (q.flatMap eB) q 0 0 :=
  .inr ⟨q.length, by rw [flatB_len]; omega, by rw [flatB_len]; omega, fun i hi => (dec_flat (List.getElem?_eq_getElem hi) (h _ (List.getElem_mem hi))).1, .inr ⟨by rw [flatB_len], (dL_flat h).symm, rfl, rfl⟩⟩
/-- What EncodeAll answers. -/
def ER (q : List Q4) (bs : List UInt8) (at_ e : Int) : Prop :=
  (∃ k x, q[k]? = some x ∧ (∀ y ∈ q.take k, zE y = 0) ∧ zE x ≠ 0 ∧ bs = [] ∧ at_ = (k : Int) ∧ e = zE x) ∨
  ((∀ y ∈ q, zE y = 0) ∧ bs = q.flatMap eB ∧ at_ = 0 ∧ e = 0)
theorem mem_take {q : List Q4} {i k : Nat} {x : Q4} (h : q[i]? = some x) (hi : i < k) : x ∈ q.take k := List.mem_of_getElem? (i := i) (by rw [List.getElem?_take, if_pos hi]; exact h)
theorem ER.one {q : List Q4} {b b' : List UInt8} {x x' e e' : Int} (h : ER q b x e) (h' : ER q b' x' e') : b = b' ∧ x = x' ∧ e = e' := by
  rcases h with ⟨k, y, h1, h2, h3, rfl, rfl, rfl⟩ | ⟨h1, rfl, rfl, rfl⟩ <;> rcases h' with ⟨i, z, g1, g2, g3, rfl, rfl, rfl⟩ | ⟨g1, rfl, rfl, rfl⟩
  · have a1 : ¬ k < i := fun hl => h3 (g2 y (mem_take h1 hl))
    have a2 : ¬ i < k := fun hl => g3 (h2 z (mem_take g1 hl))
    obtain rfl : i = k := by omega
    rw [h1] at g1; cases g1
    exact ⟨rfl, rfl, rfl⟩
  · exact absurd (g1 y (List.mem_of_getElem? h1)) h3
  · exact absurd (h1 z (List.mem_of_getElem? g1)) g3
  · exact ⟨rfl, rfl, rfl⟩
theorem take_one_more {q : List Q4} {k : Nat} {x : Q4} (h : q[k]? = some x) : q.take (k + 1) = q.take k ++ [x] := by rw [List.take_add_one, h]; rfl
theorem take_good {q : List Q4} {k : Nat} {x : Q4} (h : q[k]? = some x) (hz : zE x = 0) (ha : ∀ y ∈ q.take k, zE y = 0) : ∀ y ∈ q.take (k + 1), zE y = 0 := by
  rw [take_one_more h]
  intro y hy
  rcases List.mem_append.1 hy with hy | hy
  · exact ha y hy
  · rw [List.mem_singleton.1 hy]; exact hz
theorem take_flat {q : List Q4} {k : Nat} {x : Q4} (h : q[k]? = some x) : (q.take (k + 1)).flatMap eB = (q.take k).flatMap eB ++ eB x := by rw [take_one_more h, List.flatMap_append]; simp
end Go.Proofs.YtajkccigmiegkaaDoor
