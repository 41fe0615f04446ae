/- pack: how far two places of a text agree; the longest match. Plain lemmas. -/
import Derived.Test.YtocohoojnjdkiaaLib
set_option linter.unusedVariables false
namespace Go.Proofs.Ytocohoojnjdkiaa
open Go.RowKit

/-- The byte at a place. -/
def byt (b : List UInt8) (i : Nat) : Nat := (b.getD i 0).toNat
theorem byt_lt (b : List UInt8) (i : Nat) : byt b i < 256 := by unfold byt; exact (b.getD i 0).toNat_lt
theorem rb_byt {w : World} {B : Nat} {A : Option Addr} {l : List UInt8} (h : RB w B A l) {i : Nat} (hi : i < l.length) : ∃ b off, A = some ⟨b, off, none⟩ ∧ b < B ∧ ∀ j, j < l.length → w.cell? ⟨b, off + j, none⟩ = some (.int .u8 (byt l j : Int)) := by
  obtain ⟨b, off, rfl, hb, hc⟩ := h (by omega)
  refine ⟨b, off, rfl, hb, fun j hj => ?_⟩
  have := hc j l[j] (List.getElem?_eq_getElem hj)
  rw [this]
  unfold byt
  simp [hj, List.getD]
/-- The bytes from p and from q on agree for n bytes, at most M. -/
def Com (t : List UInt8) (p q M n : Nat) : Prop := n ≤ M ∧ (∀ k, k < n → byt t (p + k) = byt t (q + k)) ∧ (n = M ∨ byt t (p + n) ≠ byt t (q + n))
theorem Com.one {t : List UInt8} {p q M n m : Nat} (h : Com t p q M n) (h' : Com t p q M m) : n = m := by
  obtain ⟨a1, a2, a3⟩ := h
  obtain ⟨b1, b2, b3⟩ := h'
  rcases Nat.lt_trichotomy n m with hl | hl | hl
  · rcases a3 with h | h
    · omega
    · exact absurd (b2 n hl) h
  · exact hl
  · rcases b3 with h | h
    · omega
    · exact absurd (a2 m hl) h
theorem Com.ex (t : List UInt8) (p q M : Nat) : ∃ n, Com t p q M n := by
  have h : ∀ m, m ≤ M → (∀ k, k < m → byt t (p + k) = byt t (q + k)) ∨ ∃ n, Com t p q M n := by
    intro m
    induction m with
    | zero => intro _; exact .inl (fun k hk => by omega)
    | succ m ih =>
      intro hm
      rcases ih (by omega) with h | h
      · by_cases hz : byt t (p + m) = byt t (q + m)
        · refine .inl fun k hk => ?_
          by_cases e : k = m
          · subst e; exact hz
          · exact h k (by omega)
        · exact .inr ⟨m, by omega, h, .inr hz⟩
      · exact .inr h
  rcases h M (Nat.le_refl _) with h | h
  · exact ⟨M, Nat.le_refl _, h, .inl rfl⟩
  · exact h
/-- How far. -/
noncomputable def com (t : List UInt8) (p q M : Nat) : Nat := (Com.ex t p q M).choose
theorem com_is (t : List UInt8) (p q M : Nat) : Com t p q M (com t p q M) := (Com.ex t p q M).choose_spec
theorem Com.eq {t : List UInt8} {p q M n : Nat} (h : Com t p q M n) : n = com t p q M := h.one (com_is t p q M)
/-- The longest match among the distances 1 to D: its length, its least distance (0, 0 if there is none). -/
def Best (f : Nat → Nat) (D n d : Nat) : Prop := (∀ k, 1 ≤ k → k ≤ D → f k ≤ n) ∧ ((n = 0 ∧ d = 0) ∨ (0 < n ∧ 1 ≤ d ∧ d ≤ D ∧ f d = n ∧ ∀ k, 1 ≤ k → k < d → f k < n))
theorem Best.zero (f : Nat → Nat) : Best f 0 0 0 := ⟨fun k h1 h2 => by omega, .inl ⟨rfl, rfl⟩⟩
theorem Best.more {f : Nat → Nat} {D n d : Nat} (h : Best f D n d) (hg : n < f (D + 1)) : Best f (D + 1) (f (D + 1)) (D + 1) := by
  refine ⟨fun k h1 h2 => ?_, .inr ⟨by omega, by omega, Nat.le_refl _, rfl, fun k h1 h2 => Nat.lt_of_le_of_lt (h.1 k h1 (by omega)) hg⟩⟩
  by_cases e : k = D + 1
  · subst e; exact Nat.le_refl _
  · have := h.1 k h1 (by omega); omega
theorem Best.keep {f : Nat → Nat} {D n d : Nat} (h : Best f D n d) (hg : ¬ n < f (D + 1)) : Best f (D + 1) n d := by
  refine ⟨fun k h1 h2 => ?_, ?_⟩
  · by_cases e : k = D + 1
    · subst e; omega
    · exact h.1 k h1 (by omega)
  · rcases h.2 with h | ⟨h1, h2, h3, h4, h5⟩
    · exact .inl h
    · exact .inr ⟨h1, h2, by omega, h4, h5⟩
theorem Best.one {f : Nat → Nat} {D n d n' d' : Nat} (h : Best f D n d) (h' : Best f D n' d') : n = n' ∧ d = d' := by
  rcases h with ⟨a, ⟨rfl, rfl⟩ | ⟨a1, a2, a3, a4, a5⟩⟩ <;> rcases h' with ⟨b, ⟨rfl, rfl⟩ | ⟨b1, b2, b3, b4, b5⟩⟩
  · exact ⟨rfl, rfl⟩
  · have := a _ b2 b3; omega
  · have := b _ a2 a3; omega
  · have h1 := a _ b2 b3
    have h2 := b _ a2 a3
    have hn : n = n' := by omega
    subst hn
    refine ⟨rfl, ?_⟩
    rcases Nat.lt_trichotomy d d' with hl | hl | hl
    · have := b5 d a2 hl; omega
    · exact hl
    · have := a5 d' b2 hl; omega
end Go.Proofs.Ytocohoojnjdkiaa
