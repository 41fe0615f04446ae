/- pack: what a finder has learnt; the longest match along its chain. No program. -/
import Derived.Test.YtocohoojnjdkiaaKLast
set_option linter.unusedVariables false
set_option maxRecDepth 1000000
namespace Go.Proofs.Ytocohoojnjdkiaa
open Go.RowKit

/-- The greatest place from lo up to below hi with the four bytes s. -/
def Lst (t : List UInt8) (lo hi : Nat) (s : List UInt8) : Option Nat → Prop
  | some q => lo ≤ q ∧ q < hi ∧ st t q = s ∧ ∀ r, q < r → r < hi → st t r ≠ s
  | none => ∀ r, lo ≤ r → r < hi → st t r ≠ s
/-- The places below p are learnt. -/
structure Lrn (t : List UInt8) (p : Nat) (f : List UInt8 → Option Nat) (B : Nat → Int) : Prop where
  len : p ≤ t.length - 3
  last : ∀ s : List UInt8, s.length = 4 → Lst t (p - 4096) p s (f s)
  prev : ∀ q, q < p → p ≤ q + 4096 → ∃ o, B (q % 4096) = encO o ∧ Lst t (q + 1 - 4096) q (st t q) o
theorem Lrn.zero (t : List UInt8) (B : Nat → Int) : Lrn t 0 (fun _ => none) B := ⟨by omega, fun s _ r h1 h2 => by omega, fun q hq => by omega⟩
theorem Lrn.same {t : List UInt8} {p : Nat} {f : List UInt8 → Option Nat} {B : Nat → Int} (h : Lrn t p f B) (hp : p < 4096) : ∀ s : List UInt8, s.length = 4 → Lst t (p + 1 - 4096) p s (f s) := by
  intro s hs
  have := h.last s hs
  rw [show p + 1 - 4096 = p - 4096 by omega]
  exact this
theorem Lrn.no {t : List UInt8} {p : Nat} {f : List UInt8 → Option Nat} {B : Nat → Int} (h : Lrn t p f B) (hp : 4096 ≤ p) (hn : f (st t (p - 4096)) ≠ some (p - 4096)) : ∀ s : List UInt8, s.length = 4 → Lst t (p + 1 - 4096) p s (f s) := by
  intro s hs
  have h1 := h.last s hs
  cases hf : f s with
  | none => rw [hf] at h1; exact fun r a b => h1 r (by omega) b
  | some q =>
    rw [hf] at h1
    obtain ⟨a, b, c, d⟩ := h1
    refine ⟨?_, b, c, d⟩
    by_cases e : q = p - 4096
    · subst e; rw [c] at hn; exact absurd hf hn
    · omega
theorem Lrn.cut {t : List UInt8} {p : Nat} {f : List UInt8 → Option Nat} {B : Nat → Int} (h : Lrn t p f B) (hp : 4096 ≤ p) (hn : f (st t (p - 4096)) = some (p - 4096)) : ∀ s : List UInt8, s.length = 4 → Lst t (p + 1 - 4096) p s (if s = st t (p - 4096) then none else f s) := by
  intro s hs
  have h1 := h.last s hs
  by_cases e : s = st t (p - 4096)
  · rw [if_pos e]
    subst e
    rw [hn] at h1
    obtain ⟨_, _, _, d⟩ := h1
    exact fun r a b => d r (by omega) b
  · rw [if_neg e]
    cases hf : f s with
    | none => rw [hf] at h1; exact fun r a b => h1 r (by omega) b
    | some q =>
      rw [hf] at h1
      obtain ⟨a, b, c, d⟩ := h1
      refine ⟨?_, b, c, d⟩
      by_cases e2 : q = p - 4096
      · subst e2; exact absurd c.symm e
      · omega
theorem Lrn.step {t : List UInt8} {p : Nat} {f f1 : List UInt8 → Option Nat} {B : Nat → Int} (h : Lrn t p f B) (hp : p < t.length - 3) (h1 : ∀ s : List UInt8, s.length = 4 → Lst t (p + 1 - 4096) p s (f1 s)) :
    Lrn t (p + 1) (fun x => if x = st t p then some p else f1 x) (fun i => if i = p % 4096 then encO (f1 (st t p)) else B i) := by
  refine ⟨by omega, fun s hs => ?_, fun q hq hq2 => ?_⟩
  · show Lst t (p + 1 - 4096) (p + 1) s (if s = st t p then some p else f1 s)
    by_cases e : s = st t p
    · rw [if_pos e]; exact ⟨by omega, by omega, e.symm, fun r a b => by omega⟩
    · rw [if_neg e]
      have h2 := h1 s hs
      cases hf : f1 s with
      | none =>
        rw [hf] at h2
        intro r a b
        by_cases e2 : r = p
        · subst e2; exact fun h => e h.symm
        · exact h2 r a (by omega)
      | some q =>
        rw [hf] at h2
        obtain ⟨a, b, c, d⟩ := h2
        refine ⟨a, by omega, c, fun r a2 b2 => ?_⟩
        by_cases e2 : r = p
        · subst e2; exact fun h => e h.symm
        · exact d r a2 (by omega)
  · show ∃ o, (if q % 4096 = p % 4096 then encO (f1 (st t p)) else B (q % 4096)) = encO o ∧ _
    by_cases e : q = p
    · subst e
      rw [if_pos rfl]
      exact ⟨_, rfl, h1 _ (st_len _ _)⟩
    · rw [if_neg (by omega)]
      exact h.prev q (by omega) (by omega)

/-- A match of less than four bytes is none. -/
def f4 (t : List UInt8) (at_ d : Nat) : Nat := if 4 ≤ matF t at_ d then matF t at_ d else 0
theorem f4_le (t : List UInt8) (at_ d : Nat) : f4 t at_ d ≤ matF t at_ d := by unfold f4; split <;> omega
theorem st_eq {t : List UInt8} {p q : Nat} : st t p = st t q ↔ ∀ k, k < 4 → byt t (p + k) = byt t (q + k) := by
  unfold st
  constructor
  · intro h
    simp only [List.cons.injEq, and_true] at h
    obtain ⟨h0, h1, h2, h3⟩ := h
    intro k hk
    unfold byt
    match k, hk with
    | 0, _ => rw [Nat.add_zero, Nat.add_zero, h0]
    | 1, _ => rw [h1]
    | 2, _ => rw [h2]
    | 3, _ => rw [h3]
  · intro h
    have h0 := h 0 (by omega)
    have h1 := h 1 (by omega)
    have h2 := h 2 (by omega)
    have h3 := h 3 (by omega)
    unfold byt at h0 h1 h2 h3
    rw [Nat.add_zero, Nat.add_zero] at h0
    rw [UInt8.toNat_inj.1 h0, UInt8.toNat_inj.1 h1, UInt8.toNat_inj.1 h2, UInt8.toNat_inj.1 h3]
theorem mat_st {t : List UInt8} {at_ d : Nat} (ha : at_ + 4 ≤ t.length) : 4 ≤ matF t at_ d ↔ st t (at_ - d) = st t at_ := by
  obtain ⟨h1, h2, h3⟩ := comF_is t (min 131 (t.length - at_)) (at_ - d) at_
  rw [st_eq]
  show 4 ≤ comF t (at_ - d) at_ (min 131 (t.length - at_)) ↔ _
  constructor
  · intro h k hk; exact h2 k (by omega)
  · intro h
    rcases Nat.lt_or_ge (comF t (at_ - d) at_ (min 131 (t.length - at_))) 4 with hl | hl
    · rcases h3 with h3 | h3
      · omega
      · exact absurd (h _ hl) h3
    · exact hl
theorem f4_zero {t : List UInt8} {at_ d : Nat} (ha : at_ + 4 ≤ t.length) (h : st t (at_ - d) ≠ st t at_) : f4 t at_ d = 0 := by
  unfold f4; rw [if_neg]; exact fun h4 => h ((mat_st ha).1 h4)
theorem f4_hit {t : List UInt8} {at_ d : Nat} (ha : at_ + 4 ≤ t.length) (h : st t (at_ - d) = st t at_) : f4 t at_ d = matF t at_ d := by
  unfold f4; rw [if_pos ((mat_st ha).2 h)]
theorem Best.upto {f : Nat → Nat} {D n d : Nat} (h : Best f D n d) : ∀ E, D ≤ E → (∀ k, D < k → k ≤ E → f k ≤ n) → Best f E n d := by
  intro E hE hz
  induction E with
  | zero => obtain rfl : D = 0 := by omega
            exact h
  | succ E ih =>
    by_cases e : D = E + 1
    · subst e; exact h
    · exact (ih (by omega) (fun k a b => hz k a (by omega))).keep (by have := hz (E + 1) (by omega) (Nat.le_refl _); omega)
/-- A round that finds nothing longer, and one that does. -/
theorem Best.pass {f : Nat → Nat} {D n d E : Nat} (h : Best f D n d) (hE : D < E) (hz : ∀ k, D < k → k < E → f k = 0) (hk : f E ≤ n) : Best f E n d :=
  h.upto E (by omega) (fun k a b => by
    by_cases e : k = E
    · subst e; exact hk
    · rw [hz k a (by omega)]; omega)
theorem Best.take {f : Nat → Nat} {D n d E : Nat} (h : Best f D n d) (hE : D < E) (hz : ∀ k, D < k → k < E → f k = 0) (hk : n < f E) : Best f E (f E) E := by
  have h1 := h.upto (E - 1) (by omega) (fun k a b => by rw [hz k a (by omega)]; omega)
  have h2 := h1.more (by rw [show E - 1 + 1 = E by omega]; exact hk)
  rw [show E - 1 + 1 = E by omega] at h2
  exact h2
/-- What the walk along the chain knows: the distances up to D are seen; o is the next place. -/
structure Chain (t : List UInt8) (at_ D : Nat) (o : Option Nat) (n d : Nat) : Prop where
  lim : D ≤ at_
  best : Best (f4 t at_) D n d
  next : ∃ lo, lo ≤ at_ - 4096 ∧ Lst t lo (at_ - D) (st t at_) o
theorem Chain.start {t : List UInt8} {at_ : Nat} {f : List UInt8 → Option Nat} {B : Nat → Int} (h : Lrn t at_ f B) : Chain t at_ 0 (f (st t at_)) 0 0 :=
  ⟨by omega, Best.zero _, at_ - 4096, Nat.le_refl _, h.last _ (st_len _ _)⟩
theorem Chain.ends {t : List UInt8} {at_ D n d : Nat} {o : Option Nat} (h : Chain t at_ D o n d) (ha : at_ + 4 ≤ t.length) (hD : D ≤ 4096) (ho : ∀ q, o = some q → q + 4096 < at_) : Best (f4 t at_) (min 4096 at_) n d := by
  obtain ⟨hDa, hB, lo, hlo, hL⟩ := h
  refine hB.upto _ (by omega) (fun k a b => ?_)
  rw [f4_zero ha]
  · omega
  · cases o with
    | none => exact hL _ (by omega) (by omega)
    | some q => exact hL.2.2.2 _ (by have := ho q rfl; omega) (by omega)
theorem Chain.full {t : List UInt8} {at_ D n d : Nat} {o : Option Nat} (h : Chain t at_ D o n d) (hD : D ≤ 4096) (hn : min 131 (t.length - at_) ≤ n) : Best (f4 t at_) (min 4096 at_) n d :=
  h.best.upto _ (by have := h.lim; omega) (fun k a b => by have := f4_le t at_ k; have := matF_le t at_ k; omega)
theorem Chain.gap {t : List UInt8} {at_ D n d q : Nat} (h : Chain t at_ D (some q) n d) (ha : at_ + 4 ≤ t.length) : D < at_ - q ∧ q < at_ ∧ at_ - (at_ - q) = q ∧ st t q = st t at_ ∧ ∀ k, D < k → k < at_ - q → f4 t at_ k = 0 := by
  obtain ⟨hDa, hB, lo, hlo, h1, h2, h3, h4⟩ := h
  exact ⟨by omega, by omega, by omega, h3, fun k a b => f4_zero ha (h4 _ (by omega) (by omega))⟩
/-- A round. -/
theorem Chain.pass {t : List UInt8} {at_ D n d q : Nat} {o : Option Nat} (h : Chain t at_ D (some q) n d) (ha : at_ + 4 ≤ t.length) (ho : Lst t (q + 1 - 4096) q (st t q) o) (hk : matF t at_ (at_ - q) ≤ n) : Chain t at_ (at_ - q) o n d := by
  obtain ⟨h1, h2, h3, h4, h5⟩ := h.gap ha
  refine ⟨by omega, h.best.pass h1 h5 (Nat.le_trans (f4_le _ _ _) hk), q + 1 - 4096, by omega, ?_⟩
  rw [h3, ← h4]; exact ho
theorem Chain.take {t : List UInt8} {at_ D n d q : Nat} {o : Option Nat} (h : Chain t at_ D (some q) n d) (ha : at_ + 4 ≤ t.length) (ho : Lst t (q + 1 - 4096) q (st t q) o) (hk : n < matF t at_ (at_ - q)) : Chain t at_ (at_ - q) o (matF t at_ (at_ - q)) (at_ - q) := by
  obtain ⟨h1, h2, h3, h4, h5⟩ := h.gap ha
  have h6 : f4 t at_ (at_ - q) = matF t at_ (at_ - q) := f4_hit ha (by rw [h3]; exact h4)
  have hb := h.best.take h1 h5 (by rw [h6]; exact hk)
  rw [h6] at hb
  refine ⟨by omega, hb, q + 1 - 4096, by omega, ?_⟩
  rw [h3, ← h4]; exact ho
/-- The answer of the finder. -/
def Found (t : List UInt8) (at_ n d : Nat) : Prop := (4 ≤ (bst t at_).1 → n = (bst t at_).1 ∧ d = (bst t at_).2) ∧ (¬ 4 ≤ (bst t at_).1 → n < 4)
theorem found_of_best {t : List UInt8} {at_ n d : Nat} (h : Best (f4 t at_) (min 4096 at_) n d) : Found t at_ n d := by
  have hb := bst_is t at_
  have key : 4 ≤ (bst t at_).1 → Best (f4 t at_) (min 4096 at_) (bst t at_).1 (bst t at_).2 := by
    intro h4
    refine ⟨fun k a b => Nat.le_trans (f4_le _ _ _) (hb.1 k a b), ?_⟩
    rcases hb.2 with ⟨h0, _⟩ | ⟨b1, b2, b3, b4, b5⟩
    · omega
    · refine .inr ⟨b1, b2, b3, ?_, fun k a b => Nat.lt_of_le_of_lt (f4_le _ _ _) (b5 k a b)⟩
      unfold f4; rw [b4, if_pos h4]
  refine ⟨fun h4 => ?_, fun h4 => ?_⟩
  · exact (key h4).one h |>.imp Eq.symm Eq.symm
  · rcases h.2 with ⟨h0, _⟩ | ⟨b1, b2, b3, b4, b5⟩
    · omega
    · have := hb.1 d b2 b3
      have := f4_le t at_ d
      omega
theorem found_short {t : List UInt8} {at_ : Nat} (h : t.length < at_ + 4) : Found t at_ 0 0 := by
  have := bst_le t at_
  exact ⟨fun h4 => by omega, fun _ => by omega⟩
end Go.Proofs.Ytocohoojnjdkiaa
