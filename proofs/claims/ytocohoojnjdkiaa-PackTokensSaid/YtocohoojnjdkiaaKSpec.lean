/- pack: what it should answer. Definitions over lists of bytes; no program. -/
import Derived.Test.YtocohoojnjdkiaaKMath
set_option linter.unusedVariables false
namespace Go.Proofs.Ytocohoojnjdkiaa
open Go.RowKit

/-- How far two places agree, as a program. -/
def comF (t : List UInt8) : Nat → Nat → Nat → Nat
  | _, _, 0 => 0
  | p, q, M + 1 => if byt t p = byt t q then comF t (p + 1) (q + 1) M + 1 else 0
theorem comF_is (t : List UInt8) : ∀ (M p q : Nat), Com t p q M (comF t p q M) := by
  intro M
  induction M with
  | zero => intro p q; exact ⟨by simp [comF], fun k hk => by simp [comF] at hk, .inl (by simp [comF])⟩
  | succ M ih =>
    intro p q
    unfold comF
    by_cases h : byt t p = byt t q
    · rw [if_pos h]
      obtain ⟨h1, h2, h3⟩ := ih (p + 1) (q + 1)
      refine ⟨by omega, fun k hk => ?_, ?_⟩
      · cases k with
        | zero => exact h
        | succ k =>
          have := h2 k (by omega)
          rw [show p + (k + 1) = p + 1 + k by omega, show q + (k + 1) = q + 1 + k by omega]
          exact this
      · rcases h3 with h3 | h3
        · exact .inl (by omega)
        · refine .inr ?_
          rw [show p + (comF t (p + 1) (q + 1) M + 1) = p + 1 + comF t (p + 1) (q + 1) M by omega, show q + (comF t (p + 1) (q + 1) M + 1) = q + 1 + comF t (p + 1) (q + 1) M by omega]
          exact h3
    · rw [if_neg h]
      exact ⟨by omega, fun k hk => by omega, .inr (by simpa using h)⟩
theorem com_eq (t : List UInt8) (p q M : Nat) : com t p q M = comF t p q M := (Com.eq (comF_is t M p q)).symm
/-- The longest match, as a program. -/
def bestF (f : Nat → Nat) : Nat → Nat × Nat
  | 0 => (0, 0)
  | D + 1 => if (bestF f D).1 < f (D + 1) then (f (D + 1), D + 1) else bestF f D
theorem bestF_is (f : Nat → Nat) : ∀ D, Best f D (bestF f D).1 (bestF f D).2 := by
  intro D
  induction D with
  | zero => exact Best.zero f
  | succ D ih =>
    unfold bestF
    by_cases h : (bestF f D).1 < f (D + 1)
    · rw [if_pos h]; exact ih.more h
    · rw [if_neg h]; exact ih.keep h
/-- How far a match at a place reaches with a distance. -/
def matF (t : List UInt8) (at_ d : Nat) : Nat := comF t (at_ - d) at_ (min 131 (t.length - at_))
theorem matF_le (t : List UInt8) (at_ d : Nat) : matF t at_ d ≤ min 131 (t.length - at_) := (comF_is t _ _ _).1
/-- The longest match at a place (its length), and its least distance. -/
def bst (t : List UInt8) (at_ : Nat) : Nat × Nat := bestF (matF t at_) (min 4096 at_)
theorem bst_is (t : List UInt8) (at_ : Nat) : Best (matF t at_) (min 4096 at_) (bst t at_).1 (bst t at_).2 := bestF_is _ _
theorem bst_pos {t : List UInt8} {at_ : Nat} (h : 0 < (bst t at_).1) : 1 ≤ (bst t at_).2 ∧ (bst t at_).2 ≤ 4096 ∧ (bst t at_).2 ≤ at_ ∧ matF t at_ (bst t at_).2 = (bst t at_).1 := by
  rcases (bst_is t at_).2 with h1 | h1
  · omega
  · obtain ⟨_, h2, h3, h4, _⟩ := h1
    exact ⟨h2, by omega, by omega, h4⟩
theorem bst_le (t : List UInt8) (at_ : Nat) : (bst t at_).1 ≤ 131 ∧ (bst t at_).1 ≤ t.length - at_ := by
  by_cases h : 0 < (bst t at_).1
  · obtain ⟨_, _, _, h4⟩ := bst_pos h
    have := matF_le t at_ (bst t at_).2
    omega
  · omega

/-- A token: literal bytes, or a distance and a length. -/
inductive Tok where
  | lit (l : List UInt8)
  | mch (d n : Nat)
def Tok.enc : Tok → List UInt8
  | .lit l => UInt8.ofNat (l.length - 1) :: l
  | .mch d n => [UInt8.ofNat (124 + n), UInt8.ofNat ((d - 1) / 256), UInt8.ofNat (d - 1)]
def encs (l : List Tok) : List UInt8 := l.flatMap Tok.enc
def flush (run : List UInt8) : List Tok := match run with | [] => [] | _ :: _ => [.lit run]
def canon (t : List UInt8) : Nat → Nat → List UInt8 → List Tok
  | 0, _, run => flush run
  | k + 1, at_, run =>
    if t.length ≤ at_ then flush run else
    if 4 ≤ (bst t at_).1 then flush run ++ .mch (bst t at_).2 (bst t at_).1 :: canon t k (at_ + (bst t at_).1) []
    else if run.length + 1 = 128 then .lit (run ++ [t.getD at_ 0]) :: canon t k (at_ + 1) []
    else canon t k (at_ + 1) (run ++ [t.getD at_ 0])
/-- The tokens from a place on, where some literals wait. -/
def cn (t : List UInt8) (at_ : Nat) (run : List UInt8) : List Tok := canon t (t.length - at_) at_ run
theorem canon_fuel (t : List UInt8) : ∀ (k j at_ : Nat) (run : List UInt8), t.length - at_ ≤ k → t.length - at_ ≤ j → canon t k at_ run = canon t j at_ run := by
  intro k
  induction k with
  | zero =>
    intro j at_ run h1 h2
    cases j with
    | zero => rfl
    | succ j => unfold canon; rw [if_pos (by omega)]
  | succ k ih =>
    intro j at_ run h1 h2
    cases j with
    | zero => unfold canon; rw [if_pos (by omega)]
    | succ j =>
      unfold canon
      by_cases h : t.length ≤ at_
      · rw [if_pos h, if_pos h]
      · rw [if_neg h, if_neg h]
        by_cases h4 : 4 ≤ (bst t at_).1
        · rw [if_pos h4, if_pos h4, ih j (at_ + (bst t at_).1) [] (by omega) (by omega)]
        · rw [if_neg h4, if_neg h4]
          by_cases h5 : run.length + 1 = 128
          · rw [if_pos h5, if_pos h5, ih j (at_ + 1) [] (by omega) (by omega)]
          · rw [if_neg h5, if_neg h5, ih j (at_ + 1) _ (by omega) (by omega)]
theorem cn_end {t : List UInt8} {at_ : Nat} (h : t.length ≤ at_) (run : List UInt8) : cn t at_ run = flush run := by
  unfold cn
  rw [show t.length - at_ = 0 by omega]
  rfl
theorem cn_step {t : List UInt8} {at_ : Nat} (h : at_ < t.length) (run : List UInt8) : cn t at_ run =
    (if 4 ≤ (bst t at_).1 then flush run ++ .mch (bst t at_).2 (bst t at_).1 :: cn t (at_ + (bst t at_).1) []
    else if run.length + 1 = 128 then .lit (run ++ [t.getD at_ 0]) :: cn t (at_ + 1) []
    else cn t (at_ + 1) (run ++ [t.getD at_ 0])) := by
  have hk : t.length - at_ = (t.length - at_ - 1) + 1 := by omega
  unfold cn
  rw [hk]
  conv => lhs; unfold canon
  rw [if_neg (by omega)]
  by_cases h4 : 4 ≤ (bst t at_).1
  · rw [if_pos h4, if_pos h4, canon_fuel t (t.length - at_ - 1) (t.length - (at_ + (bst t at_).1)) _ _ (by omega) (by omega)]
  · rw [if_neg h4, if_neg h4]
    by_cases h5 : run.length + 1 = 128
    · rw [if_pos h5, if_pos h5, canon_fuel t (t.length - at_ - 1) (t.length - (at_ + 1)) _ _ (by omega) (by omega)]
    · rw [if_neg h5, if_neg h5, canon_fuel t (t.length - at_ - 1) (t.length - (at_ + 1)) _ _ (by omega) (by omega)]
theorem cn_match {t : List UInt8} {at_ : Nat} (h : at_ < t.length) (h4 : 4 ≤ (bst t at_).1) (run : List UInt8) : cn t at_ run = flush run ++ .mch (bst t at_).2 (bst t at_).1 :: cn t (at_ + (bst t at_).1) [] := by
  rw [cn_step h, if_pos h4]
theorem cn_full {t : List UInt8} {at_ : Nat} (h : at_ < t.length) (h4 : ¬ 4 ≤ (bst t at_).1) {run : List UInt8} (h5 : run.length + 1 = 128) : cn t at_ run = .lit (run ++ [t.getD at_ 0]) :: cn t (at_ + 1) [] := by
  rw [cn_step h, if_neg h4, if_pos h5]
theorem cn_lit {t : List UInt8} {at_ : Nat} (h : at_ < t.length) (h4 : ¬ 4 ≤ (bst t at_).1) {run : List UInt8} (h5 : ¬ run.length + 1 = 128) : cn t at_ run = cn t (at_ + 1) (run ++ [t.getD at_ 0]) := by
  rw [cn_step h, if_neg h4, if_neg h5]
theorem encs_nil : encs [] = [] := rfl
theorem encs_cons (a : Tok) (l : List Tok) : encs (a :: l) = a.enc ++ encs l := by simp [encs]
theorem encs_app (a b : List Tok) : encs (a ++ b) = encs a ++ encs b := by simp [encs]
theorem flush_nil : flush [] = [] := rfl
theorem flush_pos {run : List UInt8} (h : 0 < run.length) : flush run = [.lit run] := by cases run with | nil => simp at h | cons a l => rfl

/-- The end of a dictionary that matches can refer to. -/
def reachF (d : List UInt8) : List UInt8 := d.drop (d.length - 4096)
theorem reachF_small {d : List UInt8} (h : d.length ≤ 4096) : reachF d = d := by unfold reachF; rw [show d.length - 4096 = 0 by omega]; rfl
theorem reachF_len (d : List UInt8) : (reachF d).length = min d.length 4096 := by unfold reachF; simp; omega
/-- The packed form. -/
def packF (dict b : List UInt8) : List UInt8 := encs (cn (reachF dict ++ b) (reachF dict).length [])

/-- The token at the beginning of bytes and its size, or the error. -/
def tok1 (p : List UInt8) : Except Nat (Tok × Nat) :=
  if byt p 0 < 128 then
    if p.length < 2 + byt p 0 then .error 28 else .ok (.lit ((p.drop 1).take (byt p 0 + 1)), 2 + byt p 0)
  else if p.length < 3 then .error 28
  else if 4096 < byt p 1 * 256 + byt p 2 + 1 then .error 2
  else .ok (.mch (byt p 1 * 256 + byt p 2 + 1) (byt p 0 - 124), 3)
theorem tok1_size {p : List UInt8} {t : Tok} {n : Nat} (h : tok1 p = .ok (t, n)) : 2 ≤ n ∧ n ≤ p.length := by
  unfold tok1 at h
  split at h
  · split at h
    · cases h
    · injection h with h; injection h with h1 h2; omega
  · split at h
    · cases h
    · split at h
      · cases h
      · injection h with h; injection h with h1 h2; omega
def copyF (text : List UInt8) (d : Nat) : Nat → List UInt8
  | 0 => text
  | n + 1 => copyF (text ++ [text.getD (text.length - d) 0]) d n
def Tok.app (text : List UInt8) : Tok → List UInt8
  | .lit l => text ++ l
  | .mch d n => copyF text d n
def Tok.dist : Tok → Nat
  | .lit _ => 0
  | .mch d _ => d
def Tok.out : Tok → Nat
  | .lit l => l.length
  | .mch _ n => n
/-- The error of a token behind n bytes, where at most m may stand in all. -/
def Tok.chk (t : Tok) (n m : Nat) : Nat := if n < t.dist then 2 else if m < n + t.out then 5 else 0
def unpL (begin most : Nat) (p : List UInt8) : Nat → Nat → List UInt8 → Except (Nat × Nat) (List UInt8)
  | 0, _, text => .ok (text.drop begin)
  | k + 1, at_, text =>
    if p.length ≤ at_ then .ok (text.drop begin) else
    match tok1 (p.drop at_) with
    | .error e => .error (at_, e)
    | .ok (t, n) => if t.chk text.length (begin + most) = 0 then unpL begin most p k (at_ + n) (t.app text) else .error (at_, t.chk text.length (begin + most))
def unp (begin most : Nat) (p : List UInt8) (at_ : Nat) (text : List UInt8) : Except (Nat × Nat) (List UInt8) := unpL begin most p (p.length - at_) at_ text
theorem unpL_fuel (begin most : Nat) (p : List UInt8) : ∀ (k j at_ : Nat) (text : List UInt8), p.length - at_ ≤ k → p.length - at_ ≤ j → unpL begin most p k at_ text = unpL begin most p j at_ text := by
  intro k
  induction k with
  | zero =>
    intro j at_ text h1 h2
    cases j with
    | zero => rfl
    | succ j => unfold unpL; rw [if_pos (by omega)]
  | succ k ih =>
    intro j at_ text h1 h2
    cases j with
    | zero => unfold unpL; rw [if_pos (by omega)]
    | succ j =>
      unfold unpL
      by_cases h : p.length ≤ at_
      · rw [if_pos h, if_pos h]
      · rw [if_neg h, if_neg h]
        cases ht : tok1 (p.drop at_) with
        | error e => rfl
        | ok z =>
          obtain ⟨t, n⟩ := z
          have := tok1_size ht
          simp only
          rw [ih j (at_ + n) _ (by simp at this; omega) (by simp at this; omega)]
theorem unp_end {begin most : Nat} {p : List UInt8} {at_ : Nat} (h : p.length ≤ at_) (text : List UInt8) : unp begin most p at_ text = .ok (text.drop begin) := by
  unfold unp; rw [show p.length - at_ = 0 by omega]; rfl
theorem unp_step {begin most : Nat} {p : List UInt8} {at_ : Nat} (h : at_ < p.length) (text : List UInt8) : unp begin most p at_ text =
    (match tok1 (p.drop at_) with
    | .error e => .error (at_, e)
    | .ok (t, n) => if t.chk text.length (begin + most) = 0 then unp begin most p (at_ + n) (t.app text) else .error (at_, t.chk text.length (begin + most))) := by
  have hk : p.length - at_ = (p.length - at_ - 1) + 1 := by omega
  unfold unp
  rw [hk]
  conv => lhs; unfold unpL
  rw [if_neg (by omega)]
  cases ht : tok1 (p.drop at_) with
  | error e => rfl
  | ok z =>
    obtain ⟨t, n⟩ := z
    have := tok1_size ht
    simp only
    rw [unpL_fuel begin most p (p.length - at_ - 1) (p.length - (at_ + n)) _ _ (by simp at this; omega) (by simp at this; omega)]
/-- What unpacking answers: the bytes, or the offset and the error. -/
def unpackF (dict p : List UInt8) (most : Int) : Except (Nat × Nat) (List UInt8) :=
  if most < 0 ∨ 1048576 < most then .error (0, 2) else
  if 1048576 < dict.length then .error (0, 5) else unp (reachF dict).length most.toNat p 0 (reachF dict)
end Go.Proofs.Ytocohoojnjdkiaa
