/- pack: what repeats packs short. No program. -/
import Derived.Test.YtocohoojnjdkiaaKBack
set_option linter.unusedVariables false
set_option maxRecDepth 100000
namespace Go.Proofs.Ytocohoojnjdkiaa
open Go.RowKit

/-- The bytes repeat after p. -/
def Per (t : List UInt8) (p : Nat) : Prop := ∀ i, i + p < t.length → byt t (i + p) = byt t i
theorem per_best {t : List UInt8} {p at_ : Nat} (h : Per t p) (hp : 1 ≤ p) (hp2 : p ≤ 20) (ha : p ≤ at_) (hl : at_ < t.length) : (bst t at_).1 = min 131 (t.length - at_) := by
  have h1 := (bst_is t at_).1 p hp (by omega)
  have h2 : matF t at_ p = min 131 (t.length - at_) := by
    obtain ⟨c1, c2, c3⟩ := comF_is t (min 131 (t.length - at_)) (at_ - p) at_
    unfold matF
    rcases c3 with c3 | c3
    · exact c3
    · rcases Nat.lt_or_ge (comF t (at_ - p) at_ (min 131 (t.length - at_))) (min 131 (t.length - at_)) with hlt | hge
      · have := h (at_ - p + comF t (at_ - p) at_ (min 131 (t.length - at_))) (by omega)
        rw [show at_ - p + comF t (at_ - p) at_ (min 131 (t.length - at_)) + p = at_ + comF t (at_ - p) at_ (min 131 (t.length - at_)) by omega] at this
        exact absurd this.symm c3
      · omega
  have := bst_le t at_
  omega
theorem enc_flush (run : List UInt8) : (encs (flush run)).length ≤ run.length + 1 := by
  cases run with
  | nil => simp [flush, encs]
  | cons a r => simp [flush, encs, Tok.enc]
theorem per_tail {t : List UInt8} {p : Nat} (h : Per t p) (hp : 1 ≤ p) (hp2 : p ≤ 20) : ∀ (k at_ : Nat) (run : List UInt8), t.length - at_ ≤ k → p ≤ at_ → at_ ≤ t.length → run.length ≤ 20 →
    (encs (cn t at_ run)).length ≤ run.length + (if run.length = 0 then 0 else 1) + 3 * ((t.length - at_ + 130) / 131) + 1 := by
  intro k
  induction k with
  | zero =>
    intro at_ run h1 h2 h3 h4
    rw [cn_end (by omega)]
    have := enc_flush run
    by_cases h0 : run.length = 0
    · rw [if_pos h0, List.eq_nil_of_length_eq_zero h0]; simp [flush, encs]
    · rw [if_neg h0]; omega
  | succ k ih =>
    intro at_ run h1 h2 h3 h4
    by_cases he : t.length ≤ at_
    · rw [cn_end he]
      have := enc_flush run
      by_cases h0 : run.length = 0
      · rw [if_pos h0, List.eq_nil_of_length_eq_zero h0]; simp [flush, encs]
      · rw [if_neg h0]; omega
    · by_cases h4' : 4 ≤ t.length - at_
      · have hb := per_best h hp hp2 h2 (by omega)
        have hb4 : 4 ≤ (bst t at_).1 := by omega
        rw [cn_match (by omega) hb4, encs_app, encs_cons]
        have hi := ih (at_ + (bst t at_).1) [] (by omega) (by omega) (by omega) (by simp)
        have hf : (encs (flush run)).length ≤ run.length + (if run.length = 0 then 0 else 1) := by
          by_cases h0 : run.length = 0
          · rw [if_pos h0, List.eq_nil_of_length_eq_zero h0]; simp [flush, encs]
          · rw [if_neg h0]; exact enc_flush run
        rw [hb] at hi ⊢
        simp only [List.length_append, List.length_nil, if_true] at hi ⊢
        have he3 : (Tok.enc (.mch (bst t at_).2 (min 131 (t.length - at_)))).length = 3 := rfl
        rw [he3]
        by_cases hR : t.length - at_ ≤ 131
        · rw [Nat.min_eq_right hR] at hi ⊢
          rw [show at_ + (t.length - at_) = t.length by omega] at hi ⊢
          have hz : (encs (cn t t.length [])).length = 0 := by rw [cn_end (Nat.le_refl _)]; rfl
          rw [hz]
          omega
        · rw [Nat.min_eq_left (by omega)] at hi ⊢
          omega
      · have hcb := cn_bound t _ at_ run (Nat.le_refl _) h3 (by omega)
        by_cases h0 : run.length = 0
        · rw [if_pos h0]; omega
        · rw [if_neg h0]; omega
theorem per_bound {t : List UInt8} {p : Nat} (h : Per t p) (hp : 1 ≤ p) (hp2 : p ≤ 20) (hpt : p ≤ t.length) : ∀ (k at_ : Nat) (run : List UInt8), p - at_ ≤ k → at_ ≤ p → run.length ≤ at_ →
    (encs (cn t at_ run)).length ≤ run.length + 1 + (p - at_) + 3 * ((t.length - at_ + 130) / 131) + 4 := by
  intro k
  induction k with
  | zero =>
    intro at_ run h1 h2 h3
    have := per_tail h hp hp2 _ at_ run (Nat.le_refl _) (by omega) (by omega) (by omega)
    split at this <;> omega
  | succ k ih =>
    intro at_ run h1 h2 h3
    by_cases he : at_ = p
    · have := per_tail h hp hp2 _ at_ run (Nat.le_refl _) (by omega) (by omega) (by omega)
      split at this <;> omega
    · by_cases h4 : 4 ≤ (bst t at_).1
      · have hb := bst_le t at_
        rw [cn_match (by omega) h4, encs_app, encs_cons]
        simp only [List.length_append]
        have he3 : (Tok.enc (.mch (bst t at_).2 (bst t at_).1)).length = 3 := rfl
        rw [he3]
        have hf := enc_flush run
        by_cases hge : p ≤ at_ + (bst t at_).1
        · have hi := per_tail h hp hp2 _ (at_ + (bst t at_).1) [] (Nat.le_refl _) hge (by omega) (by simp)
          simp only [List.length_nil, if_true] at hi
          omega
        · have hi := ih (at_ + (bst t at_).1) [] (by omega) (by omega) (by simp)
          simp only [List.length_nil] at hi
          omega
      · rw [cn_lit (by omega) h4 (by omega)]
        have hi := ih (at_ + 1) (run ++ [t.getD at_ 0]) (by omega) (by omega) (by simp; omega)
        simp only [List.length_append, List.length_cons, List.length_nil] at hi
        omega
theorem per_pack {t : List UInt8} {p : Nat} (h : Per t p) (hp : 1 ≤ p) (hp2 : p ≤ 20) (hpt : p ≤ t.length) : (packF [] t).length ≤ p + 1 + 3 * ((t.length + 130) / 131) + 4 := by
  have := per_bound h hp hp2 hpt _ 0 [] (Nat.le_refl _) (by omega) (by simp)
  have e : packF [] t = encs (cn t 0 []) := by unfold packF; simp [reachF]
  rw [e]
  simp only [List.length_nil, Nat.sub_zero] at this
  omega
/-- Bytes, repeated. -/
def rpt (b : List UInt8) : Nat → List UInt8
  | 0 => []
  | k + 1 => rpt b k ++ b
theorem rpt_len (b : List UInt8) : ∀ k, (rpt b k).length = k * b.length := by
  intro k
  induction k with
  | zero => simp [rpt]
  | succ k ih => simp [rpt, ih, Nat.succ_mul]
theorem rpt_left (b : List UInt8) : ∀ k, rpt b (k + 1) = b ++ rpt b k := by
  intro k
  induction k with
  | zero => simp [rpt]
  | succ k ih =>
    show rpt b (k + 1) ++ b = b ++ rpt b (k + 1)
    conv => lhs; rw [ih]
    rw [List.append_assoc]
    rfl
theorem rpt_per (b : List UInt8) (k : Nat) : Per (rpt b k) b.length := by
  intro i hi
  cases k with
  | zero => simp [rpt] at hi
  | succ k =>
    have hl : (rpt b (k + 1)).length = (rpt b k).length + b.length := by simp [rpt]
    rw [hl] at hi
    have h1 : byt (rpt b (k + 1)) (i + b.length) = byt (rpt b k) i := by
      rw [rpt_left, byt_app_r (by omega)]
      congr 1; omega
    have h2 : byt (rpt b (k + 1)) i = byt (rpt b k) i := by
      rw [show rpt b (k + 1) = rpt b k ++ b from rfl, byt_app_l (by omega)]
    rw [h1, h2]
theorem rpt_pack (b : List UInt8) (k : Nat) (hb : b.length ≤ 20) : (packF [] (rpt b k)).length ≤ b.length + 1 + 3 * ((k * b.length + 130) / 131) + 4 := by
  by_cases h0 : (rpt b k).length = 0
  · rw [List.eq_nil_of_length_eq_zero h0, pack_nil]; simp
  · rw [rpt_len] at h0
    have hk : 1 ≤ k := by rcases Nat.eq_zero_or_pos k with h | h; · subst h; simp at h0
                          · exact h
    have hb1 : 1 ≤ b.length := by rcases Nat.eq_zero_or_pos b.length with h | h; · rw [h] at h0; simp at h0
                                  · exact h
    have := per_pack (rpt_per b k) hb1 hb (by rw [rpt_len]; exact Nat.le_mul_of_pos_left _ hk)
    rw [rpt_len] at this
    exact this
theorem zeros_pack (n : Nat) (hn : 1 ≤ n) : (packF [] (List.replicate n 0)).length ≤ 1 + 1 + 3 * ((n + 130) / 131) + 4 := by
  have h : Per (List.replicate n (0 : UInt8)) 1 := by
    intro i hi
    simp at hi
    unfold byt
    simp [List.getD, List.getElem?_replicate]
    split <;> split <;> first | rfl | omega
  have := per_pack h (Nat.le_refl _) (by omega) (by simpa using hn)
  simpa using this
end Go.Proofs.Ytocohoojnjdkiaa
