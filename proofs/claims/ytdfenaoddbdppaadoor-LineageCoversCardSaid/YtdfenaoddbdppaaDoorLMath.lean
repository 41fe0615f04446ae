/- lineage: a text of a name and its ordinals: each gives the other. Plain lemmas, no program. -/
import Derived.Test.YtdfenaoddbdppaaDoorLText
import Derived.Test.YtdfenaoddbdppaaDoorLRefs
set_option linter.unusedVariables false
namespace Go.Proofs.YtdfenaoddbdppaaDoor
open Go.RowKit

def stepD (m : Nat) (d : UInt8) : Nat := 10 * m + (d.toNat - 48)
/-- It does not go on with a digit. -/
def Stop (t : List UInt8) : Prop := ∀ c r, t = c :: r → isD c = false
theorem dig_spec : ∀ (r : List UInt8) (k n n' k' : Nat), k ≤ 6 → dig r k n = some (n', k') →
    ∃ ds t, r = ds ++ t ∧ (∀ d ∈ ds, isD d = true) ∧ k' = k + ds.length ∧ k' ≤ 6 ∧ n' = ds.foldl stepD n ∧ Stop t
  | [], k, n, n', k', hk, h => by
    rw [dig] at h; cases h
    exact ⟨[], [], rfl, by simp, by simp, hk, rfl, fun c r h => by cases h⟩
  | c :: r, k, n, n', k', hk, h => by
    rw [dig] at h
    by_cases hc : isD c = true
    · rw [if_pos hc] at h
      by_cases h6 : k = 6
      · rw [if_pos h6] at h; cases h
      · rw [if_neg h6] at h
        obtain ⟨ds, t, h1, h2, h3, h4, h5, h7⟩ := dig_spec r (k + 1) _ n' k' (by omega) h
        refine ⟨c :: ds, t, by rw [h1]; rfl, ?_, by simp; omega, h4, h5, h7⟩
        intro d hd
        rcases List.mem_cons.1 hd with rfl | hd
        · exact hc
        · exact h2 d hd
    · rw [if_neg hc] at h
      cases h
      refine ⟨[], c :: r, rfl, by simp, by simp, hk, rfl, ?_⟩
      intro c' r' e
      cases e
      simpa using hc
theorem dig_run : ∀ (ds : List UInt8) (k n : Nat) (t : List UInt8), (∀ d ∈ ds, isD d = true) → k + ds.length ≤ 6 → Stop t → dig (ds ++ t) k n = some (ds.foldl stepD n, k + ds.length)
  | [], k, n, t, _, _, ht => by
    cases t with
    | nil => rw [List.nil_append, dig]; simp
    | cons c r => rw [List.nil_append, dig, if_neg (by rw [ht c r rfl]; decide)]; simp
  | d :: ds, k, n, t, hd, hk, ht => by
    have h6 : ¬ k = 6 := by simp at hk; omega
    rw [List.cons_append, dig, if_pos (hd d (by simp)), if_neg h6, dig_run ds (k + 1) _ t (fun x hx => hd x (by simp [hx])) (by simp at hk; omega) ht]
    simp [stepD]; omega
theorem dec_digits (n : Nat) : ∀ d ∈ dec n, isD d = true := by
  induction n using Nat.strongRecOn with
  | _ n ih =>
    have last : ∀ m, m < 10 → isD (UInt8.ofNat (48 + m)) = true := by
      intro m hm
      simp only [isD, UInt8.toNat_ofNat', Bool.and_eq_true, decide_eq_true_eq]
      omega
    by_cases h : n < 10
    · rw [dec_small h]
      intro d hd
      rw [List.mem_singleton.1 hd]; exact last n h
    · rw [dec_big h]
      intro d hd
      rcases List.mem_append.1 hd with hd | hd
      · exact ih (n / 10) (by omega) d hd
      · rw [List.mem_singleton.1 hd]; exact last _ (by omega)
theorem dec_val (n : Nat) : (dec n).foldl stepD 0 = n := by
  induction n using Nat.strongRecOn with
  | _ n ih =>
    by_cases h : n < 10
    · rw [dec_small h]
      show 10 * 0 + ((UInt8.ofNat (48 + n)).toNat - 48) = n
      rw [UInt8.toNat_ofNat']; omega
    · rw [dec_big h, List.foldl_append, ih (n / 10) (by omega)]
      show 10 * (n / 10) + ((UInt8.ofNat (48 + n % 10)).toNat - 48) = n
      rw [UInt8.toNat_ofNat']; omega
theorem dec_len10 : ∀ (k n : Nat), n < 10 ^ (k + 1) → (dec n).length ≤ k + 1
  | 0, n, h => by rw [dec_small (by simpa using h)]; simp
  | k + 1, n, h => by
    by_cases hs : n < 10
    · rw [dec_small hs]; simp
    · rw [dec_big hs, List.length_append]
      have h1 : n / 10 < 10 ^ (k + 1) := by
        rw [Nat.pow_succ] at h
        exact Nat.div_lt_of_lt_mul (by rw [Nat.mul_comm]; exact h)
      have := dec_len10 k (n / 10) h1
      simp; omega
theorem dec_l6 {n : Nat} (h : n ≤ 999999) : (dec n).length ≤ 6 := dec_len10 5 n (by simp only [Nat.reducePow, Nat.reduceAdd]; omega)
theorem dec_ne (n : Nat) : dec n ≠ [] := by
  by_cases h : n < 10
  · rw [dec_small h]; simp
  · rw [dec_big h]; simp
theorem dec_head (n : Nat) (hn : 1 ≤ n) : ∃ c r, dec n = c :: r ∧ c ≠ 48 := by
  induction n using Nat.strongRecOn with
  | _ n ih =>
    by_cases h : n < 10
    · refine ⟨_, _, dec_small h, fun e => ?_⟩
      have := congrArg UInt8.toNat e
      rw [UInt8.toNat_ofNat', show (48 : UInt8).toNat = 48 from rfl] at this
      omega
    · obtain ⟨c, r, hc, hne⟩ := ih (n / 10) (by omega) (by omega)
      exact ⟨c, r ++ [UInt8.ofNat (48 + n % 10)], by rw [dec_big h, hc]; rfl, hne⟩
theorem fold_ge : ∀ (ds : List UInt8) (n : Nat), n ≤ ds.foldl stepD n
  | [], n => Nat.le_refl _
  | d :: ds, n => Nat.le_trans (by show n ≤ 10 * n + _; omega) (fold_ge ds (stepD n d))
theorem fold_lt : ∀ (ds : List UInt8) (n k : Nat), (∀ d ∈ ds, isD d = true) → n < 10 ^ k → ds.foldl stepD n < 10 ^ (k + ds.length)
  | [], n, k, _, h => h
  | d :: ds, n, k, hd, h => by
    have h1 : stepD n d < 10 ^ (k + 1) := pow_step h (by have := hd d (by simp); simp [isD] at this; omega)
    have := fold_lt ds _ (k + 1) (fun x hx => hd x (by simp [hx])) h1
    rw [List.length_cons, show k + (ds.length + 1) = k + 1 + ds.length by omega]
    exact this
theorem dec_of : ∀ (ds : List UInt8) (c : UInt8), (∀ d ∈ c :: ds.reverse, isD d = true) → c ≠ 48 → dec ((c :: ds.reverse).foldl stepD 0) = c :: ds.reverse
  | [], c, hd, hc => by
    have := hd c (by simp)
    simp only [isD, Bool.and_eq_true, decide_eq_true_eq] at this
    show dec (10 * 0 + (c.toNat - 48)) = [c]
    rw [dec_small (by omega)]
    congr 1
    rw [← UInt8.toNat_inj, UInt8.toNat_ofNat']
    omega
  | d :: ds, c, hd, hc => by
    have ih := dec_of ds c (fun x hx => hd x (by simp at hx ⊢; rcases hx with h | h; exact .inl h; exact .inr (.inl h))) hc
    have hdd := hd d (by simp)
    simp only [isD, Bool.and_eq_true, decide_eq_true_eq] at hdd
    rw [List.reverse_cons, ← List.cons_append, List.foldl_append]
    obtain ⟨v, hv⟩ : ∃ v, v = (c :: ds.reverse).foldl stepD 0 := ⟨_, rfl⟩
    rw [← hv] at ih ⊢
    have hv1 : 1 ≤ v := by
      have hcc := hd c (by simp)
      simp only [isD, Bool.and_eq_true, decide_eq_true_eq] at hcc
      have hc48 : c.toNat ≠ 48 := fun e => hc (UInt8.toNat_inj.1 (by rw [e]; rfl))
      rw [hv, List.foldl_cons]
      refine Nat.le_trans ?_ (fold_ge _ _)
      show 1 ≤ 10 * 0 + (c.toNat - 48)
      omega
    show dec (10 * v + (d.toNat - 48)) = _
    rw [dec_big (by omega), show (10 * v + (d.toNat - 48)) / 10 = v by omega, ih]
    congr 2
    rw [← UInt8.toNat_inj, UInt8.toNat_ofNat']
    omega
theorem dec_of' {ds r : List UInt8} {c : UInt8} (e : ds = c :: r) (hd : ∀ d ∈ ds, isD d = true) (hc : c ≠ 48) : dec (ds.foldl stepD 0) = ds := by
  subst e
  have := dec_of r.reverse c (by simpa using hd) hc
  simpa using this

/-! ### One part -/
theorem partP_text {s : List UInt8} {at_ count a n en : Nat} (h : partP s at_ count = (a, n, 0, en)) : count ≠ 8 ∧ s.drop at_ = dec n ++ s.drop en ∧ Stop (s.drop en) ∧ 1 ≤ n ∧ n ≤ 999999 := by
  unfold partP at h
  by_cases h8 : count = 8
  · rw [if_pos h8] at h; cases h
  · rw [if_neg h8] at h
    cases hd : s.drop at_ with
    | nil => rw [hd] at h; cases h
    | cons c r =>
      rw [hd] at h
      simp only at h
      by_cases hc : isD c = true
      · rw [if_pos hc] at h
        by_cases h48 : c = 48
        · rw [if_pos h48] at h; cases h
        · rw [if_neg h48] at h
          cases hg : dig (c :: r) 0 0 with
          | none => rw [hg] at h; cases h
          | some p =>
            obtain ⟨n', k'⟩ := p
            rw [hg] at h
            cases h
            obtain ⟨ds, t, h1, h2, h3, h4, h5, h7⟩ := dig_spec (c :: r) 0 0 n k' (by omega) hg
            have hdr : s.drop (at_ + k') = t := by
              rw [← List.drop_drop, hd, h1, h3, Nat.zero_add, List.drop_left]
            cases ds with
            | nil =>
              have := h7 c r (by simpa using h1.symm)
              rw [hc] at this; cases this
            | cons d ds' =>
              have hcd : c = d := by
                have := congrArg List.head? h1
                simpa using this
              subst hcd
              have hdec := dec_of' rfl h2 h48
              rw [← h5] at hdec
              refine ⟨h8, by rw [hdr, hdec, h1], by rw [hdr]; exact h7, ?_, ?_⟩
              · apply Nat.pos_of_ne_zero
                intro h0
                rw [h0, dec_small (by omega)] at hdec
                have : UInt8.ofNat (48 + 0) = c := by
                  have := congrArg List.head? hdec
                  simpa using this
                exact h48 (by rw [← this]; rfl)
              · have := fold_lt (c :: ds') 0 0 h2 (by decide)
                rw [← h5, ← h3] at this
                have h10 : 10 ^ k' ≤ 10 ^ 6 := Nat.pow_le_pow_right (by decide) h4
                simp only [Nat.reducePow] at h10
                omega
      · rw [if_neg hc] at h; cases h
theorem partP_dec {s t : List UInt8} {at_ count n : Nat} (h8 : count ≠ 8) (hd : s.drop at_ = dec n ++ t) (ht : Stop t) (h1 : 1 ≤ n) (h2 : n ≤ 999999) : partP s at_ count = (at_, n, 0, at_ + (dec n).length) := by
  obtain ⟨c, r, hc, hne⟩ := dec_head n h1
  have hg := dig_run (dec n) 0 0 t (dec_digits n) (by have := dec_l6 h2; omega) ht
  rw [dec_val, Nat.zero_add] at hg
  have hcd : isD c = true := dec_digits n c (by rw [hc]; simp)
  unfold partP
  rw [if_neg h8, hd]
  rw [hc] at hg ⊢
  simp only [List.cons_append] at hg ⊢
  rw [if_pos hcd, if_neg hne, hg]

/-! ### The whole -/
/-- The text of ordinals, from the left. -/
def tx : List Nat → List UInt8
  | [] => []
  | a :: r => dec a ++ (match r with | [] => [] | _ :: _ => 46 :: tx r)
theorem tx_one (a : Nat) : tx [a] = dec a := by simp [tx]
theorem tx_cons (a b : Nat) (r : List Nat) : tx (a :: b :: r) = dec a ++ 46 :: tx (b :: r) := by rw [tx]
theorem tx_snoc : ∀ (l : List Nat) (x : Nat), l ≠ [] → tx (l ++ [x]) = tx l ++ 46 :: dec x
  | [], _, h => absurd rfl h
  | [a], x, _ => by simp [tx]
  | a :: b :: r, x, _ => by
    rw [List.cons_append, List.cons_append, tx_cons, tx_cons, ← List.cons_append, tx_snoc (b :: r) x (by simp)]
    simp
theorem textK_take : ∀ (k : Nat) (l : List Nat), k ≤ l.length → textK l k = tx (l.take k)
  | 0, l, _ => by simp [textK, tx]
  | k + 1, l, h => by
    have hk : k < l.length := by omega
    have e1 : l.take (k + 1) = l.take k ++ [l.getD k 0] := by
      rw [List.take_add_one, List.getD_eq_getElem?_getD, List.getElem?_eq_getElem hk]; rfl
    rw [textK, textK_take k l (by omega), e1]
    cases k with
    | zero => simp [tx]
    | succ k =>
      rw [tx_snoc _ _ (fun e => by have := congrArg List.length e; rw [List.length_take, List.length_nil] at this; omega), if_neg (by omega)]
      simp
theorem textS_tx (l : List Nat) : textS l = tx l := by
  unfold textS
  rw [textK_take _ _ (Nat.le_refl _), List.take_length]
/-- What was read is the text of what it gave. -/
theorem parseF_text {s : List UInt8} : ∀ (f at_ : Nat) (out l : List Nat) (x : Nat), out.length + f = 9 → parseF s f at_ out = (l, x, 0) → 0 < f → x = 0 ∧ ∃ r, r ≠ [] ∧ l = out ++ r ∧ s.drop at_ = tx r ∧ (∀ y ∈ r, 1 ≤ y ∧ y ≤ 999999) ∧ l.length ≤ 8
  | 0, _, _, _, _, _, _, h => absurd h (by omega)
  | f + 1, at_, out, l, x, hf, h, _ => by
    obtain ⟨a, n, e, en, hp⟩ : ∃ a n e en, partP s at_ out.length = (a, n, e, en) := ⟨_, _, _, _, rfl⟩
    by_cases he : e = 0
    · subst he
      obtain ⟨h8, hd, hst, h1, h2⟩ := partP_text hp
      cases hdr : s.drop en with
      | nil =>
        rw [parseF_end hp hdr] at h
        cases h
        refine ⟨rfl, [n], by simp, rfl, ?_, ?_, by simp; omega⟩
        · rw [hd, hdr, tx_one]; simp
        · intro y hy; simp at hy; rw [hy]; exact ⟨h1, h2⟩
      | cons c r =>
        by_cases h46 : c = 46
        · rw [parseF_go hp hdr h46] at h
          have hf0 : 0 < f := by omega
          obtain ⟨hx, r2, hr, hl, htx, hy, hlen⟩ := parseF_text f (en + 1) (out ++ [n]) l x (by simp; omega) h hf0
          refine ⟨hx, n :: r2, by simp, by rw [hl]; simp, ?_, ?_, hlen⟩
          · cases r2 with
            | nil => exact absurd rfl hr
            | cons b r3 =>
              rw [tx_cons, ← htx, hd, hdr, h46]
              congr 2
              have : s.drop (en + 1) = (s.drop en).drop 1 := by rw [List.drop_drop]
              rw [this, hdr]; rfl
          · intro y hyy
            rcases List.mem_cons.1 hyy with rfl | hyy
            · exact ⟨h1, h2⟩
            · exact hy y hyy
        · rw [parseF_bad hp hdr h46] at h
          cases h
    · rw [parseF_err hp he] at h
      cases h
      exact absurd rfl he
theorem parseF_of {s : List UInt8} : ∀ (r : List Nat) (f at_ : Nat) (out : List Nat), r ≠ [] → out.length + f = 9 → out.length + r.length ≤ 8 → (∀ y ∈ r, 1 ≤ y ∧ y ≤ 999999) → s.drop at_ = tx r → parseF s f at_ out = (out ++ r, 0, 0)
  | [], _, _, _, h, _, _, _, _ => absurd rfl h
  | a :: r, 0, _, _, _, h, h2, _, _ => by simp at h2; omega
  | a :: r, f + 1, at_, out, _, hf, hl, hy, hd => by
    have h8 : out.length ≠ 8 := by simp at hl; omega
    have ha := hy a (by simp)
    cases r with
    | nil =>
      rw [tx_one] at hd
      have hp := partP_dec (t := []) h8 (by rw [hd]; simp) (fun c r e => by cases e) ha.1 ha.2
      exact parseF_end hp (by rw [← List.drop_drop, hd, List.drop_length])
    | cons b r =>
      rw [tx_cons] at hd
      have hp := partP_dec h8 hd (fun c r e => by cases e; rfl) ha.1 ha.2
      have hdr : s.drop (at_ + (dec a).length) = 46 :: tx (b :: r) := by rw [← List.drop_drop, hd, List.drop_left]
      rw [parseF_go hp hdr rfl, parseF_of (b :: r) f _ (out ++ [a]) (by simp) (by simp; omega) (by simp at hl ⊢; omega) (fun y h => hy y (by simp [h])) (by rw [← List.drop_drop, hdr]; rfl)]
      simp
def Good (l : List Nat) : Prop := l.length ≤ 8 ∧ ∀ x ∈ l, 1 ≤ x ∧ x ≤ 999999
theorem parseL_cons {s : List UInt8} (h : s ≠ []) : parseL s = parseF s 9 0 [] := by
  cases s with
  | nil => exact absurd rfl h
  | cons a r => rfl
theorem parseL_text {s : List UInt8} (h : (parseL s).2.2 = 0) : (parseL s).2.1 = 0 ∧ Good (parseL s).1 ∧ tx (parseL s).1 = s := by
  by_cases hs : s = []
  · subst hs; exact ⟨rfl, ⟨by simp [parseL], by simp [parseL]⟩, rfl⟩
  · rw [parseL_cons hs] at h ⊢
    obtain ⟨l, x, e0, e⟩ : ∃ l x e0, parseF s 9 0 [] = (l, x, e0) := ⟨_, _, _, rfl⟩
    rw [e] at h
    obtain rfl : e0 = 0 := h
    obtain ⟨hx, r, hr, hl, htx, hy, hlen⟩ := parseF_text 9 0 [] l x rfl e (by omega)
    rw [e]
    rw [List.nil_append] at hl
    subst hl
    exact ⟨hx, ⟨hlen, hy⟩, by rw [← htx]; rfl⟩
theorem parseF_none {s : List UInt8} : ∀ (f at_ : Nat) (out : List Nat), (parseF s f at_ out).2.2 ≠ 0 → (parseF s f at_ out).1 = []
  | 0, _, _, h => absurd rfl h
  | f + 1, at_, out, h => by
    rw [parseF] at h ⊢
    split
    · rename_i h0
      rw [if_pos h0] at h
      split
      · rename_i hd; rw [hd] at h; exact absurd rfl h
      · rename_i c r hd
        rw [hd] at h
        simp only at h
        split
        · rename_i h46; rw [if_pos h46] at h; exact parseF_none f _ _ h
        · rfl
    · rfl
theorem parseL_none {s : List UInt8} (h : (parseL s).2.2 ≠ 0) : (parseL s).1 = [] := by
  by_cases hs : s = []
  · subst hs; exact absurd rfl h
  · rw [parseL_cons hs] at h ⊢; exact parseF_none _ _ _ h
theorem parseL_len8 (s : List UInt8) : (parseL s).1.length ≤ 8 := by
  by_cases h : (parseL s).2.2 = 0
  · exact (parseL_text h).2.1.1
  · rw [parseL_none h]; simp
theorem parseL_num (s : List UInt8) : ∀ x ∈ (parseL s).1, 1 ≤ x ∧ x ≤ 999999 := by
  by_cases h : (parseL s).2.2 = 0
  · exact (parseL_text h).2.1.2
  · rw [parseL_none h]; simp
theorem tx_ne {l : List Nat} (h : l ≠ []) : tx l ≠ [] := by
  cases l with
  | nil => exact absurd rfl h
  | cons a r => intro e; exact dec_ne a (List.append_eq_nil_iff.1 (show dec a ++ _ = [] from e)).1
theorem parseL_tx {l : List Nat} (h : Good l) : parseL (tx l) = (l, 0, 0) := by
  by_cases hl : l = []
  · subst hl; rfl
  · rw [parseL_cons (tx_ne hl), parseF_of l 9 0 [] hl rfl (by simpa using h.1) h.2 rfl]; rfl
end Go.Proofs.YtdfenaoddbdppaaDoor
