/- What was written is read again; what is read and written again is the same; what is cut is truncated. Plain mathematics over the words of the walks. -/
import Derived.Test.YtfjigooahdfbpaaReads
set_option linter.unusedVariables false
namespace Go.Proofs.Ytfjigooahdfbpaa
open Go.RowKit

/-- A value with a limit that permits it. -/
def V.lim (v : V) : V := ⟨v.kind, v.n, v.is, v.s, if v.kind.toNat % 4 = 3 then (v.s.size : Int) else v.n⟩

/-- The encoding of a value. -/
def encv (v : V) : List UInt8 :=
  if v.kind.toNat % 4 = 0 then enc v.n.toNat
  else if v.kind.toNat % 4 = 1 then enc (zig v.n)
  else if v.kind.toNat % 4 = 2 then [if v.is then 1 else 0]
  else enc v.s.size ++ v.s.data.toList

/-- Can it be written? -/
def can (v : V) : Prop := (v.kind.toNat % 4 = 0 → 0 ≤ v.n) ∧ (v.kind.toNat % 4 = 3 → v.s.size ≤ 16777216)

/-- What is read again. -/
def V.norm (v : V) : V :=
  if v.kind.toNat % 4 = 0 then { v.zero with n := v.n }
  else if v.kind.toNat % 4 = 1 then { v.zero with n := v.n }
  else if v.kind.toNat % 4 = 2 then { v.zero with is := v.is }
  else { v.zero with s := v.s }

theorem wput0 (l m : List UInt8) : wput l 0 m = l ++ m := if_pos rfl

theorem wstep_can (pre : List UInt8) (v : V) (h : can v) : wstep (pre, 0) v = (pre ++ encv v, 0) := by
  unfold wstep encv
  by_cases h0 : v.kind.toNat % 4 = 0
  · rw [if_pos h0, if_pos h0, if_neg (by have := h.1 h0; omega)]; rfl
  · rw [if_neg h0, if_neg h0]
    by_cases h1 : v.kind.toNat % 4 = 1
    · rw [if_pos h1, if_pos h1]; rfl
    · rw [if_neg h1, if_neg h1]
      by_cases h2 : v.kind.toNat % 4 = 2
      · rw [if_pos h2, if_pos h2]; rfl
      · rw [if_neg h2, if_neg h2, if_neg (by have := h.2 (by omega); omega)]; rfl

theorem wstep_not (pre : List UInt8) (v : V) (h : ¬ can v) : (wstep (pre, 0) v).2 ≠ 0 := by
  unfold wstep
  by_cases h0 : v.kind.toNat % 4 = 0
  · rw [if_pos h0, if_pos (by
      rcases Int.lt_or_le v.n 0 with hl | hl
      · exact hl
      · exact absurd ⟨fun _ => hl, fun h3 => by omega⟩ h)]
    simp [errOf]
  · rw [if_neg h0]
    by_cases h1 : v.kind.toNat % 4 = 1
    · exact absurd ⟨fun h => by omega, fun h => by omega⟩ h
    · rw [if_neg h1]
      by_cases h2 : v.kind.toNat % 4 = 2
      · exact absurd ⟨fun h => by omega, fun h => by omega⟩ h
      · rw [if_neg h2, if_pos (by
          rcases Nat.lt_or_ge 16777216 v.s.size with hl | hl
          · exact hl
          · exact absurd ⟨fun h3 => by omega, fun _ => hl⟩ h)]
        simp [errOf]

def encs (l : List V) : List UInt8 := l.flatMap encv

theorem foldl_can (l : List V) : ∀ pre, (∀ v ∈ l, can v) → l.foldl wstep (pre, 0) = (pre ++ encs l, 0) := by
  induction l with
  | nil => intro pre _; simp [encs]
  | cons v r ih =>
    intro pre h
    rw [List.foldl_cons, wstep_can pre v (h v (List.mem_cons_self ..)), ih _ (fun x hx => h x (List.mem_cons_of_mem _ hx))]
    simp [encs]
theorem can_of_foldl (l : List V) : ∀ pre, (l.foldl wstep (pre, 0)).2 = 0 → ∀ v ∈ l, can v := by
  induction l with
  | nil => intro pre _ v h; simp at h
  | cons v r ih =>
    intro pre h
    by_cases hc : can v
    · rw [List.foldl_cons, wstep_can pre v hc] at h
      intro x hx
      rcases List.mem_cons.1 hx with rfl | hx
      · exact hc
      · exact ih _ h x hx
    · rw [List.foldl_cons] at h
      have h1 := wstep_not pre v hc
      rw [foldl_err r _ h1] at h
      exact absurd h h1

theorem zig_lt {n : Int} (h0 : -9223372036854775808 ≤ n) (h1 : n ≤ 9223372036854775807) : zig n < 18446744073709551616 := by
  by_cases h : n < 0
  · have := zig_neg h; omega
  · have := zig_pos h; omega
theorem unzig_zig (n : Int) : unzig (zig n) = n := by
  by_cases h : n < 0
  · have := zig_neg h; rw [unzig_odd (by omega)]; omega
  · have := zig_pos h; rw [unzig_even (by omega)]; omega
theorem zig_unzig (n : Nat) : zig (unzig n) = n := by
  by_cases h : n % 2 = 0
  · rw [unzig_even h]
    have := zig_pos (n := ((n / 2 : Nat) : Int)) (by omega); omega
  · rw [unzig_odd h]
    have := zig_neg (n := -((n / 2 : Nat) : Int) - 1) (by omega); omega

theorem norm0 (v : V) (h : v.kind.toNat % 4 = 0) : v.lim.norm = ⟨v.kind, v.n, false, ⟨#[]⟩, v.lim.most⟩ := by
  unfold V.norm; rw [if_pos (show v.lim.kind.toNat % 4 = 0 from h)]; rfl
theorem norm1 (v : V) (h : v.kind.toNat % 4 = 1) : v.lim.norm = ⟨v.kind, v.n, false, ⟨#[]⟩, v.lim.most⟩ := by
  unfold V.norm; rw [if_neg (show ¬ v.lim.kind.toNat % 4 = 0 by show ¬ v.kind.toNat % 4 = 0; omega), if_pos (show v.lim.kind.toNat % 4 = 1 from h)]; rfl
theorem norm2 (v : V) (h : v.kind.toNat % 4 = 2) : v.lim.norm = ⟨v.kind, 0, v.is, ⟨#[]⟩, v.lim.most⟩ := by
  unfold V.norm
  rw [if_neg (show ¬ v.lim.kind.toNat % 4 = 0 by show ¬ v.kind.toNat % 4 = 0; omega), if_neg (show ¬ v.lim.kind.toNat % 4 = 1 by show ¬ v.kind.toNat % 4 = 1; omega),
    if_pos (show v.lim.kind.toNat % 4 = 2 from h)]; rfl
theorem norm3 (v : V) (h : v.kind.toNat % 4 = 3) : v.lim.norm = ⟨v.kind, 0, false, v.s, v.lim.most⟩ := by
  unfold V.norm
  rw [if_neg (show ¬ v.lim.kind.toNat % 4 = 0 by show ¬ v.kind.toNat % 4 = 0; omega), if_neg (show ¬ v.lim.kind.toNat % 4 = 1 by show ¬ v.kind.toNat % 4 = 1; omega),
    if_neg (show ¬ v.lim.kind.toNat % 4 = 2 by show ¬ v.kind.toNat % 4 = 2; omega)]; rfl
theorem encv0 (v : V) (h : v.kind.toNat % 4 = 0) : encv v = enc v.n.toNat := by unfold encv; rw [if_pos h]
theorem encv1 (v : V) (h : v.kind.toNat % 4 = 1) : encv v = enc (zig v.n) := by unfold encv; rw [if_neg (by omega), if_pos h]
theorem encv2 (v : V) (h : v.kind.toNat % 4 = 2) : encv v = [if v.is then 1 else 0] := by unfold encv; rw [if_neg (by omega), if_neg (by omega), if_pos h]
theorem encv3 (v : V) (h : v.kind.toNat % 4 = 3) : encv v = enc v.s.size ++ v.s.data.toList := by unfold encv; rw [if_neg (by omega), if_neg (by omega), if_neg (by omega)]

/-- A written value is read again, whatever follows. -/
theorem one_encv (v : V) (hok : v.Ok) (h : can v) (r : List UInt8) : one v.lim (encv v ++ r) = (v.lim.norm, (encv v).length, 0) := by
  rcases (by omega : v.kind.toNat % 4 = 0 ∨ v.kind.toNat % 4 = 1 ∨ v.kind.toNat % 4 = 2 ∨ v.kind.toNat % 4 = 3) with hq | hq | hq | hq
  · have hn := h.1 hq
    have hn1 := hok.n1
    have hg := grp_enc v.n.toNat r 9 (enc_len9 (by omega)) (by omega)
    have hlim : v.lim.most = v.n := by unfold V.lim; simp only; rw [if_neg (by omega)]
    rw [one0 v.lim _ hq, norm0 v hq, encv0 v hq, hlim]
    have hp : pNum v.n (enc v.n.toNat ++ r) = (((v.n.toNat : Nat) : Int), (enc v.n.toNat).length, 0) := by
      unfold pNum; rw [hg]; simp only [ne_eq, not_true_eq_false, if_false]; rw [if_neg (by omega)]
    rw [hp]
    simp only [V.zero, V.lim]
    rw [show ((v.n.toNat : Nat) : Int) = v.n by omega]
    rfl
  · have hz := zig_lt hok.n0 hok.n1
    have hg := grp_enc (zig v.n) r 10 (enc_len10 hz) hz
    rw [one1 v.lim _ hq, norm1 v hq, encv1 v hq]
    have hp : pSig (enc (zig v.n) ++ r) = (v.n, (enc (zig v.n)).length, 0) := by
      unfold pSig; rw [hg]; simp only [unzig_zig]
    rw [hp]
    rfl
  · rw [one2 v.lim _ hq, norm2 v hq, encv2 v hq]
    cases hv : v.is
    · rfl
    · rfl
  · have hs := h.2 hq
    have hg := grp_enc v.s.size (v.s.data.toList ++ r) 9 (enc_len9 (by omega)) (by omega)
    have hlim : v.lim.most = (v.s.size : Int) := by unfold V.lim; simp only; rw [if_pos hq]
    have hdl : v.s.data.toList.length = v.s.size := by simp
    rw [one3 v.lim _ hq, norm3 v hq, encv3 v hq, hlim, List.append_assoc]
    have e1 : ((enc v.s.size ++ (v.s.data.toList ++ r)).drop (enc v.s.size).length).take v.s.size = v.s.data.toList := by
      rw [List.drop_left, ← hdl, List.take_left]
    have hp : pText (v.s.size : Int) (enc v.s.size ++ (v.s.data.toList ++ r)) = (v.s.data.toList, (enc v.s.size).length + v.s.size, 0) := by
      unfold pText; rw [hg]; simp only [ne_eq, not_true_eq_false, if_false]
      rw [if_neg (by omega), if_neg (by simp only [List.length_append, hdl]; omega), e1]
    rw [hp]
    simp only [V.zero, V.lim, List.length_append, hdl]

theorem foldl_read (l : List V) : ∀ (pre : List UInt8) (out : List V) (r : List UInt8), (∀ v ∈ l, can v) → (∀ v ∈ l, V.Ok v) →
    (l.map V.lim).foldl (rdstep (pre ++ (encs l ++ r))) (out, pre.length, 0) = (out ++ l.map (fun v => v.lim.norm), pre.length + (encs l).length, 0) := by
  induction l with
  | nil => intro pre out r _ _; simp [encs]
  | cons v t ih =>
    intro pre out r hc hok
    have h1 := one_encv v (hok v (List.mem_cons_self ..)) (hc v (List.mem_cons_self ..)) (encs t ++ r)
    have e0 : encs (v :: t) ++ r = encv v ++ (encs t ++ r) := by simp [encs]
    rw [List.map_cons, List.foldl_cons, e0]
    have e1 : rdstep (pre ++ (encv v ++ (encs t ++ r))) (out, pre.length, 0) v.lim = (out ++ [v.lim.norm], pre.length + (encv v).length, 0) := by
      unfold rdstep
      simp only
      rw [List.drop_left, h1, rat0, rerr0]
      simp
    rw [e1]
    have h2 := ih (pre ++ encv v) (out ++ [v.lim.norm]) r (fun x hx => hc x (List.mem_cons_of_mem _ hx)) (fun x hx => hok x (List.mem_cons_of_mem _ hx))
    rw [List.length_append, List.append_assoc] at h2
    rw [h2]
    simp [encs, Nat.add_assoc]

/-- What is read is written again as it was. -/
theorem wstep_one (pre b : List UInt8) (v x : V) (s : Nat) (h : one v b = (x, s, 0)) : wstep (pre, 0) x = (pre ++ b.take s, 0) ∧ s ≤ b.length := by
  rcases (by omega : v.kind.toNat % 4 = 0 ∨ v.kind.toNat % 4 = 1 ∨ v.kind.toNat % 4 = 2 ∨ v.kind.toNat % 4 = 3) with hq | hq | hq | hq
  · rw [one0 v b hq] at h
    unfold pNum at h
    rcases grp_cases b 9 with ⟨e, he, hg⟩ | ⟨n, t, hg, _, _, ht, hen⟩ <;> rw [hg] at h
    · simp only at h
      rw [if_pos (by omega)] at h
      injection h with _ h; injection h with _ h; simp only at h; omega
    · simp only [ne_eq, not_true_eq_false, if_false] at h
      split at h
      · injection h with _ h; injection h with _ h; simp at h
      · injection h with hx h; injection h with hs _
        simp only at hx hs
        subst hx; subst hs
        refine ⟨?_, ht⟩
        rw [wstep0 _ _ (by exact hq)]
        simp only
        rw [if_neg (by omega), if_neg (by omega), wput0, Int.toNat_natCast, hen]
  · rw [one1 v b hq] at h
    unfold pSig at h
    rcases grp_cases b 10 with ⟨e, he, hg⟩ | ⟨n, t, hg, _, _, ht, hen⟩ <;> rw [hg] at h
    · injection h with _ h; injection h with _ h; simp only at h; omega
    · injection h with hx h; injection h with hs _
      simp only at hx hs
      subst hx; subst hs
      refine ⟨?_, ht⟩
      rw [wstep1 _ _ (by exact hq)]
      simp only
      rw [wput0, zig_unzig, hen]
  · rw [one2 v b hq] at h
    cases b with
    | nil => simp [pFlag] at h
    | cons c t =>
      simp only [pFlag] at h
      split at h
      · injection h with _ h; injection h with _ h; simp at h
      · rename_i hc
        injection h with hx h; injection h with hs _
        simp only at hx hs
        subst hx; subst hs
        refine ⟨?_, by simp⟩
        rw [wstep2 _ _ (by exact hq)]
        simp only
        rw [wput0]
        rcases (by omega : c.toNat = 0 ∨ c.toNat = 1) with h0 | h0
        · rw [h0, show c = 0 from UInt8.toNat_inj.1 (by simpa using h0)]; rfl
        · rw [h0, show c = 1 from UInt8.toNat_inj.1 (by simpa using h0)]; rfl
  · rw [one3 v b hq] at h
    unfold pText at h
    rcases grp_cases b 9 with ⟨e, he, hg⟩ | ⟨n, t, hg, _, _, ht, hen⟩ <;> rw [hg] at h
    · simp only at h
      rw [if_pos (by omega)] at h
      injection h with _ h; injection h with _ h; simp only at h; omega
    · simp only [ne_eq, not_true_eq_false, if_false] at h
      split at h
      · injection h with _ h; injection h with _ h; simp at h
      · split at h
        · injection h with _ h; injection h with _ h; simp at h
        · rename_i h1 h2
          injection h with hx h; injection h with hs _
          simp only at hx hs
          subst hx; subst hs
          refine ⟨?_, by omega⟩
          rw [wstep3 _ _ (by exact hq)]
          simp only
          have hsz : (ByteArray.mk ((b.drop t).take n).toArray).size = n := by
            show ((b.drop t).take n).toArray.size = n
            simp; omega
          rw [hsz, if_neg (by omega), if_neg (by omega), wput0, hen]
          show (pre ++ (b.take t ++ (b.drop t).take n), 0) = _
          rw [List.take_add]

theorem foldl_write (b : List UInt8) (like : List V) : ∀ (a : Nat) (out : List V), a ≤ b.length → out.foldl wstep ([], 0) = (b.take a, 0) →
    (like.foldl (rdstep b) (out, a, 0)).2.2 = 0 → (like.foldl (rdstep b) (out, a, 0)).1.foldl wstep ([], 0) = (b.take (like.foldl (rdstep b) (out, a, 0)).2.1, 0) := by
  induction like with
  | nil => intro a out _ h _; simpa using h
  | cons v t ih =>
    intro a out ha h he
    rw [List.foldl_cons] at he ⊢
    obtain ⟨q, hq⟩ : ∃ q, q = one v (b.drop a) := ⟨_, rfl⟩
    obtain ⟨x, s, e⟩ := q
    have hst : rdstep b (out, a, 0) v = (out ++ [x], if e ≠ 0 then a else a + s, e) := by
      unfold rdstep; simp only; rw [← hq, rat0, rerr0]; simp
    rw [hst] at he ⊢
    by_cases h0 : e = 0
    · subst h0
      obtain ⟨h1, h2⟩ := wstep_one (b.take a) (b.drop a) v x s hq.symm
      rw [List.length_drop] at h2
      have e1 : (if (0 : Nat) ≠ 0 then a else a + s) = a + s := if_neg (by omega)
      rw [e1] at he ⊢
      exact ih (a + s) (out ++ [x]) (by omega) (by rw [List.foldl_append, h, List.foldl_cons, h1, ← List.take_add]; rfl) he
    · have hkeep : ∀ (t : List V) (st : List V × Nat × Nat), st.2.2 ≠ 0 → (t.foldl (rdstep b) st).2.2 = st.2.2 := by
        intro t
        induction t with
        | nil => intro st _; rfl
        | cons y t ih2 =>
          intro st hs
          have : (rdstep b st y).2.2 = st.2.2 := by unfold rdstep; simp only; rw [rerr1 _ hs]
          rw [List.foldl_cons, ih2 _ (by rw [this]; exact hs), this]
      rw [hkeep t _ h0] at he
      exact absurd he h0
end Go.Proofs.Ytfjigooahdfbpaa
