/- object: the reference's Parse as a plain function, and that it is Parse; encodings. No program. -/
import Derived.Test.YtcdjmkfpclmbdaaGreatDoorOMath
import Derived.Test.YtcdjmkfpclmbdaaGreatDoorOCa
set_option linter.unusedVariables false
namespace Go.Proofs.YtcdjmkfpclmbdaaGreatDoor
open Go.RowKit

def cut2 (a b : UInt8) (s : List UInt8) : List UInt8 × List UInt8 := (s.takeWhile (fun c => c != a && c != b), (s.dropWhile (fun c => c != a && c != b)).drop 1)
theorem cut2_same (a : UInt8) (s : List UInt8) : cut2 a a s = cutC a s := by
  unfold cut2 cutC
  have e : (fun c : UInt8 => c != a && c != a) = (· != a) := by funext c; cases (c != a) <;> rfl
  rw [e]
theorem cut2_app {a b : UInt8} {x r : List UInt8} (ha : a ∉ x) (hb : b ∉ x) (hr : ∀ c q, r = c :: q → c = a ∨ c = b) : cut2 a b (x ++ r) = (x, r.drop 1) := by
  have h := tw_app (p := fun c => c != a && c != b) (a := x) (r := r)
    (fun d hd => by
      simp only [Bool.and_eq_true, bne_iff_ne]
      exact ⟨by rintro rfl; exact ha hd, by rintro rfl; exact hb hd⟩)
    (fun d q e => by
      rcases hr d q e with rfl | rfl <;> simp)
  unfold cut2
  rw [h.1, h.2]
def refNumF : List UInt8 → Nat → Int
  | [], n => n
  | c :: r, n => if isD c = true ∧ n ≤ 1073741824 then refNumF r (stepD n c) else -1
def refNum (s : List UInt8) : Int := refNumF s 0
theorem refNumF_fold : ∀ (ds : List UInt8) (acc : Nat), (∀ d ∈ ds, isD d = true) → ds.foldl stepD acc ≤ 1073741824 → refNumF ds acc = (ds.foldl stepD acc : Nat)
  | [], _, _, _ => rfl
  | c :: r, acc, hd, hb => by
    have hc := hd c (by simp)
    rw [List.foldl_cons] at hb ⊢
    have hge := fold_ge r (stepD acc c)
    have e : acc ≤ stepD acc c := by unfold stepD; omega
    rw [refNumF, if_pos ⟨hc, by omega⟩]
    exact refNumF_fold r _ (fun d h => hd d (by simp [h])) hb
theorem refNum_dec (n : Nat) (hn : n ≤ 1073741824) : refNum (dec n) = (n : Int) := by
  have hv := dec_val n
  have := refNumF_fold (dec n) 0 (dec_digits n) (by rw [hv]; omega)
  rw [hv] at this
  exact this
def rr1 (k : Nat) (r : List UInt8) : List UInt8 × List UInt8 := if ownN k then (if (cut2 32 35 r).1 = [48] then [] else (cut2 32 35 r).1, (cut2 32 35 r).2) else ([], r)
def rr2 (b : Bool) (r : List UInt8) : Int × List UInt8 := if b then (refNum (cut2 32 32 r).1, (cut2 32 32 r).2) else (0, r)
def refReadK (k : Nat) (r : List UInt8) : Nm :=
  ⟨k, (rr1 k r).1, (rr2 (numN k) (rr1 k r).2).1, (rr2 (idxN k) (rr2 (numN k) (rr1 k r).2).2).1, if txtN k then (rr2 (idxN k) (rr2 (numN k) (rr1 k r).2).2).2 else []⟩
def refReadN (s : List UInt8) : Nm := refReadK (kindOf (cut2 32 32 s).1) (cut2 32 32 s).2
def refParseN (s : List UInt8) : Nm × Nat := if s = [] ∨ textN (refReadN s) ≠ s then (⟨0, [], 0, 0, []⟩, 3) else (refReadN s, 0)

theorem rr2_num {b : Bool} {n : Nat} {m : UInt8} {r : List UInt8} (hr : Begins (· == 32) r) (h0 : b = false → n = 0) (hn : n ≤ 1073741824) (s : List UInt8) (hs : s = if b then m :: (dec n ++ r) else r) : rr2 b (s.drop 1) = ((n : Int), r.drop 1) := by
  subst hs
  cases b
  · rw [h0 rfl]; rfl
  · unfold rr2
    simp only [if_true, List.drop_succ_cons, List.drop_zero]
    rw [cut2_same, cutC_app (dec_no n (by decide)) hr, refNum_dec n hn]
theorem t2_c (k n i : Nat) (t : List UInt8) : ∀ c q, t2 k n i t = c :: q → c = 32 ∨ c = 35 := fun c q e => by
  have h := t2_b k n i t c q e
  simp only [beq_iff_eq] at h
  subst h
  unfold markN
  split
  · split
    · exact .inr rfl
    · exact .inl rfl
  · exact .inl rfl
theorem rr1_own {k : Nat} {o : List UInt8} {n i : Nat} {t : List UInt8} (h : Vn k o n i t) : rr1 k ((t1 k o n i t).drop 1) = (o, (t2 k n i t).drop 1) := by
  unfold rr1 t1
  by_cases ho : ownN k = true
  · rw [if_pos ho, if_pos ho]
    simp only [List.drop_succ_cons, List.drop_zero]
    have hc : cut2 32 35 (ownerT o ++ t2 k n i t) = (ownerT o, (t2 k n i t).drop 1) :=
      cut2_app (ownerT_no h.ov (by decide) (by decide)) (ownerT_no h.ov (by decide) (by decide)) (t2_c k n i t)
    rw [hc]
    simp only [ownerT_back h.ov]
  · rw [if_neg ho, if_neg ho, h.o0 (by simpa using ho)]
theorem refRead_text {k : Nat} {o : List UInt8} {n i : Nat} {t : List UInt8} (h : Vn k o n i t) : refReadN (nameT k o n i t) = ⟨k, o, n, i, t⟩ := by
  have hm := most_le k
  unfold refReadN nameT
  rw [cut2_same, cutC_app (words_plain k (by have := h.k2; omega)) (t1_b k o n i t)]
  simp only [kindOf_word h.k1 h.k2]
  unfold refReadK
  rw [rr1_own h]
  simp only []
  rw [rr2_num (b := numN k) (n := n) (m := markN k) (t3_b k i t) h.n0 h.nb (t2 k n i t) rfl]
  simp only []
  rw [rr2_num (b := idxN k) (n := i) (m := 32) (t4_b k t) h.i0 (by have := h.ib; omega) (t3 k i t) rfl]
  simp only []
  have e : (if txtN k = true then (t4 k t).drop 1 else []) = t := by
    unfold t4
    by_cases ht : txtN k = true
    · rw [if_pos ht, if_pos ht]; rfl
    · rw [if_neg ht, h.t0 (by simpa using ht)]
  rw [e]
theorem textN_ne {x : Nm} {s : List UInt8} (hs : s ≠ []) (h : textN x = s) : checkN x = 0 := by
  unfold textN at h
  split at h
  · assumption
  · exact absurd h.symm hs
/-- Both parse alike. -/
theorem parse_eq (s : List UInt8) : refParseN s = parseN s := by
  by_cases hx : ∃ k o n i t, Vn k o n i t ∧ nameT k o n i t = s
  · obtain ⟨k, o, n, i, t, hv, rfl⟩ := hx
    rw [parse_text hv]
    unfold refParseN
    rw [refRead_text hv, textN_vn hv, if_neg]
    rintro (h | h)
    · exact nameT_ne hv.k1 hv.k2 h
    · exact h rfl
  · have no : ∀ x : Nm, checkN x = 0 → textN x ≠ s := fun x h0 h1 => by
      obtain ⟨k, n, i, e, hv⟩ := check_vn h0
      refine hx ⟨k, x.owner, n, i, x.text, hv, ?_⟩
      rw [← h1, e, textN_vn hv]
    have h1 : parseN s = (⟨0, [], 0, 0, []⟩, 3) := by
      unfold parseN; rw [if_neg]; rintro ⟨h, h'⟩; exact no _ h h'
    rw [h1]
    unfold refParseN
    rw [if_pos]
    by_cases hs : s = []
    · exact .inl hs
    · exact .inr fun h => no _ (textN_ne hs h) h

/-! ### Encodings -/
def encO (b : Bool) (o r : List UInt8) : List UInt8 := if b then Cod.enc o.length ++ (o ++ r) else r
def encI (b : Bool) (n : Nat) (r : List UInt8) : List UInt8 := if b then Cod.enc n ++ r else r
/-- A name's encoding, and what follows it. -/
def encR (k : Nat) (o : List UInt8) (n i : Nat) (t r : List UInt8) : List UInt8 := Cod.enc k ++ encO (ownN k) o (encI (numN k) n (encI (idxN k) i (encO (txtN k) t r)))
def encT (k : Nat) (o : List UInt8) (n i : Nat) (t : List UInt8) : List UInt8 := encR k o n i t []
theorem encO_app (b : Bool) (o r s : List UInt8) : encO b o r ++ s = encO b o (r ++ s) := by unfold encO; split <;> simp
theorem encI_app (b : Bool) (n : Nat) (r s : List UInt8) : encI b n r ++ s = encI b n (r ++ s) := by unfold encI; split <;> simp
theorem encT_app (k : Nat) (o : List UInt8) (n i : Nat) (t r : List UInt8) : encT k o n i t ++ r = encR k o n i t r := by
  unfold encT encR
  rw [List.append_assoc, encO_app, encI_app, encI_app, encO_app, List.nil_append]
theorem enc_inj {a b : Nat} {x y : List UInt8} (ha : a < 18446744073709551616) (hb : b < 18446744073709551616) (h : Cod.enc a ++ x = Cod.enc b ++ y) : a = b ∧ x = y := by
  have h1 := Cod.grp_enc a x 10 (Cod.enc_len10 ha) ha
  have h2 := Cod.grp_enc b y 10 (Cod.enc_len10 hb) hb
  rw [h, h2] at h1
  obtain rfl : a = b := (congrArg (·.1) h1).symm
  exact ⟨rfl, List.append_cancel_left h⟩
theorem encO_inj {b : Bool} {o p x y : List UInt8} (ho : o.length ≤ 1000000000) (hp : p.length ≤ 1000000000) (e1 : b = false → o = []) (e2 : b = false → p = []) (h : encO b o x = encO b p y) : o = p ∧ x = y := by
  cases b
  · rw [e1 rfl, e2 rfl] at *; exact ⟨rfl, h⟩
  · obtain ⟨hl, h2⟩ := enc_inj (by omega) (by omega) (show Cod.enc o.length ++ (o ++ x) = Cod.enc p.length ++ (p ++ y) from h)
    exact List.append_inj h2 hl
theorem encI_inj {b : Bool} {n m : Nat} {x y : List UInt8} (hn : n ≤ 1073741824) (hm : m ≤ 1073741824) (e1 : b = false → n = 0) (e2 : b = false → m = 0) (h : encI b n x = encI b m y) : n = m ∧ x = y := by
  cases b
  · rw [e1 rfl, e2 rfl] at *; exact ⟨rfl, h⟩
  · exact enc_inj (by omega) (by omega) (show Cod.enc n ++ x = Cod.enc m ++ y from h)
/-- No encoding is the beginning of another one. -/
theorem encR_inj {k k' n n' i i' : Nat} {o o' t t' r r' : List UInt8} (h : Vn k o n i t) (h' : Vn k' o' n' i' t') (lo : o.length ≤ 1000000000) (lo' : o'.length ≤ 1000000000) (lt : t.length ≤ 1000000000) (lt' : t'.length ≤ 1000000000)
    (e : encR k o n i t r = encR k' o' n' i' t' r') : k = k' ∧ o = o' ∧ n = n' ∧ i = i' ∧ t = t' ∧ r = r' := by
  have hm := most_le k
  have hm' := most_le k'
  unfold encR at e
  obtain ⟨rfl, e1⟩ := enc_inj (by have := h.k2; omega) (by have := h'.k2; omega) e
  clear e
  obtain ⟨rfl, e2⟩ := encO_inj lo lo' h.o0 h'.o0 e1
  clear e1
  obtain ⟨rfl, e3⟩ := encI_inj h.nb h'.nb h.n0 h'.n0 e2
  clear e2
  obtain ⟨rfl, e4⟩ := encI_inj (by have := h.ib; omega) (by have := h'.ib; omega) h.i0 h'.i0 e3
  clear e3
  obtain ⟨rfl, e5⟩ := encO_inj lt lt' h.t0 h'.t0 e4
  exact ⟨rfl, rfl, rfl, rfl, rfl, e5⟩
end Go.Proofs.YtcdjmkfpclmbdaaGreatDoor
