/- object: decoding as plain functions: the program's, the reference's, and that they are one. No program. -/
import Derived.Test.YtcdjmkfpclmbdaaGreatDoorOEncB
import Derived.Test.YtcdjmkfpclmbdaaGreatDoorOCc
import Derived.Test.YtcdjmkfpclmbdaaGreatDoorORChk
set_option linter.unusedVariables false
namespace Go.Proofs.YtcdjmkfpclmbdaaGreatDoor
open Go.RowKit

/-- A number is read, if it is used: what it is, the rest, the error. -/
def pn (b : Bool) (m : Int) (st : List UInt8 × Nat) : Int × (List UInt8 × Nat) :=
  if b then (if st.2 ≠ 0 then (0, st) else if (Cod.pNum m st.1).2.2 ≠ 0 then (0, (st.1, (Cod.pNum m st.1).2.2)) else ((Cod.pNum m st.1).1, (st.1.drop (Cod.pNum m st.1).2.1, 0))) else (0, st)
/-- A text is read, if it is used. -/
def pt (b : Bool) (m : Int) (st : List UInt8 × Nat) : List UInt8 × (List UInt8 × Nat) :=
  if b then (if st.2 ≠ 0 then ([], st) else if (Cod.pText m st.1).2.2 ≠ 0 then ([], (st.1, (Cod.pText m st.1).2.2)) else ((Cod.pText m st.1).1, (st.1.drop (Cod.pText m st.1).2.1, 0))) else ([], st)

theorem pn_ok {b : Bool} {m : Int} {st : List UInt8 × Nat} (h : (pn b m st).2.2 = 0) : st.2 = 0 ∧ ∃ n : Nat, (pn b m st).1 = n ∧ (b = false → n = 0) ∧ (b = true → (n : Int) ≤ m) ∧ st.1 = encI b n (pn b m st).2.1 := by
  cases b
  · exact ⟨h, 0, rfl, fun _ => rfl, (fun e => by cases e), rfl⟩
  · by_cases h0 : st.2 = 0
    · have e : pn true m st = if (Cod.pNum m st.1).2.2 ≠ 0 then (0, (st.1, (Cod.pNum m st.1).2.2)) else ((Cod.pNum m st.1).1, (st.1.drop (Cod.pNum m st.1).2.1, 0)) := by
        unfold pn; rw [if_pos rfl, if_neg (by simpa using h0)]
      by_cases h1 : (Cod.pNum m st.1).2.2 = 0
      · rw [if_neg (by simpa using h1)] at e
        rw [e]
        unfold Cod.pNum at h1 ⊢
        by_cases h2 : (Cod.grp st.1 9).2.2 = 0
        · rw [if_neg (by simpa using h2)] at h1 ⊢
          by_cases h3 : m < ((Cod.grp st.1 9).1 : Int)
          · rw [if_pos h3] at h1; cases h1
          · rw [if_neg h3] at h1 ⊢
            rcases Cod.grp_cases st.1 9 with ⟨x, hx, hg⟩ | ⟨n, s, hg, hs, _, hl, he⟩
            · rw [hg] at h2; simp only at h2; omega
            · rw [hg] at h3 ⊢
              refine ⟨h0, n, rfl, (fun e => by cases e), fun _ => by simpa using h3, ?_⟩
              show st.1 = Cod.enc n ++ st.1.drop s
              rw [he, List.take_append_drop]
        · rw [if_pos h2] at h1; exact absurd h1 h2
      · rw [if_pos h1] at e
        rw [e] at h
        exact absurd h h1
    · have e : pn true m st = (0, st) := by unfold pn; rw [if_pos rfl, if_pos h0]
      rw [e] at h; exact absurd h h0
theorem pt_ok {b : Bool} {m : Int} {st : List UInt8 × Nat} (h : (pt b m st).2.2 = 0) : st.2 = 0 ∧ (b = false → (pt b m st).1 = []) ∧ st.1 = encO b (pt b m st).1 (pt b m st).2.1 := by
  cases b
  · exact ⟨h, fun _ => rfl, rfl⟩
  · by_cases h0 : st.2 = 0
    · have e : pt true m st = if (Cod.pText m st.1).2.2 ≠ 0 then ([], (st.1, (Cod.pText m st.1).2.2)) else ((Cod.pText m st.1).1, (st.1.drop (Cod.pText m st.1).2.1, 0)) := by
        unfold pt; rw [if_pos rfl, if_neg (by simpa using h0)]
      by_cases h1 : (Cod.pText m st.1).2.2 = 0
      · rw [if_neg (by simpa using h1)] at e
        rw [e]
        unfold Cod.pText at h1 ⊢
        by_cases h2 : (Cod.grp st.1 9).2.2 = 0
        · rw [if_neg (by simpa using h2)] at h1 ⊢
          by_cases h3 : m < ((Cod.grp st.1 9).1 : Int) ∨ 16777216 < (Cod.grp st.1 9).1
          · rw [if_pos h3] at h1; cases h1
          · rw [if_neg h3] at h1 ⊢
            by_cases h4 : st.1.length - (Cod.grp st.1 9).2.1 < (Cod.grp st.1 9).1
            · rw [if_pos h4] at h1; cases h1
            · rw [if_neg h4] at h1 ⊢
              rcases Cod.grp_cases st.1 9 with ⟨x, hx, hg⟩ | ⟨n, s, hg, hs, _, hl, he⟩
              · rw [hg] at h2; simp only at h2; omega
              · rw [hg] at h4 ⊢
                simp only at h4
                refine ⟨h0, (fun e => by cases e), ?_⟩
                show st.1 = Cod.enc ((st.1.drop s).take n).length ++ ((st.1.drop s).take n ++ st.1.drop (s + n))
                have e1 : ((st.1.drop s).take n).length = n := by rw [List.length_take, List.length_drop]; omega
                have e2 : (st.1.drop s).take n ++ st.1.drop (s + n) = st.1.drop s := by rw [← List.drop_drop, List.take_append_drop]
                rw [e1, he, e2, List.take_append_drop]
        · rw [if_pos h2] at h1; exact absurd h1 h2
      · rw [if_pos h1] at e
        rw [e] at h
        exact absurd h h1
    · have e : pt true m st = ([], st) := by unfold pt; rw [if_pos rfl, if_pos h0]
      rw [e] at h; exact absurd h h0
theorem grp9_enc {n : Nat} (r : List UInt8) (hn : n ≤ 1073741824) : Cod.grp (Cod.enc n ++ r) 9 = (n, (Cod.enc n).length, 0) := Cod.grp_enc n r 9 (Cod.enc_len9 (by omega)) (by omega)
theorem pn_enc {b : Bool} {m n : Nat} (r : List UInt8) (hn : n ≤ m) (hm : n ≤ 1073741824) (h0 : b = false → n = 0) : pn b m (encI b n r, 0) = ((n : Int), (r, 0)) := by
  cases b
  · rw [h0 rfl]; rfl
  · have e : Cod.pNum (m : Int) (Cod.enc n ++ r) = ((n : Int), (Cod.enc n).length, 0) := by
      unfold Cod.pNum
      rw [grp9_enc r hm, if_neg (by simp), if_neg (by simp only; omega)]
    unfold pn encI
    rw [if_pos rfl, if_neg (by simp), if_pos rfl]
    simp only [e]
    rw [if_neg (by simp)]
    simp
theorem pt_enc {b : Bool} {m : Nat} {o : List UInt8} (r : List UInt8) (hn : o.length ≤ m) (hm : m ≤ 16777216) (h0 : b = false → o = []) : pt b m (encO b o r, 0) = (o, (r, 0)) := by
  cases b
  · rw [h0 rfl]; rfl
  · have e : Cod.pText (m : Int) (Cod.enc o.length ++ (o ++ r)) = (o, (Cod.enc o.length).length + o.length, 0) := by
      unfold Cod.pText
      rw [grp9_enc (o ++ r) (by omega), if_neg (by simp), if_neg (by simp only; omega), if_neg (by simp only [List.length_append]; omega)]
      simp
    unfold pt encO
    rw [if_pos rfl, if_neg (by simp), if_pos rfl]
    simp only [e]
    rw [if_neg (by simp)]
    have e3 : (Cod.enc o.length ++ (o ++ r)).drop ((Cod.enc o.length).length + o.length) = r := by rw [← List.drop_drop]; simp
    rw [e3]

/-- What the program reads of an encoding: the name, the rest, the error. -/
def rdK (a : Int) (st : List UInt8 × Nat) : Nm × (List UInt8 × Nat) :=
  let o := pt (ownN a.toNat) 16777216 st
  let n := pn (numN a.toNat) 1073741824 o.2
  let i := pn (idxN a.toNat) (mostN a.toNat : Int) n.2
  let t := pt (txtN a.toNat) 32 i.2
  (⟨a, o.1, n.1, i.1, t.1⟩, t.2)
def rdD (s : List UInt8) : Nm × (List UInt8 × Nat) := rdK (pn true 20 (s, 0)).1 (pn true 20 (s, 0)).2
def decN (s : List UInt8) : Nm × Nat := if (rdD s).2.2 = 0 ∧ (rdD s).2.1 = [] ∧ checkN (rdD s).1 = 0 then ((rdD s).1, 0) else (⟨0, [], 0, 0, []⟩, 3)
theorem rdK_ok {a : Int} {st : List UInt8 × Nat} (h : (rdK a st).2.2 = 0) : st.2 = 0 ∧ ∃ n i : Nat, (rdK a st).1 = ⟨a, (rdK a st).1.owner, n, i, (rdK a st).1.text⟩ ∧
    st.1 = encO (ownN a.toNat) (rdK a st).1.owner (encI (numN a.toNat) n (encI (idxN a.toNat) i (encO (txtN a.toNat) (rdK a st).1.text (rdK a st).2.1))) := by
  obtain ⟨o, ho⟩ : ∃ o, o = pt (ownN a.toNat) 16777216 st := ⟨_, rfl⟩
  obtain ⟨n, hn⟩ : ∃ n, n = pn (numN a.toNat) 1073741824 o.2 := ⟨_, rfl⟩
  obtain ⟨i, hi⟩ : ∃ i, i = pn (idxN a.toNat) (mostN a.toNat : Int) n.2 := ⟨_, rfl⟩
  obtain ⟨t, ht⟩ : ∃ t, t = pt (txtN a.toNat) 32 i.2 := ⟨_, rfl⟩
  have e : rdK a st = (⟨a, o.1, n.1, i.1, t.1⟩, t.2) := by subst ht hi hn ho; rfl
  rw [e] at h ⊢
  simp only at h ⊢
  have h4 := pt_ok (b := txtN a.toNat) (m := 32) (st := i.2) (by rw [← ht]; exact h)
  rw [← ht] at h4
  have h3 := pn_ok (b := idxN a.toNat) (m := (mostN a.toNat : Int)) (st := n.2) (by rw [← hi]; exact h4.1)
  rw [← hi] at h3
  obtain ⟨z3, i', ei, _, _, q3⟩ := h3
  have h2 := pn_ok (b := numN a.toNat) (m := 1073741824) (st := o.2) (by rw [← hn]; exact z3)
  rw [← hn] at h2
  obtain ⟨z2, n', en, _, _, q2⟩ := h2
  have h1 := pt_ok (b := ownN a.toNat) (m := 16777216) (st := st) (by rw [← ho]; exact z2)
  rw [← ho] at h1
  refine ⟨h1.1, n', i', by rw [en, ei], ?_⟩
  rw [← h4.2.2, ← q3, ← q2]
  exact h1.2.2
theorem rd_ok {s : List UInt8} (h : (rdD s).2.2 = 0) : ∃ k n i : Nat, (rdD s).1 = ⟨k, (rdD s).1.owner, n, i, (rdD s).1.text⟩ ∧ s = encR k (rdD s).1.owner n i (rdD s).1.text (rdD s).2.1 := by
  unfold rdD at h ⊢
  obtain ⟨p, hp⟩ : ∃ p, p = pn true 20 (s, 0) := ⟨_, rfl⟩
  rw [← hp] at h ⊢
  obtain ⟨z1, n, i, e, q⟩ := rdK_ok h
  have h0 := pn_ok (b := true) (m := 20) (st := (s, 0)) (by rw [← hp]; exact z1)
  rw [← hp] at h0
  obtain ⟨_, k, ek, _, _, q0⟩ := h0
  refine ⟨k, n, i, by rw [e, ek], ?_⟩
  have e2 : p.1.toNat = k := by rw [ek]; exact Int.toNat_natCast k
  rw [e2] at q
  unfold encR
  rw [← q]
  exact q0
theorem dec_enc {k n i : Nat} {o t : List UInt8} (h : Vn k o n i t) (ho : o.length ≤ 16777216) : decN (encT k o n i t) = (⟨k, o, n, i, t⟩, 0) := by
  have hm := most_le k
  have ht : t.length ≤ 32 := by
    cases ht : txtN k
    · rw [h.t0 ht]; simp
    · have := h.tw ht
      unfold wordB at this
      simp only [Bool.and_eq_true, decide_eq_true_eq] at this
      exact this.1.2
  have e0 : pn true 20 (encT k o n i t, 0) = ((k : Int), (encO (ownN k) o (encI (numN k) n (encI (idxN k) i (encO (txtN k) t []))), 0)) :=
    pn_enc (b := true) (m := 20) (n := k) _ h.k2 (by have := h.k2; omega) (fun e => by cases e)
  have er : rdD (encT k o n i t) = (⟨k, o, n, i, t⟩, ([], 0)) := by
    unfold rdD
    rw [e0]
    unfold rdK
    simp only [Int.toNat_natCast]
    have e1 : pt (ownN k) 16777216 (encO (ownN k) o (encI (numN k) n (encI (idxN k) i (encO (txtN k) t []))), 0) = (o, (encI (numN k) n (encI (idxN k) i (encO (txtN k) t [])), 0)) := pt_enc (b := ownN k) (m := 16777216) (o := o) (encI (numN k) n (encI (idxN k) i (encO (txtN k) t []))) ho (Nat.le_refl _) h.o0
    have e2 : pn (numN k) 1073741824 (encI (numN k) n (encI (idxN k) i (encO (txtN k) t [])), 0) = ((n : Int), (encI (idxN k) i (encO (txtN k) t []), 0)) := pn_enc (b := numN k) (m := 1073741824) (n := n) (encI (idxN k) i (encO (txtN k) t [])) h.nb h.nb h.n0
    have e3 := pn_enc (b := idxN k) (m := mostN k) (n := i) (encO (txtN k) t []) h.ib (by have := h.ib; omega) h.i0
    have e4 : pt (txtN k) 32 (encO (txtN k) t [], 0) = (t, ([], 0)) := pt_enc (b := txtN k) (m := 32) (o := t) [] ht (by omega) h.t0
    rw [e1, e2, e3, e4]
  unfold decN
  rw [er, if_pos ⟨rfl, rfl, vn_check h⟩]
theorem dec_back {s : List UInt8} (h : (decN s).2 = 0) : checkN (decN s).1 = 0 ∧ encN (decN s).1 = s := by
  unfold decN at h ⊢
  by_cases hc : (rdD s).2.2 = 0 ∧ (rdD s).2.1 = [] ∧ checkN (rdD s).1 = 0
  · rw [if_pos hc]
    refine ⟨hc.2.2, ?_⟩
    obtain ⟨k, n, i, e, hs⟩ := rd_ok hc.1
    unfold encN
    rw [if_pos hc.2.2, e]
    simp only [Int.toNat_natCast]
    rw [hc.2.1] at hs
    exact hs.symm
  · rw [if_neg hc] at h; cases h

/-! ### The reference's -/
def tk (b : Bool) (r : List UInt8) : Int × List UInt8 := if b then (if (Cod.grp r 9).2.2 ≠ 0 then (-1, []) else (((Cod.grp r 9).1 : Int), r.drop (Cod.grp r 9).2.1)) else (0, r)
def pc (b : Bool) (r : List UInt8) : List UInt8 × List UInt8 := if b then (if (tk true r).1 < 0 ∨ ((tk true r).2.length : Int) < (tk true r).1 then ([], []) else ((tk true r).2.take (tk true r).1.toNat, (tk true r).2.drop (tk true r).1.toNat)) else ([], r)
def rfK (K : Int) (r : List UInt8) : Nm × List UInt8 :=
  let o := pc (ownI K) r
  let n := tk (numI K) o.2
  let i := tk (decide (0 ≤ mostI K)) n.2
  let t := pc (txtI K) i.2
  (⟨K, o.1, n.1, i.1, t.1⟩, t.2)
def rfD (s : List UInt8) : Nm × List UInt8 := rfK (tk true s).1 (tk true s).2
def refDecN (s : List UInt8) : Nm × Nat := if checkN (rfD s).1 = 0 ∧ encN (rfD s).1 = s ∧ (rfD s).2 = [] then ((rfD s).1, 0) else (⟨0, [], 0, 0, []⟩, 3)
theorem tk_enc {b : Bool} {n : Nat} (r : List UInt8) (hm : n ≤ 1073741824) (h0 : b = false → n = 0) : tk b (encI b n r) = ((n : Int), r) := by
  cases b
  · rw [h0 rfl]; rfl
  · unfold tk encI
    rw [if_pos rfl, if_pos rfl, grp9_enc r hm, if_neg (by simp)]
    simp
theorem pc_enc {b : Bool} {o : List UInt8} (r : List UInt8) (hm : o.length ≤ 16777216) (h0 : b = false → o = []) : pc b (encO b o r) = (o, r) := by
  cases b
  · rw [h0 rfl]; rfl
  · have e : tk true (encO true o r) = ((o.length : Int), o ++ r) := tk_enc (b := true) (n := o.length) (o ++ r) (by omega) (fun e => by cases e)
    unfold pc
    rw [if_pos rfl, e, if_neg (by simp only [List.length_append]; omega)]
    simp
theorem ref_dec_enc {k n i : Nat} {o t : List UInt8} (h : Vn k o n i t) (ho : o.length ≤ 16777216) : refDecN (encT k o n i t) = (⟨k, o, n, i, t⟩, 0) := by
  have hm := most_le k
  have h21 : k < 21 := by have := h.k2; omega
  have hmi := mostI_nat k h21
  have ht : t.length ≤ 32 := by
    cases ht : txtN k
    · rw [h.t0 ht]; simp
    · have := h.tw ht
      unfold wordB at this
      simp only [Bool.and_eq_true, decide_eq_true_eq] at this
      exact this.1.2
  have e0 : tk true (encT k o n i t) = ((k : Int), encO (ownN k) o (encI (numN k) n (encI (idxN k) i (encO (txtN k) t [])))) :=
    tk_enc (b := true) (n := k) _ (by omega) (fun e => by cases e)
  have er : rfD (encT k o n i t) = (⟨k, o, n, i, t⟩, []) := by
    unfold rfD
    rw [e0]
    unfold rfK
    simp only [ownI_nat k h21, numI_nat k h21, txtI_nat k h21, ← hmi.2]
    rw [pc_enc _ ho h.o0]
    simp only []
    rw [tk_enc _ h.nb h.n0]
    simp only []
    rw [tk_enc _ (by have := h.ib; omega) h.i0]
    simp only []
    rw [pc_enc _ (by omega) h.t0]
  unfold refDecN
  rw [er, if_pos ⟨vn_check h, encN_vn h, rfl⟩]
theorem dec_eq (s : List UInt8) (hs : s.length ≤ 16777216) : refDecN s = decN s := by
  by_cases hx : ∃ k o n i t, Vn k o n i t ∧ encT k o n i t = s
  · obtain ⟨k, o, n, i, t, hv, rfl⟩ := hx
    have ho : o.length ≤ 16777216 := by
      by_cases hb : ownN k = true
      · have e : encT k o n i t = Cod.enc k ++ (Cod.enc o.length ++ (o ++ encI (numN k) n (encI (idxN k) i (encO (txtN k) t [])))) := by
          unfold encT encR encO; rw [if_pos hb]
        rw [e] at hs
        simp only [List.length_append] at hs
        omega
      · rw [hv.o0 (by simpa using hb)]; simp
    rw [dec_enc hv ho, ref_dec_enc hv ho]
  · have no : ∀ x : Nm, checkN x = 0 → encN x ≠ s := fun x h0 h1 => by
      obtain ⟨k, n, i, e, hv⟩ := check_vn h0
      refine hx ⟨k, x.owner, n, i, x.text, hv, ?_⟩
      rw [← h1, e, encN_vn hv]
    have h1 : decN s = (⟨0, [], 0, 0, []⟩, 3) := by
      by_cases h : (rdD s).2.2 = 0 ∧ (rdD s).2.1 = [] ∧ checkN (rdD s).1 = 0
      · have hd : (decN s).2 = 0 := by unfold decN; rw [if_pos h]
        have := dec_back hd
        exact absurd this.2 (no _ this.1)
      · unfold decN; rw [if_neg h]
    rw [h1]
    unfold refDecN
    rw [if_neg]
    rintro ⟨h, h', _⟩; exact no _ h h'
theorem decN_cases (s : List UInt8) : ((decN s).2 = 0 ∧ checkN (decN s).1 = 0 ∧ encN (decN s).1 = s) ∨ decN s = (⟨0, [], 0, 0, []⟩, 3) := by
  by_cases h : (rdD s).2.2 = 0 ∧ (rdD s).2.1 = [] ∧ checkN (rdD s).1 = 0
  · have hd : (decN s).2 = 0 := by unfold decN; rw [if_pos h]
    exact .inl ⟨hd, dec_back hd⟩
  · right; unfold decN; rw [if_neg h]
end Go.Proofs.YtcdjmkfpclmbdaaGreatDoor
