/- object: what names are, as plain functions; their texts and how they are read. No program. -/
import Derived.Test.YtcdjmkfpclmbdaaGreatDoorOLe
import Derived.Lib.IndexMore
import Derived.Lib.AtoiAll
set_option linter.unusedVariables false
namespace Go.Proofs.YtcdjmkfpclmbdaaGreatDoor
open Go.RowKit

/-- The kinds: the word, whether Owner, Number, Index, Text are used, and the greatest index. -/
def useN : Nat → List UInt8 × Bool × Bool × Bool × Bool × Nat
  | 1 => ([112, 114, 111, 99, 101, 115, 115], true, false, false, false, 0)
  | 2 => ([114, 101, 103, 105, 115, 116, 101, 114, 115], true, false, false, false, 0)
  | 3 => ([112, 97, 103, 101], true, false, true, false, 63)
  | 4 => ([116, 97, 98, 108, 101], true, false, false, false, 0)
  | 5 => ([99, 111, 117, 110, 116, 101, 114], true, false, false, false, 0)
  | 6 => ([112, 101, 110, 100, 105, 110, 103], true, false, false, false, 0)
  | 7 => ([110, 111, 100, 101], true, true, false, false, 0)
  | 8 => ([98, 108, 111, 99, 107], true, true, true, false, 63)
  | 9 => ([101, 110, 116, 114, 121], true, true, false, true, 0)
  | 10 => ([108, 105, 115, 116, 105, 110, 103], true, true, false, false, 0)
  | 11 => ([112, 105, 112, 101], true, true, false, false, 0)
  | 12 => ([108, 111, 99, 107], true, true, false, false, 0)
  | 13 => ([116, 101, 114, 109, 105, 110, 97, 108], false, true, false, false, 0)
  | 14 => ([97, 99, 99, 111, 117, 110, 116], false, false, false, true, 0)
  | 15 => ([99, 108, 111, 99, 107], false, false, false, false, 0)
  | 16 => ([112, 111, 114, 116], false, true, false, false, 0)
  | 17 => ([98, 111, 120], false, false, false, true, 0)
  | 18 => ([111, 117, 116], true, true, true, false, 1073741824)
  | 19 => ([115, 104, 101, 108, 108], true, false, false, false, 0)
  | 20 => ([101, 112, 111, 99, 104], false, false, false, false, 0)
  | _ => ([], false, false, false, false, 0)
def wordN (k : Nat) : List UInt8 := (useN k).1
def ownN (k : Nat) : Bool := (useN k).2.1
def numN (k : Nat) : Bool := (useN k).2.2.1
def idxN (k : Nat) : Bool := (useN k).2.2.2.1
def txtN (k : Nat) : Bool := (useN k).2.2.2.2.1
def mostN (k : Nat) : Nat := (useN k).2.2.2.2.2

/-- A name's fields. -/
structure Nm where
  kind : Int
  owner : List UInt8
  num : Int
  idx : Int
  text : List UInt8

def upB (n : Int) (m : Nat) : Bool := decide (0 ≤ n) && decide (n ≤ (m : Int))
def wordC (c : UInt8) : Bool := decide (33 ≤ c.toNat) && decide (c.toNat ≤ 126) && decide (c.toNat ≠ 47)
def wordB (s : List UInt8) : Bool := decide (1 ≤ s.length) && decide (s.length ≤ 32) && s.all wordC
def othersB (k : Nat) (x : Nm) : Bool := (!ownN k && !x.owner.isEmpty) || (!numN k && x.num != 0) || (!idxN k && x.idx != 0) || (!txtN k && !x.text.isEmpty)
def checkK (k : Nat) (x : Nm) : Nat :=
  if othersB k x then 1 else if !validB x.owner then 12 else if !(upB x.num 1073741824 && upB x.idx (mostN k)) then 2 else if txtN k && !wordB x.text then 12 else 0
/-- The number of a name's first error. -/
def checkN (x : Nm) : Nat := if x.kind < 1 ∨ 20 < x.kind then 11 else checkK x.kind.toNat x

/-- A valid name. -/
structure Vn (k : Nat) (o : List UInt8) (n i : Nat) (t : List UInt8) : Prop where
  k1 : 1 ≤ k
  k2 : k ≤ 20
  o0 : ownN k = false → o = []
  n0 : numN k = false → n = 0
  i0 : idxN k = false → i = 0
  t0 : txtN k = false → t = []
  ov : validB o = true
  nb : n ≤ 1073741824
  ib : i ≤ mostN k
  tw : txtN k = true → wordB t = true

theorem validB_nil : validB [] = true := rfl
theorem upB_iff {n : Int} {m : Nat} : upB n m = true ↔ ∃ k : Nat, n = k ∧ k ≤ m := by
  unfold upB
  rw [Bool.and_eq_true, decide_eq_true_eq, decide_eq_true_eq]
  constructor
  · rintro ⟨h1, h2⟩; exact ⟨n.toNat, by omega, by omega⟩
  · rintro ⟨k, rfl, h⟩; exact ⟨by omega, by omega⟩

theorem check_vn {x : Nm} (h : checkN x = 0) : ∃ k n i : Nat, x = ⟨k, x.owner, n, i, x.text⟩ ∧ Vn k x.owner n i x.text := by
  unfold checkN at h
  split at h
  · cases h
  · rename_i hk
    obtain ⟨k, ek⟩ : ∃ k : Nat, x.kind = k := ⟨x.kind.toNat, by omega⟩
    have hk1 : x.kind.toNat = k := by omega
    rw [hk1] at h
    unfold checkK at h
    split at h
    · cases h
    · rename_i h1
      split at h
      · cases h
      · rename_i h2
        split at h
        · cases h
        · rename_i h3
          split at h
          · cases h
          · rename_i h4
            have h3' : upB x.num 1073741824 = true ∧ upB x.idx (mostN k) = true := by simpa using h3
            obtain ⟨n, en, hn⟩ := upB_iff.1 h3'.1
            obtain ⟨i, ei, hi⟩ := upB_iff.1 h3'.2
            have h1' : othersB k x = false := by simpa using h1
            unfold othersB at h1'
            rw [Bool.or_eq_false_iff, Bool.or_eq_false_iff, Bool.or_eq_false_iff] at h1'
            obtain ⟨⟨⟨a1, a2⟩, a3⟩, a4⟩ := h1'
            refine ⟨k, n, i, ?_, ⟨by omega, by omega, fun e => ?_, fun e => ?_, fun e => ?_, fun e => ?_, by simpa using h2, hn, hi, fun e => ?_⟩⟩
            · cases x; simp_all
            · rw [e] at a1; simpa using a1
            · rw [e, en] at a2; simpa using a2
            · rw [e, ei] at a3; simpa using a3
            · rw [e] at a4; simpa using a4
            · rw [e] at h4; simpa using h4

theorem vn_check {k n i : Nat} {o t : List UInt8} (h : Vn k o n i t) : checkN ⟨k, o, n, i, t⟩ = 0 := by
  unfold checkN
  have := h.k1
  have := h.k2
  rw [if_neg (by show ¬ ((k : Int) < 1 ∨ 20 < (k : Int)); omega)]
  show checkK ((k : Int).toNat) _ = 0
  rw [Int.toNat_natCast]
  unfold checkK
  have e1 : othersB k ⟨k, o, n, i, t⟩ = false := by
    unfold othersB
    cases h1 : ownN k <;> cases h2 : numN k <;> cases h3 : idxN k <;> cases h4 : txtN k <;> simp [h.o0, h.n0, h.i0, h.t0, h1, h2, h3, h4]
  have e2 : upB (n : Int) 1073741824 = true := upB_iff.2 ⟨n, rfl, h.nb⟩
  have e3 : upB (i : Int) (mostN k) = true := upB_iff.2 ⟨i, rfl, h.ib⟩
  have e4 : (txtN k && !wordB t) = false := by
    cases h4 : txtN k
    · rfl
    · simp [h.tw h4]
  simp [e1, h.ov, e2, e3, e4]

/-- A name's text. -/
def ownerT (o : List UInt8) : List UInt8 := if o = [] then [48] else o
def markN (k : Nat) : UInt8 := if ownN k then 35 else 32
def t4 (k : Nat) (t : List UInt8) : List UInt8 := if txtN k then 32 :: t else []
def t3 (k i : Nat) (t : List UInt8) : List UInt8 := if idxN k then 32 :: (dec i ++ t4 k t) else t4 k t
def t2 (k n i : Nat) (t : List UInt8) : List UInt8 := if numN k then markN k :: (dec n ++ t3 k i t) else t3 k i t
def t1 (k : Nat) (o : List UInt8) (n i : Nat) (t : List UInt8) : List UInt8 := if ownN k then 32 :: (ownerT o ++ t2 k n i t) else t2 k n i t
def nameT (k : Nat) (o : List UInt8) (n i : Nat) (t : List UInt8) : List UInt8 := wordN k ++ t1 k o n i t
def textN (x : Nm) : List UInt8 := if checkN x = 0 then nameT x.kind.toNat x.owner x.num.toNat x.idx.toNat x.text else []

/-! ### Cutting -/
def cutC (c : UInt8) (s : List UInt8) : List UInt8 × List UInt8 := (s.takeWhile (· != c), (s.dropWhile (· != c)).drop 1)
theorem isPrefix_one (c b : UInt8) (l : List UInt8) : List.isPrefixOf [c] (b :: l) = (c == b) := by simp [List.isPrefixOf]
theorem cut_one (c : UInt8) : ∀ s : List UInt8, (Lib.cut s [c]).1 = (cutC c s).1 ∧ (Lib.cut s [c]).2.1 = (cutC c s).2
  | [] => by simp [Lib.cut, Lib.index, cutC]
  | b :: l => by
    have ih := cut_one c l
    have hge := Lib.index_ge l [c]
    unfold Lib.cut at ih ⊢
    unfold Lib.index
    rw [isPrefix_one]
    by_cases hb : c = b
    · subst hb
      simp [cutC]
    · have hb1 : (c == b) = false := by simp [hb]
      have hb2 : (b != c) = true := by simp; exact fun e => hb e.symm
      rw [hb1]
      have e1 : (cutC c (b :: l)).1 = b :: (cutC c l).1 := by simp only [cutC, List.takeWhile_cons, hb2, if_true]
      have e2 : (cutC c (b :: l)).2 = (cutC c l).2 := by simp only [cutC, List.dropWhile_cons, hb2, if_true]
      rw [e1, e2]
      by_cases hi : Lib.index l [c] = -1
      · rw [if_neg (by omega)] at ih
        have e3 : (Lib.index l [c] == -1) = true := by simp [hi]
        simp only [e3, if_true, Bool.false_eq_true, if_false]
        rw [if_neg (by omega)]
        exact ⟨by rw [← ih.1], by rw [← ih.2]⟩
      · rw [if_pos (by omega)] at ih
        have e3 : (Lib.index l [c] == -1) = false := by simp [hi]
        simp only [e3, Bool.false_eq_true, if_false]
        rw [if_pos (by omega)]
        have e4 : (Lib.index l [c] + 1).toNat = (Lib.index l [c]).toNat + 1 := by omega
        refine ⟨?_, ?_⟩
        · show (b :: l).take _ = _
          rw [e4, List.take_succ_cons, ← ih.1]
        · show (b :: l).drop _ = _
          rw [e4, ← ih.2, List.length_singleton, List.drop_succ_cons]
/-- The text t begins with c, or is empty. -/
def Begins (p : UInt8 → Bool) (t : List UInt8) : Prop := ∀ c r, t = c :: r → p c = true
theorem tw_app {p : UInt8 → Bool} : ∀ {a r : List UInt8}, (∀ c ∈ a, p c = true) → (∀ c q, r = c :: q → p c = false) → (a ++ r).takeWhile p = a ∧ (a ++ r).dropWhile p = r
  | [], [], _, _ => ⟨rfl, rfl⟩
  | [], c :: q, _, h => by
    have := h c q rfl
    simp [this]
  | b :: a, r, ha, h => by
    have hb := ha b (by simp)
    have ih := tw_app (a := a) (r := r) (fun c hc => ha c (by simp [hc])) h
    simp [hb, ih.1, ih.2]
theorem cutC_app {c : UInt8} {a r : List UInt8} (ha : c ∉ a) (hr : Begins (· == c) r) : cutC c (a ++ r) = (a, r.drop 1) := by
  have h := tw_app (p := (· != c)) (a := a) (r := r) (fun d hd => by simp; rintro rfl; exact ha hd) (fun d q e => by simpa using hr d q e)
  unfold cutC
  rw [h.1, h.2]

/-! ### Reading a text -/
def kindF (w : List UInt8) : Nat → Nat → Nat
  | _, 0 => 0
  | k, f + 1 => if wordN k = w then k else kindF w (k + 1) f
def kindOf (w : List UInt8) : Nat := kindF w 1 20
theorem kindF_hit (w : List UInt8) : ∀ (f k j : Nat), k ≤ j → j < k + f → wordN j = w → (∀ i, k ≤ i → i < j → wordN i ≠ w) → kindF w k f = j
  | 0, k, j, h1, h2, _, _ => by omega
  | f + 1, k, j, h1, h2, hj, hn => by
    rw [kindF]
    by_cases e : k = j
    · subst e; rw [if_pos hj]
    · rw [if_neg (hn k (Nat.le_refl _) (by omega))]
      exact kindF_hit w f (k + 1) j (by omega) (by omega) hj fun i hi => hn i (by omega)
theorem kindF_miss (w : List UInt8) : ∀ (f k : Nat), (∀ i, k ≤ i → i < k + f → wordN i ≠ w) → kindF w k f = 0
  | 0, _, _ => rfl
  | f + 1, k, hn => by
    rw [kindF, if_neg (hn k (Nat.le_refl _) (by omega))]
    exact kindF_miss w f (k + 1) fun i hi hf => hn i (by omega) (by omega)
theorem kindF_le (w : List UInt8) : ∀ (f k : Nat), kindF w k f = 0 ∨ (k ≤ kindF w k f ∧ kindF w k f < k + f ∧ wordN (kindF w k f) = w)
  | 0, _ => .inl rfl
  | f + 1, k => by
    rw [kindF]
    split
    · rename_i h; exact .inr ⟨Nat.le_refl _, by omega, h⟩
    · rcases kindF_le w f (k + 1) with h | ⟨h1, h2, h3⟩
      · exact .inl h
      · exact .inr ⟨by omega, by omega, h3⟩
theorem kindOf_le (w : List UInt8) : kindOf w ≤ 20 := by
  rcases kindF_le w 20 1 with h | ⟨_, h, _⟩
  · unfold kindOf; omega
  · unfold kindOf; omega
theorem words_apart : ∀ k < 21, ∀ j < 21, 1 ≤ k → 1 ≤ j → wordN k = wordN j → k = j := by decide
theorem words_plain : ∀ k < 21, (32 : UInt8) ∉ wordN k := by decide
theorem words_some : ∀ k < 21, 1 ≤ k → wordN k ≠ [] := by decide
theorem kindOf_word {k : Nat} (h1 : 1 ≤ k) (h2 : k ≤ 20) : kindOf (wordN k) = k :=
  kindF_hit _ 20 1 k h1 (by omega) rfl fun i hi hik e => by
    have := words_apart i (by omega) k (by omega) hi h1 e
    omega
def atoiV (l : List UInt8) : Int := match Lib.atoiAll l with
  | .ok v => v
  | .syntax => 0
  | .range => Lib.atoiSat l
def rd1 (k : Nat) (r : List UInt8) : List UInt8 × List UInt8 :=
  if ownN k then (if (cutC (if numN k then 35 else 32) r).1 = [48] then [] else (cutC (if numN k then 35 else 32) r).1, (cutC (if numN k then 35 else 32) r).2) else ([], r)
def rd2 (b : Bool) (r : List UInt8) : Int × List UInt8 := if b then (atoiV (cutC 32 r).1, (cutC 32 r).2) else (0, r)
def readK (k : Nat) (r : List UInt8) : Nm := ⟨k, (rd1 k r).1, (rd2 (numN k) (rd1 k r).2).1, (rd2 (idxN k) (rd2 (numN k) (rd1 k r).2).2).1, (rd2 (idxN k) (rd2 (numN k) (rd1 k r).2).2).2⟩
def readN (s : List UInt8) : Nm := readK (kindOf (cutC 32 s).1) (cutC 32 s).2
/-- What Parse returns. -/
def parseN (s : List UInt8) : Nm × Nat := if checkN (readN s) = 0 ∧ textN (readN s) = s then (readN s, 0) else (⟨0, [], 0, 0, []⟩, 3)

theorem digit_plain {d c : UInt8} (h : isD d = true) (hc : isD c = false) : d ≠ c := by rintro rfl; rw [h] at hc; cases hc
theorem dec_no (n : Nat) {c : UInt8} (hc : isD c = false) : c ∉ dec n := fun h => digit_plain (dec_digits n c h) hc rfl
theorem tx_bytes : ∀ (l : List Nat), ∀ d ∈ tx l, isD d = true ∨ d = 46
  | [], d, h => by simp [tx] at h
  | [a], d, h => by rw [tx_one] at h; exact .inl (dec_digits a d h)
  | a :: b :: r, d, h => by
    rw [tx_cons] at h
    rcases List.mem_append.1 h with h | h
    · exact .inl (dec_digits a d h)
    · rcases List.mem_cons.1 h with h | h
      · exact .inr h
      · exact tx_bytes (b :: r) d h
theorem valid_bytes {o : List UInt8} (h : validB o = true) : ∀ d ∈ o, isD d = true ∨ d = 46 := by
  have h0 : (parseL o).2.2 = 0 := by simpa [validB] using h
  obtain ⟨_, _, he⟩ := parseL_text h0
  intro d hd
  rw [← he] at hd
  exact tx_bytes _ d hd
theorem valid_ne0 {o : List UInt8} (h : validB o = true) : o ≠ [48] := by rintro rfl; revert h; decide
theorem ownerT_bytes {o : List UInt8} (h : validB o = true) : ∀ d ∈ ownerT o, isD d = true ∨ d = 46 := by
  unfold ownerT
  split
  · intro d hd; simp at hd; subst hd; exact .inl rfl
  · exact valid_bytes h
theorem ownerT_no {o : List UInt8} (h : validB o = true) {c : UInt8} (hc : isD c = false) (h46 : c ≠ 46) : c ∉ ownerT o := fun hm => by
  rcases ownerT_bytes h c hm with e | e
  · rw [e] at hc; cases hc
  · exact h46 e
theorem ownerT_back {o : List UInt8} (h : validB o = true) : (if ownerT o = [48] then [] else ownerT o) = o := by
  unfold ownerT
  by_cases he : o = []
  · subst he; rfl
  · rw [if_neg he, if_neg (valid_ne0 h)]
theorem pu_fold : ∀ (ds : List UInt8) (acc : Nat), (∀ d ∈ ds, isD d = true) → ds.foldl stepD acc < 1000000000000000000 → Lib.parseUint10 acc ds = .ok (ds.foldl stepD acc)
  | [], _, _, _ => rfl
  | c :: r, acc, hd, hb => by
    have hc := hd c (by simp)
    simp only [isD, Bool.and_eq_true, decide_eq_true_eq] at hc
    rw [List.foldl_cons] at hb ⊢
    have hge := fold_ge r (stepD acc c)
    have e : stepD acc c = acc * 10 + (c.toNat - 48) := by unfold stepD; omega
    rw [Lib.parseUint10, if_pos hc, if_neg (by omega), if_neg (by omega), ← e]
    exact pu_fold r _ (fun d h => hd d (by simp [h])) hb
theorem atoiV_dec (n : Nat) (hn : n ≤ 4294967295) : atoiV (dec n) = (n : Int) := by
  have hv := dec_val n
  have h1 : Lib.parseUint10 0 (dec n) = .ok n := by
    have := pu_fold (dec n) 0 (dec_digits n) (by rw [hv]; omega)
    rw [hv] at this; exact this
  have hne := dec_ne n
  obtain ⟨c, r, hcr⟩ : ∃ c r, dec n = c :: r := by
    cases h : dec n with
    | nil => exact absurd h hne
    | cons c r => exact ⟨c, r, rfl⟩
  have hc := dec_digits n c (by rw [hcr]; simp)
  simp only [isD, Bool.and_eq_true, decide_eq_true_eq] at hc
  have h2 : Lib.parseMag (dec n) = .ok n := by unfold Lib.parseMag; rw [if_neg hne, h1]
  unfold atoiV Lib.atoiAll
  rw [hcr]
  simp only []
  rw [if_neg (show ¬ (c.toNat = 43 ∨ c.toNat = 45) by omega), ← hcr, h2]
  simp only []
  rw [if_neg (by omega), if_neg (by omega), if_neg (by omega)]

theorem t4_b (k : Nat) (t : List UInt8) : Begins (· == 32) (t4 k t) := fun c r e => by
  unfold t4 at e
  split at e
  · injection e with e _; rw [← e]; rfl
  · cases e
theorem t3_b (k i : Nat) (t : List UInt8) : Begins (· == 32) (t3 k i t) := by
  unfold t3
  split
  · intro c r e; injection e with e _; rw [← e]; rfl
  · exact t4_b k t
theorem t2_b (k n i : Nat) (t : List UInt8) : Begins (· == (if numN k then markN k else 32)) (t2 k n i t) := by
  unfold t2
  by_cases h : numN k = true
  · rw [if_pos h, if_pos h]; intro c r e; injection e with e _; rw [← e]; simp
  · rw [if_neg h, if_neg h]; exact t3_b k i t
theorem t1_b (k : Nat) (o : List UInt8) (n i : Nat) (t : List UInt8) : Begins (· == 32) (t1 k o n i t) := by
  unfold t1
  by_cases h : ownN k = true
  · rw [if_pos h]; intro c r e; injection e with e _; rw [← e]; rfl
  · rw [if_neg h]
    have h2 := t2_b k n i t
    have e : (if numN k = true then markN k else 32) = (32 : UInt8) := by unfold markN; rw [if_neg h]; split <;> rfl
    rw [e] at h2
    exact h2
theorem rd2_num {b : Bool} {n : Nat} {m : UInt8} {r : List UInt8} (hr : Begins (· == 32) r) (h0 : b = false → n = 0) (hn : n ≤ 4294967295) (s : List UInt8) (hs : s = if b then m :: (dec n ++ r) else r) : rd2 b (s.drop 1) = ((n : Int), r.drop 1) := by
  subst hs
  cases b
  · rw [h0 rfl]; rfl
  · unfold rd2
    simp only [if_true, List.drop_succ_cons, List.drop_zero]
    rw [cutC_app (dec_no n (by decide)) hr, atoiV_dec n hn]
theorem rd1_own {k : Nat} {o : List UInt8} {n i : Nat} {t : List UInt8} (h : Vn k o n i t) : rd1 k ((t1 k o n i t).drop 1) = (o, (t2 k n i t).drop 1) := by
  unfold rd1 t1
  by_cases ho : ownN k = true
  · rw [if_pos ho, if_pos ho]
    simp only [List.drop_succ_cons, List.drop_zero]
    have hb := t2_b k n i t
    have e : (if numN k = true then markN k else 32) = (if numN k = true then (35 : UInt8) else 32) := by unfold markN; rw [if_pos ho]
    rw [e] at hb
    have hc : cutC (if numN k = true then 35 else 32) (ownerT o ++ t2 k n i t) = (ownerT o, (t2 k n i t).drop 1) := by
      refine cutC_app ?_ hb
      split
      · exact ownerT_no h.ov (by decide) (by decide)
      · exact ownerT_no h.ov (by decide) (by decide)
    rw [hc]
    simp only [ownerT_back h.ov]
  · rw [if_neg ho, if_neg ho, h.o0 (by simpa using ho)]
theorem most_le (k : Nat) : mostN k ≤ 1073741824 := by
  unfold mostN useN
  split <;> simp
/-- What has a valid name's text is read as that name. -/
theorem read_text {k : Nat} {o : List UInt8} {n i : Nat} {t : List UInt8} (h : Vn k o n i t) : readN (nameT k o n i t) = ⟨k, o, n, i, t⟩ := by
  have hm := most_le k
  unfold readN nameT
  rw [cutC_app (words_plain k (by have := h.k2; omega)) (t1_b k o n i t)]
  simp only [kindOf_word h.k1 h.k2]
  unfold readK
  rw [rd1_own h]
  simp only []
  rw [rd2_num (b := numN k) (n := n) (m := markN k) (t3_b k i t) h.n0 (by have := h.nb; omega) (t2 k n i t) rfl]
  simp only []
  rw [rd2_num (b := idxN k) (n := i) (m := 32) (t4_b k t) h.i0 (by have := h.ib; omega) (t3 k i t) rfl]
  simp only []
  have e : (t4 k t).drop 1 = t := by
    unfold t4
    by_cases ht : txtN k = true
    · rw [if_pos ht]; rfl
    · rw [if_neg ht, h.t0 (by simpa using ht)]; rfl
  rw [e]
theorem nameT_ne {k : Nat} {o : List UInt8} {n i : Nat} {t : List UInt8} (h1 : 1 ≤ k) (h2 : k ≤ 20) : nameT k o n i t ≠ [] := by
  unfold nameT
  intro e
  exact words_some k (by omega) h1 (List.append_eq_nil_iff.1 e).1
theorem textN_vn {k : Nat} {o : List UInt8} {n i : Nat} {t : List UInt8} (h : Vn k o n i t) : textN ⟨k, o, n, i, t⟩ = nameT k o n i t := by
  unfold textN; rw [if_pos (vn_check h)]; rfl
theorem parse_text {k : Nat} {o : List UInt8} {n i : Nat} {t : List UInt8} (h : Vn k o n i t) : parseN (nameT k o n i t) = (⟨k, o, n, i, t⟩, 0) := by
  unfold parseN
  rw [read_text h, if_pos ⟨vn_check h, textN_vn h⟩]
theorem parse_ok {s : List UInt8} (h : (parseN s).2 = 0) : checkN (parseN s).1 = 0 ∧ textN (parseN s).1 = s := by
  unfold parseN at h ⊢
  split at h
  · rename_i hc; rw [if_pos hc]; exact hc
  · cases h
theorem parse_or (s : List UInt8) : ((parseN s).2 = 0 ∧ (parseN s).1 = readN s ∧ checkN (readN s) = 0 ∧ textN (readN s) = s) ∨ (parseN s = (⟨0, [], 0, 0, []⟩, 3) ∧ ¬ (checkN (readN s) = 0 ∧ textN (readN s) = s)) := by
  unfold parseN
  by_cases h : checkN (readN s) = 0 ∧ textN (readN s) = s
  · rw [if_pos h]; exact .inl ⟨rfl, rfl, h⟩
  · rw [if_neg h]; exact .inr ⟨rfl, h⟩
theorem parse_nil : parseN [] = (⟨0, [], 0, 0, []⟩, 3) := by
  rcases parse_or [] with ⟨_, _, h, h'⟩ | ⟨h, _⟩
  · exfalso
    obtain ⟨k, n, i, e, hv⟩ := check_vn h
    rw [e, textN_vn hv] at h'
    exact nameT_ne hv.k1 hv.k2 h'
  · exact h
end Go.Proofs.YtcdjmkfpclmbdaaGreatDoor
