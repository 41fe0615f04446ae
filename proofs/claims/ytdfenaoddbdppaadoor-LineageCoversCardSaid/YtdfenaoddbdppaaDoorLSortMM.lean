/- lineage: sorted lists of names without doubles: what the two sorts agree on. Plain lemmas. lineage: the tops of an ascending list: what both Tops agree on. Plain lemmas. -/
import Derived.Test.YtdfenaoddbdppaaDoorLOrder
import Derived.Test.YtdfenaoddbdppaaDoorLStrsA
import Derived.Test.YtdfenaoddbdppaaDoorLCommons
import Derived.Test.YtdfenaoddbdppaaDoorLWithin
set_option linter.unusedVariables false
namespace Go.Proofs.YtdfenaoddbdppaaDoor
open Go.RowKit

def ltB (s t : ByteArray) : Prop := compareB s.data.toList t.data.toList < 0
instance (s t : ByteArray) : Decidable (ltB s t) := by unfold ltB; infer_instance
theorem ltB_irrefl (s : ByteArray) : ¬ ltB s s := by
  have : compareB s.data.toList s.data.toList = 0 := (cmpB_zero _ _).2 rfl
  unfold ltB; omega
theorem ltB_trans {s t u : ByteArray} (h1 : ltB s t) (h2 : ltB t u) : ltB s u := by
  unfold ltB at *
  have h3 := cmpB_trans (Int.le_of_lt h1) (Int.le_of_lt h2)
  rcases Int.lt_or_eq_of_le h3 with h | h
  · exact h
  · have e := (cmpB_zero _ _).1 h
    rw [e] at h1
    have := cmpB_neg t.data.toList u.data.toList
    omega
theorem bytes_ext {s t : ByteArray} (h : s.data.toList = t.data.toList) : s = t := by
  apply ByteArray.ext; apply Array.ext'; exact h
theorem ltB_total (s t : ByteArray) (h : ¬ ltB s t) : s = t ∨ ltB t s := by
  unfold ltB at *
  have n1 := cmpB_neg s.data.toList t.data.toList
  by_cases h0 : compareB s.data.toList t.data.toList = 0
  · exact .inl (bytes_ext ((cmpB_zero _ _).1 h0))
  · right; omega
theorem ltB_asymm {s t : ByteArray} (h1 : ltB s t) (h2 : ltB t s) : False := ltB_irrefl _ (ltB_trans h1 h2)

/-- Two ascending lists with the same members are one. -/
theorem asc_unique : ∀ {l m : List ByteArray}, l.Pairwise ltB → m.Pairwise ltB → (∀ s, s ∈ l ↔ s ∈ m) → l = m
  | [], [], _, _, _ => rfl
  | [], b :: m, _, _, h => absurd ((h b).2 (by simp)) (by simp)
  | a :: l, [], _, _, h => absurd ((h a).1 (by simp)) (by simp)
  | a :: l, b :: m, hl, hm, h => by
    rw [List.pairwise_cons] at hl hm
    have hab : a = b := by
      have ha := (h a).1 (by simp)
      have hb := (h b).2 (by simp)
      rw [List.mem_cons] at ha hb
      rcases ha with ha | ha
      · exact ha
      · rcases hb with hb | hb
        · exact hb.symm
        · exact (ltB_asymm (hm.1 a ha) (hl.1 b hb)).elim
    subst hab
    rw [asc_unique hl.2 hm.2 (fun s => ?_)]
    have hs := h s
    rw [List.mem_cons, List.mem_cons] at hs
    constructor
    · intro hsl
      rcases hs.1 (.inr hsl) with e | e
      · exact absurd (hl.1 s hsl) (by rw [e]; exact ltB_irrefl _)
      · exact e
    · intro hsm
      rcases hs.2 (.inr hsm) with e | e
      · exact absurd (hm.1 s hsm) (by rw [e]; exact ltB_irrefl _)
      · exact e

/-- The reference's insertion: the place, and the list behind it. -/
def posS (x : ByteArray) (o : List ByteArray) : Nat := (o.takeWhile fun y => decide (compareB y.data.toList x.data.toList < 0)).length
def insS (o : List ByteArray) (x : ByteArray) : List ByteArray := if o[posS x o]? = some x then o else o.take (posS x o) ++ [x] ++ o.drop (posS x o)
def sortS (l : List ByteArray) : List ByteArray := l.foldl insS []

theorem posS_le (x : ByteArray) (o : List ByteArray) : posS x o ≤ o.length := (List.takeWhile_prefix _).length_le
theorem posS_cons (x y : ByteArray) (o : List ByteArray) : posS x (y :: o) = if compareB y.data.toList x.data.toList < 0 then posS x o + 1 else 0 := by
  unfold posS
  rw [List.takeWhile_cons]
  by_cases h : compareB y.data.toList x.data.toList < 0
  · simp [h]
  · simp [h]
theorem insS_cons (x y : ByteArray) (o : List ByteArray) : insS (y :: o) x = if ltB y x then y :: insS o x else if y = x then y :: o else x :: y :: o := by
  unfold insS
  rw [posS_cons]
  by_cases h : ltB y x
  · have h' : compareB y.data.toList x.data.toList < 0 := h
    rw [if_pos h', if_pos h]
    simp only [List.getElem?_cons_succ, List.take_succ_cons, List.drop_succ_cons, List.cons_append]
    split <;> rfl
  · have h' : ¬ compareB y.data.toList x.data.toList < 0 := h
    rw [if_neg h', if_neg h]
    by_cases e : y = x
    · subst e; simp
    · rw [if_neg e]; simp [e]
theorem insS_mem (x s : ByteArray) : ∀ o : List ByteArray, s ∈ insS o x ↔ s = x ∨ s ∈ o
  | [] => by simp [insS, posS]
  | y :: o => by
    rw [insS_cons]
    split
    · rw [List.mem_cons, insS_mem x s o, List.mem_cons]
      constructor
      · rintro (h | h | h) <;> simp [h]
      · rintro (h | h | h) <;> simp [h]
    · split
      · rename_i e; subst e; simp
      · simp
theorem insS_asc (x : ByteArray) : ∀ o : List ByteArray, o.Pairwise ltB → (insS o x).Pairwise ltB
  | [], _ => by simp [insS, posS]
  | y :: o, h => by
    rw [List.pairwise_cons] at h
    rw [insS_cons]
    split
    · rename_i hyx
      rw [List.pairwise_cons]
      refine ⟨fun s hs => ?_, insS_asc x o h.2⟩
      rcases (insS_mem x s o).1 hs with e | e
      · rw [e]; exact hyx
      · exact h.1 s e
    · rename_i hyx
      split
      · rw [List.pairwise_cons]; exact h
      · rename_i hne
        have hxy : ltB x y := by
          rcases ltB_total y x hyx with e | e
          · exact absurd e hne
          · exact e
        rw [List.pairwise_cons, List.pairwise_cons]
        refine ⟨fun s hs => ?_, h.1, h.2⟩
        rcases List.mem_cons.1 hs with e | e
        · rw [e]; exact hxy
        · exact ltB_trans hxy (h.1 s e)
theorem foldl_ins (s : ByteArray) : ∀ (l o : List ByteArray), o.Pairwise ltB → (l.foldl insS o).Pairwise ltB ∧ (s ∈ l.foldl insS o ↔ s ∈ o ∨ s ∈ l)
  | [], o, h => ⟨h, by simp⟩
  | x :: l, o, h => by
    rw [List.foldl_cons]
    have := foldl_ins s l (insS o x) (insS_asc x o h)
    refine ⟨this.1, ?_⟩
    rw [this.2, insS_mem, List.mem_cons]
    constructor
    · rintro ((h | h) | h) <;> simp [h]
    · rintro (h | h | h) <;> simp [h]
theorem sortS_asc (l : List ByteArray) : (sortS l).Pairwise ltB := (foldl_ins ⟨#[]⟩ l [] List.Pairwise.nil).1
theorem sortS_mem (l : List ByteArray) (s : ByteArray) : s ∈ sortS l ↔ s ∈ l := by
  have := (foldl_ins s l [] List.Pairwise.nil).2
  unfold sortS; rw [this]; simp
theorem sortS_unique {l m : List ByteArray} (h : m.Pairwise ltB) (hm : ∀ s, s ∈ m ↔ s ∈ l) : m = sortS l :=
  asc_unique h (sortS_asc l) (fun s => by rw [hm, sortS_mem])
theorem sortS_step {l : List ByteArray} {k : Nat} {x : ByteArray} (h : l[k]? = some x) : sortS (l.take (k + 1)) = insS (sortS (l.take k)) x := by
  unfold sortS
  rw [take_step h, List.foldl_append]; rfl
theorem sortS_length_le (l : List ByteArray) : (sortS l).length ≤ l.length := by
  have : ∀ (l o : List ByteArray), (l.foldl insS o).length ≤ o.length + l.length := by
    intro l
    induction l with
    | nil => intro o; simp
    | cons x l ih =>
      intro o
      rw [List.foldl_cons, List.length_cons]
      have h1 := ih (insS o x)
      have h2 : (insS o x).length ≤ o.length + 1 := by
        unfold insS
        split
        · omega
        · simp; omega
      omega
  have := this l []
  simpa [sortS] using this
end Go.Proofs.YtdfenaoddbdppaaDoor

namespace Go.Proofs.YtdfenaoddbdppaaDoor
open Go.RowKit

def inB (x y : ByteArray) : Bool := withinB x.data.toList y.data.toList
/-- The reference's: what is within no other one. -/
def topsS (s : List ByteArray) : List ByteArray := s.filter fun x => s.all fun y => decide (y = x) || !inB x y
/-- The program's: what is not within the last top. -/
def topF (o : List ByteArray) (n : ByteArray) : List ByteArray := match o.getLast? with
  | none => o ++ [n]
  | some t => if inB n t then o else o ++ [n]
def topsF (s : List ByteArray) : List ByteArray := s.foldl topF []

theorem in_trans {x y z : ByteArray} (h1 : inB x y = true) (h2 : inB y z = true) : inB x z = true := within_trans h1 h2
theorem in_le {x y : ByteArray} (h : inB x y = true) : ¬ ltB x y := by
  have h1 := cmpB_within h
  have := cmpB_neg y.data.toList x.data.toList
  unfold ltB; omega
theorem in_between {y t n : ByteArray} (h : inB n y = true) (h1 : ltB y t) (h2 : ltB t n) : inB t y = true := by
  obtain ⟨a1, a2, a3⟩ := within_iff.1 h
  have hb := cmpB_between a2 a1 (Int.le_of_lt h1) (Int.le_of_lt h2)
  obtain ⟨b1, b2, b3⟩ := within_iff.1 hb
  refine within_iff.2 ⟨b1, a2, ?_⟩
  rw [com_parse, shared_comm, (shared_prefix _ _).2 a3, List.take_length] at b3
  exact b3
theorem last_asc {o : List ByteArray} {t y : ByteArray} (ho : o.Pairwise ltB) (ht : o.getLast? = some t) (hy : y ∈ o) : y = t ∨ ltB y t := by
  obtain ⟨q, rfl⟩ := List.getLast?_eq_some_iff.1 ht
  rw [List.pairwise_append] at ho
  rcases List.mem_append.1 hy with h | h
  · exact .inr (ho.2.2 y h t (by simp))
  · simp at h; exact .inl h
theorem find_top {p : List ByteArray} {n z : ByteArray} (hp : p.Pairwise ltB) (hf : p.find? (fun y => inB n y) = some z) : z ∈ topsS p := by
  obtain ⟨hz, us, bs, rfl, has⟩ := List.find?_eq_some_iff_append.1 hf
  have hz' : inB n z = true := by simpa using hz
  refine List.mem_filter.2 ⟨by simp, List.all_eq_true.2 fun y hy => ?_⟩
  by_cases e : y = z
  · simp [e]
  · cases hb : inB z y with
    | false => simp
    | true =>
      have h1 := in_trans hz' hb
      rw [List.pairwise_append, List.pairwise_cons] at hp
      rcases List.mem_append.1 hy with h | h
      · have := has y h; simp [h1] at this
      · rcases List.mem_cons.1 h with h | h
        · exact absurd h e
        · exact absurd (hp.2.1.1 y h) (in_le hb)
theorem tops_step {p : List ByteArray} {n : ByteArray} (hp : (p ++ [n]).Pairwise ltB) (h : topsF p = topsS p) : topsF (p ++ [n]) = topsS (p ++ [n]) := by
  have hpp : p.Pairwise ltB := (List.pairwise_append.1 hp).1
  have hpn : ∀ x ∈ p, ltB x n := fun x hx => (List.pairwise_append.1 hp).2.2 x hx n (by simp)
  have e1 : topsF (p ++ [n]) = topF (topsS p) n := by
    unfold topsF at *
    rw [List.foldl_append, h]; rfl
  have e2 : topsS (p ++ [n]) = topsS p ++ (if (p.all fun y => !inB n y) = true then [n] else []) := by
    unfold topsS
    rw [List.filter_append]
    congr 1
    · refine List.filter_congr fun x hx => ?_
      rw [List.all_append]
      have : inB x n = false := by
        cases hb : inB x n with
        | false => rfl
        | true => exact absurd (hpn x hx) (in_le hb)
      simp [this]
    · have : ((p ++ [n]).all fun y => decide (y = n) || !inB n y) = (p.all fun y => !inB n y) := by
        rw [List.all_append]
        have e : (p.all fun y => decide (y = n) || !inB n y) = (p.all fun y => !inB n y) := by
          rw [Bool.eq_iff_iff, List.all_eq_true, List.all_eq_true]
          constructor
          · intro hh y hy
            have := hh y hy
            have hne : y ≠ n := fun e => ltB_irrefl n (by have := hpn y hy; rwa [e] at this)
            simpa [hne] using this
          · intro hh y hy
            have := hh y hy
            simp at this ⊢; right; exact this
        rw [e]; simp
      rw [List.filter_cons, this]
      rfl
  rw [e1, e2]
  unfold topF
  cases hl : (topsS p).getLast? with
  | none =>
    have he : topsS p = [] := List.getLast?_eq_none_iff.1 hl
    have hn : (p.all fun y => !inB n y) = true := by
      rw [List.all_eq_true]
      intro y hy
      cases hb : inB n y with
      | false => rfl
      | true =>
        cases hf : p.find? (fun y => inB n y) with
        | none => have := List.find?_eq_none.1 hf y hy; exact absurd hb this
        | some z =>
          have hz := find_top hpp hf
          rw [he] at hz; cases hz
    simp [hn]
  | some t =>
    have htm : t ∈ topsS p := List.mem_of_getLast? hl
    have htp : t ∈ p := (List.mem_filter.1 htm).1
    by_cases hb : inB n t = true
    · have hn : ¬ (p.all fun y => !inB n y) = true := by
        rw [List.all_eq_true]; intro hh; have := hh t htp; rw [hb] at this; cases this
      simp only [hb, if_true]
      rw [if_neg hn, List.append_nil]
    · have hn : (p.all fun y => !inB n y) = true := by
        rw [List.all_eq_true]
        intro y hy
        cases hy2 : inB n y with
        | false => rfl
        | true =>
          cases hf : p.find? (fun y => inB n y) with
          | none => have := List.find?_eq_none.1 hf y hy; exact absurd hy2 this
          | some z =>
            have hz := find_top hpp hf
            have hzn : inB n z = true := by have := List.find?_some hf; simpa using this
            have hza : (topsS p).Pairwise ltB := hpp.sublist List.filter_sublist
            rcases last_asc hza hl hz with e | e
            · rw [e] at hzn; exact absurd hzn hb
            · have h1 := in_between hzn e (hpn t htp)
              have h2 := (List.mem_filter.1 htm).2
              rw [List.all_eq_true] at h2
              have h3 := h2 z (List.mem_filter.1 hz).1
              have hne : z ≠ t := fun e' => ltB_irrefl t (by rwa [e'] at e)
              simp [hne, h1] at h3
      have hb' : inB n t = false := by simpa using hb
      simp [hn, hb']
theorem tops_eq : ∀ (k : Nat) (s : List ByteArray), s.Pairwise ltB → topsF (s.take k) = topsS (s.take k)
  | 0, s, _ => by simp [topsF, topsS]
  | k + 1, s, hs => by
    by_cases hk : k < s.length
    · rw [take_step (List.getElem?_eq_getElem hk)]
      refine tops_step ?_ (tops_eq k s hs)
      rw [← take_step (List.getElem?_eq_getElem hk)]
      exact hs.sublist (List.take_sublist _ _)
    · rw [List.take_of_length_le (by omega), ← List.take_of_length_le (show s.length ≤ k by omega)]
      exact tops_eq k s hs
end Go.Proofs.YtdfenaoddbdppaaDoor
