/- Ascending lists without doubles over an order given by a three-way comparison: what a sort that drops doubles and an insertion sort agree on. Plain lemmas, no program. -/
import Derived.Test.YtcdjmkfpclmbdaaGreatDoorQList
set_option linter.unusedVariables false
namespace Go.Proofs.YtcdjmkfpclmbdaaGreatDoor

/-- A three-way comparison that orders. -/
structure Cmp3 {α : Type} (c : α → α → Int) : Prop where
  zero : ∀ x y, c x y = 0 ↔ x = y
  neg : ∀ x y, c y x = - c x y
  trans : ∀ x y z, c x y ≤ 0 → c y z ≤ 0 → c x z ≤ 0

section
variable {α : Type} {c : α → α → Int}
def ltC (c : α → α → Int) (x y : α) : Prop := c x y < 0
theorem ltC_irrefl (h : Cmp3 c) (x : α) : ¬ ltC c x x := by
  have := (h.zero x x).2 rfl
  unfold ltC; omega
theorem ltC_trans (h : Cmp3 c) {x y z : α} (h1 : ltC c x y) (h2 : ltC c y z) : ltC c x z := by
  unfold ltC at *
  have h3 := h.trans x y z (Int.le_of_lt h1) (Int.le_of_lt h2)
  rcases Int.lt_or_eq_of_le h3 with h' | h'
  · exact h'
  · have e := (h.zero x z).1 h'
    subst e
    have := h.neg x y
    omega
theorem ltC_total (h : Cmp3 c) (x y : α) (h1 : ¬ ltC c x y) : x = y ∨ ltC c y x := by
  unfold ltC at *
  have n := h.neg x y
  by_cases h0 : c x y = 0
  · exact .inl ((h.zero x y).1 h0)
  · exact .inr (by omega)
theorem ltC_asymm (h : Cmp3 c) {x y : α} (h1 : ltC c x y) (h2 : ltC c y x) : False := ltC_irrefl h _ (ltC_trans h h1 h2)

/-- Two ascending lists with the same elements are one. -/
theorem asc_one (h : Cmp3 c) : ∀ {l m : List α}, l.Pairwise (ltC c) → m.Pairwise (ltC c) → (∀ s, s ∈ l ↔ s ∈ m) → l = m
  | [], [], _, _, _ => rfl
  | [], y :: m, _, _, hs => by have := (hs y).2 (by simp); simp at this
  | x :: l, [], _, _, hs => by have := (hs x).1 (by simp); simp at this
  | x :: l, y :: m, hl, hm, hs => by
    rw [List.pairwise_cons] at hl hm
    have exy : x = y := by
      have h1 := (hs x).1 (by simp)
      have h2 := (hs y).2 (by simp)
      rcases List.mem_cons.1 h1 with e | hx
      · exact e
      · rcases List.mem_cons.1 h2 with e | hy
        · exact e.symm
        · exact (ltC_asymm h (hm.1 x hx) (hl.1 y hy)).elim
    subst exy
    refine congrArg _ (asc_one h hl.2 hm.2 fun s => ?_)
    constructor
    · intro hx
      rcases List.mem_cons.1 ((hs s).1 (List.mem_cons_of_mem _ hx)) with e | hy
      · subst e; exact (ltC_irrefl h _ (hl.1 _ hx)).elim
      · exact hy
    · intro hx
      rcases List.mem_cons.1 ((hs s).2 (List.mem_cons_of_mem _ hx)) with e | hy
      · subst e; exact (ltC_irrefl h _ (hm.1 _ hx)).elim
      · exact hy

/-- An element is inserted, unless it is there. -/
def insC (c : α → α → Int) (x : α) : List α → List α
  | [] => [x]
  | y :: r => if c y x < 0 then y :: insC c x r else if c y x = 0 then y :: r else x :: y :: r
theorem insC_mem (h : Cmp3 c) (x s : α) : ∀ o : List α, s ∈ insC c x o ↔ s = x ∨ s ∈ o
  | [] => by simp [insC]
  | y :: r => by
    rw [insC]
    split
    · rw [List.mem_cons, insC_mem h x s r, List.mem_cons]
      constructor
      · rintro (h | h | h) <;> simp [h]
      · rintro (h | h | h) <;> simp [h]
    · split
      · rename_i h0
        have e := (h.zero y x).1 h0
        subst e
        rw [List.mem_cons]
        constructor
        · intro h'; exact .inr h'
        · rintro (h' | h')
          · exact .inl h'
          · exact h'
      · rw [List.mem_cons]
theorem insC_asc (h : Cmp3 c) (x : α) : ∀ o : List α, o.Pairwise (ltC c) → (insC c x o).Pairwise (ltC c)
  | [], _ => by simp [insC]
  | y :: r, ho => by
    rw [List.pairwise_cons] at ho
    rw [insC]
    split
    · rename_i hlt
      rw [List.pairwise_cons]
      refine ⟨fun s hs => ?_, insC_asc h x r ho.2⟩
      rcases (insC_mem h x s r).1 hs with e | hs
      · subst e; exact hlt
      · exact ho.1 s hs
    · rename_i hnl
      split
      · rw [List.pairwise_cons]; exact ho
      · rename_i hne
        have hxy : ltC c x y := by
          rcases ltC_total h y x hnl with e | e
          · exact absurd ((h.zero y x).2 e) hne
          · exact e
        rw [List.pairwise_cons, List.pairwise_cons]
        refine ⟨fun s hs => ?_, ho⟩
        rcases List.mem_cons.1 hs with e | hs
        · subst e; exact hxy
        · exact ltC_trans h hxy (ho.1 s hs)
def sortC (c : α → α → Int) (l : List α) : List α := l.foldl (fun o x => insC c x o) []
theorem foldl_insC (h : Cmp3 c) (s : α) : ∀ (l o : List α), o.Pairwise (ltC c) → (l.foldl (fun o x => insC c x o) o).Pairwise (ltC c) ∧ (s ∈ l.foldl (fun o x => insC c x o) o ↔ s ∈ o ∨ s ∈ l)
  | [], o, ho => ⟨ho, by simp⟩
  | x :: l, o, ho => by
    have ih := foldl_insC h s l (insC c x o) (insC_asc h x o ho)
    rw [List.foldl_cons]
    refine ⟨ih.1, ih.2.trans ?_⟩
    rw [insC_mem h x s o, List.mem_cons]
    constructor
    · rintro ((h | h) | h) <;> simp [h]
    · rintro (h | h | h) <;> simp [h]
theorem sortC_asc (h : Cmp3 c) [Nonempty α] (l : List α) : (sortC c l).Pairwise (ltC c) := (foldl_insC h (Classical.choice ‹_›) l [] List.Pairwise.nil).1
theorem sortC_mem (h : Cmp3 c) (l : List α) (s : α) : s ∈ sortC c l ↔ s ∈ l := by
  have := (foldl_insC h s l [] List.Pairwise.nil).2
  unfold sortC
  rw [this]; simp
theorem sortC_one (h : Cmp3 c) [Nonempty α] {l m : List α} (hm : m.Pairwise (ltC c)) (hs : ∀ s, s ∈ m ↔ s ∈ l) : m = sortC c l :=
  asc_one h hm (sortC_asc h l) fun s => (hs s).trans (sortC_mem h l s).symm
theorem take_stepC {l : List α} {k : Nat} {v : α} (h : l[k]? = some v) : l.take (k + 1) = l.take k ++ [v] := by
  rw [List.take_add_one, h]; rfl
theorem sortC_step {l : List α} {k : Nat} {x : α} (h : l[k]? = some x) : sortC c (l.take (k + 1)) = insC c x (sortC c (l.take k)) := by
  unfold sortC
  rw [take_stepC h, List.foldl_append]; rfl
theorem insC_length (x : α) : ∀ o : List α, (insC c x o).length ≤ o.length + 1
  | [] => by simp [insC]
  | y :: r => by
    rw [insC]
    have := insC_length x r
    split
    · simp; omega
    · split
      · simp
      · simp
theorem sortC_length : ∀ (l : List α), (sortC c l).length ≤ l.length := fun l => by
  have h : ∀ (l o : List α), (l.foldl (fun o x => insC c x o) o).length ≤ o.length + l.length := by
    intro l
    induction l with
    | nil => intro o; simp
    | cons x l ih =>
      intro o
      rw [List.foldl_cons]
      have h1 := ih (insC c x o)
      have h2 := insC_length (c := c) x o
      rw [List.length_cons]; omega
  have := h l []
  unfold sortC
  simpa using this
/-- How the reference inserts: behind the elements that are less. -/
def posC (c : α → α → Int) (x : α) (o : List α) : Nat := (o.takeWhile fun y => decide (c y x < 0)).length
theorem posC_le (x : α) (o : List α) : posC c x o ≤ o.length := (List.takeWhile_prefix _).length_le
theorem posC_cons (x y : α) (o : List α) : posC c x (y :: o) = if c y x < 0 then posC c x o + 1 else 0 := by
  unfold posC
  rw [List.takeWhile_cons]
  by_cases h : c y x < 0
  · rw [if_pos h, decide_eq_true h]; simp
  · rw [if_neg h, decide_eq_false h]; simp
theorem insC_same (h : Cmp3 c) (x : α) : ∀ o : List α, o[posC c x o]? = some x → insC c x o = o
  | [], e => by simp at e
  | y :: r, e => by
    rw [insC]
    rw [posC_cons] at e
    split
    · rename_i hlt
      rw [if_pos hlt, List.getElem?_cons_succ] at e
      rw [insC_same h x r e]
    · rename_i hnl
      rw [if_neg hnl] at e
      simp at e
      subst e
      rw [if_pos ((h.zero _ _).2 rfl)]
theorem insC_new (h : Cmp3 c) (x : α) : ∀ o : List α, o[posC c x o]? ≠ some x → insC c x o = o.take (posC c x o) ++ [x] ++ o.drop (posC c x o)
  | [], _ => by simp [insC, posC]
  | y :: r, e => by
    rw [insC]
    rw [posC_cons] at e ⊢
    split
    · rename_i hlt
      rw [if_pos hlt, List.getElem?_cons_succ] at e
      rw [insC_new h x r e]
      simp
    · rename_i hnl
      rw [if_neg hnl] at e
      simp at e
      rw [if_neg (fun h0 => e ((h.zero _ _).1 h0))]
      simp
theorem posC_lt (x : α) : ∀ (o : List α) (k : Nat) (y : α), o[k]? = some y → k < posC c x o → c y x < 0
  | [], k, y, h, _ => by simp at h
  | z :: o, k, y, h, hk => by
    rw [posC_cons] at hk
    split at hk
    · rename_i hz
      cases k with
      | zero => simp at h; subst h; exact hz
      | succ k => exact posC_lt x o k y (by simpa using h) (by omega)
    · omega
theorem posC_ge (x : α) : ∀ (o : List α) (y : α), o[posC c x o]? = some y → ¬ c y x < 0
  | [], y, h => by simp at h
  | z :: o, y, h => by
    rw [posC_cons] at h
    split at h
    · exact posC_ge x o y (by simpa using h)
    · rename_i hz; simp at h; subst h; exact hz
theorem posC_go {x y : α} {o : List α} {k : Nat} (h : o[k]? = some y) (hk : k ≤ posC c x o) (hl : c y x < 0) : k + 1 ≤ posC c x o := by
  rcases Nat.lt_or_ge k (posC c x o) with h' | h'
  · omega
  · have e : posC c x o = k := by omega
    rw [← e] at h
    exact absurd hl (posC_ge x o y h)
theorem posC_stop {x y : α} {o : List α} {k : Nat} (h : o[k]? = some y) (hk : k ≤ posC c x o) (hl : ¬ c y x < 0) : posC c x o = k := by
  rcases Nat.lt_or_ge k (posC c x o) with h' | h'
  · exact absurd (posC_lt x o k y h h') hl
  · omega
theorem posC_end {x : α} {o : List α} {k : Nat} (hk : k ≤ posC c x o) (h : ¬ k < o.length) : posC c x o = k := by
  have := posC_le (c := c) x o
  omega

/-- The first one of each run of equal elements, for a list in order. -/
def ddC (c : α → α → Int) : List α → List α
  | [] => []
  | [x] => [x]
  | x :: y :: r => if c x y = 0 then ddC c (y :: r) else x :: ddC c (y :: r)
theorem ddC_mem (h : Cmp3 c) (s : α) : ∀ l : List α, s ∈ ddC c l ↔ s ∈ l
  | [] => by simp [ddC]
  | [x] => by simp [ddC]
  | x :: y :: r => by
    have ih := ddC_mem h s (y :: r)
    rw [ddC]
    split
    · rename_i h0
      have e := (h.zero x y).1 h0
      subst e
      rw [ih, List.mem_cons (a := s) (l := x :: r)]
      constructor
      · exact fun h1 => .inr h1
      · rintro (h1 | h1)
        · rw [h1]; exact List.mem_cons_self
        · exact h1
    · rw [List.mem_cons, ih, ← List.mem_cons]
theorem ddC_asc (h : Cmp3 c) : ∀ l : List α, l.Pairwise (fun x y => c x y ≤ 0) → (ddC c l).Pairwise (ltC c)
  | [], _ => by simp [ddC]
  | [x], _ => by simp [ddC]
  | x :: y :: r, hl => by
    have hl2 := (List.pairwise_cons.1 hl).2
    have ih := ddC_asc h (y :: r) hl2
    rw [ddC]
    split
    · exact ih
    · rename_i hne
      rw [List.pairwise_cons]
      refine ⟨fun s hs => ?_, ih⟩
      have hs2 := (ddC_mem h s (y :: r)).1 hs
      have hxs := (List.pairwise_cons.1 hl).1 s hs2
      have hxy := (List.pairwise_cons.1 hl).1 y (by simp)
      have hlt : ltC c x y := by unfold ltC; omega
      rcases List.mem_cons.1 hs2 with e | hs3
      · subst e; exact hlt
      · have hys := (List.pairwise_cons.1 hl2).1 s hs3
        unfold ltC
        rcases Int.lt_or_eq_of_le hxs with h' | h'
        · exact h'
        · have e := (h.zero x s).1 h'
          subst e
          have := h.neg x y
          unfold ltC at hlt
          omega
theorem ddC_sort (h : Cmp3 c) [Nonempty α] {l m : List α} (hm : m.Pairwise (fun x y => c x y ≤ 0)) (hs : ∀ s, s ∈ m ↔ s ∈ l) : ddC c m = sortC c l :=
  sortC_one h (ddC_asc h m hm) fun s => (ddC_mem h s m).trans (hs s)
end
end Go.Proofs.YtcdjmkfpclmbdaaGreatDoor
