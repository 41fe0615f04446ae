/- What a drawn region stands on: some arrays. Plain lemmas, no program. -/
import Derived.Test.YtedmnepilbfihaaDoorSCmpW
set_option linter.unusedVariables false
namespace Go.Proofs.YtedmnepilbfihaaDoor
open Go.RowKit

/-- Nothing below w's end has turned, and the arrays of L lie where they lie. -/
def Held (w : World) (L : List (Nat × List Value)) (W : World) : Prop := Below w.heap.size w W ∧ ∀ p ∈ L, Arr W p.1 0 p.2 ∧ p.1 < W.heap.size
section
variable {w W W' : World} {L : List (Nat × List Value)}
theorem Held.arr (h : Held w L W) {G : Nat} {cs : List Value} (hm : (G, cs) ∈ L) : Arr W G 0 cs := (h.2 _ hm).1
theorem Held.lt (h : Held w L W) {G : Nat} {cs : List Value} (hm : (G, cs) ∈ L) : G < W.heap.size := (h.2 _ hm).2
theorem Held.below (h : Held w L W) (hb : Below W.heap.size W W') : Held w L W' :=
  ⟨h.1.trans (hb.mono h.1.size), fun p hp => ⟨(h.2 p hp).1.below hb (h.2 p hp).2, Nat.lt_of_lt_of_le (h.2 p hp).2 hb.size⟩⟩
theorem Held.drew (h : Held w L W) : Held w L W.drew := h.below (Below.refl _ _).drew
theorem Held.alloc (h : Held w L W) (o : Obj) : Held w L (W.alloc o) := h.below (below_alloc0 W o (Nat.le_refl _))
theorem Held.sets (h : Held w L W) (G o : Nat) (vs : List Value) (hG : w.heap.size ≤ G) (hne : ∀ p ∈ L, p.1 ≠ G) : Held w L (W.setCells G o vs) :=
  ⟨below_setCells _ hG _ _ _ h.1, fun p hp => ⟨(h.2 p hp).1.sets_other _ _ _ (.inl (hne p hp)), by rw [size_sets]; exact (h.2 p hp).2⟩⟩
theorem Held.set (h : Held w L W) (G i : Nat) (v : Value) (hG : w.heap.size ≤ G) (hne : ∀ p ∈ L, p.1 ≠ G) : Held w L (W.setCell ⟨G, i, none⟩ v) :=
  ⟨h.1.setCell (p := ⟨G, i, none⟩) hG _, fun p hp => ⟨(h.2 p hp).1.other _ (.inl (by show G ≠ p.1; exact Ne.symm (hne p hp))), by simpa [World.setCell] using (h.2 p hp).2⟩⟩
theorem Held.sub (h : Held w L W) {L' : List (Nat × List Value)} (hs : ∀ p ∈ L', p ∈ L) : Held w L' W := ⟨h.1, fun p hp => h.2 p (hs p hp)⟩
theorem Held.ne (h : Held w L W) : ∀ p ∈ L, p.1 ≠ W.heap.size := fun p hp => by have := (h.2 p hp).2; omega
/-- A new block. -/
theorem Held.new (h : Held w L W) (cs : List Value) (z : Array Value) (hz : z = cs.toArray) (t : TypeId) : Held w ((W.heap.size, cs) :: L) (W.alloc (.cells z t)) := by
  subst hz
  refine ⟨h.1.alloc h.1.size _, fun p hp => ?_⟩
  rcases List.mem_cons.1 hp with rfl | hp
  · exact ⟨Arr.new W cs t, by simp⟩
  · exact (h.alloc _).2 p hp
/-- The first array is written over. -/
theorem Held.write {G : Nat} {cs : List Value} (h : Held w ((G, cs) :: L) W) (ds : List Value) (hG : w.heap.size ≤ G) (hl : ds.length = cs.length) (hne : ∀ p ∈ L, p.1 ≠ G) : Held w ((G, ds) :: L) (W.setCells G 0 ds) := by
  have h1 : Held w L W := h.sub fun p hp => List.mem_cons_of_mem _ hp
  have h2 := h1.sets G 0 ds hG hne
  refine ⟨h2.1, fun p hp => ?_⟩
  rcases List.mem_cons.1 hp with rfl | hp
  · exact ⟨(h.arr (List.mem_cons_self ..)).sets ds hl, by rw [size_sets]; exact h.lt (List.mem_cons_self ..)⟩
  · exact h2.2 p hp
theorem Held.write1 {G : Nat} {cs : List Value} (h : Held w ((G, cs) :: L) W) (i : Nat) (v : Value) (hG : w.heap.size ≤ G) (hi : i < cs.length) (hne : ∀ p ∈ L, p.1 ≠ G) : Held w ((G, cs.set i v) :: L) (W.setCell ⟨G, i, none⟩ v) := by
  have h1 : Held w L W := h.sub fun p hp => List.mem_cons_of_mem _ hp
  have h2 := h1.set G i v hG hne
  refine ⟨h2.1, fun p hp => ?_⟩
  rcases List.mem_cons.1 hp with rfl | hp
  · exact ⟨(h.arr (List.mem_cons_self ..)).set0 hi v, by simpa [World.setCell] using h.lt (List.mem_cons_self ..)⟩
  · exact h2.2 p hp
end
theorem Held.start (w : World) : Held w [] w := ⟨Below.refl _ _, fun _ h => by cases h⟩
theorem there_drew (W : World) (cs : List Value) (z : Array Value) (hz : z = zero32.toArray) (t : TypeId) (hl : cs.length = 32) (G : Nat) (hG : G = W.heap.size) : (W.alloc (.cells z t)).there G 0 cs.toArray.size := by
  subst hz hG
  exact (Arr.new W zero32 t).thereA cs (by rw [hl]; rfl)
end Go.Proofs.YtedmnepilbfihaaDoor
