/- lineage: a loop over an iterator whose elements are known beforehand: the loop's body is asked about what really comes only. A law of this seat, made from the library's laws of a round and of the statement. -/
import Derived.Test.YtdfenaoddbdppaaDoorLAt
import Derived.Deep.RegionHeld
import Derived.RangeFuncNested
import Derived.RangeFuncBound
import Derived.RangeFuncCalls
import Derived.RangeFuncLeaves
import Derived.OwnWalkIn
import Derived.TacticsInMore
import Derived.LoopNIn
import Derived.LoopIn
set_option linter.unusedVariables false
namespace Go.Proofs.YtdfenaoddbdppaaDoor
open Go.RowKit

/-- What a round leaves as it was: every cell but those of the loop's own k variables, which lie from b on. -/
def KpB (b k : Nat) (W W' : World) : Prop := W.heap.size ≤ W'.heap.size ∧ ∀ p v, ¬ (b ≤ p.block ∧ p.block < b + k) → W.cell? p = some v → W'.cell? p = some v
theorem KpB.refl (b k : Nat) (W : World) : KpB b k W W := ⟨Nat.le_refl _, fun _ _ _ h => h⟩
theorem KpB.trans {b k : Nat} {A B C : World} (h : KpB b k A B) (h' : KpB b k B C) : KpB b k A C := ⟨Nat.le_trans h.1 h'.1, fun p v hp hv => h'.2 p v hp (h.2 p v hp hv)⟩
theorem cell_lt {W : World} {p : Addr} {v : Value} (h : W.cell? p = some v) : p.block < W.heap.size := by
  obtain ⟨o, ho, _⟩ := cells_of_cell h
  exact (Array.getElem?_eq_some_iff.1 ho).1
theorem KpB.alloc {b k : Nat} {A B : World} (h : KpB b k A B) (o : Obj) : KpB b k A (B.alloc o) :=
  ⟨by have := h.1; simp; omega, fun p v hp hv => by
    have hB := h.2 p v hp hv
    exact (World.cell?_of_block (Below.heap_alloc B o p.block (cell_lt hB))).trans hB⟩
theorem KpB.setCell {b k : Nat} {A B : World} (h : KpB b k A B) {q : Addr} (hq : b ≤ q.block ∧ q.block < b + k) (u : Value) : KpB b k A (B.setCell q u) :=
  ⟨by have := (KeepsWalks.setCell B q u).size; have := h.1; omega, fun p v hp hv => by
    have hB := h.2 p v hp hv
    exact (World.cell?_of_block (Below.heap_setCell B q u p.block (fun e => hp (by rw [e]; exact hq)))).trans hB⟩
theorem KpB.drew {b k : Nat} {A B : World} (h : KpB b k A B) : KpB b k A B.drew := h
theorem KpB.putObj {b k : Nat} {W : World} {l : Nat} {o : Obj} (o' : Obj) (hl : W.heap[l]? = some o) (ho : o.isCells = false) : KpB b k W (W.putObj l o') :=
  ⟨by simp, fun p v _ hv => cell_kept hv (grownBy_putObj' W l o') (fun r e => by cases e; exact ⟨o, hl, ho⟩)⟩

/-! ### In a round of the wide fence a region is walked as everywhere. -/
theorem rowsIn_wide {n : Nat} {P : Program} {row : String} {args : Array Value} {w : World} {R : Value → World → Prop} (h : Rows P row args w R) : RowsIn Fence.wide n P row args w R := by
  intro c cs _
  obtain ⟨v, w', r, s⟩ := h c cs
  exact ⟨v, w', r, stepsIn_wide.2 s⟩
theorem oper_round {P : Program} {o : Oper} {a : Act} {w : World} {K : Act → World → Prop} {Q : Exit → Act → World → Prop} (l n : Nat) (hd : ∀ c, o.op ≠ .defer c) (h : o.wp P a w K Q) : o.wpIn (Fence.wide.inRound l) n P a w K Q := by
  unfold Oper.wpIn
  refine ⟨fun _ _ => trivial, ?_⟩
  rw [Fence.inRound_round, Oper.semAt_some l _ _ hd]
  unfold Oper.wp at h
  generalize (execOp a.eval o).run P w = r at *
  cases r with
  | ok x w' =>
    cases x with
    | value v => exact h
    | skip => exact h
    | defer d => exact h
    | enter f args =>
      refine ⟨fun h => (by cases h), CallsIn.inRound l (callsIn_wide.2 (Calls.mono h ?_))⟩
      intro e w'' he
      cases e <;> exact he
    | row r args => exact ⟨fun h => (by cases h), rowsIn_wide h⟩
    | _ => exact h.elim
  | halt x w' => cases x <;> first | exact h | exact h.elim
theorem wpAny_round {P : Program} {md : Region.Mode} {ops : Array Oper} {Q : Exit → Act → World → Prop} (l n : Nat) (hd : ∀ (i : Nat) (o : Oper), ops[i]? = some o → ∀ c, o.op ≠ .defer c) (hL : ¬ LetsOut Q) :
    ∀ (fuel : Nat) (listed : Array Bool) (a : Act) (w : World), wpAny P md ops Q fuel listed a w → wpAnyIn (Fence.wide.inRound l) n P md ops Q fuel listed a w
  | 0, _, _, _, h => h
  | fuel + 1, listed, a, w, h => by
    refine ⟨h.1, fun i hi => ?_⟩
    have h2 := h.2 i hi
    unfold wpOp at h2
    unfold wpOpIn
    cases ho : ops[i]? with
    | none =>
      rw [ho] at h2
      exact wpAny_round l n hd hL fuel _ _ _ h2
    | some o =>
      rw [ho] at h2
      simp only at h2 ⊢
      split
      · rename_i hw
        rw [if_pos hw] at h2
        rcases h2 with h2 | h2
        · exact Oper.wpIn_mono (fun a w hh => wpAny_round l n hd hL fuel _ a w hh) (oper_round l n (hd i o ho) h2)
        · exact absurd h2.2 hL
      · rename_i hw
        rw [if_neg hw] at h2
        exact ⟨fun _ _ => trivial, wpAny_round l n hd hL fuel _ _ _ h2⟩
theorem region_round {P : Program} {ops : Array Oper} {Q : Exit → Act → World → Prop} {id : Nat} {a : Act} {w : World} (l n : Nat) (hm : P.follows .mixedOrders = true) (hd : ∀ (i : Nat) (o : Oper), ops[i]? = some o → ∀ c, o.op ≠ .defer c) (hL : ¬ LetsOut Q)
    (h : wpAny P .any ops Q ops.size (Array.replicate ops.size false) a { w with drawn := w.drawn + 1 }) : (Code.region id ops true).wpIn (Fence.wide.inRound l) n P Q a w :=
  wpIn_region_any hm (wpAny_round l n hd hL _ _ _ _ h)

def plainOps (ops : Array Oper) : Bool := ops.toList.all fun o => match o.op with | .defer _ => false | _ => true
theorem region_round_held {P : Program} {ops : Array Oper} {Q : Exit → Act → World → Prop} {id : Nat} {a : Act} {w : World} {S : World → Prop} {l n : Nat} (hm : P.follows .mixedOrders = true) (hd : plainOps ops = true) (hL : ¬ LetsOut Q) (hS : S w.drew)
    (h : S w.drew → wpAnyH P .any ops Q S ops.size (Array.replicate ops.size false) a w.drew) : (Code.region id ops true).wpIn (Fence.wide.inRound l) n P Q a w := by
  refine region_round l n hm (fun i o ho c hc => ?_) hL (wpAny_of_held _ _ _ _ (h hS))
  unfold plainOps at hd
  rw [List.all_eq_true] at hd
  have := hd o (by rw [← Array.getElem?_toList] at ho; exact List.mem_of_getElem? ho)
  rw [hc] at this
  cases this

/-- The contract of an iterator that yields the elements xs in their order: what the rounds are asked, they are asked of these alone. -/
def Yields {α : Type} (P : Program) (g : Nat) (lb : Array Value) (enc : α → Value) (b k : Nat) (xs : List α) (w : World) : Prop :=
  ∀ (l : Nat) (J Jx : List α → World → Prop) (W : World), Below w.heap.size w W → AbidesFrom W.heap.size J → AbidesFrom W.heap.size Jx →
    (∀ pre x W1, (pre ++ [x]) <+: xs → J pre W1 → YieldAt Fence.wide 2 P l #[enc x] W1 fun e W' =>
      (e = .returned (.bool true) ∧ J (pre ++ [x]) W' ∧ KpB b k W1 W') ∨ (e = .returned (.bool false) ∧ Jx (pre ++ [x]) W')) →
    J [] W →
    CallsIn Fence.wide 3 P g (#[.func (.yield l) #[] #[]] ++ lb) W fun e W' => (∃ v, e = .returned v) ∧ (J xs W' ∨ ∃ pre, pre <+: xs ∧ Jx pre W')

/-- How a round's body may be left: at its end, or by a return. -/
def upPost {α : Type} (b k : Nat) (I Ix : List α → World → Prop) (xs : List α) (W : World) : Exit → Act → World → Prop
  | .normal, _, W' => KeepsOthers W W' ∧ KpB b k W W' ∧ I xs W'
  | .ret, _, W' => KeepsOthers W W' ∧ Ix xs W'
  | _, _, _ => False

theorem wpIn_upto {P : Program} {α : Type} {g : Operand} {ps : Array Tmp} {assign body : Code} {Q : Exit → Act → World → Prop} {a : Act} {w : World} {gf : Nat} {lb : Array Value}
    (hg : a.eval g = .func (.func gf) #[] lb) (eg : ∀ args w, (callFunc gf args).run P w = .ok (.enter gf args) w)
    {enc : α → Value} {b k : Nat} {xs : List α} (hbk : b + k ≤ w.heap.size) (hseq : Yields P gf lb enc b k xs w) (hps : ps.size = 1)
    (I Ix : List α → World → Prop) (hI : OwnFrom w.heap.size I) (hIx : OwnFrom w.heap.size Ix) (h0 : I [] w) (a₁ : α → Nat → Act) (o₁ : α → Obj)
    (hassign : ∀ (l : Nat) (x : α) (W : World) (K : Act → World → Prop), K (a₁ x W.heap.size) (W.alloc (o₁ x)) →
      assign.wpIn (Fence.wide.inRound l) 2 P (Exit.then K (fun _ _ _ => False)) { tmps := (ps.zip #[enc x]).foldl (fun t (p, v) => t.setIfInBounds p v) a.tmps, defers := [] } W)
    (hbody : ∀ (l G : Nat) (pre : List α) (x : α) (W : World), (pre ++ [x]) <+: xs → b + k ≤ G → W.heap[G]? = some (o₁ x) → I pre W → body.wpIn (Fence.wide.inRound l) 2 P (upPost b k I Ix (pre ++ [x]) W) (a₁ x G) W)
    (hdone : ∀ (D : Nat) (W : World), w.heap.size ≤ D → I xs W → W.heap[D]? = some (.deferred (some [])) → Q .normal { a with defers := { target := .collected D, args := #[] } :: a.defers } W)
    (hstop : ∀ (D : Nat) (pre : List α) (W : World), w.heap.size ≤ D → pre <+: xs → Ix pre W → W.heap[D]? = some (.deferred (some [])) → Code.ret.wpIn Fence.wide 4 P Q { a with defers := { target := .collected D, args := #[] } :: a.defers } W) :
    (Code.rangeFunc g ps assign body).wpIn Fence.wide 4 P Q a w := by
  refine wpIn_rangeFunc fun fn _ => ?_
  obtain ⟨B, hB⟩ : ∃ B, B = w.heap.size := ⟨_, rfl⟩
  rw [← hB] at hI hIx hdone hstop hbk
  let rec_ : LoopState → Option Code → Loop := fun st pe => { state := st, pending := pe, fn := fn, tmps := a.tmps, params := ps, assign := assign, body := body, defers := w.heap.size }
  obtain ⟨V, hV⟩ : ∃ V, V = (w.alloc (.deferred (some []))).alloc (.loop (rec_ .ready none)) := ⟨_, rfl⟩
  have hVs : V.heap.size = B + 2 := by rw [hV, hB]; simp
  have hVl : V.heap[B + 1]? = some (.loop (rec_ .ready none)) := by
    rw [hV, hB]; have := World.alloc_heap_new (w.alloc (.deferred (some []))) (.loop (rec_ .ready none)); rwa [World.size_alloc] at this
  have hVd : V.heap[B]? = some (.deferred (some [])) := by
    rw [hV, hB]; exact (Below.heap_alloc _ _ _ (by simp)).trans (World.alloc_heap_new w _)
  have hVI : I [] V := by rw [hV]; exact hI.alloc _ (hI.alloc _ h0)
  have hVb : Below w.heap.size w V := by rw [hV]; exact ((Below.refl _ w).alloc (Nat.le_refl _) _).alloc (by simp) _
  refine ⟨B + 1, [{ target := .collected B, args := #[] }], V, { target := .fn (.func gf) lb, args := #[.func (.yield (B + 1)) #[] #[]] }, V, gf, #[.func (.yield (B + 1)) #[] #[]] ++ lb, V, ?_, ?_, fun _ _ => trivial, ?_, fun _ => by omega, ?_⟩
  · rw [hV, hB]; exact run_enterLoop_outer _ _ _ _ _
  · simp only [resolve, hg]
    simp [go_sem]
  · simp [invoke, go_sem, eg]
  · have low : ∀ {A : World} {row : Option Nat}, (∀ r, row = some r → V.heap.size ≤ r ∧ ∃ o : Obj, A.heap[r]? = some o ∧ o.isWalk = true) → (∀ r, row = some r → B ≤ r ∧ ∃ o : Obj, A.heap[r]? = some o ∧ o.isCells = false) := by
      intro A row hr r e
      obtain ⟨h1, o, ho, hw⟩ := hr r e
      exact ⟨by omega, o, ho, Obj.not_cells_of_walk hw⟩
    refine (hseq (B + 1) (fun pre W => I pre W ∧ W.heap[B + 1]? = some (.loop (rec_ .ready none)) ∧ W.heap[B]? = some (.deferred (some [])))
      (fun pre W => Ix pre W ∧ W.heap[B + 1]? = some (.loop (rec_ .done (some .ret))) ∧ W.heap[B]? = some (.deferred (some []))) V hVb
      (fun s X Y row hs hg' hr => ⟨hI s X Y row hs.1 hg' (low hr), (grownBy_keeps hg' (fun r e => (hr r e).2) hs.2.1 rfl).trans hs.2.1, (grownBy_keeps hg' (fun r e => (hr r e).2) hs.2.2 rfl).trans hs.2.2⟩)
      (fun s X Y row hs hg' hr => ⟨hIx s X Y row hs.1 hg' (low hr), (grownBy_keeps hg' (fun r e => (hr r e).2) hs.2.1 rfl).trans hs.2.1, (grownBy_keeps hg' (fun r e => (hr r e).2) hs.2.2 rfl).trans hs.2.2⟩)
      ?_ ⟨hVI, hVl, hVd⟩).mono ?_
    · rintro pre x W hpx ⟨hi, hl, hd⟩
      have hy := run_yield (P := P) (args := #[enc x]) hl (by simp [rec_, hps])
      refine ⟨fn, _, assign, body, hy, roundIn_of_wpIn trivial (hassign _ x W _ ?_)⟩
      have hlt : B + 1 < W.heap.size := (Array.getElem?_eq_some_iff.1 hl).1
      have hl1 : (W.alloc (o₁ x)).heap[B + 1]? = some (.loop (rec_ .ready none)) := (Below.heap_alloc W _ _ hlt).trans hl
      have hd1 : (W.alloc (o₁ x)).heap[B]? = some (.deferred (some [])) := (Below.heap_alloc W _ _ (by omega)).trans hd
      have hG1 : (W.alloc (o₁ x)).heap[W.heap.size]? = some (o₁ x) := World.alloc_heap_new W _
      have hi1 : I pre (W.alloc (o₁ x)) := hI.alloc _ hi
      have hK1 : KpB b k W (W.alloc (o₁ x)) := (KpB.refl b k W).alloc _
      obtain ⟨G, hG⟩ : ∃ G, G = W.heap.size := ⟨_, rfl⟩
      rw [← hG] at hG1 ⊢
      obtain ⟨X, hX⟩ : ∃ X, X = W.alloc (o₁ x) := ⟨_, rfl⟩
      rw [← hX] at hl1 hd1 hG1 hi1 hK1 ⊢
      refine ⟨_, run_beginRound hl1 rfl, ?_⟩
      obtain ⟨Y, hY⟩ : ∃ Y, Y = X.putObj (B + 1) (.loop { rec_ .ready none with state := .busy }) := ⟨_, rfl⟩
      have hYl : Y.heap[B + 1]? = some (.loop { rec_ .ready none with state := .busy }) := by rw [hY]; exact World.putObj_heap_same (Array.getElem?_eq_some_iff.1 hl1).1
      have hYd : Y.heap[B]? = some (.deferred (some [])) := by rw [hY]; exact (World.putObj_heap_other (by omega)).trans hd1
      have hYG : Y.heap[G]? = some (o₁ x) := by rw [hY]; exact (World.putObj_heap_other (by omega)).trans hG1
      have hYI : I pre Y := by rw [hY]; exact hI.putObj _ hi1 (by omega) hl1 rfl
      have hYK : KpB b k W Y := by rw [hY]; exact hK1.trans (KpB.putObj _ hl1 rfl)
      show body.wpIn _ _ _ _ _ (X.putObj (B + 1) (.loop { rec_ .ready none with state := .busy }))
      rw [← hY]
      refine wpIn_mono (hbody _ G pre x Y hpx (by omega) hYG hYI) ?_
      rintro e a3 Z hp
      cases e with
      | normal =>
        obtain ⟨hz, hk, hi3⟩ := hp
        have hzl := hz.same _ _ hYl rfl
        exact ⟨_, _, run_endRound (P := P) none hzl, .inl ⟨rfl, ⟨hI.putObj _ hi3 (by omega) hzl rfl, World.putObj_heap_same (Array.getElem?_eq_some_iff.1 hzl).1, (World.putObj_heap_other (by omega)).trans (hz.same _ _ hYd rfl)⟩, (hYK.trans hk).trans (KpB.putObj _ hzl rfl)⟩⟩
      | ret =>
        obtain ⟨hz, hi3⟩ := hp
        have hzl := hz.same _ _ hYl rfl
        exact ⟨_, _, run_endRound (P := P) (some .ret) hzl, .inr ⟨rfl, hIx.putObj _ hi3 (by omega) hzl rfl, World.putObj_heap_same (Array.getElem?_eq_some_iff.1 hzl).1, (World.putObj_heap_other (by omega)).trans (hz.same _ _ hYd rfl)⟩⟩
      | exit id => exact hp.elim
      | goto t => exact hp.elim
      | panic ch => exact hp.elim
      | outgrown => exact hp.elim
    · rintro e Z ⟨⟨v, rfl⟩, ⟨hi, hl, hd⟩ | ⟨pre, hpx, hi, hl, hd⟩⟩
      · exact ⟨none, _, run_endLoop (P := P) hl (by simp [rec_]), hdone _ _ (Nat.le_refl _) (hI.putObj _ hi (by omega) hl rfl) ((World.putObj_heap_other (by omega)).trans hd)⟩
      · exact ⟨some .ret, _, run_endLoop (P := P) hl (by simp [rec_]), hstop _ pre _ (Nat.le_refl _) hpx (hIx.putObj _ hi (by omega) hl rfl) ((World.putObj_heap_other (by omega)).trans hd)⟩
end Go.Proofs.YtdfenaoddbdppaaDoor
