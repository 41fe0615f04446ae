/- lineage: the walk of the reference's Digits, by induction. lineage: the walk of the reference's Text. lineage: a loop over an iterator whose elements are known beforehand: the loop's body is asked about what really comes only. A law of this seat, made from the library's laws of a round and of the statement. lineage: the iterator of parts: which parts it yields. -/
import Derived.Test.YtcdjmkfpclmbdaaGreatDoorOLb
import Derived.Test.YtcdjmkfpclmbdaaGreatDoorOLa
import Derived.Deep.RegionHeld
import Derived.RangeFuncNested
import Derived.RangeFuncBound
import Derived.RangeFuncCalls
import Derived.RangeFuncLeaves
import Derived.OwnWalkIn
import Derived.TacticsInMore
import Derived.LoopNIn
import Derived.LoopIn
set_option linter.unusedVariables false
namespace Go.Proofs.YtcdjmkfpclmbdaaGreatDoor
open Go.RowKit

/-- A number in decimal. -/
def dec (n : Nat) : List UInt8 := if h : n < 10 then [UInt8.ofNat (48 + n)] else dec (n / 10) ++ [UInt8.ofNat (48 + n % 10)]
termination_by n
decreasing_by omega
theorem dec_small {n : Nat} (h : n < 10) : dec n = [UInt8.ofNat (48 + n)] := by rw [dec, dif_pos h]
theorem dec_big {n : Nat} (h : ¬ n < 10) : dec n = dec (n / 10) ++ [UInt8.ofNat (48 + n % 10)] := by rw [dec, dif_neg h]
theorem u8_small (m : Nat) (h : m ≤ 255) : Value.int .u8 (m : Int) = bv (UInt8.ofNat m) := by
  show Value.int .u8 _ = Value.int .u8 _
  rw [UInt8.toNat_ofNat', Nat.mod_eq_of_lt (by omega)]

theorem ops_atL {l : List Oper} {i : Nat} {o : Oper} (h : l[i]? = some o) : (List.toArray l)[i]? = some o := by rw [List.getElem?_toArray]; exact h
theorem wpAnyH_strongL {P : Program} {md : Region.Mode} {ops : Array Oper} {Q : Exit → Act → World → Prop} {S S' : World → Prop} (hS : ∀ w, S' w → S w) :
    ∀ (fuel : Nat) (listed : Array Bool) (a : Act) (w : World), wpAnyH P md ops Q S' fuel listed a w → wpAnyH P md ops Q S fuel listed a w
  | 0, _, _, _, h => h
  | fuel + 1, listed, a, w, h => ⟨h.1, fun i hi => wpOp_mono (fun a' w' h' => ⟨hS _ h'.1, wpAnyH_strongL hS fuel _ a' w' h'.2⟩) (h.2 i hi)⟩
theorem bslL : ByteSlice Tryz.prog 53 5 := ⟨Tryz.underlying53, Tryz.underlying5, by kernel_rfl⟩
/-- A block of one byte c. -/
def DS (w : World) (G : Nat) (c : UInt8) (V : World) : Prop := Below w.heap.size w V ∧ V.cell? ⟨G, 0, none⟩ = some (bv c) ∧ G < V.heap.size
theorem ds_new {w V : World} (h : Below w.heap.size w V) (c : UInt8) (x : Int) (hx : x = (c.toNat : Int)) (t : TypeId) : DS w V.heap.size c (V.alloc (.cells #[.int .u8 x] t)) := by
  subst hx
  refine ⟨h.alloc h.size _, ?_, by simp⟩
  rw [World.cell?_alloc_at _ _ _ _ rfl]; rfl
theorem DS.below {w V W : World} {G : Nat} {c : UInt8} (h : DS w G c V) (hb : Below V.heap.size V W) : DS w G c W :=
  ⟨h.1.trans (hb.mono h.1.size), (hb.cell (p := ⟨G, 0, none⟩) h.2.2).trans h.2.1, Nat.lt_of_lt_of_le h.2.2 hb.size⟩
theorem DS.str {w V : World} {G : Nat} {c : UInt8} (h : DS w G c V) : (convert 53 9 (.slice (some ⟨G, 0, none⟩) 1 1)).run Tryz.prog V = .ok (.string ⟨#[c]⟩) V :=
  run_str (l := [c]) bslL 9 Tryz.underlying9 (B := V.heap.size) (fun _ => ⟨G, 0, rfl, h.2.2, fun j d hj => by
    match j, hj with
    | 0, hj => simp at hj; subst hj; exact h.2.1⟩) 1

theorem dec_len (n : Nat) : (dec n).length ≤ n + 1 := by
  induction n using Nat.strongRecOn with
  | _ n ih =>
    by_cases h : n < 10
    · rw [dec_small h]; simp
    · rw [dec_big h, List.length_append]
      have := ih (n / 10) (by omega)
      simp; omega
theorem dec_len6 {n : Nat} (h : n ≤ 999999) : (dec n).length ≤ 30 := by
  have step : ∀ m k, m < 10 * k → (∀ j, j < k → (dec j).length ≤ 24) → (dec m).length ≤ 25 := by
    intro m k hm hk
    by_cases h : m < 10
    · rw [dec_small h]; simp
    · rw [dec_big h, List.length_append]
      have := hk (m / 10) (by omega)
      simp; omega
  have e1 : ∀ j, j < 10 → (dec j).length ≤ 1 := fun j h => by rw [dec_small h]; simp
  have up : ∀ (k b : Nat), (∀ j, j < k → (dec j).length ≤ b) → 1 ≤ b + 1 → ∀ j, j < 10 * k → (dec j).length ≤ b + 1 := by
    intro k b hk hb j hj
    by_cases h : j < 10
    · rw [dec_small h]; simp
    · rw [dec_big h, List.length_append]
      have := hk (j / 10) (by omega)
      simp; omega
  have e2 := up 10 1 e1 (by omega)
  have e3 := up 100 2 e2 (by omega)
  have e4 := up 1000 3 e3 (by omega)
  have e5 := up 10000 4 e4 (by omega)
  have e6 := up 100000 5 e5 (by omega)
  have := e6 n (by omega)
  omega
theorem dec_len32 {n : Nat} (h : n ≤ 4294967295) : (dec n).length ≤ 30 := by
  have step : ∀ m k, m < 10 * k → (∀ j, j < k → (dec j).length ≤ 24) → (dec m).length ≤ 25 := by
    intro m k hm hk
    by_cases h : m < 10
    · rw [dec_small h]; simp
    · rw [dec_big h, List.length_append]
      have := hk (m / 10) (by omega)
      simp; omega
  have e1 : ∀ j, j < 10 → (dec j).length ≤ 1 := fun j h => by rw [dec_small h]; simp
  have up : ∀ (k b : Nat), (∀ j, j < k → (dec j).length ≤ b) → 1 ≤ b + 1 → ∀ j, j < 10 * k → (dec j).length ≤ b + 1 := by
    intro k b hk hb j hj
    by_cases h : j < 10
    · rw [dec_small h]; simp
    · rw [dec_big h, List.length_append]
      have := hk (j / 10) (by omega)
      simp; omega
  have e2 := up 10 1 e1 (by omega)
  have e3 := up 100 2 e2 (by omega)
  have e4 := up 1000 3 e3 (by omega)
  have e5 := up 10000 4 e4 (by omega)
  have e6 := up 100000 5 e5 (by omega)
  have e7 := up 1000000 6 e6 (by omega)
  have e8 := up 10000000 7 e7 (by omega)
  have e9 := up 100000000 8 e8 (by omega)
  have e10 := up 1000000000 9 e9 (by omega)
  have := e10 n (by omega)
  omega
end Go.Proofs.YtcdjmkfpclmbdaaGreatDoor

namespace Go.Proofs.YtcdjmkfpclmbdaaGreatDoor
open Go.RowKit

/-- The text of the first k ordinals. -/
def textK (l : List Nat) : Nat → List UInt8
  | 0 => []
  | k + 1 => textK l k ++ (if k = 0 then [] else [46]) ++ dec (l.getD k 0)
def textS (l : List Nat) : List UInt8 := textK l l.length
theorem textK_len (l : List Nat) (hs : ∀ x ∈ l, x ≤ 999999) (k : Nat) (hk : k ≤ l.length) : (textK l k).length ≤ 31 * k := by
  induction k with
  | zero => simp [textK]
  | succ k ih =>
    have h1 := ih (by omega)
    have h2 : (dec (l.getD k 0)).length ≤ 30 := dec_len6 (by
      rw [List.getD_eq_getElem?_getD, List.getElem?_eq_getElem (show k < l.length by omega)]
      exact hs _ (List.getElem_mem _))
    rw [textK, List.length_append, List.length_append]
    have h3 : (if k = 0 then ([] : List UInt8) else [46]).length ≤ 1 := by split <;> simp
    omega

end Go.Proofs.YtcdjmkfpclmbdaaGreatDoor

namespace Go.Proofs.YtcdjmkfpclmbdaaGreatDoor
open Go.RowKit

/-- What a round leaves as it was: every cell but those of the loop's own k variables, which lie from b on. -/
def KpB (b k : Nat) (W W' : World) : Prop := W.heap.size ≤ W'.heap.size ∧ ∀ p v, ¬ (b ≤ p.block ∧ p.block < b + k) → W.cell? p = some v → W'.cell? p = some v
theorem KpB.refl (b k : Nat) (W : World) : KpB b k W W := ⟨Nat.le_refl _, fun _ _ _ h => h⟩
theorem KpB.trans {b k : Nat} {A B C : World} (h : KpB b k A B) (h' : KpB b k B C) : KpB b k A C := ⟨Nat.le_trans h.1 h'.1, fun p v hp hv => h'.2 p v hp (h.2 p v hp hv)⟩
theorem cell_lt {W : World} {p : Addr} {v : Value} (h : W.cell? p = some v) : p.block < W.heap.size := by
  obtain ⟨o, ho, _⟩ := cells_of_cell h
  exact (Array.getElem?_eq_some_iff.1 ho).1
theorem KpB.alloc {b k : Nat} {A B : World} (h : KpB b k A B) (o : Obj) : KpB b k A (B.alloc o) :=
  ⟨by have := h.1; simp; omega, fun p v hp hv => by
    have hB := h.2 p v hp hv
    exact (World.cell?_of_block (Below.heap_alloc B o p.block (cell_lt hB))).trans hB⟩
theorem KpB.setCell {b k : Nat} {A B : World} (h : KpB b k A B) {q : Addr} (hq : b ≤ q.block ∧ q.block < b + k) (u : Value) : KpB b k A (B.setCell q u) :=
  ⟨by have := (KeepsWalks.setCell B q u).size; have := h.1; omega, fun p v hp hv => by
    have hB := h.2 p v hp hv
    exact (World.cell?_of_block (Below.heap_setCell B q u p.block (fun e => hp (by rw [e]; exact hq)))).trans hB⟩
theorem KpB.drew {b k : Nat} {A B : World} (h : KpB b k A B) : KpB b k A B.drew := h
theorem KpB.putObj {b k : Nat} {W : World} {l : Nat} {o : Obj} (o' : Obj) (hl : W.heap[l]? = some o) (ho : o.isCells = false) : KpB b k W (W.putObj l o') :=
  ⟨by simp, fun p v _ hv => cell_kept hv (grownBy_putObj' W l o') (fun r e => by cases e; exact ⟨o, hl, ho⟩)⟩

/-! ### In a round of the wide fence a region is walked as everywhere. -/
theorem rowsIn_wide {n : Nat} {P : Program} {row : String} {args : Array Value} {w : World} {R : Value → World → Prop} (h : Rows P row args w R) : RowsIn Fence.wide n P row args w R := by
  intro c cs _
  obtain ⟨v, w', r, s⟩ := h c cs
  exact ⟨v, w', r, stepsIn_wide.2 s⟩
theorem oper_round {P : Program} {o : Oper} {a : Act} {w : World} {K : Act → World → Prop} {Q : Exit → Act → World → Prop} (l n : Nat) (hd : ∀ c, o.op ≠ .defer c) (h : o.wp P a w K Q) : o.wpIn (Fence.wide.inRound l) n P a w K Q := by
  unfold Oper.wpIn
  refine ⟨fun _ _ => trivial, ?_⟩
  rw [Fence.inRound_round, Oper.semAt_some l _ _ hd]
  unfold Oper.wp at h
  generalize (execOp a.eval o).run P w = r at *
  cases r with
  | ok x w' =>
    cases x with
    | value v => exact h
    | skip => exact h
    | defer d => exact h
    | enter f args =>
      refine ⟨fun h => (by cases h), CallsIn.inRound l (callsIn_wide.2 (Calls.mono h ?_))⟩
      intro e w'' he
      cases e <;> exact he
    | row r args => exact ⟨fun h => (by cases h), rowsIn_wide h⟩
    | _ => exact h.elim
  | halt x w' => cases x <;> first | exact h | exact h.elim
theorem wpAny_round {P : Program} {md : Region.Mode} {ops : Array Oper} {Q : Exit → Act → World → Prop} (l n : Nat) (hd : ∀ (i : Nat) (o : Oper), ops[i]? = some o → ∀ c, o.op ≠ .defer c) (hL : ¬ LetsOut Q) :
    ∀ (fuel : Nat) (listed : Array Bool) (a : Act) (w : World), wpAny P md ops Q fuel listed a w → wpAnyIn (Fence.wide.inRound l) n P md ops Q fuel listed a w
  | 0, _, _, _, h => h
  | fuel + 1, listed, a, w, h => by
    refine ⟨h.1, fun i hi => ?_⟩
    have h2 := h.2 i hi
    unfold wpOp at h2
    unfold wpOpIn
    cases ho : ops[i]? with
    | none =>
      rw [ho] at h2
      exact wpAny_round l n hd hL fuel _ _ _ h2
    | some o =>
      rw [ho] at h2
      simp only at h2 ⊢
      split
      · rename_i hw
        rw [if_pos hw] at h2
        rcases h2 with h2 | h2
        · exact Oper.wpIn_mono (fun a w hh => wpAny_round l n hd hL fuel _ a w hh) (oper_round l n (hd i o ho) h2)
        · exact absurd h2.2 hL
      · rename_i hw
        rw [if_neg hw] at h2
        exact ⟨fun _ _ => trivial, wpAny_round l n hd hL fuel _ _ _ h2⟩
theorem region_round {P : Program} {ops : Array Oper} {Q : Exit → Act → World → Prop} {id : Nat} {a : Act} {w : World} (l n : Nat) (hm : P.follows .mixedOrders = true) (hd : ∀ (i : Nat) (o : Oper), ops[i]? = some o → ∀ c, o.op ≠ .defer c) (hL : ¬ LetsOut Q)
    (h : wpAny P .any ops Q ops.size (Array.replicate ops.size false) a { w with drawn := w.drawn + 1 }) : (Code.region id ops true).wpIn (Fence.wide.inRound l) n P Q a w :=
  wpIn_region_any hm (wpAny_round l n hd hL _ _ _ _ h)

def plainOps (ops : Array Oper) : Bool := ops.toList.all fun o => match o.op with | .defer _ => false | _ => true
theorem region_round_held {P : Program} {ops : Array Oper} {Q : Exit → Act → World → Prop} {id : Nat} {a : Act} {w : World} {S : World → Prop} {l n : Nat} (hm : P.follows .mixedOrders = true) (hd : plainOps ops = true) (hL : ¬ LetsOut Q) (hS : S w.drew)
    (h : S w.drew → wpAnyH P .any ops Q S ops.size (Array.replicate ops.size false) a w.drew) : (Code.region id ops true).wpIn (Fence.wide.inRound l) n P Q a w := by
  refine region_round l n hm (fun i o ho c hc => ?_) hL (wpAny_of_held _ _ _ _ (h hS))
  unfold plainOps at hd
  rw [List.all_eq_true] at hd
  have := hd o (by rw [← Array.getElem?_toList] at ho; exact List.mem_of_getElem? ho)
  rw [hc] at this
  cases this

/-- The contract of an iterator that yields the elements xs in their order: what the rounds are asked, they are asked of these alone. -/
def Yields {α : Type} (P : Program) (g : Nat) (lb : Array Value) (enc : α → Value) (b k : Nat) (xs : List α) (w : World) : Prop :=
  ∀ (l : Nat) (J Jx : List α → World → Prop) (W : World), Below w.heap.size w W → AbidesFrom W.heap.size J → AbidesFrom W.heap.size Jx →
    (∀ pre x W1, (pre ++ [x]) <+: xs → J pre W1 → YieldAt Fence.wide 2 P l #[enc x] W1 fun e W' =>
      (e = .returned (.bool true) ∧ J (pre ++ [x]) W' ∧ KpB b k W1 W') ∨ (e = .returned (.bool false) ∧ Jx (pre ++ [x]) W')) →
    J [] W →
    CallsIn Fence.wide 3 P g (#[.func (.yield l) #[] #[]] ++ lb) W fun e W' => (∃ v, e = .returned v) ∧ (J xs W' ∨ ∃ pre, pre <+: xs ∧ Jx pre W')

/-- How a round's body may be left: at its end, or by a return. -/
def upPost {α : Type} (b k : Nat) (I Ix : List α → World → Prop) (xs : List α) (W : World) : Exit → Act → World → Prop
  | .normal, _, W' => KeepsOthers W W' ∧ KpB b k W W' ∧ I xs W'
  | .ret, _, W' => KeepsOthers W W' ∧ Ix xs W'
  | _, _, _ => False

theorem wpIn_upto {P : Program} {α : Type} {g : Operand} {ps : Array Tmp} {assign body : Code} {Q : Exit → Act → World → Prop} {a : Act} {w : World} {gf : Nat} {lb : Array Value}
    (hg : a.eval g = .func (.func gf) #[] lb) (eg : ∀ args w, (callFunc gf args).run P w = .ok (.enter gf args) w)
    {enc : α → Value} {b k : Nat} {xs : List α} (hbk : b + k ≤ w.heap.size) (hseq : Yields P gf lb enc b k xs w) (hps : ps.size = 1)
    (I Ix : List α → World → Prop) (hI : OwnFrom w.heap.size I) (hIx : OwnFrom w.heap.size Ix) (h0 : I [] w) (a₁ : α → Nat → Act) (o₁ : α → Obj)
    (hassign : ∀ (l : Nat) (x : α) (W : World) (K : Act → World → Prop), K (a₁ x W.heap.size) (W.alloc (o₁ x)) →
      assign.wpIn (Fence.wide.inRound l) 2 P (Exit.then K (fun _ _ _ => False)) { tmps := (ps.zip #[enc x]).foldl (fun t (p, v) => t.setIfInBounds p v) a.tmps, defers := [] } W)
    (hbody : ∀ (l G : Nat) (pre : List α) (x : α) (W : World), (pre ++ [x]) <+: xs → b + k ≤ G → W.heap[G]? = some (o₁ x) → I pre W → body.wpIn (Fence.wide.inRound l) 2 P (upPost b k I Ix (pre ++ [x]) W) (a₁ x G) W)
    (hdone : ∀ (D : Nat) (W : World), w.heap.size ≤ D → I xs W → W.heap[D]? = some (.deferred (some [])) → Q .normal { a with defers := { target := .collected D, args := #[] } :: a.defers } W)
    (hstop : ∀ (D : Nat) (pre : List α) (W : World), w.heap.size ≤ D → pre <+: xs → Ix pre W → W.heap[D]? = some (.deferred (some [])) → Code.ret.wpIn Fence.wide 4 P Q { a with defers := { target := .collected D, args := #[] } :: a.defers } W) :
    (Code.rangeFunc g ps assign body).wpIn Fence.wide 4 P Q a w := by
  refine wpIn_rangeFunc fun fn _ => ?_
  obtain ⟨B, hB⟩ : ∃ B, B = w.heap.size := ⟨_, rfl⟩
  rw [← hB] at hI hIx hdone hstop hbk
  let rec_ : LoopState → Option Code → Loop := fun st pe => { state := st, pending := pe, fn := fn, tmps := a.tmps, params := ps, assign := assign, body := body, defers := w.heap.size }
  obtain ⟨V, hV⟩ : ∃ V, V = (w.alloc (.deferred (some []))).alloc (.loop (rec_ .ready none)) := ⟨_, rfl⟩
  have hVs : V.heap.size = B + 2 := by rw [hV, hB]; simp
  have hVl : V.heap[B + 1]? = some (.loop (rec_ .ready none)) := by
    rw [hV, hB]; have := World.alloc_heap_new (w.alloc (.deferred (some []))) (.loop (rec_ .ready none)); rwa [World.size_alloc] at this
  have hVd : V.heap[B]? = some (.deferred (some [])) := by
    rw [hV, hB]; exact (Below.heap_alloc _ _ _ (by simp)).trans (World.alloc_heap_new w _)
  have hVI : I [] V := by rw [hV]; exact hI.alloc _ (hI.alloc _ h0)
  have hVb : Below w.heap.size w V := by rw [hV]; exact ((Below.refl _ w).alloc (Nat.le_refl _) _).alloc (by simp) _
  refine ⟨B + 1, [{ target := .collected B, args := #[] }], V, { target := .fn (.func gf) lb, args := #[.func (.yield (B + 1)) #[] #[]] }, V, gf, #[.func (.yield (B + 1)) #[] #[]] ++ lb, V, ?_, ?_, fun _ _ => trivial, ?_, fun _ => by omega, ?_⟩
  · rw [hV, hB]; exact run_enterLoop_outer _ _ _ _ _
  · simp only [resolve, hg]
    simp [go_sem]
  · simp [invoke, go_sem, eg]
  · have low : ∀ {A : World} {row : Option Nat}, (∀ r, row = some r → V.heap.size ≤ r ∧ ∃ o : Obj, A.heap[r]? = some o ∧ o.isWalk = true) → (∀ r, row = some r → B ≤ r ∧ ∃ o : Obj, A.heap[r]? = some o ∧ o.isCells = false) := by
      intro A row hr r e
      obtain ⟨h1, o, ho, hw⟩ := hr r e
      exact ⟨by omega, o, ho, Obj.not_cells_of_walk hw⟩
    refine (hseq (B + 1) (fun pre W => I pre W ∧ W.heap[B + 1]? = some (.loop (rec_ .ready none)) ∧ W.heap[B]? = some (.deferred (some [])))
      (fun pre W => Ix pre W ∧ W.heap[B + 1]? = some (.loop (rec_ .done (some .ret))) ∧ W.heap[B]? = some (.deferred (some []))) V hVb
      (fun s X Y row hs hg' hr => ⟨hI s X Y row hs.1 hg' (low hr), (grownBy_keeps hg' (fun r e => (hr r e).2) hs.2.1 rfl).trans hs.2.1, (grownBy_keeps hg' (fun r e => (hr r e).2) hs.2.2 rfl).trans hs.2.2⟩)
      (fun s X Y row hs hg' hr => ⟨hIx s X Y row hs.1 hg' (low hr), (grownBy_keeps hg' (fun r e => (hr r e).2) hs.2.1 rfl).trans hs.2.1, (grownBy_keeps hg' (fun r e => (hr r e).2) hs.2.2 rfl).trans hs.2.2⟩)
      ?_ ⟨hVI, hVl, hVd⟩).mono ?_
    · rintro pre x W hpx ⟨hi, hl, hd⟩
      have hy := run_yield (P := P) (args := #[enc x]) hl (by simp [rec_, hps])
      refine ⟨fn, _, assign, body, hy, roundIn_of_wpIn trivial (hassign _ x W _ ?_)⟩
      have hlt : B + 1 < W.heap.size := (Array.getElem?_eq_some_iff.1 hl).1
      have hl1 : (W.alloc (o₁ x)).heap[B + 1]? = some (.loop (rec_ .ready none)) := (Below.heap_alloc W _ _ hlt).trans hl
      have hd1 : (W.alloc (o₁ x)).heap[B]? = some (.deferred (some [])) := (Below.heap_alloc W _ _ (by omega)).trans hd
      have hG1 : (W.alloc (o₁ x)).heap[W.heap.size]? = some (o₁ x) := World.alloc_heap_new W _
      have hi1 : I pre (W.alloc (o₁ x)) := hI.alloc _ hi
      have hK1 : KpB b k W (W.alloc (o₁ x)) := (KpB.refl b k W).alloc _
      obtain ⟨G, hG⟩ : ∃ G, G = W.heap.size := ⟨_, rfl⟩
      rw [← hG] at hG1 ⊢
      obtain ⟨X, hX⟩ : ∃ X, X = W.alloc (o₁ x) := ⟨_, rfl⟩
      rw [← hX] at hl1 hd1 hG1 hi1 hK1 ⊢
      refine ⟨_, run_beginRound hl1 rfl, ?_⟩
      obtain ⟨Y, hY⟩ : ∃ Y, Y = X.putObj (B + 1) (.loop { rec_ .ready none with state := .busy }) := ⟨_, rfl⟩
      have hYl : Y.heap[B + 1]? = some (.loop { rec_ .ready none with state := .busy }) := by rw [hY]; exact World.putObj_heap_same (Array.getElem?_eq_some_iff.1 hl1).1
      have hYd : Y.heap[B]? = some (.deferred (some [])) := by rw [hY]; exact (World.putObj_heap_other (by omega)).trans hd1
      have hYG : Y.heap[G]? = some (o₁ x) := by rw [hY]; exact (World.putObj_heap_other (by omega)).trans hG1
      have hYI : I pre Y := by rw [hY]; exact hI.putObj _ hi1 (by omega) hl1 rfl
      have hYK : KpB b k W Y := by rw [hY]; exact hK1.trans (KpB.putObj _ hl1 rfl)
      show body.wpIn _ _ _ _ _ (X.putObj (B + 1) (.loop { rec_ .ready none with state := .busy }))
      rw [← hY]
      refine wpIn_mono (hbody _ G pre x Y hpx (by omega) hYG hYI) ?_
      rintro e a3 Z hp
      cases e with
      | normal =>
        obtain ⟨hz, hk, hi3⟩ := hp
        have hzl := hz.same _ _ hYl rfl
        exact ⟨_, _, run_endRound (P := P) none hzl, .inl ⟨rfl, ⟨hI.putObj _ hi3 (by omega) hzl rfl, World.putObj_heap_same (Array.getElem?_eq_some_iff.1 hzl).1, (World.putObj_heap_other (by omega)).trans (hz.same _ _ hYd rfl)⟩, (hYK.trans hk).trans (KpB.putObj _ hzl rfl)⟩⟩
      | ret =>
        obtain ⟨hz, hi3⟩ := hp
        have hzl := hz.same _ _ hYl rfl
        exact ⟨_, _, run_endRound (P := P) (some .ret) hzl, .inr ⟨rfl, hIx.putObj _ hi3 (by omega) hzl rfl, World.putObj_heap_same (Array.getElem?_eq_some_iff.1 hzl).1, (World.putObj_heap_other (by omega)).trans (hz.same _ _ hYd rfl)⟩⟩
      | exit id => exact hp.elim
      | goto t => exact hp.elim
      | panic ch => exact hp.elim
      | outgrown => exact hp.elim
    · rintro e Z ⟨⟨v, rfl⟩, ⟨hi, hl, hd⟩ | ⟨pre, hpx, hi, hl, hd⟩⟩
      · exact ⟨none, _, run_endLoop (P := P) hl (by simp [rec_]), hdone _ _ (Nat.le_refl _) (hI.putObj _ hi (by omega) hl rfl) ((World.putObj_heap_other (by omega)).trans hd)⟩
      · exact ⟨some .ret, _, run_endLoop (P := P) hl (by simp [rec_]), hstop _ pre _ (Nat.le_refl _) hpx (hIx.putObj _ hi (by omega) hl rfl) ((World.putObj_heap_other (by omega)).trans hd)⟩
end Go.Proofs.YtcdjmkfpclmbdaaGreatDoor

namespace Go.Proofs.YtcdjmkfpclmbdaaGreatDoor
open Go.RowKit
attribute [local go_sem] Oper.semAt_some

/-- The parts from an offset on: offset, ordinal, error. -/
def partsF (s : List UInt8) : Nat → Nat → Nat → List (Nat × Nat × Nat)
  | 0, _, _ => []
  | f + 1, at_, count =>
    ((partP s at_ count).1, (partP s at_ count).2.1, (partP s at_ count).2.2.1) ::
      (if (partP s at_ count).2.2.1 = 0 then
        (match s.drop (partP s at_ count).2.2.2 with
        | [] => []
        | c :: _ => if c = 46 then partsF s f ((partP s at_ count).2.2.2 + 1) (count + 1) else [((partP s at_ count).2.2.2, 0, 6)])
      else [])
def partsL (s : List UInt8) : List (Nat × Nat × Nat) := match s with
  | [] => []
  | _ => partsF s 9 0 0
section
variable {s : List UInt8} {f at_ a n e b count : Nat} {c : UInt8} {r : List UInt8}
theorem partsF_err (h : partP s at_ count = (a, n, e, b)) (he : e ≠ 0) : partsF s (f + 1) at_ count = [(a, n, e)] := by
  rw [partsF, h]; exact congrArg _ (if_neg he)
theorem partsF_end (h : partP s at_ count = (a, n, 0, b)) (hb : s.drop b = []) : partsF s (f + 1) at_ count = [(a, n, 0)] := by
  rw [partsF, h]; show _ :: (if 0 = 0 then _ else _) = _; rw [if_pos rfl, hb]
theorem partsF_bad (h : partP s at_ count = (a, n, 0, b)) (hb : s.drop b = c :: r) (hc : ¬ c = 46) : partsF s (f + 1) at_ count = [(a, n, 0), (b, 0, 6)] := by
  rw [partsF, h]; show _ :: (if 0 = 0 then _ else _) = _; rw [if_pos rfl, hb]; exact congrArg _ (if_neg hc)
theorem partsF_go (h : partP s at_ count = (a, n, 0, b)) (hb : s.drop b = c :: r) (hc : c = 46) : partsF s (f + 1) at_ count = (a, n, 0) :: partsF s f (b + 1) (count + 1) := by
  rw [partsF, h]; show _ :: (if 0 = 0 then _ else _) = _; rw [if_pos rfl, hb]; exact congrArg _ (if_pos hc)
end
theorem dig_le : ∀ (l : List UInt8) (k n : Nat) {n' k' : Nat}, dig l k n = some (n', k') → k' ≤ k + l.length
  | [], k, n, n', k', h => by rw [dig] at h; cases h; simp
  | c :: r, k, n, n', k', h => by
    rw [dig] at h
    split at h
    · split at h
      · cases h
      · have := dig_le r _ _ h; simp; omega
    · cases h; omega
theorem partP_end {s : List UInt8} {at_ count a n e b : Nat} (h : partP s at_ count = (a, n, e, b)) (ha : at_ ≤ s.length) : b ≤ s.length := by
  unfold partP at h
  split at h
  · cases h; exact ha
  · split at h
    · cases h; exact ha
    · rename_i c r hd
      split at h
      · split at h
        · cases h; exact ha
        · cases hg : dig (c :: r) 0 0 with
          | none => rw [hg] at h; cases h; exact ha
          | some p =>
            obtain ⟨n', k'⟩ := p
            rw [hg] at h; cases h
            have h1 := dig_le _ _ _ hg
            have h2 := congrArg List.length hd
            rw [List.length_drop] at h2
            omega
      · cases h; exact ha
/-- A part as a value. -/
def encP (x : Nat × Nat × Nat) : Value := .agg #[.int .i64 (x.1 : Int), .int .i64 (x.2.1 : Int), .int .i64 (x.2.2 : Int)]
theorem abides_below {β : Type} {J : β → World → Prop} {B : Nat} (h : AbidesFrom B J) {x : β} {W W' : World} (hj : J x W) (hb : Below W.heap.size W W') : J x W' :=
  h x W W' none hj ⟨hb.os, hb.tape, hb.output, hb.size, fun k hk _ => hb.block k hk⟩ (fun r e => by cases e)

set_option maxHeartbeats 2000000 in
set_option maxRecDepth 100000 in
theorem iter_any (S : ByteArray) (hS : S.size ≤ 1000000) (Bs b k : Nat) (hBs : b + k ≤ Bs) (w : World) (hw : w.cell? ⟨Bs, 0, none⟩ = some (.string S)) :
    Yields Tryz.prog 142 #[.pointer (some ⟨Bs, 0, none⟩)] encP b k (partsL S.data.toList) w := by
  intro l J Jx W hW hJ hJx hY h0
  have hs : W.cell? ⟨Bs, 0, none⟩ = some (.string S) := (hW.cell (p := ⟨Bs, 0, none⟩) (cell_lt hw)).trans hw
  have hBW : Bs < W.heap.size := cell_lt hs
  clear hw hW
  refine callsIn_of_wp Tryz.func142 rfl trivial ?_ rfl
  simp only [Tryz.ntmps142, List.size_toArray, List.length_cons, List.length_nil, Nat.reduceAdd, Nat.reduceSub, Array.replicate_succ, Array.replicate_zero, List.push_toArray, List.append_toArray, List.nil_append, List.cons_append]
  by_cases hz : S.size = 0
  · have hd : S.data.toList = [] := List.eq_nil_of_length_eq_zero (by simpa using hz)
    have hSe : S = ⟨#[]⟩ := by apply ByteArray.ext; apply Array.ext'; simpa using hd
    rw [hd] at hY ⊢
    subst hSe
    gi_wp2
    refine bodyPost_ret (results_none rfl _ _ _) rfl ?_
    exact ⟨⟨_, rfl⟩, .inl h0⟩
  · have hq : partsL S.data.toList = partsF S.data.toList 9 0 0 := by
      cases hq : S.data.toList with
      | nil => exact absurd (by simpa using congrArg List.length hq) hz
      | cons a b => rfl
    have hSe : S.toList.isEmpty = false := by
      rw [ByteArray.toList_eq]
      cases hq : S.data.toList with
      | nil => exact absurd (by simpa using congrArg List.length hq) hz
      | cons a b => rfl
    rw [hq] at hY ⊢
    clear hq
    obtain ⟨xs, hxs⟩ : ∃ xs, xs = partsF S.data.toList 9 0 0 := ⟨_, rfl⟩
    rw [← hxs] at hY ⊢
    have HX := Lib.hid hxs
    have HY := Lib.hid hY
    have HJ := Lib.hid hJ
    have HJ0 := Lib.hid h0
    clear hxs hY hJ h0 hJx
    gi_wp2
    gi_loopw [3, 9] (fun u i wr => ∃ (at_ c f : Nat) (pre : List (Nat × Nat × Nat)), u = .int .i64 (at_ : Int) ∧ i = .int .i64 (c : Int) ∧ at_ ≤ S.size ∧ f + c = 9 ∧ 0 < f ∧ Hid (xs = pre ++ partsF S.data.toList f at_ c) ∧ Hid (J pre wr) ∧ wr.cell? ⟨Bs, 0, none⟩ = some (.string S)) (fun _ i _ => 9 - (intOf i).toNat)
    case atStart => exact ⟨0, 0, 9, [], rfl, rfl, by omega, rfl, by omega, Lib.hid HX.out, HJ0, hs⟩
    case round =>
      clear hs HX HJ0
      obtain ⟨at_, c, f, pre, rfl, rfl, ha, hf, hf0, HXS, HJP, hs⟩ := hrel
      obtain ⟨a, n, e, en, hr⟩ : ∃ a n e en, partP S.data.toList at_ c = (a, n, e, en) := ⟨_, _, _, _, rfl⟩
      obtain ⟨f', rfl⟩ : ∃ f', f = f' + 1 := ⟨f - 1, by omega⟩
      obtain ⟨E, hE⟩ : ∃ E : Int, E = (e : Int) := ⟨_, rfl⟩
      have HP : Hid (∀ W, Calls Tryz.prog 143 #[.string S, .int .i64 (at_ : Int), .int .i64 (c : Int)] W fun r w' => r = .returned (.tuple #[.agg #[.int .i64 (a : Int), .int .i64 (n : Int), .int .i64 E], .int .i64 (en : Int)]) ∧ Below W.heap.size W w') :=
        Lib.hid fun W => by rw [hE]; exact partAt_any S at_ c W ha hS (by omega) (a, n, e, en) hr.symm
      have hen : en ≤ S.size := by have := partP_end hr (by simpa using ha); simpa using this
      have hc9 : (c : Int) < 9 := by omega
      have hBr : Bs < wr.heap.size := cell_lt hs
      have HYL : Hid ((pre ++ [(a, n, e)]) <+: xs → ∀ W1, Below wr.heap.size wr W1 → YieldAt Fence.wide 2 Tryz.prog l #[.agg #[.int .i64 (a : Int), .int .i64 (n : Int), .int .i64 E]] (W1.alloc (.cells #[.int .i64 (a : Int), .int .i64 (n : Int), .int .i64 E] 163)) fun r W' =>
          (r = .returned (.bool true) ∧ J (pre ++ [(a, n, e)]) W' ∧ W'.cell? ⟨W1.heap.size, 2, none⟩ = some (.int .i64 E) ∧ W'.cell? ⟨Bs, 0, none⟩ = some (.string S)) ∨ (r = .returned (.bool false) ∧ Jx (pre ++ [(a, n, e)]) W')) := by
        rw [hE]; refine Lib.hid fun hpx W1 hb => (HY.out pre (a, n, e) _ hpx (abides_below HJ.out HJP.out (hb.alloc hb.size _))).mono ?_
        rintro r W' (⟨rfl, hj, hk⟩ | ⟨rfl, hj⟩)
        · refine .inl ⟨rfl, hj, hk.2 _ _ (by show ¬ (b ≤ W1.heap.size ∧ W1.heap.size < b + k); have := hb.size; omega) ?_, hk.2 _ _ (by show ¬ (b ≤ Bs ∧ Bs < b + k); omega) ?_⟩
          · rw [World.cell?_alloc_at _ _ _ _ rfl]; rfl
          · exact ((hb.alloc hb.size _).cell (p := ⟨Bs, 0, none⟩) hBr).trans hs
        · exact .inr ⟨rfl, hj⟩
      by_cases he : e = 0
      · obtain rfl : E = 0 := by rw [hE, he]; rfl
        clear hE
        subst he
        by_cases hl : en = S.size
        · have hx := HXS.out
          rw [partsF_end hr (List.drop_eq_nil_of_le (by simp; omega))] at hx
          have HYM := Lib.hid (HYL.out (by rw [hx]; exact List.prefix_refl _))
          have HXX := Lib.hid hx
          have gl : ((en : Int) == (S.size : Int)) = true := by simp; omega
          clear hx hr HXS HYL
          gi_wp2_with (refine ⟨trivial, ?_⟩; gi_at_call 143; refine ((callsIn_wide (n := 2)).2 (HP.out _)).mono ?_; rintro r W1 ⟨rfl, hb1⟩; obtain ⟨fn, tmps, assign, body, hy, hR⟩ := HYM.out _ hb1)
          refine hR.mono ?_
          rintro r W2 (⟨rfl, hj, hce, hcs⟩ | ⟨rfl, hj⟩)
          · gi_wp2
            refine bodyPost_ret (results_none rfl _ _ _) rfl ?_
            exact ⟨⟨_, rfl⟩, .inl (by rw [HXX.out]; exact hj)⟩
          · gi_wp2
            refine bodyPost_ret (results_none rfl _ _ _) rfl ?_
            exact ⟨⟨_, rfl⟩, .inr ⟨_, by rw [HXX.out]; exact List.prefix_refl _, hj⟩⟩
        · have gl : ((en : Int) == (S.size : Int)) = false := by simp; omega
          have hlt : en < S.size := by omega
          obtain ⟨d, hd⟩ : ∃ d, d = S.data.toList[en]'(by simpa using hlt) := ⟨_, rfl⟩
          have hix : ∀ W, (Instr.index 9 (.string S) (.int .i64 (en : Int))).run Tryz.prog W = .ok (bv d) W := fun W => by
            rw [run_index_string W 9 S .i64 en Tryz.underlying9, dif_pos ⟨by omega, by omega⟩]
            rw [hd]; rfl
          have hdrop : S.data.toList.drop en = d :: S.data.toList.drop (en + 1) := by rw [hd, List.drop_eq_getElem_cons]
          clear hd
          by_cases h46 : d = 46
          · have q46 : ((d.toNat : Int) == 46) = true := by rw [h46]; decide
            have hx := HXS.out
            rw [partsF_go hr hdrop h46] at hx
            have HYM := Lib.hid (HYL.out (by rw [hx]; exact ⟨partsF S.data.toList f' (en + 1) (c + 1), by simp⟩))
            have HXX := Lib.hid hx
            have hf2 : 0 < f' := by
              apply Nat.pos_of_ne_zero
              intro h0
              have hc8 : c = 8 := by omega
              rw [hc8] at hr
              unfold partP at hr
              rw [if_pos rfl] at hr
              cases hr
            clear hx hr HXS HYL h46 hdrop
            gi_wp2_with (refine ⟨trivial, ?_⟩; gi_at_call 143; refine ((callsIn_wide (n := 2)).2 (HP.out _)).mono ?_; rintro r W1 ⟨rfl, hb1⟩; obtain ⟨fn, tmps, assign, body, hy, hR⟩ := HYM.out _ hb1)
            refine hR.mono ?_
            rintro r W2 (⟨rfl, hj, hce, hcs⟩ | ⟨rfl, hj⟩)
            · have HJN := Lib.hid hj
              clear hj
              gi_wp2
              go_roundw
              case rel => exact ⟨en + 1, c + 1, f', pre ++ [(a, n, 0)], by go_num, by go_num, by omega, by omega, hf2, Lib.hid (by rw [HXX.out]; simp), HJN, hcs⟩
              case measure => simp [intOf] <;> omega
            · gi_wp2
              refine bodyPost_ret (results_none rfl _ _ _) rfl ?_
              exact ⟨⟨_, rfl⟩, .inr ⟨_, ⟨partsF S.data.toList f' (en + 1) (c + 1), by rw [HXX.out]; simp⟩, hj⟩⟩
          · have q46 : ((d.toNat : Int) == 46) = false := by
              rw [beq_eq_false_iff_ne]; intro e; exact h46 (UInt8.toNat_inj.1 (by rw [show d.toNat = 46 by omega]; rfl))
            have hx := HXS.out
            rw [partsF_bad hr hdrop h46] at hx
            have HYM := Lib.hid (HYL.out (by rw [hx]; exact ⟨[(en, 0, 6)], by simp⟩))
            have HXX := Lib.hid hx
            have HY2 : Hid (∀ W2, J (pre ++ [(a, n, 0)]) W2 → YieldAt Fence.wide 2 Tryz.prog l #[.agg #[.int .i64 (en : Int), .int .i64 0, .int .i64 6]] W2 fun r W' =>
                (r = .returned (.bool true) ∧ J xs W') ∨ (r = .returned (.bool false) ∧ Jx xs W')) := by
              refine Lib.hid fun W2 hj => (HY.out (pre ++ [(a, n, 0)]) (en, 0, 6) W2 (by rw [hx]; simp) hj).mono ?_
              have e1 : pre ++ [(a, n, 0)] ++ [(en, 0, 6)] = xs := by rw [hx]; simp
              rw [e1]
              rintro r W' (⟨rfl, hj, _⟩ | ⟨rfl, hj⟩)
              · exact .inl ⟨rfl, hj⟩
              · exact .inr ⟨rfl, hj⟩
            clear hx hr HXS HYL h46 hdrop
            gi_wp2_with (refine ⟨trivial, ?_⟩; gi_at_call 143; refine ((callsIn_wide (n := 2)).2 (HP.out _)).mono ?_; rintro r W1 ⟨rfl, hb1⟩; obtain ⟨fn, tmps, assign, body, hy, hR⟩ := HYM.out _ hb1)
            refine hR.mono ?_
            rintro r W2 (⟨rfl, hj, hce, hcs⟩ | ⟨rfl, hj⟩)
            · obtain ⟨fn2, tmps2, assign2, body2, hy2, hR2⟩ := HY2.out _ hj
              clear hj
              gi_wp2
              refine hR2.mono ?_
              rintro r W3 (⟨rfl, hj⟩ | ⟨rfl, hj⟩)
              · gi_wp2
                refine bodyPost_ret (results_none rfl _ _ _) rfl ?_
                exact ⟨⟨_, rfl⟩, .inl hj⟩
              · gi_wp2
                refine bodyPost_ret (results_none rfl _ _ _) rfl ?_
                exact ⟨⟨_, rfl⟩, .inr ⟨_, List.prefix_refl _, hj⟩⟩
            · gi_wp2
              refine bodyPost_ret (results_none rfl _ _ _) rfl ?_
              exact ⟨⟨_, rfl⟩, .inr ⟨_, ⟨[(en, 0, 6)], by rw [HXX.out]; simp⟩, hj⟩⟩
      · have hx := HXS.out
        rw [partsF_err hr he] at hx
        have HYM := Lib.hid (HYL.out (by rw [hx]; exact List.prefix_refl _))
        have HXX := Lib.hid hx
        have ge : (E == 0) = false := by simp; omega
        clear hx hr hE HXS HYL he
        gi_wp2_with (refine ⟨trivial, ?_⟩; gi_at_call 143; refine ((callsIn_wide (n := 2)).2 (HP.out _)).mono ?_; rintro r W1 ⟨rfl, hb1⟩; obtain ⟨fn, tmps, assign, body, hy, hR⟩ := HYM.out _ hb1)
        refine hR.mono ?_
        rintro r W2 (⟨rfl, hj, hce, hcs⟩ | ⟨rfl, hj⟩)
        · gi_wp2
          refine bodyPost_ret (results_none rfl _ _ _) rfl ?_
          exact ⟨⟨_, rfl⟩, .inl (by rw [HXX.out]; exact hj)⟩
        · gi_wp2
          refine bodyPost_ret (results_none rfl _ _ _) rfl ?_
          exact ⟨⟨_, rfl⟩, .inr ⟨_, by rw [HXX.out]; exact List.prefix_refl _, hj⟩⟩
end Go.Proofs.YtcdjmkfpclmbdaaGreatDoor
