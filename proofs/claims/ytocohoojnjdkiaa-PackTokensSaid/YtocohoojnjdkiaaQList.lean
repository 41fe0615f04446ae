/- Lists of elements that take k cells each (structs, arrays, numbers): what a slice reads as, what it owns, append, parts of a slice. Of no program. -/
import Derived.Test.YtocohoojnjdkiaaLib
import Derived.Deep.MidRow
set_option linter.unusedVariables false
namespace Go.Proofs.Ytocohoojnjdkiaa
open Go.RowKit

/-- How an element is laid out. -/
structure EncK {α : Type} (enc : α → List Value) (k : Nat) : Prop where
  len : ∀ x, (enc x).length = k
  one : ∀ x, ∀ u ∈ enc x, u.oneCell' = true
  pos : 0 < k
/-- A slice's type t', its elements' type e of k cells and so many bytes. -/
structure TypK (P : Program) (t e : TypeId) (k bytes : Nat) : Prop where
  u : P.underlying t = some (.slice e)
  i : ∃ i z, P.info? e = some i ∧ i.zero = some z ∧ i.size = k ∧ i.bytes = bytes ∧ z.cells.size = k

section
variable {α : Type} {enc : α → List Value} {k : Nat} {e : TypeId}
def flatQ (enc : α → List Value) (l : List α) : List Value := l.flatMap enc
theorem flatQ_length (hE : EncK enc k) (l : List α) : (flatQ enc l).length = l.length * k := by
  induction l with
  | nil => simp [flatQ]
  | cons v r ih => simp only [flatQ, List.flatMap_cons, List.length_append, hE.len] at ih ⊢; rw [ih, List.length_cons, Nat.succ_mul]; omega
theorem flatQ_append (l m : List α) : flatQ enc (l ++ m) = flatQ enc l ++ flatQ enc m := by simp [flatQ]
theorem flatQ_one (hE : EncK enc k) (l : List α) : ∀ u ∈ flatQ enc l, u.oneCell' = true := by
  intro u hu
  obtain ⟨x, _, hx⟩ := List.mem_flatMap.1 hu
  exact hE.one x u hx
theorem flatQ_at (hE : EncK enc k) (l : List α) : ∀ (j i : Nat) (v : α) (u : Value), l[j]? = some v → (enc v)[i]? = some u → (flatQ enc l)[j * k + i]? = some u := by
  induction l with
  | nil => intro j i v u h; simp at h
  | cons x r ih =>
    intro j i v u hj hi
    have hik : i < k := by have := (List.getElem?_eq_some_iff.1 hi).1; rwa [hE.len] at this
    simp only [flatQ, List.flatMap_cons]
    cases j with
    | zero =>
      simp at hj; subst hj
      rw [List.getElem?_append_left (by rw [hE.len]; omega), show 0 * k + i = i by omega]; exact hi
    | succ j =>
      have e1 : (j + 1) * k + i - k = j * k + i := by rw [Nat.succ_mul]; omega
      rw [List.getElem?_append_right (by rw [hE.len, Nat.succ_mul]; omega), hE.len, e1]
      exact ih j i v u (by simpa using hj) hi

/-- The slice value '.slice A l.length cap' reads as l, below block B. -/
def RQ (enc : α → List Value) (k : Nat) (w : World) (B : Nat) (A : Option Addr) (l : List α) : Prop :=
  0 < l.length → ∃ b off, A = some ⟨b, off, none⟩ ∧ b < B ∧ ∀ j v, l[j]? = some v → w.rangeAt b (off + j * k) (enc v)
theorem RQ.nil {w : World} {B : Nat} {A : Option Addr} : RQ enc k w B A [] := fun h => absurd h (by simp)
theorem RQ.keep {w w' : World} {B : Nat} {A : Option Addr} {l : List α} (h : RQ enc k w B A l) (hk : ∀ p : Addr, p.block < B → w'.cell? p = w.cell? p) : RQ enc k w' B A l := fun hn => by
  obtain ⟨b, off, rfl, hb, hc⟩ := h hn
  exact ⟨b, off, rfl, hb, fun j v hj i u hu => (hk _ hb).trans (hc j v hj i u hu)⟩
theorem RQ.more {w : World} {B B' : Nat} {A : Option Addr} {l : List α} (h : RQ enc k w B A l) (hB : B ≤ B') : RQ enc k w B' A l := fun hn => by
  obtain ⟨b, off, rfl, hb, hc⟩ := h hn
  exact ⟨b, off, rfl, by omega, hc⟩
theorem RQ.below {w w' : World} {B : Nat} {A : Option Addr} {l : List α} (h : RQ enc k w B A l) (hb : Below B w w') : RQ enc k w' B A l := h.keep fun _ hp => hb.cell hp
theorem RQ.drew {w : World} {B : Nat} {A : Option Addr} {l : List α} (h : RQ enc k w B A l) : RQ enc k w.drew B A l := h
theorem RQ.mod {w w' : World} {B : Nat} {A : Option Addr} {l : List α} {S : Nat → Prop} (h : RQ enc k w B A l) (hm : Mod w w' S) (hB : B ≤ w.heap.size) (hS : ∀ k, k < B → ¬ S k) : RQ enc k w' B A l :=
  h.keep fun p hp => hm.cell (by omega) (hS _ hp)
theorem RQ.at_ {w : World} {B : Nat} {A : Option Addr} {l : List α} (h : RQ enc k w B A l) {j : Nat} (hj : j < l.length) :
    ∃ b off v, A = some ⟨b, off, none⟩ ∧ b < B ∧ l[j]? = some v ∧ w.rangeAt b (off + j * k) (enc v) := by
  obtain ⟨b, off, rfl, hb, hc⟩ := h (by omega)
  have hv := List.getElem?_eq_getElem hj
  exact ⟨b, off, l[j], rfl, hb, hv, hc j _ hv⟩
theorem RQ.take {w : World} {B : Nat} {A : Option Addr} {l : List α} (h : RQ enc k w B A l) (m : Nat) : RQ enc k w B A (l.take m) := fun hn => by
  obtain ⟨b, off, rfl, hb, hc⟩ := h (by rw [List.length_take] at hn; omega)
  refine ⟨b, off, rfl, hb, fun j v hj => hc j v ?_⟩
  rw [List.getElem?_take] at hj
  split at hj
  · exact hj
  · cases hj
theorem RQ.drop {w : World} {B b off : Nat} {l : List α} (h : RQ enc k w B (some ⟨b, off, none⟩) l) (m : Nat) : RQ enc k w B (some ⟨b, off + m * k, none⟩) (l.drop m) := fun hn => by
  obtain ⟨b', off', e', hb, hc⟩ := h (by rw [List.length_drop] at hn; omega)
  injection e' with e'; injection e' with e1 e2; subst e1 e2
  refine ⟨b, off + m * k, rfl, hb, fun j v hj => ?_⟩
  rw [List.getElem?_drop] at hj
  have := hc (m + j) v hj
  rwa [show off + (m + j) * k = off + m * k + j * k by rw [Nat.add_mul]; omega] at this

/-- The slice value v owns the elements l. -/
def OQ (enc : α → List Value) (k : Nat) (e : TypeId) (w : World) (base : Nat) (v : Value) (l : List α) : Prop := w.ownsRow base e k v l.length (flatQ enc l)
theorem OQ.nil (w : World) (base : Nat) : OQ enc k e w base (.slice none 0 0) ([] : List α) := World.ownsRow_nil w base _ k
theorem OQ.lt {w : World} {base : Nat} {v : Value} {l : List α} (h : OQ enc k e w base v l) : ∀ j, v.ownBlock = some j → base ≤ j ∧ j < w.heap.size := World.ownsRow.lt h
theorem OQ.alloc {w : World} {base : Nat} {v : Value} {l : List α} (h : OQ enc k e w base v l) (o : Obj) : OQ enc k e (w.alloc o) base v l := World.ownsRow.alloc h o
theorem OQ.drew {w : World} {base : Nat} {v : Value} {l : List α} (h : OQ enc k e w base v l) : OQ enc k e w.drew base v l := h
theorem OQ.form (hE : EncK enc k) {w : World} {base : Nat} {v : Value} {l : List α} (h : OQ enc k e w base v l) : ∃ A cap, v = .slice A l.length cap ∧ RQ enc k w w.heap.size A l ∧ l.length ≤ cap ∧ cap ≤ maxLen ∧ ∀ b off, A = some ⟨b, off, none⟩ → off = 0 ∧ base ≤ b := by
  have hl := World.ownsRow.lt h
  have hc := @World.ownsRow.cells w base e k v l.length (flatQ enc l) h
  rcases h.2 with ⟨rfl, h0⟩ | ⟨g, cap, cur, rfl, hb, _, h1, h2, _⟩
  · have : l = [] := List.eq_nil_of_length_eq_zero h0
    subst this
    exact ⟨none, 0, rfl, RQ.nil, Nat.le_refl _, Nat.zero_le _, fun b off h => by cases h⟩
  · refine ⟨_, cap, rfl, fun _ => ⟨g, 0, rfl, (hl g rfl).2, fun j v hj i u hu => ?_⟩, h1, h2, fun b off h => by injection h with h; injection h with h1 h2; subst h1 h2; exact ⟨rfl, hb⟩⟩
    have := hc (g := g) rfl (j * k + i) u (flatQ_at hE l j i v u hj hu)
    rw [Addr.add_lit] at this
    rw [show 0 + j * k + i = 0 + (j * k + i) by omega]; exact this
theorem OQ.mod {w w' : World} {base : Nat} {v : Value} {l : List α} {S : Nat → Prop} (h : OQ enc k e w base v l) (hm : Mod w w' S) (hS : ∀ j, v.ownBlock = some j → ¬ S j) : OQ enc k e w' base v l := by
  refine ⟨h.1, ?_⟩
  rcases h.2 with h2 | ⟨g, cap, cur, rfl, hb, hh, r⟩
  · exact .inl h2
  · have hlt := Blk.lt (t := e) hh
    exact .inr ⟨g, cap, cur, rfl, hb, (hm.block g hlt (hS g rfl)).trans hh, r⟩
theorem OQ.under {w w' : World} {base : Nat} {v : Value} {l : List α} (h : OQ enc k e w base v l) (hb : Below w.heap.size w w') : OQ enc k e w' base v l :=
  h.mod (Mod.of_below hb) (fun j hj => by have := (h.lt j hj).2; omega)
theorem OQ.base0 {w : World} {base base' : Nat} {v : Value} {l : List α} (h : OQ enc k e w base v l) (hb : base' ≤ base) : OQ enc k e w base' v l := by
  refine ⟨h.1, ?_⟩
  rcases h.2 with h2 | ⟨g, cap, cur, rfl, hb', r⟩
  · exact .inl h2
  · exact .inr ⟨g, cap, cur, rfl, by omega, r⟩
theorem OQ.ne_blk {t : TypeId} {w : World} {base g : Nat} {v : Value} {l : List α} {cs : Array Value} (h : OQ enc k e w base v l) (hb : Blk w g t cs) (hne : e ≠ t) : v.ownBlock ≠ some g := by
  rcases h.2 with ⟨rfl, _⟩ | ⟨g', cap, cur, rfl, _, hh, _⟩
  · simp [Value.ownBlock]
  · intro he
    have : g' = g := by simpa [Value.ownBlock] using he
    subst this
    unfold Blk at hb; rw [hh] at hb; injection hb with hb; injection hb with _ h1; exact hne h1

section
variable {P : Program} {t : TypeId} {bytes : Nat}
theorem run_appQ_nil (hT : TypK P t e k bytes) (w : World) (ty : TypeId) (base : Nat) (v : Value) (l : List α) (hown : OQ enc k e w base v l) (A : Option Addr) (c : Nat) :
    (Builtin.append_ #[t, t] ty #[v, .slice A 0 c]).run P w = .ok v w := by
  obtain ⟨i, z, hi, hz, hs, hb, hzs⟩ := hT.i
  rcases hown.2 with ⟨rfl, _⟩ | ⟨g, cap, cur, rfl, _, _, hnc, _⟩ <;> rcases A with _ | A <;>
    simp [Builtin.append_, run_underlying hT.u, sizeOf, typeInfo, hi, Builtin.lenOf, Builtin.firstCells, storeCells, loadCells, loadCellsFrom, *]
theorem run_appQ (hE : EncK enc k) (hT : TypK P t e k bytes) (w : World) (ty : TypeId) (base : Nat) (v : Value) (l : List α) (hown : OQ enc k e w base v l) (B : Nat) (A : Option Addr) (m : List α) (c : Nat) (hr : RQ enc k w B A m)
    (hlen : l.length + m.length ≤ maxLen) (hby : (l.length + m.length) * bytes ≤ 140737488355328) (hbase : base ≤ w.heap.size) :
    ∃ v' w', (Builtin.append_ #[t, t] ty #[v, .slice A m.length c]).run P w = .ok v' w' ∧ OQ enc k e w' base v' (l ++ m) ∧ Grew w w' v v' := by
  obtain ⟨i, z, hi, hz, hs, hb, hzs⟩ := hT.i
  by_cases h0 : m.length = 0
  · obtain rfl : m = [] := List.eq_nil_of_length_eq_zero h0
    exact ⟨v, w, run_appQ_nil hT w ty base v l hown A c, by simpa using hown, Grew.refl w v⟩
  · obtain ⟨b, off, rfl, _, hc⟩ := hr (by omega)
    obtain ⟨v', w', h1, h2, h3, _, h5⟩ := run_append_own_at (P := P) w base t ty e i z k bytes hT.u hi hz hs hb hzs hE.pos v l.length (flatQ enc l) hown ⟨b, off, none⟩ m.length c (flatQ enc m) (flatQ_length hE m)
      (fun j u hu => by
        have hj : j < m.length * k := by
          have := (List.getElem?_eq_some_iff.1 hu).1
          rwa [flatQ_length hE] at this
        have hq : j / k < m.length := (Nat.div_lt_iff_lt_mul hE.pos).2 hj
        have hv := List.getElem?_eq_getElem hq
        have hm : j % k < k := Nat.mod_lt _ hE.pos
        have hu2 := List.getElem?_eq_getElem (l := enc m[j / k]) (i := j % k) (by rw [hE.len]; exact hm)
        have h1 := flatQ_at hE m (j / k) (j % k) _ _ hv hu2
        have ej : j / k * k + j % k = j := by rw [Nat.mul_comm]; exact Nat.div_add_mod j k
        rw [ej, hu] at h1
        have h3 := hc _ _ hv _ _ hu2
        rw [Addr.add_lit]
        rw [show off + j / k * k + j % k = off + j by omega] at h3
        rw [h3]; exact h1.symm) (flatQ_one hE m) hlen hby hbase
    refine ⟨v', w', h1, ?_, h3, h5.imp id fun h => ⟨_, h, Nat.le_refl _⟩⟩
    unfold OQ
    rw [List.length_append, flatQ_append]
    exact h2
/-- 'append(v, m...)'. -/
theorem wpList_appQ {ops : Array Oper} {rest : List Oper} {o : Oper} {a : Act} {Q : Exit → Act → World → Prop} {w : World} (hE : EncK enc k) (hT : TypK P t e k bytes) (hgd : o.guard = none) (s x : Operand)
    (ho : o.op = .call { callee := .builtin .append, args := #[s, x], argTypes := #[t, t] }) (base : Nat) (v : Value) (l : List α) (hs : a.eval s = v) (hown : OQ enc k e w base v l)
    (B : Nat) (A : Option Addr) (m : List α) (c : Nat) (hx : a.eval x = .slice A m.length c) (hr : RQ enc k w B A m) (hlen : l.length + m.length ≤ maxLen) (hby : (l.length + m.length) * bytes ≤ 140737488355328) (hbase : base ≤ w.heap.size)
    (h : ∀ v' w', OQ enc k e w' base v' (l ++ m) → Grew w w' v v' → wpList P ops Q rest (a.put o.dst v') w') : wpList P ops Q (o :: rest) a w := by
  obtain ⟨v', w', h1, h2, h3⟩ := run_appQ hE hT w o.type base v l hown B A m c hr hlen hby hbase
  exact wpList_append_of hgd s x t t ho hs hx h1 (h v' w' h2 h3)
theorem rq_new (hE : EncK enc k) (w : World) (t : TypeId) (x : α) (cs : Array Value) (hc : cs.toList = enc x) : RQ enc k (w.alloc (.cells cs t)) (w.heap.size + 1) (some ⟨w.heap.size, 0, none⟩) [x] := fun _ => by
  refine ⟨_, _, rfl, by omega, fun j v hj i u hu => ?_⟩
  match j, hj with
  | 0, hj =>
    simp at hj; subst hj
    rw [World.cell?_alloc_at _ _ _ _ rfl, show 0 + 0 * k + i = i by omega]
    show cs[i]? = some u
    rw [← hc] at hu
    simpa using hu
/-- 'append(v, x)': the element lies in a new block of its own. -/
theorem wpList_pushQ {ops : Array Oper} {rest : List Oper} {o : Oper} {a : Act} {Q : Exit → Act → World → Prop} {w : World} (hE : EncK enc k) (hT : TypK P t e k bytes) (hgd : o.guard = none) (s y : Operand)
    (ho : o.op = .call { callee := .builtin .append, args := #[s, y], argTypes := #[t, t] }) (base : Nat) (v : Value) (l : List α) (hs : a.eval s = v) (x : α) (cs : Array Value) (hc : cs.toList = enc x) (hown : OQ enc k e w base v l)
    (hx : a.eval y = .slice (some ⟨w.heap.size, 0, none⟩) 1 1) (hlen : l.length + 1 ≤ maxLen) (hby : (l.length + 1) * bytes ≤ 140737488355328) (hbase : base ≤ w.heap.size)
    (h : ∀ v' w', OQ enc k e w' base v' (l ++ [x]) → Grew w w' v v' → wpList P ops Q rest (a.put o.dst v') w') : wpList P ops Q (o :: rest) a (w.alloc (.cells cs e)) :=
  wpList_appQ hE hT hgd s y ho base v l hs (hown.alloc _) (w.heap.size + 1) (some ⟨w.heap.size, 0, none⟩) [x] 1 hx (rq_new hE w e x cs hc) hlen hby (by simp; omega) fun v' w' h1 h2 => h v' w' h1 h2.alloc
end
end
end Go.Proofs.Ytocohoojnjdkiaa
