/- Small words that the walks of this seat share: bytes as cells; a slice that reads as a list of bytes. Plain lemmas, no program. -/
import Derived.WalkKit
import Derived.Lib.Hide
import Derived.Maps.AppendAt
import Derived.Deep.AppendLies
import Derived.Deep.Draws
import Derived.Laws.OwnMore
import Derived.Lib.AppendStr
import Derived.Laws.BytesArg
set_option linter.unusedVariables false
namespace Go.Proofs.Ytocohoojnjdkiaa
open Go.RowKit

/-- A byte as a cell. -/
abbrev bv (c : UInt8) : Value := .int .u8 (c.toNat : Int)

/-- The slice value '.slice A l.length cap' reads as the bytes l, below block B. -/
def RB (w : World) (B : Nat) (A : Option Addr) (l : List UInt8) : Prop :=
  0 < l.length → ∃ b off, A = some ⟨b, off, none⟩ ∧ b < B ∧ ∀ j c, l[j]? = some c → w.cell? ⟨b, off + j, none⟩ = some (bv c)

theorem RB.nil {w : World} {B : Nat} {A : Option Addr} : RB w B A [] := fun h => absurd h (by simp)

theorem RB.keep {w w' : World} {B : Nat} {A : Option Addr} {l : List UInt8} (h : RB w B A l) (hk : ∀ p : Addr, p.block < B → w'.cell? p = w.cell? p) : RB w' B A l := fun hn => by
  obtain ⟨b, off, rfl, hb, hc⟩ := h hn
  exact ⟨b, off, rfl, hb, fun j c hj => (hk _ hb).trans (hc j c hj)⟩

theorem RB.more {w : World} {B B' : Nat} {A : Option Addr} {l : List UInt8} (h : RB w B A l) (hB : B ≤ B') : RB w B' A l := fun hn => by
  obtain ⟨b, off, rfl, hb, hc⟩ := h hn
  exact ⟨b, off, rfl, by omega, hc⟩

theorem RB.below {w w' : World} {B : Nat} {A : Option Addr} {l : List UInt8} (h : RB w B A l) (hb : Below B w w') : RB w' B A l := h.keep fun _ hp => hb.cell hp

theorem RB.at_ {w : World} {B : Nat} {A : Option Addr} {l : List UInt8} (h : RB w B A l) {k : Nat} (hk : k < l.length) :
    ∃ b off c, A = some ⟨b, off, none⟩ ∧ b < B ∧ l[k]? = some c ∧ w.cell? ⟨b, off + k, none⟩ = some (bv c) := by
  obtain ⟨b, off, rfl, hb, hc⟩ := h (by omega)
  exact ⟨b, off, l[k], rfl, hb, List.getElem?_eq_getElem hk, hc k _ (List.getElem?_eq_getElem hk)⟩

theorem RB.drew {w : World} {B : Nat} {A : Option Addr} {l : List UInt8} (h : RB w B A l) : RB w.drew B A l := h
theorem RB.take {w : World} {B : Nat} {A : Option Addr} {l : List UInt8} (h : RB w B A l) (k : Nat) : RB w B A (l.take k) := fun hn => by
  obtain ⟨b, off, rfl, hb, hc⟩ := h (by simp at hn; omega)
  refine ⟨b, off, rfl, hb, fun j c hj => hc j c ?_⟩
  rw [List.getElem?_take] at hj
  split at hj
  · exact hj
  · cases hj

/-- What is known of '[]byte' and 'byte' in the program's table. -/
structure ByteSlice (P : Program) (t e : TypeId) : Prop where
  u : P.underlying t = some (.slice e)
  b : P.underlying e = some (.int .u8)
  i : (P.info? e).map (fun i => (i.zero, i.size, i.bytes)) = some (some (.int .u8 0), 1, 1)

/-- The slice value v owns the bytes l, in a block from 'base' on. -/
def OB (e : TypeId) (w : World) (base : Nat) (v : Value) (l : List UInt8) : Prop := w.ownsRow base e 1 v l.length (l.map bv)

theorem OB.nil (e : TypeId) (w : World) (base : Nat) : OB e w base (.slice none 0 0) [] := World.ownsRow_nil w base e 1
theorem OB.alloc {e : TypeId} {w : World} {base : Nat} {v : Value} {l : List UInt8} (h : OB e w base v l) (o : Obj) : OB e (w.alloc o) base v l := World.ownsRow.alloc h o
theorem OB.drew {e : TypeId} {w : World} {base : Nat} {v : Value} {l : List UInt8} (h : OB e w base v l) : OB e w.drew base v l := h
theorem OB.kept {e : TypeId} {w w' : World} {base : Nat} {v : Value} {l : List UInt8} {row : Option Nat} (h : OB e w base v l) (hg : w.grownBy w' row) (hne : v.ownBlock = none ∨ v.ownBlock ≠ row) : OB e w' base v l := World.ownsRow.kept h hg hne
theorem OB.lt {e : TypeId} {w : World} {base : Nat} {v : Value} {l : List UInt8} (h : OB e w base v l) : ∀ k, v.ownBlock = some k → base ≤ k ∧ k < w.heap.size := World.ownsRow.lt h

/-- Its shape, and that it reads as the bytes. -/
theorem OB.form {e : TypeId} {w : World} {base : Nat} {v : Value} {l : List UInt8} (h : OB e w base v l) :
    ∃ A cap, v = .slice A l.length cap ∧ RB w w.heap.size A l ∧ l.length ≤ cap ∧ cap ≤ maxLen := by
  have hl := World.ownsRow.lt h
  have hc := @World.ownsRow.cells w base e 1 v l.length (l.map bv) h
  rcases h.2 with ⟨rfl, h0⟩ | ⟨g, cap, cur, rfl, _, _, h1, h2, _⟩
  · have : l = [] := List.eq_nil_of_length_eq_zero h0
    subst this
    exact ⟨none, 0, rfl, RB.nil, Nat.le_refl _, Nat.zero_le _⟩
  · refine ⟨_, cap, rfl, fun _ => ⟨g, 0, rfl, (hl g rfl).2, fun j c hj => ?_⟩, h1, h2⟩
    have := hc (g := g) rfl j (bv c) (by simp [hj])
    simpa [Addr.add_lit] using this

/-- What one append, or many, do to the world: new blocks, and writes to the block of the value that was appended to. -/
def Grew (w w' : World) (v v' : Value) : Prop := w.grownBy w' v.ownBlock ∧ (v'.ownBlock = v.ownBlock ∨ ∃ k, v'.ownBlock = some k ∧ w.heap.size ≤ k)

theorem Grew.refl (w : World) (v : Value) : Grew w w v v := ⟨World.grownBy.refl w _, .inl rfl⟩
theorem Grew.trans {a b c : World} {u v x : Value} (h : Grew a b u v) (k : Grew b c v x) : Grew a c u x := by
  refine ⟨⟨k.1.os.trans h.1.os, k.1.tape.trans h.1.tape, k.1.output.trans h.1.output, Nat.le_trans h.1.size k.1.size, fun i hi hne => ?_⟩, ?_⟩
  · refine (k.1.block i (Nat.lt_of_lt_of_le hi h.1.size) ?_).trans (h.1.block i hi hne)
    rcases h.2 with e | ⟨j, e, hj⟩ <;> rw [e]
    · exact hne
    · intro e'; injection e' with e'; omega
  · rcases k.2 with e | ⟨j, e, hj⟩
    · rw [e]; exact h.2
    · exact .inr ⟨j, e, Nat.le_trans h.1.size hj⟩
theorem Grew.alloc {w w' : World} {v v' : Value} {o : Obj} (h : Grew (w.alloc o) w' v v') : Grew w w' v v' := by
  have hs : (w.alloc o).heap.size = w.heap.size + 1 := by simp
  refine ⟨⟨h.1.os, h.1.tape, h.1.output, by have := h.1.size; omega, fun i hi hne => (h.1.block i (by omega) hne).trans (Below.heap_alloc _ _ _ hi)⟩, ?_⟩
  rcases h.2 with e | ⟨j, e, hj⟩
  · exact .inl e
  · exact .inr ⟨j, e, by omega⟩
theorem Grew.below {w w' : World} {v v' : Value} {B : Nat} (h : Grew w w' v v') (hB : B ≤ w.heap.size) (hv : ∀ k, v.ownBlock = some k → B ≤ k) : Below B w w' :=
  ⟨h.1.os, h.1.tape, h.1.output, h.1.size, fun k hk => h.1.block k (by omega) (fun e => by have := hv k e.symm; omega)⟩

section
variable {P : Program} {t e : TypeId}
theorem ByteSlice.parts (hP : ByteSlice P t e) : ∃ i, P.info? e = some i ∧ i.zero = some (.int .u8 0) ∧ i.size = 1 ∧ i.bytes = 1 := info_parts hP.i

theorem bvs_oneCell (l : List UInt8) : ∀ u ∈ l.map bv, u.oneCell' = true := by
  intro u hu
  obtain ⟨_, _, rfl⟩ := List.mem_map.1 hu
  rfl

theorem run_app_nil (hP : ByteSlice P t e) (w : World) (ty : TypeId) (base : Nat) (v : Value) (l : List UInt8) (hown : OB e w base v l) (A : Option Addr) (c : Nat) :
    (Builtin.append_ #[t, t] ty #[v, .slice A 0 c]).run P w = .ok v w := by
  obtain ⟨i, hi, hz, hs, hb⟩ := hP.parts
  rcases hown.2 with ⟨rfl, _⟩ | ⟨g, cap, cur, rfl, _, _, hnc, _⟩ <;> rcases A with _ | A <;>
    simp [Builtin.append_, run_underlying hP.u, sizeOf, typeInfo, hi, Builtin.lenOf, Builtin.firstCells, storeCells, loadCells, loadCellsFrom, *]

theorem run_app (hP : ByteSlice P t e) (w : World) (ty : TypeId) (base : Nat) (v : Value) (l : List UInt8) (hown : OB e w base v l) (B : Nat) (A : Option Addr) (m : List UInt8) (c : Nat) (hr : RB w B A m)
    (hlen : l.length + m.length ≤ 140737488355328) (hbase : base ≤ w.heap.size) :
    ∃ v' w', (Builtin.append_ #[t, t] ty #[v, .slice A m.length c]).run P w = .ok v' w' ∧ OB e w' base v' (l ++ m) ∧ Grew w w' v v' := by
  obtain ⟨i, hi, hz, hs, hb⟩ := hP.parts
  by_cases h0 : m.length = 0
  · obtain rfl : m = [] := List.eq_nil_of_length_eq_zero h0
    exact ⟨v, w, run_app_nil hP w ty base v l hown A c, by simpa using hown, Grew.refl w v⟩
  · obtain ⟨b, off, rfl, _, hc⟩ := hr (by omega)
    obtain ⟨v', w', h1, h2, h3, _, h5⟩ := run_append_own_at (P := P) w base t ty e i (.int .u8 0) 1 1 hP.u hi hz hs hb rfl (by omega) v l.length (l.map bv) hown ⟨b, off, none⟩ m.length c (m.map bv) (by simp)
      (fun j u hu => by
        rw [List.getElem?_map, Option.map_eq_some_iff] at hu
        obtain ⟨c', hc', rfl⟩ := hu
        rw [Addr.add_lit]; exact hc j c' hc') (bvs_oneCell m) (by unfold maxLen; omega) (by omega) hbase
    refine ⟨v', w', h1, ?_, h3, h5.imp id fun h => ⟨_, h, Nat.le_refl _⟩⟩
    unfold OB; simpa using h2

theorem wpList_append_of {ops : Array Oper} {rest : List Oper} {o : Oper} {a : Act} {Q : Exit → Act → World → Prop} {w : World} (hgd : o.guard = none) (s x : Operand) (t u : TypeId)
    (ho : o.op = .call { callee := .builtin .append, args := #[s, x], argTypes := #[t, u] }) {v x' v' : Value} {w' : World} (hs : a.eval s = v) (hx : a.eval x = x')
    (hr : (Builtin.append_ #[t, u] o.type #[v, x']).run P w = .ok v' w') (h : wpList P ops Q rest (a.put o.dst v') w') : wpList P ops Q (o :: rest) a w := by
  refine wpList_plain hgd fun K hK => ?_
  unfold Oper.wp execOp
  simp only [ho, resolve, invoke, builtin, Sem.run_bind, Sem.run_pure, Result.andThen_ok, List.map_toArray, List.map_cons, List.map_nil, hs, hx, hr]
  exact hK _ _ h

/-- 'append(v, m...)'. -/
theorem wpList_app {ops : Array Oper} {rest : List Oper} {o : Oper} {a : Act} {Q : Exit → Act → World → Prop} {w : World} (hP : ByteSlice P t e) (hgd : o.guard = none) (s x : Operand)
    (ho : o.op = .call { callee := .builtin .append, args := #[s, x], argTypes := #[t, t] }) (base : Nat) (v : Value) (l : List UInt8) (hs : a.eval s = v) (hown : OB e w base v l)
    (B : Nat) (A : Option Addr) (m : List UInt8) (c : Nat) (hx : a.eval x = .slice A m.length c) (hr : RB w B A m) (hlen : l.length + m.length ≤ 140737488355328) (hbase : base ≤ w.heap.size)
    (h : ∀ v' w', OB e w' base v' (l ++ m) → Grew w w' v v' → wpList P ops Q rest (a.put o.dst v') w') : wpList P ops Q (o :: rest) a w := by
  obtain ⟨v', w', h1, h2, h3⟩ := run_app hP w o.type base v l hown B A m c hr hlen hbase
  exact wpList_append_of hgd s x t t ho hs hx h1 (h v' w' h2 h3)

/-- 'append(v, c)': the byte lies in a new block of its own. -/
theorem wpList_push {ops : Array Oper} {rest : List Oper} {o : Oper} {a : Act} {Q : Exit → Act → World → Prop} {w : World} (hP : ByteSlice P t e) (hgd : o.guard = none) (s x : Operand)
    (ho : o.op = .call { callee := .builtin .append, args := #[s, x], argTypes := #[t, t] }) (base : Nat) (v : Value) (l : List UInt8) (hs : a.eval s = v) (u : Value) (c : UInt8) (hu : u = bv c) (hown : OB e w base v l)
    (hx : a.eval x = .slice (some ⟨w.heap.size, 0, none⟩) 1 1) (hlen : l.length + 1 ≤ 140737488355328) (hbase : base ≤ w.heap.size)
    (h : ∀ v' w', OB e w' base v' (l ++ [c]) → Grew w w' v v' → wpList P ops Q rest (a.put o.dst v') w') : wpList P ops Q (o :: rest) a (w.alloc (.cells #[u] e)) := by
  subst hu
  refine wpList_app hP hgd s x ho base v l hs (hown.alloc _) (w.heap.size + 1) (some ⟨w.heap.size, 0, none⟩) [c] 1 hx ?_ (by simpa using hlen) (by simp; omega) fun v' w' h1 h2 => h v' w' h1 h2.alloc
  intro _
  refine ⟨_, _, rfl, by omega, fun j c' hj => ?_⟩
  match j, hj with
  | 0, hj =>
    simp at hj; subst hj
    rw [World.cell?_alloc_at _ _ _ _ rfl]; rfl

theorem run_app_str (hP : ByteSlice P t e) (w : World) (ty u : TypeId) (hu : P.underlying u = some .string) (base : Nat) (v : Value) (l : List UInt8) (hown : OB e w base v l) (s : ByteArray)
    (hlen : l.length + s.size ≤ 140737488355328) (hbase : base ≤ w.heap.size) :
    ∃ v' w', (Builtin.append_ #[t, u] ty #[v, .string s]).run P w = .ok v' w' ∧ OB e w' base v' (l ++ s.data.toList) ∧ Grew w w' v v' := by
  obtain ⟨i, hi, hz, hs1, hb⟩ := hP.parts
  obtain ⟨v', w', hr, h2, h3, _⟩ := Lib.run_append_own_string (P := P) w base t u ty e i hP.u hu hi hz hs1 hb v l.length (l.map bv) hown s (by unfold maxLen; omega) hlen hbase
  have e1 : (l ++ s.data.toList).length = l.length + s.size := by simp
  have e2 : (l ++ s.data.toList).map bv = l.map bv ++ Lib.strCells s := by simp [Lib.strCells]
  refine ⟨v', w', hr, by unfold OB; rw [e1, e2]; exact h2, h3, ?_⟩
  rcases hown.2 with ⟨rfl, h0⟩ | ⟨g, cap, cur, rfl, hbg, hg, hnc, hcm, hcs, htake⟩
  · have hl : l = [] := List.eq_nil_of_length_eq_zero h0
    subst hl
    obtain ⟨v2, w2, hr2, h5, _, _⟩ := Lib.run_append_own_string (P := P) w w.heap.size t u ty e i hP.u hu hi hz hs1 hb (.slice none 0 0) 0 [] (World.ownsRow_nil w _ e 1) s (by unfold maxLen; omega) (by omega) (Nat.le_refl _)
    rw [hr] at hr2
    injection hr2 with hv _
    subst hv
    cases hv' : v'.ownBlock with
    | none => exact .inl rfl
    | some k => exact .inr ⟨k, rfl, (World.ownsRow.lt h5 k hv').1⟩
  · by_cases hroom : l.length + s.size ≤ cap
    · have hr2 := Lib.run_append_room_string (P := P) w t u ty e i hP.u hu hi hs1 g l.length cap cur hg s hroom (by omega)
      rw [hr] at hr2
      injection hr2 with hv _
      subst hv
      exact .inl rfl
    · have holds : ∀ j u, (l.map bv)[j]? = some u → w.cell? ((⟨g, 0, none⟩ : Addr).add j) = some u := World.ownsRow.cells hown (g := g) rfl
      have hr2 := Lib.run_append_grow_string (P := P) w t u ty e i (.int .u8 0) hP.u hu hi hz ⟨g, 0, none⟩ l.length cap (l.map bv) (by rw [hs1]; simp) holds s (by omega) (by omega) (by rw [hb]; exact growslice_fits (by omega) (by omega))
      rw [hr] at hr2
      injection hr2 with hv _
      subst hv
      exact .inr ⟨_, rfl, Nat.le_refl _⟩

/-- The same where the new block's number is spelled otherwise. -/
theorem wpList_pushG {ops : Array Oper} {rest : List Oper} {o : Oper} {a : Act} {Q : Exit → Act → World → Prop} {w : World} (hP : ByteSlice P t e) (hgd : o.guard = none) (s x : Operand)
    (ho : o.op = .call { callee := .builtin .append, args := #[s, x], argTypes := #[t, t] }) (base : Nat) (v : Value) (l : List UInt8) (hs : a.eval s = v) (u : Value) (c : UInt8) (hu : u = bv c) (hown : OB e w base v l)
    (G : Nat) (hx : a.eval x = .slice (some ⟨G, 0, none⟩) 1 1) (hG : w.heap.size = G) (hlen : l.length + 1 ≤ 140737488355328) (hbase : base ≤ w.heap.size)
    (h : ∀ v' w', OB e w' base v' (l ++ [c]) → Grew w w' v v' → wpList P ops Q rest (a.put o.dst v') w') : wpList P ops Q (o :: rest) a (w.alloc (.cells #[u] e)) := by
  subst hG
  exact wpList_push hP hgd s x ho base v l hs u c hu hown hx hlen hbase h

/-- 'append(v, s...)', s a string. -/
theorem wpList_app_str {ops : Array Oper} {rest : List Oper} {o : Oper} {a : Act} {Q : Exit → Act → World → Prop} {w : World} (hP : ByteSlice P t e) (hgd : o.guard = none) (sl x : Operand) (u : TypeId)
    (hu : P.underlying u = some .string) (ho : o.op = .call { callee := .builtin .append, args := #[sl, x], argTypes := #[t, u] }) (base : Nat) (v : Value) (l : List UInt8) (hs : a.eval sl = v) (hown : OB e w base v l)
    (s : ByteArray) (hx : a.eval x = .string s) (hlen : l.length + s.size ≤ 140737488355328) (hbase : base ≤ w.heap.size)
    (h : ∀ v' w', OB e w' base v' (l ++ s.data.toList) → Grew w w' v v' → wpList P ops Q rest (a.put o.dst v') w') : wpList P ops Q (o :: rest) a w := by
  obtain ⟨v', w', h1, h2, h3⟩ := run_app_str hP w o.type u hu base v l hown s hlen hbase
  exact wpList_append_of hgd sl x t u ho hs hx h1 (h v' w' h2 h3)

theorem list_toNat (l : List UInt8) : (l.map fun c => (c.toNat : Int)).map (fun n => UInt8.ofNat n.toNat) = l := by
  induction l with
  | nil => rfl
  | cons c r ih => rw [List.map_cons, List.map_cons, ih]; simp

/-- 'string(b)'. -/
theorem run_str (hP : ByteSlice P t e) (d : TypeId) (hd : P.underlying d = some .string) {w : World} {B : Nat} {A : Option Addr} {l : List UInt8} (hr : RB w B A l) (c : Nat) :
    (convert t d (.slice A l.length c)).run P w = .ok (.string ⟨l.toArray⟩) w := by
  by_cases h0 : l.length = 0
  · obtain rfl : l = [] := List.eq_nil_of_length_eq_zero h0
    rcases A with _ | A
    · rw [run_convert_bytes_nil w t e hP.u hP.b _ _ d hd]; rfl
    · rw [run_convert_bytes_string w t d e _ _ _ hP.u hP.b hd, List.length_nil, run_bytesToString w A 0 c [] (by simp [loadCells, loadCellsFrom])]; rfl
  · obtain ⟨b, off, rfl, _, hc⟩ := hr (by omega)
    rw [run_convert_bytes_arg w t e hP.u hP.b b off l.length c (l.map fun c => (c.toNat : Int)) (by simp) (fun i hi => by rw [hc i l[i] (List.getElem?_eq_getElem hi)]; simp [List.getD, hi]) d hd]
    unfold strOfNums; rw [list_toNat]
end

/-- From w to w' nothing has turned but new blocks and the blocks in S. -/
structure Mod (w w' : World) (S : Nat → Prop) : Prop where
  os : w'.os = w.os
  tape : w'.tape = w.tape
  output : w'.output = w.output
  size : w.heap.size ≤ w'.heap.size
  block : ∀ k, k < w.heap.size → ¬ S k → w'.heap[k]? = w.heap[k]?

section
variable {a b c w w' : World} {S T : Nat → Prop}
theorem Mod.refl (w : World) (S : Nat → Prop) : Mod w w S := ⟨rfl, rfl, rfl, Nat.le_refl _, fun _ _ _ => rfl⟩
theorem Mod.trans (h : Mod a b S) (k : Mod b c T) (hST : ∀ i, i < a.heap.size → T i → S i) : Mod a c S :=
  ⟨k.os.trans h.os, k.tape.trans h.tape, k.output.trans h.output, Nat.le_trans h.size k.size, fun i hi hn => (k.block i (Nat.lt_of_lt_of_le hi h.size) (fun ht => hn (hST i hi ht))).trans (h.block i hi hn)⟩
theorem Mod.mono (h : Mod a b S) (hST : ∀ i, i < a.heap.size → S i → T i) : Mod a b T := ⟨h.os, h.tape, h.output, h.size, fun i hi hn => h.block i hi fun hs => hn (hST i hi hs)⟩
theorem Mod.alloc (h : Mod a b S) (o : Obj) : Mod a (b.alloc o) S :=
  h.trans (T := fun _ => False) ⟨rfl, rfl, rfl, by simp, fun i hi _ => Below.heap_alloc b o i hi⟩ fun _ _ h => h.elim
theorem Mod.drew (h : Mod a b S) : Mod a b.drew S := ⟨h.os, h.tape, h.output, h.size, h.block⟩
theorem Mod.drewN (h : Mod a b S) (n : Nat) : Mod a (b.drewN n) S := ⟨h.os, h.tape, h.output, h.size, h.block⟩
theorem Mod.setCell (h : Mod a b S) {p : Addr} (hp : p.block < a.heap.size → S p.block) (u : Value) : Mod a (b.setCell p u) S :=
  ⟨h.os, h.tape, h.output, by simpa [World.setCell] using h.size, fun i hi hn => (Below.heap_setCell b p u i (by rintro rfl; exact hn (hp hi))).trans (h.block i hi hn)⟩
theorem Mod.of_below {B : Nat} (h : Below B a b) : Mod a b (B ≤ ·) := ⟨h.os, h.tape, h.output, h.size, fun i _ hn => h.block i (by omega)⟩
theorem Mod.of_new (h : Below a.heap.size a b) (S : Nat → Prop) : Mod a b S := ⟨h.os, h.tape, h.output, h.size, fun i hi _ => h.block i hi⟩
theorem Mod.below {B : Nat} (h : Mod a b S) (hB : B ≤ a.heap.size) (hS : ∀ i, i < a.heap.size → S i → B ≤ i) : Below B a b :=
  ⟨h.os, h.tape, h.output, h.size, fun i hi => h.block i (by omega) fun hs => by have := hS i (by omega) hs; omega⟩
theorem Mod.cell (h : Mod a b S) {p : Addr} (hp : p.block < a.heap.size) (hn : ¬ S p.block) : b.cell? p = a.cell? p := World.cell?_of_block (h.block p.block hp hn)
theorem Mod.of_grown {row : Option Nat} (h : a.grownBy b row) : Mod a b (fun k => row = some k) := ⟨h.os, h.tape, h.output, h.size, fun i hi hn => h.block i hi fun e => hn e.symm⟩
end

/-- The block that a value owns is the one that another owned, or a new one. -/
def Newer (w : World) (v v' : Value) : Prop := v'.ownBlock = v.ownBlock ∨ ∃ k, v'.ownBlock = some k ∧ w.heap.size ≤ k
theorem Newer.trans {a b : World} {u v x : Value} (h : Newer a u v) (k : Newer b v x) (hs : a.heap.size ≤ b.heap.size) : Newer a u x := by
  rcases k with e | ⟨j, e, hj⟩
  · unfold Newer; rw [e]; exact h
  · exact .inr ⟨j, e, Nat.le_trans hs hj⟩
theorem Grew.mod {w w' : World} {v v' : Value} (h : Grew w w' v v') : Mod w w' (fun k => v.ownBlock = some k) := Mod.of_grown h.1
theorem Grew.newer {w w' : World} {v v' : Value} (h : Grew w w' v v') : Newer w v v' := h.2

/-- A block known whole. -/
def Blk (w : World) (g : Nat) (t : TypeId) (cs : Array Value) : Prop := w.heap[g]? = some (.cells cs t (0, 0))
section
variable {w w' : World} {g : Nat} {t : TypeId} {cs : Array Value}
theorem Blk.lt (h : Blk w g t cs) : g < w.heap.size := by
  rcases Nat.lt_or_ge g w.heap.size with hlt | hge
  · exact hlt
  · unfold Blk at h; rw [Array.getElem?_eq_none hge] at h; cases h
theorem Blk.cell (h : Blk w g t cs) (i : Nat) : w.cell? ⟨g, i, none⟩ = cs[i]? := by unfold Blk at h; simp [World.cell?, h]
theorem Blk.frozen (h : Blk w g t cs) (i : Nat) : w.frozen? ⟨g, i, none⟩ = false := by unfold Blk at h; simp [World.frozen?, h]
theorem Blk.new (w : World) (t : TypeId) (cs : Array Value) : Blk (w.alloc (.cells cs t)) w.heap.size t cs := heap_alloc_new w _
theorem Blk.alloc (h : Blk w g t cs) (o : Obj) : Blk (w.alloc o) g t cs := (Below.heap_alloc w o g h.lt).trans h
theorem Blk.drew (h : Blk w g t cs) : Blk w.drew g t cs := h
theorem Blk.set_ (h : Blk w g t cs) (i : Nat) (u : Value) : Blk (w.setCell ⟨g, i, none⟩ u) g t (cs.setIfInBounds i u) := by
  unfold Blk at h ⊢; simp [World.setCell, Array.getElem?_modify, h]
theorem Blk.far (h : Blk w g t cs) {p : Addr} (hp : g ≠ p.block) (u : Value) : Blk (w.setCell p u) g t cs := (Below.heap_setCell w p u g hp).trans h
theorem Blk.mod {S : Nat → Prop} (h : Blk w g t cs) (hm : Mod w w' S) (hg : ¬ S g) : Blk w' g t cs := (hm.block g h.lt hg).trans h
end
theorem OB.ne_blk {e t : TypeId} {w : World} {base g : Nat} {v : Value} {l : List UInt8} {cs : Array Value} (h : OB e w base v l) (hb : Blk w g t cs) (hne : e ≠ t) : v.ownBlock ≠ some g := by
  rcases h.2 with ⟨rfl, _⟩ | ⟨g', cap, cur, rfl, _, hh, _⟩
  · simp [Value.ownBlock]
  · intro he
    have : g' = g := by simpa [Value.ownBlock] using he
    subst this
    unfold Blk at hb; rw [hh] at hb; injection hb with hb; injection hb with _ h1; exact hne h1
theorem OB.mod {e : TypeId} {w w' : World} {base : Nat} {v : Value} {l : List UInt8} {S : Nat → Prop} (h : OB e w base v l) (hm : Mod w w' S) (hS : ∀ k, v.ownBlock = some k → ¬ S k) : OB e w' base v l := by
  refine ⟨h.1, ?_⟩
  rcases h.2 with h2 | ⟨g, cap, cur, rfl, hb, hh, r⟩
  · exact .inl h2
  · have hlt := Blk.lt (t := e) hh
    exact .inr ⟨g, cap, cur, rfl, hb, (hm.block g hlt (hS g rfl)).trans hh, r⟩
theorem OB.base0 {e : TypeId} {w : World} {base base' : Nat} {v : Value} {l : List UInt8} (h : OB e w base v l) (hb : base' ≤ base) : OB e w base' v l := by
  refine ⟨h.1, ?_⟩
  rcases h.2 with h2 | ⟨g, cap, cur, rfl, hb', r⟩
  · exact .inl h2
  · exact .inr ⟨g, cap, cur, rfl, by omega, r⟩
theorem RB.mod {w w' : World} {B : Nat} {A : Option Addr} {l : List UInt8} {S : Nat → Prop} (h : RB w B A l) (hm : Mod w w' S) (hB : B ≤ w.heap.size) (hS : ∀ k, k < B → ¬ S k) : RB w' B A l :=
  h.keep fun p hp => hm.cell (by omega) (hS _ hp)

theorem below_drewN {B : Nat} {a w : World} (h : Below B a w) (n : Nat) : Below B a (w.drewN n) := ⟨h.os, h.tape, h.output, h.size, h.block⟩

theorem two_pow_128 (k : Nat) : (2 : Nat) ^ (7 * k) = 128 ^ k := by rw [Nat.pow_mul]

/-- 'n |= uint64(c) << (7*k)' where nothing is lost. -/
theorem or_shift (k N c : Nat) (hN : N < 128 ^ k) (hc : c * 128 ^ k < 18446744073709551616) (hN' : N < 18446744073709551616) :
    bits .or .u64 (N : Int) (IntKind.u64.wrap ((c : Int) * 2 ^ (7 * k))) = ((N + c * 128 ^ k : Nat) : Int) := by
  have e : (c : Int) * 2 ^ (7 * k) = ((c * 128 ^ k : Nat) : Int) := by rw [← two_pow_128]; simp
  rw [e, IntWalk.u64_in _ ⟨by omega, by omega⟩, u64_or_nat _ _ hN' hc, Nat.or_comm, nat_join (7 * k) _ _ ?_ ?_, Nat.add_comm]
  · rw [two_pow_128]; exact Nat.mul_mod_left _ _
  · rw [two_pow_128]; exact hN
theorem u64_wrap_nat (x : Int) : ∃ M : Nat, IntKind.u64.wrap x = (M : Int) ∧ M < 18446744073709551616 := by
  refine ⟨(IntKind.u64.wrap x).toNat, ?_, ?_⟩ <;> simp only [IntKind.wrap, IntKind.bits, IntKind.signed] <;> simp <;> omega
theorem or_some (N : Nat) (hN : N < 18446744073709551616) (x : Int) : ∃ M : Nat, bits .or .u64 (N : Int) (IntKind.u64.wrap x) = (M : Int) ∧ M < 18446744073709551616 := by
  obtain ⟨M, hM, hl⟩ := u64_wrap_nat x
  rw [hM, u64_or_nat _ _ hN hl]
  exact ⟨_, rfl, Nat.or_lt_two_pow (n := 64) hN hl⟩
theorem pow128_le {k j : Nat} (h : k ≤ j) : 128 ^ k ≤ 128 ^ j := Nat.pow_le_pow_right (by decide) h

end Go.Proofs.Ytocohoojnjdkiaa
