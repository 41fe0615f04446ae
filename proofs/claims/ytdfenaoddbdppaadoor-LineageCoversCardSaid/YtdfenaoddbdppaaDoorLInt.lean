/- Slices of numbers. Plain lemmas. -/
import Derived.Test.YtdfenaoddbdppaaDoorLib
import Derived.Test.YtdfenaoddbdppaaDoorChecked
set_option linter.unusedVariables false
namespace Go.Proofs.YtdfenaoddbdppaaDoor
open Go.RowKit

/-- A number as a cell. -/
abbrev iv (s : Nat) : Value := .int .i64 (s : Int)
/-- The slice value '.slice A l.length cap' reads as the numbers l, below block B. -/
def RI (w : World) (B : Nat) (A : Option Addr) (l : List Nat) : Prop :=
  0 < l.length → ∃ b off, A = some ⟨b, off, none⟩ ∧ b < B ∧ ∀ j s, l[j]? = some s → w.cell? ⟨b, off + j, none⟩ = some (iv s)
theorem RI.nil {w : World} {B : Nat} {A : Option Addr} : RI w B A [] := fun h => absurd h (by simp)
theorem RI.below {w w' : World} {B : Nat} {A : Option Addr} {l : List Nat} (h : RI w B A l) (hb : Below B w w') : RI w' B A l := fun hn => by
  obtain ⟨b, off, rfl, hlt, hc⟩ := h hn
  exact ⟨b, off, rfl, hlt, fun j c hj => (hb.cell (p := ⟨b, off + j, none⟩) hlt).trans (hc j c hj)⟩
theorem RI.at_ {w : World} {B : Nat} {A : Option Addr} {l : List Nat} (h : RI w B A l) {k : Nat} (hk : k < l.length) :
    ∃ b off c, A = some ⟨b, off, none⟩ ∧ b < B ∧ l[k]? = some c ∧ w.cell? ⟨b, off + k, none⟩ = some (iv c) := by
  obtain ⟨b, off, rfl, hb, hc⟩ := h (by omega)
  exact ⟨b, off, l[k], rfl, hb, List.getElem?_eq_getElem hk, hc k _ (List.getElem?_eq_getElem hk)⟩
structure IntSlice (P : Program) (t e : TypeId) : Prop where
  u : P.underlying t = some (.slice e)
  b : P.underlying e = some (.int .i64)
  i : (P.info? e).map (fun i => (i.zero, i.size, i.bytes)) = some (some (.int .i64 0), 1, 8)
/-- The slice value v owns the numbers l, in a block from 'base' on. -/
def OI (e : TypeId) (w : World) (base : Nat) (v : Value) (l : List Nat) : Prop := w.ownsRow base e 1 v l.length (l.map iv)
theorem OI.nil (e : TypeId) (w : World) (base : Nat) : OI e w base (.slice none 0 0) [] := World.ownsRow_nil w base e 1
theorem OI.alloc {e : TypeId} {w : World} {base : Nat} {v : Value} {l : List Nat} (h : OI e w base v l) (o : Obj) : OI e (w.alloc o) base v l := World.ownsRow.alloc h o
theorem OI.lt {e : TypeId} {w : World} {base : Nat} {v : Value} {l : List Nat} (h : OI e w base v l) : ∀ k, v.ownBlock = some k → base ≤ k ∧ k < w.heap.size := World.ownsRow.lt h
theorem OI.form {e : TypeId} {w : World} {base : Nat} {v : Value} {l : List Nat} (h : OI e w base v l) :
    ∃ A cap, v = .slice A l.length cap ∧ RI w w.heap.size A l ∧ l.length ≤ cap ∧ cap ≤ maxLen := by
  have hl := World.ownsRow.lt h
  have hc := @World.ownsRow.cells w base e 1 v l.length (l.map iv) h
  rcases h.2 with ⟨rfl, h0⟩ | ⟨g, cap, cur, rfl, _, _, h1, h2, _⟩
  · have : l = [] := List.eq_nil_of_length_eq_zero h0
    subst this
    exact ⟨none, 0, rfl, RI.nil, Nat.le_refl _, Nat.zero_le _⟩
  · refine ⟨_, cap, rfl, fun _ => ⟨g, 0, rfl, (hl g rfl).2, fun j c hj => ?_⟩, h1, h2⟩
    have := hc (g := g) rfl j (iv c) (by simp [hj])
    simpa [Addr.add_lit] using this
theorem ivs_oneCell (l : List Nat) : ∀ u ∈ l.map iv, u.oneCell' = true := by
  intro u hu
  obtain ⟨_, _, rfl⟩ := List.mem_map.1 hu
  rfl
section
variable {P : Program} {t e : TypeId}
theorem IntSlice.parts (hP : IntSlice P t e) : ∃ i, P.info? e = some i ∧ i.zero = some (.int .i64 0) ∧ i.size = 1 ∧ i.bytes = 8 := info_parts hP.i
theorem run_pushI (hP : IntSlice P t e) (w : World) (ty : TypeId) (base : Nat) (v : Value) (l : List Nat) (hown : OI e w base v l) (s : Nat)
    (hlen : l.length + 1 ≤ 8000000000000) (hbase : base ≤ w.heap.size) :
    ∃ v' w', (Builtin.append_ #[t, t] ty #[v, .slice (some ⟨w.heap.size, 0, none⟩) 1 1]).run P (w.alloc (.cells #[iv s] e)) = .ok v' w' ∧ OI e w' base v' (l ++ [s]) ∧ (w.alloc (.cells #[iv s] e)).grownBy w' v.ownBlock := by
  obtain ⟨i, hi, hz, hs, hb⟩ := hP.parts
  obtain ⟨v', w', h1, h2, h3, _, h5⟩ := run_append_own_at (P := P) (w.alloc (.cells #[iv s] e)) base t ty e i (.int .i64 0) 1 8 hP.u hi hz hs hb rfl (by omega) v l.length (l.map iv) (hown.alloc _) ⟨w.heap.size, 0, none⟩ 1 1 [iv s] (by simp)
    (fun j u hu => by
      match j, hu with
      | 0, hu =>
        simp at hu; subst hu
        rw [Addr.add_lit, World.cell?_alloc_at _ _ _ _ rfl]; rfl) (ivs_oneCell [s]) (by unfold maxLen; omega) (by omega) (by simp; omega)
  refine ⟨v', w', h1, ?_, h3⟩
  unfold OI; simpa using h2
/-- 'append(v, s)'. -/
theorem wpList_pushI {ops : Array Oper} {rest : List Oper} {o : Oper} {a : Act} {Q : Exit → Act → World → Prop} {w : World} (hP : IntSlice P t e) (hgd : o.guard = none) (s x : Operand)
    (ho : o.op = .call { callee := .builtin .append, args := #[s, x], argTypes := #[t, t] }) (base : Nat) (v : Value) (l : List Nat) (hs : a.eval s = v) (c : Nat) (hown : OI e w base v l)
    (G : Nat) (hx : a.eval x = .slice (some ⟨G, 0, none⟩) 1 1) (hG : w.heap.size = G) (hlen : l.length + 1 ≤ 8000000000000) (hbase : base ≤ w.heap.size)
    (h : ∀ v' w', OI e w' base v' (l ++ [c]) → Below base w w' → wpList P ops Q rest (a.put o.dst v') w') : wpList P ops Q (o :: rest) a (w.alloc (.cells #[iv c] e)) := by
  subst hG
  obtain ⟨v', w', h1, h2, h3⟩ := run_pushI hP w o.type base v l hown c hlen hbase
  refine wpList_append_of hgd s x t t ho hs hx h1 (h v' w' h2 ?_)
  refine ((Below.refl base w).alloc hbase _).trans ⟨h3.os, h3.tape, h3.output, h3.size, fun k hk => h3.block k (by simp; omega) (fun e => by have := (hown.lt k e.symm).1; omega)⟩
end
theorem isl : IntSlice Tryd.prog 22 3 := ⟨Tryd.underlying22, Tryd.underlying3, by kernel_rfl⟩

end Go.Proofs.YtdfenaoddbdppaaDoor
