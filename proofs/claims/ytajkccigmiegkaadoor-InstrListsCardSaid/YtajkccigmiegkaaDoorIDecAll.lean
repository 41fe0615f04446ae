/- instr: DecodeAll, and the reference's. -/
import Derived.Test.YtajkccigmiegkaaDoorIDecB
import Derived.Test.YtajkccigmiegkaaDoorQList
import Derived.Deep.RegionHeld3
set_option linter.unusedVariables false
namespace Go.Proofs.YtajkccigmiegkaaDoor
open Go.RowKit

theorem run_arrayAt {P : Program} {arr e : TypeId} {n : Nat} (h : P.underlying arr = some (.array n e)) (A : Option Addr) (len cap : Nat) (hn : n ≤ len) (w : World) : (Instr.arrayAt arr (.slice A len cap)).run P w = .ok (.pointer A) w := by
  have h1 : ¬ len < n := by omega
  simp [Instr.arrayAt, run_underlying h, h1, Result.andThen]

theorem wpList_pushQG {α : Type} {enc : α → List Value} {k : Nat} {e : TypeId} {P : Program} {t : TypeId} {bytes : Nat} {ops : Array Oper} {rest : List Oper} {o : Oper} {a : Act} {Q : Exit → Act → World → Prop} {w : World} (hE : EncK enc k) (hT : TypK P t e k bytes) (hgd : o.guard = none) (s y : Operand)
    (ho : o.op = .call { callee := .builtin .append, args := #[s, y], argTypes := #[t, t] }) (base : Nat) (v : Value) (l : List α) (hs : a.eval s = v) (x : α) (cs : Array Value) (hc : cs.toList = enc x) (hown : OQ enc k e w base v l)
    (G : Nat) (hx : a.eval y = .slice (some ⟨G, 0, none⟩) 1 1) (hG : w.heap.size = G) (hlen : l.length + 1 ≤ maxLen) (hby : (l.length + 1) * bytes ≤ 140737488355328) (hbase : base ≤ w.heap.size)
    (h : ∀ v' w', OQ enc k e w' base v' (l ++ [x]) → Grew w w' v v' → wpList P ops Q rest (a.put o.dst v') w') : wpList P ops Q (o :: rest) a (w.alloc (.cells cs e)) := by
  subst hG
  exact wpList_pushQ hE hT hgd s y ho base v l hs x cs hc hown hx hlen hby hbase h
/-- An instruction as an element. -/
structure Q4 where
  o : Int
  a : Int
  b : Int
  c : Int
def encQ (x : Q4) : List Value := [.int .i64 x.o, .int .i64 x.a, .int .i64 x.b, .int .i64 x.c]
theorem encQ_ok : EncK encQ 4 where
  len _ := rfl
  one x u hu := by
    simp only [encQ, List.mem_cons, List.not_mem_nil, or_false] at hu
    rcases hu with rfl | rfl | rfl | rfl <;> rfl
  pos := by decide
theorem insT_ok : TypK Tryd.prog 58 26 4 32 := ⟨Tryd.underlying58, by
  obtain ⟨i, hi, hz, hs, hb⟩ := info_parts (P := Tryd.prog) (e := 26) (z := inV 0 0 0 0) (size := 4) (bytes := 32) (by kernel_rfl)
  exact ⟨i, _, hi, hz, hs, hb, rfl⟩⟩
theorem refT_ok : TypK Tryd.prog 54 23 4 32 := ⟨Tryd.underlying54, by
  obtain ⟨i, hi, hz, hs, hb⟩ := info_parts (P := Tryd.prog) (e := 23) (z := inV 0 0 0 0) (size := 4) (bytes := 32) (by kernel_rfl)
  exact ⟨i, _, hi, hz, hs, hb, rfl⟩⟩
/-- The byte at a place. -/
def byt (b : List UInt8) (i : Nat) : Nat := (b.getD i 0).toNat
theorem byt_lt (b : List UInt8) (i : Nat) : byt b i < 256 := by unfold byt; exact (b.getD i 0).toNat_lt
theorem rb_byt {w : World} {B : Nat} {A : Option Addr} {l : List UInt8} (h : RB w B A l) {i : Nat} (hi : i < l.length) : ∃ b off, A = some ⟨b, off, none⟩ ∧ b < B ∧ ∀ j, j < l.length → w.cell? ⟨b, off + j, none⟩ = some (.int .u8 (byt l j : Int)) := by
  obtain ⟨b, off, rfl, hb, hc⟩ := h (by omega)
  refine ⟨b, off, rfl, hb, fun j hj => ?_⟩
  have := hc j l[j] (List.getElem?_eq_getElem hj)
  rw [this]
  unfold byt
  simp [hj, List.getD]
/-- What the j-th four bytes decode to. -/
def dE (b : List UInt8) (j : Nat) : Int := decE (byt b (4 * j)) (byt b (4 * j + 1)) (byt b (4 * j + 2)) (byt b (4 * j + 3))
def dQ (b : List UInt8) (j : Nat) : Q4 := ⟨byt b (4 * j), (byt b (4 * j + 1) : Int) / 16, (byt b (4 * j + 1) : Int) % 16, decC (byt b (4 * j)) (byt b (4 * j + 1)) (byt b (4 * j + 2)) (byt b (4 * j + 3))⟩
def dV (b : List UInt8) (j : Nat) : Value := decV (byt b (4 * j)) (byt b (4 * j + 1)) (byt b (4 * j + 2)) (byt b (4 * j + 3))
theorem dE_or (b : List UInt8) (j : Nat) : (dE b j = 0 ∧ dV b j = .agg (encQ (dQ b j)).toArray) ∨ (dE b j = 24 ∧ dV b j = inV 0 0 0 0) := by
  unfold dE dV decE decV
  split
  · exact .inl ⟨rfl, rfl⟩
  · exact .inr ⟨rfl, rfl⟩
def dL (b : List UInt8) (j : Nat) : List Q4 := (List.range j).map (dQ b)
theorem dL_succ (b : List UInt8) (j : Nat) : dL b (j + 1) = dL b j ++ [dQ b j] := by unfold dL; rw [List.range_succ, List.map_append]; rfl
theorem dL_len (b : List UInt8) (j : Nat) : (dL b j).length = j := by simp [dL]
/-- What DecodeAll answers. -/
def DR (b : List UInt8) (l : List Q4) (at_ e : Int) : Prop :=
  (∃ j, 4 * j + 4 ≤ b.length ∧ (∀ i, i < j → dE b i = 0) ∧ dE b j = 24 ∧ l = [] ∧ at_ = 4 * (j : Int) ∧ e = 24) ∨
  (∃ j, b.length < 4 * j + 4 ∧ 4 * j ≤ b.length ∧ (∀ i, i < j → dE b i = 0) ∧ ((4 * j < b.length ∧ l = [] ∧ at_ = 4 * (j : Int) ∧ e = 28) ∨ (4 * j = b.length ∧ l = dL b j ∧ at_ = 0 ∧ e = 0)))
theorem DR.one {b : List UInt8} {l l' : List Q4} {x x' e e' : Int} (h : DR b l x e) (h' : DR b l' x' e') : l = l' ∧ x = x' ∧ e = e' := by
  rcases h with ⟨j, h1, h2, h3, rfl, rfl, rfl⟩ | ⟨j, h1, h1', h2, h3⟩ <;> rcases h' with ⟨i, g1, g2, g3, rfl, rfl, rfl⟩ | ⟨i, g1, g1', g2, g3⟩
  · have a1 : ¬ i < j := fun hl => by have := h2 i hl; omega
    have a2 : ¬ j < i := fun hl => by have := g2 j hl; omega
    obtain rfl : i = j := by omega
    exact ⟨rfl, rfl, rfl⟩
  · have := g2 j (by omega); omega
  · have := h2 i (by omega); omega
  · obtain rfl : i = j := by omega
    rcases h3 with ⟨p, rfl, rfl, rfl⟩ | ⟨p, rfl, rfl, rfl⟩ <;> rcases g3 with ⟨q, rfl, rfl, rfl⟩ | ⟨q, rfl, rfl, rfl⟩
    · exact ⟨rfl, rfl, rfl⟩
    · omega
    · omega
    · exact ⟨rfl, rfl, rfl⟩
end Go.Proofs.YtajkccigmiegkaaDoor
