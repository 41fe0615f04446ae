/- The walks of (sha256.Digest).String and of the example that every statement of the layer checks first. -/
import Derived.Test.YtifbeemcphndfaaDoorSKnown
set_option linter.unusedVariables false
namespace Go.Proofs.YtifbeemcphndfaaDoor
open Go.RowKit

section
variable {P : Program} {t e : TypeId}
theorem step_append_of {ops : Array Oper} {o : Oper} {a : Act} {K : Act → World → Prop} {Q : Exit → Act → World → Prop} {w : World} {E : Prop} (hgd : o.guard = none) (s x : Operand) (t u : TypeId)
    (ho : o.op = .call { callee := .builtin .append, args := #[s, x], argTypes := #[t, u] }) {v x' v' : Value} {w' : World} (hs : a.eval s = v) (hx : a.eval x = x')
    (hr : (Builtin.append_ #[t, u] o.type #[v, x']).run P w = .ok v' w') (hK : K (a.put o.dst v') w') : if Region.wanted o (yielded ops a.tmps) = true then Oper.wp P o a w K Q else E := by
  have hw : Region.wanted o (yielded ops a.tmps) = true := by simp [Region.wanted, hgd]
  rw [if_pos hw]
  unfold Oper.wp execOp
  simp only [ho, resolve, invoke, builtin, Sem.run_bind, Sem.run_pure, Result.andThen_ok, List.map_toArray, List.map_cons, List.map_nil, hs, hx, hr]
  exact hK
theorem step_app {ops : Array Oper} {o : Oper} {a : Act} {K : Act → World → Prop} {Q : Exit → Act → World → Prop} {w : World} {E : Prop} (hP : ByteSlice P t e) (hgd : o.guard = none) (s x : Operand)
    (ho : o.op = .call { callee := .builtin .append, args := #[s, x], argTypes := #[t, t] }) (base : Nat) (v : Value) (l : List UInt8) (hs : a.eval s = v) (hown : OB e w base v l)
    (B : Nat) (A : Option Addr) (m : List UInt8) (c : Nat) (hx : a.eval x = .slice A m.length c) (hr : RB w B A m) (hlen : l.length + m.length ≤ 140737488355328) (hbase : base ≤ w.heap.size)
    (h : ∀ v' w', OB e w' base v' (l ++ m) → Grew w w' v v' → K (a.put o.dst v') w') : if Region.wanted o (yielded ops a.tmps) = true then Oper.wp P o a w K Q else E := by
  obtain ⟨v', w', h1, h2, h3⟩ := run_app hP w o.type base v l hown B A m c hr hlen hbase
  exact step_append_of hgd s x t t ho hs hx h1 (h v' w' h2 h3)
end

theorem bsl : ByteSlice Tryd.prog 72 5 := ⟨Tryd.underlying72, Tryd.underlying5, by kernel_rfl⟩

theorem Grew.undrew {w w' : World} {v v' : Value} (h : Grew w.drew w' v v') : Grew w w' v v' := ⟨⟨h.1.os, h.1.tape, h.1.output, h.1.size, h.1.block⟩, h.2⟩

def hexS : ByteArray := ⟨#[48, 49, 50, 51, 52, 53, 54, 55, 56, 57, 97, 98, 99, 100, 101, 102]⟩
def hexD (n : Nat) : UInt8 := if h : n < hexS.size then hexS[n] else 0
theorem hex_get (n : Nat) (h : n < hexS.size) : hexS[n]'h = hexD n := by unfold hexD; rw [dif_pos h]
theorem hex_index (P : Program) (t : TypeId) (hu : P.underlying t = some .string) (k : IntKind) (n : Nat) (hn : n < 16) (w : World) : (Instr.index t (.string hexS) (.int k (n : Int))).run P w = .ok (bv (hexD n)) w := by
  rw [run_index_string w t hexS k n hu]
  have h : (0 : Int) ≤ (n : Int) ∧ (n : Int) < (hexS.size : Int) := ⟨by omega, by show (n : Int) < 16; omega⟩
  rw [dif_pos h]
  simp only [Int.toNat_natCast, hex_get]
theorem hex_hi (P : Program) (t : TypeId) (hu : P.underlying t = some .string) (c : UInt8) (w : World) : (Instr.index t (.string ⟨#[48, 49, 50, 51, 52, 53, 54, 55, 56, 57, 97, 98, 99, 100, 101, 102]⟩) (.int .u8 ((c.toNat : Int) / 16))).run P w = .ok (bv (hexD (c.toNat / 16))) w := by
  have := hex_index P t hu .u8 (c.toNat / 16) (by have := c.toNat_lt; omega) w
  rw [Int.natCast_ediv] at this; exact this
theorem hex_lo (P : Program) (t : TypeId) (hu : P.underlying t = some .string) (c : UInt8) (w : World) : (Instr.index t (.string ⟨#[48, 49, 50, 51, 52, 53, 54, 55, 56, 57, 97, 98, 99, 100, 101, 102]⟩) (.int .u8 ((c.toNat : Int) % 16))).run P w = .ok (bv (hexD (c.toNat % 16))) w := by
  have := hex_index P t hu .u8 (c.toNat % 16) (by omega) w
  rw [Int.natCast_emod] at this; exact this
theorem RB.lit (W : World) (e : TypeId) (l : List UInt8) : RB (W.alloc (.cells (l.map bv).toArray e)) (W.heap.size + 1) (some ⟨W.heap.size, 0, none⟩) l := fun _ =>
  ⟨_, _, rfl, by omega, fun j c hj => by rw [World.cell?_alloc_at _ _ _ _ rfl, Nat.zero_add]; simp [hj]⟩
def hexOf (d : List UInt8) : List UInt8 := d.flatMap fun c => [hexD (c.toNat / 16), hexD (c.toNat % 16)]
theorem hexOf_length (d : List UInt8) : (hexOf d).length = 2 * d.length := by
  unfold hexOf
  induction d with
  | nil => rfl
  | cons a r ih => simp [List.flatMap_cons, ih]; omega
theorem hexOf_step (d : List UInt8) (k : Nat) (c : UInt8) (h : d[k]? = some c) : hexOf (d.take (k + 1)) = hexOf (d.take k) ++ [hexD (c.toNat / 16), hexD (c.toNat % 16)] := by
  rw [List.take_add_one, h]; simp [hexOf]
theorem ob_made {e : TypeId} {w : World} {base g cap : Nat} {cs : Array Value} (hg : w.heap[g]? = some (.cells cs e (0, 0))) (hb : base ≤ g) (hc : cap ≤ maxLen) (hs : cs.size = cap) : OB e w base (.slice (some ⟨g, 0, none⟩) 0 cap) [] :=
  ⟨by simp, .inr ⟨g, cap, cs, rfl, hb, hg, by simp, hc, by simpa using hs, by simp⟩⟩

end Go.Proofs.YtifbeemcphndfaaDoor
