/- pack: the finder's startAt. -/
import Derived.Test.YtocohoojnjdkiaaKCom
import Derived.Test.YtocohoojnjdkiaaKMap
import Derived.Laws.Cover3
set_option linter.unusedVariables false
namespace Go.Proofs.Ytocohoojnjdkiaa
open Go.RowKit

/-- The four bytes at a place. -/
def st (t : List UInt8) (q : Nat) : List UInt8 := [t.getD q 0, t.getD (q + 1) 0, t.getD (q + 2) 0, t.getD (q + 3) 0]
theorem st_len (t : List UInt8) (q : Nat) : (st t q).length = 4 := rfl
theorem kv_st (t : List UInt8) (q : Nat) : kv (st t q) = .agg #[.int .u8 (byt t q : Int), .int .u8 (byt t (q + 1) : Int), .int .u8 (byt t (q + 2) : Int), .int .u8 (byt t (q + 3) : Int)] := rfl
theorem keysT : KM Try.prog 66 82 3 := KM.mk' (e := 5) ⟨by kernel_rfl, by kernel_rfl, by kernel_rfl, by kernel_rfl⟩ (by kernel_rfl) ⟨_, rfl⟩ (by kernel_rfl) (fun w => by rfl)
set_option maxHeartbeats 1000000 in
set_option maxRecDepth 100000 in
theorem startAt_any (g : Nat) (A : Option Addr) (t : List UInt8) (c : Nat) (w : World) (hg : g < w.heap.size) (hcl : w.cell? ⟨g, 0, none⟩ = some (.slice A t.length c)) (hr : RB w w.heap.size A t) (hl : t.length ≤ 4000000) (hc : t.length ≤ c) (q : Nat) (hq : q + 4 ≤ t.length) :
    Calls Try.prog 45 #[.pointer (some ⟨g, 0, none⟩), .int .i64 (q : Int)] w fun e w' => e = .returned (kv (st t q)) ∧ Below w.heap.size w w' := by
  obtain ⟨n, hn⟩ : ∃ n, t.length = n := ⟨_, rfl⟩
  obtain ⟨b, off, rfl, hb, hcs⟩ := rb_byt hr (i := q) (by omega)
  rw [hn] at hl hq hcl hc
  have e0 := hcs q (by omega)
  have e1 := hcs (q + 1) (by omega)
  have e2 := hcs (q + 2) (by omega)
  have e3 := hcs (q + 3) (by omega)
  rw [← Nat.add_assoc] at e1 e2 e3
  have harr : ∀ W, (Instr.arrayAt 82 (.slice (some ⟨b, off + q, none⟩) 4 (c - q))).run Try.prog W = .ok (.pointer (some ⟨b, off + q, none⟩)) W := fun W => run_arrayAt W 82 5 4 _ _ _ (by kernel_rfl) (Nat.le_refl _)
  clear hcs hr hn
  rw [kv_st]
  have w1 : IntKind.i64.wrap ((q : Int) + 4) = (q : Int) + 4 := by rw [IntKind.wrap_i64]; omega
  have p1 : (0 : Int) ≤ (q : Int) := by omega
  have p2 : (q : Int) ≤ (q : Int) + 4 := by omega
  have p3 : (q : Int) + 4 ≤ (c : Int) := by omega
  have hne : w.heap.size ≠ g := by omega
  have hnb : w.heap.size ≠ b := by omega
  go_enter Try.func45, Try.ntmps45
  go_wp2
  refine bodyPost_ret (results_cell_row rfl _ _ w.heap.size _ _ _ _ rfl (heap_alloc_new _ _) Try.underlying82 rfl (by kernel_rfl)) rfl ?_
  exact ⟨rfl, (Below.refl _ _).alloc (Nat.le_refl _) _⟩
end Go.Proofs.Ytocohoojnjdkiaa
