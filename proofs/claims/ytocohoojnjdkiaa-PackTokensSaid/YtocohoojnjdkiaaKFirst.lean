/- pack: the first token of bytes. -/
import Derived.Test.YtocohoojnjdkiaaKWr
import Derived.Test.YtocohoojnjdkiaaKBound
import Derived.Deep.RegionHeld3
import Derived.Laws.Rows
set_option linter.unusedVariables false
namespace Go.Proofs.Ytocohoojnjdkiaa
open Go.RowKit

def Tok.lits : Tok → List UInt8
  | .lit l => l
  | .mch _ _ => []
def Tok.len : Tok → Nat
  | .lit _ => 0
  | .mch _ n => n
theorem Tok.out_eq (t : Tok) : t.out = t.lits.length + t.len := by cases t <;> simp [Tok.out, Tok.lits, Tok.len]
theorem results_cell_tmp2 {fn : Func} {p q r : Tmp} {ty : TypeId} {P : Program} (h : fn.results = #[.cell p ty, .tmp q, .tmp r]) (tmps : Array Value) (w : World) (g : Nat) (t : TypeId) (cs : Array Value) (fr : Nat × Nat) (fs : Array Field)
    (hp : tmps.getD p undef = .pointer (some ⟨g, 0, none⟩)) (hg : w.heap[g]? = some (.cells cs t fr))
    (hu : P.underlying ty = some (.struct fs)) (hi : (P.info? ty).map (·.size) = some cs.size) :
    (results fn tmps).run P w = .ok (.tuple #[.agg cs, tmps.getD q undef, tmps.getD r undef]) w := by
  have hp' : tmps[p]?.getD undef = .pointer (some ⟨g, 0, none⟩) := by simpa using hp
  simp [results, h, hp', asAddr, run_loadVar_row w g t ty cs fr (.struct fs) hg hu rfl hi, Result.andThen]
/-- The value of a token. -/
def tokV (A : Option Addr) (n c : Nat) (d l : Int) : Value := .agg #[.slice A n c, .int .i64 d, .int .i64 l]
/-- What 'first' answers. -/
def FirstQ (w0 W : World) (p : List UInt8) (x : Value) (s e : Int) : Prop := match tok1 p with
  | .error k => x = tokV none 0 0 0 0 ∧ s = 0 ∧ e = (k : Int)
  | .ok (t, k) => (∃ A c, x = tokV A t.lits.length c t.dist t.len ∧ RB W w0.heap.size A t.lits ∧ t.lits.length ≤ c) ∧ s = (k : Int) ∧ e = 0
set_option maxHeartbeats 4000000 in
set_option maxRecDepth 100000 in
theorem first_any (w : World) (A : Option Addr) (p : List UInt8) (c : Nat) (hr : RB w w.heap.size A p) (h1 : 1 ≤ p.length) (hc : p.length ≤ c) (hl : p.length ≤ 4000000) :
    Calls Try.prog 38 #[.slice A p.length c] w fun e w' => ∃ x s y, e = .returned (.tuple #[x, .int .i64 s, .int .i64 y]) ∧ FirstQ w w' p x s y ∧ Below w.heap.size w w' := by
  obtain ⟨b, off, rfl, hb, hcs⟩ := rb_byt hr (i := 0) (by omega)
  have HR := Lib.hid hr
  obtain ⟨n, hn⟩ : ∃ n, p.length = n := ⟨_, rfl⟩
  rw [hn] at h1 hc hl hcs ⊢
  have HN := Lib.hid hn
  obtain ⟨x0, hx0⟩ : ∃ x0, byt p 0 = x0 := ⟨_, rfl⟩
  have hx0l := byt_lt p 0
  rw [hx0] at hx0l
  have k0 : w.cell? ⟨b, off, none⟩ = some (.int .u8 (x0 : Int)) := by have := hcs 0 (by omega); rwa [hx0] at this
  have hne : w.heap.size ≠ b := by omega
  have p1 : (0 : Int) < (n : Int) := by omega
  have HX0 := Lib.hid hx0
  have HCS := Lib.hid hcs
  clear hr hn hx0 hcs
  by_cases hx : x0 < 128
  · have hx' : (x0 : Int) < 128 := by omega
    have w1 : IntKind.i64.wrap (2 + (x0 : Int)) = 2 + (x0 : Int) := by rw [IntKind.wrap_i64]; omega
    have w0 : IntKind.i64.wrap (x0 : Int) = (x0 : Int) := by rw [IntKind.wrap_i64]; omega
    by_cases hs : n < 2 + x0
    · have hs' : (n : Int) < 2 + (x0 : Int) := by omega
      go_enter Try.func38, Try.ntmps38
      go_wp2
      refine bodyPost_ret (results_cell_tmp2 rfl _ _ w.heap.size _ _ _ _ rfl (heap_alloc_new _ _) Try.underlying45 (by kernel_rfl)) rfl ?_
      refine ⟨_, _, _, rfl, ?_, (Below.refl _ _).alloc (Nat.le_refl _) _⟩
      unfold FirstQ tok1
      rw [HX0.out, HN.out, if_pos hx, if_pos hs]
      exact ⟨rfl, rfl, rfl⟩
    · have hs' : ¬ (n : Int) < 2 + (x0 : Int) := by omega
      have q1 : (1 : Int) ≤ 2 + (x0 : Int) := by omega
      have q2 : 2 + (x0 : Int) ≤ (c : Int) := by omega
      have q3 : (2 + (x0 : Int)).toNat = 2 + x0 := by omega
      have q4 : (0 : Int) ≤ 2 + (x0 : Int) := by omega
      go_enter Try.func38, Try.ntmps38
      go_wp2
      refine bodyPost_ret (results_cell_tmp2 rfl _ _ w.heap.size _ _ _ _ rfl (heap_alloc_new _ _) Try.underlying45 (by kernel_rfl)) rfl ?_
      refine ⟨_, _, _, rfl, ?_, (Below.refl _ _).alloc (Nat.le_refl _) _⟩
      unfold FirstQ tok1
      rw [HX0.out, HN.out, if_pos hx, if_neg hs]
      have hlen : ((p.drop 1).take (x0 + 1)).length = 1 + x0 := by have := HN.out; simp; omega
      refine ⟨⟨some ⟨b, off + 1, none⟩, c - 1, ?_, ?_, by show ((p.drop 1).take (x0 + 1)).length ≤ c - 1; omega⟩, by omega, rfl⟩
      · show _ = tokV _ ((p.drop 1).take (x0 + 1)).length _ 0 0
        rw [hlen]; rfl
      · intro _
        refine ⟨b, off + 1, rfl, hb, fun j cc hj => ?_⟩
        have hj2 : p[1 + j]? = some cc := by
          have h2 : ((p.drop 1).take (x0 + 1))[j]? = some cc := hj
          rw [List.getElem?_take] at h2
          split at h2
          · rwa [List.getElem?_drop] at h2
          · cases h2
        have hjl : 1 + j < p.length := (List.getElem?_eq_some_iff.1 hj2).1
        have hcc := HCS.out (1 + j) (by have := HN.out; omega)
        rw [show off + 1 + j = off + (1 + j) by omega, World.cell?_alloc_lt _ _ _ hb, hcc]
        unfold byt
        simp [List.getD, hj2]
  · have hx' : ¬ (x0 : Int) < 128 := by omega
    by_cases h3 : n < 3
    · have h3' : (n : Int) < 3 := by omega
      go_enter Try.func38, Try.ntmps38
      go_wp2
      refine bodyPost_ret (results_cell_tmp2 rfl _ _ w.heap.size _ _ _ _ rfl (heap_alloc_new _ _) Try.underlying45 (by kernel_rfl)) rfl ?_
      refine ⟨_, _, _, rfl, ?_, (Below.refl _ _).alloc (Nat.le_refl _) _⟩
      unfold FirstQ tok1
      rw [HX0.out, HN.out, if_neg hx, if_pos h3]
      exact ⟨rfl, rfl, rfl⟩
    · have h3' : ¬ (n : Int) < 3 := by omega
      obtain ⟨x1, hx1⟩ : ∃ x1, byt p 1 = x1 := ⟨_, rfl⟩
      obtain ⟨x2, hx2⟩ : ∃ x2, byt p 2 = x2 := ⟨_, rfl⟩
      have hx1l := byt_lt p 1
      have hx2l := byt_lt p 2
      rw [hx1] at hx1l
      rw [hx2] at hx2l
      have k1 : w.cell? ⟨b, off + 1, none⟩ = some (.int .u8 (x1 : Int)) := by have := HCS.out 1 (by omega); rwa [hx1] at this
      have k2 : w.cell? ⟨b, off + 2, none⟩ = some (.int .u8 (x2 : Int)) := by have := HCS.out 2 (by omega); rwa [hx2] at this
      have HX12 := Lib.hid (And.intro hx1 hx2)
      clear hx1 hx2
      have q1 : (1 : Int) < (n : Int) := by omega
      have q2 : (2 : Int) < (n : Int) := by omega
      have v0 : IntKind.i64.wrap (x0 : Int) = (x0 : Int) := by rw [IntKind.wrap_i64]; omega
      have v1 : IntKind.i64.wrap (x1 : Int) = (x1 : Int) := by rw [IntKind.wrap_i64]; omega
      have v2 : IntKind.i64.wrap (x2 : Int) = (x2 : Int) := by rw [IntKind.wrap_i64]; omega
      have c0 : ∀ W, Below w.heap.size w W → W.cell? ⟨b, off, none⟩ = some (.int .u8 (x0 : Int)) := fun W h => (h.cell (p := ⟨b, off, none⟩) hb).trans k0
      have c1 : ∀ W, Below w.heap.size w W → W.cell? ⟨b, off + 1, none⟩ = some (.int .u8 (x1 : Int)) := fun W h => (h.cell (p := ⟨b, off + 1, none⟩) hb).trans k1
      have c2 : ∀ W, Below w.heap.size w W → W.cell? ⟨b, off + 2, none⟩ = some (.int .u8 (x2 : Int)) := fun W h => (h.cell (p := ⟨b, off + 2, none⟩) hb).trans k2
      have e1 : IntKind.i64.wrap ((x1 : Int) * 256) = (x1 : Int) * 256 := by rw [IntKind.wrap_i64]; omega
      have e2 : IntKind.i64.wrap ((x1 : Int) * 256 + (x2 : Int)) = (x1 : Int) * 256 + (x2 : Int) := by rw [IntKind.wrap_i64]; omega
      have e3 : IntKind.i64.wrap ((x1 : Int) * 256 + (x2 : Int) + 1) = (x1 : Int) * 256 + (x2 : Int) + 1 := by rw [IntKind.wrap_i64]; omega
      have e4 : IntKind.i64.wrap ((x0 : Int) - 128) = (x0 : Int) - 128 := by rw [IntKind.wrap_i64]; omega
      have e5 : IntKind.i64.wrap ((x0 : Int) - 128 + 4) = (x0 : Int) - 124 := by rw [IntKind.wrap_i64]; omega
      have hS0 : Below w.heap.size w (w.alloc (.cells #[.slice none 0 0, .int .i64 0, .int .i64 0] 45)) := (Below.refl _ _).alloc (Nat.le_refl _) _
      go_enter Try.func38, Try.ntmps38
      go_upto_region 8 with fail
      have p9 : (0 : Int) < (n : Int) := by omega
      have p8 : 0 < n := by omega
      have p7 : ¬ n = 0 := by omega
      go_region_held3 (fun W => Below w.heap.size w W) (first | assumption | exact Below.drew (by assumption) | exact ((Below.refl _ _).alloc (Nat.le_refl _) _).drew) (fail)
      clear c0 c1 c2
      obtain ⟨W1, hW1⟩ : ∃ W1, W1 = (w.alloc (.cells #[.slice none 0 0, .int .i64 ((x1 : Int) * 256 + (x2 : Int) + 1), .int .i64 ((x0 : Int) - 124)] 45)).drew := ⟨_, rfl⟩
      rw [← hW1]
      have hblk : Blk W1 w.heap.size 45 #[.slice none 0 0, .int .i64 ((x1 : Int) * 256 + (x2 : Int) + 1), .int .i64 ((x0 : Int) - 124)] := by rw [hW1]; exact Blk.new _ _ _
      have hbel : Below w.heap.size w W1 := by rw [hW1]; exact ((Below.refl _ _).alloc (Nat.le_refl _) _).drew
      have HBLK := Lib.hid hblk
      have d0 : W1.cell? ⟨w.heap.size, 0, none⟩ = some (.slice none 0 0) := hblk.cell 0
      have d1 : W1.cell? ⟨w.heap.size, 1, none⟩ = some (.int .i64 ((x1 : Int) * 256 + (x2 : Int) + 1)) := hblk.cell 1
      have d2 : W1.cell? ⟨w.heap.size, 2, none⟩ = some (.int .i64 ((x0 : Int) - 124)) := hblk.cell 2
      have z0 := hblk.frozen 0
      have z1 := hblk.frozen 1
      have z2 := hblk.frozen 2
      have HBEL := Lib.hid hbel
      clear hW1 hblk hbel hS0
      by_cases hd : 4096 < x1 * 256 + x2 + 1
      · have hd' : (x1 : Int) * 256 + (x2 : Int) + 1 > 4096 := by omega
        go_wp2
        have hb2 := ((HBLK.out.set_ 0 (.slice none 0 0)).set_ 1 (.int .i64 0)).set_ 2 (.int .i64 0)
        refine bodyPost_ret (results_cell_tmp2 rfl _ _ w.heap.size _ _ _ _ rfl hb2 Try.underlying45 (by kernel_rfl)) rfl ?_
        refine ⟨_, _, _, rfl, ?_, ((HBEL.out.setCell (p := ⟨w.heap.size, 0, none⟩) (Nat.le_refl _) _).setCell (p := ⟨w.heap.size, 1, none⟩) (Nat.le_refl _) _).setCell (p := ⟨w.heap.size, 2, none⟩) (Nat.le_refl _) _⟩
        unfold FirstQ tok1
        rw [HX0.out, HN.out, HX12.out.1, HX12.out.2, if_neg hx, if_neg h3, if_pos hd]
        exact ⟨rfl, rfl, rfl⟩
      · have hd' : ¬ (x1 : Int) * 256 + (x2 : Int) + 1 > 4096 := by omega
        go_wp2
        have hb2 := ((HBLK.out.set_ 0 (.slice none 0 0)).set_ 1 (.int .i64 ((x1 : Int) * 256 + (x2 : Int) + 1))).set_ 2 (.int .i64 ((x0 : Int) - 124))
        refine bodyPost_ret (results_cell_tmp2 rfl _ _ w.heap.size _ _ _ _ rfl hb2 Try.underlying45 (by kernel_rfl)) rfl ?_
        refine ⟨_, _, _, rfl, ?_, ((HBEL.out.setCell (p := ⟨w.heap.size, 0, none⟩) (Nat.le_refl _) _).setCell (p := ⟨w.heap.size, 1, none⟩) (Nat.le_refl _) _).setCell (p := ⟨w.heap.size, 2, none⟩) (Nat.le_refl _) _⟩
        unfold FirstQ tok1
        rw [HX0.out, HN.out, HX12.out.1, HX12.out.2, if_neg hx, if_neg h3, if_neg hd]
        refine ⟨⟨none, 0, ?_, RB.nil, Nat.le_refl _⟩, rfl, rfl⟩
        show tokV none 0 0 ((x1 : Int) * 256 + (x2 : Int) + 1) ((x0 : Int) - 124) = tokV none 0 0 ((x1 * 256 + x2 + 1 : Nat) : Int) ((x0 - 124 : Nat) : Int)
        congr 1 <;> omega
end Go.Proofs.Ytocohoojnjdkiaa
