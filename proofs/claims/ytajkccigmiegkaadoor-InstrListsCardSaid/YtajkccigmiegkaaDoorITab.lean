/- instr: the table of operations, as facts of a world; the smallest functions; the reference's forms and limits. -/
import Derived.Test.YtajkccigmiegkaaDoorChecked
import Derived.Test.YtajkccigmiegkaaDoorLib
import Derived.Test.YtajkccigmiegkaaDoorIMath
import Derived.WalkSmall
import Derived.Deep.MidRow
import Derived.Deep.Cut
set_option linter.unusedVariables false
namespace Go.Proofs.YtajkccigmiegkaaDoor
open Go.RowKit

theorem wpl_gen {P : Program} {ops rest : _} {a : Act} {Q : Exit → Act → World → Prop} {W : World} (R : World → Prop) (hR : R W) (h : ∀ W0, R W0 → wpList P ops Q rest a W0) : wpList P ops Q rest a W := h W hR
theorem cwp_gen {P : Program} {c : Code} {a : Act} {Q : Exit → Act → World → Prop} {W : World} (R : World → Prop) (hR : R W) (h : ∀ W0, R W0 → c.wp P Q a W0) : c.wp P Q a W := h W hR
/-- The operations: word, form, limits. -/
def tb : List (List UInt8 × Int × Int × Int) := [([104, 97, 108, 116], 0, 0, 0), ([109, 111, 118, 101], 2, 0, 0), ([115, 101, 116], 4, (-32768), 32767), ([104, 105, 103, 104], 4, 0, 65535), ([97, 100, 100], 3, 0, 0), ([115, 117, 98], 3, 0, 0), ([109, 117, 108], 3, 0, 0), ([100, 105, 118], 3, 0, 0), ([109, 111, 100], 3, 0, 0), ([97, 110, 100], 3, 0, 0), ([111, 114], 3, 0, 0), ([120, 111, 114], 3, 0, 0), ([115, 104, 108], 3, 0, 0), ([115, 104, 114], 3, 0, 0), ([108, 101, 115, 115], 3, 0, 0), ([101, 113, 117, 97, 108], 3, 0, 0), ([97, 100, 100, 105], 5, (-32768), 32767), ([108, 111, 97, 100], 5, (-32768), 32767), ([115, 116, 111, 114, 101], 5, (-32768), 32767), ([108, 111, 97, 100, 98], 5, (-32768), 32767), ([115, 116, 111, 114, 101, 98], 5, (-32768), 32767), ([106, 117, 109, 112], 6, 0, 4095), ([106, 117, 109, 112, 122], 4, 0, 4095), ([106, 117, 109, 112, 110, 122], 4, 0, 4095), ([99, 97, 108, 108], 4, 0, 4095), ([98, 97, 99, 107], 1, 0, 0), ([116, 114, 97, 112], 6, 0, 255)]
def wordN (k : Nat) : List UInt8 := (tb.getD k ([], 0, 0, 0)).1
def formN (k : Nat) : Int := (tb.getD k ([], 0, 0, 0)).2.1
def lowN (k : Nat) : Int := (tb.getD k ([], 0, 0, 0)).2.2.1
def highN (k : Nat) : Int := (tb.getD k ([], 0, 0, 0)).2.2.2
def opV (k : Nat) : List Value := [.string ⟨(wordN k).toArray⟩, .int .i64 (formN k), .int .i64 (lowN k), .int .i64 (highN k)]
theorem cell_lt {w : World} {p : Addr} {v : Value} (h : w.cell? p = some v) : p.block < w.heap.size := by
  unfold World.cell? at h
  rcases Nat.lt_or_ge p.block w.heap.size with h' | h'
  · exact h'
  · simp [Array.getElem?_eq_none h'] at h
/-- What a world holds of the table. -/
def Env (w : World) : Prop := ∀ k, k < 27 → ∀ j v, (opV k)[j]? = some v → w.cell? ⟨0, k * 4 + j, none⟩ = some v
theorem Env.below {w w' : World} (h : Env w) (hb : Below w.heap.size w w') : Env w' := fun k hk j v hv => by
  have h1 := h k hk j v hv
  exact (hb.cell (p := ⟨0, k * 4 + j, none⟩) (cell_lt h1)).trans h1
theorem Env.form {w : World} (h : Env w) {k : Nat} (hk : k < 27) : w.cell? ⟨0, k * 4 + 1, none⟩ = some (.int .i64 (formN k)) := h k hk 1 _ rfl
theorem Env.low {w : World} (h : Env w) {k : Nat} (hk : k < 27) : w.cell? ⟨0, k * 4 + 2, none⟩ = some (.int .i64 (lowN k)) := h k hk 2 _ rfl
theorem Env.high {w : World} (h : Env w) {k : Nat} (hk : k < 27) : w.cell? ⟨0, k * 4 + 3, none⟩ = some (.int .i64 (highN k)) := h k hk 3 _ rfl
theorem Env.word {w : World} (h : Env w) {k : Nat} (hk : k < 27) : w.cell? ⟨0, k * 4, none⟩ = some (.string ⟨(wordN k).toArray⟩) := h k hk 0 _ rfl
theorem form_le : ∀ k, k < 27 → 0 ≤ formN k ∧ formN k ≤ 6 := by decide

def isOp (op : Int) : Bool := decide (0 ≤ op) && decide (op < 27)
theorem isOp_any (op : Int) (w : World) : Calls Tryd.prog 46 #[.int .i64 op] w fun e w' => e = .returned (.bool (isOp op)) ∧ w' = w := by
  unfold isOp
  by_cases h1 : 0 ≤ op
  · by_cases h2 : op < 27
    · rw [decide_eq_true h1, decide_eq_true h2]
      go_enter Tryd.func46, Tryd.ntmps46
      go_wp2
      go_ret
      exact ⟨rfl, rfl⟩
    · rw [decide_eq_true h1, decide_eq_false h2]
      go_enter Tryd.func46, Tryd.ntmps46
      go_wp2
      go_ret
      exact ⟨rfl, rfl⟩
  · rw [decide_eq_false h1]
    go_enter Tryd.func46, Tryd.ntmps46
    go_wp2
    go_ret
    exact ⟨rfl, rfl⟩
def isReg (n : Int) : Bool := decide (0 ≤ n) && decide (n < 8)
theorem isReg_any (n : Int) (w : World) : Calls Tryd.prog 51 #[.int .i64 n] w fun e w' => e = .returned (.bool (isReg n)) ∧ w' = w := by
  unfold isReg
  by_cases h1 : 0 ≤ n
  · by_cases h2 : n < 8
    · rw [decide_eq_true h1, decide_eq_true h2]
      go_enter Tryd.func51, Tryd.ntmps51
      go_wp2
      go_ret
      exact ⟨rfl, rfl⟩
    · rw [decide_eq_true h1, decide_eq_false h2]
      go_enter Tryd.func51, Tryd.ntmps51
      go_wp2
      go_ret
      exact ⟨rfl, rfl⟩
  · rw [decide_eq_false h1]
    go_enter Tryd.func51, Tryd.ntmps51
    go_wp2
    go_ret
    exact ⟨rfl, rfl⟩
theorem isOp_in {op : Int} (h0 : 0 ≤ op) (h1 : op ≤ 26) : isOp op = true := by unfold isOp; rw [decide_eq_true h0, decide_eq_true (by omega)]; rfl
theorem isOp_out {op : Int} (h : op < 0 ∨ 26 < op) : isOp op = false := by
  unfold isOp
  rcases h with h | h
  · rw [decide_eq_false (by omega)]; rfl
  · rw [decide_eq_false (p := op < 27) (by omega), Bool.and_false]

abbrev opC (W : ByteArray) (f l h : Int) : Value := .agg #[.string W, .int .i64 f, .int .i64 l, .int .i64 h]
def useA (f : Int) : Bool := f != 0 && f != 6
def useB (f : Int) : Bool := f == 2 || f == 3 || f == 5
def useC (f : Int) : Bool := f == 3
def useN (f : Int) : Bool := f == 4 || f == 5 || f == 6
set_option maxRecDepth 100000 in
theorem usesA_any (W : ByteArray) (f l h : Int) (hf : 0 ≤ f ∧ f ≤ 6) (w : World) : Calls Tryd.prog 47 #[opC W f l h] w fun e w' => e = .returned (.bool (useA f)) ∧ Below w.heap.size w w' := by
  obtain rfl | rfl | rfl | rfl | rfl | rfl | rfl : f = 0 ∨ f = 1 ∨ f = 2 ∨ f = 3 ∨ f = 4 ∨ f = 5 ∨ f = 6 := by omega
  all_goals
    go_enter Tryd.func47, Tryd.ntmps47
    go_wp2
    go_ret
    exact ⟨rfl, (Below.refl _ _).alloc (Nat.le_refl _) _⟩
set_option maxRecDepth 100000 in
theorem usesB_any (W : ByteArray) (f l h : Int) (hf : 0 ≤ f ∧ f ≤ 6) (w : World) : Calls Tryd.prog 48 #[opC W f l h] w fun e w' => e = .returned (.bool (useB f)) ∧ Below w.heap.size w w' := by
  obtain rfl | rfl | rfl | rfl | rfl | rfl | rfl : f = 0 ∨ f = 1 ∨ f = 2 ∨ f = 3 ∨ f = 4 ∨ f = 5 ∨ f = 6 := by omega
  all_goals
    go_enter Tryd.func48, Tryd.ntmps48
    go_wp2
    go_ret
    exact ⟨rfl, (Below.refl _ _).alloc (Nat.le_refl _) _⟩
set_option maxRecDepth 100000 in
theorem usesC_any (W : ByteArray) (f l h : Int) (hf : 0 ≤ f ∧ f ≤ 6) (w : World) : Calls Tryd.prog 49 #[opC W f l h] w fun e w' => e = .returned (.bool (useC f)) ∧ Below w.heap.size w w' := by
  obtain rfl | rfl | rfl | rfl | rfl | rfl | rfl : f = 0 ∨ f = 1 ∨ f = 2 ∨ f = 3 ∨ f = 4 ∨ f = 5 ∨ f = 6 := by omega
  all_goals
    go_enter Tryd.func49, Tryd.ntmps49
    go_wp2
    go_ret
    exact ⟨rfl, (Below.refl _ _).alloc (Nat.le_refl _) _⟩
set_option maxRecDepth 100000 in
theorem usesNumber_any (W : ByteArray) (f l h : Int) (hf : 0 ≤ f ∧ f ≤ 6) (w : World) : Calls Tryd.prog 50 #[opC W f l h] w fun e w' => e = .returned (.bool (useN f)) ∧ Below w.heap.size w w' := by
  obtain rfl | rfl | rfl | rfl | rfl | rfl | rfl : f = 0 ∨ f = 1 ∨ f = 2 ∨ f = 3 ∨ f = 4 ∨ f = 5 ∨ f = 6 := by omega
  all_goals
    go_enter Tryd.func50, Tryd.ntmps50
    go_wp2
    go_ret
    exact ⟨rfl, (Below.refl _ _).alloc (Nat.le_refl _) _⟩
theorem hasA_any (f : Int) (hf : 0 ≤ f ∧ f ≤ 6) (w : World) : Calls Tryd.prog 52 #[.int .i64 f] w fun e w' => e = .returned (.bool (decide (1 ≤ f ∧ f ≤ 5))) ∧ w' = w := by
  obtain rfl | rfl | rfl | rfl | rfl | rfl | rfl : f = 0 ∨ f = 1 ∨ f = 2 ∨ f = 3 ∨ f = 4 ∨ f = 5 ∨ f = 6 := by omega
  all_goals
    go_enter Tryd.func52, Tryd.ntmps52
    go_wp2
    go_ret
    exact ⟨rfl, rfl⟩
theorem hasB_any (f : Int) (hf : 0 ≤ f ∧ f ≤ 6) (w : World) : Calls Tryd.prog 53 #[.int .i64 f] w fun e w' => e = .returned (.bool (decide (f = 2 ∨ f = 3 ∨ f = 5))) ∧ w' = w := by
  obtain rfl | rfl | rfl | rfl | rfl | rfl | rfl : f = 0 ∨ f = 1 ∨ f = 2 ∨ f = 3 ∨ f = 4 ∨ f = 5 ∨ f = 6 := by omega
  all_goals
    go_enter Tryd.func53, Tryd.ntmps53
    go_wp2
    go_ret
    exact ⟨rfl, rfl⟩
theorem hasC_any (f : Int) (hf : 0 ≤ f ∧ f ≤ 6) (w : World) : Calls Tryd.prog 54 #[.int .i64 f] w fun e w' => e = .returned (.bool (decide (3 ≤ f))) ∧ w' = w := by
  obtain rfl | rfl | rfl | rfl | rfl | rfl | rfl : f = 0 ∨ f = 1 ∨ f = 2 ∨ f = 3 ∨ f = 4 ∨ f = 5 ∨ f = 6 := by omega
  all_goals
    go_enter Tryd.func54, Tryd.ntmps54
    go_wp2
    go_ret
    exact ⟨rfl, rfl⟩

/-- The forms and limits, for any operation. -/
def formZ (op : Int) : Int := if 0 ≤ op ∧ op ≤ 26 then formN op.toNat else 0
def formE (op : Int) : Int := if 0 ≤ op ∧ op ≤ 26 then 0 else 11
def lowZ (op : Int) : Int := if 0 ≤ op ∧ op ≤ 26 then lowN op.toNat else 0
def highZ (op : Int) : Int := if 0 ≤ op ∧ op ≤ 26 then highN op.toNat else 0
def limE (op : Int) : Int := if 0 ≤ op ∧ op ≤ 26 then (if 4 ≤ formN op.toNat then 0 else 1) else 11
theorem op27 {op : Int} (h0 : 0 ≤ op) (h1 : op ≤ 26) : op = 0 ∨ op = 1 ∨ op = 2 ∨ op = 3 ∨ op = 4 ∨ op = 5 ∨ op = 6 ∨ op = 7 ∨ op = 8 ∨ op = 9 ∨ op = 10 ∨ op = 11 ∨ op = 12 ∨ op = 13 ∨ op = 14 ∨ op = 15 ∨ op = 16 ∨ op = 17 ∨ op = 18 ∨ op = 19 ∨ op = 20 ∨ op = 21 ∨ op = 22 ∨ op = 23 ∨ op = 24 ∨ op = 25 ∨ op = 26 := by omega
set_option maxRecDepth 100000 in
theorem rform_any (op : Int) (w : World) : Calls Tryd.prog 18 #[.int .i64 op] w fun e w' => e = .returned (.tuple #[.int .i64 (formZ op), .int .i64 (formE op)]) ∧ w' = w := by
  by_cases h0 : 0 ≤ op
  · by_cases h1 : op ≤ 26
    · obtain rfl | rfl | rfl | rfl | rfl | rfl | rfl | rfl | rfl | rfl | rfl | rfl | rfl | rfl | rfl | rfl | rfl | rfl | rfl | rfl | rfl | rfl | rfl | rfl | rfl | rfl | rfl := op27 h0 h1
      all_goals
        clear h0 h1
        go_enter Tryd.func18, Tryd.ntmps18
        go_wp2
        go_ret2
        exact ⟨rfl, rfl⟩
    · have e1 : formZ op = 0 := if_neg (by omega)
      have e2 : formE op = 11 := if_neg (by omega)
      rw [e1, e2]
      go_enter Tryd.func18, Tryd.ntmps18
      go_wp2
      go_ret2
      exact ⟨rfl, rfl⟩
  · have e1 : formZ op = 0 := if_neg (by omega)
    have e2 : formE op = 11 := if_neg (by omega)
    rw [e1, e2]
    go_enter Tryd.func18, Tryd.ntmps18
    go_wp2
    go_ret2
    exact ⟨rfl, rfl⟩
end Go.Proofs.YtajkccigmiegkaaDoor
