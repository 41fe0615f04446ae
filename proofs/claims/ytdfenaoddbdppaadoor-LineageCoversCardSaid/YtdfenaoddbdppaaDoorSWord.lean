/- Words of 32 bits as plain functions; the walks of the three functions that rotate. -/
import Derived.Test.YtdfenaoddbdppaaDoorChecked
import Derived.WalkKit
import Derived.Lib.Hide
import Derived.Deep.Draws
set_option linter.unusedVariables false
namespace Go.Proofs.YtdfenaoddbdppaaDoor
open Go.RowKit

/-- A word as a value. -/
abbrev wv (x : UInt32) : Value := .int .u32 (x.toNat : Int)

def wadd (x y : UInt32) : UInt32 := x + y
def wxor (x y : UInt32) : UInt32 := x ^^^ y
def wand (x y : UInt32) : UInt32 := x &&& y
def wor (x y : UInt32) : UInt32 := x ||| y
def wnot (x : UInt32) : UInt32 := ~~~x
def wshl (x : UInt32) (n : Nat) : UInt32 := UInt32.ofNat (x.toNat * 2 ^ n)
def wshr (x : UInt32) (n : Nat) : UInt32 := UInt32.ofNat (x.toNat / 2 ^ n)
def rotr (i : Int) (x : UInt32) : UInt32 := wor (wshl x (32 - i.toNat)) (wshr x i.toNat)

theorem word_lt (x : UInt32) : x.toNat < 4294967296 := x.toNat_lt
theorem word_lti (x : UInt32) : (x.toNat : Int) < 4294967296 := by have := word_lt x; omega
theorem word_ofNat {n : Nat} (h : n < 4294967296) : (UInt32.ofNat n).toNat = n := by
  rw [UInt32.toNat_ofNat']; exact Nat.mod_eq_of_lt h
theorem word_bv (x : UInt32) : BitVec.ofInt 32 (x.toNat : Int) = x.toBitVec := by
  rw [BitVec.ofInt_natCast]
  apply BitVec.eq_of_toNat_eq
  rw [BitVec.toNat_ofNat]
  exact Nat.mod_eq_of_lt (word_lt x)
theorem wrap_w (x : UInt32) : IntKind.u32.wrap (x.toBitVec.toNat : Int) = (x.toNat : Int) := by
  rw [IntKind.wrap_u32]
  exact Int.emod_eq_of_lt (Int.natCast_nonneg _) (word_lti x)

theorem bits_or_w (x y : UInt32) : bits .or .u32 (x.toNat : Int) (y.toNat : Int) = ((wor x y).toNat : Int) := by
  show IntKind.u32.wrap ((BitVec.ofInt 32 (x.toNat : Int) ||| BitVec.ofInt 32 (y.toNat : Int)).toNat : Int) = _
  rw [word_bv, word_bv, ← UInt32.toBitVec_or]
  exact wrap_w _
theorem bits_and_w (x y : UInt32) : bits .and .u32 (x.toNat : Int) (y.toNat : Int) = ((wand x y).toNat : Int) := by
  show IntKind.u32.wrap ((BitVec.ofInt 32 (x.toNat : Int) &&& BitVec.ofInt 32 (y.toNat : Int)).toNat : Int) = _
  rw [word_bv, word_bv, ← UInt32.toBitVec_and]
  exact wrap_w _
theorem bits_xor_w (x y : UInt32) : bits .xor .u32 (x.toNat : Int) (y.toNat : Int) = ((wxor x y).toNat : Int) := by
  show IntKind.u32.wrap ((BitVec.ofInt 32 (x.toNat : Int) ^^^ BitVec.ofInt 32 (y.toNat : Int)).toNat : Int) = _
  rw [word_bv, word_bv, ← UInt32.toBitVec_xor]
  exact wrap_w _
theorem bits_not_w (x : UInt32) : bits .xor .u32 4294967295 (x.toNat : Int) = ((wnot x).toNat : Int) := by
  rw [show (4294967295 : Int) = ((4294967295 : UInt32).toNat : Int) from rfl, bits_xor_w]
  congr 2
theorem add_w (x y : UInt32) : ((x.toNat : Int) + (y.toNat : Int)) % 4294967296 = ((wadd x y).toNat : Int) := by
  unfold wadd; rw [UInt32.toNat_add]; omega
theorem shl_w (x : UInt32) (n : Nat) (k : Int) (h : k = ((2 ^ n : Nat) : Int)) : ((x.toNat : Int) * k) % 4294967296 = ((wshl x n).toNat : Int) := by
  subst h
  unfold wshl
  rw [UInt32.toNat_ofNat']
  exact (Int.natCast_emod _ _).symm
theorem shr_w (x : UInt32) (n : Nat) (k : Int) (h : k = ((2 ^ n : Nat) : Int)) : (x.toNat : Int) / k = ((wshr x n).toNat : Int) := by
  subst h
  have h1 : x.toNat / 2 ^ n < 4294967296 := Nat.lt_of_le_of_lt (Nat.div_le_self _ _) (word_lt x)
  unfold wshr
  rw [word_ofNat h1]
  exact (Int.natCast_ediv _ _).symm
theorem rot_eq (i : Int) (x : UInt32) (a b : Int) (ha : a = ((2 ^ (32 - i.toNat) : Nat) : Int)) (hb : b = ((2 ^ i.toNat : Nat) : Int)) :
    bits .or .u32 ((x.toNat : Int) * a % 4294967296) ((x.toNat : Int) / b) = ((rotr i x).toNat : Int) := by
  rw [shl_w x _ a ha, shr_w x _ b hb, bits_or_w]; rfl
theorem rot_eq2 (i : Int) (x : UInt32) (a b : Int) (ha : a = ((2 ^ (32 - i.toNat) : Nat) : Int)) (hb : b = ((2 ^ i.toNat : Nat) : Int)) :
    bits .or .u32 ((x.toNat : Int) / b) ((x.toNat : Int) * a % 4294967296) = ((rotr i x).toNat : Int) := by
  rw [shl_w x _ a ha, shr_w x _ b hb, bits_or_w]; unfold rotr wor; rw [UInt32.or_comm]
theorem ret_w {a b : Int} (h : a = b) : Ending.returned (.int .u32 a) = .returned (.int .u32 b) := by rw [h]

/-- The numbers by which words are rotated. -/
def Turns (n : Int) : Prop := n = 2 ∨ n = 6 ∨ n = 7 ∨ n = 11 ∨ n = 13 ∨ n = 17 ∨ n = 18 ∨ n = 19 ∨ n = 22 ∨ n = 25

set_option maxHeartbeats 400000 in
theorem rotateLeft_any (n : Int) (x : UInt32) (w : World) (h : Turns n) :
    Calls Tryd.prog 114 #[wv x, .int .i64 (-n)] w fun e w' => e = .returned (wv (rotr n x)) ∧ w = w' := by
  have b2 : bits .and .u64 (IntKind.u64.wrap (-2)) 31 = 30 := by decide
  have b6 : bits .and .u64 (IntKind.u64.wrap (-6)) 31 = 26 := by decide
  have b7 : bits .and .u64 (IntKind.u64.wrap (-7)) 31 = 25 := by decide
  have b11 : bits .and .u64 (IntKind.u64.wrap (-11)) 31 = 21 := by decide
  have b13 : bits .and .u64 (IntKind.u64.wrap (-13)) 31 = 19 := by decide
  have b17 : bits .and .u64 (IntKind.u64.wrap (-17)) 31 = 15 := by decide
  have b18 : bits .and .u64 (IntKind.u64.wrap (-18)) 31 = 14 := by decide
  have b19 : bits .and .u64 (IntKind.u64.wrap (-19)) 31 = 13 := by decide
  have b22 : bits .and .u64 (IntKind.u64.wrap (-22)) 31 = 10 := by decide
  have b25 : bits .and .u64 (IntKind.u64.wrap (-25)) 31 = 7 := by decide
  go_enter Tryd.func114, Tryd.ntmps114
  rcases h with rfl | rfl | rfl | rfl | rfl | rfl | rfl | rfl | rfl | rfl
  all_goals (go_wp2; go_ret; exact ⟨ret_w (rot_eq _ x _ _ rfl rfl), rfl⟩)

set_option maxHeartbeats 400000 in
theorem rotate_any (n : Int) (x : UInt32) (w : World) (h : Turns n) :
    Calls Tryd.prog 108 #[.int .i64 n, wv x] w fun e w' => e = .returned (wv (rotr n x)) ∧ w = w' := by
  have H := Lib.hid (rotateLeft_any n x w h)
  have hw : IntKind.i64.wrap (-n) = -n := by rw [IntKind.wrap_i64]; rcases h with rfl | rfl | rfl | rfl | rfl | rfl | rfl | rfl | rfl | rfl <;> rfl
  clear h
  go_enter Tryd.func108, Tryd.ntmps108
  go_wp2_with (go_at_call 114; refine H.out.mono ?_; rintro e w' ⟨rfl, rfl⟩)
  go_ret
  exact ⟨rfl, rfl⟩

set_option maxHeartbeats 400000 in
theorem turn_any (n : Int) (x : UInt32) (w : World) (h : Turns n) :
    Calls Tryd.prog 96 #[.int .i64 n, wv x] w fun e w' => e = .returned (wv (rotr n x)) ∧ ∃ q, w' = w.drewN q := by
  go_enter Tryd.func96, Tryd.ntmps96
  rcases h with rfl | rfl | rfl | rfl | rfl | rfl | rfl | rfl | rfl | rfl
  all_goals (go_wp2; go_region; go_wp2; go_ret; exact ⟨ret_w (rot_eq2 _ x _ _ rfl rfl), 1, rfl⟩)
end Go.Proofs.YtdfenaoddbdppaaDoor
