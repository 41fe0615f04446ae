/- Words of 32 bits as plain functions. -/
import Derived.Test.YtajkccigmiegkaaDoorChecked
import Derived.WalkKit
import Derived.Lib.Hide
import Derived.Deep.Draws
set_option linter.unusedVariables false
namespace Go.Proofs.YtajkccigmiegkaaDoor
open Go.RowKit

/-- A word as a value. -/
abbrev wv (x : UInt32) : Value := .int .u32 (x.toNat : Int)

def wadd (x y : UInt32) : UInt32 := x + y
def wxor (x y : UInt32) : UInt32 := x ^^^ y
def wand (x y : UInt32) : UInt32 := x &&& y
def wor (x y : UInt32) : UInt32 := x ||| y
def wnot (x : UInt32) : UInt32 := ~~~x
def wshl (x : UInt32) (n : Nat) : UInt32 := UInt32.ofNat (x.toNat * 2 ^ n)
def wshr (x : UInt32) (n : Nat) : UInt32 := UInt32.ofNat (x.toNat / 2 ^ n)
theorem word_lt (x : UInt32) : x.toNat < 4294967296 := x.toNat_lt
theorem word_lti (x : UInt32) : (x.toNat : Int) < 4294967296 := by have := word_lt x; omega
theorem word_ofNat {n : Nat} (h : n < 4294967296) : (UInt32.ofNat n).toNat = n := by
  rw [UInt32.toNat_ofNat']; exact Nat.mod_eq_of_lt h
theorem word_bv (x : UInt32) : BitVec.ofInt 32 (x.toNat : Int) = x.toBitVec := by
  rw [BitVec.ofInt_natCast]
  apply BitVec.eq_of_toNat_eq
  rw [BitVec.toNat_ofNat]
  exact Nat.mod_eq_of_lt (word_lt x)
theorem wrap_w (x : UInt32) : IntKind.u32.wrap (x.toBitVec.toNat : Int) = (x.toNat : Int) := by
  rw [IntKind.wrap_u32]
  exact Int.emod_eq_of_lt (Int.natCast_nonneg _) (word_lti x)

theorem bits_or_w (x y : UInt32) : bits .or .u32 (x.toNat : Int) (y.toNat : Int) = ((wor x y).toNat : Int) := by
  show IntKind.u32.wrap ((BitVec.ofInt 32 (x.toNat : Int) ||| BitVec.ofInt 32 (y.toNat : Int)).toNat : Int) = _
  rw [word_bv, word_bv, ← UInt32.toBitVec_or]
  exact wrap_w _
theorem bits_and_w (x y : UInt32) : bits .and .u32 (x.toNat : Int) (y.toNat : Int) = ((wand x y).toNat : Int) := by
  show IntKind.u32.wrap ((BitVec.ofInt 32 (x.toNat : Int) &&& BitVec.ofInt 32 (y.toNat : Int)).toNat : Int) = _
  rw [word_bv, word_bv, ← UInt32.toBitVec_and]
  exact wrap_w _
theorem bits_xor_w (x y : UInt32) : bits .xor .u32 (x.toNat : Int) (y.toNat : Int) = ((wxor x y).toNat : Int) := by
  show IntKind.u32.wrap ((BitVec.ofInt 32 (x.toNat : Int) ^^^ BitVec.ofInt 32 (y.toNat : Int)).toNat : Int) = _
  rw [word_bv, word_bv, ← UInt32.toBitVec_xor]
  exact wrap_w _
theorem bits_not_w (x : UInt32) : bits .xor .u32 4294967295 (x.toNat : Int) = ((wnot x).toNat : Int) := by
  rw [show (4294967295 : Int) = ((4294967295 : UInt32).toNat : Int) from rfl, bits_xor_w]
  congr 2
theorem add_w (x y : UInt32) : ((x.toNat : Int) + (y.toNat : Int)) % 4294967296 = ((wadd x y).toNat : Int) := by
  unfold wadd; rw [UInt32.toNat_add]; omega
theorem shl_w (x : UInt32) (n : Nat) (k : Int) (h : k = ((2 ^ n : Nat) : Int)) : ((x.toNat : Int) * k) % 4294967296 = ((wshl x n).toNat : Int) := by
  subst h
  unfold wshl
  rw [UInt32.toNat_ofNat']
  exact (Int.natCast_emod _ _).symm
theorem shr_w (x : UInt32) (n : Nat) (k : Int) (h : k = ((2 ^ n : Nat) : Int)) : (x.toNat : Int) / k = ((wshr x n).toNat : Int) := by
  subst h
  have h1 : x.toNat / 2 ^ n < 4294967296 := Nat.lt_of_le_of_lt (Nat.div_le_self _ _) (word_lt x)
  unfold wshr
  rw [word_ofNat h1]
  exact (Int.natCast_ediv _ _).symm
theorem ret_w {a b : Int} (h : a = b) : Ending.returned (.int .u32 a) = .returned (.int .u32 b) := by rw [h]
end Go.Proofs.YtajkccigmiegkaaDoor
