/- What the operations of instr calculate, as plain functions on words; the sums that the reference forms. Plain lemmas, no program. -/
import Derived.Test.YtajkccigmiegkaaDoorIWord
set_option linter.unusedVariables false
namespace Go.Proofs.YtajkccigmiegkaaDoor

def sg (x : UInt32) : Int := if 2147483648 ≤ (x.toNat : Int) then (x.toNat : Int) - 4294967296 else (x.toNat : Int)
def us (n : Int) : UInt32 := UInt32.ofNat (n % 4294967296).toNat

theorem us_toNat (n : Int) : ((us n).toNat : Int) = n % 4294967296 := by
  unfold us
  rw [word_ofNat (by omega)]
  omega
theorem w_ext {x y : UInt32} (h : (x.toNat : Int) = (y.toNat : Int)) : x = y := UInt32.toNat_inj.1 (by omega)
theorem us_congr {m n : Int} (h : m % 4294967296 = n % 4294967296) : us m = us n := w_ext (by rw [us_toNat, us_toNat, h])
theorem us_nat (x : UInt32) : us (x.toNat : Int) = x := w_ext (by rw [us_toNat]; have := word_lti x; omega)
theorem us_sg (x : UInt32) : us (sg x) = x := by
  apply w_ext
  rw [us_toNat]
  have := word_lti x
  unfold sg
  split <;> omega
theorem sg_lo (x : UInt32) : -2147483648 ≤ sg x := by unfold sg; have := word_lti x; split <;> omega
theorem sg_hi (x : UInt32) : sg x ≤ 2147483647 := by unfold sg; have := word_lti x; split <;> omega
theorem sg_zero (x : UInt32) : sg x = 0 ↔ (x.toNat : Int) = 0 := by unfold sg; have := word_lti x; split <;> omega
theorem sg_wrap (x : UInt32) : IntKind.i32.wrap (x.toNat : Int) = sg x := by
  rw [IntKind.wrap_i32]
  have := word_lti x
  unfold sg
  split <;> omega
theorem us_wrap (n : Int) : IntKind.u32.wrap n = ((us n).toNat : Int) := by rw [IntKind.wrap_u32, us_toNat]

/-- The reference's Unsigned: the remainder, made positive. -/
theorem us_tmod (n : Int) : (if n.tmod 4294967296 < 0 then n.tmod 4294967296 + 4294967296 else n.tmod 4294967296) = n % 4294967296 := by
  have h := Int.emod_emod_of_dvd
  by_cases h0 : 0 ≤ n
  · rw [Int.tmod_eq_emod_of_nonneg h0, if_neg (by omega)]
  · have e : n.tmod 4294967296 = -((-n) % 4294967296) := by
      rw [← Int.tmod_eq_emod_of_nonneg (by omega), Int.neg_tmod, Int.neg_neg]
    rw [e]
    split <;> omega

def wsub (x y : UInt32) : UInt32 := x - y
def wmul (x y : UInt32) : UInt32 := x * y
theorem sub_w (x y : UInt32) : ((x.toNat : Int) - (y.toNat : Int)) % 4294967296 = ((wsub x y).toNat : Int) := by
  unfold wsub; rw [UInt32.toNat_sub]; have := word_lt x; have := word_lt y; omega
theorem mul_w (x y : UInt32) : ((x.toNat : Int) * (y.toNat : Int)) % 4294967296 = ((wmul x y).toNat : Int) := by
  unfold wmul; rw [UInt32.toNat_mul]; exact (Int.natCast_emod _ _).symm

theorem us_add (x y : UInt32) : us ((x.toNat : Int) + (y.toNat : Int)) = wadd x y := w_ext (by rw [us_toNat, add_w])
theorem us_sub (x y : UInt32) : us ((x.toNat : Int) - (y.toNat : Int)) = wsub x y := w_ext (by rw [us_toNat, sub_w])
/-- The product in two halves. -/
theorem halves (a b : Int) : ((a % 65536 * b) % 4294967296 + (a / 65536 * b) % 65536 * 65536) % 4294967296 = (a * b) % 4294967296 := by
  have e1 : a * b = a % 65536 * b + (a / 65536 * b) * 65536 := by
    have := Int.emod_add_mul_ediv a 65536
    calc a * b = (a % 65536 + 65536 * (a / 65536)) * b := by rw [this]
      _ = _ := by rw [Int.add_mul, Int.mul_assoc, Int.mul_comm 65536]
  rw [e1]
  generalize a % 65536 * b = u
  generalize a / 65536 * b = v
  omega
theorem us_mul (x y : UInt32) : us ((((x.toNat : Int) % 65536) * (y.toNat : Int)) % 4294967296 + ((x.toNat : Int) / 65536 * (y.toNat : Int)) % 65536 * 65536) = wmul x y := by
  apply w_ext
  rw [us_toNat, halves, mul_w]

/-- The bits of words, from the highest one on. -/
theorem shr_bit (n i : Nat) : n / 2 ^ i = 2 * (n / 2 ^ (i + 1)) + n / 2 ^ i % 2 := by
  rw [Nat.pow_succ, ← Nat.div_div_eq_div_mul]; omega
theorem bit_op (f : Bool → Bool → Bool) (op : UInt32 → UInt32 → UInt32) (h : ∀ x y i, (op x y).toNat.testBit i = f (x.toNat.testBit i) (y.toNat.testBit i)) (x y : UInt32) (i : Nat) :
    (op x y).toNat / 2 ^ i % 2 = (if f (decide (x.toNat / 2 ^ i % 2 = 1)) (decide (y.toNat / 2 ^ i % 2 = 1)) then 1 else 0) := by
  have := h x y i
  simp only [Nat.testBit_eq_decide_div_mod_eq] at this
  by_cases hb : (op x y).toNat / 2 ^ i % 2 = 1
  · rw [decide_eq_true hb] at this
    rw [← this, hb]; rfl
  · rw [decide_eq_false hb] at this
    rw [← this]
    have : (op x y).toNat / 2 ^ i % 2 < 2 := Nat.mod_lt _ (by omega)
    simp; omega
theorem bit_and (x y : UInt32) (i : Nat) : (wand x y).toNat.testBit i = (x.toNat.testBit i && y.toNat.testBit i) := by
  unfold wand; rw [UInt32.toNat_and, Nat.testBit_and]
theorem bit_or (x y : UInt32) (i : Nat) : (wor x y).toNat.testBit i = (x.toNat.testBit i || y.toNat.testBit i) := by
  unfold wor; rw [UInt32.toNat_or, Nat.testBit_or]
theorem bit_xor (x y : UInt32) (i : Nat) : (wxor x y).toNat.testBit i = (x.toNat.testBit i ^^ y.toNat.testBit i) := by
  unfold wxor; rw [UInt32.toNat_xor, Nat.testBit_xor]

/-- What an operation calculates. -/
def calZ (op : Int) (x y : UInt32) : UInt32 :=
  if op = 4 then wadd x y else if op = 5 then wsub x y else if op = 6 then wmul x y
  else if op = 7 then (if (y.toNat : Int) = 0 then 0 else us ((sg x).tdiv (sg y))) else if op = 8 then (if (y.toNat : Int) = 0 then 0 else us ((sg x).tmod (sg y)))
  else if op = 9 then wand x y else if op = 10 then wor x y else if op = 11 then wxor x y
  else if op = 12 then wshl x (y.toNat % 32) else if op = 13 then wshr x (y.toNat % 32)
  else if op = 14 then (if sg x < sg y then 1 else 0) else if op = 15 then (if x = y then 1 else 0) else 0
def calcE (op : Int) (y : UInt32) : Int := if 4 ≤ op ∧ op ≤ 15 then (if (op = 7 ∨ op = 8) ∧ (y.toNat : Int) = 0 then 38 else 0) else 11

/-- The laws of arithmetic. -/
theorem sub_add (x y : UInt32) : wsub (wadd x y) y = x := by unfold wsub wadd; exact UInt32.add_sub_cancel x y
theorem xor_xor (x y : UInt32) : wxor (wxor x y) y = x := by unfold wxor; rw [UInt32.xor_assoc, UInt32.xor_self, UInt32.xor_zero]
theorem div_mod (x y : UInt32) : wadd (wmul (us ((sg x).tdiv (sg y))) y) (us ((sg x).tmod (sg y))) = x := by
  apply w_ext
  rw [← add_w, ← mul_w, us_toNat, us_toNat]
  have hy : (y.toNat : Int) % 4294967296 = sg y % 4294967296 := by
    have := us_sg y
    have h2 := us_toNat (sg y)
    rw [this] at h2
    rw [← h2]
    have := word_lti y
    omega
  have hx : (x.toNat : Int) = sg x % 4294967296 := by
    have := us_toNat (sg x)
    rw [us_sg] at this
    exact this
  rw [hx]
  have e := Int.tdiv_mul_add_tmod (sg x) (sg y)
  generalize (sg x).tdiv (sg y) = q at *
  generalize (sg x).tmod (sg y) = r at *
  rw [← e]
  have h1 : (q % 4294967296 * (y.toNat : Int)) % 4294967296 = (q * sg y) % 4294967296 := by
    rw [Int.mul_emod, Int.emod_emod_of_dvd q (Int.dvd_refl _), hy, ← Int.mul_emod]
  rw [h1]
  omega
end Go.Proofs.YtajkccigmiegkaaDoor
