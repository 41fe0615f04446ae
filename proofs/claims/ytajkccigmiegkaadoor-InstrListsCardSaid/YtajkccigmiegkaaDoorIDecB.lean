/- instr: Decode for any bytes. -/
import Derived.Test.YtajkccigmiegkaaDoorIDec
set_option linter.unusedVariables false
namespace Go.Proofs.YtajkccigmiegkaaDoor
open Go.RowKit

/-- The instruction with bytes. -/
def decC (x0 x1 x2 x3 : Int) : Int := numZ x0 (x2 + 256 * x3)
def decV (x0 x1 x2 x3 : Int) : Value := if chkZ x0 (x1 / 16) (x1 % 16) (decC x0 x1 x2 x3) = 0 then inV x0 (x1 / 16) (x1 % 16) (decC x0 x1 x2 x3) else inV 0 0 0 0
def decE (x0 x1 x2 x3 : Int) : Int := if chkZ x0 (x1 / 16) (x1 % 16) (decC x0 x1 x2 x3) = 0 then 0 else 24
theorem decode_any (x0 x1 x2 x3 : Nat) (w : World) (hE : Env w) (b0 : x0 < 256) (b1 : x1 < 256) (b2 : x2 < 256) (b3 : x3 < 256) :
    Calls Tryd.prog 27 #[byV x0 x1 x2 x3] w fun e w' => e = .returned (.tuple #[decV x0 x1 x2 x3, .int .i64 (decE x0 x1 x2 x3)]) ∧ Below w.heap.size w w' := by
  unfold decV decE
  by_cases hl : limE (x0 : Int) = 0
  · by_cases hL : lowZ (x0 : Int) < 0
    · by_cases hc : 32767 < (x2 : Int) + 256 * (x3 : Int)
      · skip
        have hd : decC (x0 : Int) x1 x2 x3 = (x2 : Int) + 256 * (x3 : Int) - 65536 := by unfold decC numZ; rw [if_pos (And.intro hl hL), if_pos hc]
        rw [hd]
        by_cases hk : chkZ (x0 : Int) ((x1 : Int) / 16) ((x1 : Int) % 16) ((x2 : Int) + 256 * (x3 : Int) - 65536) = 0
        · rw [if_pos hk, if_pos hk]; exact d_3ok x0 x1 x2 x3 _ _ _ _ w hE b0 b1 b2 b3 rfl rfl rfl rfl hl hL hc hk
        · rw [if_neg hk, if_neg hk]; exact d_3bad x0 x1 x2 x3 _ _ _ _ w hE b0 b1 b2 b3 rfl rfl rfl rfl hl hL hc hk
      · skip
        have hd : decC (x0 : Int) x1 x2 x3 = (x2 : Int) + 256 * (x3 : Int) := by unfold decC numZ; rw [if_pos (And.intro hl hL), if_neg hc]
        rw [hd]
        by_cases hk : chkZ (x0 : Int) ((x1 : Int) / 16) ((x1 : Int) % 16) ((x2 : Int) + 256 * (x3 : Int)) = 0
        · rw [if_pos hk, if_pos hk]; exact d_2ok x0 x1 x2 x3 _ _ _ _ w hE b0 b1 b2 b3 rfl rfl rfl rfl hl hL hc hk
        · rw [if_neg hk, if_neg hk]; exact d_2bad x0 x1 x2 x3 _ _ _ _ w hE b0 b1 b2 b3 rfl rfl rfl rfl hl hL hc hk
    · skip
      have hd : decC (x0 : Int) x1 x2 x3 = (x2 : Int) + 256 * (x3 : Int) := by unfold decC numZ; rw [if_neg (fun h => hL h.2)]
      rw [hd]
      by_cases hk : chkZ (x0 : Int) ((x1 : Int) / 16) ((x1 : Int) % 16) ((x2 : Int) + 256 * (x3 : Int)) = 0
      · rw [if_pos hk, if_pos hk]; exact d_1ok x0 x1 x2 x3 _ _ _ _ w hE b0 b1 b2 b3 rfl rfl rfl rfl hl hL hk
      · rw [if_neg hk, if_neg hk]; exact d_1bad x0 x1 x2 x3 _ _ _ _ w hE b0 b1 b2 b3 rfl rfl rfl rfl hl hL hk
  · skip
    have hd : decC (x0 : Int) x1 x2 x3 = (x2 : Int) + 256 * (x3 : Int) := by unfold decC numZ; rw [if_neg (fun h => hl h.1)]
    rw [hd]
    by_cases hk : chkZ (x0 : Int) ((x1 : Int) / 16) ((x1 : Int) % 16) ((x2 : Int) + 256 * (x3 : Int)) = 0
    · rw [if_pos hk, if_pos hk]; exact d_0ok x0 x1 x2 x3 _ _ _ _ w hE b0 b1 b2 b3 rfl rfl rfl rfl hl hk
    · rw [if_neg hk, if_neg hk]; exact d_0bad x0 x1 x2 x3 _ _ _ _ w hE b0 b1 b2 b3 rfl rfl rfl rfl hl hk

theorem rdecode_any (x0 x1 x2 x3 : Nat) (w : World) (b0 : x0 < 256) (b1 : x1 < 256) (b2 : x2 < 256) (b3 : x3 < 256) :
    Calls Tryd.prog 29 #[byV x0 x1 x2 x3] w fun e w' => e = .returned (.tuple #[decV x0 x1 x2 x3, .int .i64 (decE x0 x1 x2 x3)]) ∧ Below w.heap.size w w' := by
  unfold decV decE
  by_cases hl : limE (x0 : Int) = 0
  · by_cases hL : lowZ (x0 : Int) < 0
    · by_cases hc : 32767 < (x2 : Int) + 256 * (x3 : Int)
      · skip
        have hd : decC (x0 : Int) x1 x2 x3 = (x2 : Int) + 256 * (x3 : Int) - 65536 := by unfold decC numZ; rw [if_pos (And.intro hl hL), if_pos hc]
        rw [hd]
        by_cases hk : chkZ (x0 : Int) ((x1 : Int) / 16) ((x1 : Int) % 16) ((x2 : Int) + 256 * (x3 : Int) - 65536) = 0
        · rw [if_pos hk, if_pos hk]; exact rd_3ok x0 x1 x2 x3 _ _ _ _ w b0 b1 b2 b3 rfl rfl rfl rfl hl hL hc hk
        · rw [if_neg hk, if_neg hk]; exact rd_3bad x0 x1 x2 x3 _ _ _ _ w b0 b1 b2 b3 rfl rfl rfl rfl hl hL hc hk
      · skip
        have hd : decC (x0 : Int) x1 x2 x3 = (x2 : Int) + 256 * (x3 : Int) := by unfold decC numZ; rw [if_pos (And.intro hl hL), if_neg hc]
        rw [hd]
        by_cases hk : chkZ (x0 : Int) ((x1 : Int) / 16) ((x1 : Int) % 16) ((x2 : Int) + 256 * (x3 : Int)) = 0
        · rw [if_pos hk, if_pos hk]; exact rd_2ok x0 x1 x2 x3 _ _ _ _ w b0 b1 b2 b3 rfl rfl rfl rfl hl hL hc hk
        · rw [if_neg hk, if_neg hk]; exact rd_2bad x0 x1 x2 x3 _ _ _ _ w b0 b1 b2 b3 rfl rfl rfl rfl hl hL hc hk
    · skip
      have hd : decC (x0 : Int) x1 x2 x3 = (x2 : Int) + 256 * (x3 : Int) := by unfold decC numZ; rw [if_neg (fun h => hL h.2)]
      rw [hd]
      by_cases hk : chkZ (x0 : Int) ((x1 : Int) / 16) ((x1 : Int) % 16) ((x2 : Int) + 256 * (x3 : Int)) = 0
      · rw [if_pos hk, if_pos hk]; exact rd_1ok x0 x1 x2 x3 _ _ _ _ w b0 b1 b2 b3 rfl rfl rfl rfl hl hL hk
      · rw [if_neg hk, if_neg hk]; exact rd_1bad x0 x1 x2 x3 _ _ _ _ w b0 b1 b2 b3 rfl rfl rfl rfl hl hL hk
  · skip
    have hd : decC (x0 : Int) x1 x2 x3 = (x2 : Int) + 256 * (x3 : Int) := by unfold decC numZ; rw [if_neg (fun h => hl h.1)]
    rw [hd]
    by_cases hk : chkZ (x0 : Int) ((x1 : Int) / 16) ((x1 : Int) % 16) ((x2 : Int) + 256 * (x3 : Int)) = 0
    · rw [if_pos hk, if_pos hk]; exact rd_0ok x0 x1 x2 x3 _ _ _ _ w b0 b1 b2 b3 rfl rfl rfl rfl hl hk
    · rw [if_neg hk, if_neg hk]; exact rd_0bad x0 x1 x2 x3 _ _ _ _ w b0 b1 b2 b3 rfl rfl rfl rfl hl hk
end Go.Proofs.YtajkccigmiegkaaDoor
