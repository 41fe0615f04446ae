/- object: the tables that the program lays, as facts of a world; the walks of the smallest functions of the library that it calls. -/
import Derived.Test.YtcdjmkfpclmbdaaGreatDoorOMath
import Derived.WalkSmall
set_option linter.unusedVariables false
namespace Go.Proofs.YtcdjmkfpclmbdaaGreatDoor
open Go.RowKit

/-- The cells of a kind. -/
def useV (k : Nat) : List Value := [.string ⟨(wordN k).toArray⟩, .bool (ownN k), .bool (numN k), .bool (idxN k), .bool (txtN k), .int .i64 (mostN k : Int)]
/-- What a world holds of the program's tables. -/
structure Env (w : World) : Prop where
  pow : Pow w
  kinds : ∀ k, k ≤ 20 → ∀ j v, (useV k)[j]? = some v → w.cell? ⟨0, k * 6 + j, none⟩ = some v
  syn : ∃ tp p, w.var? Tryz.prog "strconv.ErrSyntax" = some #[.iface tp p]
  ran : ∃ tp p, w.var? Tryz.prog "strconv.ErrRange" = some #[.iface tp p]
theorem gSyn : Tryz.prog.globalNamed "strconv.ErrSyntax" = some 3 := by kernel_rfl
theorem gRan : Tryz.prog.globalNamed "strconv.ErrRange" = some 4 := by kernel_rfl
theorem var_lt {w : World} {n : String} {g : Nat} {cs : Array Value} (hg : Tryz.prog.globalNamed n = some g) (h : w.var? Tryz.prog n = some cs) : g < w.heap.size := by
  unfold World.var? at h
  rw [hg] at h
  rcases Nat.lt_or_ge g w.heap.size with h' | h'
  · exact h'
  · simp [Array.getElem?_eq_none h'] at h
theorem Env.below {w w' : World} (h : Env w) (hb : Below w.heap.size w w') : Env w' := by
  refine ⟨h.pow.below hb h.pow.lt, fun k hk j v hv => ?_, ?_, ?_⟩
  · have h1 := h.kinds k hk j v hv
    exact (hb.cell (p := ⟨0, k * 6 + j, none⟩) (cell_lt h1)).trans h1
  · obtain ⟨tp, p, hv⟩ := h.syn
    exact ⟨tp, p, var?_below hb gSyn (var_lt gSyn hv) hv⟩
  · obtain ⟨tp, p, hv⟩ := h.ran
    exact ⟨tp, p, var?_below hb gRan (var_lt gRan hv) hv⟩
end Go.Proofs.YtcdjmkfpclmbdaaGreatDoor
