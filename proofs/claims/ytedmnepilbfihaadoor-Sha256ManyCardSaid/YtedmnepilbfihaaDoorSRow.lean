/- What the rows of the layer share: the table of constants out of what the row lists; the witness's own heap. -/
import Derived.Test.YtedmnepilbfihaaDoorRows
import Derived.Test.YtedmnepilbfihaaDoorTie
import Derived.Test.YtedmnepilbfihaaDoorSComp
import Derived.ProofKit
import Derived.LaidMore
import Derived.OpenShut
import Derived.Stop.Joined
set_option linter.unusedVariables false
namespace Go.Proofs.YtedmnepilbfihaaDoor
open Go.ChangeShapes Go.WideShapes Go.ChangeAt Go.WideMaps Go.WideElems Go.RowKit

theorem gConst : Tryd.prog.globalNamed "replevin/sha256.constants" = some 0 := by kernel_rfl
theorem tConst : (Tryd.prog.globals[0]?).map (·.type) = some 86 := by kernel_rfl
theorem own : ownKnob Tryd.prog.godebug = none := by kernel_rfl

/-- The door's own heap meets the condition. -/
theorem door_met (os : Os) (args : Array Value) : laidMetH Tryd.prog [("replevin/sha256.constants", Rows.laid_replevin_sha256_constants)] ((World.doorLaid Tryd.prog 400 os).forCall (fun _ _ => 0) ⟨#[], args, []⟩).memory :=
  laidMetH_of_parts3 (fuel := 8) (laidMet_of_run' 8 (by kernel_rfl) (by kernel_rfl)) (by kernel_rfl) (by kernel_rfl)

theorem laid_list {H : Type} : (Rows.laid_replevin_sha256_constants : DataW H) = .agg (KS.map fun x => .lit (.int .u32 (x.toNat : Int))) := rfl
theorem take_one {α : Type} {l : List α} {t : Nat} {v : α} (h : (l.drop t).take 1 = [v]) : l[t]? = some v := by
  have h1 := congrArg (fun x => x[0]?) h
  simpa [List.getElem?_take, List.getElem?_drop] using h1

theorem of_laid {W : World} (h : laidMetH Tryd.prog [("replevin/sha256.constants", Rows.laid_replevin_sha256_constants)] W) : Tab W := by
  rw [MakeChecks.laidMetH_plain _ _ _ (by kernel_rfl)] at h
  obtain ⟨ps, ⟨g0, t0, cs0, f0, p0, q0, hg0, ht0, hv0, hd0, hrest⟩, hrest2⟩ := h
  obtain rfl := Option.some.inj (gConst.symm.trans hg0)
  obtain rfl := Option.some.inj (tConst.symm.trans ht0)
  obtain ⟨xs, m1, hx0, hx1, hlen, hn3, hel⟩ := DataW.trod_array Tryd.underlying86 hd0
  have c1 : Tryd.prog.cellsOf 63 = 1 := by kernel_rfl
  rw [c1] at hel
  have hl := (Prod.mk.inj hx1).1
  rw [laid_list] at hl
  injection hl with hl
  have htab : ∀ t, t < 64 → W.cell? ⟨0, t, none⟩ = some (wv (KS.getD t 0)) := by
    intro t ht
    have h0 := hel t ht
    have hxt : xs[t]? = some (xs[t]'(by omega)) := List.getElem?_eq_getElem _
    rw [hxt] at h0
    obtain ⟨k, e1, e2, _⟩ := DataW.trod_int Tryd.underlying63 h0
    have hk : (List.map (fun x => x.1) xs)[t]? = some (xs[t]'(by omega)).1 := by rw [List.getElem?_map, hxt]; rfl
    rw [← hl, List.getElem?_map, List.getElem?_eq_getElem (by rw [KS_length]; exact ht)] at hk
    simp only [Option.map_some, Option.some.injEq] at hk
    rw [e2] at hk
    have hk2 : ((KS[t]'(by rw [KS_length]; exact ht)).toNat : Int) = k := by
      injection hk with h1
      injection h1 with _ h2
    rw [Nat.mul_one] at e1
    have hc := World.var?_cell hg0 hv0 t
    have h3 : cs0[t]? = some (.int .u32 k) := by
      have := take_one e1
      simpa using this
    rw [h3] at hc
    rw [hc, ← hk2, List.getD_eq_getElem?_getD, List.getElem?_eq_getElem (by rw [KS_length]; exact ht)]
    rfl
  exact ⟨block_lt_of_cell (htab 0 (by omega)), htab⟩
end Go.Proofs.YtedmnepilbfihaaDoor
