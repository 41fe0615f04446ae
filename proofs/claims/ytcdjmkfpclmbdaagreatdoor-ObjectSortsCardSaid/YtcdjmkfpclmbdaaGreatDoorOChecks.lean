/- object: the walk of the law ObjectChecks. -/
import Derived.Test.YtcdjmkfpclmbdaaGreatDoorORChkB
set_option linter.unusedVariables false
namespace Go.Proofs.YtcdjmkfpclmbdaaGreatDoor
open Go.RowKit

/-- The law's blocks: the name, the birth. -/
def QK (w : World) (cs bs : Array Value) (V : World) : Prop := Blk V w.heap.size 23 cs ∧ Blk V (w.heap.size + 1) 34 bs ∧ Below w.heap.size w V
theorem Blk.one {w : World} {cs : Array Value} {t : TypeId} : Blk (w.alloc (.cells cs t)) w.heap.size t cs := Blk.new _ _ _
/-- A name of the reference, boxed. -/
def BX (w : World) (cs : Array Value) (V : World) : Prop := Blk V w.heap.size 23 cs ∧ Below w.heap.size w V
theorem bx_new (w : World) (cs : Array Value) : BX w cs (w.alloc (.cells cs 23)) := ⟨Blk.new _ _ _, below_alloc0 _ _ (Nat.le_refl _)⟩
theorem BX.under {w : World} {cs : Array Value} {V V' : World} (h : BX w cs V) (hb : Below V.heap.size V V') : BX w cs V' := ⟨h.1.under hb, h.2.trans (hb.mono h.2.size)⟩
theorem BX.bel {w : World} {cs : Array Value} {V : World} (h : BX w cs V) : Below w.heap.size w V := h.2
theorem BX.drew {w : World} {cs : Array Value} {V : World} (h : BX w cs V) : BX w cs V.drew := ⟨h.1.drew, h.2.drew⟩
def BY (w : World) (g : Nat) (cs bs : Array Value) (V : World) : Prop := BX w cs V ∧ Blk V g 34 bs
theorem by_new {w V : World} {cs bs : Array Value} (h : BX w cs V) : BY w V.heap.size cs bs (V.alloc (.cells bs 34)) := ⟨⟨h.1.alloc _, h.2.alloc h.2.size _⟩, Blk.new _ _ _⟩
theorem BY.under {w : World} {g : Nat} {cs bs : Array Value} {V V' : World} (h : BY w g cs bs V) (hb : Below V.heap.size V V') : BY w g cs bs V' := ⟨h.1.under hb, h.2.under hb⟩
theorem BY.bel {w : World} {g : Nat} {cs bs : Array Value} {V : World} (h : BY w g cs bs V) : Below w.heap.size w V := h.1.2
theorem BY.drew {w : World} {g : Nat} {cs bs : Array Value} {V : World} (h : BY w g cs bs V) : BY w g cs bs V.drew := ⟨h.1.drew, h.2.drew⟩

end Go.Proofs.YtcdjmkfpclmbdaaGreatDoor
