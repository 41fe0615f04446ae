/- object: the walk of the law ObjectApart. -/
import Derived.Test.YtcdjmkfpclmbdaaGreatDoorOChecks
import Derived.Test.YtcdjmkfpclmbdaaGreatDoorOAsg
import Derived.Deep.RegionWith
set_option linter.unusedVariables false
namespace Go.Proofs.YtcdjmkfpclmbdaaGreatDoor
open Go.RowKit

theorem bcell {W w1 : World} (hb : Below W.heap.size W w1) : (∀ b o, b < W.heap.size → w1.cell? ⟨b, o, none⟩ = W.cell? ⟨b, o, none⟩) ∧ (∀ b o, b < W.heap.size → w1.frozen? ⟨b, o, none⟩ = W.frozen? ⟨b, o, none⟩) :=
  ⟨fun b o h => hb.cell (p := ⟨b, o, none⟩) h, fun b o h => hb.frozen (p := ⟨b, o, none⟩) h⟩
/-- Two names of the reference, boxed. -/
def B2 (w : World) (cs ds : Array Value) (V : World) : Prop := Blk V w.heap.size 23 cs ∧ Blk V (w.heap.size + 1) 23 ds ∧ Below w.heap.size w V
theorem b2_new (w : World) (cs ds : Array Value) : B2 w cs ds ((w.alloc (.cells cs 23)).alloc (.cells ds 23)) := by
  have e : (w.alloc (Obj.cells cs 23)).heap.size = w.heap.size + 1 := by simp
  refine ⟨(Blk.new w _ _).alloc _, ?_, ((Below.refl _ w).alloc (Nat.le_refl _) _).alloc (by simp) _⟩
  rw [← e]; exact Blk.new _ _ _
theorem B2.under {w : World} {cs ds : Array Value} {V V' : World} (h : B2 w cs ds V) (hb : Below V.heap.size V V') : B2 w cs ds V' := ⟨h.1.under hb, h.2.1.under hb, h.2.2.trans (hb.mono h.2.2.size)⟩
theorem B2.bel {w : World} {cs ds : Array Value} {V : World} (h : B2 w cs ds V) : Below w.heap.size w V := h.2.2
/-- The law's two names. -/
def D2 (w : World) (g f : Nat) (cs ds : Array Value) (V : World) : Prop := Blk V g 28 cs ∧ Blk V f 28 ds ∧ Below w.heap.size w V
theorem D2.under {w : World} {g f : Nat} {cs ds : Array Value} {V V' : World} (h : D2 w g f cs ds V) (hb : Below V.heap.size V V') : D2 w g f cs ds V' := ⟨h.1.under hb, h.2.1.under hb, h.2.2.trans (hb.mono h.2.2.size)⟩
theorem D2.bel {w : World} {g f : Nat} {cs ds : Array Value} {V : World} (h : D2 w g f cs ds V) : Below w.heap.size w V := h.2.2
theorem D2.drew {w : World} {g f : Nat} {cs ds : Array Value} {V : World} (h : D2 w g f cs ds V) : D2 w g f cs ds V.drew := ⟨h.1.drew, h.2.1.drew, h.2.2.drew⟩

theorem ba_toList {x y : ByteArray} (h : x.toList = y.toList) : x = y := by
  rw [ByteArray.toList_eq, ByteArray.toList_eq] at h
  exact Go.WideShapes.bytes_inj h
theorem r_no {K L n m i j : Int} {O P T Q : ByteArray} (h : ¬ (K = L ∧ O.toList = P.toList ∧ n = m ∧ i = j ∧ T.toList = Q.toList)) : decide (K = L ∧ O = P ∧ n = m ∧ i = j ∧ T = Q) = false :=
  decide_eq_false (fun ⟨h1, h2, h3, h4, h5⟩ => h ⟨h1, by rw [h2], h3, h4, by rw [h5]⟩)
theorem r_yes {K L n m i j : Int} {O P T Q : ByteArray} (h : K = L ∧ O.toList = P.toList ∧ n = m ∧ i = j ∧ T.toList = Q.toList) : decide (K = L ∧ O = P ∧ n = m ∧ i = j ∧ T = Q) = true :=
  decide_eq_true ⟨h.1, ba_toList h.2.1, h.2.2.1, h.2.2.2.1, ba_toList h.2.2.2.2⟩
theorem getD_eval {a : Act} {t : Nat} {v : Value} (h : a.eval (.tmp t) = v) : a.tmps[t]?.getD undef = v := by
  rw [← Array.getD_eq_getD_getElem?]; exact h
theorem d2_of {w V V' : World} {cs ds xs ys : Array Value} {g f : Nat} (h : B2 w cs ds V) (hb : Below V.heap.size V V') (hg : Blk V' g 28 xs) (hf : Blk V' f 28 ys) : D2 w g f xs ys V' := ⟨hg, hf, h.2.2.trans (hb.mono h.2.2.size)⟩

end Go.Proofs.YtcdjmkfpclmbdaaGreatDoor
