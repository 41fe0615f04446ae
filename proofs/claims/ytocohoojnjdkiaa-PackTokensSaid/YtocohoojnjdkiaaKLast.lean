/- pack: the finder's latest. -/
import Derived.Test.YtocohoojnjdkiaaKStart
import Derived.Deep.RegionHeld3
set_option linter.unusedVariables false
namespace Go.Proofs.Ytocohoojnjdkiaa
open Go.RowKit

/-- A place, or the one that is too far from all. -/
def encO : Option Nat → Int
  | some q => (q : Int)
  | none => -4097
set_option maxHeartbeats 1000000 in
set_option maxRecDepth 100000 in
theorem latest_any (g r : Nat) (A : Option Addr) (t : List UInt8) (c : Nat) (f : List UInt8 → Option Nat) (w : World) (hg : g < w.heap.size) (hcl : w.cell? ⟨g, 0, none⟩ = some (.slice A t.length c)) (hcm : w.cell? ⟨g, 1, none⟩ = some (.map (some r))) (hm : SM w r f)
    (hr : RB w w.heap.size A t) (hl : t.length ≤ 4000000) (hc : t.length ≤ c) (q : Nat) (hq : q + 4 ≤ t.length) :
    Calls Try.prog 43 #[.pointer (some ⟨g, 0, none⟩), .int .i64 (q : Int)] w fun e w' => e = .returned (.int .i64 (encO (f (st t q)))) ∧ Below w.heap.size w w' := by
  have HS : Hid (∀ W, Below w.heap.size w W → Calls Try.prog 45 #[.pointer (some ⟨g, 0, none⟩), .int .i64 (q : Int)] W fun e w' => e = .returned (kv (st t q)) ∧ Below W.heap.size W w') := Lib.hid fun W h => startAt_any g A t c W (Nat.lt_of_lt_of_le hg h.size) ((h.cell (p := ⟨g, 0, none⟩) hg).trans hcl) ((hr.below h).more h.size) hl hc q hq
  have c0 : ∀ W, Below w.heap.size w W → W.cell? ⟨g, 1, none⟩ = some (.map (some r)) := fun W h => (h.cell (p := ⟨g, 1, none⟩) hg).trans hcm
  have hrl := hm.lt
  have k0 : ∀ W, Below w.heap.size w W → (Instr.lookup 66 (.map (some r)) (kv (st t q)) true).run Try.prog W = .ok (.tuple #[.int .i64 (((f (st t q)).getD 0 : Nat) : Int), .bool (f (st t q)).isSome]) W := fun W h => (hm.keep (h.block r hrl)).look keysT (st_len t q)
  have HX := Lib.hid hm
  clear hcl hcm hr hm hrl
  obtain ⟨K, hK⟩ : ∃ K, kv (st t q) = K := ⟨_, rfl⟩
  rw [hK] at HS k0
  cases hf : f (st t q) with
  | none =>
    rw [hf] at k0
    have hS0 : Below w.heap.size w w := Below.refl _ _
    go_enter Try.func43, Try.ntmps43
    go_upto_region 1 with fail
    go_region_held3 (fun W => Below w.heap.size w W) (first | assumption | exact Below.drew (by assumption)) (first | (go_at_call 45; refine (HS.out _ (by assumption)).mono ?_; rintro e V ⟨rfl, hb2⟩; have hb1 : Below w.heap.size w V := Below.trans (by assumption) (hb2.mono (Below.size (by assumption)))))
    go_wp2
    go_ret
    exact ⟨rfl, by assumption⟩
  | some x =>
    rw [hf] at k0
    have hS0 : Below w.heap.size w w := Below.refl _ _
    go_enter Try.func43, Try.ntmps43
    go_upto_region 1 with fail
    go_region_held3 (fun W => Below w.heap.size w W) (first | assumption | exact Below.drew (by assumption)) (first | (go_at_call 45; refine (HS.out _ (by assumption)).mono ?_; rintro e V ⟨rfl, hb2⟩; have hb1 : Below w.heap.size w V := Below.trans (by assumption) (hb2.mono (Below.size (by assumption)))))
    go_wp2
    go_ret
    exact ⟨rfl, by assumption⟩
end Go.Proofs.Ytocohoojnjdkiaa
