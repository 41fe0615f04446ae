/- pack: the finder's common. -/
import Derived.Test.YtocohoojnjdkiaaKBest
set_option linter.unusedVariables false
namespace Go.Proofs.Ytocohoojnjdkiaa
open Go.RowKit

set_option maxHeartbeats 1000000 in
set_option maxRecDepth 100000 in
theorem common_any (g : Nat) (A : Option Addr) (t : List UInt8) (c : Nat) (w : World) (hg : g < w.heap.size) (hcl : w.cell? ⟨g, 0, none⟩ = some (.slice A t.length c)) (hr : RB w w.heap.size A t) (hl : t.length ≤ 4000000) (p q M : Nat) (hp : p + M ≤ t.length) (hq : q + M ≤ t.length) :
    Calls Try.prog 44 #[.pointer (some ⟨g, 0, none⟩), .int .i64 (p : Int), .int .i64 (q : Int), .int .i64 (M : Int)] w fun e w' => e = .returned (.int .i64 (com t p q M : Int)) ∧ Below w.heap.size w w' := by
  have HR := Lib.hid hr
  obtain ⟨n, hn⟩ : ∃ n, t.length = n := ⟨_, rfl⟩
  rw [hn] at hl hp hq hcl
  have HN := Lib.hid hn
  have HCL := Lib.hid hcl
  clear hn hr hcl
  go_enter Try.func44, Try.ntmps44
  go_wp2
  go_loopw [11] (fun i wr => ∃ k : Nat, i = .int .i64 (k : Int) ∧ k ≤ M ∧ (∀ j, j < k → byt t (p + j) = byt t (q + j)) ∧ Below w.heap.size w wr) (fun i _ => M - (intOf i).toNat)
  case atStart => exact ⟨0, rfl, by omega, fun j hj => by omega, Below.refl _ _⟩
  case round =>
    obtain ⟨k, rfl, hk, hz, hW⟩ := hrel
    have HW := Lib.hid hW
    have HZ := Lib.hid hz
    clear hz hW
    by_cases h1 : k < M
    · have g1 : (k : Int) < (M : Int) := by omega
      obtain ⟨b, off, rfl, hb, hc⟩ := rb_byt HR.out (i := p) (by rw [HN.out]; omega)
      have w1 : IntKind.i64.wrap ((p : Int) + (k : Int)) = (p : Int) + (k : Int) := by rw [IntKind.wrap_i64]; omega
      have w2 : IntKind.i64.wrap ((q : Int) + (k : Int)) = (q : Int) + (k : Int) := by rw [IntKind.wrap_i64]; omega
      have w3 : IntKind.i64.wrap ((k : Int) + 1) = (k : Int) + 1 := by rw [IntKind.wrap_i64]; omega
      have p1 : (0 : Int) ≤ (p : Int) + (k : Int) := by omega
      have p2 : (0 : Int) ≤ (q : Int) + (k : Int) := by omega
      have p3 : (p : Int) + (k : Int) < (n : Int) := by omega
      have p4 : (q : Int) + (k : Int) < (n : Int) := by omega
      have n1 : ((p : Int) + (k : Int)).toNat = p + k := by omega
      have n2 : ((q : Int) + (k : Int)).toNat = q + k := by omega
      obtain ⟨x, hx⟩ : ∃ x, byt t (p + k) = x := ⟨_, rfl⟩
      obtain ⟨y, hy⟩ : ∃ y, byt t (q + k) = y := ⟨_, rfl⟩
      have c0 : ∀ W, Below w.heap.size w W → W.cell? ⟨g, 0, none⟩ = some (.slice (some ⟨b, off, none⟩) n c) := fun W h => (h.cell (p := ⟨g, 0, none⟩) hg).trans HCL.out
      have c1 : ∀ W, Below w.heap.size w W → W.cell? ⟨b, off + (p + k), none⟩ = some (.int .u8 (x : Int)) := fun W h => by rw [← hx]; exact (h.cell (p := ⟨b, off + (p + k), none⟩) hb).trans (hc _ (by rw [HN.out]; omega))
      have c2 : ∀ W, Below w.heap.size w W → W.cell? ⟨b, off + (q + k), none⟩ = some (.int .u8 (y : Int)) := fun W h => by rw [← hy]; exact (h.cell (p := ⟨b, off + (q + k), none⟩) hb).trans (hc _ (by rw [HN.out]; omega))
      have hW1 := HW.out
      have HXY := Lib.hid (And.intro hx hy)
      have HHC := Lib.hid hc
      clear hx hy hc
      by_cases hxy : x = y
      · subst hxy
        go_wp2
        go_region_held3 (fun W => Below w.heap.size w W) (first | assumption | exact Below.drew (by assumption)) (fail)
        clear c0 c1 c2
        go_wp2
        go_roundw
        case rel =>
          refine ⟨k + 1, by go_num, by omega, fun j hj => ?_, by assumption⟩
          by_cases e : j = k
          · subst e; exact HXY.out.1.trans HXY.out.2.symm
          · exact HZ.out j (by omega)
        case measure => simp [intOf] <;> omega
      · have hxy1 : ¬ (x : Int) = (y : Int) := by omega
        go_wp2
        go_region_held3 (fun W => Below w.heap.size w W) (first | assumption | exact Below.drew (by assumption)) (fail)
        clear c0 c1 c2
        go_wp2
        go_ret
        have hcom : Com t p q M k := ⟨hk, HZ.out, .inr (by rw [HXY.out.1, HXY.out.2]; exact hxy)⟩
        exact ⟨by rw [← hcom.eq]; rfl, by assumption⟩
    · have g1 : ¬ (k : Int) < (M : Int) := by omega
      go_wp2
      go_ret
      have hkM : k = M := by omega
      subst hkM
      have hcom : Com t p q k k := ⟨Nat.le_refl _, HZ.out, .inl rfl⟩
      exact ⟨by rw [← hcom.eq]; rfl, HW.out⟩
end Go.Proofs.Ytocohoojnjdkiaa
