/- The walk of LineageChooses. -/
import Derived.Test.YtifbeemcphndfaaDoorLRChoose
import Derived.Test.YtifbeemcphndfaaDoorSEx
import Derived.Test.YtifbeemcphndfaaDoorLKnown
import Derived.Test.YtifbeemcphndfaaDoorLShort
set_option linter.unusedVariables false
namespace Go.Proofs.YtifbeemcphndfaaDoor
open Go.RowKit

/-- The variables of the law. -/
def StC (w : World) (seed : List UInt8) (c l : Int) (W : World) : Prop :=
  Arr W w.heap.size 0 (seed.map bv) ∧ Arr W (w.heap.size + 1) 0 [.int .i64 c, .int .i64 l] ∧ Below w.heap.size w W ∧ w.heap.size + 1 < W.heap.size
theorem StC.next {w W W' : World} {seed : List UInt8} {c l : Int} (h : StC w seed c l W) (hb : Below W.heap.size W W') : StC w seed c l W' :=
  ⟨h.1.below hb (by have := h.2.2.2; omega), h.2.1.below hb h.2.2.2, h.2.2.1.trans (hb.mono h.2.2.1.size), Nat.lt_of_lt_of_le h.2.2.2 hb.size⟩
theorem StC.c0 {w W : World} {seed : List UInt8} {c l : Int} (h : StC w seed c l W) : W.cell? ⟨w.heap.size + 1, 0, none⟩ = some (.int .i64 c) := h.2.1.cell0 rfl
theorem StC.c1 {w W : World} {seed : List UInt8} {c l : Int} (h : StC w seed c l W) : W.cell? ⟨w.heap.size + 1, 1, none⟩ = some (.int .i64 l) := h.2.1.cell0 rfl
theorem stC_new (w : World) (seed : List UInt8) (c l : Int) (s t : TypeId) (z : Array Value) (hz : z = (seed.map bv).toArray) : StC w seed c l ((w.alloc (.cells z s)).alloc (.cells #[.int .i64 c, .int .i64 l] t)) := by
  subst hz
  refine ⟨(Arr.new w _ s).alloc _, ?_, (below_alloc0 _ _ (Nat.le_refl _)).alloc (by simp) _, by simp⟩
  have := Arr.new (w.alloc (.cells (seed.map bv).toArray s)) [.int .i64 c, .int .i64 l] t
  simpa using this

theorem chooses_both (seed : List UInt8) (S : ByteArray) (c l : Int) (hsd : seed.length = 32) (hS : S.size ≤ 1000000) (hc : c < 9223372036854775808) :
    ∃ x f : Nat, (f = 0 → (x : Int) < l) ∧
      (∀ w, Tab w → Calls Tryd.prog 41 #[.agg (seed.map bv).toArray, .string S, .int .i64 c, .int .i64 l] w fun e w' => e = .returned (.tuple #[.int .i64 (x : Int), .int .i64 (f : Int)]) ∧ Below w.heap.size w w') ∧
      (∀ w, Calls Tryd.prog 42 #[.agg (seed.map bv).toArray, .string S, .int .i64 c, .int .i64 l] w fun e w' => e = .returned (.tuple #[.int .i64 (x : Int), .int .i64 (f : Int)]) ∧ Below w.heap.size w w') := by
  by_cases hv : validB S.data.toList = true
  · by_cases hr : c < 0 ∨ l < 1 ∨ 2147483648 < l
    · exact ⟨0, 2, fun h => by omega, fun w _ => choose_range seed S w c l hS hv hr, fun w => refChoose_range seed S w c l hS hv hr⟩
    · obtain ⟨cn, rfl⟩ : ∃ n : Nat, c = (n : Int) := ⟨c.toNat, by omega⟩
      obtain ⟨ln, rfl⟩ : ∃ n : Nat, l = (n : Int) := ⟨l.toNat, by omega⟩
      refine ⟨chosenN seed S.data.toList cn ln, 0, fun _ => ?_, fun w hT => choose_any seed S w cn ln hS hv (by omega) (by omega) (by omega) hsd hT, fun w => refChoose_any seed S w cn ln hS hv (by omega) (by omega) (by omega) hsd⟩
      have : chosenN seed S.data.toList cn ln < ln := Nat.mod_lt _ (by omega)
      omega
  · have hv' : validB S.data.toList = false := by simpa using hv
    exact ⟨0, 12, fun h => by omega, fun w _ => choose_name seed S w c l hS hv', fun w => refChoose_name seed S w c l hS hv'⟩

set_option maxHeartbeats 4000000 in
set_option maxRecDepth 100000 in
theorem lineageChooses_walk (seed : List UInt8) (S0 : ByteArray) (c l : Int) (w : World) (hL : Pow w ∧ Tab w) (hsd : seed.length = 32) (hS0 : S0.size ≤ maxLen) (hc : c < 9223372036854775808) :
    Calls Tryd.prog 11 #[.agg (seed.map bv).toArray, .string S0, .agg #[.int .i64 c, .int .i64 l]] w fun e w' => e = .returned (.bool true) ∧ Below w.heap.size w w' := by
  obtain ⟨hP, hT⟩ := hL
  obtain ⟨a, ha⟩ : ∃ a, a = shortN S0 := ⟨_, rfl⟩
  have H0 : Hid (∀ W, Calls Tryd.prog 21 #[.string S0] W fun e w' => e = .returned (.string a) ∧ Below W.heap.size W w') := Lib.hid fun W => by rw [ha]; exact (short_any S0 W hS0).mono fun e w' h => ⟨h.1, by rw [h.2]; exact Below.refl _ _⟩
  have za : a.size ≤ 1000000 := by rw [ha]; have := shortN_size S0; omega
  clear ha hS0
  obtain ⟨x, f, hx, h1, h2⟩ := chooses_both seed a c l hsd za hc
  have HK : Hid (∀ W, Below w.heap.size w W → Calls Tryd.prog 14 #[] W fun e w' => e = .returned (.bool true) ∧ Below W.heap.size W w') := Lib.hid fun W hb => known_any W (hP.below hb hP.lt)
  have HC : Hid (∀ W, Below w.heap.size w W → Calls Tryd.prog 41 #[.agg (seed.map bv).toArray, .string a, .int .i64 c, .int .i64 l] W fun e w' => e = .returned (.tuple #[.int .i64 (x : Int), .int .i64 (f : Int)]) ∧ Below W.heap.size W w') := Lib.hid fun W hb => h1 W (hT.below hb hT.1)
  have HR := Lib.hid h2
  have HI9 : Hid ((Tryd.prog.info? 64).map (·.size) = some (seed.map bv).length) := Lib.hid (by rw [info32r, List.length_map, hsd])
  clear h1 h2 hP hT hsd za hc
  by_cases hf : f = 0
  · subst hf
    have gx : decide ((x : Int) < l) = true := by simpa using hx rfl
    clear hx
    go_enter Tryd.func11, Tryd.ntmps11
    go_wp2_with (first
      | (go_at_call 21; refine (H0.out _).mono ?_; rintro e W1 ⟨rfl, hb⟩; have HS := Lib.hid ((stC_new w seed c l _ _ _ rfl).next hb); have d0 := HS.out.c0; have d1 := HS.out.c1; clear hb)
      | (refine wpList_load_midG (by rfl) 64 (.tmp 3) (by rfl) w.heap.size 0 (by rfl) (seed.map bv) _ HS.out.1.1 Tryd.underlying64 rfl HI9.out ?_)
      | (go_at_call 41; refine (HC.out _ HS.out.2.2.1).mono ?_; rintro e W2 ⟨rfl, hb⟩; replace HS := Lib.hid (HS.out.next hb); clear d0 d1 hb; have d0 := HS.out.c0; have d1 := HS.out.c1)
      | (go_at_call 42; refine (HR.out _).mono ?_; rintro e W3 ⟨rfl, hb⟩; replace HS := Lib.hid (HS.out.next hb); clear d0 d1 hb; have d0 := HS.out.c0; have d1 := HS.out.c1)
      | (go_at_call 14; refine (HK.out _ HS.out.2.2.1).mono ?_; rintro e W4 ⟨rfl, hb⟩; replace HS := Lib.hid (HS.out.next hb); clear d0 d1 hb; have d0 := HS.out.c0; have d1 := HS.out.c1))
    go_ret
    exact ⟨rfl, HS.out.2.2.1⟩
  · have gf : ((f : Int) != 0) = true := by simp; omega
    clear hx
    go_enter Tryd.func11, Tryd.ntmps11
    go_wp2_with (first
      | (go_at_call 21; refine (H0.out _).mono ?_; rintro e W1 ⟨rfl, hb⟩; have HS := Lib.hid ((stC_new w seed c l _ _ _ rfl).next hb); have d0 := HS.out.c0; have d1 := HS.out.c1; clear hb)
      | (refine wpList_load_midG (by rfl) 64 (.tmp 3) (by rfl) w.heap.size 0 (by rfl) (seed.map bv) _ HS.out.1.1 Tryd.underlying64 rfl HI9.out ?_)
      | (go_at_call 41; refine (HC.out _ HS.out.2.2.1).mono ?_; rintro e W2 ⟨rfl, hb⟩; replace HS := Lib.hid (HS.out.next hb); clear d0 d1 hb; have d0 := HS.out.c0; have d1 := HS.out.c1)
      | (go_at_call 42; refine (HR.out _).mono ?_; rintro e W3 ⟨rfl, hb⟩; replace HS := Lib.hid (HS.out.next hb); clear d0 d1 hb; have d0 := HS.out.c0; have d1 := HS.out.c1)
      | (go_at_call 14; refine (HK.out _ HS.out.2.2.1).mono ?_; rintro e W4 ⟨rfl, hb⟩; replace HS := Lib.hid (HS.out.next hb); clear d0 d1 hb; have d0 := HS.out.c0; have d1 := HS.out.c1))
    go_ret
    exact ⟨rfl, HS.out.2.2.1⟩
end Go.Proofs.YtifbeemcphndfaaDoor
