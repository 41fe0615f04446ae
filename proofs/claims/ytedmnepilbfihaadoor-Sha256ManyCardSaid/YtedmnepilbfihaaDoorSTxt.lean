/- The walks of the reference's Text and of IsZero. -/
import Derived.Test.YtedmnepilbfihaaDoorSParse
import Derived.Test.YtedmnepilbfihaaDoorSSums
set_option linter.unusedVariables false
namespace Go.Proofs.YtedmnepilbfihaaDoor
open Go.RowKit

theorem text_box (w : World) (cs : List Value) (t : TypeId) : Arr (w.alloc (.cells cs.toArray t)) w.heap.size 0 cs ∧ Below w.heap.size w (w.alloc (.cells cs.toArray t)) ∧ (w.alloc (.cells cs.toArray t)).heap.size = w.heap.size + 1 :=
  ⟨Arr.new w cs t, below_alloc0 _ _ (Nat.le_refl _), by simp⟩

set_option maxHeartbeats 1000000 in
set_option maxRecDepth 100000 in
theorem refText_any (d : List UInt8) (w : World) (hd : d.length = 32) :
    Calls Tryd.prog 26 #[.agg (d.map bv).toArray] w fun e w' => e = .returned (.string ⟨(hexOf d).toArray⟩) ∧ Below w.heap.size w w' := by
  have HD := Lib.hid hd
  clear hd
  go_enter Tryd.func26, Tryd.ntmps26
  go_wp2
  refine cwp_gen (fun V => Arr V w.heap.size 0 (d.map bv) ∧ Below w.heap.size w V ∧ V.heap.size = w.heap.size + 1) (text_box w (d.map bv) _) ?_
  rintro V ⟨hA, hB, hsz⟩
  have HA0 := Lib.hid hA
  have HB0 := Lib.hid hB
  have hV1 : w.heap.size + 1 ≤ V.heap.size := by omega
  clear hA hB hsz
  go_loopw [3, 4] (fun u i wr => ∃ k : Nat, i = .int .i64 (k : Int) ∧ k ≤ 32 ∧ OB 5 wr (w.heap.size + 1) u (hexOf (d.take k)) ∧ Arr wr w.heap.size 0 (d.map bv) ∧ Below w.heap.size w wr ∧ w.heap.size + 1 ≤ wr.heap.size) (fun _ i _ => 32 - (intOf i).toNat)
  case atStart => exact ⟨0, rfl, by omega, OB.nil _ _ _, HA0.out, HB0.out, hV1⟩
  case round =>
    obtain ⟨k, rfl, hk, ho, ha, hb, hsz⟩ := hrel
    by_cases hk2 : (k : Int) < 32
    · obtain ⟨c, hc⟩ : ∃ c, d[k]? = some c := ⟨d[k]'(by rw [HD.out]; omega), List.getElem?_eq_getElem _⟩
      have hcw : wr.cell? ⟨w.heap.size, k, none⟩ = some (bv c) := ha.cell0 (by rw [List.getElem?_map, hc]; rfl)
      have hx1 := hex_hi Tryd.prog 9 Tryd.underlying9 c
      have hx2 := hex_lo Tryd.prog 9 Tryd.underlying9 c
      have hcl := c.toNat_lt
      have e1 : (c.toNat : Int).tdiv 16 = (c.toNat : Int) / 16 := Int.tdiv_eq_ediv_of_nonneg (by omega)
      have e2 : (c.toNat : Int).tmod 16 = (c.toNat : Int) % 16 := Int.tmod_eq_emod_of_nonneg (by omega)
      have e3 : IntKind.u8.wrap ((c.toNat : Int) / 16) = (c.toNat : Int) / 16 := by rw [IntKind.wrap_u8]; omega
      have e4 : IntKind.u8.wrap ((c.toNat : Int) % 16) = (c.toNat : Int) % 16 := by rw [IntKind.wrap_u8]; omega
      have hlen : (hexOf (d.take k)).length + 2 ≤ 140737488355328 := by rw [hexOf_length, List.length_take]; omega
      have hk0 : (0 : Int) ≤ (k : Int) := by omega
      have HL := Lib.hid hlen
      have HST := Lib.hid (hexOf_step d k c hc)
      have HO := Lib.hid ho
      have HB := Lib.hid hb
      have HA := Lib.hid ha
      clear hc hlen ho hb ha hcl
      go_wp2
      go_region_held3 (fun W => W.cell? ⟨w.heap.size, k, none⟩ = some (bv c)) (first | assumption | (exact (World.cell?_alloc_lt _ _ _ (by show w.heap.size < _; first | omega | (simp; omega))).trans hcw))
        ((refine step_app bsl (by rfl) (.tmp 9) (.tmp 20) (by rfl) (w.heap.size + 1) _ (hexOf (d.take k)) (by rfl) (HO.out.alloc _).drew (wr.heap.size + 1) (some ⟨wr.heap.size, 0, none⟩) [hexD (c.toNat / 16), hexD (c.toNat % 16)] 2 (by rfl) (RB.lit wr 5 _).drew HL.out (by simp; omega) ?_; intro v1 w1 ho1 hg1; have hb1 := hg1.undrew.alloc.below hsz (fun k hk => (HO.out.lt k hk).1); have hcw1 := (hb1.cell (p := ⟨w.heap.size, k, none⟩) (by show w.heap.size < w.heap.size + 1; omega)).trans hcw))
      all_goals
        rw [← HST.out] at ho1
        have HO1 := Lib.hid ho1
        have HB1 := Lib.hid hb1
        have HG1 := Lib.hid hg1
        clear ho1 hb1 hg1
        go_wp2
        go_roundw
        case rel => exact ⟨k + 1, rfl, by omega, HO1.out, HA.out.below HB1.out (by omega), HB.out.trans (HB1.out.mono (by omega)), Nat.le_trans hsz HB1.out.size⟩
        case measure => simp [intOf] <;> omega
    · have hk3 : k = 32 := by omega
      subst hk3
      rw [List.take_of_length_le (by rw [HD.out]; omega)] at ho
      obtain ⟨A1, c1, rfl, hr1, _, _⟩ := ho.form
      have hstr := run_str bsl 9 Tryd.underlying9 hr1 c1
      have HB := Lib.hid hb
      clear ho hr1 hb ha
      go_wp2
      go_ret
      exact ⟨rfl, HB.out⟩

theorem eq_dig (xs ys : List UInt8) (hx : xs.length = 32) (hy : ys.length = 32) (w : World) :
    (binOp .eql 25 (.agg (xs.map bv).toArray) (.agg (ys.map bv).toArray)).run Tryd.prog w = .ok (.bool (xs == ys)) w :=
  run_eql_bytes w 25 5 32 Tryd.underlying25 Tryd.underlying5 size1 xs ys hx hy
theorem zs32_length : (zs 32).length = 32 := by simp [zs]

set_option maxHeartbeats 1000000 in
set_option maxRecDepth 100000 in
theorem isZero_any (d : List UInt8) (w : World) (hd : d.length = 32) :
    Calls Tryd.prog 27 #[.agg (d.map bv).toArray] w fun e w' => e = .returned (.bool (d == zs 32)) ∧ Below w.heap.size w w' := by
  have heq : ∀ W, (binOp .eql 25 (.agg (d.map bv).toArray) (.agg #[.int .u8 0, .int .u8 0, .int .u8 0, .int .u8 0, .int .u8 0, .int .u8 0, .int .u8 0, .int .u8 0, .int .u8 0, .int .u8 0, .int .u8 0, .int .u8 0, .int .u8 0, .int .u8 0, .int .u8 0, .int .u8 0, .int .u8 0, .int .u8 0, .int .u8 0, .int .u8 0, .int .u8 0, .int .u8 0, .int .u8 0, .int .u8 0, .int .u8 0, .int .u8 0, .int .u8 0, .int .u8 0, .int .u8 0, .int .u8 0, .int .u8 0, .int .u8 0])).run Tryd.prog W = .ok (.bool (d == zs 32)) W := fun W => by
    have h := eq_dig d (zs 32) hd zs32_length W
    rw [zero32_bv] at h; exact h
  have HI : Hid ((Tryd.prog.info? 25).map (·.size) = some (d.map bv).length) := Lib.hid (by rw [info32, List.length_map, hd])
  obtain ⟨r, hr⟩ : ∃ r, r = (d == zs 32) := ⟨_, rfl⟩
  rw [← hr] at heq ⊢
  clear hd hr
  go_enter Tryd.func27, Tryd.ntmps27
  go_wp2_with (refine wpList_load_mid (by rfl) 25 (.tmp 1) (by rfl) w.heap.size 0 (by rfl) (d.map bv) _ (Arr.new w (d.map bv) _).1 Tryd.underlying25 rfl HI.out ?_)
  go_ret
  exact ⟨rfl, below_alloc0 _ _ (Nat.le_refl _)⟩
end Go.Proofs.YtedmnepilbfihaaDoor
