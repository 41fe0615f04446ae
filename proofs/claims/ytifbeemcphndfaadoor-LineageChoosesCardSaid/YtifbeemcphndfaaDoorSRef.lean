/- The walks of the reference's schedule and block. -/
import Derived.Test.YtifbeemcphndfaaDoorSComp
import Derived.Deep.QuietTactic
import Derived.BigQuiet
set_option linter.unusedVariables false
namespace Go.Proofs.YtifbeemcphndfaaDoor
open Go.RowKit

/-- The first t words; the others are zero. -/
def rfirst (b : List UInt8) (t : Nat) : List UInt32 := (List.range 64).map fun k => if k < t then wcell b 64 k else 0
theorem rfirst_length (b : List UInt8) (t : Nat) : (rfirst b t).length = 64 := by simp [rfirst]
theorem rfirst_zero (b : List UInt8) : rfirst b 0 = List.replicate 64 0 := by
  apply List.ext_getElem (by simp [rfirst])
  intro i h1 h2
  rw [List.getElem_replicate]
  simp [rfirst]
theorem rfirst_step (b : List UInt8) (t : Nat) (ht : t < 64) : rfirst b (t + 1) = (rfirst b t).set t (wcell b 64 t) := by
  apply List.ext_getElem?
  intro j
  rw [List.getElem?_set]
  by_cases hj : j < 64
  · unfold rfirst
    rw [List.getElem?_map, List.getElem?_map, List.getElem?_range hj]
    by_cases e : t = j
    · subst e
      rw [if_pos rfl, if_pos (by simp; omega)]; simp
    · rw [if_neg e]
      simp only [Option.map_some, Option.some.injEq]
      by_cases h : j < t
      · rw [if_pos h, if_pos (by omega)]
      · rw [if_neg h, if_neg (by omega)]
  · rw [List.getElem?_eq_none (by rw [rfirst_length]; omega)]
    rw [if_neg (by omega), List.getElem?_eq_none (by rw [rfirst_length]; omega)]
theorem rfirst_16 (b : List UInt8) (hb : b.length = 64) : rfirst b 16 = firstW b 64 := by
  apply List.ext_getElem?
  intro j
  by_cases hj : j < 64
  · rw [firstW_get _ _ _ hj]
    unfold rfirst
    rw [List.getElem?_map, List.getElem?_range hj]
    simp only [Option.map_some, Option.some.injEq]
    by_cases h : j < 16
    · rw [if_pos h]
    · rw [if_neg h]
      unfold wcell
      have e64 : b.take 64 = b := List.take_of_length_le (by omega)
      rw [e64, List.drop_eq_nil_of_le (by omega)]
      rfl
  · rw [List.getElem?_eq_none (by rw [rfirst_length]; omega), List.getElem?_eq_none (by rw [firstW_length]; omega)]
/-- Four bytes as one word. -/
theorem word4 (b : List UInt8) (hb : b.length = 64) (t : Nat) (ht : t < 16) (c0 c1 c2 c3 : UInt8) (h0 : b[4 * t]? = some c0) (h1 : b[4 * t + 1]? = some c1) (h2 : b[4 * t + 2]? = some c2) (h3 : b[4 * t + 3]? = some c3) :
    ((wcell b 64 t).toNat : Int) = (c0.toNat : Int) * 16777216 + (c1.toNat : Int) * 65536 + (c2.toNat : Int) * 256 + (c3.toNat : Int) := by
  have e : ((b.take 64).drop (4 * t)).take 4 = [c0, c1, c2, c3] := by
    have e64 : b.take 64 = b := List.take_of_length_le (by omega)
    rw [e64]
    apply List.ext_getElem?
    intro j
    rw [List.getElem?_take, List.getElem?_drop]
    match j with
    | 0 => simpa using h0
    | 1 => simpa using h1
    | 2 => simpa using h2
    | 3 => simpa using h3
    | n + 4 => rw [if_neg (by omega)]; simp
  unfold wcell
  rw [e]
  have l0 := c0.toNat_lt
  have l1 := c1.toNat_lt
  have l2 := c2.toNat_lt
  have l3 := c3.toNat_lt
  have w0 : (wfold [c0]).toNat = c0.toNat := by
    show (wpush 0 c0).toNat = _
    rw [wpush_toNat 0 c0 (by decide)]; simp
  have w1 : (wfold [c0, c1]).toNat = c0.toNat * 256 + c1.toNat := by
    show (wpush (wfold [c0]) c1).toNat = _
    rw [wpush_toNat _ _ (by omega), w0]
  have w2 : (wfold [c0, c1, c2]).toNat = (c0.toNat * 256 + c1.toNat) * 256 + c2.toNat := by
    show (wpush (wfold [c0, c1]) c2).toNat = _
    rw [wpush_toNat _ _ (by omega), w1]
  have w3 : (wfold [c0, c1, c2, c3]).toNat = ((c0.toNat * 256 + c1.toNat) * 256 + c2.toNat) * 256 + c3.toNat := by
    show (wpush (wfold [c0, c1, c2]) c3).toNat = _
    rw [wpush_toNat _ _ (by omega), w2]
  rw [w3]; omega

theorem word4w (x : Int) (c0 c1 c2 c3 : UInt8) (h : x = (c0.toNat : Int) * 16777216 + (c1.toNat : Int) * 65536 + (c2.toNat : Int) * 256 + (c3.toNat : Int)) :
    IntKind.u32.wrap (IntKind.u32.wrap (IntKind.u32.wrap (IntKind.u32.wrap (IntKind.u32.wrap (c0.toNat : Int) * 16777216) + IntKind.u32.wrap (IntKind.u32.wrap (c1.toNat : Int) * 65536)) + IntKind.u32.wrap (IntKind.u32.wrap (c2.toNat : Int) * 256)) + IntKind.u32.wrap (c3.toNat : Int)) = x := by
  have l0 := c0.toNat_lt
  have l1 := c1.toNat_lt
  have l2 := c2.toNat_lt
  have l3 := c3.toNat_lt
  simp only [IntKind.wrap_u32]
  omega

set_option maxHeartbeats 1000000 in
set_option maxRecDepth 100000 in
theorem refSchedule_any (A : Option Addr) (b : List UInt8) (c B : Nat) (w : World) (hr : RB w B A b) (hB : B ≤ w.heap.size) (hb : b.length = 64) (hbc : 64 ≤ c) :
    Calls Tryd.prog 94 #[.slice A 64 c] w fun e w' => e = .returned (.agg ((sch b 48).map wv).toArray) ∧ Below w.heap.size w w' := by
  obtain ⟨g, off, rfl, hg, hcells⟩ := hr (by omega)
  suffices h : ∀ l, l = sch b 48 → Calls Tryd.prog 94 #[.slice (some ⟨g, off, none⟩) 64 c] w fun e w' => e = .returned (.agg (l.map wv).toArray) ∧ Below w.heap.size w w' from h _ rfl
  intro l hl
  have HLL0 := Lib.hid hl
  have HC := Lib.hid hcells
  have HBL := Lib.hid hb
  clear hl hcells hr hb
  go_enter Tryd.func94, Tryd.ntmps94
  go_wp2
  refine cwp_gen (fun W0 => Arr W0 w.heap.size 0 (List.replicate 64 (.int .u32 0)) ∧ Arr W0 (w.heap.size + 1) 0 ((rfirst b 0).map wv) ∧ Below w.heap.size w W0) ?hR ?_
  case hR =>
    refine ⟨(Arr.new w zero64 _).alloc _, ?_, (below_alloc0 _ _ (Nat.le_refl _)).alloc (by simp) _⟩
    rw [rfirst_zero, zero64w]
    have e2 : ∀ o : Obj, (w.alloc o).heap.size = w.heap.size + 1 := by intro o; simp
    rw [← e2]; exact Arr.new _ zero64 _
  rintro W0 ⟨h2, h3, hb0⟩
  have H2 := Lib.hid h2
  have H3 := Lib.hid h3
  have HB := Lib.hid hb0
  clear h2 h3 hb0
  go_loopw [4] (fun i wr => ∃ (t : Nat) (m : List UInt32), i = .int .i64 (t : Int) ∧ t ≤ 64 ∧ m = (if t ≤ 16 then rfirst b t else sch b (t - 16)) ∧ Arr wr w.heap.size 0 (List.replicate 64 (.int .u32 0)) ∧ Arr wr (w.heap.size + 1) 0 (m.map wv) ∧ Below w.heap.size w wr) (fun i _ => 64 - (intOf i).toNat)
  case atStart => exact ⟨0, rfirst b 0, rfl, by omega, rfl, H2.out, H3.out, HB.out⟩
  case round =>
    obtain ⟨t, m, rfl, ht, hm, r2, r3, rB⟩ := hrel
    have hml : m.length = 64 := by rw [hm]; split; exact rfirst_length _ _; exact sch_length _ _
    have R2 := Lib.hid r2
    have R3 := Lib.hid r3
    have RB' := Lib.hid rB
    have HML := Lib.hid hml
    have HM := Lib.hid hm
    by_cases ht3 : (t : Int) < 64
    · have hf := r3.frozen0 (i := t) (by rw [List.length_map]; omega)
      obtain ⟨v5, hv5⟩ := Option.isSome_iff_exists.1 (r3.2 t (by rw [List.length_map]; omega)).1
      simp only [Nat.zero_add] at hv5
      by_cases h16 : (t : Int) < 16
      · have byteAt : ∀ i, i < 64 → ∃ ch, b[i]? = some ch ∧ wr.cell? ⟨g, off + i, none⟩ = some (bv ch) := fun i hi => by
          have hi' : i < b.length := by rw [HBL.out]; exact hi
          exact ⟨b[i], List.getElem?_eq_getElem hi', (rB.cell (p := ⟨g, off + i, none⟩) (by show g < w.heap.size; omega)).trans (HC.out i _ (List.getElem?_eq_getElem hi'))⟩
        obtain ⟨c0, e0, f0⟩ := byteAt (4 * t) (by omega)
        obtain ⟨c1, e1, f1⟩ := byteAt (4 * t + 1) (by omega)
        obtain ⟨c2, e2, f2⟩ := byteAt (4 * t + 2) (by omega)
        obtain ⟨c3, e3, f3⟩ := byteAt (4 * t + 3) (by omega)
        have HW := Lib.hid (word4 b HBL.out t (by omega) c0 c1 c2 c3 e0 e1 e2 e3)
        have wr0 : IntKind.i64.wrap (4 * (t : Int)) = 4 * (t : Int) := by rw [IntKind.wrap_i64]; omega
        have wr1 : IntKind.i64.wrap (4 * (t : Int) + 1) = 4 * (t : Int) + 1 := by rw [IntKind.wrap_i64]; omega
        have wr2 : IntKind.i64.wrap (4 * (t : Int) + 2) = 4 * (t : Int) + 2 := by rw [IntKind.wrap_i64]; omega
        have wr3 : IntKind.i64.wrap (4 * (t : Int) + 3) = 4 * (t : Int) + 3 := by rw [IntKind.wrap_i64]; omega
        have b1 : (0 : Int) ≤ 4 * (t : Int) := by omega
        have b2 : (0 : Int) ≤ 4 * (t : Int) + 1 := by omega
        have b3 : (0 : Int) ≤ 4 * (t : Int) + 2 := by omega
        have b4 : (0 : Int) ≤ 4 * (t : Int) + 3 := by omega
        have b5 : 4 * (t : Int) < 64 := by omega
        have b6 : 4 * (t : Int) + 1 < 64 := by omega
        have b7 : 4 * (t : Int) + 2 < 64 := by omega
        have b8 : 4 * (t : Int) + 3 < 64 := by omega
        have n1 : (4 * (t : Int)).toNat = 4 * t := by omega
        have n2 : (4 * (t : Int) + 1).toNat = 4 * t + 1 := by omega
        have n3 : (4 * (t : Int) + 2).toNat = 4 * t + 2 := by omega
        have n4 : (4 * (t : Int) + 3).toNat = 4 * t + 3 := by omega
        clear r2 r3 rB hml hm byteAt e0 e1 e2 e3
        go_wp2
        go_region_held3 (fun W => W.cell? ⟨g, off + 4 * t, none⟩ = some (bv c0) ∧ W.cell? ⟨g, off + (4 * t + 1), none⟩ = some (bv c1) ∧ W.cell? ⟨g, off + (4 * t + 2), none⟩ = some (bv c2) ∧ W.cell? ⟨g, off + (4 * t + 3), none⟩ = some (bv c3)) (first | assumption | (exact ⟨f0, f1, f2, f3⟩) | (exact ⟨(World.cell?_setCell_far _ _ _ _ (by show w.heap.size + 1 ≠ g; omega)).trans f0, (World.cell?_setCell_far _ _ _ _ (by show w.heap.size + 1 ≠ g; omega)).trans f1, (World.cell?_setCell_far _ _ _ _ (by show w.heap.size + 1 ≠ g; omega)).trans f2, (World.cell?_setCell_far _ _ _ _ (by show w.heap.size + 1 ≠ g; omega)).trans f3⟩)) (fail)
        rw [word4w _ c0 c1 c2 c3 HW.out]
        go_wp2
        go_roundw
        case rel =>
          refine ⟨t + 1, rfirst b (t + 1), rfl, by omega, by rw [if_pos (by omega)], R2.out.other _ (.inl (by show w.heap.size + 1 ≠ w.heap.size; omega)), ?_, (RB'.out.setCell (p := ⟨w.heap.size + 1, t, none⟩) (by simp) _).drew⟩
          have hm' := HM.out
          rw [if_pos (by omega)] at hm'
          rw [rfirst_step b t (by omega), List.map_set, ← hm']
          exact R3.out.set0 (by rw [List.length_map, HML.out]; omega) _
        case measure => simp [intOf] <;> omega
      · have cellAt : ∀ i, i < 64 → wr.cell? ⟨w.heap.size + 1, i, none⟩ = some (wv (m.getD i 0)) := fun i hi => r3.cell0 (by rw [List.getElem?_map, List.getElem?_eq_getElem (by omega), List.getD_eq_getElem?_getD, List.getElem?_eq_getElem (by omega)]; rfl)
        have c1 := cellAt (t - 15) (by omega)
        have c2 := cellAt (t - 2) (by omega)
        have c3 := cellAt (t - 16) (by omega)
        have c4 := cellAt (t - 7) (by omega)
        obtain ⟨x1, e1⟩ : ∃ x, x = m.getD (t - 15) 0 := ⟨_, rfl⟩
        obtain ⟨x2, e2⟩ : ∃ x, x = m.getD (t - 2) 0 := ⟨_, rfl⟩
        obtain ⟨x3, e3⟩ : ∃ x, x = m.getD (t - 16) 0 := ⟨_, rfl⟩
        obtain ⟨x4, e4⟩ : ∃ x, x = m.getD (t - 7) 0 := ⟨_, rfl⟩
        rw [← e1] at c1
        rw [← e2] at c2
        rw [← e3] at c3
        rw [← e4] at c4
        have b1 : (0 : Int) ≤ (t : Int) - 15 := by omega
        have b2 : (0 : Int) ≤ (t : Int) - 2 := by omega
        have b3 : (0 : Int) ≤ (t : Int) - 16 := by omega
        have b4 : (0 : Int) ≤ (t : Int) - 7 := by omega
        have b5 : (t : Int) - 15 < 64 := by omega
        have b6 : (t : Int) - 2 < 64 := by omega
        have b7 : (t : Int) - 16 < 64 := by omega
        have b8 : (t : Int) - 7 < 64 := by omega
        have n1 : ((t : Int) - 15).toNat = t - 15 := by omega
        have n2 : ((t : Int) - 2).toNat = t - 2 := by omega
        have n3 : ((t : Int) - 16).toNat = t - 16 := by omega
        have n4 : ((t : Int) - 7).toNat = t - 7 := by omega
        have E : Hid (nextW m t = wadd (wadd (wadd x3 (s0 x1)) x4) (s1 x2)) := Lib.hid (by rw [e1, e2, e3, e4]; rfl)
        have hm2 : m = sch b (t - 16) := by
          rw [hm]
          by_cases h : t ≤ 16
          · have : t = 16 := by omega
            subst this
            rw [if_pos (by omega), rfirst_16 b HBL.out]; rfl
          · rw [if_neg h]
        have HM2 := Lib.hid hm2
        have HX := bits_xor_w
        have HA := add_w
        have HS3 : ∀ x : UInt32, (x.toNat : Int) / 8 = ((wshr x 3).toNat : Int) := fun x => shr_w x 3 8 rfl
        have HS10 : ∀ x : UInt32, (x.toNat : Int) / 1024 = ((wshr x 10).toNat : Int) := fun x => shr_w x 10 1024 rfl
        clear r2 r3 rB hml hm hm2 cellAt e1 e2 e3 e4
        go_wp2
        go_region
        go_wp2_with (go_at_call 96; refine (turn_any _ _ _ (by simp [Turns])).mono ?_; rintro e w' ⟨rfl, q, rfl⟩)
        go_region
        go_wp2
        have E2 := E.out
        unfold s0 s1 at E2
        rw [← E2]
        go_roundw
        case rel =>
          refine ⟨t + 1, (sch b (t - 16)).set t (nextW (sch b (t - 16)) t), rfl, by omega, ?_, Arr.other (Arr.drewN R2.out _) _ (.inl (by show w.heap.size + 1 ≠ w.heap.size; omega)), ?_, (below_drewN RB'.out _).setCell (p := ⟨w.heap.size + 1, t, none⟩) (by simp) _⟩
          · have e : t + 1 - 16 = (t - 16) + 1 := by omega
            have e' : t - 16 + 16 = t := by omega
            rw [if_neg (by omega), e, sch, e']
          · rw [List.map_set, ← HM2.out]
            exact Arr.set0 (Arr.drewN R3.out _) (by rw [List.length_map, HML.out]; omega) _
        case measure => simp [intOf] <;> omega
    · have ht4 : t = 64 := by omega
      subst ht4
      have hm2 : m = l := by rw [hm, if_neg (by omega), HLL0.out]
      subst hm2
      have hlen : (m.map wv).length = 64 := by rw [List.length_map, hml]
      have HLN := Lib.hid hlen
      have H2T := Lib.hid (r2.thereA (m.map wv) (by rw [hlen]; rfl))
      have HI2 : Hid ((Tryd.prog.info? 139).map (·.size) = some (m.map wv).toArray.size) := Lib.hid (by rw [info64w, List.size_toArray, hlen])
      clear r2 r3 rB hml hm hlen
      go_wp2_with (first
        | (refine wpList_load_mid (by rfl) 139 (.tmp 3) (by rfl) (w.heap.size + 1) 0 (by rfl) (m.map wv) _ R3.out.1 Tryd.underlying139 rfl (by rw [info64w, HLN.out]) ?_)
        | (refine wpList_store_mid (by rfl) 139 (.tmp 2) (.tmp 89) (by rfl) w.heap.size 0 (m.map wv).toArray (by rfl) (by rfl) H2T.out HI2.out (all_oneCell_toArray (wvs_oneCell _)) ?_))
      refine bodyPost_ret (results_cell_mid rfl _ _ w.heap.size (m.map wv) _ rfl (R2.out.sets _ (by rw [HLN.out]; rfl)) Tryd.underlying139 rfl (by rw [info64w, HLN.out])) rfl ?_
      exact ⟨rfl, below_setCells _ (Nat.le_refl _) _ _ _ RB'.out⟩
end Go.Proofs.YtifbeemcphndfaaDoor
