/- The walk of sha256.schedule. -/
import Derived.Test.YtdfenaoddbdppaaDoorSArr
set_option linter.unusedVariables false
namespace Go.Proofs.YtdfenaoddbdppaaDoor
open Go.RowKit

theorem info64w : (Tryd.prog.info? 139).map (·.size) = some 64 := by kernel_rfl
theorem info64b : (Tryd.prog.info? 112).map (·.size) = some 64 := by kernel_rfl
theorem info8w : (Tryd.prog.info? 111).map (·.size) = some 8 := by kernel_rfl
theorem zero64w : (List.replicate 64 (0 : UInt32)).map wv = List.replicate 64 (Value.int .u32 0) := by simp

theorem wp_gen {P : Program} {op : Oper} {a : Act} {K : Act → World → Prop} {Q : Exit → Act → World → Prop} {W : World} (R : World → Prop) (hR : R W) (h : ∀ W0, R W0 → op.wp P a W0 K Q) : op.wp P a W K Q := h W hR
theorem below_alloc0 (w : World) (o : Obj) {B : Nat} (h : B ≤ w.heap.size) : Below B w (w.alloc o) := (Below.refl _ _).alloc h o

set_option maxHeartbeats 1000000 in
set_option maxRecDepth 100000 in
theorem schedule_any (b : List UInt8) (w : World) (hb : b.length = 64) :
    Calls Tryd.prog 107 #[.agg (b.map bv).toArray] w fun e w' => e = .returned (.agg ((sch b 48).map wv).toArray) ∧ Below w.heap.size w w' := by
  suffices h : ∀ l, l = sch b 48 → Calls Tryd.prog 107 #[.agg (b.map bv).toArray] w fun e w' => e = .returned (.agg (l.map wv).toArray) ∧ Below w.heap.size w w' from h _ rfl
  intro l hl
  have HLL0 := Lib.hid hl
  clear hl
  go_enter Tryd.func107, Tryd.ntmps107
  go_wp2
  refine wp_gen (fun W0 => Arr W0 w.heap.size 0 (b.map bv) ∧ Arr W0 (w.heap.size + 1) 0 (List.replicate 64 (.int .u32 0)) ∧ Arr W0 (w.heap.size + 1 + 1) 0 ((firstW b 0).map wv) ∧ Below w.heap.size w W0) ?hR ?_
  case hR =>
    have e1 : (w.alloc (Obj.cells (List.map bv b).toArray 112)).heap.size = w.heap.size + 1 := by simp
    refine ⟨((Arr.new w _ _).alloc _).alloc _, ?_, ?_, ((below_alloc0 _ _ (Nat.le_refl _)).alloc (by simp) _).alloc (by simp; omega) _⟩
    · rw [← e1]; exact (Arr.new _ (List.replicate 64 (.int .u32 0)) _).alloc _
    · rw [firstW_zero, zero64w]
      have e2 : ∀ o : Obj, ((w.alloc (Obj.cells (List.map bv b).toArray 112)).alloc o).heap.size = w.heap.size + 1 + 1 := by intro o; simp
      rw [← e2]; exact Arr.new _ (List.replicate 64 (.int .u32 0)) _
  rintro W0 ⟨h1, h2, h3, hb0⟩
  refine wp_load_mid 112 (.tmp 1) rfl w.heap.size 0 rfl (b.map bv) _ h1.1 Tryd.underlying112 rfl (by rw [info64b]; simp [hb]) ?_
  go_wp2
  go_loopw [12] (fun i wr => ∃ k : Nat, i = .int .i64 (k : Int) ∧ k ≤ 64 ∧ Arr wr (w.heap.size + 1) 0 (List.replicate 64 (.int .u32 0)) ∧ Arr wr (w.heap.size + 1 + 1) 0 ((firstW b k).map wv) ∧ Below w.heap.size w wr) (fun i _ => 64 - (intOf i).toNat)
  case atStart => exact ⟨0, rfl, by omega, h2, h3, hb0⟩
  case round =>
    obtain ⟨k, rfl, hk, hr2, hr3, hrb⟩ := hrel
    by_cases hk2 : (k : Int) < 64
    · obtain ⟨c, hc⟩ : ∃ c, b[k]? = some c := ⟨b[k]'(by omega), List.getElem?_eq_getElem _⟩
      have hc1 := hr3.cell0 (i := k / 4) (v := wv (wcell b k (k / 4))) (by rw [List.getElem?_map, firstW_get _ _ _ (by omega)]; rfl)
      have hf1 := hr3.frozen0 (i := k / 4) (by rw [List.length_map, firstW_length]; omega)
      have hc2 : ∀ W, (Instr.index 112 (.agg (List.map bv b).toArray) (.int .i64 (k : Int))).run Tryd.prog W = .ok (bv c) W := run_index_arr Tryd.underlying112 Tryd.underlying5 (by kernel_rfl) _ k (by omega) _ (by rw [List.getElem?_toArray, List.getElem?_map, hc]; rfl)
      obtain ⟨x, hx⟩ : ∃ x, x = wcell b k (k / 4) := ⟨_, rfl⟩
      rw [← hx] at hc1
      have HX := Lib.hid hx
      have H3 := Lib.hid hr3
      have H2 := Lib.hid hr2
      have HB := Lib.hid hrb
      have HC := Lib.hid hc
      have HL := Lib.hid hb
      clear hx hr3 hr2 hrb hc hb h1 h2 h3 hb0
      go_wp2
      rw [push_w x c]
      go_roundw
      case rel =>
        refine ⟨k + 1, rfl, by omega, H2.out.other _ (.inl (by simp)), ?_, HB.out.setCell (p := ⟨w.heap.size + 1 + 1, k / 4, none⟩) (by simp; omega) _⟩
        rw [firstW_step _ _ _ HC.out (by omega), List.map_set, ← HX.out]
        exact H3.out.set0 (by rw [List.length_map, firstW_length]; omega) _
      case measure => simp [intOf] <;> omega
    · have hk3 : k = 64 := by omega
      subst hk3
      have H3 := Lib.hid hr3
      have H2 := Lib.hid hr2
      have HB := Lib.hid hrb
      have HL := Lib.hid hb
      clear hr3 hr2 hrb hb h1 h2 h3 hb0
      go_wp2
      go_loopw [6] (fun i wr => ∃ t : Nat, i = .int .i64 (t : Int) ∧ 16 ≤ t ∧ t ≤ 64 ∧ Arr wr (w.heap.size + 1) 0 (List.replicate 64 (.int .u32 0)) ∧ Arr wr (w.heap.size + 1 + 1) 0 ((sch b (t - 16)).map wv) ∧ Below w.heap.size w wr) (fun i _ => 64 - (intOf i).toNat)
      case atStart => exact ⟨16, rfl, by omega, by omega, H2.out, H3.out, HB.out⟩
      case round =>
        obtain ⟨t, rfl, ht1, ht2, hr2, hr3, hrb⟩ := hrel
        by_cases ht3 : (t : Int) < 64
        · obtain ⟨m, hl⟩ : ∃ l, l = sch b (t - 16) := ⟨_, rfl⟩
          have hll : m.length = 64 := by rw [hl]; exact sch_length _ _
          rw [← hl] at hr3
          have cellAt : ∀ i, i < 64 → wr.cell? ⟨w.heap.size + 1 + 1, i, none⟩ = some (wv (m.getD i 0)) := fun i hi => hr3.cell0 (by rw [List.getElem?_map, List.getElem?_eq_getElem (by omega), List.getD_eq_getElem?_getD, List.getElem?_eq_getElem (by omega)]; rfl)
          have c1 := cellAt (t - 15) (by omega)
          have c2 := cellAt (t - 2) (by omega)
          have c3 := cellAt (t - 16) (by omega)
          have c4 := cellAt (t - 7) (by omega)
          have hf := hr3.frozen0 (i := t) (by rw [List.length_map]; omega)
          have hc5 := cellAt t (by omega)
          obtain ⟨x1, e1⟩ : ∃ x, x = m.getD (t - 15) 0 := ⟨_, rfl⟩
          obtain ⟨x2, e2⟩ : ∃ x, x = m.getD (t - 2) 0 := ⟨_, rfl⟩
          obtain ⟨x3, e3⟩ : ∃ x, x = m.getD (t - 16) 0 := ⟨_, rfl⟩
          obtain ⟨x4, e4⟩ : ∃ x, x = m.getD (t - 7) 0 := ⟨_, rfl⟩
          rw [← e1] at c1
          rw [← e2] at c2
          rw [← e3] at c3
          rw [← e4] at c4
          have b1 : (0 : Int) ≤ (t : Int) - 15 := by omega
          have b2 : (0 : Int) ≤ (t : Int) - 2 := by omega
          have b3 : (0 : Int) ≤ (t : Int) - 16 := by omega
          have b4 : (0 : Int) ≤ (t : Int) - 7 := by omega
          have b5 : (t : Int) - 15 < 64 := by omega
          have b6 : (t : Int) - 2 < 64 := by omega
          have b7 : (t : Int) - 16 < 64 := by omega
          have b8 : (t : Int) - 7 < 64 := by omega
          have n1 : ((t : Int) - 15).toNat = t - 15 := by omega
          have n2 : ((t : Int) - 2).toNat = t - 2 := by omega
          have n3 : ((t : Int) - 16).toNat = t - 16 := by omega
          have n4 : ((t : Int) - 7).toNat = t - 7 := by omega
          have E : Hid (nextW m t = wadd (wadd (wadd x3 (s0 x1)) x4) (s1 x2)) := Lib.hid (by rw [e1, e2, e3, e4]; rfl)
          have HLL := Lib.hid hll
          have HE := Lib.hid hl
          have H3' := Lib.hid hr3
          have H2' := Lib.hid hr2
          have HB' := Lib.hid hrb
          clear hl hr3 hr2 hrb cellAt e1 e2 e3 e4 hll
          have HX := bits_xor_w
          have HA := add_w
          have HS3 : ∀ x : UInt32, (x.toNat : Int) / 8 = ((wshr x 3).toNat : Int) := fun x => shr_w x 3 8 rfl
          have HS10 : ∀ x : UInt32, (x.toNat : Int) / 1024 = ((wshr x 10).toNat : Int) := fun x => shr_w x 10 1024 rfl
          go_wp2
          go_region
          go_wp2_with (go_at_call 108; refine (rotate_any _ _ _ (by simp [Turns])).mono ?_; rintro e w' ⟨rfl, rfl⟩)
          go_region
          go_wp2
          have E2 := E.out
          unfold s0 s1 at E2
          rw [← E2]
          go_roundw
          case rel =>
            refine ⟨t + 1, rfl, by omega, by omega, H2'.out.other _ (.inl (by simp)), ?_, ?_⟩
            · have e : t + 1 - 16 = (t - 16) + 1 := by omega
              have e' : t - 16 + 16 = t := by omega
              rw [e, sch, e', ← HE.out, List.map_set]
              exact H3'.out.set0 (by rw [List.length_map, HLL.out]; omega) _
            · exact (HB'.out.setCell (p := ⟨w.heap.size + 1 + 1, t, none⟩) (by simp; omega) _).drew.drew
          case measure => simp [intOf] <;> omega
        · have ht4 : t = 64 := by omega
          subst ht4
          have hl := HLL0.out
          have hr4 : Arr wr (w.heap.size + 1 + 1) 0 (l.map wv) := by rw [hl]; exact hr3
          have hlen : (l.map wv).length = 64 := by rw [List.length_map, hl, sch_length]
          have H3' := Lib.hid hr4
          have H2' := Lib.hid hr2
          have H2T := Lib.hid (hr2.thereA (l.map wv) (by rw [hlen]; rfl))
          have HI2 : Hid ((Tryd.prog.info? 139).map (·.size) = some (l.map wv).toArray.size) := Lib.hid (by rw [info64w, List.size_toArray, hlen])
          have HB' := Lib.hid hrb
          have HLN := Lib.hid hlen
          clear hr3 hr4 hr2 hrb hlen hl
          go_wp2_with (first
            | (refine wpList_load_mid rfl 139 (.tmp 3) rfl (w.heap.size + 1 + 1) 0 rfl (l.map wv) _ H3'.out.1 Tryd.underlying139 rfl (by rw [info64w, HLN.out]) ?_)
            | (refine wpList_store_mid (by rfl) 139 (.tmp 2) (.tmp 71) (by rfl) (w.heap.size + 1) 0 (l.map wv).toArray (by rfl) (by rfl) H2T.out HI2.out (all_oneCell_toArray (wvs_oneCell _)) ?_))
          refine bodyPost_ret (results_cell_mid rfl _ _ (w.heap.size + 1) (l.map wv) _ rfl (H2'.out.sets _ (by rw [HLN.out]; simp)) Tryd.underlying139 rfl (by rw [info64w, HLN.out])) rfl ?_
          exact ⟨rfl, below_setCells _ (by omega) _ _ _ HB'.out⟩
end Go.Proofs.YtdfenaoddbdppaaDoor
