/- The walk of sha256.compress. -/
import Derived.Test.YtdfenaoddbdppaaDoorSSched
import Derived.Deep.QuietTactic
import Derived.BigQuiet
set_option linter.unusedVariables false
namespace Go.Proofs.YtdfenaoddbdppaaDoor
open Go.RowKit

theorem wpl_gen {P : Program} {ops rest : _} {a : Act} {Q : Exit → Act → World → Prop} {W : World} (R : World → Prop) (hR : R W) (h : ∀ W0, R W0 → wpList P ops Q rest a W0) : wpList P ops Q rest a W := h W hR

theorem cwp_gen {P : Program} {c : Code} {a : Act} {Q : Exit → Act → World → Prop} {W : World} (R : World → Prop) (hR : R W) (h : ∀ W0, R W0 → c.wp P Q a W0) : c.wp P Q a W := h W hR

/-- The table of constants lies where the program reads it. -/
def Tab (w : World) : Prop := 0 < w.heap.size ∧ ∀ t, t < 64 → w.cell? ⟨0, t, none⟩ = some (wv (KS.getD t 0))
theorem Tab.below {w w' : World} (h : Tab w) {B : Nat} (hb : Below B w w') (hB : 0 < B) : Tab w' :=
  ⟨Nat.lt_of_lt_of_le h.1 hb.size, fun t ht => (hb.cell (p := ⟨0, t, none⟩) hB).trans (h.2 t ht)⟩

theorem map8 (s : S8) : (s.toL.map wv).length = 8 := rfl

theorem bits_not_if (x : UInt32) : bits .xor .u32 (if IntKind.u32.signed = true then -1 else IntKind.u32.max) (x.toNat : Int) = ((wnot x).toNat : Int) := by
  have e : (if IntKind.u32.signed = true then -1 else IntKind.u32.max) = (4294967295 : Int) := by decide
  rw [e]; exact bits_not_w x
theorem rnd_a (k x : UInt32) (v : S8) : wadd (wadd (wadd (wadd (wadd v.h (wxor (wxor (rotr 6 v.e) (rotr 11 v.e)) (rotr 25 v.e))) (wxor (wand v.e v.f) (wand (wnot v.e) v.g))) k) x) (wadd (wxor (wxor (rotr 2 v.a) (rotr 13 v.a)) (rotr 22 v.a)) (wxor (wxor (wand v.a v.b) (wand v.a v.c)) (wand v.b v.c))) = (rnd k x v).a := by rw [rnd, pOf, qOf]
theorem rnd_e (k x : UInt32) (v : S8) : wadd v.d (wadd (wadd (wadd (wadd v.h (wxor (wxor (rotr 6 v.e) (rotr 11 v.e)) (rotr 25 v.e))) (wxor (wand v.e v.f) (wand (wnot v.e) v.g))) k) x) = (rnd k x v).e := by rw [rnd, pOf]

abbrev zero8 : List Value := List.replicate 8 (Value.int .u32 0)
abbrev zero64 : List Value := List.replicate 64 (Value.int .u32 0)

/-- Three new blocks: the words, the block, the result. -/
def Three (w : World) (st : S8) (b : List UInt8) (W : World) : Prop :=
  Arr W w.heap.size 0 (st.toL.map wv) ∧ Arr W (w.heap.size + 1) 0 (b.map bv) ∧ Arr W (w.heap.size + 1 + 1) 0 zero8 ∧ Below w.heap.size w W ∧ W.heap.size = w.heap.size + 1 + 1 + 1
theorem three_new (w : World) (st : S8) (b : List UInt8) (z : Array Value) (hz : z = zero8.toArray) (s t : TypeId) :
    Three w st b (((w.alloc (.cells (st.toL.map wv).toArray s)).alloc (.cells (b.map bv).toArray t)).alloc (.cells z s)) := by
  subst hz
  have e1 : (w.alloc (Obj.cells (st.toL.map wv).toArray s)).heap.size = w.heap.size + 1 := by simp
  have e2 : ((w.alloc (Obj.cells (st.toL.map wv).toArray s)).alloc (.cells (b.map bv).toArray t)).heap.size = w.heap.size + 1 + 1 := by simp
  refine ⟨((Arr.new w _ _).alloc _).alloc _, ?_, ?_, ((below_alloc0 _ _ (Nat.le_refl _)).alloc (by simp) _).alloc (by simp; omega) _, by simp⟩
  · rw [← e1]; exact (Arr.new _ _ _).alloc _
  · rw [← e2]; exact Arr.new _ _ _

/-- What the rounds stand on. -/
def Base (w : World) (st : S8) (l : List UInt32) (G : Nat) (W : World) : Prop :=
  Arr W w.heap.size 0 (st.toL.map wv) ∧ Arr W (w.heap.size + 1 + 1) 0 zero8 ∧ Arr W G 0 (l.map wv) ∧ Below w.heap.size w W
theorem Base.drew {w : World} {st : S8} {l : List UInt32} {G : Nat} {W : World} (h : Base w st l G W) : Base w st l G W.drew := ⟨h.1, h.2.1, h.2.2.1, h.2.2.2.drew⟩
theorem Base.drewN {w : World} {st : S8} {l : List UInt32} {G : Nat} {W : World} (h : Base w st l G W) (n : Nat) : Base w st l G (W.drewN n) := ⟨h.1, h.2.1, h.2.2.1, h.2.2.2.os, h.2.2.2.tape, h.2.2.2.output, h.2.2.2.size, h.2.2.2.block⟩
theorem base_new {w W0 W1 : World} {st : S8} {b : List UInt8} {l : List UInt32} (h : Three w st b W0) (hb : Below W0.heap.size W0 W1) (hl : (l.map wv).length = 64) (z : Array Value) (hz : z = zero64.toArray) (t : TypeId) :
    Base w st l W1.heap.size ((W1.alloc (.cells z t)).setCells W1.heap.size 0 (l.map wv)) := by
  subst hz
  obtain ⟨h1, h2, h3, h4, h5⟩ := h
  have hs := hb.size
  have k1 := (h1.below hb (by omega)).alloc (.cells zero64.toArray t)
  have k3 := (h3.below hb (by omega)).alloc (.cells zero64.toArray t)
  refine ⟨k1.sets_other _ _ _ (.inl (by omega)), k3.sets_other _ _ _ (.inl (by omega)), (Arr.new W1 zero64 t).sets _ (by rw [hl]; rfl), below_setCells _ (by omega) _ _ _ ((h4.trans (hb.mono (by omega))).alloc (by omega) _)⟩
theorem there_new {W1 : World} {l : List UInt32} (hl : (l.map wv).length = 64) (z : Array Value) (hz : z = zero64.toArray) (t : TypeId) :
    (W1.alloc (.cells z t)).there W1.heap.size 0 (l.map wv).toArray.size := by
  subst hz
  exact (Arr.new W1 zero64 t).thereA _ (by rw [hl]; rfl)

set_option maxHeartbeats 1000000 in
set_option maxRecDepth 100000 in
theorem compress_any (st : S8) (b : List UInt8) (w : World) (hb : b.length = 64) (hT : Tab w) :
    Calls Tryd.prog 92 #[.agg (st.toL.map wv).toArray, .agg (b.map bv).toArray] w fun e w' => e = .returned (.agg ((compressS st b).toL.map wv).toArray) ∧ Below w.heap.size w w' := by
  have hlen : ((sch b 48).map wv).length = 64 := by rw [List.length_map, sch_length]
  suffices h : ∀ l, l = sch b 48 → Calls Tryd.prog 92 #[.agg (st.toL.map wv).toArray, .agg (b.map bv).toArray] w fun e w' => e = .returned (.agg ((plus8 st (rounds KS l 64 st)).toL.map wv).toArray) ∧ Below w.heap.size w w' from h _ rfl
  intro l hl
  rw [← hl] at hlen
  have hll : l.length = 64 := by rw [hl]; exact sch_length _ _
  have HS := Lib.hid (fun W => schedule_any b W hb)
  rw [← hl] at HS
  have HT := Lib.hid hT
  have HL := Lib.hid hlen
  have HLL := Lib.hid hll
  have HIB : Hid ((Tryd.prog.info? 112).map (·.size) = some (b.map bv).length) := Lib.hid (by rw [info64b, List.length_map, hb])
  have HI64 : Hid ((Tryd.prog.info? 139).map (·.size) = some (l.map wv).toArray.size) := Lib.hid (by rw [info64w, List.size_toArray, hlen])
  clear hl hlen hll hb hT
  go_enter Tryd.func92, Tryd.ntmps92
  go_wp2_with (first
    | (refine wpl_gen (Three w st b) (three_new w st b _ rfl _ _) ?_; intro W0 h0; refine wpList_load_mid (by rfl) 112 (.tmp 3) (by rfl) (w.heap.size + 1) 0 (by rfl) (b.map bv) _ h0.2.1.1 Tryd.underlying112 rfl HIB.out ?_; have H0 := Lib.hid h0; clear h0)
    | (go_at_call 107; refine (HS.out _).mono ?_; rintro e W1 ⟨rfl, hb1⟩; have B1 := Lib.hid hb1; clear hb1)
    | (refine wpList_store_mid (by rfl) 139 (.tmp 5) (.tmp 20) (by rfl) _ 0 (l.map wv).toArray (by rfl) (by rfl) (there_new HL.out _ rfl _) HI64.out (all_oneCell_toArray (wvs_oneCell _)) ?_))
  refine cwp_gen (Base w st l W1.heap.size) (base_new H0.out B1.out HL.out _ rfl _) ?_
  intro V hV
  have hG : w.heap.size < W1.heap.size := by have := H0.out.2.2.2.2; have := B1.out.size; omega
  have c0 : V.cell? ⟨w.heap.size, 0, none⟩ = some (wv st.a) := hV.1.cell0 rfl
  have c1 : V.cell? ⟨w.heap.size, 1, none⟩ = some (wv st.b) := hV.1.cell0 rfl
  have c2 : V.cell? ⟨w.heap.size, 2, none⟩ = some (wv st.c) := hV.1.cell0 rfl
  have c3 : V.cell? ⟨w.heap.size, 3, none⟩ = some (wv st.d) := hV.1.cell0 rfl
  have c4 : V.cell? ⟨w.heap.size, 4, none⟩ = some (wv st.e) := hV.1.cell0 rfl
  have c5 : V.cell? ⟨w.heap.size, 5, none⟩ = some (wv st.f) := hV.1.cell0 rfl
  have c6 : V.cell? ⟨w.heap.size, 6, none⟩ = some (wv st.g) := hV.1.cell0 rfl
  have c7 : V.cell? ⟨w.heap.size, 7, none⟩ = some (wv st.h) := hV.1.cell0 rfl
  have HV := Lib.hid hV
  have HG := Lib.hid hG
  clear hV hG H0 B1
  go_quiet (fail)
  clear c0 c1 c2 c3 c4 c5 c6 c7
  go_wp2
  go_loopw [6, 7, 8, 9, 10, 11, 12, 13, 37] (fun a b' c d e f g h i wr => ∃ (t : Nat) (v : S8), v = rounds KS l t st ∧ a = wv v.a ∧ b' = wv v.b ∧ c = wv v.c ∧ d = wv v.d ∧ e = wv v.e ∧ f = wv v.f ∧ g = wv v.g ∧ h = wv v.h ∧ i = .int .i64 (t : Int) ∧ t ≤ 64 ∧ Base w st l W1.heap.size wr) (fun _ _ _ _ _ _ _ _ i _ => 64 - (intOf i).toNat)
  case atStart => exact ⟨0, st, rfl, rfl, rfl, rfl, rfl, rfl, rfl, rfl, rfl, rfl, by omega, HV.out.drewN _⟩
  case round =>
    obtain ⟨t, v, hv, rfl, rfl, rfl, rfl, rfl, rfl, rfl, rfl, rfl, ht, hB⟩ := hrel
    by_cases ht2 : (t : Int) < 64
    · have hTb := HT.out.below hB.2.2.2 HT.out.1
      have ck := hTb.2 t (by omega)
      have cw : wr.cell? ⟨W1.heap.size, t, none⟩ = some (wv (l.getD t 0)) := hB.2.2.1.cell0 (by rw [List.getElem?_map, List.getElem?_eq_getElem (by rw [HLL.out]; omega), List.getD_eq_getElem?_getD, List.getElem?_eq_getElem (by rw [HLL.out]; omega)]; rfl)
      obtain ⟨kx, ek⟩ : ∃ x, x = KS.getD t 0 := ⟨_, rfl⟩
      obtain ⟨wx, ew⟩ : ∃ x, x = l.getD t 0 := ⟨_, rfl⟩
      rw [← ek] at ck
      rw [← ew] at cw
      have HR := Lib.hid (show rounds KS l (t + 1) st = rnd kx wx v by rw [rounds, ← hv, ek, ew])
      have HB := Lib.hid hB
      have HX := bits_xor_w
      have HA := add_w
      have HN := bits_and_w
      have HO : ∀ x : UInt32, bits .xor .u32 (if IntKind.u32.signed = true then -1 else IntKind.u32.max) (x.toNat : Int) = ((wnot x).toNat : Int) := bits_not_if
      clear hv hTb hB ek ew HV
      go_wp2
      go_quiet ((go_at_call 108; exact (rotate_any _ _ _ (by simp [Turns])).mono fun _ _ hh => ⟨hh.1, _, hh.2.symm⟩))
      go_wp2_with (go_at_call 108; refine (rotate_any _ _ _ (by simp [Turns])).mono ?_; rintro e w' ⟨rfl, rfl⟩)
      go_roundw
      case rel => exact ⟨t + 1, rnd kx wx v, HR.out.symm, by rw [add_w, rnd_a], rfl, rfl, rfl, by rw [add_w, rnd_e], rfl, rfl, rfl, rfl, by omega, HB.out.drewN _⟩
      case measure => simp [intOf] <;> omega
    · have ht3 : t = 64 := by omega
      subst ht3
      have HB := Lib.hid hB
      have HVE := Lib.hid hv
      clear hB HV ht ht2 hv
      go_wp2
      have HV2 : ∀ k : Nat, k < 8 → ∃ x y, st.toL[k]? = some x ∧ v.toL[k]? = some y := fun k hk => ⟨st.toL[k]'hk, v.toL[k]'hk, List.getElem?_eq_getElem _, List.getElem?_eq_getElem _⟩
      have HV3 := Lib.hid HV2
      clear HV2
      go_loopw [109] (fun i wr => ∃ k : Nat, i = .int .i64 (k : Int) ∧ k ≤ 8 ∧ Arr wr w.heap.size 0 ((accW st v k).map wv) ∧ Arr wr (w.heap.size + 1 + 1) 0 zero8 ∧ Below w.heap.size w wr) (fun i _ => 8 - (intOf i).toNat)
      case atStart => exact ⟨0, rfl, by omega, HB.out.1, HB.out.2.1, HB.out.2.2.2⟩
      case round =>
        obtain ⟨k, rfl, hk, h1, h2, h3⟩ := hrel
        by_cases hk2 : (k : Int) < 8
        · obtain ⟨x, y, ex, ey⟩ := HV3.out k (by omega)
          have hc := h1.cell0 (i := k) (v := wv x) (by rw [List.getElem?_map, accW_get _ _ _ (by omega), ex]; rfl)
          have hf := h1.frozen0 (i := k) (by rw [List.length_map, accW_length _ _ _ hk]; omega)
          have hx : ∀ W, (Instr.index 111 (.agg #[wv v.a, wv v.b, wv v.c, wv v.d, wv v.e, wv v.f, wv v.g, wv v.h]) (.int .i64 (k : Int))).run Tryd.prog W = .ok (wv y) W :=
            run_index_arr Tryd.underlying111 Tryd.underlying110 (by kernel_rfl) (v.toL.map wv).toArray k (by omega) _ (by rw [List.getElem?_toArray, List.getElem?_map, ey]; rfl)
          have HE := Lib.hid (accW_step st v k x y (by omega) ex ey)
          have HL1 := Lib.hid (show k < ((accW st v k).map wv).length by rw [List.length_map, accW_length _ _ _ hk]; omega)
          have H1 := Lib.hid h1
          have H2 := Lib.hid h2
          have H3 := Lib.hid h3
          clear h1 h2 h3 ex ey
          go_wp2
          rw [add_w]
          go_roundw
          case rel =>
            refine ⟨k + 1, rfl, by omega, ?_, H2.out.other _ (.inl (by show w.heap.size ≠ w.heap.size + 1 + 1; omega)), H3.out.setCell (p := ⟨w.heap.size, k, none⟩) (by simp) _⟩
            rw [HE.out, List.map_set]
            exact H1.out.set0 HL1.out _
          case measure => simp [intOf] <;> omega
        · have hk3 : k = 8 := by omega
          subst hk3
          rw [accW_all] at h1
          have H1 := Lib.hid h1
          have H2 := Lib.hid h2
          have H3 := Lib.hid h3
          have H2T := Lib.hid (h2.thereA ((plus8 st v).toL.map wv) rfl)
          clear h1 h2 h3
          go_wp2_with (first
            | (refine wpList_load_mid (by rfl) 111 (.tmp 2) (by rfl) w.heap.size 0 (by rfl) ((plus8 st v).toL.map wv) _ H1.out.1 Tryd.underlying111 rfl info8w ?_)
            | (refine wpList_store_mid (by rfl) 111 (.tmp 4) (.tmp 120) (by rfl) (w.heap.size + 1 + 1) 0 ((plus8 st v).toL.map wv).toArray (by rfl) (by rfl) H2T.out info8w (all_oneCell_toArray (wvs_oneCell _)) ?_))
          refine bodyPost_ret (results_cell_mid rfl _ _ (w.heap.size + 1 + 1) ((plus8 st v).toL.map wv) _ rfl (H2.out.sets _ rfl) Tryd.underlying111 rfl info8w) rfl ?_
          exact ⟨by rw [← HVE.out], below_setCells _ (by omega) _ _ _ H3.out⟩
end Go.Proofs.YtdfenaoddbdppaaDoor
