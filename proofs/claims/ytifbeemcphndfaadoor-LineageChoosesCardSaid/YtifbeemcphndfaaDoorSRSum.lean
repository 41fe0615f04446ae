/- The walk of the reference's Sum. -/
import Derived.Test.YtifbeemcphndfaaDoorSPadW
set_option linter.unusedVariables false
namespace Go.Proofs.YtifbeemcphndfaaDoor
open Go.RowKit

theorem sum2_new (w : World) (z0 z : Array Value) (h0 : z0 = zero32.toArray) (hz : z = zero8.toArray) (s t : TypeId) :
    Arr ((w.alloc (.cells z0 s)).alloc (.cells z t)) w.heap.size 0 zero32 ∧ Arr ((w.alloc (.cells z0 s)).alloc (.cells z t)) (w.heap.size + 1) 0 zero8 ∧ Below w.heap.size w ((w.alloc (.cells z0 s)).alloc (.cells z t)) ∧ ((w.alloc (.cells z0 s)).alloc (.cells z t)).heap.size = w.heap.size + 1 + 1 := by
  subst h0 hz
  have e1 : (w.alloc (Obj.cells zero32.toArray s)).heap.size = w.heap.size + 1 := by simp
  refine ⟨(Arr.new w _ _).alloc _, ?_, (below_alloc0 _ _ (Nat.le_refl _)).alloc (by simp) _, by simp⟩
  rw [← e1]; exact Arr.new _ zero8 t
/-- The result and the state. -/
def Two2 (w : World) (st : S8) (V : World) : Prop := Arr V w.heap.size 0 zero32 ∧ Arr V (w.heap.size + 1) 0 (st.toL.map wv) ∧ Below w.heap.size w V ∧ w.heap.size + 1 + 1 ≤ V.heap.size
theorem two2_new {w V : World} (h0 : Arr V w.heap.size 0 zero32) (h1 : Arr V (w.heap.size + 1) 0 zero8) (hb : Below w.heap.size w V) (hs : V.heap.size = w.heap.size + 1 + 1) : Two2 w start8 (V.setCells (w.heap.size + 1) 0 start8V) := by
  refine ⟨h0.sets_other _ _ _ (.inl (by omega)), ?_, below_setCells _ (by omega) _ _ _ hb, by rw [size_sets]; omega⟩
  rw [start8_cells]
  exact h1.sets _ rfl
theorem Two2.below {w V W : World} {st : S8} (h : Two2 w st V) (hb : Below V.heap.size V W) : Two2 w st W := by
  obtain ⟨h0, h1, h2, h3⟩ := h
  exact ⟨h0.below hb (by omega), h1.below hb (by omega), h2.trans (hb.mono h2.size), Nat.le_trans h3 hb.size⟩
theorem Two2.next {w V : World} {st : S8} (h : Two2 w st V) (s2 : S8) : Two2 w s2 (V.setCells (w.heap.size + 1) 0 (s2.toL.map wv)) := by
  obtain ⟨h0, h1, h2, h3⟩ := h
  exact ⟨h0.sets_other _ _ _ (.inl (by omega)), h1.sets _ rfl, below_setCells _ (by omega) _ _ _ h2, by rw [size_sets]; exact h3⟩

theorem cells8 {W : World} {G : Nat} {st : S8} (h : Arr W G 0 (st.toL.map wv)) : (W.cell? ⟨G, 0, none⟩ = some (wv st.a) ∧ W.cell? ⟨G, 1, none⟩ = some (wv st.b) ∧ W.cell? ⟨G, 2, none⟩ = some (wv st.c) ∧ W.cell? ⟨G, 3, none⟩ = some (wv st.d) ∧ W.cell? ⟨G, 4, none⟩ = some (wv st.e) ∧ W.cell? ⟨G, 5, none⟩ = some (wv st.f) ∧ W.cell? ⟨G, 6, none⟩ = some (wv st.g) ∧ W.cell? ⟨G, 7, none⟩ = some (wv st.h)) ∧ W.there G 0 8 :=
  ⟨⟨h.cell0 (i := 0) rfl, h.cell0 (i := 1) rfl, h.cell0 (i := 2) rfl, h.cell0 (i := 3) rfl, h.cell0 (i := 4) rfl, h.cell0 (i := 5) rfl, h.cell0 (i := 6) rfl, h.cell0 (i := 7) rfl⟩, h.2⟩

set_option maxHeartbeats 1000000 in
set_option maxRecDepth 100000 in
theorem refSum_any (S : ByteArray) (w : World) (hS : S.size < 1099511627776) :
    Calls Tryd.prog 64 #[.string S] w fun e w' => e = .returned (.agg ((sumS S.data.toList).map bv).toArray) ∧ Below w.heap.size w w' := by
  have HP := Lib.hid (fun W => pad_any S W hS)
  obtain ⟨p, hp⟩ : ∃ p, p = padS S.data.toList := ⟨_, rfl⟩
  have hp64 : p.length % 64 = 0 := by rw [hp]; exact padS_64 _
  have hpl : p.length < 1099511627776 + 200 := by rw [hp, padS_length]; have := padN_lt S.data.toList.length; simp at this ⊢; omega
  have HD : Hid (digest (stateAt p (p.length / 64)) = sumS S.data.toList) := Lib.hid (by rw [hp]; exact padS_sum _)
  simp only [← hp] at HP
  have HP0 := Lib.hid (show p.length ≠ 0 by rw [hp, padS_length]; omega)
  have H64 := Lib.hid hp64
  have HPL := Lib.hid hpl
  clear hp hp64 hpl
  go_enter Tryd.func64, Tryd.ntmps64
  go_wp2_with (first
    | (show wpList _ _ _ (⟨none, .store 111 _ _, _, _, _, _⟩ :: _) _ _; refine wpl_gen (fun V => Arr V w.heap.size 0 zero32 ∧ Arr V (w.heap.size + 1) 0 zero8 ∧ Below w.heap.size w V ∧ V.heap.size = w.heap.size + 1 + 1) (sum2_new w _ _ rfl rfl _ _) ?_; rintro V ⟨a0, a1, aB, aS⟩; refine wpList_store_mid (by rfl) 111 (.tmp 3) (.tmp 8) (by rfl) (w.heap.size + 1) 0 start8V.toArray (by rfl) (by rfl) (a1.thereA start8V rfl) info8w (all_oneCell_toArray start8V_one) ?_; refine wpl_gen (Two2 w start8) (two2_new a0 a1 aB aS) ?_; clear a0 a1 aB aS V; intro V hV; have HV := Lib.hid hV; clear hV)
    | (go_at_call 75; refine (HP.out V).mono ?_; rintro e W2 ⟨v, rfl, ho, hb⟩; have HO := Lib.hid ho; have HB := Lib.hid hb; clear ho hb))
  obtain ⟨A, cap, hv, hcap, hcm, hA⟩ := HO.out
  obtain ⟨N, hN⟩ : ∃ N, N = p.length := ⟨_, rfl⟩
  rw [← hN] at hv hcap
  subst hv
  have h0 : N ≠ 0 := by rw [hN]; exact HP0.out
  obtain ⟨g, rfl, hgV, hgW, hgc, _⟩ := hA.resolve_left (by omega)
  have hN64 : N % 64 = 0 := by rw [hN]; exact H64.out
  have hNb : N < 1099511627776 + 200 := by rw [hN]; exact HPL.out
  have HN := Lib.hid hN
  have H2 := Lib.hid (HV.out.below HB.out)
  have HG : Hid (∀ j c, p[j]? = some c → W2.cell? ⟨g, j, none⟩ = some (bv c)) := Lib.hid hgc
  have HVs := Lib.hid HV.out.2.2.2
  clear hgc hN hcm hA
  go_loopw [5] (fun i wr => ∃ (k m : Nat), i = .int .i64 (m : Int) ∧ m = 64 * k ∧ m ≤ N ∧ Two2 w (stateAt p k) wr ∧ W2.heap.size ≤ wr.heap.size ∧ ∀ b, w.heap.size + 1 < b → b < W2.heap.size → wr.heap[b]? = W2.heap[b]?) (fun i _ => N - (intOf i).toNat)
  case atStart => exact ⟨0, 0, rfl, rfl, by omega, H2.out, Nat.le_refl _, fun _ _ _ => rfl⟩
  case round =>
    obtain ⟨k, m, rfl, hm, hk, h2, hs2, hbk⟩ := hrel
    by_cases hlt : m < N
    · have hbl : (blk p k).length = 64 := blk_length p k (by rw [← HN.out]; omega)
      obtain ⟨b, hb⟩ : ∃ b, b = blk p k := ⟨_, rfl⟩
      obtain ⟨st, hst⟩ : ∃ st, st = stateAt p k := ⟨_, rfl⟩
      have hnx : compressS st b = stateAt p (k + 1) := by rw [hst, hb]; rfl
      have hrb : RB wr W2.heap.size (some ⟨g, m, none⟩) b := fun _ => ⟨g, m, rfl, hgW, fun j c hj => by
        have e : p[m + j]? = some c := by
          rw [hb] at hj
          unfold blk at hj
          rw [List.getElem?_take] at hj
          split at hj
          · rw [List.getElem?_drop] at hj; rw [hm]; exact hj
          · cases hj
        exact (World.cell?_of_block (a := ⟨g, m + j, none⟩) (hbk g (by have := HVs.out; omega) hgW)).trans (HG.out _ _ e)⟩
      rw [← hb] at hbl
      rw [← hst] at h2
      have HX := Lib.hid hnx
      have HRB := Lib.hid hrb
      have HBL := Lib.hid hbl
      have HM := Lib.hid hm
      have H2' := Lib.hid h2
      have HBK := Lib.hid hbk
      obtain ⟨⟨c0, c1, c2, c3, c4, c5, c6, c7⟩, hS1⟩ := cells8 h2.2.1
      have hBl : Hid (∀ W c, 64 ≤ c → Below wr.heap.size wr W → Calls Tryd.prog 76 #[.agg #[wv st.a, wv st.b, wv st.c, wv st.d, wv st.e, wv st.f, wv st.g, wv st.h], .slice (some ⟨g, m, none⟩) 64 c] W fun e W' => e = .returned (.agg ((compressS st b).toL.map wv).toArray) ∧ (Below wr.heap.size wr W' ∧ (W'.cell? ⟨w.heap.size + 1, 0, none⟩ = some (wv st.a) ∧ W'.cell? ⟨w.heap.size + 1, 1, none⟩ = some (wv st.b) ∧ W'.cell? ⟨w.heap.size + 1, 2, none⟩ = some (wv st.c) ∧ W'.cell? ⟨w.heap.size + 1, 3, none⟩ = some (wv st.d) ∧ W'.cell? ⟨w.heap.size + 1, 4, none⟩ = some (wv st.e) ∧ W'.cell? ⟨w.heap.size + 1, 5, none⟩ = some (wv st.f) ∧ W'.cell? ⟨w.heap.size + 1, 6, none⟩ = some (wv st.g) ∧ W'.cell? ⟨w.heap.size + 1, 7, none⟩ = some (wv st.h)) ∧ W'.there (w.heap.size + 1) 0 8)) := Lib.hid (by
        intro W c hc hb
        refine (block_any st (some ⟨g, m, none⟩) b c W2.heap.size W (HRB.out.below (hb.mono hs2)) (Nat.le_trans hs2 hb.size) HBL.out hc).mono ?_
        rintro e W' ⟨rfl, hb2⟩
        have hb3 := hb.trans (hb2.mono hb.size)
        exact ⟨rfl, hb3, cells8 (H2'.out.below hb3).2.1⟩)
      obtain ⟨s2, es2⟩ : ∃ s, s = compressS st b := ⟨_, rfl⟩
      rw [← es2] at hBl HX
      obtain ⟨nw, enw⟩ : ∃ nw, nw = s2.toL.map wv := ⟨_, rfl⟩
      rw [← enw] at hBl
      have hnwl : nw.length = 8 := by rw [enw]; rfl
      have hnw1 : ∀ v ∈ nw, v.oneCell' = true := by rw [enw]; exact wvs_oneCell _
      have hst8 : ∀ W : World, W.there (w.heap.size + 1) 0 8 → (storeCells ⟨w.heap.size + 1, 0, none⟩ nw).run Tryd.prog W = .ok () (W.setCells (w.heap.size + 1) 0 nw) := fun W ht => by
        have := run_storeCells_cells (P := Tryd.prog) (w.heap.size + 1) 0 nw 0 W (by rw [hnwl]; intro j hj; simpa using (ht j hj).1) (by rw [hnwl]; intro j hj; simpa using (ht j hj).2) hnw1
        simpa using this
      have hi8 : (Tryd.prog.info? 111).map (·.size) = some nw.length := by rw [info8w, hnwl]
      have hu8 := Tryd.underlying111
      have HNW := Lib.hid enw
      have hw : IntKind.i64.wrap ((m : Int) + 64) = (m : Int) + 64 := by rw [IntKind.wrap_i64]; omega
      have b0 : (0 : Int) ≤ (m : Int) := by omega
      have b1 : (0 : Int) ≤ (m : Int) + 64 := by omega
      have b2 : ((m : Int) + 64).toNat = m + 64 := by omega
      have b3 : (m : Int) + 64 ≤ (cap : Int) := by omega
      have b4 : (m : Int) ≤ (m : Int) + 64 := by omega
      have b5 : cap ≠ m := by omega
      have b6 : m + 64 ≤ cap := by omega
      have b7 : 64 ≤ cap - m := by omega
      have hb00 : Below wr.heap.size wr wr.drew := (Below.refl _ _).drew
      clear hnx hrb hbl hm h2 hbk hb hst es2 enw hnw1
      go_wp2
      go_region_with (first
          | (go_at_call 76; refine (hBl.out _ _ (by omega) (by assumption)).mono ?_; rintro e W' ⟨rfl, hb', ⟨c0', c1', c2', c3', c4', c5', c6', c7'⟩, ht'⟩))
      have hT2 := ((H2'.out.below hb').next s2)
      rw [← HNW.out, HX.out] at hT2
      have HT2 := Lib.hid hT2
      have HB' := Lib.hid hb'
      clear hT2 hb' c0' c1' c2' c3' c4' c5' c6' c7' ht' hst8 c0 c1 c2 c3 c4 c5 c6 c7 hS1 hi8 hu8 hb00
      go_wp2
      go_roundw
      case rel =>
        refine ⟨k + 1, m + 64, rfl, by have := HM.out; omega, by have := HM.out; omega, HT2.out, by rw [size_sets]; exact Nat.le_trans hs2 HB'.out.size, fun b h3 h4 => ?_⟩
        rw [heap_setCells _ b (by omega), HB'.out.block b (by omega)]
        exact HBK.out b h3 h4
      case measure => simp [intOf] <;> omega
    · have hmN : m = N := by omega
      have hkN : k = N / 64 := by omega
      obtain ⟨s2, es2⟩ : ∃ s, s = stateAt p (N / 64) := ⟨_, rfl⟩
      rw [hkN, ← es2] at h2
      have E2 : Hid (digest s2 = sumS S.data.toList) := Lib.hid (by rw [es2, HN.out]; exact HD.out)
      obtain ⟨W3, eW3⟩ : ∃ W3 : World, W3 = wr := ⟨_, rfl⟩
      rw [← eW3] at h2
      have Z := Lib.hid h2
      have hz3 := h2.2.2.2
      clear h2 hbk es2 hm hkN
      rw [← eW3]
      clear eW3
      go_wp2
      refine cwp_gen (fun Wy => Arr Wy (w.heap.size + 1) 0 (s2.toL.map wv) ∧ Arr Wy W3.heap.size 0 ((zs 32).map bv) ∧ Below W3.heap.size W3 Wy) ⟨Z.out.2.1.alloc _, by rw [zero32_bv]; exact new32 _ _ rfl _, below_alloc0 _ _ (Nat.le_refl _)⟩ ?_
      rintro Wy ⟨x3, x4, xB⟩
      have X3 := Lib.hid x3
      have X4 := Lib.hid x4
      have XB := Lib.hid xB
      clear x3 x4 xB
      go_loopw [7] (fun i wr => ∃ k : Nat, i = .int .i64 (k : Int) ∧ k ≤ 32 ∧ Arr wr (w.heap.size + 1) 0 (s2.toL.map wv) ∧ Arr wr W3.heap.size 0 ((digAcc s2 k).map bv) ∧ Below W3.heap.size W3 wr) (fun i _ => 32 - (intOf i).toNat)
      case atStart => exact ⟨0, rfl, by omega, X3.out, X4.out, XB.out⟩
      case round =>
        obtain ⟨k, rfl, hk, r3, r4, rB⟩ := hrel
        by_cases hk2 : (k : Int) < 32
        · have hdl : ((digAcc s2 k).map bv).length = 32 := by rw [List.length_map, digAcc_length _ _ hk]
          have hf := r4.frozen0 (i := k) (by rw [hdl]; omega)
          obtain ⟨v5, hv5⟩ := Option.isSome_iff_exists.1 (r4.2 k (by rw [hdl]; omega)).1
          simp only [Nat.zero_add] at hv5
          obtain ⟨x, ex⟩ : ∃ x, x = s2.toL.getD (k / 4) 0 := ⟨_, rfl⟩
          have hcx := r3.cell0 (i := k / 4) (v := wv x) (by
            have h8 : k / 4 < s2.toL.length := by rw [toL_length]; omega
            rw [ex, List.getElem?_map, List.getD_eq_getElem?_getD, List.getElem?_eq_getElem h8]; rfl)
          have hj1 : (0 : Int) ≤ 24 - 8 * ((k : Int) % 4) := by omega
          have hj2 : min (24 - 8 * ((k : Int) % 4)).toNat 32 = 24 - 8 * (k % 4) := by omega
          have HD : Hid (UInt8.ofNat (x.toNat / 2 ^ (24 - 8 * (k % 4))) = dbyte s2 k) := Lib.hid (by rw [ex]; rfl)
          have R3 := Lib.hid r3
          have R4 := Lib.hid r4
          have RB := Lib.hid rB
          have HBL := Lib.hid hdl
          clear r3 r4 rB hdl ex
          go_wp2
          rw [dbyte_eq, HD.out]
          go_roundw
          case rel =>
            refine ⟨k + 1, rfl, by omega, R3.out.other _ (.inl (by show W3.heap.size ≠ w.heap.size + 1; omega)), ?_, RB.out.setCell (p := ⟨W3.heap.size, k, none⟩) (Nat.le_refl _) _⟩
            rw [digAcc_step _ _ (by omega), List.map_set]
            exact R4.out.set0 (by rw [HBL.out]; omega) _
          case measure => simp [intOf] <;> omega
        · have hk3 : k = 32 := by omega
          subst hk3
          rw [digAcc_all, E2.out] at r4
          obtain ⟨dg, edg⟩ : ∃ d, d = sumS S.data.toList := ⟨_, rfl⟩
          rw [← edg] at r4
          have hdg : (dg.map bv).length = 32 := by rw [List.length_map, edg]; unfold sumS; exact digest_length _
          have a2 := Z.out.1.below rB (by omega)
          have R2 := Lib.hid (a2.thereA (dg.map bv) (by rw [hdg]; rfl))
          have HI9 : Hid ((Tryd.prog.info? 64).map (·.size) = some (dg.map bv).length) := Lib.hid (by rw [hdg]; kernel_rfl)
          have HI8 : Hid ((Tryd.prog.info? 64).map (·.size) = some (dg.map bv).toArray.size) := Lib.hid (by rw [List.size_toArray, hdg]; kernel_rfl)
          have A2 := Lib.hid a2
          have R4 := Lib.hid r4
          have RB := Lib.hid rB
          have HDG := Lib.hid hdg
          have HED := Lib.hid edg
          clear r3 r4 rB a2 hdg edg
          go_wp2_with (first
            | (refine wpList_load_mid (by rfl) 64 (.tmp 6) (by rfl) W3.heap.size 0 (by rfl) (dg.map bv) _ R4.out.1 Tryd.underlying64 rfl HI9.out ?_)
            | (refine wpList_store_mid (by rfl) 64 (.tmp 2) (.tmp 40) (by rfl) w.heap.size 0 (dg.map bv).toArray (by rfl) (by rfl) R2.out HI8.out (all_oneCell_toArray (bvs_oneCell _)) ?_))
          refine bodyPost_ret (results_cell_mid rfl _ _ w.heap.size (dg.map bv) _ rfl (A2.out.sets _ (by rw [HDG.out]; rfl)) Tryd.underlying64 rfl HI9.out) rfl ?_
          exact ⟨by rw [HED.out], below_setCells _ (Nat.le_refl _) _ _ _ (Z.out.2.2.1.trans (RB.out.mono Z.out.2.2.1.size))⟩
end Go.Proofs.YtifbeemcphndfaaDoor
