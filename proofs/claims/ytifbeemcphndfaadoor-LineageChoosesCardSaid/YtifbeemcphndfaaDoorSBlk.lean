/- The walks of the reference's constants and of its block. -/
import Derived.Test.YtifbeemcphndfaaDoorSRef
import Derived.Test.YtifbeemcphndfaaDoorSEx
import Derived.Deep.QuietTactic
import Derived.BigQuiet
set_option linter.unusedVariables false
namespace Go.Proofs.YtifbeemcphndfaaDoor
open Go.RowKit

set_option maxHeartbeats 1000000 in
set_option maxRecDepth 100000 in
theorem K_any (w : World) : Calls Tryd.prog 95 #[] w fun e w' => e = .returned (.agg (KS.map wv).toArray) ∧ Below w.heap.size w w' := by
  have hl : (KS.map wv).length = 64 := rfl
  have HI : Hid ((Tryd.prog.info? 139).map (·.size) = some (KS.map wv).toArray.size) := Lib.hid (by rw [info64w, List.size_toArray, hl])
  have HL := Lib.hid hl
  clear hl
  go_enter Tryd.func95, Tryd.ntmps95
  go_wp2_with (refine wpList_store_mid (by rfl) 139 (.tmp 0) (.tmp 1) (by rfl) w.heap.size 0 (KS.map wv).toArray (by rfl) (by rfl) (there_new HL.out _ rfl _) HI.out (all_oneCell_toArray (wvs_oneCell _)) ?_)
  refine bodyPost_ret (results_cell_mid rfl _ _ w.heap.size (KS.map wv) _ rfl ((Arr.new w zero64 _).sets _ (by rw [HL.out]; rfl)) Tryd.underlying139 rfl (by rw [info64w, HL.out])) rfl ?_
  exact ⟨rfl, below_setCells _ (Nat.le_refl _) _ _ _ (below_alloc0 _ _ (Nat.le_refl _))⟩

theorem size_sets (b : Nat) : ∀ (vs : List Value) (o : Nat) (w : World), (w.setCells b o vs).heap.size = w.heap.size
  | [], _, _ => rfl
  | v :: r, o, w => by
    show ((w.setCell ⟨b, o, none⟩ v).setCells b (o + 1) r).heap.size = _
    rw [size_sets b r]; simp

/-- The first variables: the state, the result, the words, the constants. -/
def Four (w : World) (st : S8) (l : List UInt32) (G : Nat) (V : World) : Prop :=
  Arr V w.heap.size 0 (st.toL.map wv) ∧ Arr V (w.heap.size + 1) 0 zero8 ∧ Arr V G 0 (l.map wv) ∧ Arr V (G + 1) 0 (KS.map wv) ∧ Below w.heap.size w V ∧ w.heap.size + 1 < G ∧ V.heap.size = G + 1 + 1
def Pre2 (w : World) (st : S8) (W : World) : Prop := Arr W w.heap.size 0 (st.toL.map wv) ∧ Arr W (w.heap.size + 1) 0 zero8 ∧ Below w.heap.size w W ∧ W.heap.size = w.heap.size + 1 + 1
theorem pre2_new (w : World) (st : S8) (z : Array Value) (hz : z = zero8.toArray) (s t : TypeId) : Pre2 w st ((w.alloc (.cells (st.toL.map wv).toArray s)).alloc (.cells z t)) := by
  subst hz
  have e1 : (w.alloc (Obj.cells (st.toL.map wv).toArray s)).heap.size = w.heap.size + 1 := by simp
  refine ⟨(Arr.new w _ _).alloc _, ?_, (below_alloc0 _ _ (Nat.le_refl _)).alloc (by simp) _, by simp⟩
  rw [← e1]; exact Arr.new _ zero8 t

/-- The words' and the constants' blocks, not yet filled. -/
def Open4 (w : World) (st : S8) (G : Nat) (V : World) : Prop :=
  Arr V w.heap.size 0 (st.toL.map wv) ∧ Arr V (w.heap.size + 1) 0 zero8 ∧ Arr V G 0 zero64 ∧ Arr V (G + 1) 0 zero64 ∧ Below w.heap.size w V ∧ w.heap.size + 1 < G ∧ V.heap.size = G + 1 + 1
theorem open4_new {w W0 W2 : World} {st : S8} (h : Pre2 w st W0) (hb : Below W0.heap.size W0 W2) (z : Array Value) (hz : z = zero64.toArray) (s t : TypeId) :
    Open4 w st W2.heap.size ((W2.alloc (.cells z s)).alloc (.cells z t)) := by
  subst hz
  obtain ⟨h1, h2, h3, h4⟩ := h
  have hs := hb.size
  have e1 : (W2.alloc (Obj.cells zero64.toArray s)).heap.size = W2.heap.size + 1 := by simp
  refine ⟨((h1.below hb (by omega)).alloc _).alloc _, ((h2.below hb (by omega)).alloc _).alloc _, (Arr.new W2 zero64 s).alloc _, ?_, ((h3.trans (hb.mono (by omega))).alloc (by omega) _).alloc (by simp; omega) _, by omega, by simp⟩
  rw [← e1]; exact Arr.new _ zero64 t
theorem Open4.fill {w V : World} {st : S8} {l : List UInt32} {G : Nat} (h : Open4 w st G V) (hl : (l.map wv).length = 64) :
    Four w st l G ((V.setCells G 0 (l.map wv)).setCells (G + 1) 0 (KS.map wv)) := by
  obtain ⟨h1, h2, h3, h4, h5, h6, h7⟩ := h
  refine ⟨(h1.sets_other _ _ _ (.inl (by omega))).sets_other _ _ _ (.inl (by omega)), (h2.sets_other _ _ _ (.inl (by omega))).sets_other _ _ _ (.inl (by omega)), (h3.sets _ (by rw [hl]; rfl)).sets_other _ _ _ (.inl (by omega)), (h4.sets_other _ _ _ (.inl (by omega))).sets _ rfl, below_setCells _ (by omega) _ _ _ (below_setCells _ (by omega) _ _ _ h5), h6, ?_⟩
  rw [size_sets, size_sets]; exact h7

theorem p_eq (k x : UInt32) (v : S8) : wadd (wadd (wadd (wadd v.h (wxor (wxor (rotr 6 v.e) (rotr 11 v.e)) (rotr 25 v.e))) (wxor (wand v.e v.f) (wand (wnot v.e) v.g))) k) x = pOf k x v := by rw [pOf]
theorem q_eq (v : S8) : wadd (wxor (wxor (rotr 2 v.a) (rotr 13 v.a)) (rotr 22 v.a)) (wxor (wxor (wand v.a v.b) (wand v.a v.c)) (wand v.b v.c)) = qOf v := by rw [qOf]
theorem quiet_more {P : Program} {f : FuncId} {args : Array Value} {w : World} {p n : Nat} {v : Value}
    (h : Calls P f args (w.drewN (p + n)) fun e w' => e = .returned v ∧ ∃ q, w' = (w.drewN (p + n)).drewN q) : Calls P f args (w.drewN (p + n)) fun e w'' => e = .returned v ∧ ∃ m, w'' = (w.drewN p).drewN m :=
  h.mono fun _ _ ⟨he, q, hq⟩ => ⟨he, n + q, by rw [hq, World.drewN_drewN, World.drewN_drewN, Nat.add_assoc]⟩
theorem quiet_less {P : Program} {f : FuncId} {args : Array Value} {w : World} {p n : Nat} {v : Value}
    (h : Calls P f args (w.drewN (n + p)) fun e w' => e = .returned v ∧ ∃ q, w' = (w.drewN (n + p)).drewN q) : Calls P f args (w.drewN (n + p)) fun e w'' => e = .returned v ∧ ∃ m, w'' = (w.drewN p).drewN m :=
  h.mono fun _ _ ⟨he, q, hq⟩ => ⟨he, n + q, by rw [hq, World.drewN_drewN, World.drewN_drewN]; congr 1; omega⟩

/-- What the rounds stand on: the four, and the running state v in block H. -/
def BaseR (w : World) (st v : S8) (l : List UInt32) (G H : Nat) (V : World) : Prop :=
  Arr V w.heap.size 0 (st.toL.map wv) ∧ Arr V (w.heap.size + 1) 0 zero8 ∧ Arr V G 0 (l.map wv) ∧ Arr V (G + 1) 0 (KS.map wv) ∧ Arr V H 0 (v.toL.map wv) ∧ Below w.heap.size w V ∧ w.heap.size + 1 < G ∧ G + 1 < H
theorem BaseR.drewN {w : World} {st v : S8} {l : List UInt32} {G H : Nat} {V : World} (h : BaseR w st v l G H V) (n : Nat) : BaseR w st v l G H (V.drewN n) := ⟨h.1, h.2.1, h.2.2.1, h.2.2.2.1, h.2.2.2.2.1, below_drewN h.2.2.2.2.2.1 n, h.2.2.2.2.2.2.1, h.2.2.2.2.2.2.2⟩
theorem BaseR.next {w : World} {st v : S8} {l : List UInt32} {G H : Nat} {V : World} (h : BaseR w st v l G H V) (v' : S8) : BaseR w st v' l G H (V.setCells H 0 (v'.toL.map wv)) := by
  obtain ⟨h1, h2, h3, h4, h5, h6, h7, h8⟩ := h
  exact ⟨h1.sets_other _ _ _ (.inl (by omega)), h2.sets_other _ _ _ (.inl (by omega)), h3.sets_other _ _ _ (.inl (by omega)), h4.sets_other _ _ _ (.inl (by omega)), h5.sets _ rfl, below_setCells _ (by omega) _ _ _ h6, h7, h8⟩
theorem Four.base {w : World} {st : S8} {l : List UInt32} {G : Nat} {V : World} (h : Four w st l G V) (z : Array Value) (hz : z = zero8.toArray) (t : TypeId) : BaseR w st st l G V.heap.size ((V.alloc (.cells z t)).setCells V.heap.size 0 (st.toL.map wv)) := by
  subst hz
  obtain ⟨h1, h2, h3, h4, h5, h6, h7⟩ := h
  exact ⟨(h1.alloc _).sets_other _ _ _ (.inl (by omega)), (h2.alloc _).sets_other _ _ _ (.inl (by omega)), (h3.alloc _).sets_other _ _ _ (.inl (by omega)), (h4.alloc _).sets_other _ _ _ (.inl (by omega)), (Arr.new V zero8 t).sets _ rfl, below_setCells _ (by omega) _ _ _ (h5.alloc h5.size _), h6, by omega⟩

set_option maxHeartbeats 1000000 in
set_option maxRecDepth 100000 in
theorem block_any (st : S8) (A : Option Addr) (b : List UInt8) (c B : Nat) (w : World) (hr : RB w B A b) (hB : B ≤ w.heap.size) (hb : b.length = 64) (hbc : 64 ≤ c) :
    Calls Tryd.prog 76 #[.agg (st.toL.map wv).toArray, .slice A 64 c] w fun e w' => e = .returned (.agg ((compressS st b).toL.map wv).toArray) ∧ Below w.heap.size w w' := by
  have hlen : ((sch b 48).map wv).length = 64 := by rw [List.length_map, sch_length]
  have HSC : Hid (∀ W, Below w.heap.size w W → Calls Tryd.prog 94 #[.slice A 64 c] W fun e w' => e = .returned (.agg ((sch b 48).map wv).toArray) ∧ Below W.heap.size W w') :=
    Lib.hid fun W hW => refSchedule_any A b c B W (hr.below (hW.mono hB)) (Nat.le_trans hB hW.size) hb hbc
  suffices h : ∀ l, l = sch b 48 → Calls Tryd.prog 76 #[.agg (st.toL.map wv).toArray, .slice A 64 c] w fun e w' => e = .returned (.agg ((plus8 st (rounds KS l 64 st)).toL.map wv).toArray) ∧ Below w.heap.size w w' from h _ rfl
  intro l hl
  rw [← hl] at hlen HSC
  have hll : l.length = 64 := by rw [hl]; exact sch_length _ _
  have HL := Lib.hid hlen
  have HLL := Lib.hid hll
  have HI64 : Hid ((Tryd.prog.info? 139).map (·.size) = some (l.map wv).toArray.size) := Lib.hid (by rw [info64w, List.size_toArray, hlen])
  have HIK : Hid ((Tryd.prog.info? 139).map (·.size) = some (KS.map wv).toArray.size) := Lib.hid (by rw [info64w]; rfl)
  have HI8 : Hid ((Tryd.prog.info? 111).map (·.size) = some (st.toL.map wv).length) := Lib.hid (by rw [info8w]; rfl)
  have HI8a : Hid ((Tryd.prog.info? 111).map (·.size) = some (st.toL.map wv).toArray.size) := Lib.hid (by rw [info8w]; rfl)
  clear hl hlen hll hb hr hB hbc
  go_enter Tryd.func76, Tryd.ntmps76
  go_wp2_with (first
    | (go_at_call 94; refine calls_gen (Pre2 w st) (pre2_new w st _ rfl _ _) ?_; intro W0 h0; refine (HSC.out _ h0.2.2.1).mono ?_; rintro e W1 ⟨rfl, hb1⟩; have H0 := Lib.hid h0; have B1 := Lib.hid hb1; clear h0 hb1)
    | (go_at_call 95; refine (K_any _).mono ?_; rintro e W2 ⟨rfl, hb2⟩; have B2 := Lib.hid (B1.out.trans (hb2.mono B1.out.size)); clear hb2)
    | (show wpList _ _ _ (⟨none, .store 139 (.tmp 5) (.tmp 13), _, _, _, _⟩ :: _) _ _; refine wpl_gen (Open4 w st W2.heap.size) (open4_new H0.out B2.out _ rfl _ _) ?_; intro V hV; refine wpList_store_mid (by rfl) 139 (.tmp 5) (.tmp 13) (by rfl) W2.heap.size 0 (l.map wv).toArray (by rfl) (by rfl) (hV.2.2.1.thereA (l.map wv) (by rw [HL.out]; rfl)) HI64.out (all_oneCell_toArray (wvs_oneCell _)) ?_; have HV := Lib.hid hV; clear hV)
    | (show wpList _ _ _ (⟨none, .store 139 (.tmp 6) (.tmp 14), _, _, _, _⟩ :: _) _ _; refine wpList_store_mid (by rfl) 139 (.tmp 6) (.tmp 14) (by rfl) (W2.heap.size + 1) 0 (KS.map wv).toArray (by rfl) (by rfl) ((HV.out.2.2.2.1.sets_other _ _ _ (.inl (by omega))).thereA (KS.map wv) rfl) HIK.out (all_oneCell_toArray (wvs_oneCell _)) ?_; refine wpl_gen (Four w st l W2.heap.size) (HV.out.fill HL.out) ?_; intro U hU; have HU := Lib.hid hU; clear hU)
    | (refine wpList_load_mid (by rfl) 111 (.tmp 2) (by rfl) w.heap.size 0 (by rfl) (st.toL.map wv) _ HU.out.1.1 Tryd.underlying111 rfl HI8.out ?_)
    | (show wpList _ _ _ (⟨none, .store 111 (.tmp 7) (.tmp 15), _, _, _, _⟩ :: _) _ _; refine wpList_store_mid (by rfl) 111 (.tmp 7) (.tmp 15) (by rfl) U.heap.size 0 (st.toL.map wv).toArray (by rfl) (by rfl) ((Arr.new U zero8 _).thereA _ rfl) HI8a.out (all_oneCell_toArray (wvs_oneCell _)) ?_; refine wpl_gen (BaseR w st st l W2.heap.size U.heap.size) (HU.out.base _ rfl _) ?_; intro X hX; have HX0 := Lib.hid hX; clear hX))
  clear HV HU H0 B1 B2
  generalize W2.heap.size = G at *
  generalize U.heap.size = H at *
  go_loopw [8] (fun i wr => ∃ (t : Nat) (v : S8), v = rounds KS l t st ∧ i = .int .i64 (t : Int) ∧ t ≤ 64 ∧ BaseR w st v l G H wr) (fun i _ => 64 - (intOf i).toNat)
  case atStart => exact ⟨0, st, rfl, rfl, by omega, HX0.out⟩
  case round =>
    obtain ⟨t, v, hv, rfl, ht, hB⟩ := hrel
    by_cases ht2 : (t : Int) < 64
    · have hV := hB.2.2.2.2.1
      have c0 : wr.cell? ⟨H, 0, none⟩ = some (wv v.a) := hV.cell0 rfl
      have c1 : wr.cell? ⟨H, 1, none⟩ = some (wv v.b) := hV.cell0 rfl
      have c2 : wr.cell? ⟨H, 2, none⟩ = some (wv v.c) := hV.cell0 rfl
      have c3 : wr.cell? ⟨H, 3, none⟩ = some (wv v.d) := hV.cell0 rfl
      have c4 : wr.cell? ⟨H, 4, none⟩ = some (wv v.e) := hV.cell0 rfl
      have c5 : wr.cell? ⟨H, 5, none⟩ = some (wv v.f) := hV.cell0 rfl
      have c6 : wr.cell? ⟨H, 6, none⟩ = some (wv v.g) := hV.cell0 rfl
      have c7 : wr.cell? ⟨H, 7, none⟩ = some (wv v.h) := hV.cell0 rfl
      have ck : wr.cell? ⟨G + 1, t, none⟩ = some (wv (KS.getD t 0)) := hB.2.2.2.1.cell0 (by rw [List.getElem?_map, List.getElem?_eq_getElem (by rw [KS_length]; omega), List.getD_eq_getElem?_getD, List.getElem?_eq_getElem (by rw [KS_length]; omega)]; rfl)
      have cw : wr.cell? ⟨G, t, none⟩ = some (wv (l.getD t 0)) := hB.2.2.1.cell0 (by rw [List.getElem?_map, List.getElem?_eq_getElem (by rw [HLL.out]; omega), List.getD_eq_getElem?_getD, List.getElem?_eq_getElem (by rw [HLL.out]; omega)]; rfl)
      obtain ⟨kx, ek⟩ : ∃ x, x = KS.getD t 0 := ⟨_, rfl⟩
      obtain ⟨wx, ew⟩ : ∃ x, x = l.getD t 0 := ⟨_, rfl⟩
      rw [← ek] at ck
      rw [← ew] at cw
      have HR := Lib.hid (show rounds KS l (t + 1) st = ⟨wadd (pOf kx wx v) (qOf v), v.a, v.b, v.c, wadd v.d (pOf kx wx v), v.e, v.f, v.g⟩ by rw [rounds, ← hv, ← ek, ← ew, rnd])
      have HB := Lib.hid hB
      have HX := bits_xor_w
      have HA := add_w
      have HN := bits_and_w
      have HO : ∀ x : UInt32, bits .xor .u32 4294967295 (x.toNat : Int) = ((wnot x).toNat : Int) := bits_not_w
      clear hv hV hB ek ew HX0
      go_wp2
      go_quiet ((go_at_call 96; exact Calls.quiet_of (turn_any _ _ _ (by simp [Turns]))))
      go_wp2
      refine cwp_gen (fun W => W.cell? ⟨H, 0, none⟩ = some (wv v.a) ∧ W.cell? ⟨H, 1, none⟩ = some (wv v.b) ∧ W.cell? ⟨H, 2, none⟩ = some (wv v.c) ∧ W.cell? ⟨H, 3, none⟩ = some (wv v.d) ∧ W.cell? ⟨H, 4, none⟩ = some (wv v.e) ∧ W.cell? ⟨H, 5, none⟩ = some (wv v.f) ∧ W.cell? ⟨H, 6, none⟩ = some (wv v.g) ∧ W.cell? ⟨H, 7, none⟩ = some (wv v.h) ∧ BaseR w st v l G H W) ⟨c0, c1, c2, c3, c4, c5, c6, c7, HB.out.drewN _⟩ ?_
      clear c0 c1 c2 c3 c4 c5 c6 c7 ck cw HB
      rintro wr2 ⟨c0, c1, c2, c3, c4, c5, c6, c7, hB⟩
      have HB := Lib.hid hB
      clear hB
      go_quiet ((go_at_call 96; exact Calls.quiet_of (turn_any _ _ _ (by simp [Turns]))))
      rw [add_w, p_eq kx wx v, add_w, q_eq v]
      generalize pOf kx wx v = P at HR ⊢
      generalize qOf v = Q at HR ⊢
      obtain ⟨n, en⟩ : ∃ n, n = (⟨wadd P Q, v.a, v.b, v.c, wadd v.d P, v.e, v.f, v.g⟩ : S8) := ⟨_, rfl⟩
      have HEN : Hid ((n.toL.map wv).toArray = #[wv (wadd P Q), wv v.a, wv v.b, wv v.c, wv (wadd v.d P), wv v.e, wv v.f, wv v.g]) := Lib.hid (by rw [en]; rfl)
      have HI8b : Hid ((Tryd.prog.info? 111).map (·.size) = some (n.toL.map wv).toArray.size) := Lib.hid (by rw [info8w]; rfl)
      have HOC := Lib.hid (all_oneCell_toArray (wvs_oneCell n.toL))
      have HTH : Hid ((wr2.drewN nq).there H 0 (n.toL.map wv).toArray.size) := Lib.hid ((HB.out.drewN _).2.2.2.2.1.thereA (n.toL.map wv) rfl)
      have HNX : Hid (BaseR w st n l G H ((wr2.drewN nq).setCells H 0 (n.toL.map wv).toArray.toList)) := Lib.hid ((HB.out.drewN _).next n)
      have HR2 := Lib.hid (HR.out.trans en.symm)
      rw [HEN.out] at HTH HI8b HOC HNX
      clear HR en
      go_wp2_with (show wpList _ _ _ (⟨none, .store 111 (.tmp 7) (.tmp 103), _, _, _, _⟩ :: _) _ _; refine wpList_store_mid (by rfl) 111 (.tmp 7) (.tmp 103) (by rfl) H 0 #[wv (wadd P Q), wv v.a, wv v.b, wv v.c, wv (wadd v.d P), wv v.e, wv v.f, wv v.g] (by rfl) (by rfl) HTH.out HI8b.out HOC.out ?_; refine wpl_gen (BaseR w st n l G H) HNX.out ?_; intro X hX; have HX2 := Lib.hid hX; clear hX)
      go_roundw
      case rel => exact ⟨t + 1, n, HR2.out.symm, rfl, by omega, HX2.out⟩
      case measure => simp [intOf] <;> omega
    · have ht3 : t = 64 := by omega
      subst ht3
      have HB := Lib.hid hB
      have HVE := Lib.hid hv
      clear hB HX0 ht ht2 hv
      have HV3 : Hid (∀ k : Nat, k < 8 → ∃ x y, st.toL[k]? = some x ∧ v.toL[k]? = some y) := Lib.hid fun k hk => ⟨st.toL[k]'hk, v.toL[k]'hk, List.getElem?_eq_getElem _, List.getElem?_eq_getElem _⟩
      go_wp2
      go_loopw [11] (fun i wr => ∃ k : Nat, i = .int .i64 (k : Int) ∧ k ≤ 8 ∧ Arr wr w.heap.size 0 ((accW st v k).map wv) ∧ Arr wr (w.heap.size + 1) 0 zero8 ∧ Arr wr H 0 (v.toL.map wv) ∧ Below w.heap.size w wr ∧ w.heap.size + 1 < H) (fun i _ => 8 - (intOf i).toNat)
      case atStart => exact ⟨0, rfl, by omega, HB.out.1, HB.out.2.1, HB.out.2.2.2.2.1, HB.out.2.2.2.2.2.1, by have h1 := HB.out.2.2.2.2.2.2.1; have h2 := HB.out.2.2.2.2.2.2.2; omega⟩
      case round =>
        obtain ⟨k, rfl, hk, h1, h2, h3, h4, h5⟩ := hrel
        have H1 := Lib.hid h1
        have H2 := Lib.hid h2
        have H3 := Lib.hid h3
        have H4 := Lib.hid h4
        have H5 := Lib.hid h5
        by_cases hk2 : (k : Int) < 8
        · obtain ⟨x, y, ex, ey⟩ := HV3.out k (by omega)
          have hc1 := h1.cell0 (i := k) (v := wv x) (by rw [List.getElem?_map, accW_get _ _ _ (by omega), ex]; rfl)
          have hc2 := h3.cell0 (i := k) (v := wv y) (by rw [List.getElem?_map, ey]; rfl)
          have hf := h1.frozen0 (i := k) (by rw [List.length_map, accW_length _ _ _ hk]; omega)
          have HE := Lib.hid (accW_step st v k x y (by omega) ex ey)
          have HL1 := Lib.hid (show k < ((accW st v k).map wv).length by rw [List.length_map, accW_length _ _ _ hk]; omega)
          have HA := add_w
          clear h1 h2 h3 h4 h5 ex ey HB
          go_wp2
          go_region
          go_wp2
          go_roundw
          case rel =>
            refine ⟨k + 1, rfl, by omega, ?_, Arr.other H2.out _ (.inl (by show w.heap.size ≠ w.heap.size + 1; omega)), Arr.other H3.out _ (.inl (by show w.heap.size ≠ H; have := H5.out; omega)), ?_, H5.out⟩
            · rw [HE.out, List.map_set]; exact Arr.set0 H1.out HL1.out _
            · exact (H4.out.setCell (p := ⟨w.heap.size, k, none⟩) (Nat.le_refl _) _).drew
          case measure => simp [intOf] <;> omega
        · have hk3 : k = 8 := by omega
          subst hk3
          rw [accW_all] at H1
          clear h1 h2 h3 h4 h5 HB
          go_wp2_with (first
            | (refine wpList_load_mid (by rfl) 111 (.tmp 2) (by rfl) w.heap.size 0 (by rfl) ((plus8 st v).toL.map wv) _ H1.out.1 Tryd.underlying111 rfl info8w ?_)
            | (refine wpList_store_mid (by rfl) 111 (.tmp 4) (.tmp 117) (by rfl) (w.heap.size + 1) 0 ((plus8 st v).toL.map wv).toArray (by rfl) (by rfl) (H2.out.thereA ((plus8 st v).toL.map wv) rfl) info8w (all_oneCell_toArray (wvs_oneCell _)) ?_))
          refine bodyPost_ret (results_cell_mid rfl _ _ (w.heap.size + 1) ((plus8 st v).toL.map wv) _ rfl (H2.out.sets _ rfl) Tryd.underlying111 rfl info8w) rfl ?_
          exact ⟨by rw [← HVE.out], below_setCells _ (by omega) _ _ _ H4.out⟩
end Go.Proofs.YtifbeemcphndfaaDoor
