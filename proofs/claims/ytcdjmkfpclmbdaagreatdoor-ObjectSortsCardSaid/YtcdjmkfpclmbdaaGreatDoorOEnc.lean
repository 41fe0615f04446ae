/- object: the walk of Encode. -/
import Derived.Test.YtcdjmkfpclmbdaaGreatDoorOStrB
import Derived.Test.YtcdjmkfpclmbdaaGreatDoorORefM
import Derived.Test.YtcdjmkfpclmbdaaGreatDoorOCb
set_option linter.unusedVariables false
namespace Go.Proofs.YtcdjmkfpclmbdaaGreatDoor
open Go.RowKit

/-- Block g is a Writer that has written l; it and its bytes are newer than the blocks of the name and the kind. -/
def EW (w : World) (G g : Nat) (l : List UInt8) (V : World) : Prop := w.heap.size < g ∧ G < g ∧ ∃ v, Cod.IsW V g v l 0 ∧ ∀ k, v.ownBlock = some k → g ≤ k
theorem ew_new {w V W : World} {G : Nat} (hG : G < V.heap.size) (hb : w.heap.size < V.heap.size) (h : Cod.IsW W V.heap.size (.slice none 0 0) [] 0) : EW w G V.heap.size [] W :=
  ⟨hb, hG, _, h, fun k hk => by cases hk⟩
theorem ew_step {w V W : World} {G g : Nat} {cs us : Array Value} {m : List UInt8} {v v' : Value} (hS : SK w G cs us V) (h1 : w.heap.size < g) (h2 : G < g) (hv : ∀ k, v.ownBlock = some k → g ≤ k)
    (hg : g < V.heap.size) (hw : Cod.IsW W g v' m 0) (hm : Mod V W (Cod.wfoot g v)) (hn : Newer V v v') : SK w G cs us W ∧ EW w G g m W := by
  have no : ∀ k, k < g → ¬ Cod.wfoot g v k := by
    rintro k hk (e | e)
    · omega
    · have := hv k e; omega
  refine ⟨⟨hS.1.mod hm (no _ h1), hS.2.1.mod hm (no _ h2), hS.2.2.trans (hm.below hS.2.2.size fun i _ hi => ?_)⟩, h1, h2, v', hw, Cod.newer_ge hn hv (by omega)⟩
  rcases hi with e | e
  · omega
  · have := hv i e; omega
theorem number_ew {w V : World} {G g : Nat} {cs us : Array Value} {l : List UInt8} (n : Nat) (hS : SK w G cs us V) (h : EW w G g l V) (hn : n ≤ 1073741824) (hl : l.length ≤ 100000000) :
    Calls Tryz.prog 56 #[.pointer (some ⟨g, 0, none⟩), .int .i64 (n : Int)] V fun e w' => e = .returned (.tuple #[]) ∧ SK w G cs us w' ∧ EW w G g (l ++ Cod.enc n) w' := by
  obtain ⟨h1, h2, v, hw, hv⟩ := h
  refine (Cod.numberW_any V g v l 0 (n : Int) hw (by omega) (by omega)).mono ?_
  rintro e w' ⟨he, v', hw', hm, hnw⟩
  rw [if_neg (by omega), if_neg (by omega)] at hw'
  have := ew_step hS h1 h2 hv hw.1.lt hw' hm hnw
  refine ⟨he, this.1, ?_⟩
  have h3 := this.2
  rw [Cod.wput, if_pos rfl, Int.toNat_natCast] at h3
  exact h3
theorem text_ew {w V : World} {G g : Nat} {cs us : Array Value} {l : List UInt8} (s : ByteArray) (hS : SK w G cs us V) (h : EW w G g l V) (hs : s.size ≤ 1000000) (hl : l.length ≤ 100000000) :
    Calls Tryz.prog 57 #[.pointer (some ⟨g, 0, none⟩), .string s] V fun e w' => e = .returned (.tuple #[]) ∧ SK w G cs us w' ∧ EW w G g (l ++ (Cod.enc s.size ++ s.data.toList)) w' := by
  obtain ⟨h1, h2, v, hw, hv⟩ := h
  refine (Cod.textW_any V g v l 0 s hw (by omega) (by omega)).mono ?_
  rintro e w' ⟨he, v', hw', hm, hnw⟩
  rw [if_neg (by omega), if_neg (by omega)] at hw'
  have := ew_step hS h1 h2 hv hw.1.lt hw' hm hnw
  refine ⟨he, this.1, ?_⟩
  have h3 := this.2
  rw [Cod.wput, if_pos rfl] at h3
  exact h3
theorem bytes_ew {w V : World} {G g : Nat} {l : List UInt8} (h : EW w G g l V) (hl : l.length ≤ 100000000) :
    Calls Tryz.prog 58 #[.pointer (some ⟨g, 0, none⟩)] V fun e w' => (∃ A c, e = .returned (.tuple #[.slice A l.length c, .int .i64 0]) ∧ ∀ W : World, W = w' → (convert 53 9 (.slice A l.length c)).run Tryz.prog W = .ok (.string (sv l)) W) ∧ Below V.heap.size V w' := by
  obtain ⟨h1, h2, v, hw, hv⟩ := h
  refine (Cod.bytesW_any V g v l hw (by omega)).mono ?_
  rintro e w' ⟨v', he, ho, hb⟩
  obtain ⟨A, c, rfl, hr, _, _⟩ := ho.form
  refine ⟨⟨A, c, he, fun W hW => ?_⟩, hb⟩
  subst hW
  exact run_str (l := l) bslL 9 Tryz.underlying9 hr c

set_option maxHeartbeats 8000000 in
set_option maxRecDepth 100000 in
theorem encode_gen (k n i m : Nat) (b1 b2 b3 b4 : Bool) (O T U : ByteArray) (w : World) (hu : ∀ W, Below w.heap.size w W → W.rangeAt 0 (k * 6) (usL U b1 b2 b3 b4 m))
    (hC : ∀ W, Below w.heap.size w W → Calls Tryz.prog 54 #[nmV k O n i T] W fun e w' => e = .returned (.int .i64 0) ∧ Below W.heap.size W w')
    (hO : O.size ≤ 1000000) (hT : T.size ≤ 1000000) (hn : n ≤ 1073741824) (hi : i ≤ 1073741824) (h20 : k ≤ 20) (R : List UInt8)
    (hR : R = catB b4 (catB b3 (catB b2 (catB b1 (Cod.enc k) (Cod.enc O.size ++ O.data.toList)) (Cod.enc n)) (Cod.enc i)) (Cod.enc T.size ++ T.data.toList)) :
    Calls Tryz.prog 21 #[nmV k O n i T] w fun e w' => e = .returned (.tuple #[.string (sv R), .int .i64 0]) ∧ Below w.heap.size w w' := by
  have g3 : (k : Int) < 21 := by omega
  have HU := Lib.hid hu
  have HCK := Lib.hid hC
  have lO : O.data.toList.length = O.size := by simp
  have lT : T.data.toList.length = T.size := by simp
  have ek : (Cod.enc k).length ≤ 10 := Cod.enc_len10 (by omega)
  have en : (Cod.enc n).length ≤ 10 := Cod.enc_len10 (by omega)
  have ei : (Cod.enc i).length ≤ 10 := Cod.enc_len10 (by omega)
  have eo : (Cod.enc O.size).length ≤ 10 := Cod.enc_len10 (by omega)
  have et : (Cod.enc T.size).length ≤ 10 := Cod.enc_len10 (by omega)
  obtain ⟨L0, h0⟩ : ∃ x, x = Cod.enc k := ⟨_, rfl⟩
  obtain ⟨L1, h1⟩ : ∃ x, x = catB b1 L0 (Cod.enc O.size ++ O.data.toList) := ⟨_, rfl⟩
  obtain ⟨L2, h2⟩ : ∃ x, x = catB b2 L1 (Cod.enc n) := ⟨_, rfl⟩
  obtain ⟨L3, h3⟩ : ∃ x, x = catB b3 L2 (Cod.enc i) := ⟨_, rfl⟩
  obtain ⟨L4, h4⟩ : ∃ x, x = catB b4 L3 (Cod.enc T.size ++ T.data.toList) := ⟨_, rfl⟩
  have hRr : R = L4 := by rw [h4, h3, h2, h1, h0]; exact hR
  have cl : ∀ (b : Bool) (x y : List UInt8), (catB b x y).length ≤ x.length + y.length := fun b x y => by unfold catB; split <;> simp
  have l0 : L0.length ≤ 10 := by rw [h0]; exact ek
  have l1 : L1.length ≤ 1000100 := by rw [h1]; have := cl b1 L0 (Cod.enc O.size ++ O.data.toList); rw [List.length_append] at this; omega
  have l2 : L2.length ≤ 1000200 := by rw [h2]; have := cl b2 L1 (Cod.enc n); omega
  have l3 : L3.length ≤ 1000300 := by rw [h3]; have := cl b3 L2 (Cod.enc i); omega
  have l4 : L4.length ≤ 3000300 := by rw [h4]; have := cl b4 L3 (Cod.enc T.size ++ T.data.toList); rw [List.length_append] at this; omega
  have H0 : Hid (∀ G g cs us V, SK w G cs us V → EW w G g [] V → Calls Tryz.prog 56 #[.pointer (some ⟨g, 0, none⟩), .int .i64 (k : Int)] V fun e w' => e = .returned (.tuple #[]) ∧ SK w G cs us w' ∧ EW w G g L0 w') := Lib.hid fun G g cs us V hs hw => by
    have := number_ew k hs hw (by omega) (by simp)
    rw [List.nil_append, ← h0] at this; exact this
  have H1 : b1 = true → Hid (∀ G g cs us V, SK w G cs us V → EW w G g L0 V → Calls Tryz.prog 57 #[.pointer (some ⟨g, 0, none⟩), .string O] V fun e w' => e = .returned (.tuple #[]) ∧ SK w G cs us w' ∧ EW w G g L1 w') := fun e => Lib.hid fun G g cs us V hs hw => by
    have := text_ew O hs hw hO (by omega)
    rw [h1, catB, if_pos e]; exact this
  have H2 : b2 = true → Hid (∀ G g cs us V, SK w G cs us V → EW w G g L1 V → Calls Tryz.prog 56 #[.pointer (some ⟨g, 0, none⟩), .int .i64 (n : Int)] V fun e w' => e = .returned (.tuple #[]) ∧ SK w G cs us w' ∧ EW w G g L2 w') := fun e => Lib.hid fun G g cs us V hs hw => by
    have := number_ew n hs hw (by omega) (by omega)
    rw [h2, catB, if_pos e]; exact this
  have H3 : b3 = true → Hid (∀ G g cs us V, SK w G cs us V → EW w G g L2 V → Calls Tryz.prog 56 #[.pointer (some ⟨g, 0, none⟩), .int .i64 (i : Int)] V fun e w' => e = .returned (.tuple #[]) ∧ SK w G cs us w' ∧ EW w G g L3 w') := fun e => Lib.hid fun G g cs us V hs hw => by
    have := number_ew i hs hw (by omega) (by omega)
    rw [h3, catB, if_pos e]; exact this
  have H4 : b4 = true → Hid (∀ G g cs us V, SK w G cs us V → EW w G g L3 V → Calls Tryz.prog 57 #[.pointer (some ⟨g, 0, none⟩), .string T] V fun e w' => e = .returned (.tuple #[]) ∧ SK w G cs us w' ∧ EW w G g L4 w') := fun e => Lib.hid fun G g cs us V hs hw => by
    have := text_ew T hs hw hT (by omega)
    rw [h4, catB, if_pos e]; exact this
  have HBY : Hid (∀ G g V, EW w G g L4 V → Calls Tryz.prog 58 #[.pointer (some ⟨g, 0, none⟩)] V fun e w' => (∃ A c, e = .returned (.tuple #[.slice A L4.length c, .int .i64 0]) ∧ ∀ W : World, W = w' → (convert 53 9 (.slice A L4.length c)).run Tryz.prog W = .ok (.string (sv L4)) W) ∧ Below V.heap.size V w') := Lib.hid fun G g V hw => bytes_ew hw (by omega)
  have d1 : b1 = false → L0 = L1 := fun e => by rw [h1, e]; rfl
  have d2 : b2 = false → L1 = L2 := fun e => by rw [h2, e]; rfl
  have d3 : b3 = false → L2 = L3 := fun e => by rw [h3, e]; rfl
  have d4 : b4 = false → L3 = L4 := fun e => by rw [h4, e]; rfl
  rw [hRr]
  clear hR hRr h0 h1 h2 h3 h4 cl l0 l1 l2 l3 l4 lO lT ek en ei eo et hu hC hO hT hn hi
  have HN : Hid (∀ w1 w2 : World, w1 = w2 → Calls Tryz.prog 55 #[] w1 fun e w' => e = .returned (.pointer (some ⟨w2.heap.size, 0, none⟩)) ∧ Cod.IsW w' w2.heap.size (.slice none 0 0) [] 0 ∧ Below w2.heap.size w2 w') := Lib.hid fun w1 w2 h => by subst h; exact Cod.newWriter_any w1
  generalize hSL : sv L4 = SL at HBY ⊢
  generalize hNL : L4.length = NL at HBY
  have HSL := Lib.hid hSL
  have HNL := Lib.hid hNL
  clear hSL hNL
  cases b1 <;> cases b2 <;> cases b3 <;> cases b4
  all_goals
    first | (replace d1 := d1 rfl; subst d1; clear H1) | (replace H1 := H1 rfl; clear d1)
    first | (replace d2 := d2 rfl; subst d2; clear H2) | (replace H2 := H2 rfl; clear d2)
    first | (replace d3 := d3 rfl; subst d3; clear H3) | (replace H3 := H3 rfl; clear d3)
    first | (replace d4 := d4 rfl; subst d4; clear H4) | (replace H4 := H4 rfl; clear d4)
  case false.false.false.false =>
    go_enter Tryz.func21, Tryz.ntmps21
    go_wp2_with (first
      | (go_at_call 54; refine (HCK.out _ (below_alloc0 _ _ (Nat.le_refl _))).mono ?_; rintro e V1 ⟨rfl, hb⟩; have HV1 := Lib.hid ((Blk.new w 28 (nmC k O n i T)).under hb); have HB1 := Lib.hid ((below_alloc0 w (.cells (nmC k O n i T) 28) (Nat.le_refl _)).trans (hb.mono (by simp))); clear hb; have c0 := HV1.out.cell 0)
      | (show wpList _ _ _ (⟨some 17, _, _, _, _, _⟩ :: _) _ _; refine wpList_load_mid (by rfl) 69 (.tmp 16) (by rfl) 0 (k * 6) (by rfl) (usL U _ _ _ _ m) _ (HU.out _ HB1.out) Tryz.underlying69 rfl infoUse ?_)
      | (show wpList _ _ _ (⟨some 18, _, _, _, _, _⟩ :: _) _ _; refine wpl_gen (fun V => SK w V1.heap.size (nmC k O n i T) (usC U false false false false m) V ∧ V1.heap.size < V.heap.size ∧ w.heap.size < V.heap.size) ⟨sk_new HV1.out HB1.out, by simp, by have := HB1.out.size; simp; omega⟩ ?_; rintro V ⟨hV, hz1, hz2⟩; clear c0; generalize V1.heap.size = G at hV hz1 ⊢; have HV := Lib.hid hV; have HZ1 := Lib.hid hz1; have HZ2 := Lib.hid hz2; clear hV hz1 hz2)
      | (go_at_call 55; refine (HN.out _ V rfl).mono ?_; rintro e V2 ⟨rfl, hw, hb⟩; have hS := HV.out.under hb; have hW := ew_new (w := w) HZ1.out HZ2.out hw; generalize V.heap.size = g at hW ⊢; clear hw hb HZ1 HZ2; have k0 := hS.1.cell 0; have k1 := hS.1.cell 1; have k2 := hS.1.cell 2; have k3 := hS.1.cell 3; have k4 := hS.1.cell 4; have j1 := hS.2.1.cell 1; have j2 := hS.2.1.cell 2; have j3 := hS.2.1.cell 3; have j4 := hS.2.1.cell 4; have HS := Lib.hid hS; have HW := Lib.hid hW; clear hS hW)
      | (go_at_call 56; (with_reducible refine (H0.out _ _ _ _ _ HS.out HW.out).mono ?_); rintro e V3 ⟨rfl, hS, hW⟩; replace HS := Lib.hid hS; replace HW := Lib.hid hW; clear hS hW k0 k1 k2 k3 k4 j1 j2 j3 j4; have k0 := HS.out.1.cell 0; have k1 := HS.out.1.cell 1; have k2 := HS.out.1.cell 2; have k3 := HS.out.1.cell 3; have k4 := HS.out.1.cell 4; have j1 := HS.out.2.1.cell 1; have j2 := HS.out.2.1.cell 2; have j3 := HS.out.2.1.cell 3; have j4 := HS.out.2.1.cell 4)
      | (go_at_call 58; refine (HBY.out _ _ _ HW.out).mono ?_; rintro e V4 ⟨⟨A, c, rfl, hcv⟩, hb⟩; have hcv := hcv _ rfl; have HB4 := Lib.hid (HS.out.2.2.trans (hb.mono HS.out.2.2.size)); clear hb k0 k1 k2 k3 k4 j1 j2 j3 j4))
    go_ret2
    exact ⟨rfl, HB4.out⟩
  case false.false.false.true =>
    go_enter Tryz.func21, Tryz.ntmps21
    go_wp2_with (first
      | (go_at_call 54; refine (HCK.out _ (below_alloc0 _ _ (Nat.le_refl _))).mono ?_; rintro e V1 ⟨rfl, hb⟩; have HV1 := Lib.hid ((Blk.new w 28 (nmC k O n i T)).under hb); have HB1 := Lib.hid ((below_alloc0 w (.cells (nmC k O n i T) 28) (Nat.le_refl _)).trans (hb.mono (by simp))); clear hb; have c0 := HV1.out.cell 0)
      | (show wpList _ _ _ (⟨some 17, _, _, _, _, _⟩ :: _) _ _; refine wpList_load_mid (by rfl) 69 (.tmp 16) (by rfl) 0 (k * 6) (by rfl) (usL U _ _ _ _ m) _ (HU.out _ HB1.out) Tryz.underlying69 rfl infoUse ?_)
      | (show wpList _ _ _ (⟨some 18, _, _, _, _, _⟩ :: _) _ _; refine wpl_gen (fun V => SK w V1.heap.size (nmC k O n i T) (usC U false false false true m) V ∧ V1.heap.size < V.heap.size ∧ w.heap.size < V.heap.size) ⟨sk_new HV1.out HB1.out, by simp, by have := HB1.out.size; simp; omega⟩ ?_; rintro V ⟨hV, hz1, hz2⟩; clear c0; generalize V1.heap.size = G at hV hz1 ⊢; have HV := Lib.hid hV; have HZ1 := Lib.hid hz1; have HZ2 := Lib.hid hz2; clear hV hz1 hz2)
      | (go_at_call 55; refine (HN.out _ V rfl).mono ?_; rintro e V2 ⟨rfl, hw, hb⟩; have hS := HV.out.under hb; have hW := ew_new (w := w) HZ1.out HZ2.out hw; generalize V.heap.size = g at hW ⊢; clear hw hb HZ1 HZ2; have k0 := hS.1.cell 0; have k1 := hS.1.cell 1; have k2 := hS.1.cell 2; have k3 := hS.1.cell 3; have k4 := hS.1.cell 4; have j1 := hS.2.1.cell 1; have j2 := hS.2.1.cell 2; have j3 := hS.2.1.cell 3; have j4 := hS.2.1.cell 4; have HS := Lib.hid hS; have HW := Lib.hid hW; clear hS hW)
      | (go_at_call 56; (with_reducible refine (H0.out _ _ _ _ _ HS.out HW.out).mono ?_); rintro e V3 ⟨rfl, hS, hW⟩; replace HS := Lib.hid hS; replace HW := Lib.hid hW; clear hS hW k0 k1 k2 k3 k4 j1 j2 j3 j4; have k0 := HS.out.1.cell 0; have k1 := HS.out.1.cell 1; have k2 := HS.out.1.cell 2; have k3 := HS.out.1.cell 3; have k4 := HS.out.1.cell 4; have j1 := HS.out.2.1.cell 1; have j2 := HS.out.2.1.cell 2; have j3 := HS.out.2.1.cell 3; have j4 := HS.out.2.1.cell 4)
      | (go_at_call 57; (with_reducible refine (H4.out _ _ _ _ _ HS.out HW.out).mono ?_); rintro e V3 ⟨rfl, hS, hW⟩; replace HS := Lib.hid hS; replace HW := Lib.hid hW; clear hS hW k0 k1 k2 k3 k4 j1 j2 j3 j4; have k0 := HS.out.1.cell 0; have k1 := HS.out.1.cell 1; have k2 := HS.out.1.cell 2; have k3 := HS.out.1.cell 3; have k4 := HS.out.1.cell 4; have j1 := HS.out.2.1.cell 1; have j2 := HS.out.2.1.cell 2; have j3 := HS.out.2.1.cell 3; have j4 := HS.out.2.1.cell 4)
      | (go_at_call 58; refine (HBY.out _ _ _ HW.out).mono ?_; rintro e V4 ⟨⟨A, c, rfl, hcv⟩, hb⟩; have hcv := hcv _ rfl; have HB4 := Lib.hid (HS.out.2.2.trans (hb.mono HS.out.2.2.size)); clear hb k0 k1 k2 k3 k4 j1 j2 j3 j4))
    go_ret2
    exact ⟨rfl, HB4.out⟩
  case false.false.true.false =>
    go_enter Tryz.func21, Tryz.ntmps21
    go_wp2_with (first
      | (go_at_call 54; refine (HCK.out _ (below_alloc0 _ _ (Nat.le_refl _))).mono ?_; rintro e V1 ⟨rfl, hb⟩; have HV1 := Lib.hid ((Blk.new w 28 (nmC k O n i T)).under hb); have HB1 := Lib.hid ((below_alloc0 w (.cells (nmC k O n i T) 28) (Nat.le_refl _)).trans (hb.mono (by simp))); clear hb; have c0 := HV1.out.cell 0)
      | (show wpList _ _ _ (⟨some 17, _, _, _, _, _⟩ :: _) _ _; refine wpList_load_mid (by rfl) 69 (.tmp 16) (by rfl) 0 (k * 6) (by rfl) (usL U _ _ _ _ m) _ (HU.out _ HB1.out) Tryz.underlying69 rfl infoUse ?_)
      | (show wpList _ _ _ (⟨some 18, _, _, _, _, _⟩ :: _) _ _; refine wpl_gen (fun V => SK w V1.heap.size (nmC k O n i T) (usC U false false true false m) V ∧ V1.heap.size < V.heap.size ∧ w.heap.size < V.heap.size) ⟨sk_new HV1.out HB1.out, by simp, by have := HB1.out.size; simp; omega⟩ ?_; rintro V ⟨hV, hz1, hz2⟩; clear c0; generalize V1.heap.size = G at hV hz1 ⊢; have HV := Lib.hid hV; have HZ1 := Lib.hid hz1; have HZ2 := Lib.hid hz2; clear hV hz1 hz2)
      | (go_at_call 55; refine (HN.out _ V rfl).mono ?_; rintro e V2 ⟨rfl, hw, hb⟩; have hS := HV.out.under hb; have hW := ew_new (w := w) HZ1.out HZ2.out hw; generalize V.heap.size = g at hW ⊢; clear hw hb HZ1 HZ2; have k0 := hS.1.cell 0; have k1 := hS.1.cell 1; have k2 := hS.1.cell 2; have k3 := hS.1.cell 3; have k4 := hS.1.cell 4; have j1 := hS.2.1.cell 1; have j2 := hS.2.1.cell 2; have j3 := hS.2.1.cell 3; have j4 := hS.2.1.cell 4; have HS := Lib.hid hS; have HW := Lib.hid hW; clear hS hW)
      | (go_at_call 56; (with_reducible refine (H0.out _ _ _ _ _ HS.out HW.out).mono ?_); rintro e V3 ⟨rfl, hS, hW⟩; replace HS := Lib.hid hS; replace HW := Lib.hid hW; clear hS hW k0 k1 k2 k3 k4 j1 j2 j3 j4; have k0 := HS.out.1.cell 0; have k1 := HS.out.1.cell 1; have k2 := HS.out.1.cell 2; have k3 := HS.out.1.cell 3; have k4 := HS.out.1.cell 4; have j1 := HS.out.2.1.cell 1; have j2 := HS.out.2.1.cell 2; have j3 := HS.out.2.1.cell 3; have j4 := HS.out.2.1.cell 4)
      | (go_at_call 56; (with_reducible refine (H3.out _ _ _ _ _ HS.out HW.out).mono ?_); rintro e V3 ⟨rfl, hS, hW⟩; replace HS := Lib.hid hS; replace HW := Lib.hid hW; clear hS hW k0 k1 k2 k3 k4 j1 j2 j3 j4; have k0 := HS.out.1.cell 0; have k1 := HS.out.1.cell 1; have k2 := HS.out.1.cell 2; have k3 := HS.out.1.cell 3; have k4 := HS.out.1.cell 4; have j1 := HS.out.2.1.cell 1; have j2 := HS.out.2.1.cell 2; have j3 := HS.out.2.1.cell 3; have j4 := HS.out.2.1.cell 4)
      | (go_at_call 58; refine (HBY.out _ _ _ HW.out).mono ?_; rintro e V4 ⟨⟨A, c, rfl, hcv⟩, hb⟩; have hcv := hcv _ rfl; have HB4 := Lib.hid (HS.out.2.2.trans (hb.mono HS.out.2.2.size)); clear hb k0 k1 k2 k3 k4 j1 j2 j3 j4))
    go_ret2
    exact ⟨rfl, HB4.out⟩
  case false.false.true.true =>
    go_enter Tryz.func21, Tryz.ntmps21
    go_wp2_with (first
      | (go_at_call 54; refine (HCK.out _ (below_alloc0 _ _ (Nat.le_refl _))).mono ?_; rintro e V1 ⟨rfl, hb⟩; have HV1 := Lib.hid ((Blk.new w 28 (nmC k O n i T)).under hb); have HB1 := Lib.hid ((below_alloc0 w (.cells (nmC k O n i T) 28) (Nat.le_refl _)).trans (hb.mono (by simp))); clear hb; have c0 := HV1.out.cell 0)
      | (show wpList _ _ _ (⟨some 17, _, _, _, _, _⟩ :: _) _ _; refine wpList_load_mid (by rfl) 69 (.tmp 16) (by rfl) 0 (k * 6) (by rfl) (usL U _ _ _ _ m) _ (HU.out _ HB1.out) Tryz.underlying69 rfl infoUse ?_)
      | (show wpList _ _ _ (⟨some 18, _, _, _, _, _⟩ :: _) _ _; refine wpl_gen (fun V => SK w V1.heap.size (nmC k O n i T) (usC U false false true true m) V ∧ V1.heap.size < V.heap.size ∧ w.heap.size < V.heap.size) ⟨sk_new HV1.out HB1.out, by simp, by have := HB1.out.size; simp; omega⟩ ?_; rintro V ⟨hV, hz1, hz2⟩; clear c0; generalize V1.heap.size = G at hV hz1 ⊢; have HV := Lib.hid hV; have HZ1 := Lib.hid hz1; have HZ2 := Lib.hid hz2; clear hV hz1 hz2)
      | (go_at_call 55; refine (HN.out _ V rfl).mono ?_; rintro e V2 ⟨rfl, hw, hb⟩; have hS := HV.out.under hb; have hW := ew_new (w := w) HZ1.out HZ2.out hw; generalize V.heap.size = g at hW ⊢; clear hw hb HZ1 HZ2; have k0 := hS.1.cell 0; have k1 := hS.1.cell 1; have k2 := hS.1.cell 2; have k3 := hS.1.cell 3; have k4 := hS.1.cell 4; have j1 := hS.2.1.cell 1; have j2 := hS.2.1.cell 2; have j3 := hS.2.1.cell 3; have j4 := hS.2.1.cell 4; have HS := Lib.hid hS; have HW := Lib.hid hW; clear hS hW)
      | (go_at_call 56; (with_reducible refine (H0.out _ _ _ _ _ HS.out HW.out).mono ?_); rintro e V3 ⟨rfl, hS, hW⟩; replace HS := Lib.hid hS; replace HW := Lib.hid hW; clear hS hW k0 k1 k2 k3 k4 j1 j2 j3 j4; have k0 := HS.out.1.cell 0; have k1 := HS.out.1.cell 1; have k2 := HS.out.1.cell 2; have k3 := HS.out.1.cell 3; have k4 := HS.out.1.cell 4; have j1 := HS.out.2.1.cell 1; have j2 := HS.out.2.1.cell 2; have j3 := HS.out.2.1.cell 3; have j4 := HS.out.2.1.cell 4)
      | (go_at_call 56; (with_reducible refine (H3.out _ _ _ _ _ HS.out HW.out).mono ?_); rintro e V3 ⟨rfl, hS, hW⟩; replace HS := Lib.hid hS; replace HW := Lib.hid hW; clear hS hW k0 k1 k2 k3 k4 j1 j2 j3 j4; have k0 := HS.out.1.cell 0; have k1 := HS.out.1.cell 1; have k2 := HS.out.1.cell 2; have k3 := HS.out.1.cell 3; have k4 := HS.out.1.cell 4; have j1 := HS.out.2.1.cell 1; have j2 := HS.out.2.1.cell 2; have j3 := HS.out.2.1.cell 3; have j4 := HS.out.2.1.cell 4)
      | (go_at_call 57; (with_reducible refine (H4.out _ _ _ _ _ HS.out HW.out).mono ?_); rintro e V3 ⟨rfl, hS, hW⟩; replace HS := Lib.hid hS; replace HW := Lib.hid hW; clear hS hW k0 k1 k2 k3 k4 j1 j2 j3 j4; have k0 := HS.out.1.cell 0; have k1 := HS.out.1.cell 1; have k2 := HS.out.1.cell 2; have k3 := HS.out.1.cell 3; have k4 := HS.out.1.cell 4; have j1 := HS.out.2.1.cell 1; have j2 := HS.out.2.1.cell 2; have j3 := HS.out.2.1.cell 3; have j4 := HS.out.2.1.cell 4)
      | (go_at_call 58; refine (HBY.out _ _ _ HW.out).mono ?_; rintro e V4 ⟨⟨A, c, rfl, hcv⟩, hb⟩; have hcv := hcv _ rfl; have HB4 := Lib.hid (HS.out.2.2.trans (hb.mono HS.out.2.2.size)); clear hb k0 k1 k2 k3 k4 j1 j2 j3 j4))
    go_ret2
    exact ⟨rfl, HB4.out⟩
  case false.true.false.false =>
    go_enter Tryz.func21, Tryz.ntmps21
    go_wp2_with (first
      | (go_at_call 54; refine (HCK.out _ (below_alloc0 _ _ (Nat.le_refl _))).mono ?_; rintro e V1 ⟨rfl, hb⟩; have HV1 := Lib.hid ((Blk.new w 28 (nmC k O n i T)).under hb); have HB1 := Lib.hid ((below_alloc0 w (.cells (nmC k O n i T) 28) (Nat.le_refl _)).trans (hb.mono (by simp))); clear hb; have c0 := HV1.out.cell 0)
      | (show wpList _ _ _ (⟨some 17, _, _, _, _, _⟩ :: _) _ _; refine wpList_load_mid (by rfl) 69 (.tmp 16) (by rfl) 0 (k * 6) (by rfl) (usL U _ _ _ _ m) _ (HU.out _ HB1.out) Tryz.underlying69 rfl infoUse ?_)
      | (show wpList _ _ _ (⟨some 18, _, _, _, _, _⟩ :: _) _ _; refine wpl_gen (fun V => SK w V1.heap.size (nmC k O n i T) (usC U false true false false m) V ∧ V1.heap.size < V.heap.size ∧ w.heap.size < V.heap.size) ⟨sk_new HV1.out HB1.out, by simp, by have := HB1.out.size; simp; omega⟩ ?_; rintro V ⟨hV, hz1, hz2⟩; clear c0; generalize V1.heap.size = G at hV hz1 ⊢; have HV := Lib.hid hV; have HZ1 := Lib.hid hz1; have HZ2 := Lib.hid hz2; clear hV hz1 hz2)
      | (go_at_call 55; refine (HN.out _ V rfl).mono ?_; rintro e V2 ⟨rfl, hw, hb⟩; have hS := HV.out.under hb; have hW := ew_new (w := w) HZ1.out HZ2.out hw; generalize V.heap.size = g at hW ⊢; clear hw hb HZ1 HZ2; have k0 := hS.1.cell 0; have k1 := hS.1.cell 1; have k2 := hS.1.cell 2; have k3 := hS.1.cell 3; have k4 := hS.1.cell 4; have j1 := hS.2.1.cell 1; have j2 := hS.2.1.cell 2; have j3 := hS.2.1.cell 3; have j4 := hS.2.1.cell 4; have HS := Lib.hid hS; have HW := Lib.hid hW; clear hS hW)
      | (go_at_call 56; (with_reducible refine (H0.out _ _ _ _ _ HS.out HW.out).mono ?_); rintro e V3 ⟨rfl, hS, hW⟩; replace HS := Lib.hid hS; replace HW := Lib.hid hW; clear hS hW k0 k1 k2 k3 k4 j1 j2 j3 j4; have k0 := HS.out.1.cell 0; have k1 := HS.out.1.cell 1; have k2 := HS.out.1.cell 2; have k3 := HS.out.1.cell 3; have k4 := HS.out.1.cell 4; have j1 := HS.out.2.1.cell 1; have j2 := HS.out.2.1.cell 2; have j3 := HS.out.2.1.cell 3; have j4 := HS.out.2.1.cell 4)
      | (go_at_call 56; (with_reducible refine (H2.out _ _ _ _ _ HS.out HW.out).mono ?_); rintro e V3 ⟨rfl, hS, hW⟩; replace HS := Lib.hid hS; replace HW := Lib.hid hW; clear hS hW k0 k1 k2 k3 k4 j1 j2 j3 j4; have k0 := HS.out.1.cell 0; have k1 := HS.out.1.cell 1; have k2 := HS.out.1.cell 2; have k3 := HS.out.1.cell 3; have k4 := HS.out.1.cell 4; have j1 := HS.out.2.1.cell 1; have j2 := HS.out.2.1.cell 2; have j3 := HS.out.2.1.cell 3; have j4 := HS.out.2.1.cell 4)
      | (go_at_call 58; refine (HBY.out _ _ _ HW.out).mono ?_; rintro e V4 ⟨⟨A, c, rfl, hcv⟩, hb⟩; have hcv := hcv _ rfl; have HB4 := Lib.hid (HS.out.2.2.trans (hb.mono HS.out.2.2.size)); clear hb k0 k1 k2 k3 k4 j1 j2 j3 j4))
    go_ret2
    exact ⟨rfl, HB4.out⟩
  case false.true.false.true =>
    go_enter Tryz.func21, Tryz.ntmps21
    go_wp2_with (first
      | (go_at_call 54; refine (HCK.out _ (below_alloc0 _ _ (Nat.le_refl _))).mono ?_; rintro e V1 ⟨rfl, hb⟩; have HV1 := Lib.hid ((Blk.new w 28 (nmC k O n i T)).under hb); have HB1 := Lib.hid ((below_alloc0 w (.cells (nmC k O n i T) 28) (Nat.le_refl _)).trans (hb.mono (by simp))); clear hb; have c0 := HV1.out.cell 0)
      | (show wpList _ _ _ (⟨some 17, _, _, _, _, _⟩ :: _) _ _; refine wpList_load_mid (by rfl) 69 (.tmp 16) (by rfl) 0 (k * 6) (by rfl) (usL U _ _ _ _ m) _ (HU.out _ HB1.out) Tryz.underlying69 rfl infoUse ?_)
      | (show wpList _ _ _ (⟨some 18, _, _, _, _, _⟩ :: _) _ _; refine wpl_gen (fun V => SK w V1.heap.size (nmC k O n i T) (usC U false true false true m) V ∧ V1.heap.size < V.heap.size ∧ w.heap.size < V.heap.size) ⟨sk_new HV1.out HB1.out, by simp, by have := HB1.out.size; simp; omega⟩ ?_; rintro V ⟨hV, hz1, hz2⟩; clear c0; generalize V1.heap.size = G at hV hz1 ⊢; have HV := Lib.hid hV; have HZ1 := Lib.hid hz1; have HZ2 := Lib.hid hz2; clear hV hz1 hz2)
      | (go_at_call 55; refine (HN.out _ V rfl).mono ?_; rintro e V2 ⟨rfl, hw, hb⟩; have hS := HV.out.under hb; have hW := ew_new (w := w) HZ1.out HZ2.out hw; generalize V.heap.size = g at hW ⊢; clear hw hb HZ1 HZ2; have k0 := hS.1.cell 0; have k1 := hS.1.cell 1; have k2 := hS.1.cell 2; have k3 := hS.1.cell 3; have k4 := hS.1.cell 4; have j1 := hS.2.1.cell 1; have j2 := hS.2.1.cell 2; have j3 := hS.2.1.cell 3; have j4 := hS.2.1.cell 4; have HS := Lib.hid hS; have HW := Lib.hid hW; clear hS hW)
      | (go_at_call 56; (with_reducible refine (H0.out _ _ _ _ _ HS.out HW.out).mono ?_); rintro e V3 ⟨rfl, hS, hW⟩; replace HS := Lib.hid hS; replace HW := Lib.hid hW; clear hS hW k0 k1 k2 k3 k4 j1 j2 j3 j4; have k0 := HS.out.1.cell 0; have k1 := HS.out.1.cell 1; have k2 := HS.out.1.cell 2; have k3 := HS.out.1.cell 3; have k4 := HS.out.1.cell 4; have j1 := HS.out.2.1.cell 1; have j2 := HS.out.2.1.cell 2; have j3 := HS.out.2.1.cell 3; have j4 := HS.out.2.1.cell 4)
      | (go_at_call 56; (with_reducible refine (H2.out _ _ _ _ _ HS.out HW.out).mono ?_); rintro e V3 ⟨rfl, hS, hW⟩; replace HS := Lib.hid hS; replace HW := Lib.hid hW; clear hS hW k0 k1 k2 k3 k4 j1 j2 j3 j4; have k0 := HS.out.1.cell 0; have k1 := HS.out.1.cell 1; have k2 := HS.out.1.cell 2; have k3 := HS.out.1.cell 3; have k4 := HS.out.1.cell 4; have j1 := HS.out.2.1.cell 1; have j2 := HS.out.2.1.cell 2; have j3 := HS.out.2.1.cell 3; have j4 := HS.out.2.1.cell 4)
      | (go_at_call 57; (with_reducible refine (H4.out _ _ _ _ _ HS.out HW.out).mono ?_); rintro e V3 ⟨rfl, hS, hW⟩; replace HS := Lib.hid hS; replace HW := Lib.hid hW; clear hS hW k0 k1 k2 k3 k4 j1 j2 j3 j4; have k0 := HS.out.1.cell 0; have k1 := HS.out.1.cell 1; have k2 := HS.out.1.cell 2; have k3 := HS.out.1.cell 3; have k4 := HS.out.1.cell 4; have j1 := HS.out.2.1.cell 1; have j2 := HS.out.2.1.cell 2; have j3 := HS.out.2.1.cell 3; have j4 := HS.out.2.1.cell 4)
      | (go_at_call 58; refine (HBY.out _ _ _ HW.out).mono ?_; rintro e V4 ⟨⟨A, c, rfl, hcv⟩, hb⟩; have hcv := hcv _ rfl; have HB4 := Lib.hid (HS.out.2.2.trans (hb.mono HS.out.2.2.size)); clear hb k0 k1 k2 k3 k4 j1 j2 j3 j4))
    go_ret2
    exact ⟨rfl, HB4.out⟩
  case false.true.true.false =>
    go_enter Tryz.func21, Tryz.ntmps21
    go_wp2_with (first
      | (go_at_call 54; refine (HCK.out _ (below_alloc0 _ _ (Nat.le_refl _))).mono ?_; rintro e V1 ⟨rfl, hb⟩; have HV1 := Lib.hid ((Blk.new w 28 (nmC k O n i T)).under hb); have HB1 := Lib.hid ((below_alloc0 w (.cells (nmC k O n i T) 28) (Nat.le_refl _)).trans (hb.mono (by simp))); clear hb; have c0 := HV1.out.cell 0)
      | (show wpList _ _ _ (⟨some 17, _, _, _, _, _⟩ :: _) _ _; refine wpList_load_mid (by rfl) 69 (.tmp 16) (by rfl) 0 (k * 6) (by rfl) (usL U _ _ _ _ m) _ (HU.out _ HB1.out) Tryz.underlying69 rfl infoUse ?_)
      | (show wpList _ _ _ (⟨some 18, _, _, _, _, _⟩ :: _) _ _; refine wpl_gen (fun V => SK w V1.heap.size (nmC k O n i T) (usC U false true true false m) V ∧ V1.heap.size < V.heap.size ∧ w.heap.size < V.heap.size) ⟨sk_new HV1.out HB1.out, by simp, by have := HB1.out.size; simp; omega⟩ ?_; rintro V ⟨hV, hz1, hz2⟩; clear c0; generalize V1.heap.size = G at hV hz1 ⊢; have HV := Lib.hid hV; have HZ1 := Lib.hid hz1; have HZ2 := Lib.hid hz2; clear hV hz1 hz2)
      | (go_at_call 55; refine (HN.out _ V rfl).mono ?_; rintro e V2 ⟨rfl, hw, hb⟩; have hS := HV.out.under hb; have hW := ew_new (w := w) HZ1.out HZ2.out hw; generalize V.heap.size = g at hW ⊢; clear hw hb HZ1 HZ2; have k0 := hS.1.cell 0; have k1 := hS.1.cell 1; have k2 := hS.1.cell 2; have k3 := hS.1.cell 3; have k4 := hS.1.cell 4; have j1 := hS.2.1.cell 1; have j2 := hS.2.1.cell 2; have j3 := hS.2.1.cell 3; have j4 := hS.2.1.cell 4; have HS := Lib.hid hS; have HW := Lib.hid hW; clear hS hW)
      | (go_at_call 56; (with_reducible refine (H0.out _ _ _ _ _ HS.out HW.out).mono ?_); rintro e V3 ⟨rfl, hS, hW⟩; replace HS := Lib.hid hS; replace HW := Lib.hid hW; clear hS hW k0 k1 k2 k3 k4 j1 j2 j3 j4; have k0 := HS.out.1.cell 0; have k1 := HS.out.1.cell 1; have k2 := HS.out.1.cell 2; have k3 := HS.out.1.cell 3; have k4 := HS.out.1.cell 4; have j1 := HS.out.2.1.cell 1; have j2 := HS.out.2.1.cell 2; have j3 := HS.out.2.1.cell 3; have j4 := HS.out.2.1.cell 4)
      | (go_at_call 56; (with_reducible refine (H2.out _ _ _ _ _ HS.out HW.out).mono ?_); rintro e V3 ⟨rfl, hS, hW⟩; replace HS := Lib.hid hS; replace HW := Lib.hid hW; clear hS hW k0 k1 k2 k3 k4 j1 j2 j3 j4; have k0 := HS.out.1.cell 0; have k1 := HS.out.1.cell 1; have k2 := HS.out.1.cell 2; have k3 := HS.out.1.cell 3; have k4 := HS.out.1.cell 4; have j1 := HS.out.2.1.cell 1; have j2 := HS.out.2.1.cell 2; have j3 := HS.out.2.1.cell 3; have j4 := HS.out.2.1.cell 4)
      | (go_at_call 56; (with_reducible refine (H3.out _ _ _ _ _ HS.out HW.out).mono ?_); rintro e V3 ⟨rfl, hS, hW⟩; replace HS := Lib.hid hS; replace HW := Lib.hid hW; clear hS hW k0 k1 k2 k3 k4 j1 j2 j3 j4; have k0 := HS.out.1.cell 0; have k1 := HS.out.1.cell 1; have k2 := HS.out.1.cell 2; have k3 := HS.out.1.cell 3; have k4 := HS.out.1.cell 4; have j1 := HS.out.2.1.cell 1; have j2 := HS.out.2.1.cell 2; have j3 := HS.out.2.1.cell 3; have j4 := HS.out.2.1.cell 4)
      | (go_at_call 58; refine (HBY.out _ _ _ HW.out).mono ?_; rintro e V4 ⟨⟨A, c, rfl, hcv⟩, hb⟩; have hcv := hcv _ rfl; have HB4 := Lib.hid (HS.out.2.2.trans (hb.mono HS.out.2.2.size)); clear hb k0 k1 k2 k3 k4 j1 j2 j3 j4))
    go_ret2
    exact ⟨rfl, HB4.out⟩
  case false.true.true.true =>
    go_enter Tryz.func21, Tryz.ntmps21
    go_wp2_with (first
      | (go_at_call 54; refine (HCK.out _ (below_alloc0 _ _ (Nat.le_refl _))).mono ?_; rintro e V1 ⟨rfl, hb⟩; have HV1 := Lib.hid ((Blk.new w 28 (nmC k O n i T)).under hb); have HB1 := Lib.hid ((below_alloc0 w (.cells (nmC k O n i T) 28) (Nat.le_refl _)).trans (hb.mono (by simp))); clear hb; have c0 := HV1.out.cell 0)
      | (show wpList _ _ _ (⟨some 17, _, _, _, _, _⟩ :: _) _ _; refine wpList_load_mid (by rfl) 69 (.tmp 16) (by rfl) 0 (k * 6) (by rfl) (usL U _ _ _ _ m) _ (HU.out _ HB1.out) Tryz.underlying69 rfl infoUse ?_)
      | (show wpList _ _ _ (⟨some 18, _, _, _, _, _⟩ :: _) _ _; refine wpl_gen (fun V => SK w V1.heap.size (nmC k O n i T) (usC U false true true true m) V ∧ V1.heap.size < V.heap.size ∧ w.heap.size < V.heap.size) ⟨sk_new HV1.out HB1.out, by simp, by have := HB1.out.size; simp; omega⟩ ?_; rintro V ⟨hV, hz1, hz2⟩; clear c0; generalize V1.heap.size = G at hV hz1 ⊢; have HV := Lib.hid hV; have HZ1 := Lib.hid hz1; have HZ2 := Lib.hid hz2; clear hV hz1 hz2)
      | (go_at_call 55; refine (HN.out _ V rfl).mono ?_; rintro e V2 ⟨rfl, hw, hb⟩; have hS := HV.out.under hb; have hW := ew_new (w := w) HZ1.out HZ2.out hw; generalize V.heap.size = g at hW ⊢; clear hw hb HZ1 HZ2; have k0 := hS.1.cell 0; have k1 := hS.1.cell 1; have k2 := hS.1.cell 2; have k3 := hS.1.cell 3; have k4 := hS.1.cell 4; have j1 := hS.2.1.cell 1; have j2 := hS.2.1.cell 2; have j3 := hS.2.1.cell 3; have j4 := hS.2.1.cell 4; have HS := Lib.hid hS; have HW := Lib.hid hW; clear hS hW)
      | (go_at_call 56; (with_reducible refine (H0.out _ _ _ _ _ HS.out HW.out).mono ?_); rintro e V3 ⟨rfl, hS, hW⟩; replace HS := Lib.hid hS; replace HW := Lib.hid hW; clear hS hW k0 k1 k2 k3 k4 j1 j2 j3 j4; have k0 := HS.out.1.cell 0; have k1 := HS.out.1.cell 1; have k2 := HS.out.1.cell 2; have k3 := HS.out.1.cell 3; have k4 := HS.out.1.cell 4; have j1 := HS.out.2.1.cell 1; have j2 := HS.out.2.1.cell 2; have j3 := HS.out.2.1.cell 3; have j4 := HS.out.2.1.cell 4)
      | (go_at_call 56; (with_reducible refine (H2.out _ _ _ _ _ HS.out HW.out).mono ?_); rintro e V3 ⟨rfl, hS, hW⟩; replace HS := Lib.hid hS; replace HW := Lib.hid hW; clear hS hW k0 k1 k2 k3 k4 j1 j2 j3 j4; have k0 := HS.out.1.cell 0; have k1 := HS.out.1.cell 1; have k2 := HS.out.1.cell 2; have k3 := HS.out.1.cell 3; have k4 := HS.out.1.cell 4; have j1 := HS.out.2.1.cell 1; have j2 := HS.out.2.1.cell 2; have j3 := HS.out.2.1.cell 3; have j4 := HS.out.2.1.cell 4)
      | (go_at_call 56; (with_reducible refine (H3.out _ _ _ _ _ HS.out HW.out).mono ?_); rintro e V3 ⟨rfl, hS, hW⟩; replace HS := Lib.hid hS; replace HW := Lib.hid hW; clear hS hW k0 k1 k2 k3 k4 j1 j2 j3 j4; have k0 := HS.out.1.cell 0; have k1 := HS.out.1.cell 1; have k2 := HS.out.1.cell 2; have k3 := HS.out.1.cell 3; have k4 := HS.out.1.cell 4; have j1 := HS.out.2.1.cell 1; have j2 := HS.out.2.1.cell 2; have j3 := HS.out.2.1.cell 3; have j4 := HS.out.2.1.cell 4)
      | (go_at_call 57; (with_reducible refine (H4.out _ _ _ _ _ HS.out HW.out).mono ?_); rintro e V3 ⟨rfl, hS, hW⟩; replace HS := Lib.hid hS; replace HW := Lib.hid hW; clear hS hW k0 k1 k2 k3 k4 j1 j2 j3 j4; have k0 := HS.out.1.cell 0; have k1 := HS.out.1.cell 1; have k2 := HS.out.1.cell 2; have k3 := HS.out.1.cell 3; have k4 := HS.out.1.cell 4; have j1 := HS.out.2.1.cell 1; have j2 := HS.out.2.1.cell 2; have j3 := HS.out.2.1.cell 3; have j4 := HS.out.2.1.cell 4)
      | (go_at_call 58; refine (HBY.out _ _ _ HW.out).mono ?_; rintro e V4 ⟨⟨A, c, rfl, hcv⟩, hb⟩; have hcv := hcv _ rfl; have HB4 := Lib.hid (HS.out.2.2.trans (hb.mono HS.out.2.2.size)); clear hb k0 k1 k2 k3 k4 j1 j2 j3 j4))
    go_ret2
    exact ⟨rfl, HB4.out⟩
  case true.false.false.false =>
    go_enter Tryz.func21, Tryz.ntmps21
    go_wp2_with (first
      | (go_at_call 54; refine (HCK.out _ (below_alloc0 _ _ (Nat.le_refl _))).mono ?_; rintro e V1 ⟨rfl, hb⟩; have HV1 := Lib.hid ((Blk.new w 28 (nmC k O n i T)).under hb); have HB1 := Lib.hid ((below_alloc0 w (.cells (nmC k O n i T) 28) (Nat.le_refl _)).trans (hb.mono (by simp))); clear hb; have c0 := HV1.out.cell 0)
      | (show wpList _ _ _ (⟨some 17, _, _, _, _, _⟩ :: _) _ _; refine wpList_load_mid (by rfl) 69 (.tmp 16) (by rfl) 0 (k * 6) (by rfl) (usL U _ _ _ _ m) _ (HU.out _ HB1.out) Tryz.underlying69 rfl infoUse ?_)
      | (show wpList _ _ _ (⟨some 18, _, _, _, _, _⟩ :: _) _ _; refine wpl_gen (fun V => SK w V1.heap.size (nmC k O n i T) (usC U true false false false m) V ∧ V1.heap.size < V.heap.size ∧ w.heap.size < V.heap.size) ⟨sk_new HV1.out HB1.out, by simp, by have := HB1.out.size; simp; omega⟩ ?_; rintro V ⟨hV, hz1, hz2⟩; clear c0; generalize V1.heap.size = G at hV hz1 ⊢; have HV := Lib.hid hV; have HZ1 := Lib.hid hz1; have HZ2 := Lib.hid hz2; clear hV hz1 hz2)
      | (go_at_call 55; refine (HN.out _ V rfl).mono ?_; rintro e V2 ⟨rfl, hw, hb⟩; have hS := HV.out.under hb; have hW := ew_new (w := w) HZ1.out HZ2.out hw; generalize V.heap.size = g at hW ⊢; clear hw hb HZ1 HZ2; have k0 := hS.1.cell 0; have k1 := hS.1.cell 1; have k2 := hS.1.cell 2; have k3 := hS.1.cell 3; have k4 := hS.1.cell 4; have j1 := hS.2.1.cell 1; have j2 := hS.2.1.cell 2; have j3 := hS.2.1.cell 3; have j4 := hS.2.1.cell 4; have HS := Lib.hid hS; have HW := Lib.hid hW; clear hS hW)
      | (go_at_call 56; (with_reducible refine (H0.out _ _ _ _ _ HS.out HW.out).mono ?_); rintro e V3 ⟨rfl, hS, hW⟩; replace HS := Lib.hid hS; replace HW := Lib.hid hW; clear hS hW k0 k1 k2 k3 k4 j1 j2 j3 j4; have k0 := HS.out.1.cell 0; have k1 := HS.out.1.cell 1; have k2 := HS.out.1.cell 2; have k3 := HS.out.1.cell 3; have k4 := HS.out.1.cell 4; have j1 := HS.out.2.1.cell 1; have j2 := HS.out.2.1.cell 2; have j3 := HS.out.2.1.cell 3; have j4 := HS.out.2.1.cell 4)
      | (go_at_call 57; (with_reducible refine (H1.out _ _ _ _ _ HS.out HW.out).mono ?_); rintro e V3 ⟨rfl, hS, hW⟩; replace HS := Lib.hid hS; replace HW := Lib.hid hW; clear hS hW k0 k1 k2 k3 k4 j1 j2 j3 j4; have k0 := HS.out.1.cell 0; have k1 := HS.out.1.cell 1; have k2 := HS.out.1.cell 2; have k3 := HS.out.1.cell 3; have k4 := HS.out.1.cell 4; have j1 := HS.out.2.1.cell 1; have j2 := HS.out.2.1.cell 2; have j3 := HS.out.2.1.cell 3; have j4 := HS.out.2.1.cell 4)
      | (go_at_call 58; refine (HBY.out _ _ _ HW.out).mono ?_; rintro e V4 ⟨⟨A, c, rfl, hcv⟩, hb⟩; have hcv := hcv _ rfl; have HB4 := Lib.hid (HS.out.2.2.trans (hb.mono HS.out.2.2.size)); clear hb k0 k1 k2 k3 k4 j1 j2 j3 j4))
    go_ret2
    exact ⟨rfl, HB4.out⟩
  case true.false.false.true =>
    go_enter Tryz.func21, Tryz.ntmps21
    go_wp2_with (first
      | (go_at_call 54; refine (HCK.out _ (below_alloc0 _ _ (Nat.le_refl _))).mono ?_; rintro e V1 ⟨rfl, hb⟩; have HV1 := Lib.hid ((Blk.new w 28 (nmC k O n i T)).under hb); have HB1 := Lib.hid ((below_alloc0 w (.cells (nmC k O n i T) 28) (Nat.le_refl _)).trans (hb.mono (by simp))); clear hb; have c0 := HV1.out.cell 0)
      | (show wpList _ _ _ (⟨some 17, _, _, _, _, _⟩ :: _) _ _; refine wpList_load_mid (by rfl) 69 (.tmp 16) (by rfl) 0 (k * 6) (by rfl) (usL U _ _ _ _ m) _ (HU.out _ HB1.out) Tryz.underlying69 rfl infoUse ?_)
      | (show wpList _ _ _ (⟨some 18, _, _, _, _, _⟩ :: _) _ _; refine wpl_gen (fun V => SK w V1.heap.size (nmC k O n i T) (usC U true false false true m) V ∧ V1.heap.size < V.heap.size ∧ w.heap.size < V.heap.size) ⟨sk_new HV1.out HB1.out, by simp, by have := HB1.out.size; simp; omega⟩ ?_; rintro V ⟨hV, hz1, hz2⟩; clear c0; generalize V1.heap.size = G at hV hz1 ⊢; have HV := Lib.hid hV; have HZ1 := Lib.hid hz1; have HZ2 := Lib.hid hz2; clear hV hz1 hz2)
      | (go_at_call 55; refine (HN.out _ V rfl).mono ?_; rintro e V2 ⟨rfl, hw, hb⟩; have hS := HV.out.under hb; have hW := ew_new (w := w) HZ1.out HZ2.out hw; generalize V.heap.size = g at hW ⊢; clear hw hb HZ1 HZ2; have k0 := hS.1.cell 0; have k1 := hS.1.cell 1; have k2 := hS.1.cell 2; have k3 := hS.1.cell 3; have k4 := hS.1.cell 4; have j1 := hS.2.1.cell 1; have j2 := hS.2.1.cell 2; have j3 := hS.2.1.cell 3; have j4 := hS.2.1.cell 4; have HS := Lib.hid hS; have HW := Lib.hid hW; clear hS hW)
      | (go_at_call 56; (with_reducible refine (H0.out _ _ _ _ _ HS.out HW.out).mono ?_); rintro e V3 ⟨rfl, hS, hW⟩; replace HS := Lib.hid hS; replace HW := Lib.hid hW; clear hS hW k0 k1 k2 k3 k4 j1 j2 j3 j4; have k0 := HS.out.1.cell 0; have k1 := HS.out.1.cell 1; have k2 := HS.out.1.cell 2; have k3 := HS.out.1.cell 3; have k4 := HS.out.1.cell 4; have j1 := HS.out.2.1.cell 1; have j2 := HS.out.2.1.cell 2; have j3 := HS.out.2.1.cell 3; have j4 := HS.out.2.1.cell 4)
      | (go_at_call 57; (with_reducible refine (H1.out _ _ _ _ _ HS.out HW.out).mono ?_); rintro e V3 ⟨rfl, hS, hW⟩; replace HS := Lib.hid hS; replace HW := Lib.hid hW; clear hS hW k0 k1 k2 k3 k4 j1 j2 j3 j4; have k0 := HS.out.1.cell 0; have k1 := HS.out.1.cell 1; have k2 := HS.out.1.cell 2; have k3 := HS.out.1.cell 3; have k4 := HS.out.1.cell 4; have j1 := HS.out.2.1.cell 1; have j2 := HS.out.2.1.cell 2; have j3 := HS.out.2.1.cell 3; have j4 := HS.out.2.1.cell 4)
      | (go_at_call 57; (with_reducible refine (H4.out _ _ _ _ _ HS.out HW.out).mono ?_); rintro e V3 ⟨rfl, hS, hW⟩; replace HS := Lib.hid hS; replace HW := Lib.hid hW; clear hS hW k0 k1 k2 k3 k4 j1 j2 j3 j4; have k0 := HS.out.1.cell 0; have k1 := HS.out.1.cell 1; have k2 := HS.out.1.cell 2; have k3 := HS.out.1.cell 3; have k4 := HS.out.1.cell 4; have j1 := HS.out.2.1.cell 1; have j2 := HS.out.2.1.cell 2; have j3 := HS.out.2.1.cell 3; have j4 := HS.out.2.1.cell 4)
      | (go_at_call 58; refine (HBY.out _ _ _ HW.out).mono ?_; rintro e V4 ⟨⟨A, c, rfl, hcv⟩, hb⟩; have hcv := hcv _ rfl; have HB4 := Lib.hid (HS.out.2.2.trans (hb.mono HS.out.2.2.size)); clear hb k0 k1 k2 k3 k4 j1 j2 j3 j4))
    go_ret2
    exact ⟨rfl, HB4.out⟩
  case true.false.true.false =>
    go_enter Tryz.func21, Tryz.ntmps21
    go_wp2_with (first
      | (go_at_call 54; refine (HCK.out _ (below_alloc0 _ _ (Nat.le_refl _))).mono ?_; rintro e V1 ⟨rfl, hb⟩; have HV1 := Lib.hid ((Blk.new w 28 (nmC k O n i T)).under hb); have HB1 := Lib.hid ((below_alloc0 w (.cells (nmC k O n i T) 28) (Nat.le_refl _)).trans (hb.mono (by simp))); clear hb; have c0 := HV1.out.cell 0)
      | (show wpList _ _ _ (⟨some 17, _, _, _, _, _⟩ :: _) _ _; refine wpList_load_mid (by rfl) 69 (.tmp 16) (by rfl) 0 (k * 6) (by rfl) (usL U _ _ _ _ m) _ (HU.out _ HB1.out) Tryz.underlying69 rfl infoUse ?_)
      | (show wpList _ _ _ (⟨some 18, _, _, _, _, _⟩ :: _) _ _; refine wpl_gen (fun V => SK w V1.heap.size (nmC k O n i T) (usC U true false true false m) V ∧ V1.heap.size < V.heap.size ∧ w.heap.size < V.heap.size) ⟨sk_new HV1.out HB1.out, by simp, by have := HB1.out.size; simp; omega⟩ ?_; rintro V ⟨hV, hz1, hz2⟩; clear c0; generalize V1.heap.size = G at hV hz1 ⊢; have HV := Lib.hid hV; have HZ1 := Lib.hid hz1; have HZ2 := Lib.hid hz2; clear hV hz1 hz2)
      | (go_at_call 55; refine (HN.out _ V rfl).mono ?_; rintro e V2 ⟨rfl, hw, hb⟩; have hS := HV.out.under hb; have hW := ew_new (w := w) HZ1.out HZ2.out hw; generalize V.heap.size = g at hW ⊢; clear hw hb HZ1 HZ2; have k0 := hS.1.cell 0; have k1 := hS.1.cell 1; have k2 := hS.1.cell 2; have k3 := hS.1.cell 3; have k4 := hS.1.cell 4; have j1 := hS.2.1.cell 1; have j2 := hS.2.1.cell 2; have j3 := hS.2.1.cell 3; have j4 := hS.2.1.cell 4; have HS := Lib.hid hS; have HW := Lib.hid hW; clear hS hW)
      | (go_at_call 56; (with_reducible refine (H0.out _ _ _ _ _ HS.out HW.out).mono ?_); rintro e V3 ⟨rfl, hS, hW⟩; replace HS := Lib.hid hS; replace HW := Lib.hid hW; clear hS hW k0 k1 k2 k3 k4 j1 j2 j3 j4; have k0 := HS.out.1.cell 0; have k1 := HS.out.1.cell 1; have k2 := HS.out.1.cell 2; have k3 := HS.out.1.cell 3; have k4 := HS.out.1.cell 4; have j1 := HS.out.2.1.cell 1; have j2 := HS.out.2.1.cell 2; have j3 := HS.out.2.1.cell 3; have j4 := HS.out.2.1.cell 4)
      | (go_at_call 57; (with_reducible refine (H1.out _ _ _ _ _ HS.out HW.out).mono ?_); rintro e V3 ⟨rfl, hS, hW⟩; replace HS := Lib.hid hS; replace HW := Lib.hid hW; clear hS hW k0 k1 k2 k3 k4 j1 j2 j3 j4; have k0 := HS.out.1.cell 0; have k1 := HS.out.1.cell 1; have k2 := HS.out.1.cell 2; have k3 := HS.out.1.cell 3; have k4 := HS.out.1.cell 4; have j1 := HS.out.2.1.cell 1; have j2 := HS.out.2.1.cell 2; have j3 := HS.out.2.1.cell 3; have j4 := HS.out.2.1.cell 4)
      | (go_at_call 56; (with_reducible refine (H3.out _ _ _ _ _ HS.out HW.out).mono ?_); rintro e V3 ⟨rfl, hS, hW⟩; replace HS := Lib.hid hS; replace HW := Lib.hid hW; clear hS hW k0 k1 k2 k3 k4 j1 j2 j3 j4; have k0 := HS.out.1.cell 0; have k1 := HS.out.1.cell 1; have k2 := HS.out.1.cell 2; have k3 := HS.out.1.cell 3; have k4 := HS.out.1.cell 4; have j1 := HS.out.2.1.cell 1; have j2 := HS.out.2.1.cell 2; have j3 := HS.out.2.1.cell 3; have j4 := HS.out.2.1.cell 4)
      | (go_at_call 58; refine (HBY.out _ _ _ HW.out).mono ?_; rintro e V4 ⟨⟨A, c, rfl, hcv⟩, hb⟩; have hcv := hcv _ rfl; have HB4 := Lib.hid (HS.out.2.2.trans (hb.mono HS.out.2.2.size)); clear hb k0 k1 k2 k3 k4 j1 j2 j3 j4))
    go_ret2
    exact ⟨rfl, HB4.out⟩
  case true.false.true.true =>
    go_enter Tryz.func21, Tryz.ntmps21
    go_wp2_with (first
      | (go_at_call 54; refine (HCK.out _ (below_alloc0 _ _ (Nat.le_refl _))).mono ?_; rintro e V1 ⟨rfl, hb⟩; have HV1 := Lib.hid ((Blk.new w 28 (nmC k O n i T)).under hb); have HB1 := Lib.hid ((below_alloc0 w (.cells (nmC k O n i T) 28) (Nat.le_refl _)).trans (hb.mono (by simp))); clear hb; have c0 := HV1.out.cell 0)
      | (show wpList _ _ _ (⟨some 17, _, _, _, _, _⟩ :: _) _ _; refine wpList_load_mid (by rfl) 69 (.tmp 16) (by rfl) 0 (k * 6) (by rfl) (usL U _ _ _ _ m) _ (HU.out _ HB1.out) Tryz.underlying69 rfl infoUse ?_)
      | (show wpList _ _ _ (⟨some 18, _, _, _, _, _⟩ :: _) _ _; refine wpl_gen (fun V => SK w V1.heap.size (nmC k O n i T) (usC U true false true true m) V ∧ V1.heap.size < V.heap.size ∧ w.heap.size < V.heap.size) ⟨sk_new HV1.out HB1.out, by simp, by have := HB1.out.size; simp; omega⟩ ?_; rintro V ⟨hV, hz1, hz2⟩; clear c0; generalize V1.heap.size = G at hV hz1 ⊢; have HV := Lib.hid hV; have HZ1 := Lib.hid hz1; have HZ2 := Lib.hid hz2; clear hV hz1 hz2)
      | (go_at_call 55; refine (HN.out _ V rfl).mono ?_; rintro e V2 ⟨rfl, hw, hb⟩; have hS := HV.out.under hb; have hW := ew_new (w := w) HZ1.out HZ2.out hw; generalize V.heap.size = g at hW ⊢; clear hw hb HZ1 HZ2; have k0 := hS.1.cell 0; have k1 := hS.1.cell 1; have k2 := hS.1.cell 2; have k3 := hS.1.cell 3; have k4 := hS.1.cell 4; have j1 := hS.2.1.cell 1; have j2 := hS.2.1.cell 2; have j3 := hS.2.1.cell 3; have j4 := hS.2.1.cell 4; have HS := Lib.hid hS; have HW := Lib.hid hW; clear hS hW)
      | (go_at_call 56; (with_reducible refine (H0.out _ _ _ _ _ HS.out HW.out).mono ?_); rintro e V3 ⟨rfl, hS, hW⟩; replace HS := Lib.hid hS; replace HW := Lib.hid hW; clear hS hW k0 k1 k2 k3 k4 j1 j2 j3 j4; have k0 := HS.out.1.cell 0; have k1 := HS.out.1.cell 1; have k2 := HS.out.1.cell 2; have k3 := HS.out.1.cell 3; have k4 := HS.out.1.cell 4; have j1 := HS.out.2.1.cell 1; have j2 := HS.out.2.1.cell 2; have j3 := HS.out.2.1.cell 3; have j4 := HS.out.2.1.cell 4)
      | (go_at_call 57; (with_reducible refine (H1.out _ _ _ _ _ HS.out HW.out).mono ?_); rintro e V3 ⟨rfl, hS, hW⟩; replace HS := Lib.hid hS; replace HW := Lib.hid hW; clear hS hW k0 k1 k2 k3 k4 j1 j2 j3 j4; have k0 := HS.out.1.cell 0; have k1 := HS.out.1.cell 1; have k2 := HS.out.1.cell 2; have k3 := HS.out.1.cell 3; have k4 := HS.out.1.cell 4; have j1 := HS.out.2.1.cell 1; have j2 := HS.out.2.1.cell 2; have j3 := HS.out.2.1.cell 3; have j4 := HS.out.2.1.cell 4)
      | (go_at_call 56; (with_reducible refine (H3.out _ _ _ _ _ HS.out HW.out).mono ?_); rintro e V3 ⟨rfl, hS, hW⟩; replace HS := Lib.hid hS; replace HW := Lib.hid hW; clear hS hW k0 k1 k2 k3 k4 j1 j2 j3 j4; have k0 := HS.out.1.cell 0; have k1 := HS.out.1.cell 1; have k2 := HS.out.1.cell 2; have k3 := HS.out.1.cell 3; have k4 := HS.out.1.cell 4; have j1 := HS.out.2.1.cell 1; have j2 := HS.out.2.1.cell 2; have j3 := HS.out.2.1.cell 3; have j4 := HS.out.2.1.cell 4)
      | (go_at_call 57; (with_reducible refine (H4.out _ _ _ _ _ HS.out HW.out).mono ?_); rintro e V3 ⟨rfl, hS, hW⟩; replace HS := Lib.hid hS; replace HW := Lib.hid hW; clear hS hW k0 k1 k2 k3 k4 j1 j2 j3 j4; have k0 := HS.out.1.cell 0; have k1 := HS.out.1.cell 1; have k2 := HS.out.1.cell 2; have k3 := HS.out.1.cell 3; have k4 := HS.out.1.cell 4; have j1 := HS.out.2.1.cell 1; have j2 := HS.out.2.1.cell 2; have j3 := HS.out.2.1.cell 3; have j4 := HS.out.2.1.cell 4)
      | (go_at_call 58; refine (HBY.out _ _ _ HW.out).mono ?_; rintro e V4 ⟨⟨A, c, rfl, hcv⟩, hb⟩; have hcv := hcv _ rfl; have HB4 := Lib.hid (HS.out.2.2.trans (hb.mono HS.out.2.2.size)); clear hb k0 k1 k2 k3 k4 j1 j2 j3 j4))
    go_ret2
    exact ⟨rfl, HB4.out⟩
  case true.true.false.false =>
    go_enter Tryz.func21, Tryz.ntmps21
    go_wp2_with (first
      | (go_at_call 54; refine (HCK.out _ (below_alloc0 _ _ (Nat.le_refl _))).mono ?_; rintro e V1 ⟨rfl, hb⟩; have HV1 := Lib.hid ((Blk.new w 28 (nmC k O n i T)).under hb); have HB1 := Lib.hid ((below_alloc0 w (.cells (nmC k O n i T) 28) (Nat.le_refl _)).trans (hb.mono (by simp))); clear hb; have c0 := HV1.out.cell 0)
      | (show wpList _ _ _ (⟨some 17, _, _, _, _, _⟩ :: _) _ _; refine wpList_load_mid (by rfl) 69 (.tmp 16) (by rfl) 0 (k * 6) (by rfl) (usL U _ _ _ _ m) _ (HU.out _ HB1.out) Tryz.underlying69 rfl infoUse ?_)
      | (show wpList _ _ _ (⟨some 18, _, _, _, _, _⟩ :: _) _ _; refine wpl_gen (fun V => SK w V1.heap.size (nmC k O n i T) (usC U true true false false m) V ∧ V1.heap.size < V.heap.size ∧ w.heap.size < V.heap.size) ⟨sk_new HV1.out HB1.out, by simp, by have := HB1.out.size; simp; omega⟩ ?_; rintro V ⟨hV, hz1, hz2⟩; clear c0; generalize V1.heap.size = G at hV hz1 ⊢; have HV := Lib.hid hV; have HZ1 := Lib.hid hz1; have HZ2 := Lib.hid hz2; clear hV hz1 hz2)
      | (go_at_call 55; refine (HN.out _ V rfl).mono ?_; rintro e V2 ⟨rfl, hw, hb⟩; have hS := HV.out.under hb; have hW := ew_new (w := w) HZ1.out HZ2.out hw; generalize V.heap.size = g at hW ⊢; clear hw hb HZ1 HZ2; have k0 := hS.1.cell 0; have k1 := hS.1.cell 1; have k2 := hS.1.cell 2; have k3 := hS.1.cell 3; have k4 := hS.1.cell 4; have j1 := hS.2.1.cell 1; have j2 := hS.2.1.cell 2; have j3 := hS.2.1.cell 3; have j4 := hS.2.1.cell 4; have HS := Lib.hid hS; have HW := Lib.hid hW; clear hS hW)
      | (go_at_call 56; (with_reducible refine (H0.out _ _ _ _ _ HS.out HW.out).mono ?_); rintro e V3 ⟨rfl, hS, hW⟩; replace HS := Lib.hid hS; replace HW := Lib.hid hW; clear hS hW k0 k1 k2 k3 k4 j1 j2 j3 j4; have k0 := HS.out.1.cell 0; have k1 := HS.out.1.cell 1; have k2 := HS.out.1.cell 2; have k3 := HS.out.1.cell 3; have k4 := HS.out.1.cell 4; have j1 := HS.out.2.1.cell 1; have j2 := HS.out.2.1.cell 2; have j3 := HS.out.2.1.cell 3; have j4 := HS.out.2.1.cell 4)
      | (go_at_call 57; (with_reducible refine (H1.out _ _ _ _ _ HS.out HW.out).mono ?_); rintro e V3 ⟨rfl, hS, hW⟩; replace HS := Lib.hid hS; replace HW := Lib.hid hW; clear hS hW k0 k1 k2 k3 k4 j1 j2 j3 j4; have k0 := HS.out.1.cell 0; have k1 := HS.out.1.cell 1; have k2 := HS.out.1.cell 2; have k3 := HS.out.1.cell 3; have k4 := HS.out.1.cell 4; have j1 := HS.out.2.1.cell 1; have j2 := HS.out.2.1.cell 2; have j3 := HS.out.2.1.cell 3; have j4 := HS.out.2.1.cell 4)
      | (go_at_call 56; (with_reducible refine (H2.out _ _ _ _ _ HS.out HW.out).mono ?_); rintro e V3 ⟨rfl, hS, hW⟩; replace HS := Lib.hid hS; replace HW := Lib.hid hW; clear hS hW k0 k1 k2 k3 k4 j1 j2 j3 j4; have k0 := HS.out.1.cell 0; have k1 := HS.out.1.cell 1; have k2 := HS.out.1.cell 2; have k3 := HS.out.1.cell 3; have k4 := HS.out.1.cell 4; have j1 := HS.out.2.1.cell 1; have j2 := HS.out.2.1.cell 2; have j3 := HS.out.2.1.cell 3; have j4 := HS.out.2.1.cell 4)
      | (go_at_call 58; refine (HBY.out _ _ _ HW.out).mono ?_; rintro e V4 ⟨⟨A, c, rfl, hcv⟩, hb⟩; have hcv := hcv _ rfl; have HB4 := Lib.hid (HS.out.2.2.trans (hb.mono HS.out.2.2.size)); clear hb k0 k1 k2 k3 k4 j1 j2 j3 j4))
    go_ret2
    exact ⟨rfl, HB4.out⟩
  case true.true.false.true =>
    go_enter Tryz.func21, Tryz.ntmps21
    go_wp2_with (first
      | (go_at_call 54; refine (HCK.out _ (below_alloc0 _ _ (Nat.le_refl _))).mono ?_; rintro e V1 ⟨rfl, hb⟩; have HV1 := Lib.hid ((Blk.new w 28 (nmC k O n i T)).under hb); have HB1 := Lib.hid ((below_alloc0 w (.cells (nmC k O n i T) 28) (Nat.le_refl _)).trans (hb.mono (by simp))); clear hb; have c0 := HV1.out.cell 0)
      | (show wpList _ _ _ (⟨some 17, _, _, _, _, _⟩ :: _) _ _; refine wpList_load_mid (by rfl) 69 (.tmp 16) (by rfl) 0 (k * 6) (by rfl) (usL U _ _ _ _ m) _ (HU.out _ HB1.out) Tryz.underlying69 rfl infoUse ?_)
      | (show wpList _ _ _ (⟨some 18, _, _, _, _, _⟩ :: _) _ _; refine wpl_gen (fun V => SK w V1.heap.size (nmC k O n i T) (usC U true true false true m) V ∧ V1.heap.size < V.heap.size ∧ w.heap.size < V.heap.size) ⟨sk_new HV1.out HB1.out, by simp, by have := HB1.out.size; simp; omega⟩ ?_; rintro V ⟨hV, hz1, hz2⟩; clear c0; generalize V1.heap.size = G at hV hz1 ⊢; have HV := Lib.hid hV; have HZ1 := Lib.hid hz1; have HZ2 := Lib.hid hz2; clear hV hz1 hz2)
      | (go_at_call 55; refine (HN.out _ V rfl).mono ?_; rintro e V2 ⟨rfl, hw, hb⟩; have hS := HV.out.under hb; have hW := ew_new (w := w) HZ1.out HZ2.out hw; generalize V.heap.size = g at hW ⊢; clear hw hb HZ1 HZ2; have k0 := hS.1.cell 0; have k1 := hS.1.cell 1; have k2 := hS.1.cell 2; have k3 := hS.1.cell 3; have k4 := hS.1.cell 4; have j1 := hS.2.1.cell 1; have j2 := hS.2.1.cell 2; have j3 := hS.2.1.cell 3; have j4 := hS.2.1.cell 4; have HS := Lib.hid hS; have HW := Lib.hid hW; clear hS hW)
      | (go_at_call 56; (with_reducible refine (H0.out _ _ _ _ _ HS.out HW.out).mono ?_); rintro e V3 ⟨rfl, hS, hW⟩; replace HS := Lib.hid hS; replace HW := Lib.hid hW; clear hS hW k0 k1 k2 k3 k4 j1 j2 j3 j4; have k0 := HS.out.1.cell 0; have k1 := HS.out.1.cell 1; have k2 := HS.out.1.cell 2; have k3 := HS.out.1.cell 3; have k4 := HS.out.1.cell 4; have j1 := HS.out.2.1.cell 1; have j2 := HS.out.2.1.cell 2; have j3 := HS.out.2.1.cell 3; have j4 := HS.out.2.1.cell 4)
      | (go_at_call 57; (with_reducible refine (H1.out _ _ _ _ _ HS.out HW.out).mono ?_); rintro e V3 ⟨rfl, hS, hW⟩; replace HS := Lib.hid hS; replace HW := Lib.hid hW; clear hS hW k0 k1 k2 k3 k4 j1 j2 j3 j4; have k0 := HS.out.1.cell 0; have k1 := HS.out.1.cell 1; have k2 := HS.out.1.cell 2; have k3 := HS.out.1.cell 3; have k4 := HS.out.1.cell 4; have j1 := HS.out.2.1.cell 1; have j2 := HS.out.2.1.cell 2; have j3 := HS.out.2.1.cell 3; have j4 := HS.out.2.1.cell 4)
      | (go_at_call 56; (with_reducible refine (H2.out _ _ _ _ _ HS.out HW.out).mono ?_); rintro e V3 ⟨rfl, hS, hW⟩; replace HS := Lib.hid hS; replace HW := Lib.hid hW; clear hS hW k0 k1 k2 k3 k4 j1 j2 j3 j4; have k0 := HS.out.1.cell 0; have k1 := HS.out.1.cell 1; have k2 := HS.out.1.cell 2; have k3 := HS.out.1.cell 3; have k4 := HS.out.1.cell 4; have j1 := HS.out.2.1.cell 1; have j2 := HS.out.2.1.cell 2; have j3 := HS.out.2.1.cell 3; have j4 := HS.out.2.1.cell 4)
      | (go_at_call 57; (with_reducible refine (H4.out _ _ _ _ _ HS.out HW.out).mono ?_); rintro e V3 ⟨rfl, hS, hW⟩; replace HS := Lib.hid hS; replace HW := Lib.hid hW; clear hS hW k0 k1 k2 k3 k4 j1 j2 j3 j4; have k0 := HS.out.1.cell 0; have k1 := HS.out.1.cell 1; have k2 := HS.out.1.cell 2; have k3 := HS.out.1.cell 3; have k4 := HS.out.1.cell 4; have j1 := HS.out.2.1.cell 1; have j2 := HS.out.2.1.cell 2; have j3 := HS.out.2.1.cell 3; have j4 := HS.out.2.1.cell 4)
      | (go_at_call 58; refine (HBY.out _ _ _ HW.out).mono ?_; rintro e V4 ⟨⟨A, c, rfl, hcv⟩, hb⟩; have hcv := hcv _ rfl; have HB4 := Lib.hid (HS.out.2.2.trans (hb.mono HS.out.2.2.size)); clear hb k0 k1 k2 k3 k4 j1 j2 j3 j4))
    go_ret2
    exact ⟨rfl, HB4.out⟩
  case true.true.true.false =>
    go_enter Tryz.func21, Tryz.ntmps21
    go_wp2_with (first
      | (go_at_call 54; refine (HCK.out _ (below_alloc0 _ _ (Nat.le_refl _))).mono ?_; rintro e V1 ⟨rfl, hb⟩; have HV1 := Lib.hid ((Blk.new w 28 (nmC k O n i T)).under hb); have HB1 := Lib.hid ((below_alloc0 w (.cells (nmC k O n i T) 28) (Nat.le_refl _)).trans (hb.mono (by simp))); clear hb; have c0 := HV1.out.cell 0)
      | (show wpList _ _ _ (⟨some 17, _, _, _, _, _⟩ :: _) _ _; refine wpList_load_mid (by rfl) 69 (.tmp 16) (by rfl) 0 (k * 6) (by rfl) (usL U _ _ _ _ m) _ (HU.out _ HB1.out) Tryz.underlying69 rfl infoUse ?_)
      | (show wpList _ _ _ (⟨some 18, _, _, _, _, _⟩ :: _) _ _; refine wpl_gen (fun V => SK w V1.heap.size (nmC k O n i T) (usC U true true true false m) V ∧ V1.heap.size < V.heap.size ∧ w.heap.size < V.heap.size) ⟨sk_new HV1.out HB1.out, by simp, by have := HB1.out.size; simp; omega⟩ ?_; rintro V ⟨hV, hz1, hz2⟩; clear c0; generalize V1.heap.size = G at hV hz1 ⊢; have HV := Lib.hid hV; have HZ1 := Lib.hid hz1; have HZ2 := Lib.hid hz2; clear hV hz1 hz2)
      | (go_at_call 55; refine (HN.out _ V rfl).mono ?_; rintro e V2 ⟨rfl, hw, hb⟩; have hS := HV.out.under hb; have hW := ew_new (w := w) HZ1.out HZ2.out hw; generalize V.heap.size = g at hW ⊢; clear hw hb HZ1 HZ2; have k0 := hS.1.cell 0; have k1 := hS.1.cell 1; have k2 := hS.1.cell 2; have k3 := hS.1.cell 3; have k4 := hS.1.cell 4; have j1 := hS.2.1.cell 1; have j2 := hS.2.1.cell 2; have j3 := hS.2.1.cell 3; have j4 := hS.2.1.cell 4; have HS := Lib.hid hS; have HW := Lib.hid hW; clear hS hW)
      | (go_at_call 56; (with_reducible refine (H0.out _ _ _ _ _ HS.out HW.out).mono ?_); rintro e V3 ⟨rfl, hS, hW⟩; replace HS := Lib.hid hS; replace HW := Lib.hid hW; clear hS hW k0 k1 k2 k3 k4 j1 j2 j3 j4; have k0 := HS.out.1.cell 0; have k1 := HS.out.1.cell 1; have k2 := HS.out.1.cell 2; have k3 := HS.out.1.cell 3; have k4 := HS.out.1.cell 4; have j1 := HS.out.2.1.cell 1; have j2 := HS.out.2.1.cell 2; have j3 := HS.out.2.1.cell 3; have j4 := HS.out.2.1.cell 4)
      | (go_at_call 57; (with_reducible refine (H1.out _ _ _ _ _ HS.out HW.out).mono ?_); rintro e V3 ⟨rfl, hS, hW⟩; replace HS := Lib.hid hS; replace HW := Lib.hid hW; clear hS hW k0 k1 k2 k3 k4 j1 j2 j3 j4; have k0 := HS.out.1.cell 0; have k1 := HS.out.1.cell 1; have k2 := HS.out.1.cell 2; have k3 := HS.out.1.cell 3; have k4 := HS.out.1.cell 4; have j1 := HS.out.2.1.cell 1; have j2 := HS.out.2.1.cell 2; have j3 := HS.out.2.1.cell 3; have j4 := HS.out.2.1.cell 4)
      | (go_at_call 56; (with_reducible refine (H2.out _ _ _ _ _ HS.out HW.out).mono ?_); rintro e V3 ⟨rfl, hS, hW⟩; replace HS := Lib.hid hS; replace HW := Lib.hid hW; clear hS hW k0 k1 k2 k3 k4 j1 j2 j3 j4; have k0 := HS.out.1.cell 0; have k1 := HS.out.1.cell 1; have k2 := HS.out.1.cell 2; have k3 := HS.out.1.cell 3; have k4 := HS.out.1.cell 4; have j1 := HS.out.2.1.cell 1; have j2 := HS.out.2.1.cell 2; have j3 := HS.out.2.1.cell 3; have j4 := HS.out.2.1.cell 4)
      | (go_at_call 56; (with_reducible refine (H3.out _ _ _ _ _ HS.out HW.out).mono ?_); rintro e V3 ⟨rfl, hS, hW⟩; replace HS := Lib.hid hS; replace HW := Lib.hid hW; clear hS hW k0 k1 k2 k3 k4 j1 j2 j3 j4; have k0 := HS.out.1.cell 0; have k1 := HS.out.1.cell 1; have k2 := HS.out.1.cell 2; have k3 := HS.out.1.cell 3; have k4 := HS.out.1.cell 4; have j1 := HS.out.2.1.cell 1; have j2 := HS.out.2.1.cell 2; have j3 := HS.out.2.1.cell 3; have j4 := HS.out.2.1.cell 4)
      | (go_at_call 58; refine (HBY.out _ _ _ HW.out).mono ?_; rintro e V4 ⟨⟨A, c, rfl, hcv⟩, hb⟩; have hcv := hcv _ rfl; have HB4 := Lib.hid (HS.out.2.2.trans (hb.mono HS.out.2.2.size)); clear hb k0 k1 k2 k3 k4 j1 j2 j3 j4))
    go_ret2
    exact ⟨rfl, HB4.out⟩
  case true.true.true.true =>
    go_enter Tryz.func21, Tryz.ntmps21
    go_wp2_with (first
      | (go_at_call 54; refine (HCK.out _ (below_alloc0 _ _ (Nat.le_refl _))).mono ?_; rintro e V1 ⟨rfl, hb⟩; have HV1 := Lib.hid ((Blk.new w 28 (nmC k O n i T)).under hb); have HB1 := Lib.hid ((below_alloc0 w (.cells (nmC k O n i T) 28) (Nat.le_refl _)).trans (hb.mono (by simp))); clear hb; have c0 := HV1.out.cell 0)
      | (show wpList _ _ _ (⟨some 17, _, _, _, _, _⟩ :: _) _ _; refine wpList_load_mid (by rfl) 69 (.tmp 16) (by rfl) 0 (k * 6) (by rfl) (usL U _ _ _ _ m) _ (HU.out _ HB1.out) Tryz.underlying69 rfl infoUse ?_)
      | (show wpList _ _ _ (⟨some 18, _, _, _, _, _⟩ :: _) _ _; refine wpl_gen (fun V => SK w V1.heap.size (nmC k O n i T) (usC U true true true true m) V ∧ V1.heap.size < V.heap.size ∧ w.heap.size < V.heap.size) ⟨sk_new HV1.out HB1.out, by simp, by have := HB1.out.size; simp; omega⟩ ?_; rintro V ⟨hV, hz1, hz2⟩; clear c0; generalize V1.heap.size = G at hV hz1 ⊢; have HV := Lib.hid hV; have HZ1 := Lib.hid hz1; have HZ2 := Lib.hid hz2; clear hV hz1 hz2)
      | (go_at_call 55; refine (HN.out _ V rfl).mono ?_; rintro e V2 ⟨rfl, hw, hb⟩; have hS := HV.out.under hb; have hW := ew_new (w := w) HZ1.out HZ2.out hw; generalize V.heap.size = g at hW ⊢; clear hw hb HZ1 HZ2; have k0 := hS.1.cell 0; have k1 := hS.1.cell 1; have k2 := hS.1.cell 2; have k3 := hS.1.cell 3; have k4 := hS.1.cell 4; have j1 := hS.2.1.cell 1; have j2 := hS.2.1.cell 2; have j3 := hS.2.1.cell 3; have j4 := hS.2.1.cell 4; have HS := Lib.hid hS; have HW := Lib.hid hW; clear hS hW)
      | (go_at_call 56; (with_reducible refine (H0.out _ _ _ _ _ HS.out HW.out).mono ?_); rintro e V3 ⟨rfl, hS, hW⟩; replace HS := Lib.hid hS; replace HW := Lib.hid hW; clear hS hW k0 k1 k2 k3 k4 j1 j2 j3 j4; have k0 := HS.out.1.cell 0; have k1 := HS.out.1.cell 1; have k2 := HS.out.1.cell 2; have k3 := HS.out.1.cell 3; have k4 := HS.out.1.cell 4; have j1 := HS.out.2.1.cell 1; have j2 := HS.out.2.1.cell 2; have j3 := HS.out.2.1.cell 3; have j4 := HS.out.2.1.cell 4)
      | (go_at_call 57; (with_reducible refine (H1.out _ _ _ _ _ HS.out HW.out).mono ?_); rintro e V3 ⟨rfl, hS, hW⟩; replace HS := Lib.hid hS; replace HW := Lib.hid hW; clear hS hW k0 k1 k2 k3 k4 j1 j2 j3 j4; have k0 := HS.out.1.cell 0; have k1 := HS.out.1.cell 1; have k2 := HS.out.1.cell 2; have k3 := HS.out.1.cell 3; have k4 := HS.out.1.cell 4; have j1 := HS.out.2.1.cell 1; have j2 := HS.out.2.1.cell 2; have j3 := HS.out.2.1.cell 3; have j4 := HS.out.2.1.cell 4)
      | (go_at_call 56; (with_reducible refine (H2.out _ _ _ _ _ HS.out HW.out).mono ?_); rintro e V3 ⟨rfl, hS, hW⟩; replace HS := Lib.hid hS; replace HW := Lib.hid hW; clear hS hW k0 k1 k2 k3 k4 j1 j2 j3 j4; have k0 := HS.out.1.cell 0; have k1 := HS.out.1.cell 1; have k2 := HS.out.1.cell 2; have k3 := HS.out.1.cell 3; have k4 := HS.out.1.cell 4; have j1 := HS.out.2.1.cell 1; have j2 := HS.out.2.1.cell 2; have j3 := HS.out.2.1.cell 3; have j4 := HS.out.2.1.cell 4)
      | (go_at_call 56; (with_reducible refine (H3.out _ _ _ _ _ HS.out HW.out).mono ?_); rintro e V3 ⟨rfl, hS, hW⟩; replace HS := Lib.hid hS; replace HW := Lib.hid hW; clear hS hW k0 k1 k2 k3 k4 j1 j2 j3 j4; have k0 := HS.out.1.cell 0; have k1 := HS.out.1.cell 1; have k2 := HS.out.1.cell 2; have k3 := HS.out.1.cell 3; have k4 := HS.out.1.cell 4; have j1 := HS.out.2.1.cell 1; have j2 := HS.out.2.1.cell 2; have j3 := HS.out.2.1.cell 3; have j4 := HS.out.2.1.cell 4)
      | (go_at_call 57; (with_reducible refine (H4.out _ _ _ _ _ HS.out HW.out).mono ?_); rintro e V3 ⟨rfl, hS, hW⟩; replace HS := Lib.hid hS; replace HW := Lib.hid hW; clear hS hW k0 k1 k2 k3 k4 j1 j2 j3 j4; have k0 := HS.out.1.cell 0; have k1 := HS.out.1.cell 1; have k2 := HS.out.1.cell 2; have k3 := HS.out.1.cell 3; have k4 := HS.out.1.cell 4; have j1 := HS.out.2.1.cell 1; have j2 := HS.out.2.1.cell 2; have j3 := HS.out.2.1.cell 3; have j4 := HS.out.2.1.cell 4)
      | (go_at_call 58; refine (HBY.out _ _ _ HW.out).mono ?_; rintro e V4 ⟨⟨A, c, rfl, hcv⟩, hb⟩; have hcv := hcv _ rfl; have HB4 := Lib.hid (HS.out.2.2.trans (hb.mono HS.out.2.2.size)); clear hb k0 k1 k2 k3 k4 j1 j2 j3 j4))
    go_ret2
    exact ⟨rfl, HB4.out⟩
end Go.Proofs.YtcdjmkfpclmbdaaGreatDoor
