/- object: the walk of the law ObjectDecodes. -/
import Derived.Test.YtcdjmkfpclmbdaaGreatDoorORDec
import Derived.Test.YtcdjmkfpclmbdaaGreatDoorOKnown
set_option linter.unusedVariables false
namespace Go.Proofs.YtcdjmkfpclmbdaaGreatDoor
open Go.RowKit

/-- Two blocks: the program's name and the reference's. -/
def LP (w : World) (g h : Nat) (cs ms : Array Value) (V : World) : Prop := Blk V g 28 cs ∧ Blk V h 23 ms ∧ Below w.heap.size w V
theorem lp_new {w V1 V2 : World} {cs ms : Array Value} (h1 : Below w.heap.size w V1) (h2 : Below (V1.alloc (.cells cs 28)).heap.size (V1.alloc (.cells cs 28)) V2) :
    LP w V1.heap.size V2.heap.size cs ms (V2.alloc (.cells ms 23)) := by
  have hB : Below w.heap.size w V2 := (h1.alloc h1.size _).trans (h2.mono (by have := h1.size; simp; omega))
  exact ⟨((Blk.new V1 _ _).under h2).alloc _, Blk.new _ _ _, hB.alloc hB.size _⟩
theorem LP.under {w : World} {g h : Nat} {cs ms : Array Value} {V V' : World} (x : LP w g h cs ms V) (hb : Below V.heap.size V V') : LP w g h cs ms V' := ⟨x.1.under hb, x.2.1.under hb, x.2.2.trans (hb.mono x.2.2.size)⟩
theorem LP.bel {w : World} {g h : Nat} {cs ms : Array Value} {V : World} (x : LP w g h cs ms V) : Below w.heap.size w V := x.2.2
theorem LP.drew {w : World} {g h : Nat} {cs ms : Array Value} {V : World} (x : LP w g h cs ms V) : LP w g h cs ms V.drew := ⟨x.1.drew, x.2.1.drew, x.2.2.drew⟩

set_option maxHeartbeats 2000000 in
set_option maxRecDepth 100000 in
theorem ne_self_rd (K : Int) (O : ByteArray) (n i : Int) (T : ByteArray) (W : World) :
    (binOp .neq 23 (nmV K O n i T) (nmV K O n i T)).run Tryz.prog W = .ok (.bool false) W := by
  go_simp
set_option maxHeartbeats 4000000 in
set_option maxRecDepth 100000 in
theorem decodes_long (S : ByteArray) (w : World) (hl : 200 < S.size)
    (hK : ∀ W, Below w.heap.size w W → Calls Tryz.prog 7 #[] W fun e w' => e = .returned (.bool true) ∧ Below W.heap.size W w') :
    Calls Tryz.prog 6 #[.string S] w fun e w' => e = .returned (.bool true) ∧ Below w.heap.size w w' := by
  have HK := Lib.hid hK
  have HB := Lib.hid (Below.refl w.heap.size w)
  have l1 : (200 : Int) < (S.size : Int) := by omega
  clear hK
  go_enter Tryz.func6, Tryz.ntmps6
  go_wp2_with (go_at_call 7; refine (HK.out _ HB.out).mono ?_; rintro e V1 ⟨rfl, hb⟩; replace HB := Lib.hid (HB.out.trans (hb.mono HB.out.size)); clear hb)
  go_ret
  exact ⟨rfl, HB.out⟩

set_option maxHeartbeats 8000000 in
set_option maxRecDepth 100000 in
theorem decodes_short (S : ByteArray) (L : Int) (P : ByteArray) (m j : Int) (Q : ByteArray) (E G : Int) (X : ByteArray) (w : World) (hl : S.size ≤ 200) (hE : ((E != 0) = false ∧ X = S ∧ (G == 0) = true) ∨ (E != 0) = true)
    (hK : ∀ W, Below w.heap.size w W → Calls Tryz.prog 7 #[] W fun e w' => e = .returned (.bool true) ∧ Below W.heap.size W w')
    (hP : ∀ W, Below w.heap.size w W → Calls Tryz.prog 23 #[.string S] W fun e w' => e = .returned (.tuple #[nmV L P m j Q, .int .i64 E]) ∧ Below W.heap.size W w')
    (hR : ∀ W, Calls Tryz.prog 24 #[.string S] W fun e w' => e = .returned (.tuple #[nmV L P m j Q, .int .i64 E]) ∧ Below W.heap.size W w')
    (hS : ∀ W, Below w.heap.size w W → Calls Tryz.prog 21 #[nmV L P m j Q] W fun e w' => e = .returned (.tuple #[.string X, .int .i64 G]) ∧ Below W.heap.size W w') :
    Calls Tryz.prog 6 #[.string S] w fun e w' => e = .returned (.bool true) ∧ Below w.heap.size w w' := by
  have HK := Lib.hid hK
  have HP := Lib.hid hP
  have HR := Lib.hid hR
  have HB := Lib.hid (Below.refl w.heap.size w)
  have HEE := Lib.hid hE
  have HS := Lib.hid hS
  have HOF := Lib.hid fun W => ofN_any L m j P Q W
  have l1 : ¬ (200 : Int) < (S.size : Int) := by omega
  clear hK hP hR hE hS
  go_enter Tryz.func6, Tryz.ntmps6
  go_upto_region 5 with (first
    | (go_at_call 7; refine (HK.out _ HB.out).mono ?_; rintro e V1 ⟨rfl, hb⟩; replace HB := Lib.hid (HB.out.trans (hb.mono HB.out.size)); clear hb)
    | (go_at_call 23; refine (HP.out _ HB.out).mono ?_; rintro e V2 ⟨rfl, hb⟩; replace HB := Lib.hid (HB.out.trans (hb.mono HB.out.size)); clear hb)
    | (go_at_call 24; refine (HR.out _).mono ?_; rintro e V3 ⟨rfl, hb⟩; have HB3 := Lib.hid hb; clear hb))
  refine cwp_gen (LP w V2.heap.size V3.heap.size (nmC L P m j Q) (nmC L P m j Q)) (lp_new HB.out HB3.out) ?_
  intro V hV
  generalize V2.heap.size = g at hV ⊢
  generalize V3.heap.size = h at hV ⊢
  clear HB HB3
  have e0 : (E != E) = false := by simp
  have hq := fun W => ne_self_rd L P m j Q W
  have f0 : ∀ W, LP w g h (nmC L P m j Q) (nmC L P m j Q) W → W.cell? ⟨g, 0, none⟩ = some (.int .i64 L) := fun W x => x.1.cell 0
  have f1 : ∀ W, LP w g h (nmC L P m j Q) (nmC L P m j Q) W → W.cell? ⟨g, 1, none⟩ = some (.string P) := fun W x => x.1.cell 1
  have f2 : ∀ W, LP w g h (nmC L P m j Q) (nmC L P m j Q) W → W.cell? ⟨g, 2, none⟩ = some (.int .i64 m) := fun W x => x.1.cell 2
  have f3 : ∀ W, LP w g h (nmC L P m j Q) (nmC L P m j Q) W → W.cell? ⟨g, 3, none⟩ = some (.int .i64 j) := fun W x => x.1.cell 3
  have f4 : ∀ W, LP w g h (nmC L P m j Q) (nmC L P m j Q) W → W.cell? ⟨g, 4, none⟩ = some (.string Q) := fun W x => x.1.cell 4
  have k0 : ∀ W, LP w g h (nmC L P m j Q) (nmC L P m j Q) W → W.cell? ⟨h, 0, none⟩ = some (.int .i64 L) := fun W x => x.2.1.cell 0
  have k1 : ∀ W, LP w g h (nmC L P m j Q) (nmC L P m j Q) W → W.cell? ⟨h, 1, none⟩ = some (.string P) := fun W x => x.2.1.cell 1
  have k2 : ∀ W, LP w g h (nmC L P m j Q) (nmC L P m j Q) W → W.cell? ⟨h, 2, none⟩ = some (.int .i64 m) := fun W x => x.2.1.cell 2
  have k3 : ∀ W, LP w g h (nmC L P m j Q) (nmC L P m j Q) W → W.cell? ⟨h, 3, none⟩ = some (.int .i64 j) := fun W x => x.2.1.cell 3
  have k4 : ∀ W, LP w g h (nmC L P m j Q) (nmC L P m j Q) W → W.cell? ⟨h, 4, none⟩ = some (.string Q) := fun W x => x.2.1.cell 4
  go_cut [35] (fun s wx => s = .bool false ∧ LP w g h (nmC L P m j Q) (nmC L P m j Q) wx)
  case first =>
    go_region_held3 (LP w g h (nmC L P m j Q) (nmC L P m j Q)) (first | assumption | exact LP.drew (by assumption)) ((go_at_call 16; refine (HOF.out _).mono ?_; rintro e W1 ⟨rfl, hb⟩; have hS1 := LP.under (by assumption) hb; clear hb))
    all_goals
      go_wp2
      go_meet
      case rel => exact ⟨by first | rfl | simp, by assumption⟩
  case rest =>
    obtain ⟨hs, hV2⟩ := hcut
    subst hs
    have HV := Lib.hid hV2
    clear hV2 hV f0 f1 f2 f3 f4 k0 k1 k2 k3 k4 hq
    have c0 := HV.out.1.cell 0; have c1 := HV.out.1.cell 1; have c2 := HV.out.1.cell 2; have c3 := HV.out.1.cell 3; have c4 := HV.out.1.cell 4
    rcases HEE.out with ⟨z1, rfl, z3⟩ | z1
    · have z2 : (X.toList == X.toList) = true := by simp
      go_wp2_with (go_at_call 21; refine (HS.out _ HV.out.bel).mono ?_; rintro e V4 ⟨rfl, hb⟩; replace HV := Lib.hid (HV.out.under hb); clear hb c0 c1 c2 c3 c4)
      go_ret
      exact ⟨by first | rfl | simp, HV.out.bel⟩
    · go_wp2_with (go_at_call 21; refine (HS.out _ HV.out.bel).mono ?_; rintro e V4 ⟨rfl, hb⟩; replace HV := Lib.hid (HV.out.under hb); clear hb c0 c1 c2 c3 c4)
      go_ret
      exact ⟨by first | rfl | simp, HV.out.bel⟩

theorem rdD_len (s : List UInt8) : (rdD s).1.owner.length ≤ s.length := by
  have h0 := pn_len true 20 (s, 0)
  have h1 := pt_len (ownN (pn true 20 (s, 0)).1.toNat) 16777216 (pn true 20 (s, 0)).2
  show (pt (ownN (pn true 20 (s, 0)).1.toNat) 16777216 (pn true 20 (s, 0)).2).1.length ≤ _
  have h2 : (pn true 20 (s, 0)).2.1.length ≤ s.length := h0
  omega
set_option maxHeartbeats 1000000 in
theorem objectDecodes_walk (S : ByteArray) (w : World) (hE : Env w) (hS : S.size ≤ maxLen) :
    Calls Tryz.prog 6 #[.string S] w fun e w' => e = .returned (.bool true) ∧ Below w.heap.size w w' := by
  have hK : ∀ W, Below w.heap.size w W → Calls Tryz.prog 7 #[] W fun e w' => e = .returned (.bool true) ∧ Below W.heap.size W w' := fun W hb => known_any W (hE.below hb)
  by_cases hl : 200 < S.size
  · exact decodes_long S w hl hK
  · have hlen : S.data.toList.length = S.size := by simp
    have hP := fun W hb => decode_any S W (hE.below (w' := W) hb) (by omega)
    have hR := fun W => refDecode_any S W (by omega)
    rw [dec_eq _ (by omega)] at hR
    rcases decN_cases S.data.toList with ⟨h0, hc, he⟩ | h0
    · obtain ⟨x, hx⟩ : ∃ x, x = (decN S.data.toList).1 := ⟨_, rfl⟩
      have ep : decN S.data.toList = (x, 0) := by rw [hx, ← h0]
      rw [← hx] at hc he
      rw [ep] at hP hR
      have hxo : x.owner.length ≤ 1000000 := by
        have := rdD_len S.data.toList
        have e2 : x = (rdD S.data.toList).1 := by
          rw [hx]; unfold decN at h0 ⊢
          split
          · rfl
          · rename_i h; rw [if_neg h] at h0; cases h0
        rw [← e2] at this
        omega
      refine decodes_short S x.kind (sv x.owner) x.num x.idx (sv x.text) 0 0 S w (by omega) (.inl ⟨rfl, rfl, rfl⟩) hK hP hR (fun W hb => ?_)
      have h := encode_any x.kind x.num x.idx (sv x.owner) (sv x.text) W (hE.below hb) (by rw [sv_size]; exact hxo)
      simp only [sv_list] at h
      rw [hc, he, sv_back] at h
      exact h
    · rw [h0] at hP hR
      refine decodes_short S 0 (sv []) 0 0 (sv []) 3 _ _ w (by omega) (.inr rfl) hK hP hR (fun W hb => encode_any 0 0 0 (sv []) (sv []) W (hE.below hb) (by rw [sv_size]; simp))
end Go.Proofs.YtcdjmkfpclmbdaaGreatDoor
