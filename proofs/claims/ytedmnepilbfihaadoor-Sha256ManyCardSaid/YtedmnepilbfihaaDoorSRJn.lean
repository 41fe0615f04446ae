/- The walks of the reference's Join and Tagged. -/
import Derived.Test.YtedmnepilbfihaaDoorSTag
set_option linter.unusedVariables false
namespace Go.Proofs.YtedmnepilbfihaaDoor
open Go.RowKit

theorem og_lit (w : World) (e : TypeId) (base : Nat) (hb : base ≤ w.heap.size) (m : List UInt8) (hm : m.length ≤ maxLen) (z : Array Value) (hz : z = (m.map bv).toArray) (n : Nat) (hn : n = m.length) : OG (w.alloc (.cells z e)) base (.slice (some ⟨w.heap.size, 0, none⟩) n n) m := by
  subst hz hn
  refine ⟨_, m.length, rfl, Nat.le_refl _, hm, .inr ⟨w.heap.size, rfl, hb, by simp, fun j c hj => ?_, fun j h1 h2 => by omega⟩⟩
  rw [World.cell?_alloc_at _ _ _ _ rfl]; simp [hj]

set_option maxHeartbeats 1000000 in
set_option maxRecDepth 100000 in
theorem refJoin_long (tag : UInt8) (A : Option Addr) (l : List ByteArray) (c : Nat) (w : World) (hl : 255 < l.length) :
    Calls Tryd.prog 21 #[bv tag, .slice A l.length c] w fun e w' => e = .returned (.tuple #[.string ⟨#[]⟩, .int .i64 9]) ∧ w = w' := by
  have h1 : (255 : Int) < (l.length : Int) := by omega
  go_enter Tryd.func21, Tryd.ntmps21
  go_wp2
  go_ret2
  exact ⟨rfl, rfl⟩

set_option maxHeartbeats 1000000 in
set_option maxRecDepth 100000 in
theorem refJoin_any (tag : UInt8) (A : Option Addr) (l : List ByteArray) (c B : Nat) (w : World) (hr : RT w B A l) (hB : B ≤ w.heap.size) (hl : l.length ≤ 255) (hs : ∀ s ∈ l, s.size ≤ 100) :
    Calls Tryd.prog 21 #[bv tag, .slice A l.length c] w fun e w' => e = .returned (.tuple #[.string ⟨(joinS tag l).toArray⟩, .int .i64 0]) ∧ Below w.heap.size w w' := by
  have h1 : ¬ (255 : Int) < (l.length : Int) := by omega
  have h2 : Value.int .u8 (l.length : Int) = bv (UInt8.ofNat l.length) := by
    show Value.int .u8 _ = Value.int .u8 _
    rw [← u8_len, Int.emod_eq_of_lt (by omega) (by omega)]
  have HO0 : Hid (OG (w.alloc (.cells #[bv tag, .int .u8 (l.length : Int)] 5)) w.heap.size (.slice (some ⟨w.heap.size, 0, none⟩) 2 2) (preS tag l 0)) := Lib.hid (og_lit w _ _ (Nat.le_refl _) _ (by simp [preS, maxLen]) _ (by rw [h2]; rfl) _ rfl)
  have HR := Lib.hid (fun W (hb : Below w.heap.size w W) => hr.below (hb.mono hB))
  have HS := Lib.hid hs
  clear hr hs h2
  go_enter Tryd.func21, Tryd.ntmps21
  go_wp2
  go_loopw [6, 7] (fun u i wr => ∃ k : Nat, k ≤ l.length ∧ i = .int .i64 k ∧ OG wr w.heap.size u (preS tag l k) ∧ Below w.heap.size w wr) (fun _ i _ => l.length - (intOf i).toNat)
  case atStart => exact ⟨0, by omega, rfl, HO0.out, below_alloc0 _ _ (Nat.le_refl _)⟩
  case round =>
    obtain ⟨k, hk, rfl, ho, hb⟩ := hrel
    have hbs := hb.size
    have HO := Lib.hid ho
    have HB := Lib.hid hb
    clear ho hb HO0
    by_cases hlt : k < l.length
    · have h1 : (k : Int) < (l.length : Int) := by omega
      obtain ⟨b, off, s, rfl, hbb, hv, c0⟩ := (HR.out wr HB.out).at_ hlt
      have hsz := HS.out s (List.mem_of_getElem? hv)
      have HV := Lib.hid hv
      have hle := preS_le tag l HS.out k hk
      clear hv
      have e4 : (#[Value.int .u8 ((s.size : Int) / 16777216), Value.int .u8 ((s.size : Int) / 65536), Value.int .u8 ((s.size : Int) / 256), Value.int .u8 (s.size : Int)] : Array Value) = ((be4 s.size).map bv).toArray := by
        have q0 := beb_eq s.size 0
        have q1 := beb_eq s.size 1
        have q2 := beb_eq s.size 2
        have q3 := beb_eq s.size 3
        rw [Int.emod_eq_of_lt (by omega) (by omega)] at q0 q1 q2 q3
        simp only [be4, List.map_cons, List.map_nil, bv, ← q0, ← q1, ← q2, ← q3]
        simp
      have HE := Lib.hid e4
      clear e4
      go_wp2_with (first
        | (rw [HE.out]; refine wpList_appG bsl (by rfl) (.tmp 28) (.tmp 40) 29 (by rfl) w.heap.size _ (preS tag l k) (be4 s.size) (by rfl) (HO.out.alloc _) (.slice (some ⟨wr.heap.size, 0, none⟩) 4 4) (by rfl) (src_lit bsl wr (be4 s.size) 4 _ rfl) (by simp only [be4, List.length_cons, List.length_nil]; omega) (by simp; omega) ?_; intro v3 W3 ho3 hb3; have hb4 := ((Below.refl w.heap.size wr).alloc hbs _).trans hb3; have c1 := (hb4.cell (p := ⟨b, off + k, none⟩) (by show b < w.heap.size; omega)).trans c0; have HO3 := Lib.hid ho3; have HB3 := Lib.hid (HB.out.trans hb4); clear ho3 hb3 hb4)
        | (refine wpList_appG bsl (by rfl) (.tmp 42) (.tmp 46) 9 (by rfl) w.heap.size _ (preS tag l k ++ be4 s.size) s.data.toList (by rfl) HO3.out (.string s) (by rfl) (src_str Tryd.underlying9 W3 s _ rfl) (by simp only [be4, List.length_append, List.length_cons, List.length_nil, bytes_length]; omega) HB3.out.size ?_; intro v4 W4 ho4 hb4; have HO4 := Lib.hid ho4; have HB4 := Lib.hid (HB3.out.trans hb4); clear ho4 hb4))
      go_roundw
      case rel =>
        refine ⟨k + 1, by omega, by go_num, ?_, HB4.out⟩
        rw [preS_step HV.out, partS, ← List.append_assoc]
        exact HO4.out
      case measure => simp [intOf] <;> omega
    · have h1 : ¬ (k : Int) < (l.length : Int) := by omega
      have hkl : k = l.length := by omega
      obtain ⟨A6, c6, hv6, hr6, _, _⟩ := HO.out.form
      subst hv6
      have hstr := run_str bsl 9 Tryd.underlying9 hr6 c6
      rw [hkl, preS_all] at hstr
      rw [hkl, preS_all] at HO
      subst hkl
      rw [preS_all]
      go_wp2
      go_ret2
      exact ⟨rfl, HB.out⟩

set_option maxHeartbeats 1000000 in
set_option maxRecDepth 100000 in
theorem refTagged_any (tag : UInt8) (A : Option Addr) (l : List ByteArray) (c B : Nat) (w : World) (hr : RT w B A l) (hB : B ≤ w.heap.size) (hl : l.length ≤ 255) (hs : ∀ s ∈ l, s.size ≤ 100) :
    Calls Tryd.prog 23 #[bv tag, .slice A l.length c] w fun e w' => e = .returned (.agg ((sumS (joinS tag l)).map bv).toArray) ∧ Below w.heap.size w w' := by
  have HJ := Lib.hid (fun W (h : One w W) => refJoin_any tag A l c B W (hr.below (h.2.1.mono hB)) (Nat.le_trans hB h.2.1.size) hl hs)
  have HS := Lib.hid (fun W => refSum_any ⟨(joinS tag l).toArray⟩ W (by have := joinS_le tag l hl hs; show (joinS tag l).toArray.size < _; rw [List.size_toArray]; omega))
  obtain ⟨dg, edg⟩ : ∃ d, d = sumS (joinS tag l) := ⟨_, rfl⟩
  simp only [List.toList_toArray, ← edg] at HS
  rw [← edg]
  obtain ⟨S, eS⟩ : ∃ S : ByteArray, S = ⟨(joinS tag l).toArray⟩ := ⟨_, rfl⟩
  simp only [← eS] at HJ HS
  have hdg : (dg.map bv).length = 32 := by rw [List.length_map, edg]; unfold sumS; exact digest_length _
  have HI9 : Hid ((Tryd.prog.info? 24).map (·.size) = some (dg.map bv).length) := Lib.hid (by rw [info32r, hdg])
  have HI8 : Hid ((Tryd.prog.info? 24).map (·.size) = some (dg.map bv).toArray.size) := Lib.hid (by rw [info32r, List.size_toArray, hdg])
  have HDG := Lib.hid hdg
  clear hr hs hdg edg eS
  go_enter Tryd.func23, Tryd.ntmps23
  go_wp2_with (first
    | (go_at_call 21; refine calls_gen (One w) (one_new w _ rfl _) ?_; intro V hV; refine (HJ.out V hV).mono ?_; rintro e W1 ⟨rfl, hb1⟩; have H1 := Lib.hid (hV.below hb1); clear hV hb1)
    | (go_at_call 16; refine (HS.out W1).mono ?_; rintro e W2 ⟨rfl, hb2⟩; have H2 := Lib.hid (H1.out.below hb2); clear hb2)
    | (refine wpList_store_mid (by rfl) 24 (.tmp 4) (.tmp 14) (by rfl) w.heap.size 0 (dg.map bv).toArray (by rfl) (by rfl) (H2.out.1.thereA (dg.map bv) (by rw [HDG.out]; rfl)) HI8.out (all_oneCell_toArray (bvs_oneCell _)) ?_))
  refine bodyPost_ret (results_cell_mid rfl _ _ w.heap.size (dg.map bv) _ rfl (H2.out.1.sets _ (by rw [HDG.out]; rfl)) Tryd.underlying24 rfl HI9.out) rfl ?_
  exact ⟨rfl, below_setCells _ (Nat.le_refl _) _ _ _ H2.out.2.1⟩
end Go.Proofs.YtedmnepilbfihaaDoor
