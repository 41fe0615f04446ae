/- lineage: the walk of the reference's Covers. lineage: the walk of Covers: its closure, slices.IndexFunc and slices.ContainsFunc at names (the closure lays blocks: the library's contract asks that it lay none). The walk of LineageCovers. -/
import Derived.Test.YtdfenaoddbdppaaDoorLStrsA
import Derived.Test.YtdfenaoddbdppaaDoorLRefs
import Derived.Test.YtdfenaoddbdppaaDoorLTopsW
import Derived.Test.YtdfenaoddbdppaaDoorLSorts
set_option linter.unusedVariables false
namespace Go.Proofs.YtdfenaoddbdppaaDoor
open Go.RowKit

def coversB (l : List ByteArray) (n : ByteArray) : Bool := l.any fun a => withinB n.data.toList a.data.toList
theorem any_step {l : List ByteArray} {k : Nat} {s : ByteArray} {p : ByteArray → Bool} (h : l[k]? = some s) (h0 : (l.take k).any p = false) (h1 : p s = false) : (l.take (k + 1)).any p = false := by
  rw [take_step h, List.any_append, h0]; simp [h1]
theorem any_hit {l : List ByteArray} {k : Nat} {s : ByteArray} {p : ByteArray → Bool} (h : l[k]? = some s) (h1 : p s = true) : l.any p = true :=
  List.any_eq_true.2 ⟨s, List.mem_of_getElem? h, h1⟩

set_option maxHeartbeats 2000000 in
set_option maxRecDepth 100000 in
theorem refCovers_any (A : Option Addr) (l : List ByteArray) (c B : Nat) (n : ByteArray) (w : World) (hr : RT w B A l) (hB : B ≤ w.heap.size) (hl : ∀ s ∈ l, s.size ≤ 1000000) (hn : n.size ≤ 1000000) (hll : l.length ≤ 1000000) :
    Calls Tryd.prog 40 #[.slice A l.length c, .string n] w fun e w' => e = .returned (.bool (coversB l n)) ∧ Below w.heap.size w w' := by
  have HW : Hid (∀ s ∈ l, ∀ W, Calls Tryd.prog 28 #[.string n, .string s] W fun e w' => e = .returned (.bool (withinB n.data.toList s.data.toList)) ∧ Below W.heap.size W w') := Lib.hid fun s hs W => refWithin_any n s W hn (hl s hs)
  have HR0 := Lib.hid hr
  clear hl hn hr
  go_enter Tryd.func40, Tryd.ntmps40
  go_wp2
  go_loopw [5] (fun i wr => ∃ k : Nat, k ≤ l.length ∧ i = .int .i64 k ∧ ((l.take k).any fun a => withinB n.data.toList a.data.toList) = false ∧ Below w.heap.size w wr) (fun i _ => l.length - (intOf i).toNat)
  case atStart => exact ⟨0, by omega, rfl, rfl, Below.refl _ _⟩
  case round =>
    obtain ⟨k, hk, rfl, ha, hb⟩ := hrel
    have HA := Lib.hid ha
    have HB := Lib.hid hb
    have hbs := hb.size
    clear ha hb
    by_cases hlt : k < l.length
    · have h1 : (k : Int) < (l.length : Int) := by omega
      obtain ⟨b, off, s, rfl, hbb, hv, c0⟩ := HR0.out.at_ hlt
      have h0 := (HB.out.cell (p := ⟨b, off + k, none⟩) (by show b < w.heap.size; omega)).trans c0
      have HC := Lib.hid (HW.out s (List.mem_of_getElem? hv))
      have HV := Lib.hid hv
      clear c0 hv
      cases hwv : withinB n.data.toList s.data.toList with
      | true =>
        rw [hwv] at HC
        have HT : Hid (coversB l n = true) := Lib.hid (any_hit HV.out hwv)
        clear hwv
        go_wp2_with (go_at_call 28; refine (HC.out _).mono ?_; rintro e w1 ⟨rfl, hb1⟩; have HB1 := Lib.hid (HB.out.trans (hb1.mono hbs)); clear hb1)
        go_ret
        exact ⟨by rw [HT.out]; rfl, HB1.out⟩
      | false =>
        rw [hwv] at HC
        have HN := Lib.hid (any_step (p := fun a => withinB n.data.toList a.data.toList) HV.out HA.out hwv)
        clear hwv
        go_wp2_with (go_at_call 28; refine (HC.out _).mono ?_; rintro e w1 ⟨rfl, hb1⟩; have HB1 := Lib.hid (HB.out.trans (hb1.mono hbs)); clear hb1)
        go_roundw
        case rel => exact ⟨k + 1, by omega, by go_num, HN.out, HB1.out⟩
        case measure => simp [intOf] <;> omega
    · have h1 : ¬ (k : Int) < (l.length : Int) := by omega
      have hF : coversB l n = false := by
        have := HA.out
        rw [List.take_of_length_le (by omega)] at this
        exact this
      have HF := Lib.hid hF
      clear hF
      go_wp2
      go_ret
      exact ⟨by rw [HF.out]; rfl, HB.out⟩
end Go.Proofs.YtdfenaoddbdppaaDoor

namespace Go.Proofs.YtdfenaoddbdppaaDoor
open Go.RowKit

set_option maxRecDepth 100000 in
theorem coverC_any (n s : ByteArray) (g : Nat) (w : World) (hc : w.cell? ⟨g, 0, none⟩ = some (.string n)) (hn : n.size ≤ 1000000) (hs : s.size ≤ 1000000) :
    Calls Tryd.prog 61 #[.string s, .pointer (some ⟨g, 0, none⟩)] w fun e w' => e = .returned (.bool (inB n s)) ∧ Below w.heap.size w w' := by
  have HW : Hid (∀ W, Calls Tryd.prog 27 #[.string n, .string s] W fun e w' => e = .returned (.bool (inB n s)) ∧ Below W.heap.size W w') := Lib.hid fun W => within_any n s W hn hs
  clear hn hs
  go_enter Tryd.func61, Tryd.ntmps61
  go_wp2_with (go_at_call 27; refine (HW.out _).mono ?_; rintro e w1 ⟨rfl, hb1⟩; have HB1 := Lib.hid hb1; clear hb1)
  go_ret
  exact ⟨rfl, HB1.out⟩

set_option maxHeartbeats 2000000 in
set_option maxRecDepth 100000 in
theorem indexF_any (A : Option Addr) (l : List ByteArray) (c B : Nat) (n : ByteArray) (g : Nat) (w : World) (hr : RT w B A l) (hB : B ≤ w.heap.size) (hg : w.cell? ⟨g, 0, none⟩ = some (.string n)) (hgl : g < w.heap.size) (hl : ∀ s ∈ l, s.size ≤ 1000000) (hn : n.size ≤ 1000000) (hll : l.length ≤ 1000000) :
    Calls Tryd.prog 72 #[.slice A l.length c, .func (.func 61) #[] #[.pointer (some ⟨g, 0, none⟩)]] w fun e w' => ∃ z : Int, e = .returned (.int .i64 z) ∧ decide (0 ≤ z) = coversB l n ∧ Below w.heap.size w w' := by
  have HW : Hid (∀ s ∈ l, ∀ W, Below w.heap.size w W → Calls Tryd.prog 61 #[.string s, .pointer (some ⟨g, 0, none⟩)] W fun e w' => e = .returned (.bool (inB n s)) ∧ Below W.heap.size W w') := Lib.hid fun s hs W hb => coverC_any n s g W ((hb.cell (p := ⟨g, 0, none⟩) hgl).trans hg) hn (hl s hs)
  have HR0 := Lib.hid hr
  clear hl hn hr hg hgl
  go_enter Tryd.func72, Tryd.ntmps72
  go_wp2
  go_loopw [8] (fun i wr => ∃ k : Nat, k ≤ l.length ∧ i = .int .i64 k ∧ ((l.take k).any fun a => withinB n.data.toList a.data.toList) = false ∧ Below w.heap.size w wr) (fun i _ => l.length - (intOf i).toNat)
  case atStart => exact ⟨0, by omega, rfl, rfl, Below.refl _ _⟩
  case round =>
    obtain ⟨k, hk, rfl, ha, hb⟩ := hrel
    have HA := Lib.hid ha
    have HB := Lib.hid hb
    have hbs := hb.size
    clear ha hb
    by_cases hlt : k < l.length
    · have h1 : (k : Int) < (l.length : Int) := by omega
      obtain ⟨b, off, s, rfl, hbb, hv, c0⟩ := HR0.out.at_ hlt
      have h0 := (HB.out.cell (p := ⟨b, off + k, none⟩) (by show b < w.heap.size; omega)).trans c0
      have HC := Lib.hid (HW.out s (List.mem_of_getElem? hv))
      have HV := Lib.hid hv
      clear c0 hv
      cases hwv : inB n s with
      | true =>
        rw [hwv] at HC
        have HT : Hid (coversB l n = true) := Lib.hid (any_hit HV.out hwv)
        clear hwv
        go_wp2_with (go_at_call 61; refine (HC.out _ HB.out).mono ?_; rintro e w1 ⟨rfl, hb1⟩; have HB1 := Lib.hid (HB.out.trans (hb1.mono hbs)); clear hb1)
        go_ret
        exact ⟨(k : Int), rfl, by rw [HT.out]; simp, HB1.out⟩
      | false =>
        rw [hwv] at HC
        have HN := Lib.hid (any_step (p := fun a => withinB n.data.toList a.data.toList) HV.out HA.out hwv)
        clear hwv
        go_wp2_with (go_at_call 61; refine (HC.out _ HB.out).mono ?_; rintro e w1 ⟨rfl, hb1⟩; have HB1 := Lib.hid (HB.out.trans (hb1.mono hbs)); clear hb1)
        go_roundw
        case rel => exact ⟨k + 1, by omega, by go_num, HN.out, HB1.out⟩
        case measure => simp [intOf] <;> omega
    · have h1 : ¬ (k : Int) < (l.length : Int) := by omega
      have hF : coversB l n = false := by
        have := HA.out
        rw [List.take_of_length_le (by omega)] at this
        exact this
      have HF := Lib.hid hF
      clear hF
      go_wp2
      go_ret
      exact ⟨-1, rfl, by rw [HF.out]; rfl, HB.out⟩

set_option maxRecDepth 100000 in
theorem containsF_any (A : Option Addr) (l : List ByteArray) (c B : Nat) (n : ByteArray) (g : Nat) (w : World) (hr : RT w B A l) (hB : B ≤ w.heap.size) (hg : w.cell? ⟨g, 0, none⟩ = some (.string n)) (hgl : g < w.heap.size) (hl : ∀ s ∈ l, s.size ≤ 1000000) (hn : n.size ≤ 1000000) (hll : l.length ≤ 1000000) :
    Calls Tryd.prog 60 #[.slice A l.length c, .func (.func 61) #[] #[.pointer (some ⟨g, 0, none⟩)]] w fun e w' => e = .returned (.bool (coversB l n)) ∧ Below w.heap.size w w' := by
  have HI := Lib.hid (indexF_any A l c B n g w hr hB hg hgl hl hn hll)
  clear hr hg hgl hl hn
  go_enter Tryd.func60, Tryd.ntmps60
  go_wp2_with (go_at_call 72; refine HI.out.mono ?_; rintro e w1 ⟨z, rfl, hz, hb1⟩; have HB1 := Lib.hid hb1; have HZ := Lib.hid hz; clear hb1 hz)
  go_ret
  exact ⟨by rw [← HZ.out]; rfl, HB1.out⟩

set_option maxRecDepth 100000 in
theorem covers_any (A : Option Addr) (l : List ByteArray) (c B : Nat) (n : ByteArray) (w : World) (hr : RT w B A l) (hB : B ≤ w.heap.size) (hl : ∀ s ∈ l, s.size ≤ 1000000) (hn : n.size ≤ 1000000) (hll : l.length ≤ 1000000) :
    Calls Tryd.prog 39 #[.slice A l.length c, .string n] w fun e w' => e = .returned (.bool (coversB l n)) ∧ Below w.heap.size w w' := by
  have hb0 := below_alloc0 (B := w.heap.size) w (.cells #[.string n] 23) (Nat.le_refl _)
  have HC := Lib.hid (containsF_any A l c B n w.heap.size (w.alloc (.cells #[.string n] 23)) (hr.below (hb0.mono hB)) (Nat.le_trans hB hb0.size) (by rw [World.cell?_alloc_at _ _ _ _ rfl]; rfl) (by simp) hl hn hll)
  have HB0 := Lib.hid hb0
  clear hr hl hn hb0
  go_enter Tryd.func39, Tryd.ntmps39
  go_wp2_with (go_at_call 60; refine HC.out.mono ?_; rintro e w1 ⟨rfl, hb1⟩; have HB1 := Lib.hid (HB0.out.trans (hb1.mono HB0.out.size)); clear hb1)
  go_ret
  exact ⟨rfl, HB1.out⟩
end Go.Proofs.YtdfenaoddbdppaaDoor

namespace Go.Proofs.YtdfenaoddbdppaaDoor
open Go.RowKit

theorem covers_tops (L : List ByteArray) (n : ByteArray) : coversB (topsS (sortS L)) n = coversB L n := by
  rw [Bool.eq_iff_iff]
  unfold coversB
  rw [List.any_eq_true, List.any_eq_true]
  constructor
  · rintro ⟨y, hy, h⟩
    exact ⟨y, (sortS_mem L y).1 (List.mem_filter.1 hy).1, h⟩
  · rintro ⟨y, hy, h⟩
    have hy' := (sortS_mem L y).2 hy
    cases hf : (sortS L).find? (fun y => inB n y) with
    | none => have := List.find?_eq_none.1 hf y hy'; exact absurd h this
    | some z =>
      have hz : inB n z = true := by have := List.find?_some hf; simpa using this
      exact ⟨z, find_top (sortS_asc L) hf, hz⟩
theorem tops_apart {S : List ByteArray} (hS : S.Pairwise ltB) {i k : Nat} {x y : ByteArray} (hx : (topsS S)[i]? = some x) (hy : (topsS S)[k]? = some y) (h : k ≠ i) : inB x y = false := by
  have ha : (topsS S).Pairwise ltB := hS.sublist List.filter_sublist
  have hne : y ≠ x := by
    intro e
    subst e
    have hp := List.pairwise_iff_getElem.1 ha
    obtain ⟨hk1, ek⟩ := List.getElem?_eq_some_iff.1 hy
    obtain ⟨hi1, ei⟩ := List.getElem?_eq_some_iff.1 hx
    rcases Nat.lt_or_gt_of_ne h with h | h
    · have := hp k i hk1 hi1 h; rw [ek, ei] at this; exact ltB_irrefl _ this
    · have := hp i k hi1 hk1 h; rw [ek, ei] at this; exact ltB_irrefl _ this
  have h1 := (List.mem_filter.1 (List.mem_of_getElem? hx)).2
  have h2 := (List.mem_filter.1 (List.mem_of_getElem? hy)).1
  rw [List.all_eq_true] at h1
  have := h1 y h2
  simpa [hne] using this

set_option maxHeartbeats 8000000 in
set_option maxRecDepth 100000 in
theorem lineageCovers_walk (A : Option Addr) (l : List ByteArray) (c : Nat) (n0 : ByteArray) (w : World) (hP : Pow w) (hr : RT w w.heap.size A l) (hcap : l.length ≤ c) (hc : c ≤ maxLen) (hz : ∀ s ∈ l, s.size ≤ maxLen) (hn0 : n0.size ≤ maxLen) :
    Calls Tryd.prog 10 #[.slice A l.length c, .string n0] w fun e w' => e = .returned (.bool true) ∧ Below w.heap.size w w' := by
  have HNM := Lib.hid (names_any A l c w.heap.size w hr (Nat.le_refl _) hz)
  obtain ⟨n, hn⟩ : ∃ n, n = shortN n0 := ⟨_, rfl⟩
  have hnz : n.size ≤ 1000000 := by rw [hn]; have := shortN_size n0; omega
  have HSH : Hid (∀ W, Calls Tryd.prog 21 #[.string n0] W fun e w' => e = .returned (.string n) ∧ W = w') := Lib.hid fun W => by rw [hn]; exact (short_any n0 W hn0).mono fun e w' h => ⟨h.1, h.2.symm⟩
  have hLs : ∀ s ∈ namesS l, s.size ≤ 1000000 := fun s hs => by have := namesS_size l s hs; omega
  have hLl : (namesS l).length ≤ 1000000 := by have := namesS_length l; omega
  obtain ⟨L, hL⟩ : ∃ L, L = namesS l := ⟨_, rfl⟩
  rw [← hL] at HNM hLs hLl
  have HK : Hid (∀ W, Below w.heap.size w W → Calls Tryd.prog 14 #[] W fun e w' => e = .returned (.bool true) ∧ Below W.heap.size W w') := Lib.hid fun W hb => known_any W (hP.below hb hP.lt)
  obtain ⟨M, hM⟩ : ∃ M, M = L.length := ⟨_, rfl⟩
  obtain ⟨T, hT⟩ : ∃ T, T = topsS (sortS L) := ⟨_, rfl⟩
  obtain ⟨Q, hQ⟩ : ∃ Q, Q = T.length := ⟨_, rfl⟩
  have hTs : ∀ s ∈ T, s.size ≤ 1000000 := fun s hs => by rw [hT] at hs; exact hLs s ((sortS_mem L s).1 (List.mem_filter.1 hs).1)
  have hTl : T.length ≤ 1000000 := by
    rw [hT]; have := List.length_filter_le (fun x => (sortS L).all fun y => decide (y = x) || !inB x y) (sortS L); have := sortS_length_le L; unfold topsS; omega
  obtain ⟨is, his⟩ : ∃ is, is = coversB L n := ⟨_, rfl⟩
  have HTA : Hid (∀ i k x y, T[i]? = some x → T[k]? = some y → k ≠ i → inB x y = false) := Lib.hid fun i k x y h1 h2 h3 => by rw [hT] at h1 h2; exact tops_apart (sortS_asc L) h1 h2 h3
  have HC1 : Hid (∀ A1 cap1 W B, RT W B A1 L → B ≤ W.heap.size → Calls Tryd.prog 39 #[.slice A1 M cap1, .string n] W fun e w' => e = .returned (.bool is) ∧ Below W.heap.size W w') := Lib.hid fun A1 cap1 W B h1 h2 => by rw [hM, his]; exact covers_any A1 L cap1 B n W h1 h2 hLs hnz hLl
  have HC2 : Hid (∀ A1 cap1 W B, RT W B A1 T → B ≤ W.heap.size → Calls Tryd.prog 39 #[.slice A1 Q cap1, .string n] W fun e w' => e = .returned (.bool is) ∧ Below W.heap.size W w') := Lib.hid fun A1 cap1 W B h1 h2 => by
    rw [hQ, his, ← covers_tops L n, ← hT]; exact covers_any A1 T cap1 B n W h1 h2 hTs hnz hTl
  have HRC : Hid (∀ A1 cap1 W B, RT W B A1 L → B ≤ W.heap.size → Calls Tryd.prog 40 #[.slice A1 M cap1, .string n] W fun e w' => e = .returned (.bool is) ∧ Below W.heap.size W w') := Lib.hid fun A1 cap1 W B h1 h2 => by rw [hM, his]; exact refCovers_any A1 L cap1 B n W h1 h2 hLs hnz hLl
  have HTO : Hid (∀ A1 cap1 W B, RT W B A1 L → B ≤ W.heap.size → (A1 = none ∨ ∃ b off, A1 = some ⟨b, off, none⟩) → Calls Tryd.prog 37 #[.slice A1 M cap1] W fun e w' => ∃ v, e = .returned v ∧ OT 23 w' W.heap.size v T ∧ Below W.heap.size W w') := Lib.hid fun A1 cap1 W B h1 h2 h3 => by rw [hM, hT]; exact tops_any A1 L cap1 B W h1 h3 h2 hLs hLl
  have HML := Lib.hid hM
  have HQL := Lib.hid hQ
  have HTS := Lib.hid hTs
  have hQb : Q ≤ 1000000 := by omega
  clear hP hr hcap hc hz hLs hLl hL hT hTs hTl hM hQ hn hn0 hnz his
  go_enter Tryd.func10, Tryd.ntmps10
  go_wp2_with (first
    | (go_at_call 33; refine HNM.out.mono ?_; rintro e W1 ⟨v1, v2, rfl, ho1, ho2, _, hb1⟩; obtain ⟨A1, cap1, hv1, hr1, _⟩ := ho1.form; obtain ⟨A2, cap2, hv2, hr2, _⟩ := ho2.form; rw [← HML.out] at hv1 hv2; subst hv1 hv2; have SH := Lib.hid ho1.shapeA; have HR1 := Lib.hid hr1; have HR2 := Lib.hid hr2; have HB0 := Lib.hid hb1; have HB := Lib.hid (Below.refl W1.heap.size W1); clear ho1 ho2 hr1 hr2 hb1)
    | (go_at_call 21; refine (HSH.out _).mono ?_; rintro e W2 ⟨rfl, rfl⟩)
    | (go_at_call 14; refine (HK.out _ (HB0.out.trans (HB.out.mono HB0.out.size))).mono ?_; rintro e W7 ⟨rfl, hb7⟩; replace HB := Lib.hid (HB.out.trans (hb7.mono HB.out.size)); have HR6a := Lib.hid (HR6.out.below hb7); have H67 := Lib.hid hb7; clear hb7)
    | (go_at_call 37; refine (HTO.out _ _ _ _ (HR1.out.at_below HB.out (Nat.le_refl _)) HB.out.size SH.out).mono ?_; rintro e W6 ⟨v6, rfl, ho6, hb6⟩; obtain ⟨A6, cap6, hv6, hr6, _⟩ := ho6.form; rw [← HQL.out] at hv6; subst hv6; have HR6 := Lib.hid hr6; replace HB := Lib.hid (HB.out.trans (hb6.mono HB.out.size)); have H60 := Lib.hid (HB0.out.trans (HB.out.mono HB0.out.size)); clear ho6 hb6 hr6)
    | (go_at_call 40; refine (HRC.out _ _ _ _ (HR2.out.at_below HB.out (Nat.le_refl _)) HB.out.size).mono ?_; rintro e W8 ⟨rfl, hb8⟩; replace HB := Lib.hid (HB.out.trans (hb8.mono HB.out.size)); replace H67 := Lib.hid (H67.out.trans (hb8.mono H67.out.size)); clear hb8)
    | (go_at_call 39; (with_reducible refine (HC1.out A1 cap1 _ _ (HR1.out.at_below HB.out (Nat.le_refl _)) HB.out.size).mono ?_); rintro e W3 ⟨rfl, hb3⟩; replace HB := Lib.hid (HB.out.trans (hb3.mono HB.out.size)); clear hb3)
    | (go_at_call 39; (with_reducible refine (HC2.out A6 cap6 _ _ (HR6.out.at_below H67.out (Nat.le_refl _)) H67.out.size).mono ?_); rintro e W9 ⟨rfl, hb9⟩; replace H67 := Lib.hid (H67.out.trans (hb9.mono H67.out.size)); clear hb9))
  clear HNM HSH HC1 HC2 HRC HTO HR1 HR2 SH HB
  go_loopw [8] (fun a wr => ∃ i : Nat, i ≤ Q ∧ a = .int .i64 i ∧ Below W6.heap.size W6 wr) (fun a _ => Q - (intOf a).toNat)
  case atStart => exact ⟨0, by omega, rfl, H67.out⟩
  case round =>
    obtain ⟨i, hi, rfl, hb⟩ := hrel
    have HB := Lib.hid hb
    clear hb
    by_cases hlt : i < Q
    · have h1 : (i : Int) < (Q : Int) := by omega
      obtain ⟨b, off, x, rfl, hbb, hx, c0⟩ := HR6.out.at_ (k := i) (by rw [← HQL.out]; exact hlt)
      have HX := Lib.hid hx
      have CI := Lib.hid c0
      have hxz := HTS.out x (List.mem_of_getElem? hx)
      clear c0 hx
      go_wp2
      go_loopw [9] (fun a wr2 => ∃ k : Nat, k ≤ Q ∧ a = .int .i64 k ∧ Below W6.heap.size W6 wr2) (fun a _ => Q - (intOf a).toNat)
      case atStart => exact ⟨0, by omega, rfl, HB.out⟩
      case round =>
        obtain ⟨k, hk, rfl, hb2⟩ := hrel
        have HS0 := Lib.hid hb2
        clear hb2
        by_cases hlk : k < Q
        · have h2 : (k : Int) < (Q : Int) := by omega
          obtain ⟨y, hy⟩ : ∃ y, T[k]? = some y := ⟨T[k]'(by rw [← HQL.out]; exact hlk), List.getElem?_eq_getElem _⟩
          have CK : Hid (W6.cell? ⟨b, off + k, none⟩ = some (sv y)) := Lib.hid (HR6.out.cellT hy)
          by_cases hki : k = i
          · have gk : ((k : Int) != (i : Int)) = false := by simp; omega
            clear hy hki
            go_wp2
            refine wp_region_held_drew (S := Below W6.heap.size W6) (by kernel_rfl) (HS0.out.drew) (fun hHeld => ?_)
            refine wpAnyH_take (i := 0) (v := ?_) (ops_atL rfl) (by kernel_rfl) (by kernel_rfl) (by kernel_rfl) (fun _ _ _ h => h) (Or.inl ⟨by rfl, ?_⟩) hHeld ?_
            rotate_left
            · (intro W hSW; go_simp; try with_reducible rfl)
            try simp only [Act.put, List.setIfInBounds_toArray, List.set_cons_zero, List.set_cons_succ]
            refine wpAnyH_take (i := 1) (v := ?_) (ops_atL rfl) (by kernel_rfl) (by kernel_rfl) (by kernel_rfl) (fun _ _ _ h => h) (Or.inl ⟨by rfl, ?_⟩) hHeld ?_
            rotate_left
            · (intro W hSW; go_simp; try with_reducible rfl)
            try simp only [Act.put, List.setIfInBounds_toArray, List.set_cons_zero, List.set_cons_succ]
            refine wpAnyH_take (i := 2) (v := ?_) (ops_atL rfl) (by kernel_rfl) (by kernel_rfl) (by kernel_rfl) (fun _ _ _ h => h) (Or.inl ⟨by rfl, ?_⟩) hHeld ?_
            rotate_left
            · (intro W hSW; go_simp; try with_reducible rfl)
            try simp only [Act.put, List.setIfInBounds_toArray, List.set_cons_zero, List.set_cons_succ]
            refine wpAnyH_take (i := 3) (v := ?_) (ops_atL rfl) (by kernel_rfl) (by kernel_rfl) (by kernel_rfl) (fun _ _ _ h => h) (Or.inl ⟨by rfl, ?_⟩) hHeld ?_
            rotate_left
            · (intro W hSW; go_simp; try with_reducible rfl)
            try simp only [Act.put, List.setIfInBounds_toArray, List.set_cons_zero, List.set_cons_succ]
            refine wpAnyH_take (i := 4) (v := undef) (ops_atL rfl) (by kernel_rfl) (by kernel_rfl) (by kernel_rfl) (fun _ _ _ h => h) (Or.inr ⟨by rfl, rfl⟩) hHeld ?_
            try simp only [Act.put, List.setIfInBounds_toArray, List.set_cons_zero, List.set_cons_succ]
            refine wpAnyH_take (i := 5) (v := undef) (ops_atL rfl) (by kernel_rfl) (by kernel_rfl) (by kernel_rfl) (fun _ _ _ h => h) (Or.inr ⟨by rfl, rfl⟩) hHeld ?_
            try simp only [Act.put, List.setIfInBounds_toArray, List.set_cons_zero, List.set_cons_succ]
            refine wpAnyH_take (i := 6) (v := undef) (ops_atL rfl) (by kernel_rfl) (by kernel_rfl) (by kernel_rfl) (fun _ _ _ h => h) (Or.inr ⟨by rfl, rfl⟩) hHeld ?_
            try simp only [Act.put, List.setIfInBounds_toArray, List.set_cons_zero, List.set_cons_succ]
            refine wpAnyH_take (i := 7) (v := undef) (ops_atL rfl) (by kernel_rfl) (by kernel_rfl) (by kernel_rfl) (fun _ _ _ h => h) (Or.inr ⟨by rfl, rfl⟩) hHeld ?_
            try simp only [Act.put, List.setIfInBounds_toArray, List.set_cons_zero, List.set_cons_succ]
            refine wpAnyH_take (i := 8) (v := undef) (ops_atL rfl) (by kernel_rfl) (by kernel_rfl) (by kernel_rfl) (fun _ _ _ h => h) (Or.inr ⟨by rfl, rfl⟩) hHeld ?_
            try simp only [Act.put, List.setIfInBounds_toArray, List.set_cons_zero, List.set_cons_succ]
            refine wpAnyH_take (i := 9) (v := undef) (ops_atL rfl) (by kernel_rfl) (by kernel_rfl) (by kernel_rfl) (fun _ _ _ h => h) (Or.inr ⟨by rfl, rfl⟩) hHeld ?_
            try simp only [Act.put, List.setIfInBounds_toArray, List.set_cons_zero, List.set_cons_succ]
            refine wpAnyH_take (i := 10) (v := undef) (ops_atL rfl) (by kernel_rfl) (by kernel_rfl) (by kernel_rfl) (fun _ _ _ h => h) (Or.inr ⟨by rfl, rfl⟩) hHeld ?_
            try simp only [Act.put, List.setIfInBounds_toArray, List.set_cons_zero, List.set_cons_succ]
            refine wpAnyH_take (i := 11) (v := undef) (ops_atL rfl) (by kernel_rfl) (by kernel_rfl) (by kernel_rfl) (fun _ _ _ h => h) (Or.inr ⟨by rfl, rfl⟩) hHeld ?_
            try simp only [Act.put, List.setIfInBounds_toArray, List.set_cons_zero, List.set_cons_succ]
            refine wpAnyH_take (i := 12) (v := undef) (ops_atL rfl) (by kernel_rfl) (by kernel_rfl) (by kernel_rfl) (fun _ _ _ h => h) (Or.inr ⟨by rfl, rfl⟩) hHeld ?_
            try simp only [Act.put, List.setIfInBounds_toArray, List.set_cons_zero, List.set_cons_succ]
            refine wpAnyH_take (i := 13) (v := ?_) (ops_atL rfl) (by kernel_rfl) (by kernel_rfl) (by kernel_rfl) (fun _ _ _ h => h) (Or.inl ⟨by rfl, ?_⟩) hHeld ?_
            rotate_left
            · (intro W hSW; go_simp; try with_reducible rfl)
            try simp only [Act.put, List.setIfInBounds_toArray, List.set_cons_zero, List.set_cons_succ]
            refine wpAnyH_done (by kernel_rfl) ?_ _
            go_wp2
            go_roundw
            case rel => exact ⟨k + 1, by omega, by go_num, hHeld⟩
            case measure => simp [intOf] <;> omega
          · have gk : ((k : Int) != (i : Int)) = true := by simp; omega
            have hq := HTA.out i k x y HX.out hy hki
            have hyz := HTS.out y (List.mem_of_getElem? hy)
            have HW : Hid (∀ W, Below W6.heap.size W6 W → Calls Tryd.prog 27 #[.string x, .string y] W fun e w' => e = .returned (.bool false) ∧ Below W6.heap.size W6 w') := Lib.hid fun W hW => (within_any x y W hxz hyz).mono fun e w' h => ⟨by rw [← hq]; exact h.1, hW.trans (h.2.mono hW.size)⟩
            clear hy hki hq hyz
            go_wp2
            refine wp_region_held_drew (S := Below W6.heap.size W6) (by kernel_rfl) (HS0.out.drew) (fun hHeld => ?_)
            refine wpAnyH_take (i := 0) (v := ?_) (ops_atL rfl) (by kernel_rfl) (by kernel_rfl) (by kernel_rfl) (fun _ _ _ h => h) (Or.inl ⟨by rfl, ?_⟩) hHeld ?_
            rotate_left
            · (intro W hSW; go_simp; try with_reducible rfl)
            try simp only [Act.put, List.setIfInBounds_toArray, List.set_cons_zero, List.set_cons_succ]
            refine wpAnyH_take (i := 1) (v := ?_) (ops_atL rfl) (by kernel_rfl) (by kernel_rfl) (by kernel_rfl) (fun _ _ _ h => h) (Or.inl ⟨by rfl, ?_⟩) hHeld ?_
            rotate_left
            · (intro W hSW; go_simp; try with_reducible rfl)
            try simp only [Act.put, List.setIfInBounds_toArray, List.set_cons_zero, List.set_cons_succ]
            refine wpAnyH_take (i := 2) (v := ?_) (ops_atL rfl) (by kernel_rfl) (by kernel_rfl) (by kernel_rfl) (fun _ _ _ h => h) (Or.inl ⟨by rfl, ?_⟩) hHeld ?_
            rotate_left
            · (intro W hSW; go_simp; try with_reducible rfl)
            try simp only [Act.put, List.setIfInBounds_toArray, List.set_cons_zero, List.set_cons_succ]
            refine wpAnyH_take (i := 3) (v := ?_) (ops_atL rfl) (by kernel_rfl) (by kernel_rfl) (by kernel_rfl) (fun _ _ _ h => h) (Or.inl ⟨by rfl, ?_⟩) hHeld ?_
            rotate_left
            · (intro W hSW; go_simp; try with_reducible rfl)
            try simp only [Act.put, List.setIfInBounds_toArray, List.set_cons_zero, List.set_cons_succ]
            refine wpAnyH_take (i := 4) (v := ?_) (ops_atL rfl) (by kernel_rfl) (by kernel_rfl) (by kernel_rfl) (fun _ _ _ h => h) (Or.inl ⟨by rfl, ?_⟩) hHeld ?_
            rotate_left
            · (intro W hSW; go_simp; try with_reducible rfl)
            try simp only [Act.put, List.setIfInBounds_toArray, List.set_cons_zero, List.set_cons_succ]
            refine wpAnyH_take (i := 5) (v := ?_) (ops_atL rfl) (by kernel_rfl) (by kernel_rfl) (by kernel_rfl) (fun _ _ _ h => h) (Or.inl ⟨by rfl, ?_⟩) hHeld ?_
            rotate_left
            · (intro W hSW; go_simp; try with_reducible rfl)
            try simp only [Act.put, List.setIfInBounds_toArray, List.set_cons_zero, List.set_cons_succ]
            refine wpAnyH_take (i := 6) (v := ?_) (ops_atL rfl) (by kernel_rfl) (by kernel_rfl) (by kernel_rfl) (fun _ _ _ h => h) (Or.inl ⟨by rfl, ?_⟩) hHeld ?_
            rotate_left
            · (intro W hSW; go_simp; try with_reducible rfl)
            try simp only [Act.put, List.setIfInBounds_toArray, List.set_cons_zero, List.set_cons_succ]
            refine wpAnyH_take (i := 7) (v := ?_) (ops_atL rfl) (by kernel_rfl) (by kernel_rfl) (by kernel_rfl) (fun _ _ _ h => h) (Or.inl ⟨by rfl, ?_⟩) hHeld ?_
            rotate_left
            · (intro W hSW; have c0 := (hSW.cell (p := ⟨b, off + i, none⟩) hbb).trans CI.out; go_simp; try with_reducible rfl)
            try simp only [Act.put, List.setIfInBounds_toArray, List.set_cons_zero, List.set_cons_succ]
            refine wpAnyH_take (i := 8) (v := ?_) (ops_atL rfl) (by kernel_rfl) (by kernel_rfl) (by kernel_rfl) (fun _ _ _ h => h) (Or.inl ⟨by rfl, ?_⟩) hHeld ?_
            rotate_left
            · (intro W hSW; go_simp; try with_reducible rfl)
            try simp only [Act.put, List.setIfInBounds_toArray, List.set_cons_zero, List.set_cons_succ]
            refine wpAnyH_take (i := 9) (v := ?_) (ops_atL rfl) (by kernel_rfl) (by kernel_rfl) (by kernel_rfl) (fun _ _ _ h => h) (Or.inl ⟨by rfl, ?_⟩) hHeld ?_
            rotate_left
            · (intro W hSW; go_simp; try with_reducible rfl)
            try simp only [Act.put, List.setIfInBounds_toArray, List.set_cons_zero, List.set_cons_succ]
            refine wpAnyH_take (i := 10) (v := ?_) (ops_atL rfl) (by kernel_rfl) (by kernel_rfl) (by kernel_rfl) (fun _ _ _ h => h) (Or.inl ⟨by rfl, ?_⟩) hHeld ?_
            rotate_left
            · (intro W hSW; go_simp; try with_reducible rfl)
            try simp only [Act.put, List.setIfInBounds_toArray, List.set_cons_zero, List.set_cons_succ]
            refine wpAnyH_take (i := 11) (v := ?_) (ops_atL rfl) (by kernel_rfl) (by kernel_rfl) (by kernel_rfl) (fun _ _ _ h => h) (Or.inl ⟨by rfl, ?_⟩) hHeld ?_
            rotate_left
            · (intro W hSW; have c0 := (hSW.cell (p := ⟨b, off + k, none⟩) hbb).trans CK.out; go_simp; try with_reducible rfl)
            try simp only [Act.put, List.setIfInBounds_toArray, List.set_cons_zero, List.set_cons_succ]
            refine wpAnyH_ready (rs := [12]) (by kernel_rfl) (by simp) ?_
            refine AllReadyH.cons (ops_atL rfl) (fun K hK => ?_) AllReadyH.nil
            go_simp
            (go_at_call 27; refine (HW.out _ hHeld).mono ?_; rintro e W' ⟨rfl, hb'⟩)
            refine hK.out _ _ hb' (fun hHeld => ?_)
            clear hK K
            try simp only [Act.put, List.setIfInBounds_toArray, List.set_cons_zero, List.set_cons_succ]
            refine wpAnyH_take (i := 13) (v := ?_) (ops_atL rfl) (by kernel_rfl) (by kernel_rfl) (by kernel_rfl) (fun _ _ _ h => h) (Or.inl ⟨by rfl, ?_⟩) hHeld ?_
            rotate_left
            · (intro W hSW; go_simp; try with_reducible rfl)
            try simp only [Act.put, List.setIfInBounds_toArray, List.set_cons_zero, List.set_cons_succ]
            refine wpAnyH_done (by kernel_rfl) ?_ _
            go_wp2
            go_roundw
            case rel => exact ⟨k + 1, by omega, by go_num, hHeld⟩
            case measure => simp [intOf] <;> omega
        · have h2 : ¬ (k : Int) < (Q : Int) := by omega
          go_wp2
          go_roundw
          case rel => exact ⟨i + 1, by omega, by go_num, HS0.out⟩
          case measure => simp [intOf] <;> omega
    · have h1 : ¬ (i : Int) < (Q : Int) := by omega
      go_wp2
      go_ret
      exact ⟨rfl, H60.out.trans (HB.out.mono H60.out.size)⟩
end Go.Proofs.YtdfenaoddbdppaaDoor
