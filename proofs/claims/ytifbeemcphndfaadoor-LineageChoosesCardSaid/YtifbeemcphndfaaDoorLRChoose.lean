/- lineage: the walk of the reference's Choose. -/
import Derived.Test.YtifbeemcphndfaaDoorLChoose
import Derived.Test.YtifbeemcphndfaaDoorLRefs
import Derived.Test.YtifbeemcphndfaaDoorSRSum
set_option linter.unusedVariables false
namespace Go.Proofs.YtifbeemcphndfaaDoor
open Go.RowKit

theorem info32r : (Tryd.prog.info? 64).map (·.size) = some 32 := by kernel_rfl
theorem byte64 (b : UInt8) : wrap64 (b.toNat : Int) = (b.toNat : Int) := by have := b.toNat_lt; exact wrap64_small (by omega) (by omega)
theorem step256 (n b : Nat) (hn : n < 281474976710656) (hb : b < 256) : wrap64 ((n : Int) * 256 + (b : Int)) = ((n * 256 + b : Nat) : Int) := by
  rw [wrap64_small (by omega) (by omega)]; omega
/-- An empty slice of a new block. -/
theorem OG.empty (w : World) (base g : Nat) : OG w base (.slice (some ⟨g, 0, none⟩) 0 0) [] := ⟨_, _, rfl, Nat.le_refl _, Nat.zero_le _, .inl rfl⟩
theorem src_arr {P : Program} {t e : TypeId} (hP : ByteSlice P t e) {w : World} {g n : Nat} {l : List UInt8} (hc : ∀ j c, l[j]? = some c → w.cell? ⟨g, j, none⟩ = some (bv c)) (c : Nat) (hn : n = l.length) : Src P 1 t (.slice (some ⟨g, 0, none⟩) n c) l.length (l.map bv) w := by
  subst hn
  refine Src.ofSlice (P := P) _ (e' := e) hP.u _ _ _ _ (by simp) (fun j u hu => ?_) (bvs_oneCell l)
  rw [List.getElem?_map, Option.map_eq_some_iff] at hu
  obtain ⟨c', hc', rfl⟩ := hu
  rw [Addr.add_lit, Nat.zero_add]; exact hc j c' hc'
theorem Arr.bytes {w : World} {g : Nat} {l : List UInt8} (h : Arr w g 0 (l.map bv)) : ∀ j c, l[j]? = some c → w.cell? ⟨g, j, none⟩ = some (bv c) := fun j c hj => h.cell0 (by rw [List.getElem?_map, hj]; rfl)

section
variable (seed : List UInt8) (S : ByteArray) (w : World)
set_option maxHeartbeats 1000000 in
set_option maxRecDepth 100000 in
theorem refChoose_name (c limit : Int) (hS : S.size ≤ 1000000) (hv : validB S.data.toList = false) :
    Calls Tryd.prog 42 #[.agg (seed.map bv).toArray, .string S, .int .i64 c, .int .i64 limit] w fun e w' => e = .returned (.tuple #[.int .i64 0, .int .i64 12]) ∧ Below w.heap.size w w' := by
  have HV := Lib.hid fun W => refValid_any S W hS
  rw [hv] at HV
  clear hv hS
  go_enter Tryd.func42, Tryd.ntmps42
  go_wp2_with (go_at_call 63; refine (HV.out _).mono ?_; rintro r W1 ⟨rfl, hb1⟩; have HB := Lib.hid hb1; clear hb1)
  refine bodyPost_ret (results_tmp2' rfl _ _ _) rfl ?_
  exact ⟨rfl, (below_alloc0 _ _ (Nat.le_refl _)).trans (HB.out.mono (by simp))⟩

set_option maxHeartbeats 1000000 in
set_option maxRecDepth 100000 in
theorem refChoose_range (c limit : Int) (hS : S.size ≤ 1000000) (hv : validB S.data.toList = true) (hr : c < 0 ∨ limit < 1 ∨ 2147483648 < limit) :
    Calls Tryd.prog 42 #[.agg (seed.map bv).toArray, .string S, .int .i64 c, .int .i64 limit] w fun e w' => e = .returned (.tuple #[.int .i64 0, .int .i64 2]) ∧ Below w.heap.size w w' := by
  have HV := Lib.hid fun W => refValid_any S W hS
  rw [hv] at HV
  clear hv hS
  by_cases h1 : c < 0
  · clear hr
    go_enter Tryd.func42, Tryd.ntmps42
    go_wp2_with (go_at_call 63; refine (HV.out _).mono ?_; rintro r W1 ⟨rfl, hb1⟩; have HB := Lib.hid hb1; clear hb1)
    refine bodyPost_ret (results_tmp2' rfl _ _ _) rfl ?_
    exact ⟨rfl, (below_alloc0 _ _ (Nat.le_refl _)).trans (HB.out.mono (by simp))⟩
  · by_cases h2 : limit < 1
    · clear hr
      go_enter Tryd.func42, Tryd.ntmps42
      go_wp2_with (go_at_call 63; refine (HV.out _).mono ?_; rintro r W1 ⟨rfl, hb1⟩; have HB := Lib.hid hb1; clear hb1)
      refine bodyPost_ret (results_tmp2' rfl _ _ _) rfl ?_
      exact ⟨rfl, (below_alloc0 _ _ (Nat.le_refl _)).trans (HB.out.mono (by simp))⟩
    · have h3 : 2147483648 < limit := by omega
      clear hr
      go_enter Tryd.func42, Tryd.ntmps42
      go_wp2_with (go_at_call 63; refine (HV.out _).mono ?_; rintro r W1 ⟨rfl, hb1⟩; have HB := Lib.hid hb1; clear hb1)
      refine bodyPost_ret (results_tmp2' rfl _ _ _) rfl ?_
      exact ⟨rfl, (below_alloc0 _ _ (Nat.le_refl _)).trans (HB.out.mono (by simp))⟩


set_option maxHeartbeats 2000000 in
set_option maxRecDepth 100000 in
theorem refChoose_any (c limit : Nat) (hS : S.size ≤ 1000000) (hv : validB S.data.toList = true) (hc : c < 9223372036854775808) (h1 : 1 ≤ limit) (h2 : limit ≤ 2147483648) (hsd : seed.length = 32) :
    Calls Tryd.prog 42 #[.agg (seed.map bv).toArray, .string S, .int .i64 (c : Int), .int .i64 (limit : Int)] w fun e w' => e = .returned (.tuple #[.int .i64 (chosenN seed S.data.toList c limit : Int), .int .i64 0]) ∧ Below w.heap.size w w' := by
  have HV := Lib.hid fun W => refValid_any S W hS
  rw [hv] at HV
  obtain ⟨m, hm⟩ : ∃ m, m = S.data.toList := ⟨_, rfl⟩
  obtain ⟨N, hN⟩ : ∃ N, N = m.length := ⟨_, rfl⟩
  have hNS : S.size = N := by rw [hN, hm]; simp
  have hcv : ∀ W : World, ∃ c1 W', (convert 9 72 (.string S)).run Tryd.prog W = .ok (.slice (some ⟨W.heap.size, 0, none⟩) N c1) W' ∧ (∀ j c, m[j]? = some c → W'.cell? ⟨W.heap.size, j, none⟩ = some (bv c)) ∧ Below W.heap.size W W' := fun W => by
    have ho := og_bytes W S 5 W.heap.size (Nat.le_refl _) (by omega)
    have hrun := run_bytes (P := Tryd.prog) bsl Tryd.underlying9 W S
    have hbl : Below W.heap.size W (W.drew.alloc (.cells (bytesRow S (grownCap W S.size 0 5)) 5 ((bytesRow S (grownCap W S.size 0 5)).size, (bytesRow S (grownCap W S.size 0 5)).size + 1))) := ((Below.refl W.heap.size W).drew).alloc (by simp) _
    generalize (W.drew.alloc (.cells (bytesRow S (grownCap W S.size 0 5)) 5 ((bytesRow S (grownCap W S.size 0 5)).size, (bytesRow S (grownCap W S.size 0 5)).size + 1))) = W' at ho hrun hbl
    generalize grownCap W S.size 0 5 = cap at ho hrun
    rw [hNS] at hrun
    refine ⟨cap, W', hrun, fun j c hj => ?_, hbl⟩
    rw [← hm] at ho
    obtain ⟨A, cap', hv, hr, _⟩ := ho.form
    obtain ⟨b, off, hA, _, hcell⟩ := hr (by have := (List.getElem?_eq_some_iff.1 hj).1; omega)
    simp only [Value.slice.injEq] at hv
    rw [← hv.1] at hA
    simp only [Option.some.injEq, Addr.mk.injEq] at hA
    have := hcell j c hj
    rw [← hA.1, ← hA.2.1, Nat.zero_add] at this
    exact this
  have g1 : decide ((c : Int) < 0) = false := by simp
  have g2 : decide ((limit : Int) < 1) = false := by simp; omega
  have g3 : decide (2147483648 < (limit : Int)) = false := by simp; omega
  have HSD := Lib.hid hsd
  have hsl : m.length ≤ 1000000 := by rw [← hN, ← hNS]; exact hS
  have HSL := Lib.hid hsl
  have HM := Lib.hid hm
  have HNM := Lib.hid hN
  have HA : Hid (Arr (w.alloc (.cells (seed.map bv).toArray 64)) w.heap.size 0 (seed.map bv)) := Lib.hid (Arr.new w _ _)
  have HCV := Lib.hid hcv
  clear hv hS hsd hsl hcv hm hN hNS
  go_enter Tryd.func42, Tryd.ntmps42
  go_wp2_with (first
    | (go_at_call 63; refine (HV.out _).mono ?_; rintro r W1 ⟨rfl, hb1⟩; have HA1 := Lib.hid (HA.out.below hb1 (by simp)); have HB := Lib.hid ((below_alloc0 (B := w.heap.size) w _ (Nat.le_refl _)).trans (hb1.mono (by simp))); clear hb1)
    | (refine wpList_appG bsl (by rfl) (.tmp 28) (.tmp 29) 72 (by rfl) w.heap.size _ [] seed (by rfl) (OG.empty _ _ _) (.slice (some ⟨w.heap.size, 0, none⟩) 32 32) (by rfl) (src_arr bsl (HA1.out.alloc _).bytes 32 HSD.out.symm) (by rw [HSD.out]; decide) (by have := HB.out.size; simp; omega) ?_; intro v2 W2 ho2 hb2; rw [List.nil_append] at ho2; have HB2 := Lib.hid ((HB.out.alloc HB.out.size _).trans hb2); obtain ⟨A2, cap2, hv2, _⟩ := ho2.form; rw [HSD.out] at hv2; subst hv2; obtain ⟨c3, W3, hcv3, hr3, hb3⟩ := HCV.out W2; have HO2 := Lib.hid (ho2.below hb3 (Nat.le_refl _)); have HR3 := Lib.hid hr3; have HB3 := Lib.hid (HB2.out.trans (hb3.mono HB2.out.size)); clear ho2 hb2 hr3 hb3)
    | (refine wpList_appG bsl (by rfl) (.tmp 30) (.tmp 32) 72 (by rfl) w.heap.size (.slice A2 32 cap2) seed m (by rfl) HO2.out (.slice (some ⟨W2.heap.size, 0, none⟩) N c3) (by rfl) (src_arr bsl HR3.out c3 HNM.out) (by have := HSL.out; rw [HSD.out]; omega) HB3.out.size ?_; intro v4 W4 ho4 hb4; have HB4 := Lib.hid (HB3.out.trans hb4); obtain ⟨l4, hl4⟩ : ∃ l, l = seed ++ m := ⟨_, rfl⟩; rw [← hl4] at ho4; obtain ⟨A4, cap4, hv4, _⟩ := ho4.form; obtain ⟨N4, hN4⟩ : ∃ N, N = l4.length := ⟨_, rfl⟩; rw [← hN4] at hv4; subst hv4; have HO4 := Lib.hid ho4; have HL4 := Lib.hid hl4; have HN4 := Lib.hid hN4; clear ho4 hb4 hl4 hN4 hcv3)
    | (refine wpList_appG bsl (by rfl) (.tmp 33) (.tmp 34) 72 (by rfl) w.heap.size (.slice A4 N4 cap4) l4 [0] (by rfl) (HO4.out.alloc _) (.slice (some ⟨W4.heap.size, 0, none⟩) 1 1) (by rfl) (src_lit bsl W4 [0] 1 _ rfl) (by have := HSL.out; rw [HL4.out, List.length_append, HSD.out]; simp at this ⊢; omega) (by have := HB4.out.size; simp; omega) ?_; intro v3 W5 ho3 hb3; have HB5 := Lib.hid (((HB4.out.alloc HB4.out.size _)).trans hb3); obtain ⟨l3, hl3⟩ : ∃ l, l = l4 ++ [0] := ⟨_, rfl⟩; rw [← hl3] at ho3; have HO3 := Lib.hid ho3; have HL3 := Lib.hid hl3; clear ho3 hb3 hl3))
  have H3L : Hid (l3.length ≤ 1000033) := Lib.hid (by have := HSL.out; rw [HL3.out, HL4.out, List.length_append, List.length_append, HSD.out]; simp at this ⊢; omega)
  clear g1 g2 g3
  go_loopw [10, 11] (fun u i wr => ∃ (q : Nat) (z : Int), i = .int .i64 z ∧ z = 7 - (q : Int) ∧ q ≤ 8 ∧ OG wr w.heap.size u (l3 ++ (cntT c).take q) ∧ Below w.heap.size w wr) (fun _ i _ => (intOf i + 1).toNat)
  case atStart => exact ⟨0, 7, rfl, by omega, by omega, by rw [List.take_zero, List.append_nil]; exact HO3.out, HB5.out⟩
  case round =>
    obtain ⟨q, z, rfl, hz, hq, ho2, hb2⟩ := hrel
    obtain ⟨l6, hl6⟩ : ∃ l, l = l3 ++ (cntT c).take q := ⟨_, rfl⟩
    have hl6n : l6.length ≤ 1000050 := by
      have := H3L.out
      rw [hl6, List.length_append, List.length_take, cntT_length]; omega
    rw [← hl6] at ho2
    have hsz2 := hb2.size
    obtain ⟨A6, cap6, hv6, hr6, _⟩ := ho2.form
    obtain ⟨N6, hN6⟩ : ∃ N, N = l6.length := ⟨_, rfl⟩
    rw [← hN6] at hv6
    subst hv6
    have HO6 := Lib.hid ho2
    have HB6 := Lib.hid hb2
    have HL6 := Lib.hid hl6
    have HN6 := Lib.hid hN6
    have HLN := Lib.hid hl6n
    by_cases hq8 : q < 8
    · obtain ⟨j, hj⟩ : ∃ j : Nat, j = 7 - q := ⟨_, rfl⟩
      obtain rfl : z = (j : Int) := by omega
      have hs3 : (0 : Int) ≤ 8 * (j : Int) := by omega
      have hs4 : min (8 * (j : Int)).toNat 64 = 8 * j := by omega
      have HCB := Lib.hid (cntB_eq c j)
      obtain ⟨cb, hcb⟩ : ∃ x, x = cntB c j := ⟨_, rfl⟩
      rw [← hcb] at HCB
      rw [hj] at hcb
      have HC2 := Lib.hid hcb
      have HJ := Lib.hid hj
      clear ho2 hb2 hl6 hz hr6 hN6 hl6n hj hcb
      go_wp2_with (rw [HCB.out]; refine wpList_appG bsl (by rfl) (.tmp 40) (.tmp 46) 72 (by rfl) w.heap.size (.slice A6 N6 cap6) l6 [cb] (by rfl) (HO6.out.alloc _) (.slice (some ⟨wr.heap.size, 0, none⟩) 1 1) (by rfl) (src_lit bsl wr [cb] 1 _ rfl) (by have := HLN.out; simp; omega) (by simp; omega) ?_; intro v7 W7 ho7 hb7; have HO7 := Lib.hid ho7; have HB7 := Lib.hid (((HB6.out.alloc HB6.out.size _)).trans hb7); clear ho7 hb7)
      go_roundw
      case rel =>
        exact ⟨q + 1, _, rfl, by have := HJ.out; omega, by omega, by rw [cntT_step c q hq8, ← List.append_assoc, ← HL6.out, ← HC2.out]; exact HO7.out, HB7.out⟩
      case measure => simp [intOf] <;> omega
    · have hq9 : q = 8 := by omega
      subst hq9
      obtain rfl : z = -1 := by omega
      have ht : l6 = textC seed S.data.toList c := by
        rw [hl6, List.take_of_length_le (by rw [cntT_length]; omega), HL3.out, HL4.out, HM.out]; rfl
      obtain ⟨dg, hdg⟩ : ∃ d, d = sumS l6 := ⟨_, rfl⟩
      have hdl : dg.length = 32 := by rw [hdg]; unfold sumS; exact digest_length _
      have hml : (dg.map bv).length = 32 := by rw [List.length_map, hdl]
      have HCH : Hid (chosenN seed S.data.toList c limit = numC (dg.take 7) % limit) := Lib.hid (by unfold chosenN; rw [← ht, ← hdg])
      have hstr := run_str bsl 9 Tryd.underlying9 hr6 cap6
      rw [← hN6] at hstr
      have HSM : Hid (Calls Tryd.prog 64 #[.string ⟨l6.toArray⟩] wr fun e w' => e = .returned (.agg (dg.map bv).toArray) ∧ Below wr.heap.size wr w') := Lib.hid (by
        have h := refSum_any ⟨l6.toArray⟩ wr (by show l6.toArray.size < _; rw [List.size_toArray]; omega)
        rw [hdg]; exact h)
      have HI8 : Hid ((Tryd.prog.info? 64).map (·.size) = some (dg.map bv).toArray.size) := Lib.hid (by rw [info32r, List.size_toArray, hml])
      have HML := Lib.hid hml
      have HDL := Lib.hid hdl
      clear ho2 hb2 hl6 hz hr6 hN6 hl6n ht hdg hml hdl
      go_wp2_with (first
        | (go_at_call 64; refine HSM.out.mono ?_; rintro e W7 ⟨rfl, hb7⟩; have HB7 := Lib.hid (HB6.out.trans (hb7.mono hsz2)); clear hb7)
        | (show wpList _ _ _ (⟨none, .store 64 _ _, _, _, _, _⟩ :: _) _ _; refine wpList_store_mid (by rfl) 64 (.tmp 12) (.tmp 50) (by rfl) W7.heap.size 0 (dg.map bv).toArray (by rfl) (by rfl) ((new32 _ _ rfl _).thereA (dg.map bv) (by rw [HML.out]; rfl)) HI8.out (all_oneCell_toArray (bvs_oneCell _)) ?_; refine wpl_gen (fun V => Arr V W7.heap.size 0 (dg.map bv) ∧ Below w.heap.size w V) ⟨(new32 _ _ rfl _).sets _ (by rw [HML.out]; rfl), below_setCells _ HB7.out.size _ _ _ (HB7.out.alloc HB7.out.size _)⟩ ?_; rintro V ⟨hA, hB⟩; have HA8 := Lib.hid hA; have HB8 := Lib.hid hB; clear hA hB))
      obtain ⟨G, hG⟩ : ∃ G, G = W7.heap.size := ⟨_, rfl⟩
      rw [← hG] at HA8 ⊢
      clear hG
      go_loopw [13, 14] (fun x i wr2 => ∃ (k n : Nat), i = .int .i64 (k : Int) ∧ k ≤ 7 ∧ x = .int .i64 (n : Int) ∧ n = numC (dg.take k) ∧ wr2 = V) (fun _ i _ => 7 - (intOf i).toNat)
      case atStart => exact ⟨0, 0, rfl, by omega, rfl, rfl, rfl⟩
      case round =>
        obtain ⟨k, n, rfl, hk, rfl, hn, rfl⟩ := hrel
        by_cases hk7 : k < 7
        · obtain ⟨b, hb⟩ : ∃ b, dg[k]? = some b := ⟨dg[k]'(by rw [HDL.out]; omega), List.getElem?_eq_getElem _⟩
          have hcell : wr.cell? ⟨G, k, none⟩ = some (bv b) := HA8.out.cell0 (by rw [List.getElem?_map, hb]; rfl)
          have hn48 : n < 281474976710656 := by
            have h := numC_lt (dg.take k)
            rw [← hn] at h
            have : 256 ^ (dg.take k).length ≤ 256 ^ 6 := Nat.pow_le_pow_right (by omega) (by rw [List.length_take]; omega)
            omega
          have HST := Lib.hid (numC_step hb)
          rw [← hn] at HST
          clear hb hn
          go_wp2
          have hb8 := b.toNat_lt
          have hw2 : wrap64 ((n : Int) * 256 + (b.toNat : Int)) = ((n * 256 + b.toNat : Nat) : Int) := step256 n b.toNat hn48 hb8
          have hw : wrap64 (b.toNat : Int) = (b.toNat : Int) := byte64 b
          refine ⟨⟨k + 1, n * 256 + b.toNat, rfl, by omega, ?_, HST.out.symm, trivial⟩, ?_⟩
          · rw [hw, hw2]
          · simp [intOf] <;> omega
        · obtain rfl : k = 7 := by omega
          have HN := Lib.hid hn
          clear hn
          go_wp2
          refine bodyPost_ret (results_tmp2' rfl _ _ _) rfl ?_
          refine ⟨?_, HB8.out⟩
          show Ending.returned (.tuple #[.int .i64 ((n : Int) % (limit : Int)), .int .i64 0]) = _
          rw [HCH.out, ← HN.out, Int.natCast_emod]
end
end Go.Proofs.YtifbeemcphndfaaDoor
