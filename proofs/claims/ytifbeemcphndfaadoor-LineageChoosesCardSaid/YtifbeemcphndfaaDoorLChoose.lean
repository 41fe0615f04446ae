/- lineage: the walk of Choose. -/
import Derived.Test.YtifbeemcphndfaaDoorLMake
import Derived.Test.YtifbeemcphndfaaDoorLSimple
import Derived.Test.YtifbeemcphndfaaDoorSText
import Derived.Test.YtifbeemcphndfaaDoorSApp
set_option linter.unusedVariables false
namespace Go.Proofs.YtifbeemcphndfaaDoor
open Go.RowKit

/-- A byte of the count, and its eight bytes, the highest first. -/
def cntB (c j : Nat) : UInt8 := UInt8.ofNat (c / 2 ^ (8 * j))
def cntT (c : Nat) : List UInt8 := (List.range 8).map fun i => cntB c (7 - i)
theorem cntT_length (c : Nat) : (cntT c).length = 8 := by simp [cntT]
theorem cntT_step (c k : Nat) (hk : k < 8) : (cntT c).take (k + 1) = (cntT c).take k ++ [cntB c (7 - k)] := by
  rw [List.take_add_one]
  unfold cntT
  rw [List.getElem?_map, List.getElem?_range hk]; rfl
theorem cntB_eq (c k : Nat) : (c : Int) / 2 ^ (8 * k) % 256 = ((cntB c k).toNat : Int) := by
  unfold cntB
  rw [UInt8.toNat_ofNat']
  have : ((2 : Int) ^ (8 * k)) = ((2 ^ (8 * k) : Nat) : Int) := by rw [Int.natCast_pow]; rfl
  rw [this]
  generalize 2 ^ (8 * k) = m
  rw [← Int.natCast_ediv]
  generalize c / m = q
  omega
theorem cntB_int (c s k : Nat) (h : s = 8 * k) : IntKind.u8.wrap ((c : Int) / 2 ^ s) = ((cntB c k).toNat : Int) := by
  subst h
  rw [IntKind.wrap_u8, ← cntB_eq]
/-- The text that is hashed, and the number of its hash's first seven bytes. -/
def textC (seed : List UInt8) (S : List UInt8) (c : Nat) : List UInt8 := seed ++ S ++ [0] ++ cntT c
def numC (d : List UInt8) : Nat := d.foldl (fun x b => x * 256 + b.toNat) 0
def chosenN (seed S : List UInt8) (c limit : Nat) : Nat := numC ((sumS (textC seed S c)).take 7) % limit
theorem numC_step {d : List UInt8} {k : Nat} {b : UInt8} (h : d[k]? = some b) : numC (d.take (k + 1)) = numC (d.take k) * 256 + b.toNat := by
  unfold numC
  rw [List.take_add_one, h]; simp
theorem numC_lt (d : List UInt8) : numC d < 256 ^ d.length := by
  unfold numC
  have : ∀ (l : List UInt8) (x k : Nat), x < 256 ^ k → l.foldl (fun x b => x * 256 + b.toNat) x < 256 ^ (k + l.length) := by
    intro l
    induction l with
    | nil => intro x k h; simpa using h
    | cons a r ih =>
      intro x k h
      rw [List.foldl_cons, List.length_cons, show k + (r.length + 1) = (k + 1) + r.length by omega]
      refine ih _ _ ?_
      have := a.toNat_lt
      rw [Nat.pow_succ]
      omega
  simpa using this d 0 0 (by simp)
theorem i64_or_byte (n : Nat) (b : UInt8) (hn : n < 281474976710656) : bits .or .i64 ((n : Int) * 256) (b.toNat : Int) = ((n * 256 + b.toNat : Nat) : Int) := by
  have hb := b.toNat_lt
  have e : ∀ n : Nat, n < 2 ^ 63 → (BitVec.ofInt 64 (n : Int)).toNat = n := fun n hn => by
    rw [BitVec.ofInt_natCast, BitVec.toNat_ofNat]; exact Nat.mod_eq_of_lt (by omega)
  have ho : (n * 256) ||| b.toNat = n * 256 + b.toNat := by
    rw [show n * 256 = 2 ^ 8 * n by omega, Nat.two_pow_add_eq_or_of_lt (by omega)]
  have hm : ((n : Int) * 256) = ((n * 256 : Nat) : Int) := by omega
  rw [hm]
  show IntKind.i64.wrap ((BitVec.ofInt 64 ((n * 256 : Nat) : Int) ||| BitVec.ofInt 64 (b.toNat : Int)).toNat : Int) = _
  rw [BitVec.toNat_or, e _ (by omega), e _ (by omega), ho, IntKind.wrap_i64]
  omega

theorem wrap64_small {x : Int} (h0 : -9223372036854775808 ≤ x) (h1 : x < 9223372036854775808) : wrap64 x = x := by
  unfold wrap64; omega
theorem OG.arr {w : World} {g base : Nat} {l : List UInt8} (h : Arr w g 0 (l.map bv)) (hb : base ≤ g) (h0 : 0 < l.length) (hl : l.length ≤ maxLen) : OG w base (.slice (some ⟨g, 0, none⟩) l.length l.length) l :=
  ⟨_, _, rfl, Nat.le_refl _, hl, .inr ⟨g, rfl, hb, h.lt (by simpa using h0), fun j c hj => h.cell0 (by rw [List.getElem?_map, hj]; rfl), fun j h1 h2 => absurd h2 (by omega)⟩⟩

section
variable (seed : List UInt8) (S : ByteArray) (w : World)
set_option maxHeartbeats 1000000 in
set_option maxRecDepth 100000 in
theorem choose_name (c limit : Int) (hS : S.size ≤ 1000000) (hv : validB S.data.toList = false) :
    Calls Tryd.prog 41 #[.agg (seed.map bv).toArray, .string S, .int .i64 c, .int .i64 limit] w fun e w' => e = .returned (.tuple #[.int .i64 0, .int .i64 12]) ∧ Below w.heap.size w w' := by
  have HV := Lib.hid fun W => valid_any S W hS
  rw [hv] at HV
  clear hv hS
  go_enter Tryd.func41, Tryd.ntmps41
  go_wp2_with (go_at_call 18; refine (HV.out _).mono ?_; rintro r W1 ⟨rfl, hb1⟩; have HB := Lib.hid hb1; clear hb1)
  refine bodyPost_ret (results_tmp2' rfl _ _ _) rfl ?_
  exact ⟨rfl, (below_alloc0 _ _ (Nat.le_refl _)).trans (HB.out.mono (by simp))⟩

set_option maxHeartbeats 1000000 in
set_option maxRecDepth 100000 in
theorem choose_range (c limit : Int) (hS : S.size ≤ 1000000) (hv : validB S.data.toList = true) (hr : c < 0 ∨ limit < 1 ∨ 2147483648 < limit) :
    Calls Tryd.prog 41 #[.agg (seed.map bv).toArray, .string S, .int .i64 c, .int .i64 limit] w fun e w' => e = .returned (.tuple #[.int .i64 0, .int .i64 2]) ∧ Below w.heap.size w w' := by
  have HV := Lib.hid fun W => valid_any S W hS
  rw [hv] at HV
  clear hv hS
  by_cases h1 : c < 0
  · clear hr
    go_enter Tryd.func41, Tryd.ntmps41
    go_wp2_with (go_at_call 18; refine (HV.out _).mono ?_; rintro r W1 ⟨rfl, hb1⟩; have HB := Lib.hid hb1; clear hb1)
    refine bodyPost_ret (results_tmp2' rfl _ _ _) rfl ?_
    exact ⟨rfl, (below_alloc0 _ _ (Nat.le_refl _)).trans (HB.out.mono (by simp))⟩
  · by_cases h2 : limit < 1
    · clear hr
      go_enter Tryd.func41, Tryd.ntmps41
      go_wp2_with (go_at_call 18; refine (HV.out _).mono ?_; rintro r W1 ⟨rfl, hb1⟩; have HB := Lib.hid hb1; clear hb1)
      refine bodyPost_ret (results_tmp2' rfl _ _ _) rfl ?_
      exact ⟨rfl, (below_alloc0 _ _ (Nat.le_refl _)).trans (HB.out.mono (by simp))⟩
    · have h3 : 2147483648 < limit := by omega
      clear hr
      go_enter Tryd.func41, Tryd.ntmps41
      go_wp2_with (go_at_call 18; refine (HV.out _).mono ?_; rintro r W1 ⟨rfl, hb1⟩; have HB := Lib.hid hb1; clear hb1)
      refine bodyPost_ret (results_tmp2' rfl _ _ _) rfl ?_
      exact ⟨rfl, (below_alloc0 _ _ (Nat.le_refl _)).trans (HB.out.mono (by simp))⟩

set_option maxHeartbeats 2000000 in
set_option maxRecDepth 100000 in
theorem choose_any (c limit : Nat) (hS : S.size ≤ 1000000) (hv : validB S.data.toList = true) (hc : c < 9223372036854775808) (h1 : 1 ≤ limit) (h2 : limit ≤ 2147483648) (hsd : seed.length = 32) (hT : Tab w) :
    Calls Tryd.prog 41 #[.agg (seed.map bv).toArray, .string S, .int .i64 (c : Int), .int .i64 (limit : Int)] w fun e w' => e = .returned (.tuple #[.int .i64 (chosenN seed S.data.toList c limit : Int), .int .i64 0]) ∧ Below w.heap.size w w' := by
  have HV := Lib.hid fun W => valid_any S W hS
  rw [hv] at HV
  have g1 : decide ((c : Int) < 0) = false := by simp
  have g2 : decide ((limit : Int) < 1) = false := by simp; omega
  have g3 : decide (2147483648 < (limit : Int)) = false := by simp; omega
  have HSD := Lib.hid hsd
  have hsl : S.data.toList.length ≤ 1000000 := by simpa using hS
  have HSL := Lib.hid hsl
  have HA : Hid (Arr (w.alloc (.cells (seed.map bv).toArray 64)) w.heap.size 0 (seed.map bv)) := Lib.hid (Arr.new w _ _)
  have HT := Lib.hid hT
  clear hv hS hsd hT hsl
  go_enter Tryd.func41, Tryd.ntmps41
  go_wp2_with (first
    | (go_at_call 18; refine (HV.out _).mono ?_; rintro r W1 ⟨rfl, hb1⟩; have HO := Lib.hid (OG.arr (base := w.heap.size) (HA.out.below hb1 (by simp)) (Nat.le_refl _) (by rw [HSD.out]; omega) (by rw [HSD.out]; decide)); rw [HSD.out] at HO; have HB := Lib.hid ((below_alloc0 (B := w.heap.size) w _ (Nat.le_refl _)).trans (hb1.mono (by simp))); clear hb1)
    | (refine wpList_appG bsl (by rfl) (.tmp 31) (.tmp 32) 23 (by rfl) w.heap.size _ seed S.data.toList (by rfl) HO.out (.string S) (by rfl) (src_str Tryd.underlying23 _ S _ rfl) (by have := HSL.out; rw [HSD.out]; omega) HB.out.size ?_; intro v2 W2 ho2 hb2; have HB2 := Lib.hid (HB.out.trans hb2); obtain ⟨l2, hl2⟩ : ∃ l, l = seed ++ S.data.toList := ⟨_, rfl⟩; rw [← hl2] at ho2; obtain ⟨A2, cap2, hv2, _⟩ := ho2.form; obtain ⟨N2, hN2⟩ : ∃ N, N = l2.length := ⟨_, rfl⟩; rw [← hN2] at hv2; subst hv2; have HO2 := Lib.hid ho2; have HL2 := Lib.hid hl2; have HN2 := Lib.hid hN2; clear ho2 hb2 hl2 hN2)
    | (refine wpList_appG bsl (by rfl) (.tmp 34) (.tmp 35) 72 (by rfl) w.heap.size (.slice A2 N2 cap2) l2 [0] (by rfl) (HO2.out.alloc _) (.slice (some ⟨W2.heap.size, 0, none⟩) 1 1) (by rfl) (src_lit bsl W2 [0] 1 _ rfl) (by have := HSL.out; rw [HL2.out, List.length_append, HSD.out]; simp at this ⊢; omega) (by have := HB2.out.size; simp; omega) ?_; intro v3 W3 ho3 hb3; have HB3 := Lib.hid (((HB2.out.alloc HB2.out.size _)).trans hb3); obtain ⟨l3, hl3⟩ : ∃ l, l = l2 ++ [0] := ⟨_, rfl⟩; rw [← hl3] at ho3; have HO3 := Lib.hid ho3; have HL3 := Lib.hid hl3; clear ho3 hb3 hl3))
  have H3L : Hid (l3.length ≤ 1000033) := Lib.hid (by have := HSL.out; rw [HL3.out, HL2.out, List.length_append, List.length_append, HSD.out]; simp at this ⊢; omega)
  clear g1 g2 g3
  go_loopw [10, 11] (fun u i wr => ∃ (q : Nat) (z : Int), i = .int .i64 z ∧ z = 56 - 8 * (q : Int) ∧ q ≤ 8 ∧ OG wr w.heap.size u (l3 ++ (cntT c).take q) ∧ Below w.heap.size w wr) (fun _ i _ => (intOf i + 8).toNat)
  case atStart => exact ⟨0, 56, rfl, by omega, by omega, by rw [List.take_zero, List.append_nil]; exact HO3.out, HB3.out⟩
  case round =>
    obtain ⟨q, z, rfl, hz, hq, ho2, hb2⟩ := hrel
    obtain ⟨l4, hl4⟩ : ∃ l, l = l3 ++ (cntT c).take q := ⟨_, rfl⟩
    have hl4n : l4.length ≤ 1000050 := by
      have := H3L.out
      rw [hl4, List.length_append, List.length_take, cntT_length]; omega
    rw [← hl4] at ho2
    have hsz2 := hb2.size
    obtain ⟨A4, cap4, hv4, hr4, _⟩ := ho2.form
    obtain ⟨N4, hN4⟩ : ∃ N, N = l4.length := ⟨_, rfl⟩
    rw [← hN4] at hv4
    subst hv4
    have HO4 := Lib.hid ho2
    have HB4 := Lib.hid hb2
    have HL4 := Lib.hid hl4
    have HN4 := Lib.hid hN4
    have HLN := Lib.hid hl4n
    by_cases hq8 : q < 8
    · obtain ⟨s, hs⟩ : ∃ s : Nat, s = 8 * (7 - q) := ⟨_, rfl⟩
      obtain rfl : z = (s : Int) := by omega
      have hs3 : (0 : Int) ≤ (s : Int) := by omega
      have hs4 : min s 64 = s := by omega
      have HCB := Lib.hid (cntB_int c s (7 - q) hs)
      obtain ⟨cb, hcb⟩ : ∃ x, x = cntB c (7 - q) := ⟨_, rfl⟩
      rw [← hcb, IntKind.wrap_u8] at HCB
      have HC2 := Lib.hid hcb
      have HS := Lib.hid hs
      clear ho2 hb2 hl4 hz hr4 hN4 hl4n hs hcb
      go_wp2_with (rw [HCB.out]; refine wpList_appG bsl (by rfl) (.tmp 41) (.tmp 46) 72 (by rfl) w.heap.size (.slice A4 N4 cap4) l4 [cb] (by rfl) (HO4.out.alloc _) (.slice (some ⟨wr.heap.size, 0, none⟩) 1 1) (by rfl) (src_lit bsl wr [cb] 1 _ rfl) (by have := HLN.out; simp; omega) (by simp; omega) ?_; intro v5 W5 ho5 hb5; have HO5 := Lib.hid ho5; have HB5 := Lib.hid (((HB4.out.alloc HB4.out.size _)).trans hb5); clear ho5 hb5)
      go_roundw
      case rel =>
        exact ⟨q + 1, _, rfl, by have := HS.out; omega, by omega, by rw [cntT_step c q hq8, ← List.append_assoc, ← HL4.out, ← HC2.out]; exact HO5.out, HB5.out⟩
      case measure => simp [intOf] <;> omega
    · have hq9 : q = 8 := by omega
      subst hq9
      obtain rfl : z = -8 := by omega
      have ht : l4 = textC seed S.data.toList c := by
        rw [hl4, List.take_of_length_le (by rw [cntT_length]; omega), HL3.out, HL2.out]; rfl
      obtain ⟨dg, hdg⟩ : ∃ d, d = sumS l4 := ⟨_, rfl⟩
      have hdl : dg.length = 32 := by rw [hdg]; unfold sumS; exact digest_length _
      have hml : (dg.map bv).length = 32 := by rw [List.length_map, hdl]
      have HCH : Hid (chosenN seed S.data.toList c limit = numC (dg.take 7) % limit) := Lib.hid (by unfold chosenN; rw [← ht, ← hdg])
      have hstr := run_str bsl 9 Tryd.underlying9 hr4 cap4
      rw [← hN4] at hstr
      have HSM : Hid (Calls Tryd.prog 62 #[.string ⟨l4.toArray⟩] wr fun e w' => e = .returned (.agg (dg.map bv).toArray) ∧ Below wr.heap.size wr w') := Lib.hid (by
        have h := sumText_any ⟨l4.toArray⟩ wr (HT.out.below HB4.out HT.out.1) (by show l4.toArray.size < _; rw [List.size_toArray]; omega)
        rw [hdg]; exact h)
      have HI9 : Hid ((Tryd.prog.info? 96).map (·.size) = some (dg.map bv).length) := Lib.hid (by rw [info32, hml])
      have HI8 : Hid ((Tryd.prog.info? 96).map (·.size) = some (dg.map bv).toArray.size) := Lib.hid (by rw [info32, List.size_toArray, hml])
      have HML := Lib.hid hml
      have HDL := Lib.hid hdl
      clear ho2 hb2 hl4 hz hr4 hN4 hl4n ht hdg hml hdl
      go_wp2_with (first
        | (go_at_call 62; refine HSM.out.mono ?_; rintro e W5 ⟨rfl, hb5⟩; have HB5 := Lib.hid (HB4.out.trans (hb5.mono hsz2)); clear hb5)
        | (show wpList _ _ _ (⟨none, .store 96 _ _, _, _, _, _⟩ :: _) _ _; refine wpList_store_mid (by rfl) 96 (.tmp 12) (.tmp 50) (by rfl) W5.heap.size 0 (dg.map bv).toArray (by rfl) (by rfl) ((new32 _ _ rfl _).thereA (dg.map bv) (by rw [HML.out]; rfl)) HI8.out (all_oneCell_toArray (bvs_oneCell _)) ?_; refine wpl_gen (fun V => Arr V W5.heap.size 0 (dg.map bv) ∧ Below w.heap.size w V) ⟨(new32 _ _ rfl _).sets _ (by rw [HML.out]; rfl), below_setCells _ HB5.out.size _ _ _ (HB5.out.alloc HB5.out.size _)⟩ ?_; rintro V ⟨hA, hB⟩; have HA6 := Lib.hid hA; have HB6 := Lib.hid hB; clear hA hB))
      have HG : Hid (w.heap.size ≤ W5.heap.size) := Lib.hid HB5.out.size
      obtain ⟨G, hG⟩ : ∃ G, G = W5.heap.size := ⟨_, rfl⟩
      rw [← hG] at HA6 HG ⊢
      clear hG
      go_loopw [13, 53] (fun x i wr2 => ∃ (k n : Nat), i = .int .i64 (k : Int) ∧ k ≤ 7 ∧ x = .int .i64 (n : Int) ∧ n = numC (dg.take k) ∧ wr2 = V) (fun _ i _ => 7 - (intOf i).toNat)
      case atStart => exact ⟨0, 0, rfl, by omega, rfl, rfl, rfl⟩
      case round =>
        obtain ⟨k, n, rfl, hk, rfl, hn, rfl⟩ := hrel
        by_cases hk7 : k < 7
        · obtain ⟨b, hb⟩ : ∃ b, dg[k]? = some b := ⟨dg[k]'(by rw [HDL.out]; omega), List.getElem?_eq_getElem _⟩
          have hcell : wr.cell? ⟨G, k, none⟩ = some (bv b) := HA6.out.cell0 (by rw [List.getElem?_map, hb]; rfl)
          have hn48 : n < 281474976710656 := by
            have h := numC_lt (dg.take k)
            rw [← hn] at h
            have : 256 ^ (dg.take k).length ≤ 256 ^ 6 := Nat.pow_le_pow_right (by omega) (by rw [List.length_take]; omega)
            omega
          have HOR := Lib.hid (i64_or_byte n b hn48)
          have HST := Lib.hid (numC_step hb)
          rw [← hn] at HST
          clear hb hn
          go_wp2
          have hw : wrap64 (b.toNat : Int) = (b.toNat : Int) := by have := b.toNat_lt; exact wrap64_small (by omega) (by omega)
          refine ⟨⟨k + 1, n * 256 + b.toNat, rfl, by omega, ?_, HST.out.symm, trivial⟩, ?_⟩
          · rw [hw, HOR.out]
          · simp [intOf] <;> omega
        · obtain rfl : k = 7 := by omega
          have HN := Lib.hid hn
          clear hn
          go_wp2
          refine bodyPost_ret (results_tmp2' rfl _ _ _) rfl ?_
          refine ⟨?_, HB6.out⟩
          show Ending.returned (.tuple #[.int .i64 ((n : Int) % (limit : Int)), .int .i64 0]) = _
          rw [HCH.out, ← HN.out, Int.natCast_emod]
end
end Go.Proofs.YtifbeemcphndfaaDoor
