/- The walk of the reference's Pad. -/
import Derived.Test.YtifbeemcphndfaaDoorSPad
import Derived.Test.YtifbeemcphndfaaDoorSApp
set_option linter.unusedVariables false
namespace Go.Proofs.YtifbeemcphndfaaDoor
open Go.RowKit

def sliceLen : Value → Nat
  | .slice _ n _ => n
  | _ => 0
theorem lenBytes_step (n k : Nat) (hk : k < 8) : (lenBytes n).take (k + 1) = (lenBytes n).take k ++ [lenByte n (7 - k)] := by
  rw [List.take_add_one]
  unfold lenBytes
  rw [List.getElem?_map, List.getElem?_range hk]; rfl
theorem tmod_nat (n m : Nat) : (n : Int).tmod (m : Int) = ((n % m : Nat) : Int) := by rw [Int.tmod_eq_emod_of_nonneg (by omega)]; omega
theorem lenByte_int (n j : Nat) : IntKind.u8.wrap (8 * (n : Int) / 2 ^ (8 * j)) = ((lenByte n j).toNat : Int) := by
  rw [← lenByte_eq, IntKind.wrap_u8]

set_option maxHeartbeats 1000000 in
set_option maxRecDepth 100000 in
theorem pad_any (S : ByteArray) (w : World) (hS : S.size < 1099511627776) :
    Calls Tryd.prog 75 #[.string S] w fun e w' => ∃ v, e = .returned v ∧ OG w' w.heap.size v (padS S.data.toList) ∧ Below w.heap.size w w' := by
  obtain ⟨c1, W1, hcv, hO1, hB1⟩ : ∃ c1 W1, (convert 9 72 (.string S)).run Tryd.prog w = .ok (.slice (some ⟨w.heap.size, 0, none⟩) S.size c1) W1 ∧ OG W1 w.heap.size (.slice (some ⟨w.heap.size, 0, none⟩) S.size c1) S.data.toList ∧ Below w.heap.size w W1 :=
    ⟨_, _, run_bytes bsl Tryd.underlying9 w S, og_bytes w S 5 w.heap.size (Nat.le_refl _) (by omega), ((Below.refl w.heap.size w).drew).alloc (by simp) _⟩
  obtain ⟨n, hn⟩ : ∃ n, n = S.size := ⟨_, rfl⟩
  rw [← hn] at hcv hO1
  have hsz8 : S.size = n := hn.symm
  have hsl : S.data.toList.length = n := by rw [hn]; simp
  have HSL := Lib.hid hsl
  have HN := Lib.hid hn
  have HO1 := Lib.hid hO1
  have HB1 := Lib.hid hB1
  have hn40 : n < 1099511627776 := by omega
  have HP : Hid (padS S.data.toList = S.data.toList ++ [128] ++ zs (padN n) ++ lenBytes n) := Lib.hid (by unfold padS; rw [hsl])
  clear hO1 hB1 hsl hn hS
  go_enter Tryd.func75, Tryd.ntmps75
  go_wp2_with (refine wpList_appG bsl (by rfl) (.tmp 7) (.tmp 8) 72 (by rfl) w.heap.size (.slice (some ⟨w.heap.size, 0, none⟩) n c1) S.data.toList [128] (by rfl) (HO1.out.alloc _) (.slice (some ⟨W1.heap.size, 0, none⟩) 1 1) (by rfl) (src_lit bsl W1 [128] 1 _ rfl) (by rw [HSL.out]; simp; omega) (by have := HB1.out.size; simp; omega) ?_; intro v2 W2 ho2 hb2; have HO2 := Lib.hid ho2; have HB2 := Lib.hid (((HB1.out.alloc HB1.out.size _)).trans hb2); clear ho2 hb2)
  clear hcv
  go_loopw [3] (fun u wr => ∃ k : Nat, k ≤ padN n ∧ OG wr w.heap.size u (S.data.toList ++ [128] ++ zs k) ∧ Below w.heap.size w wr) (fun u _ => n + 1 + padN n - sliceLen u)
  case atStart => exact ⟨0, Nat.zero_le _, by rw [show zs 0 = [] from rfl, List.append_nil]; exact HO2.out, HB2.out⟩
  case round =>
    obtain ⟨k, hk, ho, hb⟩ := hrel
    obtain ⟨l, hl⟩ : ∃ l, l = S.data.toList ++ [128] ++ zs k := ⟨_, rfl⟩
    rw [← hl] at ho
    obtain ⟨A, cap, hv, hr, _, _⟩ := ho.form
    obtain ⟨N, hN⟩ : ∃ N, N = l.length := ⟨_, rfl⟩
    have hNe : N = n + 1 + k := by rw [hN, hl, List.length_append, List.length_append, HSL.out, zs_length]; rfl
    rw [← hN] at hv
    subst hv
    have hpl := padN_lt n
    have HO := Lib.hid ho
    have HB := Lib.hid hb
    have HL := Lib.hid hl
    have HNN := Lib.hid hN
    have hsz := hb.size
    by_cases hlt : k < padN n
    · have h56 : ((N : Int) % 64 != 56) = true := by
        have := padN_least n k hlt
        simp; omega
      have HNE := Lib.hid hNe
      clear ho hb hl hr hN hNe
      go_wp2_with (refine wpList_appG bsl (by rfl) (.tmp 14) (.tmp 15) 72 (by rfl) w.heap.size (.slice A N cap) l [0] (by rfl) (HO.out.alloc _) (.slice (some ⟨wr.heap.size, 0, none⟩) 1 1) (by rfl) (src_lit bsl wr [0] 1 _ rfl) (by rw [← HNN.out, HNE.out]; simp; omega) (by simp; omega) ?_; intro v3 W3 ho3 hb3; have HO3 := Lib.hid ho3; have HB3 := Lib.hid (((HB.out.alloc HB.out.size _)).trans hb3); clear ho3 hb3)
      go_roundw
      case rel => exact ⟨k + 1, by omega, by rw [zs_succ, ← List.append_assoc, ← HL.out]; exact HO3.out, HB3.out⟩
      case measure =>
        obtain ⟨A3, cap3, hv3, _⟩ := HO3.out.form
        rw [hv3]
        show n + 1 + padN n - (l ++ [0]).length < n + 1 + padN n - N
        rw [List.length_append, ← HNN.out, HNE.out]; show n + 1 + padN n - (n + 1 + k + 1) < _; omega
    · have hk2 : k = padN n := by omega
      have h56 : ((N : Int) % 64 != 56) = false := by
        have := padN_56 n
        simp; omega
      have HNE := Lib.hid hNe
      clear ho hb hl hr hN hNe
      go_wp2
      obtain ⟨wo, ewo⟩ : ∃ wo : World, wo = wr := ⟨_, rfl⟩
      rw [← ewo] at HO HB ⊢
      clear ewo
      go_loopw [3, 5] (fun u i w2 => ∃ (q : Nat) (z : Int), i = .int .i64 z ∧ z = 7 - (q : Int) ∧ q ≤ 8 ∧ OG w2 w.heap.size u (l ++ (lenBytes n).take q) ∧ Below w.heap.size w w2) (fun _ i _ => (intOf i + 1).toNat)
      case atStart => exact ⟨0, 7, rfl, by omega, by omega, by rw [List.take_zero, List.append_nil]; exact HO.out, HB.out⟩
      case round =>
        obtain ⟨q, z, rfl, hz, hq, ho2, hb2⟩ := hrel
        obtain ⟨l2, hl2⟩ : ∃ l2, l2 = l ++ (lenBytes n).take q := ⟨_, rfl⟩
        have hl2n : l2.length ≤ n + 100 := by
          rw [hl2, List.length_append, ← HNN.out, HNE.out, List.length_take, lenBytes_length]; omega
        rw [← hl2] at ho2
        have HL2 := Lib.hid hl2
        have HO2' := Lib.hid ho2
        have HB2' := Lib.hid hb2
        have hsz2 := hb2.size
        by_cases hq8 : q < 8
        · obtain ⟨j, hj⟩ : ∃ j : Nat, z = (j : Int) := ⟨7 - q, by omega⟩
          subst hj
          have hj7 : j = 7 - q := by omega
          have hi3 : (0 : Int) ≤ 8 * (j : Int) := by omega
          have hi4 : min (8 * (j : Int)).toNat 64 = 8 * j := by omega
          have HJ := Lib.hid hj7
          have HZ := Lib.hid hz
          clear ho2 hb2 hl2 hz hj7
          obtain ⟨A2, cap2, hv2, _⟩ := HO2'.out.form
          subst hv2
          go_wp2_with (rw [lenByte_eq]; refine wpList_appG bsl (by rfl) (.tmp 24) (.tmp 30) 72 (by rfl) w.heap.size (.slice A2 l2.length cap2) l2 [lenByte n j] (by rfl) (HO2'.out.alloc _) (.slice (some ⟨wr.heap.size, 0, none⟩) 1 1) (by rfl) (src_lit bsl wr [lenByte n j] 1 _ rfl) (by simp; omega) (by simp; omega) ?_; intro v3 W3 ho3 hb3; have HO3 := Lib.hid ho3; have HB3 := Lib.hid (((HB2'.out.alloc HB2'.out.size _)).trans hb3); clear ho3 hb3)
          go_roundw
          case rel =>
            exact ⟨q + 1, _, rfl, by have := HZ.out; omega, by omega, by rw [lenBytes_step n q hq8, ← List.append_assoc, ← HL2.out, ← HJ.out]; exact HO3.out, HB3.out⟩
          case measure => simp [intOf] <;> omega
        · have hq9 : q = 8 := by omega
          subst hq9
          have hz1 : z = -1 := by omega
          subst hz1
          clear ho2 hb2 hl2 hz
          go_wp2
          go_ret
          refine ⟨_, rfl, ?_, HB2'.out⟩
          have e := HO2'.out
          rw [HL2.out, List.take_of_length_le (by rw [lenBytes_length]; omega), HL.out] at e
          rw [HP.out, ← hk2]
          exact e
end Go.Proofs.YtifbeemcphndfaaDoor
