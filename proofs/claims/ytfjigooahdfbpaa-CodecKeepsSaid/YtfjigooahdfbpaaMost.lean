/- The walk of the law's 'most', and what the round trip needs of it. -/
import Derived.Test.YtfjigooahdfbpaaCanon
import Derived.Test.YtfjigooahdfbpaaWrites
set_option linter.unusedVariables false
namespace Go.Proofs.Ytfjigooahdfbpaa
open Go.RowKit

theorem V.lim3 {v : V} (h : v.kind.toNat % 4 = 3) : v.lim = ⟨v.kind, v.n, v.is, v.s, (v.s.size : Int)⟩ := by unfold V.lim; rw [if_pos h]
theorem V.limN {v : V} (h : ¬ v.kind.toNat % 4 = 3) : v.lim = ⟨v.kind, v.n, v.is, v.s, v.n⟩ := by unfold V.lim; rw [if_neg h]

set_option maxHeartbeats 1000000 in
set_option maxRecDepth 100000 in
theorem most_any (A : Option Addr) (l : List V) (c B : Nat) (w : World) (hr : RV w B A l) (hB : B ≤ w.heap.size) (hl : l.length ≤ 40) (hok : ∀ v ∈ l, V.Ok v) :
    Calls Try.prog 30 #[.slice A l.length c] w fun e w' => ∃ v', e = .returned v' ∧ OV w' w.heap.size v' (l.map V.lim) ∧ Below w.heap.size w w' := by
  go_enter Try.func30, Try.ntmps30
  go_wp2
  go_loopw [3, 4] (fun u i wr => ∃ k : Nat, k ≤ l.length ∧ i = .int .i64 k ∧ OV wr w.heap.size u ((l.map V.lim).take k) ∧ Below w.heap.size w wr) (fun _ i _ => 40 - (intOf i).toNat)
  case atStart => exact ⟨0, by omega, rfl, OV.nil _ _, Below.refl _ _⟩
  case round =>
    obtain ⟨k, hk, rfl, ho, hb⟩ := hrel
    have HR := Lib.hid (hr.below (hb.mono hB))
    have HO := Lib.hid ho
    have HB := Lib.hid hb
    have HK := Lib.hid hok
    clear hr ho hb hok
    by_cases hlt : k < l.length
    · obtain ⟨b, off, v, rfl, hbb, hv, h0, h1, h2, h3, h4⟩ := HR.out.at_ hlt
      have HV := Lib.hid hv
      have hvo := HK.out v (List.mem_of_getElem? hv)
      have hs2 := hvo.s1
      have hbs := HB.out.size
      clear hv
      by_cases h3' : v.kind.toNat % 4 = 3
      · have t3 : ((v.kind.toNat : Int) % 4 == 3) = true := by simp; omega
        have HQ := Lib.hid (V.lim3 h3')
        clear h3'
        go_wp2_with (at_builtin; refine wpList_pushV rfl (.tmp 27) (.tmp 29) rfl w.heap.size _ ((l.map V.lim).take k) rfl _ (⟨v.kind, v.n, v.is, v.s, (v.s.size : Int)⟩ : V) rfl (HO.out.alloc _) _ rfl ?hG ?hlen ?hbase ?_)
        case hG => simp
        case hlen => simp; omega
        case hbase => simp; omega
        intro v1 w1 ho1 hg1
        have b1 := ((Below.refl w.heap.size wr).alloc hbs _).trans (hg1.below (by simp; omega) (fun k hk => (HO.out.lt k hk).1))
        have HO1 := Lib.hid ho1
        have HB1 := Lib.hid b1
        clear ho1 hg1 b1
        go_wp2
        go_roundw
        case rel =>
          refine ⟨k + 1, by omega, by go_num, ?_, HB.out.trans HB1.out⟩
          rw [take_step (v := v.lim) (by rw [List.getElem?_map, HV.out]; rfl), HQ.out]
          exact HO1.out
        case measure => simp [intOf] <;> omega
      · have t3 : ((v.kind.toNat : Int) % 4 == 3) = false := by simp; omega
        have HQ := Lib.hid (V.limN h3')
        clear h3'
        go_wp2_with (at_builtin; refine wpList_pushV rfl (.tmp 27) (.tmp 29) rfl w.heap.size _ ((l.map V.lim).take k) rfl _ (⟨v.kind, v.n, v.is, v.s, v.n⟩ : V) rfl (HO.out.alloc _) _ rfl ?hG ?hlen ?hbase ?_)
        case hG => simp
        case hlen => simp; omega
        case hbase => simp; omega
        intro v1 w1 ho1 hg1
        have b1 := ((Below.refl w.heap.size wr).alloc hbs _).trans (hg1.below (by simp; omega) (fun k hk => (HO.out.lt k hk).1))
        have HO1 := Lib.hid ho1
        have HB1 := Lib.hid b1
        clear ho1 hg1 b1
        go_wp2
        go_roundw
        case rel =>
          refine ⟨k + 1, by omega, by go_num, ?_, HB.out.trans HB1.out⟩
          rw [take_step (v := v.lim) (by rw [List.getElem?_map, HV.out]; rfl), HQ.out]
          exact HO1.out
        case measure => simp [intOf] <;> omega
    · have he : l.map V.lim = (l.map V.lim).take k := by rw [List.take_of_length_le (by simp; omega)]
      have HE := Lib.hid he
      clear he
      go_wp2
      go_ret
      exact ⟨u3, rfl, by rw [HE.out]; exact HO.out, HB.out⟩
end Go.Proofs.Ytfjigooahdfbpaa
