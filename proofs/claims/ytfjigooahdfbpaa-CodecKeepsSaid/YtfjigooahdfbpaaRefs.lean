/- The walks of the reference's Signed, Text and Write. -/
import Derived.Test.YtfjigooahdfbpaaVs
set_option linter.unusedVariables false
namespace Go.Proofs.Ytfjigooahdfbpaa
open Go.RowKit

theorem refSigned_any (n : Int) (w : World) (h0 : -9223372036854775808 ≤ n) (h1 : n ≤ 9223372036854775807) :
    Calls Try.prog 45 #[.int .i64 n] w fun e w' => e = .returned (.int .u64 ((zig n : Nat) : Int)) ∧ w = w' := by
  by_cases h : n < 0
  · have HZ := Lib.hid (zig_neg h)
    have hn : ¬ 0 ≤ n := by omega
    go_enter Try.func45, Try.ntmps45
    go_wp2
    go_ret
    refine ⟨ret_int ?_, rfl⟩
    rw [HZ.out]
    first | omega | (simp only [IntKind.wrap_u64, IntKind.wrap_i64]; omega)
  · have HZ := Lib.hid (zig_pos h)
    have hn : 0 ≤ n := by omega
    go_enter Try.func45, Try.ntmps45
    go_wp2
    go_ret
    refine ⟨ret_int ?_, rfl⟩
    rw [HZ.out]

theorem natural_int (n : Int) (w : World) (h0 : 0 ≤ n) (h1 : n < 18446744073709551616) :
    Calls Try.prog 15 #[.int .u64 n] w fun e w' => ∃ v', e = .returned v' ∧ OB 5 w' w.heap.size v' (enc n.toNat) ∧ Below w.heap.size w w' := by
  obtain ⟨k, rfl⟩ := Int.eq_ofNat_of_zero_le h0
  rw [Int.toNat_natCast]
  exact natural_any k w (by omega)

theorem str_at {s : ByteArray} {k : Nat} (h : k < s.size) : s.data.toList[k]? = some s[k] := by
  have : k < s.data.toList.length := by simpa using h
  rw [List.getElem?_eq_getElem this]; rfl

set_option maxHeartbeats 1000000 in
set_option maxRecDepth 100000 in
theorem refText_any (s : ByteArray) (w : World) (hs : s.size ≤ 16777216) :
    Calls Try.prog 46 #[.string s] w fun e w' => ∃ v', e = .returned v' ∧ OB 5 w' w.heap.size v' (enc s.size ++ s.data.toList) ∧ Below w.heap.size w w' := by
  have hel := enc_len10 (n := s.size) (by omega)
  obtain ⟨E, hE⟩ : ∃ E, E = enc s.size := ⟨_, rfl⟩
  have HN := Lib.hid (natural_any s.size w (by omega))
  rw [← hE] at hel HN
  go_enter Try.func46, Try.ntmps46
  have HE := Lib.hid hE
  clear hE
  go_wp2_with fail
  refine HN.out.mono ?_
  rintro x w1 ⟨v1, rfl, ho1, hb1⟩
  have HO1 := Lib.hid ho1
  have HB1 := Lib.hid hb1
  clear ho1 hb1
  go_wp2
  go_loopw [3, 4] (fun u i wr => ∃ k : Nat, k ≤ s.size ∧ i = .int .i64 k ∧ OB 5 wr w.heap.size u (E ++ s.data.toList.take k) ∧ Below w.heap.size w wr) (fun _ i _ => s.size - (intOf i).toNat)
  case atStart => exact ⟨0, by omega, rfl, by simpa using HO1.out, HB1.out⟩
  case round =>
    obtain ⟨k, hk, rfl, ho, hb⟩ := hrel
    have HO := Lib.hid ho
    have HB := Lib.hid hb
    have hbs := hb.size
    clear ho hb
    by_cases hlt : k < s.size
    · have HC := Lib.hid (str_at hlt)
      have hlen : (E ++ s.data.toList.take k).length + 1 ≤ 140737488355328 := by simp <;> omega
      have HL := Lib.hid hlen
      clear hlen
      go_wp2_with (at_builtin; refine wpList_push bsl rfl (.tmp 15) (.tmp 19) rfl w.heap.size _ (E ++ s.data.toList.take k) rfl _ s[k] rfl HO.out rfl HL.out hbs ?_)
      intro u1 w1' ho1 hg1
      have HO1' := Lib.hid ho1
      have HG1 := Lib.hid (HB.out.trans (hg1.below hbs (fun j hj => (HO.out.lt j hj).1)))
      clear ho1 hg1
      go_wp2
      go_roundw
      case rel => exact ⟨k + 1, by omega, by go_num, by rw [take_step HC.out]; simpa using HO1'.out, HG1.out⟩
      case measure => simp [intOf] <;> omega
    · have he : E ++ s.data.toList = E ++ s.data.toList.take k := by rw [List.take_of_length_le (by simp; omega)]
      have HX := Lib.hid he
      clear he
      go_wp2
      go_ret
      exact ⟨u3, rfl, by rw [← HE.out, HX.out]; exact HO.out, HB.out⟩

theorem foldl_err (l : List V) : ∀ s : List UInt8 × Nat, s.2 ≠ 0 → (l.foldl wstep s).2 = s.2 := by
  induction l with
  | nil => intro s _; rfl
  | cons v r ih =>
    intro s h
    have e : (wstep s v).2 = s.2 := by
      unfold wstep errOf
      repeat' split
      all_goals first | rfl | (simp_all; done)
    rw [List.foldl_cons, ih _ (by rw [e]; exact h), e]

theorem foldl_at (l : List V) (s0 : List UInt8 × Nat) (k : Nat) (v : V) (hv : l[k]? = some v) (h : (wstep ((l.take k).foldl wstep s0) v).2 ≠ 0) : (l.foldl wstep s0).2 = (wstep ((l.take k).foldl wstep s0) v).2 := by
  have e : l = l.take (k + 1) ++ l.drop (k + 1) := (List.take_append_drop _ _).symm
  have h1 : (l.take (k + 1)).foldl wstep s0 = wstep ((l.take k).foldl wstep s0) v := by rw [take_step hv, List.foldl_append]; rfl
  calc (l.foldl wstep s0).2 = ((l.take (k + 1) ++ l.drop (k + 1)).foldl wstep s0).2 := by rw [← e]
    _ = ((l.drop (k + 1)).foldl wstep (wstep ((l.take k).foldl wstep s0) v)).2 := by rw [List.foldl_append, h1]
    _ = _ := foldl_err _ _ h

/-- What ref.Write returns. -/
def WRes (w : World) (l : List V) (e : Ending) (w' : World) : Prop :=
  ((l.foldl wstep ([], 0)).2 = 0 ∧ (∃ v', e = .returned (.tuple #[v', .int .i64 0]) ∧ OB 5 w' w.heap.size v' (l.foldl wstep ([], 0)).1) ∧ Below w.heap.size w w') ∨
  ((l.foldl wstep ([], 0)).2 ≠ 0 ∧ e = .returned (.tuple #[.slice none 0 0, .int .i64 ((l.foldl wstep ([], 0)).2 : Int)]) ∧ Below w.heap.size w w')

set_option maxHeartbeats 1000000 in
set_option maxRecDepth 100000 in
theorem refWrite_any (A : Option Addr) (l : List V) (c : Nat) (w : World) (hr : RV w w.heap.size A l) (hl : l.length ≤ 40) (hok : ∀ v ∈ l, V.Ok v) :
    Calls Try.prog 22 #[.slice A l.length c] w (WRes w l) := by
  go_enter Try.func22, Try.ntmps22
  go_wp2
  go_loopw [4, 5] (fun u i wr => ∃ k : Nat, k ≤ l.length ∧ i = .int .i64 k ∧ ((l.take k).foldl wstep ([], 0)).2 = 0 ∧ OB 5 wr w.heap.size u ((l.take k).foldl wstep ([], 0)).1 ∧ Below w.heap.size w wr ∧ ((l.take k).foldl wstep ([], 0)).1.length ≤ k * 16777300) (fun _ i _ => l.length - (intOf i).toNat)
  case atStart => exact ⟨0, by omega, rfl, rfl, OB.nil _ _ _, Below.refl _ _, by simp⟩
  case round =>
    obtain ⟨k, hk, rfl, hs2, ho, hb, hsz⟩ := hrel
    have HR := Lib.hid (hr.below hb)
    have HK := Lib.hid hok
    obtain ⟨s, es⟩ : ∃ s, s = (l.take k).foldl wstep ([], 0) := ⟨_, rfl⟩
    rw [← es] at hs2 ho hsz
    obtain ⟨m, e⟩ := s
    simp only at hs2 ho hsz
    subst hs2
    have HE := Lib.hid es
    have HO := Lib.hid ho
    have HB := Lib.hid hb
    have hbs := hb.size
    clear hr hok es ho hb
    by_cases hlt : k < l.length
    · obtain ⟨b, off, v, rfl, hbb, hv, h0, h1, h2, h3, h4⟩ := HR.out.at_ hlt
      have HV := Lib.hid hv
      have hvo := HK.out v (List.mem_of_getElem? hv)
      have hstep := wstep_le (m, 0) v hvo
      have hfold : (l.take (k + 1)).foldl wstep ([], 0) = wstep (m, 0) v := by rw [take_step hv, List.foldl_append, List.foldl_cons, List.foldl_nil, ← HE.out]
      have HFo := Lib.hid hfold
      have hkb := v.kind.toNat_lt
      have hat := foldl_at l ([], 0) k v hv
      rw [← HE.out] at hat
      have HAt := Lib.hid hat
      clear hv hfold hat
      rcases (by omega : v.kind.toNat % 4 = 0 ∨ v.kind.toNat % 4 = 1 ∨ v.kind.toNat % 4 = 2 ∨ v.kind.toNat % 4 = 3) with hq | hq | hq | hq
      · have t0 : ((v.kind.toNat : Int) % 4 == 0) = true := by simp; omega
        by_cases hneg : v.n < 0
        · have HX := Lib.hid (show wstep (m, 0) v = (m, 2) by rw [wstep0 _ _ hq, if_pos hneg, if_pos hneg]; rfl)
          clear hq
          go_wp2
          go_ret2
          exact .inr ⟨by rw [HAt.out (by rw [HX.out]; simp), HX.out]; simp, by rw [HAt.out (by rw [HX.out]; simp), HX.out]; rfl, HB.out.trans ((below_alloc wr _).mono hbs)⟩
        · have HX := Lib.hid (show wstep (m, 0) v = (m ++ enc v.n.toNat, 0) by rw [wstep0 _ _ hq, if_neg hneg, if_neg hneg]; rfl)
          have hn0 : 0 ≤ v.n := by omega
          have hn1 := hvo.n1
          have HL := Lib.hid (show m.length + (enc v.n.toNat).length ≤ 140737488355328 by have := enc_len10 (n := v.n.toNat) (by omega); omega)
          clear hq
          go_wp2_with fail
          refine (natural_int v.n _ hn0 (by omega)).mono ?_
          rintro x w2 ⟨v2, rfl, ho2, hb2⟩
          obtain ⟨A2, c2, rfl, hr2, _, _⟩ := ho2.form
          have hbb2 := (below_alloc wr _).trans (hb2.mono (by simp))
          have HO2 := Lib.hid (HO.out.mod (Mod.of_below hbb2) (fun k hk => by have := HO.out.lt k hk; omega))
          have HB2 := Lib.hid (HB.out.trans (hbb2.mono hbs))
          have HR2 := Lib.hid hr2
          clear ho2 hb2 hr2 hbb2
          go_wp2_with (at_builtin; refine wpList_app bsl rfl (.tmp 34) (.tmp 38) rfl w.heap.size _ m rfl HO2.out w2.heap.size A2 (enc v.n.toNat) c2 rfl HR2.out HL.out HB2.out.size ?_)
          intro u1 w3 ho3 hg3
          have HO3 := Lib.hid ho3
          have HB3 := Lib.hid (HB2.out.trans (hg3.below HB2.out.size (fun j hj => (HO2.out.lt j hj).1)))
          clear ho3 hg3
          go_wp2
          go_roundw
          case rel => exact ⟨k + 1, by omega, by go_num, by rw [HFo.out, HX.out], by rw [HFo.out, HX.out]; exact HO3.out, HB3.out, by rw [HFo.out]; have := hstep; omega⟩
          case measure => simp [intOf] <;> omega
      · have t0 : ((v.kind.toNat : Int) % 4 == 0) = false := by simp; omega
        have t1 : ((v.kind.toNat : Int) % 4 == 1) = true := by simp; omega
        · have HX := Lib.hid (show wstep (m, 0) v = (m ++ enc (zig v.n), 0) by rw [wstep1 _ _ hq]; rfl)
          have hn0 := hvo.n0
          have hn1 := hvo.n1
          have hz : zig v.n < 18446744073709551616 := by
            by_cases h0 : v.n < 0
            · have := zig_neg h0; omega
            · have := zig_pos h0; omega
          have HL := Lib.hid (show m.length + (enc (zig v.n)).length ≤ 140737488355328 by have := enc_len10 hz; omega)
          clear hq
          go_wp2_with fail
          refine (refSigned_any v.n _ hn0 hn1).mono ?_
          rintro x w1 ⟨rfl, rfl⟩
          go_wp2_with fail
          refine (natural_any (zig v.n) _ hz).mono ?_
          rintro x w2 ⟨v2, rfl, ho2, hb2⟩
          obtain ⟨A2, c2, rfl, hr2, _, _⟩ := ho2.form
          have hbb2 := (below_alloc wr _).trans (hb2.mono (by simp))
          have HO2 := Lib.hid (HO.out.mod (Mod.of_below hbb2) (fun k hk => by have := HO.out.lt k hk; omega))
          have HB2 := Lib.hid (HB.out.trans (hbb2.mono hbs))
          have HR2 := Lib.hid hr2
          clear ho2 hb2 hr2 hbb2
          go_wp2_with (at_builtin; refine wpList_app bsl rfl (.tmp 42) (.tmp 46) rfl w.heap.size _ m rfl HO2.out w2.heap.size A2 (enc (zig v.n)) c2 rfl HR2.out HL.out HB2.out.size ?_)
          intro u1 w3 ho3 hg3
          have HO3 := Lib.hid ho3
          have HB3 := Lib.hid (HB2.out.trans (hg3.below HB2.out.size (fun j hj => (HO2.out.lt j hj).1)))
          clear ho3 hg3
          go_wp2
          go_roundw
          case rel => exact ⟨k + 1, by omega, by go_num, by rw [HFo.out, HX.out], by rw [HFo.out, HX.out]; exact HO3.out, HB3.out, by rw [HFo.out]; have := hstep; omega⟩
          case measure => simp [intOf] <;> omega
      · have t0 : ((v.kind.toNat : Int) % 4 == 0) = false := by simp; omega
        have t1 : ((v.kind.toNat : Int) % 4 == 1) = false := by simp; omega
        have t2 : ((v.kind.toNat : Int) % 4 == 2) = true := by simp; omega
        · have HL : Hid (m.length + 1 ≤ 140737488355328) := Lib.hid (show m.length + 1 ≤ 140737488355328 by omega)
          cases hvi : v.is
          · have HX := Lib.hid (show wstep (m, 0) v = (m ++ [0], 0) by rw [wstep2 _ _ hq, hvi]; rfl)
            clear hq
            rw [hvi] at h2
            clear hvi
            go_wp2_with (at_builtin; refine wpList_pushG bsl rfl (.tmp 55) (.tmp 56) rfl w.heap.size _ m rfl _ 0 rfl (HO.out.alloc _) _ rfl (by simp) HL.out (by simp; omega) ?_)
            intro u1 w3 ho3 hg3
            have HO3 := Lib.hid ho3
            have HB3 := Lib.hid (HB.out.trans (hg3.alloc.below hbs (fun j hj => (HO.out.lt j hj).1)))
            clear ho3 hg3
            go_wp2
            go_roundw
            case rel => exact ⟨k + 1, by omega, by go_num, by rw [HFo.out, HX.out], by rw [HFo.out, HX.out]; exact HO3.out, HB3.out, by rw [HFo.out]; have := hstep; omega⟩
            case measure => simp [intOf] <;> omega
          · have HX := Lib.hid (show wstep (m, 0) v = (m ++ [1], 0) by rw [wstep2 _ _ hq, hvi]; rfl)
            clear hq
            rw [hvi] at h2
            clear hvi
            go_wp2_with (at_builtin; refine wpList_pushG bsl rfl (.tmp 52) (.tmp 53) rfl w.heap.size _ m rfl _ 1 rfl (HO.out.alloc _) _ rfl (by simp) HL.out (by simp; omega) ?_)
            intro u1 w3 ho3 hg3
            have HO3 := Lib.hid ho3
            have HB3 := Lib.hid (HB.out.trans (hg3.alloc.below hbs (fun j hj => (HO.out.lt j hj).1)))
            clear ho3 hg3
            go_wp2
            go_roundw
            case rel => exact ⟨k + 1, by omega, by go_num, by rw [HFo.out, HX.out], by rw [HFo.out, HX.out]; exact HO3.out, HB3.out, by rw [HFo.out]; have := hstep; omega⟩
            case measure => simp [intOf] <;> omega
      · have t0 : ((v.kind.toNat : Int) % 4 == 0) = false := by simp; omega
        have t1 : ((v.kind.toNat : Int) % 4 == 1) = false := by simp; omega
        have t2 : ((v.kind.toNat : Int) % 4 == 2) = false := by simp; omega
        have hs1 := hvo.s1
        by_cases hlong : 16777216 < v.s.size
        · have HX := Lib.hid (show wstep (m, 0) v = (m, 5) by rw [wstep3 _ _ hq, if_pos hlong, if_pos hlong]; rfl)
          have hlong' : (16777216 : Int) < (v.s.size : Int) := by omega
          clear hq
          go_wp2
          go_ret2
          exact .inr ⟨by rw [HAt.out (by rw [HX.out]; simp), HX.out]; simp, by rw [HAt.out (by rw [HX.out]; simp), HX.out]; rfl, HB.out.trans ((below_alloc wr _).mono hbs)⟩
        · have HX := Lib.hid (show wstep (m, 0) v = (m ++ (enc v.s.size ++ v.s.data.toList), 0) by rw [wstep3 _ _ hq, if_neg hlong, if_neg hlong]; rfl)
          have hlong' : ¬ (16777216 : Int) < (v.s.size : Int) := by omega
          have HL := Lib.hid (show m.length + (enc v.s.size ++ v.s.data.toList).length ≤ 140737488355328 by have := enc_len10 (n := v.s.size) (by omega); simp <;> omega)
          clear hq
          go_wp2_with fail
          refine (refText_any v.s _ (by omega)).mono ?_
          rintro x w2 ⟨v2, rfl, ho2, hb2⟩
          obtain ⟨Y, hY⟩ : ∃ Y, Y = enc v.s.size ++ v.s.data.toList := ⟨_, rfl⟩
          rw [← hY] at ho2 HX HL
          clear hY
          obtain ⟨A2, c2, rfl, hr2, _, _⟩ := ho2.form
          have hbb2 := (below_alloc wr _).trans (hb2.mono (by simp))
          have HO2 := Lib.hid (HO.out.mod (Mod.of_below hbb2) (fun k hk => by have := HO.out.lt k hk; omega))
          have HB2 := Lib.hid (HB.out.trans (hbb2.mono hbs))
          have HR2 := Lib.hid hr2
          clear ho2 hb2 hr2 hbb2
          go_wp2_with (at_builtin; refine wpList_app bsl rfl (.tmp 24) (.tmp 27) rfl w.heap.size _ m rfl HO2.out w2.heap.size A2 (Y) c2 rfl HR2.out HL.out HB2.out.size ?_)
          intro u1 w3 ho3 hg3
          have HO3 := Lib.hid ho3
          have HB3 := Lib.hid (HB2.out.trans (hg3.below HB2.out.size (fun j hj => (HO2.out.lt j hj).1)))
          clear ho3 hg3
          go_wp2
          go_roundw
          case rel => exact ⟨k + 1, by omega, by go_num, by rw [HFo.out, HX.out], by rw [HFo.out, HX.out]; exact HO3.out, HB3.out, by rw [HFo.out]; have := hstep; omega⟩
          case measure => simp [intOf] <;> omega
    · have he : l.foldl wstep ([], 0) = (m, 0) := by rw [HE.out, List.take_of_length_le (by omega)]
      have HX := Lib.hid he
      clear he
      go_wp2
      go_ret2
      exact .inl ⟨by rw [HX.out], ⟨u4, rfl, by rw [HX.out]; exact HO.out⟩, HB.out⟩
end Go.Proofs.Ytfjigooahdfbpaa
