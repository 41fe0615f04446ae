/- lineage: the walks of Parent, Root, Common, Within. -/
import Derived.Test.YtdfenaoddbdppaaDoorLFirst
set_option linter.unusedVariables false
namespace Go.Proofs.YtdfenaoddbdppaaDoor
open Go.RowKit

theorem parseL_good (s : List UInt8) : Good (parseL s).1 := ⟨parseL_len8 s, parseL_num s⟩
/-- list and first at a text, in the walk's form. -/
theorem list_first (S : ByteArray) (hS : S.size ≤ 1000000) (o : List Nat) (ho : o = (parseL S.data.toList).1) : ∃ a b c d e f g i : Nat, listV o = [iv a, iv b, iv c, iv d, iv e, iv f, iv g, iv i, iv o.length] ∧
    (∀ w, Calls Tryd.prog 49 #[.string S] w fun r w' => r = .returned (.tuple #[.agg #[iv a, iv b, iv c, iv d, iv e, iv f, iv g, iv i, iv o.length], .bool (validB S.data.toList)]) ∧ Below w.heap.size w w') ∧
    (∀ k w, k ≤ o.length → Pow w → Calls Tryd.prog 52 #[.agg #[iv a, iv b, iv c, iv d, iv e, iv f, iv g, iv i, iv o.length], .int .i64 ((k : Nat) : Int)] w fun r w' => r = .returned (.string ⟨(tx (o.take k)).toArray⟩) ∧ Below w.heap.size w w') := by
  subst ho
  obtain ⟨a, b, c, d, e, f, g, i, h⟩ := nine (parseL_len8 S.data.toList)
  refine ⟨a, b, c, d, e, f, g, i, h, fun w => ?_, fun k w hk hP => ?_⟩
  · have := list_any S w hS
    rw [h] at this
    exact this
  · have := first_any (parseL S.data.toList).1 k w (parseL_good _) hk hP
    rw [h] at this
    exact this
theorem validB_false {s : List UInt8} (h : validB s = false) : (parseL s).1 = [] := parseL_none (by simpa [validB] using h)

set_option maxHeartbeats 1000000 in
set_option maxRecDepth 100000 in
theorem parent_any (S : ByteArray) (w : World) (hS : S.size ≤ 1000000) (hP : Pow w) (o : List Nat) (ho : o = (parseL S.data.toList).1) :
    Calls Tryd.prog 23 #[.string S] w fun e w' => e = .returned (.tuple #[.string ⟨(tx (o.take (o.length - 1))).toArray⟩, .bool (decide (0 < o.length))]) ∧ Below w.heap.size w w' := by
  obtain ⟨c0, c1, c2, c3, c4, c5, c6, c7, h9, hl, hf⟩ := list_first S hS o ho
  have HP := Lib.hid hl
  have HPW := Lib.hid (fun W (hb : Below w.heap.size w W) => hP.below hb hP.lt)
  by_cases hv : validB S.data.toList = true
  · rw [hv] at HP
    by_cases h0 : o.length = 0
    · have h2 : o = [] := List.eq_nil_of_length_eq_zero h0
      clear hl hf h9 h0 hv ho
      subst h2
      go_enter Tryd.func23, Tryd.ntmps23
      go_wp2_with (go_at_call 49; refine (HP.out _).mono ?_; rintro r W1 ⟨rfl, hb1⟩; have HB := Lib.hid hb1; clear hb1)
      refine bodyPost_ret (results_tmp2' rfl _ _ _) rfl ?_
      exact ⟨rfl, HB.out.alloc HB.out.size _⟩
    · obtain ⟨k, hk⟩ : ∃ k, o.length = k + 1 := ⟨o.length - 1, by omega⟩
      have HF := Lib.hid (hf k · (by omega))
      have hkb : k + 1 ≤ 8 := by rw [← hk, ho]; exact parseL_len8 _
      have hd : decide (0 < o.length) = true := by simp; omega
      rw [hd, hk, Nat.add_sub_cancel]
      rw [hk] at HP HF
      have ek : iv (k + 1) = .int .i64 ((k : Int) + 1) := by rw [iv]; congr 1
      rw [ek] at HP HF
      have g0 : ((k : Int) + 1 == 0) = false := by simp; omega
      clear hl hf h9 h0 hv ho hd hk
      go_enter Tryd.func23, Tryd.ntmps23
      go_wp2_with (first
        | (go_at_call 49; refine (HP.out _).mono ?_; rintro r W1 ⟨rfl, hb1⟩; have HB := Lib.hid hb1; clear hb1)
        | (go_at_call 52; refine (HF.out _ (HPW.out _ (HB.out.alloc HB.out.size _))).mono ?_; rintro r W2 ⟨rfl, hb2⟩; have HB2 := Lib.hid ((HB.out.alloc HB.out.size _).trans (hb2.mono (HB.out.alloc HB.out.size _).size)); clear hb2))
      refine bodyPost_ret (results_tmp2' rfl _ _ _) rfl ?_
      exact ⟨rfl, HB2.out⟩
  · have hv2 : validB S.data.toList = false := by simpa using hv
    have h2 : o = [] := by rw [ho]; exact validB_false hv2
    rw [hv2] at HP
    clear hl hf h9 hv hv2 ho
    subst h2
    go_enter Tryd.func23, Tryd.ntmps23
    go_wp2_with (go_at_call 49; refine (HP.out _).mono ?_; rintro r W1 ⟨rfl, hb1⟩; have HB := Lib.hid hb1; clear hb1)
    refine bodyPost_ret (results_tmp2' rfl _ _ _) rfl ?_
    exact ⟨rfl, HB.out.alloc HB.out.size _⟩

set_option maxHeartbeats 1000000 in
set_option maxRecDepth 100000 in
theorem root_any (S : ByteArray) (w : World) (hS : S.size ≤ 1000000) (hP : Pow w) (o : List Nat) (ho : o = (parseL S.data.toList).1) :
    Calls Tryd.prog 26 #[.string S] w fun e w' => e = .returned (.string ⟨(tx (o.take 1)).toArray⟩) ∧ Below w.heap.size w w' := by
  obtain ⟨c0, c1, c2, c3, c4, c5, c6, c7, h9, hl, hf⟩ := list_first S hS o ho
  have HP := Lib.hid hl
  have HPW := Lib.hid (fun W (hb : Below w.heap.size w W) => hP.below hb hP.lt)
  obtain ⟨d, hd, hd1⟩ : ∃ d : Nat, min (o.length : Int) 1 = (d : Int) ∧ d = min o.length 1 := ⟨min o.length 1, by omega, rfl⟩
  have e1 : tx (o.take 1) = tx (o.take d) := by
    rw [hd1]
    congr 1
    cases o with
    | nil => rfl
    | cons a r => simp
  rw [e1]
  have HF := Lib.hid (hf d · (by omega))
  have hdb : d ≤ 8 := by omega
  clear hl hf h9 hd1 e1 ho
  go_enter Tryd.func26, Tryd.ntmps26
  go_wp2_with (first
    | (go_at_call 49; refine (HP.out _).mono ?_; rintro r W1 ⟨rfl, hb1⟩; have HB := Lib.hid hb1; clear hb1)
    | (go_at_call 52; refine (HF.out _ (HPW.out _ (HB.out.alloc HB.out.size _))).mono ?_; rintro r W2 ⟨rfl, hb2⟩; have HB2 := Lib.hid ((HB.out.alloc HB.out.size _).trans (hb2.mono (HB.out.alloc HB.out.size _).size)); clear hb2))
  go_ret
  exact ⟨rfl, HB2.out⟩
end Go.Proofs.YtdfenaoddbdppaaDoor
