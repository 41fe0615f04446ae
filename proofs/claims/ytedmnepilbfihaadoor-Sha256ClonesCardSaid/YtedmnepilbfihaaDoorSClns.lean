/- The walk of the law Sha256Clones: what it says of any two texts. -/
import Derived.Test.YtedmnepilbfihaaDoorSNil
set_option linter.unusedVariables false
namespace Go.Proofs.YtedmnepilbfihaaDoor
open Go.RowKit

/-- The Hash h holds m. -/
def H1 (w : World) (h : Nat) (m : List UInt8) (W : World) : Prop := HashIs W h m ∧ Tab W ∧ Below w.heap.size w W
theorem H1.below {w W W' : World} {h : Nat} {m : List UInt8} (H : H1 w h m W) (hb : Below W.heap.size W W') : H1 w h m W' := ⟨H.1.below hb H.1.lt, H.2.1.below hb H.2.1.1, H.2.2.trans (hb.mono H.2.2.size)⟩
/-- Two Hashes. -/
def H2 (w : World) (h c : Nat) (m n : List UInt8) (W : World) : Prop := HashIs W h m ∧ HashIs W c n ∧ Tab W ∧ Below w.heap.size w W
theorem H2.below {w W W' : World} {h c : Nat} {m n : List UInt8} (H : H2 w h c m n W) (hb : Below W.heap.size W W') : H2 w h c m n W' := ⟨H.1.below hb H.1.lt, H.2.1.below hb H.2.1.lt, H.2.2.1.below hb H.2.2.1.1, H.2.2.2.trans (hb.mono H.2.2.2.size)⟩
theorem HashIs.grown_far {w w' : World} {h b : Nat} {m : List UInt8} (H : HashIs w h m) (hg : w.grownBy w' (some b)) (hne : h ≠ b) : HashIs w' h m := ⟨H.words.grown hg hne H.lt, H.rest.grown hg hne H.lt, H.len.grown hg hne H.lt⟩

set_option maxHeartbeats 4000000 in
set_option maxRecDepth 100000 in
theorem clones_case (S0 T0 : ByteArray) (s t st : ByteArray) (b : Bool) (w : World) (hT : Tab w) (es : s = shortS S0 300) (et : t = shortS T0 300) (hst : st.data.toList = s.data.toList ++ t.data.toList) (hcat : s ++ t = st)
    (hb : b = true ↔ t.size = 0) (hte : (t.toList == []) = b) :
    Calls Tryd.prog 12 #[.string S0, .string T0] w fun e w' => e = .returned (.bool true) ∧ Below w.heap.size w w' := by
  have hs : s.size ≤ 300 := by rw [es]; exact shortS_size _ _
  have ht : t.size ≤ 300 := by rw [et]; exact shortS_size _ _
  have hsts : st.size = s.size + t.size := by
    have := congrArg List.length hst
    rw [List.length_append, bytes_length, bytes_length, bytes_length] at this; exact this
  have K1 : Hid (∀ W, Calls Tryd.prog 13 #[.string S0, .int .i64 300] W fun e w' => e = .returned (.string s) ∧ W = w') := Lib.hid (fun W => by rw [es]; exact short_any S0 300 W (by omega))
  have K2 : Hid (∀ W, Calls Tryd.prog 13 #[.string T0, .int .i64 300] W fun e w' => e = .returned (.string t) ∧ W = w') := Lib.hid (fun W => by rw [et]; exact short_any T0 300 W (by omega))
  obtain ⟨d1, ed1⟩ : ∃ d, d = sumS s.data.toList := ⟨_, rfl⟩
  obtain ⟨d2, ed2⟩ : ∃ d, d = sumS (s.data.toList ++ t.data.toList) := ⟨_, rfl⟩
  have hd1 : d1.length = 32 := by rw [ed1]; exact sumS_length _
  have hd2 : d2.length = 32 := by rw [ed2]; exact sumS_length _
  have heq1 := fun W => eq_arr d1 d1 hd1 hd1 W
  rw [show (d1 == d1) = true by simp] at heq1
  have heq2 := fun W => eq_arr d2 d2 hd2 hd2 W
  rw [show (d2 == d2) = true by simp] at heq2
  have hneq : ∀ W, (binOp .neq 25 (.agg #[.int .u8 0, .int .u8 0, .int .u8 0, .int .u8 0, .int .u8 0, .int .u8 0, .int .u8 0, .int .u8 0, .int .u8 0, .int .u8 0, .int .u8 0, .int .u8 0, .int .u8 0, .int .u8 0, .int .u8 0, .int .u8 0, .int .u8 0, .int .u8 0, .int .u8 0, .int .u8 0, .int .u8 0, .int .u8 0, .int .u8 0, .int .u8 0, .int .u8 0, .int .u8 0, .int .u8 0, .int .u8 0, .int .u8 0, .int .u8 0, .int .u8 0, .int .u8 0]) (.agg #[.int .u8 0, .int .u8 0, .int .u8 0, .int .u8 0, .int .u8 0, .int .u8 0, .int .u8 0, .int .u8 0, .int .u8 0, .int .u8 0, .int .u8 0, .int .u8 0, .int .u8 0, .int .u8 0, .int .u8 0, .int .u8 0, .int .u8 0, .int .u8 0, .int .u8 0, .int .u8 0, .int .u8 0, .int .u8 0, .int .u8 0, .int .u8 0, .int .u8 0, .int .u8 0, .int .u8 0, .int .u8 0, .int .u8 0, .int .u8 0, .int .u8 0, .int .u8 0])).run Tryd.prog W = .ok (.bool false) W := fun W => by
    have h := neq_dig (zs 32) zs32_length W
    rw [zero32_bv] at h; exact h
  have hsize : ¬ (9223372036854775807 < s.size + t.size) := by omega
  have KR1 : Hid (∀ W, Calls Tryd.prog 16 #[.string s] W fun e w' => e = .returned (.agg (d1.map bv).toArray) ∧ Below W.heap.size W w') := Lib.hid fun W => by rw [ed1]; exact refSum_any s W (by omega)
  have KR2 : Hid (∀ W, Calls Tryd.prog 16 #[.string st] W fun e w' => e = .returned (.agg (d2.map bv).toArray) ∧ Below W.heap.size W w') := Lib.hid fun W => by rw [ed2, ← hst]; exact refSum_any st W (by omega)
  have KE : Hid (∀ c W, H2 w w.heap.size c s.data.toList (s.data.toList ++ t.data.toList) W → Calls Tryd.prog 37 #[.pointer (some ⟨c, 0, none⟩), .pointer (some ⟨w.heap.size, 0, none⟩)] W fun e w' => e = .returned (.bool b) ∧ Below W.heap.size W w') := Lib.hid fun c W h => by
    by_cases h0 : t.size = 0
    · have e : t.data.toList = [] := List.eq_nil_of_length_eq_zero (by rw [bytes_length]; exact h0)
      rw [hb.2 h0]
      have h2 := h.2.1
      rw [e, List.append_nil] at h2
      exact equal_same c w.heap.size _ W h2 h.1
    · have e : b = false := by cases b; rfl; exact absurd (hb.1 rfl) h0
      rw [e]
      exact equal_diff c w.heap.size _ _ (by rw [List.length_append, bytes_length, bytes_length]; omega) W h.2.1 h.1
  have KF : Hid (∀ c W, H2 w w.heap.size c s.data.toList (s.data.toList ++ t.data.toList) W → Calls Tryd.prog 37 #[.pointer (some ⟨w.heap.size, 0, none⟩), .pointer (some ⟨c, 0, none⟩)] W fun e w' => e = .returned (.bool b) ∧ Below W.heap.size W w') := Lib.hid fun c W h => by
    by_cases h0 : t.size = 0
    · have e : t.data.toList = [] := List.eq_nil_of_length_eq_zero (by rw [bytes_length]; exact h0)
      rw [hb.2 h0]
      have h2 := h.2.1
      rw [e, List.append_nil] at h2
      exact equal_same w.heap.size c _ W h.1 h2
    · have e : b = false := by cases b; rfl; exact absurd (hb.1 rfl) h0
      rw [e]
      exact equal_diff w.heap.size c _ _ (by rw [List.length_append, bytes_length, bytes_length]; omega) W h.1 h.2.1
  have KS1 : Hid (∀ c W, H2 w w.heap.size c s.data.toList (s.data.toList ++ t.data.toList) W → Calls Tryd.prog 34 #[.pointer (some ⟨w.heap.size, 0, none⟩)] W fun e w' => e = .returned (.agg (d1.map bv).toArray) ∧ Below W.heap.size W w') := Lib.hid fun c W h => by
    rw [ed1]; exact sum_any w.heap.size _ W h.1 h.2.2.1 (by rw [bytes_length]; omega)
  have KS2 : Hid (∀ c W, H2 w w.heap.size c s.data.toList (s.data.toList ++ t.data.toList) W → Calls Tryd.prog 34 #[.pointer (some ⟨c, 0, none⟩)] W fun e w' => e = .returned (.agg (d2.map bv).toArray) ∧ Below W.heap.size W w') := Lib.hid fun c W h => by
    rw [ed2]; exact sum_any c _ W h.2.1 h.2.2.1 (by rw [List.length_append, bytes_length, bytes_length]; omega)
  have h0 : 0 < w.heap.size := hT.1
  have HSS := Lib.hid hs
  have HTT := Lib.hid ht
  have HT := Lib.hid hT
  have HD1 := Lib.hid ed1
  have HD2 := Lib.hid ed2
  have HBT := Lib.hid hb
  have hz := (zero_of_info zeroHash).1
  obtain ⟨z, ez⟩ : ∃ z, z = zeroH.toArray := ⟨_, rfl⟩
  rw [← ez] at hz
  have HZ : Hid (∀ t, HashIs (w.alloc (.cells z t)) w.heap.size []) := Lib.hid fun t => by rw [ez]; exact hash_new w t
  have hle : w.heap.size ≤ w.heap.size := Nat.le_refl _
  have HCAT := hcat
  clear es et hst hcat ed1 ed2 hd1 hd2 hT hb ez hs ht hsts
  have hte2 : t.toList.isEmpty = b := by rw [← hte]; cases t.toList <;> rfl
  cases b
  all_goals
    go_enter Tryd.func12, Tryd.ntmps12
    go_wp2_with (first
      | (go_at_call 13; (with_reducible refine (K1.out _).mono ?_); rintro e w' ⟨rfl, rfl⟩)
      | (go_at_call 13; (with_reducible refine (K2.out _).mono ?_); rintro e w' ⟨rfl, rfl⟩)
      | (go_at_call 14; refine calls_gen (H1 w w.heap.size []) ⟨HZ.out _, HT.out.below (below_alloc0 _ _ (Nat.le_refl _)) h0, below_alloc0 _ _ (Nat.le_refl _)⟩ ?_; intro W0 p0; refine (known_any W0 p0.2.1).mono ?_; rintro e W1 ⟨rfl, hb1⟩; have P1 := Lib.hid (p0.below hb1); clear hb1 p0)
      | (go_at_call 32; (with_reducible refine (write_nil _ _).mono ?_); rintro e w' ⟨rfl, rfl⟩)
      | (go_at_call 33; (with_reducible refine (reset_nil _).mono ?_); rintro e w' ⟨rfl, rfl⟩)
      | (go_at_call 35; (with_reducible refine (len_nil _).mono ?_); rintro e w' ⟨rfl, rfl⟩)
      | (go_at_call 36; (with_reducible refine (clone_nil _).mono ?_); rintro e w' ⟨rfl, rfl⟩)
      | (go_at_call 37; (with_reducible refine (equal_nil_nil _).mono ?_); rintro e w' ⟨rfl, rfl⟩)
      | (go_at_call 37; (with_reducible refine (equal_nil_some _ _).mono ?_); rintro e w' ⟨rfl, rfl⟩)
      | (go_at_call 37; (with_reducible refine (equal_some_nil _ _).mono ?_); rintro e w' ⟨rfl, rfl⟩)
      | (go_at_call 34; (with_reducible refine (sum_nil _).mono ?_); rintro e W2 ⟨rfl, hb2⟩; have P2 := Lib.hid (P1.out.below hb2); have E3 := Lib.hid (write_any w.heap.size [] s W2 P2.out.1 P2.out.2.1 h0 (by have := HSS.out; simp; omega)); clear hb2)
      | (go_at_call 32; (with_reducible refine E3.out.mono ?_); rintro e W3 ⟨rfl, hh3, hg3⟩; rw [List.nil_append] at hh3; have P3 : Hid (H1 w w.heap.size s.data.toList W3) := Lib.hid ⟨hh3, P2.out.2.1.grown hg3 h0, P2.out.2.2.grown hg3 P2.out.2.2.size (fun k e => by injection e with e; omega)⟩; clear hh3 hg3)
      | (go_at_call 36; refine (clone_any w.heap.size _ W3 P3.out.1).mono ?_; rintro e W4 ⟨rfl, hh4, hb4⟩; have hcw := P3.out.1.lt; have P4 : Hid (H2 w w.heap.size W3.heap.size s.data.toList s.data.toList W4) := Lib.hid ⟨P3.out.1.below hb4 P3.out.1.lt, hh4, P3.out.2.1.below hb4 P3.out.2.1.1, P3.out.2.2.trans (hb4.mono P3.out.2.2.size)⟩; have E5 := Lib.hid (equal_same W3.heap.size w.heap.size _ W4 P4.out.2.1 P4.out.1); clear hh4 hb4)
      | (go_at_call 37; (with_reducible refine E5.out.mono ?_); rintro e W5 ⟨rfl, hb5⟩; have P5 := Lib.hid (P4.out.below hb5); have E6 := Lib.hid (write_any W3.heap.size s.data.toList t W5 P5.out.2.1 P5.out.2.2.1 (by omega) (by have := HSS.out; have := HTT.out; rw [bytes_length]; omega)); clear hb5)
      | (go_at_call 32; (with_reducible refine E6.out.mono ?_); rintro e W6 ⟨rfl, hh6, hg6⟩; have P6 : Hid (H2 w w.heap.size W3.heap.size s.data.toList (s.data.toList ++ t.data.toList) W6) := Lib.hid ⟨P5.out.1.grown_far hg6 (by omega), hh6, P5.out.2.2.1.grown hg6 (by omega), P5.out.2.2.2.grown hg6 P5.out.2.2.2.size (fun k e => by injection e with e; omega)⟩; clear hh6 hg6)
      | (go_at_call 34; (with_reducible refine (KS1.out _ _ P6.out).mono ?_); rintro e W7 ⟨rfl, hb7⟩; have P7 := Lib.hid (P6.out.below hb7); clear hb7)
      | (go_at_call 16; (with_reducible refine (KR1.out W7).mono ?_); rintro e W8 ⟨rfl, hb8⟩; have P8 := Lib.hid (P7.out.below hb8); clear hb8)
      | (go_at_call 34; (with_reducible refine (KS2.out _ _ P8.out).mono ?_); rintro e W9 ⟨rfl, hb9⟩; have P9 := Lib.hid (P8.out.below hb9); clear hb9)
      | (go_at_call 16; (with_reducible refine (KR2.out W9).mono ?_); rintro e Wa ⟨rfl, hba⟩; have Pa := Lib.hid (P9.out.below hba); clear hba)
      | (go_at_call 37; (with_reducible refine (KE.out _ _ Pa.out).mono ?_); rintro e Wb ⟨rfl, hbb⟩; have Pb := Lib.hid (Pa.out.below hbb); clear hbb)
      | (go_at_call 37; (with_reducible refine (KF.out _ _ Pb.out).mono ?_); rintro e Wc ⟨rfl, hbc⟩; have Pc := Lib.hid (Pb.out.below hbc); clear hbc))
    go_ret
    exact ⟨rfl, Pc.out.2.2.2⟩

theorem sha256Clones_walk (S0 T0 : ByteArray) (w : World) (hT : Tab w) (hS : S0.size ≤ maxLen) (hT0 : T0.size ≤ maxLen) :
    Calls Tryd.prog 12 #[.string S0, .string T0] w fun e w' => e = .returned (.bool true) ∧ Below w.heap.size w w' := by
  refine clones_case S0 T0 (shortS S0 300) (shortS T0 300) (shortS S0 300 ++ shortS T0 300) (decide ((shortS T0 300).size = 0)) w hT rfl rfl (by simp) rfl (by simp) ?_
  rw [Lib.toList_data, Bool.eq_iff_iff, beq_iff_eq, decide_eq_true_iff, ← bytes_length, List.length_eq_zero_iff]
end Go.Proofs.YtedmnepilbfihaaDoor
