/- instr: Find and Word, and the reference's. -/
import Derived.Test.YtajkccigmiegkaaDoorIKnown
set_option linter.unusedVariables false
namespace Go.Proofs.YtajkccigmiegkaaDoor
open Go.RowKit

/-- Which operation has a word. -/
def FR (s : List UInt8) (n : Int) (b : Bool) : Prop := (b = true ∧ ∃ k : Nat, n = (k : Int) ∧ k < 27 ∧ wordN k = s ∧ ∀ j, j < k → wordN j ≠ s) ∨ (b = false ∧ n = 0 ∧ ∀ j, j < 27 → wordN j ≠ s)
theorem fr_from (s : List UInt8) : ∀ m, (∀ j, j < m → wordN j ≠ s) ∨ ∃ k, k < m ∧ wordN k = s ∧ ∀ j, j < k → wordN j ≠ s
  | 0 => .inl fun j h => by omega
  | m + 1 => by
    rcases fr_from s m with h | ⟨k, h1, h2, h3⟩
    · by_cases e : wordN m = s
      · exact .inr ⟨m, by omega, e, h⟩
      · refine .inl fun j hj => ?_
        by_cases ej : j = m
        · subst ej; exact e
        · exact h j (by omega)
    · exact .inr ⟨k, by omega, h2, h3⟩
theorem fr_ex (s : List UInt8) : ∃ n b, FR s n b := by
  rcases fr_from s 27 with h | ⟨k, h1, h2, h3⟩
  · exact ⟨0, false, .inr ⟨rfl, rfl, h⟩⟩
  · exact ⟨k, true, .inl ⟨rfl, k, rfl, h1, h2, h3⟩⟩
theorem FR.hit {s : List UInt8} {n : Int} {b : Bool} (h : FR s n b) {k : Nat} (hk : k < 27) (hw : wordN k = s) (hb : ∀ j, j < k → wordN j ≠ s) : n = (k : Int) ∧ b = true := by
  rcases h with ⟨rfl, m, rfl, m1, m2, m3⟩ | ⟨_, _, h3⟩
  · refine ⟨?_, rfl⟩
    have a1 : ¬ m < k := fun hl => hb m hl m2
    have a2 : ¬ k < m := fun hl => m3 k hl hw
    omega
  · exact absurd hw (h3 k hk)
theorem FR.miss {s : List UInt8} {n : Int} {b : Bool} (h : FR s n b) (hb : ∀ j, j < 27 → wordN j ≠ s) : n = 0 ∧ b = false := by
  rcases h with ⟨rfl, m, rfl, m1, m2, m3⟩ | ⟨rfl, rfl, _⟩
  · exact absurd m2 (hb m m1)
  · exact ⟨rfl, rfl⟩
theorem words_apart : ∀ k, k < 27 → ∀ j, j < k → wordN j ≠ wordN k := by decide
theorem str_eq (k : Nat) (S : ByteArray) : (wordN k == S.toList) = decide (wordN k = S.data.toList) := by
  rw [ByteArray.toList_eq S, Bool.eq_iff_iff]; simp

set_option maxRecDepth 100000 in
theorem find_any (S : ByteArray) (n : Int) (b : Bool) (w : World) (hE : Env w) (hF : FR S.data.toList n b) : Calls Tryd.prog 21 #[.string S] w fun e w' => e = .returned (.tuple #[.int .i64 n, .bool b]) ∧ w' = w := by
  have HE := Lib.hid hE
  have HF := Lib.hid hF
  clear hE hF
  go_enter Tryd.func21, Tryd.ntmps21
  go_wp2
  go_loopw [5] (fun i wr => ∃ k : Nat, k ≤ 27 ∧ i = .int .i64 (k : Int) ∧ (∀ j, j < k → wordN j ≠ S.data.toList) ∧ wr = w) (fun i _ => 27 - (intOf i).toNat)
  case atStart => exact ⟨0, by omega, rfl, fun j h => by omega, rfl⟩
  case round =>
    obtain ⟨k, hk, rfl, hb, rfl⟩ := hrel
    have HB := Lib.hid hb
    clear hb
    by_cases hlt : k < 27
    · have h1 : (k : Int) < 27 := by omega
      have c0 := HE.out.word hlt
      have hs := str_eq k S
      by_cases hw : wordN k = S.data.toList
      · rw [decide_eq_true hw] at hs
        obtain ⟨rfl, rfl⟩ := HF.out.hit hlt hw HB.out
        clear hw
        go_wp2
        go_ret2
        exact ⟨rfl, rfl⟩
      · rw [decide_eq_false hw] at hs
        have HW := Lib.hid hw
        clear hw
        go_wp2
        go_roundw
        case rel =>
          refine ⟨k + 1, by omega, by go_num, fun j hj => ?_, trivial⟩
          by_cases e : j = k
          · subst e; exact HW.out
          · exact HB.out j (by omega)
        case measure => simp [intOf] <;> omega
    · obtain rfl : k = 27 := by omega
      obtain ⟨rfl, rfl⟩ := HF.out.miss HB.out
      go_wp2
      go_ret2
      exact ⟨rfl, rfl⟩

def wordsC : Array Value := ((List.range 27).map fun k => Value.string ⟨(wordN k).toArray⟩).toArray
theorem wordsC_get {k : Nat} (hk : k < 27) : wordsC[k]? = some (.string ⟨(wordN k).toArray⟩) := by
  unfold wordsC; simp [hk]
set_option maxRecDepth 100000 in
theorem words_any (w : World) : Calls Tryd.prog 55 #[] w fun e w' => e = .returned (.slice (some ⟨w.heap.size, 0, none⟩) 27 27) ∧ Blk w' w.heap.size 9 wordsC ∧ Below w.heap.size w w' := by
  go_enter Tryd.func55, Tryd.ntmps55
  go_wp2
  go_ret
  exact ⟨rfl, Blk.new w _ wordsC, below_alloc0 w _⟩
set_option maxRecDepth 100000 in
theorem rword_any (op : Int) (w : World) : Calls Tryd.prog 24 #[.int .i64 op] w fun e w' => e = .returned (.string ⟨(if 0 ≤ op ∧ op ≤ 26 then wordN op.toNat else []).toArray⟩) ∧ Below w.heap.size w w' := by
  have HW := Lib.hid fun W => words_any W
  by_cases h : 0 ≤ op ∧ op ≤ 26
  · rw [if_pos h]
    obtain ⟨k, rfl⟩ := Int.eq_ofNat_of_zero_le h.1
    have hk : k < 27 := by omega
    have h0 : ¬ (k : Int) < 0 := by omega
    have h1 : ¬ (26 : Int) < (k : Int) := by omega
    have h2 : (k : Int) < 27 := by omega
    have HG := Lib.hid (wordsC_get hk)
    clear h
    go_enter Tryd.func24, Tryd.ntmps24
    go_wp2_with (go_at_call 55; refine (HW.out _).mono ?_; rintro e V ⟨rfl, hB, hb⟩; have HB := Lib.hid hb; clear hb; have c0 := (hB.cell k).trans HG.out)
    go_ret
    exact ⟨rfl, HB.out⟩
  · rw [if_neg h]
    by_cases h0 : op < 0
    · clear h
      go_enter Tryd.func24, Tryd.ntmps24
      go_wp2
      go_ret
      exact ⟨rfl, Below.refl _ _⟩
    · have h1 : 26 < op := by omega
      clear h
      go_enter Tryd.func24, Tryd.ntmps24
      go_wp2
      go_ret
      exact ⟨rfl, Below.refl _ _⟩
set_option maxRecDepth 100000 in
theorem rfind_any (S : ByteArray) (n : Int) (b : Bool) (w : World) (hF : FR S.data.toList n b) : Calls Tryd.prog 22 #[.string S] w fun e w' => e = .returned (.tuple #[.int .i64 n, .bool b]) ∧ Below w.heap.size w w' := by
  have HF := Lib.hid hF
  have HW := Lib.hid fun W => words_any W
  clear hF
  go_enter Tryd.func22, Tryd.ntmps22
  go_wp2_with (go_at_call 55; refine (HW.out _).mono ?_; rintro e V ⟨rfl, hB, hb⟩; have HB := Lib.hid hb; have HL := Lib.hid hB; clear hb hB)
  go_loopw [5] (fun i wr => ∃ k : Nat, k ≤ 27 ∧ i = .int .i64 (k : Int) ∧ (∀ j, j < k → wordN j ≠ S.data.toList) ∧ wr = V) (fun i _ => 27 - (intOf i).toNat)
  case atStart => exact ⟨0, by omega, rfl, fun j h => by omega, rfl⟩
  case round =>
    obtain ⟨k, hk, rfl, hb, rfl⟩ := hrel
    have HP := Lib.hid hb
    clear hb
    by_cases hlt : k < 27
    · have h1 : (k : Int) < 27 := by omega
      have c0 := (HL.out.cell k).trans (wordsC_get hlt)
      have hs := str_eq k S
      by_cases hw : wordN k = S.data.toList
      · rw [decide_eq_true hw] at hs
        obtain ⟨rfl, rfl⟩ := HF.out.hit hlt hw HP.out
        clear hw
        go_wp2
        go_ret2
        exact ⟨rfl, HB.out⟩
      · rw [decide_eq_false hw] at hs
        have HW2 := Lib.hid hw
        clear hw
        go_wp2
        go_roundw
        case rel =>
          refine ⟨k + 1, by omega, by go_num, fun j hj => ?_, trivial⟩
          by_cases e : j = k
          · subst e; exact HW2.out
          · exact HP.out j (by omega)
        case measure => simp [intOf] <;> omega
    · obtain rfl : k = 27 := by omega
      obtain ⟨rfl, rfl⟩ := HF.out.miss HP.out
      go_wp2
      go_ret2
      exact ⟨rfl, HB.out⟩

set_option maxHeartbeats 2000000 in
set_option maxRecDepth 100000 in
theorem instrForms_long (op : Int) (S : ByteArray) (w : World) (hE : Env w) (hS : 40 < S.size) (hM : S.size ≤ maxLen) :
    Calls Tryd.prog 4 #[.int .i64 op, .string S] w fun e w' => e = .returned (.bool true) ∧ Below w.heap.size w w' := by
  unfold maxLen at hM
  have HK : Hid (∀ W, Below w.heap.size w W → Calls Tryd.prog 13 #[] W fun e w' => e = .returned (.bool true) ∧ Below W.heap.size W w') := Lib.hid fun W hb => known_any W (hE.below hb)
  have h1 : (40 : Int) < (S.size : Int) := by omega
  have HB := Lib.hid (Below.refl w.heap.size w)
  clear hE hS
  go_enter Tryd.func4, Tryd.ntmps4
  go_wp2_with (go_at_call 13; refine (HK.out _ HB.out).mono ?_; rintro e V ⟨rfl, hb⟩; replace HB := Lib.hid (HB.out.trans (hb.mono HB.out.size)); clear hb)
  go_ret
  exact ⟨rfl, HB.out⟩
/-- The word of an operation, and what is found by it. -/
theorem fr_word (op : Int) (h : 0 ≤ op ∧ op ≤ 26) : FR (wordN op.toNat) op true :=
  .inl ⟨rfl, op.toNat, (Int.toNat_of_nonneg h.1).symm, by omega, rfl, words_apart op.toNat (by omega)⟩
theorem fr_none : FR [] 0 false := .inr ⟨rfl, rfl, by decide⟩
set_option maxHeartbeats 2000000 in
set_option maxRecDepth 100000 in
theorem instrForms_short (op : Int) (S U : ByteArray) (f e l h z n m : Int) (b c : Bool) (w : World) (hE : Env w) (hS : ¬ 40 < S.size)
    (hU : U = ⟨(if 0 ≤ op ∧ op ≤ 26 then wordN op.toNat else []).toArray⟩) (hf : formZ op = f) (he : formE op = e) (hl : lowZ op = l) (hh : highZ op = h) (hz : limE op = z) (hF : FR S.data.toList n b) (hG : FR U.data.toList m c) (hc : (e = 0 ∧ c = true ∧ m = op) ∨ (e = 11 ∧ c = false)) :
    Calls Tryd.prog 4 #[.int .i64 op, .string S] w fun e w' => e = .returned (.bool true) ∧ Below w.heap.size w w' := by
  have HK : Hid (∀ W, Below w.heap.size w W → Calls Tryd.prog 13 #[] W fun e w' => e = .returned (.bool true) ∧ Below W.heap.size W w') := Lib.hid fun W hb => known_any W (hE.below hb)
  have H1 : Hid (∀ W, Below w.heap.size w W → Calls Tryd.prog 17 #[.int .i64 op] W fun x w' => x = .returned (.tuple #[.int .i64 f, .int .i64 e]) ∧ W = w') := Lib.hid fun W hb => by rw [← hf, ← he]; exact (form_any op W (hE.below hb)).mono fun _ _ h => ⟨h.1, h.2.symm⟩
  have H2 : Hid (∀ W, Calls Tryd.prog 18 #[.int .i64 op] W fun x w' => x = .returned (.tuple #[.int .i64 f, .int .i64 e]) ∧ W = w') := Lib.hid fun W => by rw [← hf, ← he]; exact (rform_any op W).mono fun _ _ h => ⟨h.1, h.2.symm⟩
  have H3 : Hid (∀ W, Below w.heap.size w W → Calls Tryd.prog 19 #[.int .i64 op] W fun x w' => x = .returned (.tuple #[.int .i64 l, .int .i64 h, .int .i64 z]) ∧ Below W.heap.size W w') := Lib.hid fun W hb => by rw [← hl, ← hh, ← hz]; exact limits_any op W (hE.below hb)
  have H4 : Hid (∀ W, Calls Tryd.prog 20 #[.int .i64 op] W fun x w' => x = .returned (.tuple #[.int .i64 l, .int .i64 h, .int .i64 z]) ∧ W = w') := Lib.hid fun W => by rw [← hl, ← hh, ← hz]; exact (rlimits_any op W).mono fun _ _ h => ⟨h.1, h.2.symm⟩
  have H5 : Hid (∀ W, Below w.heap.size w W → Calls Tryd.prog 21 #[.string S] W fun x w' => x = .returned (.tuple #[.int .i64 n, .bool b]) ∧ W = w') := Lib.hid fun W hb => (find_any S n b W (hE.below hb) hF).mono fun _ _ h => ⟨h.1, h.2.symm⟩
  have H6 : Hid (∀ W, Calls Tryd.prog 22 #[.string S] W fun x w' => x = .returned (.tuple #[.int .i64 n, .bool b]) ∧ Below W.heap.size W w') := Lib.hid fun W => rfind_any S n b W hF
  have H7 : Hid (∀ W, Below w.heap.size w W → Calls Tryd.prog 23 #[.int .i64 op] W fun x w' => x = .returned (.string U) ∧ W = w') := Lib.hid fun W hb => by rw [hU]; exact (word_any op W (hE.below hb)).mono fun _ _ h => ⟨h.1, h.2.symm⟩
  have H8 : Hid (∀ W, Calls Tryd.prog 24 #[.int .i64 op] W fun x w' => x = .returned (.string U) ∧ Below W.heap.size W w') := Lib.hid fun W => by rw [hU]; exact rword_any op W
  have H9 : Hid (∀ W, Below w.heap.size w W → Calls Tryd.prog 21 #[.string U] W fun x w' => x = .returned (.tuple #[.int .i64 m, .bool c]) ∧ W = w') := Lib.hid fun W hb => (find_any U m c W (hE.below hb) hG).mono fun _ _ h => ⟨h.1, h.2.symm⟩
  have h1 : ¬ (40 : Int) < (S.size : Int) := by omega
  have h2 : (S.size : Int) ≤ 40 := by omega
  have HB := Lib.hid (Below.refl w.heap.size w)
  clear hE hS hU hf he hl hh hz hF hG
  rcases hc with ⟨rfl, rfl, rfl⟩ | ⟨rfl, rfl⟩
  all_goals
    cases b
    all_goals
      go_enter Tryd.func4, Tryd.ntmps4
      go_wp2_with (first
        | (go_at_call 13; refine (HK.out _ HB.out).mono ?_; rintro e V ⟨rfl, hb⟩; replace HB := Lib.hid (HB.out.trans (hb.mono HB.out.size)); clear hb)
        | (go_at_call 17; refine (H1.out _ HB.out).mono ?_; rintro e V ⟨rfl, rfl⟩)
        | (go_at_call 18; refine (H2.out _).mono ?_; rintro e V ⟨rfl, rfl⟩)
        | (go_at_call 19; refine (H3.out _ HB.out).mono ?_; rintro e V2 ⟨rfl, hb⟩; replace HB := Lib.hid (HB.out.trans (hb.mono HB.out.size)); clear hb)
        | (go_at_call 20; refine (H4.out _).mono ?_; rintro e V ⟨rfl, rfl⟩)
        | (go_at_call 21; (with_reducible refine (H5.out _ HB.out).mono ?_); rintro e V ⟨rfl, rfl⟩)
        | (go_at_call 22; refine (H6.out _).mono ?_; rintro e V2 ⟨rfl, hb⟩; replace HB := Lib.hid (HB.out.trans (hb.mono HB.out.size)); clear hb)
        | (go_at_call 23; refine (H7.out _ HB.out).mono ?_; rintro e V ⟨rfl, rfl⟩)
        | (go_at_call 24; refine (H8.out _).mono ?_; rintro e V2 ⟨rfl, hb⟩; replace HB := Lib.hid (HB.out.trans (hb.mono HB.out.size)); clear hb)
        | (go_at_call 21; (with_reducible refine (H9.out _ HB.out).mono ?_); rintro e V ⟨rfl, rfl⟩))
      go_ret
      exact ⟨rfl, HB.out⟩
theorem instrForms_walk (op : Int) (S : ByteArray) (w : World) (hE : Env w) (hM : S.size ≤ maxLen) :
    Calls Tryd.prog 4 #[.int .i64 op, .string S] w fun e w' => e = .returned (.bool true) ∧ Below w.heap.size w w' := by
  by_cases hS : 40 < S.size
  · exact instrForms_long op S w hE hS hM
  · obtain ⟨n, b, hF⟩ := fr_ex S.data.toList
    by_cases h : 0 ≤ op ∧ op ≤ 26
    · exact instrForms_short op S _ _ _ _ _ _ n op b true w hE hS rfl rfl rfl rfl rfl rfl hF (by rw [if_pos h]; exact fr_word op h) (.inl ⟨if_pos h, rfl, rfl⟩)
    · exact instrForms_short op S _ _ _ _ _ _ n 0 b false w hE hS rfl rfl rfl rfl rfl rfl hF (by rw [if_neg h]; exact fr_none) (.inr ⟨if_neg h, rfl⟩)
end Go.Proofs.YtajkccigmiegkaaDoor
