/- lineage: the walk of Tops. -/
import Derived.Test.YtdfenaoddbdppaaDoorLSortCW
import Derived.Test.YtdfenaoddbdppaaDoorLSortMM
set_option linter.unusedVariables false
namespace Go.Proofs.YtdfenaoddbdppaaDoor
open Go.RowKit

theorem topF_nil (x : ByteArray) : topF [] x = [] ++ [x] := rfl
theorem topF_some {o : List ByteArray} {t : ByteArray} (x : ByteArray) (h : o[o.length - 1]? = some t) : topF o x = if inB x t then o else o ++ [x] := by
  unfold topF
  rw [List.getLast?_eq_getElem?, h]
theorem topsF_step {s : List ByteArray} {k : Nat} {x : ByteArray} (h : s[k]? = some x) : topsF (s.take (k + 1)) = topF (topsF (s.take k)) x := by
  unfold topsF
  rw [take_step h, List.foldl_append]; rfl
theorem topF_length (o : List ByteArray) (x : ByteArray) : (topF o x).length ≤ o.length + 1 := by
  unfold topF
  split
  · simp
  · split
    · omega
    · simp
theorem topsF_length : ∀ (k : Nat) (s : List ByteArray), (topsF (s.take k)).length ≤ k
  | 0, s => by simp [topsF]
  | k + 1, s => by
    by_cases hk : k < s.length
    · rw [topsF_step (List.getElem?_eq_getElem hk)]
      have := topF_length (topsF (s.take k)) (s[k]'hk)
      have := topsF_length k s
      omega
    · rw [List.take_of_length_le (by omega), ← List.take_of_length_le (show s.length ≤ k by omega)]
      have := topsF_length k s
      omega
theorem topF_mem (o : List ByteArray) (x s : ByteArray) (h : s ∈ topF o x) : s ∈ o ∨ s = x := by
  unfold topF at h
  split at h
  · simpa using h
  · split at h
    · exact .inl h
    · simpa using h
theorem topsF_mem (s : ByteArray) : ∀ (k : Nat) (l : List ByteArray), s ∈ topsF (l.take k) → s ∈ l
  | 0, l, h => by simp [topsF] at h
  | k + 1, l, h => by
    by_cases hk : k < l.length
    · rw [topsF_step (List.getElem?_eq_getElem hk)] at h
      rcases topF_mem _ _ _ h with h | h
      · exact topsF_mem s k l h
      · rw [h]; exact List.getElem_mem hk
    · rw [List.take_of_length_le (by omega), ← List.take_of_length_le (show l.length ≤ k by omega)] at h
      exact topsF_mem s k l h

set_option maxHeartbeats 4000000 in
set_option maxRecDepth 100000 in
theorem tops_any (A : Option Addr) (l : List ByteArray) (c B : Nat) (w : World) (hr : RT w B A l) (hA : A = none ∨ ∃ b off, A = some ⟨b, off, none⟩) (hB : B ≤ w.heap.size) (hl : ∀ s ∈ l, s.size ≤ 1000000) (hll : l.length ≤ 1000000) :
    Calls Tryd.prog 37 #[.slice A l.length c] w fun e w' => ∃ v, e = .returned v ∧ OT 23 w' w.heap.size v (topsS (sortS l)) ∧ Below w.heap.size w w' := by
  obtain ⟨s, hs⟩ : ∃ s, s = sortS l := ⟨_, rfl⟩
  have HSO : Hid (∀ W, Below w.heap.size w W → Calls Tryd.prog 35 #[.slice A l.length c] W fun e w' => ∃ v, e = .returned v ∧ OT 23 w' W.heap.size v s ∧ Below W.heap.size W w') := Lib.hid fun W hb => by
    rw [hs]; exact sort_any A l c B W (hr.below (hb.mono hB)) hA (Nat.le_trans hB hb.size) hl hll
  have hsz : ∀ x ∈ s, x.size ≤ 1000000 := fun x hx => hl x ((sortS_mem l x).1 (by rw [← hs]; exact hx))
  have hsl : s.length ≤ 1000000 := by have := sortS_length_le l; rw [hs]; omega
  have HEQ : Hid (topsF s = topsS s) := Lib.hid (by
    have := tops_eq s.length s (by rw [hs]; exact sortS_asc l)
    rw [List.take_length] at this; exact this)
  rw [← hs]
  have HSZ := Lib.hid hsz
  clear hr hA hl hs hsz
  go_enter Tryd.func37, Tryd.ntmps37
  go_wp2_with (go_at_call 35; refine (HSO.out _ (Below.refl _ _)).mono ?_; rintro e W1 ⟨v1, rfl, ho1, hb1⟩; obtain ⟨A1, cap1, hv1, hr1, _⟩ := ho1.form; obtain ⟨N, hN⟩ : ∃ N, N = s.length := ⟨_, rfl⟩; rw [← hN] at hv1; subst hv1; have HR1 := Lib.hid hr1; have HB1 := Lib.hid hb1; have HN := Lib.hid hN; clear ho1 hb1 hr1)
  go_loopw [3, 9] (fun u i wr => ∃ k : Nat, k ≤ N ∧ i = .int .i64 k ∧ OT 23 wr W1.heap.size u (topsF (s.take k)) ∧ Below W1.heap.size W1 wr) (fun _ i _ => N - (intOf i).toNat)
  case atStart => exact ⟨0, by omega, rfl, OT.nil _ _ _, Below.refl _ _⟩
  case round =>
    obtain ⟨k, hk, rfl, ho, hb⟩ := hrel
    obtain ⟨o, hoe⟩ : ∃ o, o = topsF (s.take k) := ⟨_, rfl⟩
    rw [← hoe] at ho
    have hol : o.length ≤ k := by rw [hoe]; exact topsF_length k s
    have hos : ∀ x ∈ o, x.size ≤ 1000000 := fun x hx => HSZ.out x (topsF_mem x k s (by rw [← hoe]; exact hx))
    have HOS := Lib.hid hos
    have HOE := Lib.hid hoe
    have HB := Lib.hid hb
    have hbs := hb.size
    clear hoe hos
    by_cases hlt : k < N
    · have h1 : (k : Int) < (N : Int) := by omega
      obtain ⟨b, off, x, rfl, hbb, hx, c0⟩ := HR1.out.at_ (k := k) (by rw [← HN.out]; exact hlt)
      have h0 := (hb.cell (p := ⟨b, off + k, none⟩) hbb).trans c0
      have HX := Lib.hid hx
      have hxz := HSZ.out x (List.mem_of_getElem? hx)
      clear c0 hx hb
      by_cases he : o = []
      · have HF : Hid (topF o x = [] ++ [x]) := Lib.hid (by rw [he]; rfl)
        have ho2 := ho
        rw [he] at ho2
        obtain ⟨A2, cap2, rfl, hr2, _⟩ := ho2.form
        have HO := Lib.hid ho2
        clear ho ho2 hr2 he
        go_wp2_with (refine wpList_pushT tnl (by rfl) (.tmp 27) (.tmp 29) (by rfl) W1.heap.size _ [] (by rfl) x HO.out _ (by rfl) rfl (by simp) hbs ?_; intro v3 w3 ho3 hb3; have HO3 := Lib.hid ho3; have HB3 := Lib.hid (HB.out.trans hb3); clear ho3 hb3)
        go_roundw
        case rel => exact ⟨k + 1, by omega, by go_num, by rw [topsF_step HX.out, ← HOE.out, HF.out]; exact HO3.out, HB3.out⟩
        case measure => simp [intOf] <;> omega
      · have hp : 0 < o.length := List.length_pos_iff.2 he
        obtain ⟨A2, cap2, rfl, hr2, _⟩ := ho.form
        obtain ⟨b2, off2, y, rfl, _, hy, h2⟩ := hr2.at_ (k := o.length - 1) (by omega)
        obtain ⟨M, hM⟩ : ∃ M, M + 1 = o.length := ⟨o.length - 1, by omega⟩
        have hM1 : o.length - 1 = M := by omega
        rw [← hM] at ho ⊢
        rw [hM1] at hy h2
        have HF : Hid (topF o x = if inB x y then o else o ++ [x]) := Lib.hid (topF_some x (by rw [hM1]; exact hy))
        have hyz := HOS.out y (List.mem_of_getElem? hy)
        have HW : Hid (∀ W, Calls Tryd.prog 27 #[.string x, .string y] W fun e w' => e = .returned (.bool (inB x y)) ∧ Below W.heap.size W w') := Lib.hid fun W => within_any x y W hxz hyz
        have HO := Lib.hid ho
        have HM := Lib.hid hM
        have hMb : M < 1000000 := by omega
        clear ho hr2 hy hM hM1 he hp
        cases hq : inB x y with
        | true =>
          rw [hq] at HW HF
          clear hq
          go_wp2_with (go_at_call 27; refine (HW.out _).mono ?_; rintro e w2 ⟨rfl, hb2⟩; have HO2 := Lib.hid (HO.out.below hb2 (Nat.le_refl _)); have HB2 := Lib.hid (HB.out.trans (hb2.mono hbs)); clear hb2)
          go_roundw
          case rel => exact ⟨k + 1, by omega, by go_num, by rw [topsF_step HX.out, ← HOE.out, HF.out, if_pos trivial]; exact HO2.out, HB2.out⟩
          case measure => simp [intOf] <;> omega
        | false =>
          rw [hq] at HW HF
          clear hq
          go_wp2_with (first
            | (go_at_call 27; refine (HW.out _).mono ?_; rintro e w2 ⟨rfl, hb2⟩; have HO2 := Lib.hid (HO.out.below hb2 (Nat.le_refl _)); have HB2 := Lib.hid (HB.out.trans (hb2.mono hbs)); have hbs2 := HB2.out.size; clear hb2)
            | (refine wpList_pushT tnl (by rfl) (.tmp 27) (.tmp 29) (by rfl) W1.heap.size _ o (by rfl) x HO2.out _ (by rfl) rfl (by rw [← HM.out]; omega) hbs2 ?_; intro v3 w3 ho3 hb3; have HO3 := Lib.hid ho3; have HB3 := Lib.hid (HB2.out.trans hb3); clear ho3 hb3))
          go_roundw
          case rel => exact ⟨k + 1, by omega, by go_num, by rw [topsF_step HX.out, ← HOE.out, HF.out, if_neg (by decide)]; exact HO3.out, HB3.out⟩
          case measure => simp [intOf] <;> omega
    · have h1 : ¬ (k : Int) < (N : Int) := by omega
      have hf : o = topsS s := by
        have := HOE.out
        rw [List.take_of_length_le (by rw [← HN.out]; omega), HEQ.out] at this
        exact this
      have HF := Lib.hid hf
      have HO := Lib.hid ho
      clear hf ho hb
      go_wp2
      go_ret
      exact ⟨_, rfl, by rw [← HF.out]; exact World.ownsRow.mono HO.out HB1.out.size, HB1.out.trans (HB.out.mono HB1.out.size)⟩
end Go.Proofs.YtdfenaoddbdppaaDoor
