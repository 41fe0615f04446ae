/- lineage: the walk of the reference's Sort. -/
import Derived.Test.YtdfenaoddbdppaaDoorLStrsA
import Derived.Test.YtdfenaoddbdppaaDoorLSortMM
import Derived.Test.YtdfenaoddbdppaaDoorLRCompare
set_option linter.unusedVariables false
namespace Go.Proofs.YtdfenaoddbdppaaDoor
open Go.RowKit

theorem pos_lt (x : ByteArray) : ∀ (o : List ByteArray) (k : Nat) (y : ByteArray), o[k]? = some y → k < posS x o → ltB y x
  | [], _, _, h, _ => by simp at h
  | z :: o, 0, y, h, hk => by
    rw [posS_cons] at hk
    simp at h; subst h
    by_cases h' : compareB z.data.toList x.data.toList < 0
    · exact h'
    · rw [if_neg h'] at hk; omega
  | z :: o, k + 1, y, h, hk => by
    rw [posS_cons] at hk
    rw [List.getElem?_cons_succ] at h
    by_cases h' : compareB z.data.toList x.data.toList < 0
    · rw [if_pos h'] at hk; exact pos_lt x o k y h (by omega)
    · rw [if_neg h'] at hk; omega
theorem pos_ge (x : ByteArray) : ∀ (o : List ByteArray) (y : ByteArray), o[posS x o]? = some y → ¬ ltB y x
  | [], y, h => by simp at h
  | z :: o, y, h => by
    rw [posS_cons] at h
    by_cases h' : compareB z.data.toList x.data.toList < 0
    · rw [if_pos h', List.getElem?_cons_succ] at h; exact pos_ge x o y h
    · rw [if_neg h'] at h; simp at h; subst h; exact h'
theorem pos_go {x y : ByteArray} {o : List ByteArray} {k : Nat} (h : o[k]? = some y) (hk : k ≤ posS x o) (hl : ltB y x) : k + 1 ≤ posS x o := by
  rcases Nat.lt_or_ge k (posS x o) with h1 | h1
  · exact h1
  · have : k = posS x o := by omega
    rw [this] at h
    exact absurd hl (pos_ge x o y h)
theorem pos_stop {x y : ByteArray} {o : List ByteArray} {k : Nat} (h : o[k]? = some y) (hk : k ≤ posS x o) (hl : ¬ ltB y x) : posS x o = k := by
  rcases Nat.lt_or_ge k (posS x o) with h1 | h1
  · exact absurd (pos_lt x o k y h h1) hl
  · omega
theorem pos_end {x : ByteArray} {o : List ByteArray} {k : Nat} (hk : k ≤ posS x o) (h : ¬ k < o.length) : posS x o = k := by
  have := posS_le x o; omega
theorem ins_same {x : ByteArray} {o : List ByteArray} {k : Nat} (hp : posS x o = k) (h : o[k]? = some x) : insS o x = o := by unfold insS; rw [hp, if_pos h]
theorem ins_new {x : ByteArray} {o : List ByteArray} {k : Nat} (hp : posS x o = k) (h : o[k]? ≠ some x) : insS o x = o.take k ++ [x] ++ o.drop k := by unfold insS; rw [hp, if_neg h]

theorem RT.cellT {w : World} {B b off k : Nat} {l : List ByteArray} {s : ByteArray} (h : RT w B (some ⟨b, off, none⟩) l) (hk : l[k]? = some s) : w.cell? ⟨b, off + k, none⟩ = some (sv s) := by
  obtain ⟨b', off', e, _, hc⟩ := h (by have := (List.getElem?_eq_some_iff.1 hk).1; omega)
  cases e
  exact hc k s hk
theorem OGT.rt {w : World} {base n cap : Nat} {A : Option Addr} {o : List ByteArray} (h : OGT w base (.slice A n cap) o) : RT w w.heap.size A o := by
  obtain ⟨A', cap', hv, hr, _⟩ := h.form
  cases hv
  exact hr
theorem OGT.empty (w : World) (base g : Nat) : OGT w base (.slice (some ⟨g, 0, none⟩) 0 0) [] := ⟨_, _, rfl, Nat.le_refl _, Nat.zero_le _, .inl rfl⟩
/-- The shape of a slice with elements. -/
theorem OGT.shape {w : World} {base : Nat} {v : Value} {o : List ByteArray} (h : OGT w base v o) (h0 : o ≠ []) : ∃ g cap, v = .slice (some ⟨g, 0, none⟩) o.length cap ∧ o.length ≤ cap := by
  obtain ⟨A, cap, rfl, h1, h2, h3⟩ := h
  have hp : 0 < o.length := List.length_pos_iff.2 h0
  rcases h3 with h3 | ⟨g, rfl, _⟩
  · omega
  · exact ⟨g, cap, rfl, h1⟩
theorem OGT.mono {w : World} {base base' : Nat} {v : Value} {o : List ByteArray} (h : OGT w base v o) (hb : base' ≤ base) : OGT w base' v o := by
  obtain ⟨A, cap, rfl, h1, h2, h3⟩ := h
  refine ⟨A, cap, rfl, h1, h2, h3.imp id ?_⟩
  rintro ⟨g, rfl, h4, h5⟩
  exact ⟨g, rfl, by omega, h5⟩
theorem OGT.takeAt {w : World} {base n cap g k : Nat} {o : List ByteArray} (h : OGT w base (.slice (some ⟨g, 0, none⟩) n cap) o) : ∀ j s, (o.take k)[j]? = some s → w.cell? ⟨g, 0 + j, none⟩ = some (sv s) := fun j s hj => by
  rw [List.getElem?_take] at hj
  split at hj
  · exact h.rt.cellT hj
  · cases hj
theorem OGT.dropAt {w : World} {base n cap g k : Nat} {o : List ByteArray} (h : OGT w base (.slice (some ⟨g, 0, none⟩) n cap) o) : ∀ j s, (o.drop k)[j]? = some s → w.cell? ⟨g, k + j, none⟩ = some (sv s) := fun j s hj => by
  rw [List.getElem?_drop] at hj
  have := h.rt.cellT hj
  rw [Nat.zero_add] at this; exact this
theorem post_gen {Q : Exit → Act → World → Prop} {e : Exit} {a : Act} {V : World} (R : World → Prop) (h0 : R V) (h : ∀ W, R W → Q e a W) : Q e a V := h V h0
/-- What lies there: the list so far, the list that came in. -/
def SR (w : World) (A : Option Addr) (l : List ByteArray) (v : Value) (o : List ByteArray) (W : World) : Prop := OGT W w.heap.size v o ∧ RT W w.heap.size A l ∧ Below w.heap.size w W
theorem SR.next {w W W' : World} {A : Option Addr} {l o : List ByteArray} {v : Value} (h : SR w A l v o W) (hb : Below W.heap.size W W') : SR w A l v o W' :=
  ⟨h.1.below hb (Nat.le_refl _), h.2.1.below (hb.mono h.2.2.size), h.2.2.trans (hb.mono h.2.2.size)⟩
theorem SR.drewN {w W : World} {A : Option Addr} {l o : List ByteArray} {v : Value} (h : SR w A l v o W) (n : Nat) : SR w A l v o (W.drewN n) := ⟨h.1, h.2.1, ⟨h.2.2.os, h.2.2.tape, h.2.2.output, h.2.2.size, h.2.2.block⟩⟩
theorem SR.drew {w W : World} {A : Option Addr} {l o : List ByteArray} {v : Value} (h : SR w A l v o W) : SR w A l v o W.drew := ⟨h.1, h.2.1, h.2.2.drew⟩

set_option maxHeartbeats 8000000 in
set_option maxRecDepth 100000 in
theorem refSort_any (A : Option Addr) (l : List ByteArray) (c B : Nat) (w : World) (hr : RT w B A l) (hB : B ≤ w.heap.size) (hl : ∀ s ∈ l, s.size ≤ 1000000) (hll : l.length ≤ 1000000) :
    Calls Tryd.prog 36 #[.slice A l.length c] w fun e w' => ∃ v, e = .returned v ∧ OGT w' w.heap.size v (sortS l) ∧ Below w.heap.size w w' := by
  have hr0 : RT w w.heap.size A l := fun h => by
    obtain ⟨b, off, e, h1, h2⟩ := hr h
    exact ⟨b, off, e, by omega, h2⟩
  have HL := Lib.hid hl
  have HR0 := Lib.hid hr0
  clear hr hr0 hl
  go_enter Tryd.func36, Tryd.ntmps36
  go_wp2
  go_loopw [3, 4] (fun u i wr => ∃ k : Nat, k ≤ l.length ∧ i = .int .i64 k ∧ SR w A l u (sortS (l.take k)) wr ∧ (u = .slice none 0 0 ∨ sortS (l.take k) ≠ [])) (fun _ i _ => l.length - (intOf i).toNat)
  case atStart => exact ⟨0, by omega, rfl, ⟨⟨none, 0, rfl, Nat.le_refl _, Nat.zero_le _, .inl rfl⟩, HR0.out, Below.refl _ _⟩, .inl rfl⟩
  case round =>
    obtain ⟨i, hi, rfl, hS, hne⟩ := hrel
    obtain ⟨o, ho⟩ : ∃ o, o = sortS (l.take i) := ⟨_, rfl⟩
    rw [← ho] at hS hne
    have hol : o.length ≤ i := by
      have := sortS_length_le (l.take i)
      rw [ho]; rw [List.length_take] at this; omega
    have HO := Lib.hid ho
    have HS := Lib.hid hS
    clear ho
    by_cases hlt : i < l.length
    · have h1 : (i : Int) < (l.length : Int) := by omega
      obtain ⟨bl, fl, x, rfl, _, hx, _⟩ := HR0.out.at_ hlt
      have hxl : x.size ≤ 1000000 := HL.out x (List.mem_of_getElem? hx)
      have HX := Lib.hid hx
      have HXL := Lib.hid hxl
      clear hx hxl hS
      by_cases he : o = []
      · have hne2 := hne.resolve_right (fun h => h he)
        subst hne2
        subst he
        have HI : Hid (insS [] x = [x]) := Lib.hid (by simp [insS, posS])
        clear hne
        go_wp2
        go_loopw [5] (fun a wr2 => a = .int .i64 (0 : Int) ∧ SR w (some ⟨bl, fl, none⟩) l (.slice none 0 0) [] wr2) (fun _ _ => 0)
        case atStart => exact ⟨rfl, HS.out⟩
        case round =>
          obtain ⟨rfl, hS2⟩ := hrel
          have HS0 := Lib.hid hS2
          clear hS2
          go_wp2
          refine wp_region_held_drew (S := SR w (some ⟨bl, fl, none⟩) l (.slice none 0 0) []) (by kernel_rfl) (HS0.out.drew) (fun hHeld => ?_)
          refine wpAnyH_take (i := 0) (v := ?_) (ops_atL rfl) (by kernel_rfl) (by kernel_rfl) (by kernel_rfl) (fun _ _ _ h => h) (Or.inl ⟨by rfl, ?_⟩) hHeld ?_
          rotate_left
          · (intro W hSW; go_simp; try with_reducible rfl)
          try simp only [Act.put, List.setIfInBounds_toArray, List.set_cons_zero, List.set_cons_succ]
          refine wpAnyH_take (i := 1) (v := ?_) (ops_atL rfl) (by kernel_rfl) (by kernel_rfl) (by kernel_rfl) (fun _ _ _ h => h) (Or.inl ⟨by rfl, ?_⟩) hHeld ?_
          rotate_left
          · (intro W hSW; go_simp; try with_reducible rfl)
          try simp only [Act.put, List.setIfInBounds_toArray, List.set_cons_zero, List.set_cons_succ]
          refine wpAnyH_take (i := 2) (v := ?_) (ops_atL rfl) (by kernel_rfl) (by kernel_rfl) (by kernel_rfl) (fun _ _ _ h => h) (Or.inl ⟨by rfl, ?_⟩) hHeld ?_
          rotate_left
          · (intro W hSW; go_simp; try with_reducible rfl)
          try simp only [Act.put, List.setIfInBounds_toArray, List.set_cons_zero, List.set_cons_succ]
          refine wpAnyH_take (i := 3) (v := ?_) (ops_atL rfl) (by kernel_rfl) (by kernel_rfl) (by kernel_rfl) (fun _ _ _ h => h) (Or.inl ⟨by rfl, ?_⟩) hHeld ?_
          rotate_left
          · (intro W hSW; go_simp; try with_reducible rfl)
          try simp only [Act.put, List.setIfInBounds_toArray, List.set_cons_zero, List.set_cons_succ]
          refine wpAnyH_take (i := 4) (v := ?_) (ops_atL rfl) (by kernel_rfl) (by kernel_rfl) (by kernel_rfl) (fun _ _ _ h => h) (Or.inl ⟨by rfl, ?_⟩) hHeld ?_
          rotate_left
          · (intro W hSW; go_simp; try with_reducible rfl)
          try simp only [Act.put, List.setIfInBounds_toArray, List.set_cons_zero, List.set_cons_succ]
          refine wpAnyH_take (i := 5) (v := undef) (ops_atL rfl) (by kernel_rfl) (by kernel_rfl) (by kernel_rfl) (fun _ _ _ h => h) (Or.inr ⟨by rfl, rfl⟩) hHeld ?_
          try simp only [Act.put, List.setIfInBounds_toArray, List.set_cons_zero, List.set_cons_succ]
          refine wpAnyH_take (i := 6) (v := undef) (ops_atL rfl) (by kernel_rfl) (by kernel_rfl) (by kernel_rfl) (fun _ _ _ h => h) (Or.inr ⟨by rfl, rfl⟩) hHeld ?_
          try simp only [Act.put, List.setIfInBounds_toArray, List.set_cons_zero, List.set_cons_succ]
          refine wpAnyH_take (i := 7) (v := undef) (ops_atL rfl) (by kernel_rfl) (by kernel_rfl) (by kernel_rfl) (fun _ _ _ h => h) (Or.inr ⟨by rfl, rfl⟩) hHeld ?_
          try simp only [Act.put, List.setIfInBounds_toArray, List.set_cons_zero, List.set_cons_succ]
          refine wpAnyH_take (i := 8) (v := undef) (ops_atL rfl) (by kernel_rfl) (by kernel_rfl) (by kernel_rfl) (fun _ _ _ h => h) (Or.inr ⟨by rfl, rfl⟩) hHeld ?_
          try simp only [Act.put, List.setIfInBounds_toArray, List.set_cons_zero, List.set_cons_succ]
          refine wpAnyH_take (i := 9) (v := undef) (ops_atL rfl) (by kernel_rfl) (by kernel_rfl) (by kernel_rfl) (fun _ _ _ h => h) (Or.inr ⟨by rfl, rfl⟩) hHeld ?_
          try simp only [Act.put, List.setIfInBounds_toArray, List.set_cons_zero, List.set_cons_succ]
          refine wpAnyH_take (i := 10) (v := undef) (ops_atL rfl) (by kernel_rfl) (by kernel_rfl) (by kernel_rfl) (fun _ _ _ h => h) (Or.inr ⟨by rfl, rfl⟩) hHeld ?_
          try simp only [Act.put, List.setIfInBounds_toArray, List.set_cons_zero, List.set_cons_succ]
          refine wpAnyH_take (i := 11) (v := undef) (ops_atL rfl) (by kernel_rfl) (by kernel_rfl) (by kernel_rfl) (fun _ _ _ h => h) (Or.inr ⟨by rfl, rfl⟩) hHeld ?_
          try simp only [Act.put, List.setIfInBounds_toArray, List.set_cons_zero, List.set_cons_succ]
          refine wpAnyH_take (i := 12) (v := undef) (ops_atL rfl) (by kernel_rfl) (by kernel_rfl) (by kernel_rfl) (fun _ _ _ h => h) (Or.inr ⟨by rfl, rfl⟩) hHeld ?_
          try simp only [Act.put, List.setIfInBounds_toArray, List.set_cons_zero, List.set_cons_succ]
          refine wpAnyH_take (i := 13) (v := undef) (ops_atL rfl) (by kernel_rfl) (by kernel_rfl) (by kernel_rfl) (fun _ _ _ h => h) (Or.inr ⟨by rfl, rfl⟩) hHeld ?_
          try simp only [Act.put, List.setIfInBounds_toArray, List.set_cons_zero, List.set_cons_succ]
          refine wpAnyH_take (i := 14) (v := undef) (ops_atL rfl) (by kernel_rfl) (by kernel_rfl) (by kernel_rfl) (fun _ _ _ h => h) (Or.inr ⟨by rfl, rfl⟩) hHeld ?_
          try simp only [Act.put, List.setIfInBounds_toArray, List.set_cons_zero, List.set_cons_succ]
          refine wpAnyH_take (i := 15) (v := ?_) (ops_atL rfl) (by kernel_rfl) (by kernel_rfl) (by kernel_rfl) (fun _ _ _ h => h) (Or.inl ⟨by rfl, ?_⟩) hHeld ?_
          rotate_left
          · (intro W hSW; go_simp; try with_reducible rfl)
          try simp only [Act.put, List.setIfInBounds_toArray, List.set_cons_zero, List.set_cons_succ]
          refine wpAnyH_done (by kernel_rfl) ?_ _
          have HH := Lib.hid hHeld
          clear hHeld
          go_wp2_with fail
          go_quiet (fail)
          refine post_gen (SR w (some ⟨bl, fl, none⟩) l (.slice none 0 0) []) (HH.out.drewN _) ?_
          clear HH
          intro V hV
          have HS3 := Lib.hid hV
          have hB0 := hV.2.2.size
          clear hV
          have hB2 := below_alloc0 V (.cells #[] 9) (Nat.le_refl _)
          obtain ⟨W2, hW2⟩ : ∃ W2, W2 = V.alloc (.cells #[] 9) := ⟨_, rfl⟩
          rw [← hW2] at hB2
          have c1 := (HS3.out.next hB2).2.1.cellT HX.out
          rw [hW2] at c1
          have HB2 := Lib.hid hB2
          have HW2 := Lib.hid hW2
          have hWs : W2.heap.size = V.heap.size + 1 := by rw [hW2]; simp
          have HWs := Lib.hid hWs
          clear hB2 hW2 hWs
          go_wp2_with (first
            | (rw [← HW2.out]; refine wpList_appT tsl (by rfl) (.tmp 51) (.tmp 56) 55 (by rfl) V.heap.size (.slice (some ⟨V.heap.size, 0, none⟩) 0 0) [] [x] (by rfl) (OGT.empty _ _ _) (.slice (some ⟨V.heap.size + 1, 0, none⟩) 1 1) (by rfl) (src_lits tsl W2 [x] 1 _ HWs.out.symm) (by simp) (by have := HB2.out.size; simp; omega) ?_; intro v3 W3 ho3 hb3; rw [List.nil_append] at ho3; obtain ⟨A3, cap3, hv3, _⟩ := ho3.form; rw [show ([x] : List ByteArray).length = 1 from rfl] at hv3; subst hv3; have HO3 := Lib.hid ho3; have HB3 := Lib.hid ((HB2.out.alloc HB2.out.size _).trans hb3); clear ho3 hb3)
            | (refine wpList_appT tsl (by rfl) (.tmp 58) (.tmp 61) 55 (by rfl) V.heap.size (.slice A3 1 cap3) [x] [] (by rfl) HO3.out (.slice none 0 0) (by rfl) (Src.ofNil _ tsl.u 0) (by simp) HB3.out.size ?_; intro v4 W4 ho4 hb4; rw [List.append_nil] at ho4; have HO4 := Lib.hid ho4; have HB4 := Lib.hid (HB3.out.trans hb4); clear ho4 hb4))
          go_roundw
          case rel =>
            have hS6 := HS3.out.next HB4.out
            refine ⟨i + 1, by omega, by go_num, ?_⟩
            rw [sortS_step HX.out, ← HO.out, HI.out]
            exact ⟨⟨HO4.out.mono hB0, hS6.2.1, hS6.2.2⟩, .inr (by simp)⟩
          case measure => simp [intOf] <;> omega
      · obtain ⟨g, cap, rfl, hcap⟩ := HS.out.1.shape he
        obtain ⟨N, hN⟩ : ∃ N, N = o.length := ⟨_, rfl⟩
        rw [← hN] at HS hcap hol ⊢
        have HN := Lib.hid hN
        have HE := Lib.hid he
        clear hne he hN
        go_wp2
        go_loopw [5] (fun a wr2 => ∃ k : Nat, k ≤ N ∧ a = .int .i64 k ∧ k ≤ posS x o ∧ SR w (some ⟨bl, fl, none⟩) l (.slice (some ⟨g, 0, none⟩) N cap) o wr2) (fun a _ => N - (intOf a).toNat)
        case atStart => exact ⟨0, by omega, rfl, by omega, HS.out⟩
        case round =>
          obtain ⟨k, hk, rfl, hp, hS2⟩ := hrel
          have HP := Lib.hid hp
          have HS0 := Lib.hid hS2
          clear hp hS2
          by_cases hlk : k < N
          · have h2 : (k : Int) < (N : Int) := by omega
            obtain ⟨y, hy⟩ : ∃ y, o[k]? = some y := ⟨o[k]'(by rw [← HN.out]; omega), List.getElem?_eq_getElem _⟩
            have HY := Lib.hid hy
            have hyl : y.size ≤ 1000000 := HL.out y ((List.mem_of_mem_take ((sortS_mem _ _).1 (by rw [← HO.out]; exact List.mem_of_getElem? hy))))
            obtain ⟨cv, hcv⟩ : ∃ cv, cv = compareB y.data.toList x.data.toList := ⟨_, rfl⟩
            have HC : Hid (∀ W, SR w (some ⟨bl, fl, none⟩) l (.slice (some ⟨g, 0, none⟩) N cap) o W → Calls Tryd.prog 32 #[.string y, .string x] W fun e w' => e = .returned (.int .i64 cv) ∧ SR w (some ⟨bl, fl, none⟩) l (.slice (some ⟨g, 0, none⟩) N cap) o w') := Lib.hid fun W hW => (refCompare_any y x W hyl HXL.out).mono fun e w' h => ⟨by rw [hcv]; exact h.1, hW.next h.2⟩
            have HCV := Lib.hid hcv
            clear hy hyl hcv
            go_wp2
            refine wp_region_held_drew (S := SR w (some ⟨bl, fl, none⟩) l (.slice (some ⟨g, 0, none⟩) N cap) o) (by kernel_rfl) (HS0.out.drew) (fun hHeld => ?_)
            refine wpAnyH_take (i := 0) (v := ?_) (ops_atL rfl) (by kernel_rfl) (by kernel_rfl) (by kernel_rfl) (fun _ _ _ h => h) (Or.inl ⟨by rfl, ?_⟩) hHeld ?_
            rotate_left
            · (intro W hSW; go_simp; try with_reducible rfl)
            try simp only [Act.put, List.setIfInBounds_toArray, List.set_cons_zero, List.set_cons_succ]
            refine wpAnyH_take (i := 1) (v := ?_) (ops_atL rfl) (by kernel_rfl) (by kernel_rfl) (by kernel_rfl) (fun _ _ _ h => h) (Or.inl ⟨by rfl, ?_⟩) hHeld ?_
            rotate_left
            · (intro W hSW; go_simp; try with_reducible rfl)
            try simp only [Act.put, List.setIfInBounds_toArray, List.set_cons_zero, List.set_cons_succ]
            refine wpAnyH_take (i := 2) (v := ?_) (ops_atL rfl) (by kernel_rfl) (by kernel_rfl) (by kernel_rfl) (fun _ _ _ h => h) (Or.inl ⟨by rfl, ?_⟩) hHeld ?_
            rotate_left
            · (intro W hSW; go_simp; try with_reducible rfl)
            try simp only [Act.put, List.setIfInBounds_toArray, List.set_cons_zero, List.set_cons_succ]
            refine wpAnyH_take (i := 3) (v := ?_) (ops_atL rfl) (by kernel_rfl) (by kernel_rfl) (by kernel_rfl) (fun _ _ _ h => h) (Or.inl ⟨by rfl, ?_⟩) hHeld ?_
            rotate_left
            · (intro W hSW; go_simp; try with_reducible rfl)
            try simp only [Act.put, List.setIfInBounds_toArray, List.set_cons_zero, List.set_cons_succ]
            refine wpAnyH_take (i := 4) (v := ?_) (ops_atL rfl) (by kernel_rfl) (by kernel_rfl) (by kernel_rfl) (fun _ _ _ h => h) (Or.inl ⟨by rfl, ?_⟩) hHeld ?_
            rotate_left
            · (intro W hSW; go_simp; try with_reducible rfl)
            try simp only [Act.put, List.setIfInBounds_toArray, List.set_cons_zero, List.set_cons_succ]
            refine wpAnyH_take (i := 5) (v := ?_) (ops_atL rfl) (by kernel_rfl) (by kernel_rfl) (by kernel_rfl) (fun _ _ _ h => h) (Or.inl ⟨by rfl, ?_⟩) hHeld ?_
            rotate_left
            · (intro W hSW; go_simp; try with_reducible rfl)
            try simp only [Act.put, List.setIfInBounds_toArray, List.set_cons_zero, List.set_cons_succ]
            refine wpAnyH_take (i := 6) (v := ?_) (ops_atL rfl) (by kernel_rfl) (by kernel_rfl) (by kernel_rfl) (fun _ _ _ h => h) (Or.inl ⟨by rfl, ?_⟩) hHeld ?_
            rotate_left
            · (intro W hSW; go_simp; try with_reducible rfl)
            try simp only [Act.put, List.setIfInBounds_toArray, List.set_cons_zero, List.set_cons_succ]
            refine wpAnyH_take (i := 7) (v := ?_) (ops_atL rfl) (by kernel_rfl) (by kernel_rfl) (by kernel_rfl) (fun _ _ _ h => h) (Or.inl ⟨by rfl, ?_⟩) hHeld ?_
            rotate_left
            · (intro W hSW; go_simp; try with_reducible rfl)
            try simp only [Act.put, List.setIfInBounds_toArray, List.set_cons_zero, List.set_cons_succ]
            refine wpAnyH_take (i := 8) (v := ?_) (ops_atL rfl) (by kernel_rfl) (by kernel_rfl) (by kernel_rfl) (fun _ _ _ h => h) (Or.inl ⟨by rfl, ?_⟩) hHeld ?_
            rotate_left
            · (intro W hSW; have c0 := hSW.1.rt.cellT HY.out; rw [Nat.zero_add] at c0; go_simp; try with_reducible rfl)
            try simp only [Act.put, List.setIfInBounds_toArray, List.set_cons_zero, List.set_cons_succ]
            refine wpAnyH_take (i := 9) (v := ?_) (ops_atL rfl) (by kernel_rfl) (by kernel_rfl) (by kernel_rfl) (fun _ _ _ h => h) (Or.inl ⟨by rfl, ?_⟩) hHeld ?_
            rotate_left
            · (intro W hSW; go_simp; try with_reducible rfl)
            try simp only [Act.put, List.setIfInBounds_toArray, List.set_cons_zero, List.set_cons_succ]
            refine wpAnyH_take (i := 10) (v := ?_) (ops_atL rfl) (by kernel_rfl) (by kernel_rfl) (by kernel_rfl) (fun _ _ _ h => h) (Or.inl ⟨by rfl, ?_⟩) hHeld ?_
            rotate_left
            · (intro W hSW; go_simp; try with_reducible rfl)
            try simp only [Act.put, List.setIfInBounds_toArray, List.set_cons_zero, List.set_cons_succ]
            refine wpAnyH_take (i := 11) (v := ?_) (ops_atL rfl) (by kernel_rfl) (by kernel_rfl) (by kernel_rfl) (fun _ _ _ h => h) (Or.inl ⟨by rfl, ?_⟩) hHeld ?_
            rotate_left
            · (intro W hSW; go_simp; try with_reducible rfl)
            try simp only [Act.put, List.setIfInBounds_toArray, List.set_cons_zero, List.set_cons_succ]
            refine wpAnyH_take (i := 12) (v := ?_) (ops_atL rfl) (by kernel_rfl) (by kernel_rfl) (by kernel_rfl) (fun _ _ _ h => h) (Or.inl ⟨by rfl, ?_⟩) hHeld ?_
            rotate_left
            · (intro W hSW; have c0 := hSW.2.1.cellT HX.out; go_simp; try with_reducible rfl)
            try simp only [Act.put, List.setIfInBounds_toArray, List.set_cons_zero, List.set_cons_succ]
            refine wpAnyH_ready (rs := [13]) (by kernel_rfl) (by simp) ?_
            refine AllReadyH.cons (ops_atL rfl) (fun K hK => ?_) AllReadyH.nil
            go_simp
            (go_at_call 32; refine (HC.out _ hHeld).mono ?_; rintro e W' ⟨rfl, hb'⟩)
            refine hK.out _ _ hb' (fun hHeld => ?_)
            clear hK K
            try simp only [Act.put, List.setIfInBounds_toArray, List.set_cons_zero, List.set_cons_succ]
            refine wpAnyH_take (i := 14) (v := ?_) (ops_atL rfl) (by kernel_rfl) (by kernel_rfl) (by kernel_rfl) (fun _ _ _ h => h) (Or.inl ⟨by rfl, ?_⟩) hHeld ?_
            rotate_left
            · (intro W hSW; go_simp; try with_reducible rfl)
            try simp only [Act.put, List.setIfInBounds_toArray, List.set_cons_zero, List.set_cons_succ]
            refine wpAnyH_take (i := 15) (v := ?_) (ops_atL rfl) (by kernel_rfl) (by kernel_rfl) (by kernel_rfl) (fun _ _ _ h => h) (Or.inl ⟨by rfl, ?_⟩) hHeld ?_
            rotate_left
            · (intro W hSW; go_simp; try with_reducible rfl)
            try simp only [Act.put, List.setIfInBounds_toArray, List.set_cons_zero, List.set_cons_succ]
            refine wpAnyH_done (by kernel_rfl) ?_ _
            by_cases hcl : cv < 0
            · have HG := Lib.hid (pos_go HY.out HP.out (by show compareB _ _ < 0; rw [← HCV.out]; exact hcl))
              go_wp2
              go_roundw
              case rel => exact ⟨k + 1, by omega, by go_num, HG.out, hHeld⟩
              case measure => simp [intOf] <;> omega
            · have HG := Lib.hid (pos_stop HY.out HP.out (by show ¬ compareB _ _ < 0; rw [← HCV.out]; exact hcl))
              have c0 : W'.cell? ⟨g, k, none⟩ = some (sv y) := by have := hHeld.1.rt.cellT HY.out; rw [Nat.zero_add] at this; exact this
              have c1 : W'.cell? ⟨bl, fl + i, none⟩ = some (sv x) := hHeld.2.1.cellT HX.out
              have HH := Lib.hid hHeld
              clear hHeld
              by_cases hyx : y = x
              · have q : (y.toList == x.toList) = true := by rw [str_beq, decide_eq_true hyx]
                have HI := Lib.hid (ins_same HG.out (by rw [HY.out, hyx]))
                go_wp2_with fail
                go_quiet (fail)
                go_wp2
                go_roundw
                case rel =>
                  refine ⟨i + 1, by omega, by go_num, ?_⟩
                  rw [sortS_step HX.out, ← HO.out, HI.out]
                  exact ⟨HH.out.drewN _, .inr HE.out⟩
                case measure => simp [intOf] <;> omega
              · have q : (y.toList == x.toList) = false := by rw [str_beq, decide_eq_false hyx]
                have HI := Lib.hid (ins_new HG.out (by rw [HY.out]; intro e; injection e with e; exact hyx e))
                go_wp2_with fail
                go_quiet (fail)
                clear c0 c1 hyx q
                refine post_gen (SR w (some ⟨bl, fl, none⟩) l (.slice (some ⟨g, 0, none⟩) N cap) o) (HH.out.drewN _) ?_
                clear HH
                intro V hV
                have HS3 := Lib.hid hV
                obtain ⟨m1, hm1⟩ : ∃ m, m = o.take k := ⟨_, rfl⟩
                obtain ⟨m3, hm3⟩ : ∃ m, m = o.drop k := ⟨_, rfl⟩
                have hml1 : k = m1.length := by rw [hm1, List.length_take, ← HN.out]; omega
                have hml3 : N - k = m3.length := by rw [hm3, List.length_drop, ← HN.out]
                have HM1 := Lib.hid hm1
                have HM3 := Lib.hid hm3
                have HK1 := Lib.hid hml1
                have HK3 := Lib.hid hml3
                have hk5 : k ≤ cap := by omega
                have hB0 := hV.2.2.size
                clear hm1 hm3 hml1 hml3 hV
                go_wp2_with (first
                  | (refine wpList_appT tsl (by rfl) (.tmp 46) (.tmp 49) 55 (by rfl) V.heap.size _ [] m1 (by rfl) (OGT.empty _ _ _) (.slice (some ⟨g, 0, none⟩) k cap) (by rfl) (src_rts tsl (by rw [HM1.out]; exact (HS3.out.1.alloc _).takeAt) cap HK1.out) (by rw [← HK1.out]; simp; omega) (by simp) ?_; intro v2 W2 ho2 hb2; rw [List.nil_append] at ho2; obtain ⟨A2, cap2, hv2, _⟩ := ho2.form; rw [← HK1.out] at hv2; subst hv2; have HO2 := Lib.hid ho2; have HB2 := Lib.hid ((below_alloc0 V _ (Nat.le_refl _)).trans hb2); have HS4 := Lib.hid (HS3.out.next HB2.out); have c1 := HS4.out.2.1.cellT HX.out; clear ho2 hb2)
                  | (refine wpList_appT tsl (by rfl) (.tmp 51) (.tmp 56) 55 (by rfl) V.heap.size (.slice A2 k cap2) m1 [x] (by rfl) (HO2.out.alloc _) (.slice (some ⟨W2.heap.size, 0, none⟩) 1 1) (by rfl) (src_lits tsl W2 [x] 1 _ rfl) (by rw [← HK1.out]; simp; omega) (by have := HB2.out.size; simp; omega) ?_; intro v3 W3 ho3 hb3; obtain ⟨m2, hm2⟩ : ∃ m, m = m1 ++ [x] := ⟨_, rfl⟩; rw [← hm2] at ho3; obtain ⟨A3, cap3, hv3, _⟩ := ho3.form; obtain ⟨N3, hN3⟩ : ∃ N, N = m2.length := ⟨_, rfl⟩; rw [← hN3] at hv3; subst hv3; have HO3 := Lib.hid ho3; have HB3 := Lib.hid ((HB2.out.alloc HB2.out.size _).trans hb3); have HS5 := Lib.hid (HS3.out.next HB3.out); have HM2 := Lib.hid hm2; have HN3 := Lib.hid hN3; clear ho3 hb3 hm2 hN3)
                  | (refine wpList_appT tsl (by rfl) (.tmp 58) (.tmp 61) 55 (by rfl) V.heap.size (.slice A3 N3 cap3) m2 m3 (by rfl) HO3.out (.slice (some ⟨g, k, none⟩) (N - k) (cap - k)) (by rfl) (src_rts tsl (by rw [HM3.out]; exact HS5.out.1.dropAt) (cap - k) HK3.out) (by rw [HM2.out, List.length_append, ← HK1.out, ← HK3.out]; simp; omega) HB3.out.size ?_; intro v4 W4 ho4 hb4; have HO4 := Lib.hid ho4; have HB4 := Lib.hid (HB3.out.trans hb4); clear ho4 hb4))
                go_roundw
                case rel =>
                  have hS6 := HS3.out.next HB4.out
                  have e6 : m2 ++ m3 = insS o x := by rw [HI.out, HM2.out, HM1.out, HM3.out]
                  refine ⟨i + 1, by omega, by go_num, ?_⟩
                  rw [sortS_step HX.out, ← HO.out, ← e6]
                  exact ⟨⟨HO4.out.mono hB0, hS6.2.1, hS6.2.2⟩, .inr (by rw [HM2.out]; simp)⟩
                case measure => simp [intOf] <;> omega
          · have h2 : ¬ (k : Int) < (N : Int) := by omega
            have hkN : k = N := by omega
            subst hkN
            have HG := Lib.hid (pos_end HP.out (by rw [← HN.out]; omega))
            have HI := Lib.hid (ins_new HG.out (by rw [List.getElem?_eq_none (by rw [← HN.out]; omega)]; simp))
            go_wp2
            refine wp_region_held_drew (S := SR w (some ⟨bl, fl, none⟩) l (.slice (some ⟨g, 0, none⟩) k cap) o) (by kernel_rfl) (HS0.out.drew) (fun hHeld => ?_)
            refine wpAnyH_take (i := 0) (v := ?_) (ops_atL rfl) (by kernel_rfl) (by kernel_rfl) (by kernel_rfl) (fun _ _ _ h => h) (Or.inl ⟨by rfl, ?_⟩) hHeld ?_
            rotate_left
            · (intro W hSW; go_simp; try with_reducible rfl)
            try simp only [Act.put, List.setIfInBounds_toArray, List.set_cons_zero, List.set_cons_succ]
            refine wpAnyH_take (i := 1) (v := ?_) (ops_atL rfl) (by kernel_rfl) (by kernel_rfl) (by kernel_rfl) (fun _ _ _ h => h) (Or.inl ⟨by rfl, ?_⟩) hHeld ?_
            rotate_left
            · (intro W hSW; go_simp; try with_reducible rfl)
            try simp only [Act.put, List.setIfInBounds_toArray, List.set_cons_zero, List.set_cons_succ]
            refine wpAnyH_take (i := 2) (v := ?_) (ops_atL rfl) (by kernel_rfl) (by kernel_rfl) (by kernel_rfl) (fun _ _ _ h => h) (Or.inl ⟨by rfl, ?_⟩) hHeld ?_
            rotate_left
            · (intro W hSW; go_simp; try with_reducible rfl)
            try simp only [Act.put, List.setIfInBounds_toArray, List.set_cons_zero, List.set_cons_succ]
            refine wpAnyH_take (i := 3) (v := ?_) (ops_atL rfl) (by kernel_rfl) (by kernel_rfl) (by kernel_rfl) (fun _ _ _ h => h) (Or.inl ⟨by rfl, ?_⟩) hHeld ?_
            rotate_left
            · (intro W hSW; go_simp; try with_reducible rfl)
            try simp only [Act.put, List.setIfInBounds_toArray, List.set_cons_zero, List.set_cons_succ]
            refine wpAnyH_take (i := 4) (v := ?_) (ops_atL rfl) (by kernel_rfl) (by kernel_rfl) (by kernel_rfl) (fun _ _ _ h => h) (Or.inl ⟨by rfl, ?_⟩) hHeld ?_
            rotate_left
            · (intro W hSW; go_simp; try with_reducible rfl)
            try simp only [Act.put, List.setIfInBounds_toArray, List.set_cons_zero, List.set_cons_succ]
            refine wpAnyH_take (i := 5) (v := undef) (ops_atL rfl) (by kernel_rfl) (by kernel_rfl) (by kernel_rfl) (fun _ _ _ h => h) (Or.inr ⟨by rfl, rfl⟩) hHeld ?_
            try simp only [Act.put, List.setIfInBounds_toArray, List.set_cons_zero, List.set_cons_succ]
            refine wpAnyH_take (i := 6) (v := undef) (ops_atL rfl) (by kernel_rfl) (by kernel_rfl) (by kernel_rfl) (fun _ _ _ h => h) (Or.inr ⟨by rfl, rfl⟩) hHeld ?_
            try simp only [Act.put, List.setIfInBounds_toArray, List.set_cons_zero, List.set_cons_succ]
            refine wpAnyH_take (i := 7) (v := undef) (ops_atL rfl) (by kernel_rfl) (by kernel_rfl) (by kernel_rfl) (fun _ _ _ h => h) (Or.inr ⟨by rfl, rfl⟩) hHeld ?_
            try simp only [Act.put, List.setIfInBounds_toArray, List.set_cons_zero, List.set_cons_succ]
            refine wpAnyH_take (i := 8) (v := undef) (ops_atL rfl) (by kernel_rfl) (by kernel_rfl) (by kernel_rfl) (fun _ _ _ h => h) (Or.inr ⟨by rfl, rfl⟩) hHeld ?_
            try simp only [Act.put, List.setIfInBounds_toArray, List.set_cons_zero, List.set_cons_succ]
            refine wpAnyH_take (i := 9) (v := undef) (ops_atL rfl) (by kernel_rfl) (by kernel_rfl) (by kernel_rfl) (fun _ _ _ h => h) (Or.inr ⟨by rfl, rfl⟩) hHeld ?_
            try simp only [Act.put, List.setIfInBounds_toArray, List.set_cons_zero, List.set_cons_succ]
            refine wpAnyH_take (i := 10) (v := undef) (ops_atL rfl) (by kernel_rfl) (by kernel_rfl) (by kernel_rfl) (fun _ _ _ h => h) (Or.inr ⟨by rfl, rfl⟩) hHeld ?_
            try simp only [Act.put, List.setIfInBounds_toArray, List.set_cons_zero, List.set_cons_succ]
            refine wpAnyH_take (i := 11) (v := undef) (ops_atL rfl) (by kernel_rfl) (by kernel_rfl) (by kernel_rfl) (fun _ _ _ h => h) (Or.inr ⟨by rfl, rfl⟩) hHeld ?_
            try simp only [Act.put, List.setIfInBounds_toArray, List.set_cons_zero, List.set_cons_succ]
            refine wpAnyH_take (i := 12) (v := undef) (ops_atL rfl) (by kernel_rfl) (by kernel_rfl) (by kernel_rfl) (fun _ _ _ h => h) (Or.inr ⟨by rfl, rfl⟩) hHeld ?_
            try simp only [Act.put, List.setIfInBounds_toArray, List.set_cons_zero, List.set_cons_succ]
            refine wpAnyH_take (i := 13) (v := undef) (ops_atL rfl) (by kernel_rfl) (by kernel_rfl) (by kernel_rfl) (fun _ _ _ h => h) (Or.inr ⟨by rfl, rfl⟩) hHeld ?_
            try simp only [Act.put, List.setIfInBounds_toArray, List.set_cons_zero, List.set_cons_succ]
            refine wpAnyH_take (i := 14) (v := undef) (ops_atL rfl) (by kernel_rfl) (by kernel_rfl) (by kernel_rfl) (fun _ _ _ h => h) (Or.inr ⟨by rfl, rfl⟩) hHeld ?_
            try simp only [Act.put, List.setIfInBounds_toArray, List.set_cons_zero, List.set_cons_succ]
            refine wpAnyH_take (i := 15) (v := ?_) (ops_atL rfl) (by kernel_rfl) (by kernel_rfl) (by kernel_rfl) (fun _ _ _ h => h) (Or.inl ⟨by rfl, ?_⟩) hHeld ?_
            rotate_left
            · (intro W hSW; go_simp; try with_reducible rfl)
            try simp only [Act.put, List.setIfInBounds_toArray, List.set_cons_zero, List.set_cons_succ]
            refine wpAnyH_done (by kernel_rfl) ?_ _
            have HH := Lib.hid hHeld
            clear hHeld
            go_wp2_with fail
            go_quiet (fail)
            refine post_gen (SR w (some ⟨bl, fl, none⟩) l (.slice (some ⟨g, 0, none⟩) k cap) o) (HH.out.drewN _) ?_
            clear HH
            intro V hV
            have HS3 := Lib.hid hV
            obtain ⟨m1, hm1⟩ : ∃ m, m = o.take k := ⟨_, rfl⟩
            have HM3 : Hid (o.drop k = []) := Lib.hid (List.drop_eq_nil_of_le (by rw [← HN.out]; omega))
            have hml1 : k = m1.length := by rw [hm1, List.length_take, ← HN.out]; omega
            have HM1 := Lib.hid hm1
            have HK1 := Lib.hid hml1
            have hk5 : k ≤ cap := by omega
            have hB0 := hV.2.2.size
            clear hm1 hml1 hV
            by_cases hck : cap = k
            · have hck' := hck.symm
              clear hck
              subst hck'
              go_wp2_with (first
                | (refine wpList_appT tsl (by rfl) (.tmp 46) (.tmp 49) 55 (by rfl) V.heap.size _ [] m1 (by rfl) (OGT.empty _ _ _) (.slice (some ⟨g, 0, none⟩) k k) (by rfl) (src_rts tsl (by rw [HM1.out]; exact (HS3.out.1.alloc _).takeAt) k HK1.out) (by rw [← HK1.out]; simp; omega) (by simp) ?_; intro v2 W2 ho2 hb2; rw [List.nil_append] at ho2; obtain ⟨A2, cap2, hv2, _⟩ := ho2.form; rw [← HK1.out] at hv2; subst hv2; have HO2 := Lib.hid ho2; have HB2 := Lib.hid ((below_alloc0 V _ (Nat.le_refl _)).trans hb2); have HS4 := Lib.hid (HS3.out.next HB2.out); have c1 := HS4.out.2.1.cellT HX.out; clear ho2 hb2)
                | (refine wpList_appT tsl (by rfl) (.tmp 51) (.tmp 56) 55 (by rfl) V.heap.size (.slice A2 k cap2) m1 [x] (by rfl) (HO2.out.alloc _) (.slice (some ⟨W2.heap.size, 0, none⟩) 1 1) (by rfl) (src_lits tsl W2 [x] 1 _ rfl) (by rw [← HK1.out]; simp; omega) (by have := HB2.out.size; simp; omega) ?_; intro v3 W3 ho3 hb3; obtain ⟨m2, hm2⟩ : ∃ m, m = m1 ++ [x] := ⟨_, rfl⟩; rw [← hm2] at ho3; obtain ⟨A3, cap3, hv3, _⟩ := ho3.form; obtain ⟨N3, hN3⟩ : ∃ N, N = m2.length := ⟨_, rfl⟩; rw [← hN3] at hv3; subst hv3; have HO3 := Lib.hid ho3; have HB3 := Lib.hid ((HB2.out.alloc HB2.out.size _).trans hb3); have HS5 := Lib.hid (HS3.out.next HB3.out); have HM2 := Lib.hid hm2; have HN3 := Lib.hid hN3; clear ho3 hb3 hm2 hN3)
                | (refine wpList_appT tsl (by rfl) (.tmp 58) (.tmp 61) 55 (by rfl) V.heap.size (.slice A3 N3 cap3) m2 [] (by rfl) HO3.out (.slice (some ⟨g, 0, none⟩) 0 0) (by rfl) (src_rts (m := []) (b := g) (off := 0) tsl (fun j s h => by simp at h) 0 rfl) (by rw [HM2.out, List.length_append, ← HK1.out]; simp; omega) HB3.out.size ?_; intro v4 W4 ho4 hb4; rw [List.append_nil] at ho4; have HO4 := Lib.hid ho4; have HB4 := Lib.hid (HB3.out.trans hb4); clear ho4 hb4))
              go_roundw
              case rel =>
                have hS6 := HS3.out.next HB4.out
                have e6 : m2 = insS o x := by rw [HI.out, HM2.out, HM1.out, HM3.out, List.append_nil]
                refine ⟨i + 1, by omega, by go_num, ?_⟩
                rw [sortS_step HX.out, ← HO.out, ← e6]
                exact ⟨⟨HO4.out.mono hB0, hS6.2.1, hS6.2.2⟩, .inr (by rw [HM2.out]; simp)⟩
              case measure => simp [intOf] <;> omega
            · have hck2 : ¬ cap - k = 0 := by omega
              have hck3 : ¬ k = cap := by omega
              have hck4 : k < cap := by omega
              go_wp2_with (first
                | (refine wpList_appT tsl (by rfl) (.tmp 46) (.tmp 49) 55 (by rfl) V.heap.size _ [] m1 (by rfl) (OGT.empty _ _ _) (.slice (some ⟨g, 0, none⟩) k cap) (by rfl) (src_rts tsl (by rw [HM1.out]; exact (HS3.out.1.alloc _).takeAt) cap HK1.out) (by rw [← HK1.out]; simp; omega) (by simp) ?_; intro v2 W2 ho2 hb2; rw [List.nil_append] at ho2; obtain ⟨A2, cap2, hv2, _⟩ := ho2.form; rw [← HK1.out] at hv2; subst hv2; have HO2 := Lib.hid ho2; have HB2 := Lib.hid ((below_alloc0 V _ (Nat.le_refl _)).trans hb2); have HS4 := Lib.hid (HS3.out.next HB2.out); have c1 := HS4.out.2.1.cellT HX.out; clear ho2 hb2)
                | (refine wpList_appT tsl (by rfl) (.tmp 51) (.tmp 56) 55 (by rfl) V.heap.size (.slice A2 k cap2) m1 [x] (by rfl) (HO2.out.alloc _) (.slice (some ⟨W2.heap.size, 0, none⟩) 1 1) (by rfl) (src_lits tsl W2 [x] 1 _ rfl) (by rw [← HK1.out]; simp; omega) (by have := HB2.out.size; simp; omega) ?_; intro v3 W3 ho3 hb3; obtain ⟨m2, hm2⟩ : ∃ m, m = m1 ++ [x] := ⟨_, rfl⟩; rw [← hm2] at ho3; obtain ⟨A3, cap3, hv3, _⟩ := ho3.form; obtain ⟨N3, hN3⟩ : ∃ N, N = m2.length := ⟨_, rfl⟩; rw [← hN3] at hv3; subst hv3; have HO3 := Lib.hid ho3; have HB3 := Lib.hid ((HB2.out.alloc HB2.out.size _).trans hb3); have HS5 := Lib.hid (HS3.out.next HB3.out); have HM2 := Lib.hid hm2; have HN3 := Lib.hid hN3; clear ho3 hb3 hm2 hN3)
                | (refine wpList_appT tsl (by rfl) (.tmp 58) (.tmp 61) 55 (by rfl) V.heap.size (.slice A3 N3 cap3) m2 [] (by rfl) HO3.out (.slice (some ⟨g, k, none⟩) 0 (cap - k)) (by rfl) (src_rts (m := []) (b := g) (off := k) tsl (fun j s h => by simp at h) (cap - k) rfl) (by rw [HM2.out, List.length_append, ← HK1.out]; simp; omega) HB3.out.size ?_; intro v4 W4 ho4 hb4; rw [List.append_nil] at ho4; have HO4 := Lib.hid ho4; have HB4 := Lib.hid (HB3.out.trans hb4); clear ho4 hb4))
              go_roundw
              case rel =>
                have hS6 := HS3.out.next HB4.out
                have e6 : m2 = insS o x := by rw [HI.out, HM2.out, HM1.out, HM3.out, List.append_nil]
                refine ⟨i + 1, by omega, by go_num, ?_⟩
                rw [sortS_step HX.out, ← HO.out, ← e6]
                exact ⟨⟨HO4.out.mono hB0, hS6.2.1, hS6.2.2⟩, .inr (by rw [HM2.out]; simp)⟩
              case measure => simp [intOf] <;> omega
    · have h1 : ¬ (i : Int) < (l.length : Int) := by omega
      have hf : o = sortS l := by
        have := HO.out
        rw [List.take_of_length_le (by omega)] at this
        exact this
      have HF := Lib.hid hf
      clear hf hne hS
      go_wp2
      go_ret
      exact ⟨_, rfl, by rw [← HF.out]; exact HS.out.1, HS.out.2.2⟩
end Go.Proofs.YtdfenaoddbdppaaDoor
