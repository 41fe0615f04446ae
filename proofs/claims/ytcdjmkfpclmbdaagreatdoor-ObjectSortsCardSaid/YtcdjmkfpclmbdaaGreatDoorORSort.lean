/- object: the reference's Sort. Written by mkrsort.py. -/
import Derived.Test.YtcdjmkfpclmbdaaGreatDoorOSortO
import Derived.Test.YtcdjmkfpclmbdaaGreatDoorOLc
set_option linter.unusedVariables false
namespace Go.Proofs.YtcdjmkfpclmbdaaGreatDoor
open Go.RowKit

theorem infoNZ : (Tryz.prog.info? 23).map (fun i => (i.zero, i.size, i.bytes)) = some (some (.agg #[.int .i64 0, .string ByteArray.empty, .int .i64 0, .int .i64 0, .string ByteArray.empty]), 5, 56) := by kernel_rfl
theorem nT_ok : TypK Tryz.prog 41 23 5 56 := ⟨Tryz.underlying41, by
  obtain ⟨i, hi, hz, hs, hb⟩ := info_parts infoNZ
  exact ⟨i, _, hi, hz, hs, hb, rfl⟩⟩
theorem n_info (x : NmS) : (Tryz.prog.info? 23).map (·.size) = some (encS x).length := by
  obtain ⟨i, hi, hz, hs, hb⟩ := info_parts infoNZ
  rw [hi]; simp [hs, encS]
set_option maxHeartbeats 2000000 in
set_option maxRecDepth 100000 in
theorem eq_n (K : Int) (O : ByteArray) (n i : Int) (T : ByteArray) (L : Int) (P : ByteArray) (m j : Int) (Q : ByteArray) (W : World) :
    (binOp .eql 23 (nmV K O n i T) (nmV L P m j Q)).run Tryz.prog W = .ok (.bool (decide (K = L ∧ O = P ∧ n = m ∧ i = j ∧ T = Q))) W := by
  go_simp
  by_cases h2 : O = P <;> by_cases h5 : T = Q
  · subst h2 h5; repeat' split
    all_goals first | contradiction | simp_all
  · have g5 : ¬ T.toList = Q.toList := fun e => h5 (ba_toList e)
    subst h2; repeat' split
    all_goals first | contradiction | simp_all
  · have g2 : ¬ O.toList = P.toList := fun e => h2 (ba_toList e)
    subst h5; repeat' split
    all_goals first | contradiction | simp_all
  · have g2 : ¬ O.toList = P.toList := fun e => h2 (ba_toList e)
    have g5 : ¬ T.toList = Q.toList := fun e => h5 (ba_toList e)
    repeat' split
    all_goals first | contradiction | simp_all
theorem eqN_same (x : NmS) (W : World) : (binOp .eql 23 (valS x) (valS x)).run Tryz.prog W = .ok (.bool true) W := by
  rw [valS_nm, eq_n, decide_eq_true ⟨rfl, rfl, rfl, rfl, rfl⟩]
theorem eqN_ne {x y : NmS} (h : x ≠ y) (W : World) : (binOp .eql 23 (valS x) (valS y)).run Tryz.prog W = .ok (.bool false) W := by
  rw [valS_nm, valS_nm, eq_n, decide_eq_false (nmS_ne h)]
theorem guardN (op : BinOp) (a b : Operand) (x y : NmS) (W : World) : (eqGuard op 23 a b (valS x) (valS y)).run Tryz.prog W = .ok () W := run_eqGuard_agg _ op _ a b _ _ (by kernel_rfl)
/-- The list so far, the list that came in. -/
def SQ (w : World) (A : Option Addr) (l : List NmS) (v : Value) (o : List NmS) (W : World) : Prop := OQ encS 5 23 W w.heap.size v o ∧ RQ encS 5 W w.heap.size A l ∧ Below w.heap.size w W
theorem SQ.next {w W W' : World} {A : Option Addr} {l o : List NmS} {v : Value} (h : SQ w A l v o W) (hb : Below W.heap.size W W') : SQ w A l v o W' :=
  ⟨h.1.under hb, h.2.1.below (hb.mono h.2.2.size), h.2.2.trans (hb.mono h.2.2.size)⟩
theorem SQ.drew {w W : World} {A : Option Addr} {l o : List NmS} {v : Value} (h : SQ w A l v o W) : SQ w A l v o W.drew := ⟨h.1, h.2.1, h.2.2.drew⟩
theorem rangeN (W : World) (base g n cap : Nat) (o : List NmS) (h : OQ encS 5 23 W base (.slice (some ⟨g, 0, none⟩) n cap) o) (k : Nat) (y : NmS) (hy : o[k]? = some y) : W.rangeAt g (k * 5) (encS y) := by
  obtain ⟨A, cap', hv, hr, _⟩ := OQ.form encS_ok h
  cases hv
  obtain ⟨b, off, e, _, hc⟩ := hr (by have := (List.getElem?_eq_some_iff.1 hy).1; omega)
  cases e
  have h1 := hc k y hy
  rwa [Nat.zero_add] at h1
theorem rqN {W : World} {base g n cap : Nat} {o : List NmS} (h : OQ encS 5 23 W base (.slice (some ⟨g, 0, none⟩) n cap) o) : RQ encS 5 W W.heap.size (some ⟨g, 0, none⟩) o := by
  obtain ⟨A, cap', hv, hr, _⟩ := OQ.form encS_ok h
  cases hv
  exact hr
theorem rangeR {w W : World} {bl fl i : Nat} {l o : List NmS} {v : Value} {x : NmS} (h : SQ w (some ⟨bl, fl, none⟩) l v o W) (hx : l[i]? = some x) : W.rangeAt bl (fl + i * 5) (encS x) := by
  obtain ⟨b, off, e, _, hc⟩ := h.2.1 (by have := (List.getElem?_eq_some_iff.1 hx).1; omega)
  cases e
  exact hc i x hx
theorem OQ.some {e : TypeId} {W : World} {base : Nat} {v : Value} {o : List NmS} (h : OQ encS 5 e W base v o) (h0 : o ≠ []) : ∃ g cap, v = .slice (.some ⟨g, 0, none⟩) o.length cap ∧ o.length ≤ cap := by
  rcases h.2 with ⟨_, h1⟩ | ⟨g, cap, cur, rfl, _, _, hn, _⟩
  · exact absurd (List.eq_nil_of_length_eq_zero h1) h0
  · exact ⟨g, cap, rfl, hn⟩
theorem cmpN_any (y x : NmS) (W : World) : Calls Tryz.prog 53 #[valS y, valS x] W fun e w' => e = .returned (.int .i64 (cS y x)) ∧ Below W.heap.size W w' := by
  have h := cmpR_any y.1.kind (sv y.1.owner) y.1.num y.1.idx (sv y.1.text) x.1.kind (sv x.1.owner) x.1.num x.1.idx (sv x.1.text) W (by rw [sv_size]; exact y.2.1) (by rw [sv_size]; exact x.2.1)
  simp only [sv_list] at h
  exact h
theorem post_genQ {Q : Exit → Act → World → Prop} {e : Exit} {a : Act} {V : World} (R : World → Prop) (h0 : R V) (h : ∀ W, R W → Q e a W) : Q e a V := h V h0

set_option maxHeartbeats 16000000 in
set_option maxRecDepth 100000 in
theorem refSortN_any (A : Option Addr) (l : List NmS) (c : Nat) (w : World) (hr : RQ encS 5 w w.heap.size A l) (hll : l.length ≤ 1000000) :
    Calls Tryz.prog 20 #[.slice A l.length c] w fun e w' => ∃ v, e = .returned v ∧ OQ encS 5 23 w' w.heap.size v (sortC cS l) ∧ Below w.heap.size w w' := by
  have HR0 := Lib.hid hr
  have HLL := Lib.hid hll
  clear hr hll
  go_enter Tryz.func20, Tryz.ntmps20
  go_wp2
  go_loopw [3, 4] (fun u i wr => ∃ k : Nat, k ≤ l.length ∧ i = .int .i64 k ∧ SQ w A l u (sortC cS (l.take k)) wr ∧ (u = .slice none 0 0 ∨ sortC cS (l.take k) ≠ [])) (fun _ i _ => l.length - (intOf i).toNat)
  case atStart => exact ⟨0, by omega, rfl, ⟨OQ.nil _ _, HR0.out, Below.refl _ _⟩, .inl rfl⟩
  case round =>
    obtain ⟨i, hi, rfl, hS, hne⟩ := hrel
    obtain ⟨o, ho⟩ : ∃ o, o = sortC cS (l.take i) := ⟨_, rfl⟩
    rw [← ho] at hS hne
    have hol : o.length ≤ i := by
      have := sortC_length (c := cS) (l.take i)
      rw [ho]; rw [List.length_take] at this; omega
    have hlm : l.length ≤ 1000000 := HLL.out
    have HO := Lib.hid ho
    have HS := Lib.hid hS
    clear ho
    by_cases hlt : i < l.length
    · have h1 : (i : Int) < (l.length : Int) := by omega
      obtain ⟨bl, fl, x, rfl, _, hx, _⟩ := HR0.out.at_ hlt
      have HX := Lib.hid hx
      clear hx hS
      by_cases he : o = []
      · have hne2 := hne.resolve_right (fun h => h he)
        subst hne2
        subst he
        have HI : Hid (insC cS x [] = [x]) := Lib.hid (by simp [insC])
        clear hne
        go_wp2
        go_loopw [5] (fun a wr2 => a = .int .i64 (0 : Int) ∧ SQ w (some ⟨bl, fl, none⟩) l (.slice none 0 0) [] wr2) (fun _ _ => 0)
        case atStart => exact ⟨rfl, HS.out⟩
        case round =>
          obtain ⟨rfl, hS2⟩ := hrel
          have HS0 := Lib.hid hS2
          clear hS2
          go_wp2
          refine wp_region_held_drew (S := SQ w (some ⟨bl, fl, none⟩) l (.slice none 0 0) []) (by kernel_rfl) (HS0.out.drew) (fun hHeld => ?_)
          refine wpAnyH_take (i := 0) (v := ?_) (ops_atL rfl) (by kernel_rfl) (by kernel_rfl) (by kernel_rfl) (fun _ _ _ h => h) (Or.inl ⟨by rfl, ?_⟩) hHeld ?_
          rotate_left
          · (intro W hSW; go_simp; try with_reducible rfl)
          try simp only [Act.put, List.setIfInBounds_toArray, List.set_cons_zero, List.set_cons_succ]
          refine wpAnyH_take (i := 1) (v := ?_) (ops_atL rfl) (by kernel_rfl) (by kernel_rfl) (by kernel_rfl) (fun _ _ _ h => h) (Or.inl ⟨by rfl, ?_⟩) hHeld ?_
          rotate_left
          · (intro W hSW; go_simp; try with_reducible rfl)
          try simp only [Act.put, List.setIfInBounds_toArray, List.set_cons_zero, List.set_cons_succ]
          refine wpAnyH_take (i := 2) (v := ?_) (ops_atL rfl) (by kernel_rfl) (by kernel_rfl) (by kernel_rfl) (fun _ _ _ h => h) (Or.inl ⟨by rfl, ?_⟩) hHeld ?_
          rotate_left
          · (intro W hSW; go_simp; try with_reducible rfl)
          try simp only [Act.put, List.setIfInBounds_toArray, List.set_cons_zero, List.set_cons_succ]
          refine wpAnyH_take (i := 3) (v := ?_) (ops_atL rfl) (by kernel_rfl) (by kernel_rfl) (by kernel_rfl) (fun _ _ _ h => h) (Or.inl ⟨by rfl, ?_⟩) hHeld ?_
          rotate_left
          · (intro W hSW; go_simp; try with_reducible rfl)
          try simp only [Act.put, List.setIfInBounds_toArray, List.set_cons_zero, List.set_cons_succ]
          refine wpAnyH_take (i := 4) (v := ?_) (ops_atL rfl) (by kernel_rfl) (by kernel_rfl) (by kernel_rfl) (fun _ _ _ h => h) (Or.inl ⟨by rfl, ?_⟩) hHeld ?_
          rotate_left
          · (intro W hSW; go_simp; try with_reducible rfl)
          try simp only [Act.put, List.setIfInBounds_toArray, List.set_cons_zero, List.set_cons_succ]
          refine wpAnyH_take (i := 5) (v := undef) (ops_atL rfl) (by kernel_rfl) (by kernel_rfl) (by kernel_rfl) (fun _ _ _ h => h) (Or.inr ⟨by rfl, rfl⟩) hHeld ?_
          try simp only [Act.put, List.setIfInBounds_toArray, List.set_cons_zero, List.set_cons_succ]
          refine wpAnyH_take (i := 6) (v := undef) (ops_atL rfl) (by kernel_rfl) (by kernel_rfl) (by kernel_rfl) (fun _ _ _ h => h) (Or.inr ⟨by rfl, rfl⟩) hHeld ?_
          try simp only [Act.put, List.setIfInBounds_toArray, List.set_cons_zero, List.set_cons_succ]
          refine wpAnyH_take (i := 7) (v := undef) (ops_atL rfl) (by kernel_rfl) (by kernel_rfl) (by kernel_rfl) (fun _ _ _ h => h) (Or.inr ⟨by rfl, rfl⟩) hHeld ?_
          try simp only [Act.put, List.setIfInBounds_toArray, List.set_cons_zero, List.set_cons_succ]
          refine wpAnyH_take (i := 8) (v := undef) (ops_atL rfl) (by kernel_rfl) (by kernel_rfl) (by kernel_rfl) (fun _ _ _ h => h) (Or.inr ⟨by rfl, rfl⟩) hHeld ?_
          try simp only [Act.put, List.setIfInBounds_toArray, List.set_cons_zero, List.set_cons_succ]
          refine wpAnyH_take (i := 9) (v := undef) (ops_atL rfl) (by kernel_rfl) (by kernel_rfl) (by kernel_rfl) (fun _ _ _ h => h) (Or.inr ⟨by rfl, rfl⟩) hHeld ?_
          try simp only [Act.put, List.setIfInBounds_toArray, List.set_cons_zero, List.set_cons_succ]
          refine wpAnyH_take (i := 10) (v := undef) (ops_atL rfl) (by kernel_rfl) (by kernel_rfl) (by kernel_rfl) (fun _ _ _ h => h) (Or.inr ⟨by rfl, rfl⟩) hHeld ?_
          try simp only [Act.put, List.setIfInBounds_toArray, List.set_cons_zero, List.set_cons_succ]
          refine wpAnyH_take (i := 11) (v := undef) (ops_atL rfl) (by kernel_rfl) (by kernel_rfl) (by kernel_rfl) (fun _ _ _ h => h) (Or.inr ⟨by rfl, rfl⟩) hHeld ?_
          try simp only [Act.put, List.setIfInBounds_toArray, List.set_cons_zero, List.set_cons_succ]
          refine wpAnyH_take (i := 12) (v := undef) (ops_atL rfl) (by kernel_rfl) (by kernel_rfl) (by kernel_rfl) (fun _ _ _ h => h) (Or.inr ⟨by rfl, rfl⟩) hHeld ?_
          try simp only [Act.put, List.setIfInBounds_toArray, List.set_cons_zero, List.set_cons_succ]
          refine wpAnyH_take (i := 13) (v := undef) (ops_atL rfl) (by kernel_rfl) (by kernel_rfl) (by kernel_rfl) (fun _ _ _ h => h) (Or.inr ⟨by rfl, rfl⟩) hHeld ?_
          try simp only [Act.put, List.setIfInBounds_toArray, List.set_cons_zero, List.set_cons_succ]
          refine wpAnyH_take (i := 14) (v := undef) (ops_atL rfl) (by kernel_rfl) (by kernel_rfl) (by kernel_rfl) (fun _ _ _ h => h) (Or.inr ⟨by rfl, rfl⟩) hHeld ?_
          try simp only [Act.put, List.setIfInBounds_toArray, List.set_cons_zero, List.set_cons_succ]
          refine wpAnyH_take (i := 15) (v := ?_) (ops_atL rfl) (by kernel_rfl) (by kernel_rfl) (by kernel_rfl) (fun _ _ _ h => h) (Or.inl ⟨by rfl, ?_⟩) hHeld ?_
          rotate_left
          · (intro W hSW; go_simp; try with_reducible rfl)
          try simp only [Act.put, List.setIfInBounds_toArray, List.set_cons_zero, List.set_cons_succ]
          refine wpAnyH_done (by kernel_rfl) ?_ _
          have HH := Lib.hid hHeld
          clear hHeld
          go_wp2
          refine wp_region_held_drew (S := SQ w (some ⟨bl, fl, none⟩) l (.slice none 0 0) []) (by kernel_rfl) (HH.out.drew) (fun hHeld => ?_)
          refine wpAnyH_take (i := 0) (v := ?_) (ops_atL rfl) (by kernel_rfl) (by kernel_rfl) (by kernel_rfl) (fun _ _ _ h => h) (Or.inl ⟨by rfl, ?_⟩) hHeld ?_
          rotate_left
          · (intro W hSW; go_simp; try with_reducible rfl)
          try simp only [Act.put, List.setIfInBounds_toArray, List.set_cons_zero, List.set_cons_succ]
          refine wpAnyH_take (i := 1) (v := ?_) (ops_atL rfl) (by kernel_rfl) (by kernel_rfl) (by kernel_rfl) (fun _ _ _ h => h) (Or.inl ⟨by rfl, ?_⟩) hHeld ?_
          rotate_left
          · (intro W hSW; go_simp; try with_reducible rfl)
          try simp only [Act.put, List.setIfInBounds_toArray, List.set_cons_zero, List.set_cons_succ]
          refine wpAnyH_take (i := 2) (v := ?_) (ops_atL rfl) (by kernel_rfl) (by kernel_rfl) (by kernel_rfl) (fun _ _ _ h => h) (Or.inl ⟨by rfl, ?_⟩) hHeld ?_
          rotate_left
          · (intro W hSW; go_simp; try with_reducible rfl)
          try simp only [Act.put, List.setIfInBounds_toArray, List.set_cons_zero, List.set_cons_succ]
          refine wpAnyH_take (i := 3) (v := ?_) (ops_atL rfl) (by kernel_rfl) (by kernel_rfl) (by kernel_rfl) (fun _ _ _ h => h) (Or.inl ⟨by rfl, ?_⟩) hHeld ?_
          rotate_left
          · (intro W hSW; go_simp; try with_reducible rfl)
          try simp only [Act.put, List.setIfInBounds_toArray, List.set_cons_zero, List.set_cons_succ]
          refine wpAnyH_take (i := 4) (v := ?_) (ops_atL rfl) (by kernel_rfl) (by kernel_rfl) (by kernel_rfl) (fun _ _ _ h => h) (Or.inl ⟨by rfl, ?_⟩) hHeld ?_
          rotate_left
          · (intro W hSW; go_simp; try with_reducible rfl)
          try simp only [Act.put, List.setIfInBounds_toArray, List.set_cons_zero, List.set_cons_succ]
          refine wpAnyH_take (i := 5) (v := undef) (ops_atL rfl) (by kernel_rfl) (by kernel_rfl) (by kernel_rfl) (fun _ _ _ h => h) (Or.inr ⟨by rfl, rfl⟩) hHeld ?_
          try simp only [Act.put, List.setIfInBounds_toArray, List.set_cons_zero, List.set_cons_succ]
          refine wpAnyH_take (i := 6) (v := undef) (ops_atL rfl) (by kernel_rfl) (by kernel_rfl) (by kernel_rfl) (fun _ _ _ h => h) (Or.inr ⟨by rfl, rfl⟩) hHeld ?_
          try simp only [Act.put, List.setIfInBounds_toArray, List.set_cons_zero, List.set_cons_succ]
          refine wpAnyH_take (i := 7) (v := undef) (ops_atL rfl) (by kernel_rfl) (by kernel_rfl) (by kernel_rfl) (fun _ _ _ h => h) (Or.inr ⟨by rfl, rfl⟩) hHeld ?_
          try simp only [Act.put, List.setIfInBounds_toArray, List.set_cons_zero, List.set_cons_succ]
          refine wpAnyH_take (i := 8) (v := undef) (ops_atL rfl) (by kernel_rfl) (by kernel_rfl) (by kernel_rfl) (fun _ _ _ h => h) (Or.inr ⟨by rfl, rfl⟩) hHeld ?_
          try simp only [Act.put, List.setIfInBounds_toArray, List.set_cons_zero, List.set_cons_succ]
          refine wpAnyH_take (i := 9) (v := undef) (ops_atL rfl) (by kernel_rfl) (by kernel_rfl) (by kernel_rfl) (fun _ _ _ h => h) (Or.inr ⟨by rfl, rfl⟩) hHeld ?_
          try simp only [Act.put, List.setIfInBounds_toArray, List.set_cons_zero, List.set_cons_succ]
          refine wpAnyH_take (i := 10) (v := undef) (ops_atL rfl) (by kernel_rfl) (by kernel_rfl) (by kernel_rfl) (fun _ _ _ h => h) (Or.inr ⟨by rfl, rfl⟩) hHeld ?_
          try simp only [Act.put, List.setIfInBounds_toArray, List.set_cons_zero, List.set_cons_succ]
          refine wpAnyH_take (i := 11) (v := undef) (ops_atL rfl) (by kernel_rfl) (by kernel_rfl) (by kernel_rfl) (fun _ _ _ h => h) (Or.inr ⟨by rfl, rfl⟩) hHeld ?_
          try simp only [Act.put, List.setIfInBounds_toArray, List.set_cons_zero, List.set_cons_succ]
          refine wpAnyH_take (i := 12) (v := undef) (ops_atL rfl) (by kernel_rfl) (by kernel_rfl) (by kernel_rfl) (fun _ _ _ h => h) (Or.inr ⟨by rfl, rfl⟩) hHeld ?_
          try simp only [Act.put, List.setIfInBounds_toArray, List.set_cons_zero, List.set_cons_succ]
          refine wpAnyH_take (i := 13) (v := undef) (ops_atL rfl) (by kernel_rfl) (by kernel_rfl) (by kernel_rfl) (fun _ _ _ h => h) (Or.inr ⟨by rfl, rfl⟩) hHeld ?_
          try simp only [Act.put, List.setIfInBounds_toArray, List.set_cons_zero, List.set_cons_succ]
          refine wpAnyH_take (i := 14) (v := ?_) (ops_atL rfl) (by kernel_rfl) (by kernel_rfl) (by kernel_rfl) (fun _ _ _ h => h) (Or.inl ⟨by rfl, ?_⟩) hHeld ?_
          rotate_left
          · (intro W hSW; go_simp; try with_reducible rfl)
          try simp only [Act.put, List.setIfInBounds_toArray, List.set_cons_zero, List.set_cons_succ]
          refine wpAnyH_done (by kernel_rfl) ?_ _
          have HH2 := Lib.hid hHeld
          clear hHeld HH
          refine post_genQ (SQ w (some ⟨bl, fl, none⟩) l (.slice none 0 0) []) (HH2.out) ?_
          clear HH2
          intro V hV
          have HS3 := Lib.hid hV
          have hB0 := hV.2.2.size
          clear hV
          have hb2 := below_alloc0 V (.cells #[] 23) (Nat.le_refl _)
          obtain ⟨W2, hW2⟩ : ∃ W2, W2 = V.alloc (.cells #[] 23) := ⟨_, rfl⟩
          rw [← hW2] at hb2
          have hrx := rangeR (HS3.out.next hb2) HX.out
          have HO2 := Lib.hid (show OQ encS 5 23 W2 V.heap.size (.slice (some ⟨V.heap.size, 0, none⟩) 0 0) [] from by rw [hW2]; exact World.ownsRow_made V #[] 0 (Nat.le_refl _) (by decide) (by simp))
          have hWs : W2.heap.size = V.heap.size + 1 := by rw [hW2]; simp
          have HB2 := Lib.hid hb2
          have HW2 := Lib.hid hW2
          have HWs := Lib.hid hWs
          clear hb2 hW2 hWs
          go_wp2_with (first
            | (refine wpList_load_mid rfl 23 (.tmp 54) rfl bl (fl + i * 5) rfl [.int .i64 x.1.kind, .string (sv x.1.owner), .int .i64 x.1.num, .int .i64 x.1.idx, .string (sv x.1.text)] _ (by rw [← HW2.out]; exact hrx) Tryz.underlying23 rfl (n_info _) ?_)
            | (at_builtin; rw [← HW2.out]; refine wpList_pushQ encS_ok nT_ok rfl (.tmp 51) (.tmp 56) rfl V.heap.size _ [] rfl x _ rfl HO2.out ?_ ?_ ?_ ?_ ?_; (focus (rw [HWs.out]; try rfl)); (focus (unfold maxLen; simp)); (focus (simp)); (focus (rw [HWs.out]; omega)); intro v3 W3 ho3 hg3; have hb3 := hg3.below (B := V.heap.size) (by rw [HWs.out]; omega) (fun k hk => (HO2.out.lt k hk).1); have HO3 := Lib.hid ho3; have HB3 := Lib.hid (HB2.out.trans hb3); clear ho3 hg3 hb3)
            | (at_builtin; refine wpList_appQ encS_ok nT_ok rfl (.tmp 58) (.tmp 61) rfl V.heap.size v3 ([] ++ [x]) rfl HO3.out 0 none [] 0 rfl RQ.nil ?_ ?_ HB3.out.size ?_; (focus (unfold maxLen; simp)); (focus (simp)); intro v4 W4 ho4 hg4; have hb4 := hg4.below (B := V.heap.size) HB3.out.size (fun k hk => (HO3.out.lt k hk).1); have HO4 := Lib.hid ho4; have HB4 := Lib.hid (HB3.out.trans hb4); clear ho4 hg4 hb4))
          go_roundw
          case rel =>
            have hS6 := HS3.out.next (HB4.out.mono (Nat.le_refl _))
            have e6 : [] ++ [x] ++ [] = insC cS x [] := by rw [HI.out]; rfl
            refine ⟨i + 1, by omega, by go_num, ?_⟩
            rw [sortC_step HX.out, ← HO.out, ← e6]
            exact ⟨⟨HO4.out.base0 hB0, hS6.2.1, hS6.2.2⟩, .inr (by simp)⟩
          case measure => simp [intOf] <;> omega
      · obtain ⟨g, cap, rfl, hcap⟩ := OQ.some HS.out.1 he
        obtain ⟨N, hN⟩ : ∃ N, N = o.length := ⟨_, rfl⟩
        rw [← hN] at HS hcap hol ⊢
        have HN := Lib.hid hN
        have HE := Lib.hid he
        clear hne he hN
        go_wp2
        go_loopw [5] (fun a wr2 => ∃ k : Nat, k ≤ N ∧ a = .int .i64 k ∧ k ≤ posC cS x o ∧ SQ w (some ⟨bl, fl, none⟩) l (.slice (some ⟨g, 0, none⟩) N cap) o wr2) (fun a _ => N - (intOf a).toNat)
        case atStart => exact ⟨0, by omega, rfl, by omega, HS.out⟩
        case round =>
          obtain ⟨k, hk, rfl, hp, hS2⟩ := hrel
          have HP := Lib.hid hp
          have HS0 := Lib.hid hS2
          clear hp hS2
          by_cases hlk : k < N
          · have h2 : (k : Int) < (N : Int) := by omega
            obtain ⟨y, hy⟩ : ∃ y, o[k]? = some y := ⟨o[k]'(by rw [← HN.out]; omega), List.getElem?_eq_getElem _⟩
            have HY := Lib.hid hy
            obtain ⟨cv, hcv⟩ : ∃ cv, cv = cS y x := ⟨_, rfl⟩
            have HC : Hid (∀ W, SQ w (some ⟨bl, fl, none⟩) l (.slice (some ⟨g, 0, none⟩) N cap) o W → Calls Tryz.prog 53 #[valS y, valS x] W fun e w' => e = .returned (.int .i64 cv) ∧ SQ w (some ⟨bl, fl, none⟩) l (.slice (some ⟨g, 0, none⟩) N cap) o w') := Lib.hid fun W hW => (cmpN_any y x W).mono fun e w' h => ⟨by rw [hcv]; exact h.1, hW.next h.2⟩
            have HCV := Lib.hid hcv
            clear hy hcv
            have rkx : ∀ V, SQ w (some ⟨bl, fl, none⟩) l (.slice (some ⟨g, 0, none⟩) N cap) o V → V.rangeAt bl (fl + i * 5) (encS x) := fun V hV => rangeR hV HX.out
            have rky : ∀ V, SQ w (some ⟨bl, fl, none⟩) l (.slice (some ⟨g, 0, none⟩) N cap) o V → V.rangeAt g (k * 5) (encS y) := fun V hV => rangeN V _ g N cap o hV.1 k y HY.out
            go_wp2
            refine wp_region_held_drew (S := SQ w (some ⟨bl, fl, none⟩) l (.slice (some ⟨g, 0, none⟩) N cap) o) (by kernel_rfl) (HS0.out.drew) (fun hHeld => ?_)
            refine wpAnyH_take (i := 0) (v := ?_) (ops_atL rfl) (by kernel_rfl) (by kernel_rfl) (by kernel_rfl) (fun _ _ _ h => h) (Or.inl ⟨by rfl, ?_⟩) hHeld ?_
            rotate_left
            · (intro W hSW; go_simp; try with_reducible rfl)
            try simp only [Act.put, List.setIfInBounds_toArray, List.set_cons_zero, List.set_cons_succ]
            refine wpAnyH_take (i := 1) (v := ?_) (ops_atL rfl) (by kernel_rfl) (by kernel_rfl) (by kernel_rfl) (fun _ _ _ h => h) (Or.inl ⟨by rfl, ?_⟩) hHeld ?_
            rotate_left
            · (intro W hSW; go_simp; try with_reducible rfl)
            try simp only [Act.put, List.setIfInBounds_toArray, List.set_cons_zero, List.set_cons_succ]
            refine wpAnyH_take (i := 2) (v := ?_) (ops_atL rfl) (by kernel_rfl) (by kernel_rfl) (by kernel_rfl) (fun _ _ _ h => h) (Or.inl ⟨by rfl, ?_⟩) hHeld ?_
            rotate_left
            · (intro W hSW; go_simp; try with_reducible rfl)
            try simp only [Act.put, List.setIfInBounds_toArray, List.set_cons_zero, List.set_cons_succ]
            refine wpAnyH_take (i := 3) (v := ?_) (ops_atL rfl) (by kernel_rfl) (by kernel_rfl) (by kernel_rfl) (fun _ _ _ h => h) (Or.inl ⟨by rfl, ?_⟩) hHeld ?_
            rotate_left
            · (intro W hSW; go_simp; try with_reducible rfl)
            try simp only [Act.put, List.setIfInBounds_toArray, List.set_cons_zero, List.set_cons_succ]
            refine wpAnyH_take (i := 4) (v := ?_) (ops_atL rfl) (by kernel_rfl) (by kernel_rfl) (by kernel_rfl) (fun _ _ _ h => h) (Or.inl ⟨by rfl, ?_⟩) hHeld ?_
            rotate_left
            · (intro W hSW; go_simp; try with_reducible rfl)
            try simp only [Act.put, List.setIfInBounds_toArray, List.set_cons_zero, List.set_cons_succ]
            refine wpAnyH_take (i := 5) (v := ?_) (ops_atL rfl) (by kernel_rfl) (by kernel_rfl) (by kernel_rfl) (fun _ _ _ h => h) (Or.inl ⟨by rfl, ?_⟩) hHeld ?_
            rotate_left
            · (intro W hSW; go_simp; try with_reducible rfl)
            try simp only [Act.put, List.setIfInBounds_toArray, List.set_cons_zero, List.set_cons_succ]
            refine wpAnyH_take (i := 6) (v := ?_) (ops_atL rfl) (by kernel_rfl) (by kernel_rfl) (by kernel_rfl) (fun _ _ _ h => h) (Or.inl ⟨by rfl, ?_⟩) hHeld ?_
            rotate_left
            · (intro W hSW; go_simp; try with_reducible rfl)
            try simp only [Act.put, List.setIfInBounds_toArray, List.set_cons_zero, List.set_cons_succ]
            refine wpAnyH_take (i := 7) (v := ?_) (ops_atL rfl) (by kernel_rfl) (by kernel_rfl) (by kernel_rfl) (fun _ _ _ h => h) (Or.inl ⟨by rfl, ?_⟩) hHeld ?_
            rotate_left
            · (intro W hSW; go_simp; try with_reducible rfl)
            try simp only [Act.put, List.setIfInBounds_toArray, List.set_cons_zero, List.set_cons_succ]
            refine wpAnyH_take (i := 8) (v := valS y) (ops_atL rfl) (by kernel_rfl) (by kernel_rfl) (by kernel_rfl) (fun _ _ _ h => h) (yieldsIf_load_mid (by rfl) 23 (.tmp 20) rfl g (k * 5) (by rfl) (encS y) _ rky Tryz.underlying23 rfl (n_info _)) hHeld ?_
            try simp only [Act.put, List.setIfInBounds_toArray, List.set_cons_zero, List.set_cons_succ]
            refine wpAnyH_take (i := 9) (v := ?_) (ops_atL rfl) (by kernel_rfl) (by kernel_rfl) (by kernel_rfl) (fun _ _ _ h => h) (Or.inl ⟨by rfl, ?_⟩) hHeld ?_
            rotate_left
            · (intro W hSW; go_simp; try with_reducible rfl)
            try simp only [Act.put, List.setIfInBounds_toArray, List.set_cons_zero, List.set_cons_succ]
            refine wpAnyH_take (i := 10) (v := ?_) (ops_atL rfl) (by kernel_rfl) (by kernel_rfl) (by kernel_rfl) (fun _ _ _ h => h) (Or.inl ⟨by rfl, ?_⟩) hHeld ?_
            rotate_left
            · (intro W hSW; go_simp; try with_reducible rfl)
            try simp only [Act.put, List.setIfInBounds_toArray, List.set_cons_zero, List.set_cons_succ]
            refine wpAnyH_take (i := 11) (v := ?_) (ops_atL rfl) (by kernel_rfl) (by kernel_rfl) (by kernel_rfl) (fun _ _ _ h => h) (Or.inl ⟨by rfl, ?_⟩) hHeld ?_
            rotate_left
            · (intro W hSW; go_simp; try with_reducible rfl)
            try simp only [Act.put, List.setIfInBounds_toArray, List.set_cons_zero, List.set_cons_succ]
            refine wpAnyH_take (i := 12) (v := valS x) (ops_atL rfl) (by kernel_rfl) (by kernel_rfl) (by kernel_rfl) (fun _ _ _ h => h) (yieldsIf_load_mid (by rfl) 23 (.tmp 24) rfl bl (fl + i * 5) (by rfl) (encS x) _ rkx Tryz.underlying23 rfl (n_info _)) hHeld ?_
            try simp only [Act.put, List.setIfInBounds_toArray, List.set_cons_zero, List.set_cons_succ]
            refine wpAnyH_ready (rs := [13]) (by kernel_rfl) (by simp) ?_
            refine AllReadyH.cons (ops_atL rfl) (fun K hK => ?_) AllReadyH.nil
            go_simp
            (go_at_call 53; refine (HC.out _ hHeld).mono ?_; rintro e W' ⟨rfl, hb'⟩)
            refine hK.out _ _ (hb') (fun hHeld => ?_)
            clear hK K
            try simp only [Act.put, List.setIfInBounds_toArray, List.set_cons_zero, List.set_cons_succ]
            refine wpAnyH_take (i := 14) (v := ?_) (ops_atL rfl) (by kernel_rfl) (by kernel_rfl) (by kernel_rfl) (fun _ _ _ h => h) (Or.inl ⟨by rfl, ?_⟩) hHeld ?_
            rotate_left
            · (intro W hSW; go_simp; try with_reducible rfl)
            try simp only [Act.put, List.setIfInBounds_toArray, List.set_cons_zero, List.set_cons_succ]
            refine wpAnyH_take (i := 15) (v := ?_) (ops_atL rfl) (by kernel_rfl) (by kernel_rfl) (by kernel_rfl) (fun _ _ _ h => h) (Or.inl ⟨by rfl, ?_⟩) hHeld ?_
            rotate_left
            · (intro W hSW; go_simp; try with_reducible rfl)
            try simp only [Act.put, List.setIfInBounds_toArray, List.set_cons_zero, List.set_cons_succ]
            refine wpAnyH_done (by kernel_rfl) ?_ _
            by_cases hcl : cv < 0
            · have HG := Lib.hid (posC_go HY.out HP.out (by rw [← HCV.out]; exact hcl))
              go_wp2
              go_roundw
              case rel => exact ⟨k + 1, by omega, by go_num, HG.out, hHeld⟩
              case measure => simp [intOf] <;> omega
            · have HG := Lib.hid (posC_stop HY.out HP.out (by rw [← HCV.out]; exact hcl))
              have HH := Lib.hid hHeld
              clear hHeld
              by_cases hyx : y = x
              · subst hyx
                have HI := Lib.hid (insC_same cS_ok y o (by rw [HG.out]; exact HY.out))
                have hq := fun V => eqN_same y V
                have hg := fun V => guardN .eql (.tmp 39) (.tmp 43) y y V
                go_wp2
                refine wp_region_held_drew (S := SQ w (some ⟨bl, fl, none⟩) l (.slice (some ⟨g, 0, none⟩) N cap) o) (by kernel_rfl) (HH.out.drew) (fun hHeld => ?_)
                refine wpAnyH_take (i := 0) (v := ?_) (ops_atL rfl) (by kernel_rfl) (by kernel_rfl) (by kernel_rfl) (fun _ _ _ h => h) (Or.inl ⟨by rfl, ?_⟩) hHeld ?_
                rotate_left
                · (intro W hSW; go_simp; try with_reducible rfl)
                try simp only [Act.put, List.setIfInBounds_toArray, List.set_cons_zero, List.set_cons_succ]
                refine wpAnyH_take (i := 1) (v := ?_) (ops_atL rfl) (by kernel_rfl) (by kernel_rfl) (by kernel_rfl) (fun _ _ _ h => h) (Or.inl ⟨by rfl, ?_⟩) hHeld ?_
                rotate_left
                · (intro W hSW; go_simp; try with_reducible rfl)
                try simp only [Act.put, List.setIfInBounds_toArray, List.set_cons_zero, List.set_cons_succ]
                refine wpAnyH_take (i := 2) (v := ?_) (ops_atL rfl) (by kernel_rfl) (by kernel_rfl) (by kernel_rfl) (fun _ _ _ h => h) (Or.inl ⟨by rfl, ?_⟩) hHeld ?_
                rotate_left
                · (intro W hSW; go_simp; try with_reducible rfl)
                try simp only [Act.put, List.setIfInBounds_toArray, List.set_cons_zero, List.set_cons_succ]
                refine wpAnyH_take (i := 3) (v := ?_) (ops_atL rfl) (by kernel_rfl) (by kernel_rfl) (by kernel_rfl) (fun _ _ _ h => h) (Or.inl ⟨by rfl, ?_⟩) hHeld ?_
                rotate_left
                · (intro W hSW; go_simp; try with_reducible rfl)
                try simp only [Act.put, List.setIfInBounds_toArray, List.set_cons_zero, List.set_cons_succ]
                refine wpAnyH_take (i := 4) (v := ?_) (ops_atL rfl) (by kernel_rfl) (by kernel_rfl) (by kernel_rfl) (fun _ _ _ h => h) (Or.inl ⟨by rfl, ?_⟩) hHeld ?_
                rotate_left
                · (intro W hSW; go_simp; try with_reducible rfl)
                try simp only [Act.put, List.setIfInBounds_toArray, List.set_cons_zero, List.set_cons_succ]
                refine wpAnyH_take (i := 5) (v := ?_) (ops_atL rfl) (by kernel_rfl) (by kernel_rfl) (by kernel_rfl) (fun _ _ _ h => h) (Or.inl ⟨by rfl, ?_⟩) hHeld ?_
                rotate_left
                · (intro W hSW; go_simp; try with_reducible rfl)
                try simp only [Act.put, List.setIfInBounds_toArray, List.set_cons_zero, List.set_cons_succ]
                refine wpAnyH_take (i := 6) (v := ?_) (ops_atL rfl) (by kernel_rfl) (by kernel_rfl) (by kernel_rfl) (fun _ _ _ h => h) (Or.inl ⟨by rfl, ?_⟩) hHeld ?_
                rotate_left
                · (intro W hSW; go_simp; try with_reducible rfl)
                try simp only [Act.put, List.setIfInBounds_toArray, List.set_cons_zero, List.set_cons_succ]
                refine wpAnyH_take (i := 7) (v := ?_) (ops_atL rfl) (by kernel_rfl) (by kernel_rfl) (by kernel_rfl) (fun _ _ _ h => h) (Or.inl ⟨by rfl, ?_⟩) hHeld ?_
                rotate_left
                · (intro W hSW; go_simp; try with_reducible rfl)
                try simp only [Act.put, List.setIfInBounds_toArray, List.set_cons_zero, List.set_cons_succ]
                refine wpAnyH_take (i := 8) (v := valS y) (ops_atL rfl) (by kernel_rfl) (by kernel_rfl) (by kernel_rfl) (fun _ _ _ h => h) (yieldsIf_load_mid (by rfl) 23 (.tmp 38) rfl g (k * 5) (by rfl) (encS y) _ rky Tryz.underlying23 rfl (n_info _)) hHeld ?_
                try simp only [Act.put, List.setIfInBounds_toArray, List.set_cons_zero, List.set_cons_succ]
                refine wpAnyH_take (i := 9) (v := ?_) (ops_atL rfl) (by kernel_rfl) (by kernel_rfl) (by kernel_rfl) (fun _ _ _ h => h) (Or.inl ⟨by rfl, ?_⟩) hHeld ?_
                rotate_left
                · (intro W hSW; go_simp; try with_reducible rfl)
                try simp only [Act.put, List.setIfInBounds_toArray, List.set_cons_zero, List.set_cons_succ]
                refine wpAnyH_take (i := 10) (v := ?_) (ops_atL rfl) (by kernel_rfl) (by kernel_rfl) (by kernel_rfl) (fun _ _ _ h => h) (Or.inl ⟨by rfl, ?_⟩) hHeld ?_
                rotate_left
                · (intro W hSW; go_simp; try with_reducible rfl)
                try simp only [Act.put, List.setIfInBounds_toArray, List.set_cons_zero, List.set_cons_succ]
                refine wpAnyH_take (i := 11) (v := ?_) (ops_atL rfl) (by kernel_rfl) (by kernel_rfl) (by kernel_rfl) (fun _ _ _ h => h) (Or.inl ⟨by rfl, ?_⟩) hHeld ?_
                rotate_left
                · (intro W hSW; go_simp; try with_reducible rfl)
                try simp only [Act.put, List.setIfInBounds_toArray, List.set_cons_zero, List.set_cons_succ]
                refine wpAnyH_take (i := 12) (v := valS y) (ops_atL rfl) (by kernel_rfl) (by kernel_rfl) (by kernel_rfl) (fun _ _ _ h => h) (yieldsIf_load_mid (by rfl) 23 (.tmp 42) rfl bl (fl + i * 5) (by rfl) (encS y) _ rkx Tryz.underlying23 rfl (n_info _)) hHeld ?_
                try simp only [Act.put, List.setIfInBounds_toArray, List.set_cons_zero, List.set_cons_succ]
                refine wpAnyH_take (i := 13) (v := ?_) (ops_atL rfl) (by kernel_rfl) (by kernel_rfl) (by kernel_rfl) (fun _ _ _ h => h) (Or.inl ⟨by rfl, ?_⟩) hHeld ?_
                rotate_left
                · (intro W hSW; go_simp; try with_reducible rfl)
                try simp only [Act.put, List.setIfInBounds_toArray, List.set_cons_zero, List.set_cons_succ]
                refine wpAnyH_take (i := 14) (v := ?_) (ops_atL rfl) (by kernel_rfl) (by kernel_rfl) (by kernel_rfl) (fun _ _ _ h => h) (Or.inl ⟨by rfl, ?_⟩) hHeld ?_
                rotate_left
                · (intro W hSW; go_simp; try with_reducible rfl)
                try simp only [Act.put, List.setIfInBounds_toArray, List.set_cons_zero, List.set_cons_succ]
                refine wpAnyH_done (by kernel_rfl) ?_ _
                have HH2 := Lib.hid hHeld
                clear hHeld HH rkx rky hq hg
                go_wp2
                go_roundw
                case rel =>
                  refine ⟨i + 1, by omega, by go_num, ?_⟩
                  rw [sortC_step HX.out, ← HO.out, HI.out]
                  exact ⟨HH2.out, .inr HE.out⟩
                case measure => simp [intOf] <;> omega
              · have HI := Lib.hid (insC_new cS_ok x o (by rw [HG.out, HY.out]; intro e; injection e with e; exact hyx e))
                have hq := fun V => eqN_ne hyx V
                have hg := fun V => guardN .eql (.tmp 39) (.tmp 43) y x V
                go_wp2
                refine wp_region_held_drew (S := SQ w (some ⟨bl, fl, none⟩) l (.slice (some ⟨g, 0, none⟩) N cap) o) (by kernel_rfl) (HH.out.drew) (fun hHeld => ?_)
                refine wpAnyH_take (i := 0) (v := ?_) (ops_atL rfl) (by kernel_rfl) (by kernel_rfl) (by kernel_rfl) (fun _ _ _ h => h) (Or.inl ⟨by rfl, ?_⟩) hHeld ?_
                rotate_left
                · (intro W hSW; go_simp; try with_reducible rfl)
                try simp only [Act.put, List.setIfInBounds_toArray, List.set_cons_zero, List.set_cons_succ]
                refine wpAnyH_take (i := 1) (v := ?_) (ops_atL rfl) (by kernel_rfl) (by kernel_rfl) (by kernel_rfl) (fun _ _ _ h => h) (Or.inl ⟨by rfl, ?_⟩) hHeld ?_
                rotate_left
                · (intro W hSW; go_simp; try with_reducible rfl)
                try simp only [Act.put, List.setIfInBounds_toArray, List.set_cons_zero, List.set_cons_succ]
                refine wpAnyH_take (i := 2) (v := ?_) (ops_atL rfl) (by kernel_rfl) (by kernel_rfl) (by kernel_rfl) (fun _ _ _ h => h) (Or.inl ⟨by rfl, ?_⟩) hHeld ?_
                rotate_left
                · (intro W hSW; go_simp; try with_reducible rfl)
                try simp only [Act.put, List.setIfInBounds_toArray, List.set_cons_zero, List.set_cons_succ]
                refine wpAnyH_take (i := 3) (v := ?_) (ops_atL rfl) (by kernel_rfl) (by kernel_rfl) (by kernel_rfl) (fun _ _ _ h => h) (Or.inl ⟨by rfl, ?_⟩) hHeld ?_
                rotate_left
                · (intro W hSW; go_simp; try with_reducible rfl)
                try simp only [Act.put, List.setIfInBounds_toArray, List.set_cons_zero, List.set_cons_succ]
                refine wpAnyH_take (i := 4) (v := ?_) (ops_atL rfl) (by kernel_rfl) (by kernel_rfl) (by kernel_rfl) (fun _ _ _ h => h) (Or.inl ⟨by rfl, ?_⟩) hHeld ?_
                rotate_left
                · (intro W hSW; go_simp; try with_reducible rfl)
                try simp only [Act.put, List.setIfInBounds_toArray, List.set_cons_zero, List.set_cons_succ]
                refine wpAnyH_take (i := 5) (v := ?_) (ops_atL rfl) (by kernel_rfl) (by kernel_rfl) (by kernel_rfl) (fun _ _ _ h => h) (Or.inl ⟨by rfl, ?_⟩) hHeld ?_
                rotate_left
                · (intro W hSW; go_simp; try with_reducible rfl)
                try simp only [Act.put, List.setIfInBounds_toArray, List.set_cons_zero, List.set_cons_succ]
                refine wpAnyH_take (i := 6) (v := ?_) (ops_atL rfl) (by kernel_rfl) (by kernel_rfl) (by kernel_rfl) (fun _ _ _ h => h) (Or.inl ⟨by rfl, ?_⟩) hHeld ?_
                rotate_left
                · (intro W hSW; go_simp; try with_reducible rfl)
                try simp only [Act.put, List.setIfInBounds_toArray, List.set_cons_zero, List.set_cons_succ]
                refine wpAnyH_take (i := 7) (v := ?_) (ops_atL rfl) (by kernel_rfl) (by kernel_rfl) (by kernel_rfl) (fun _ _ _ h => h) (Or.inl ⟨by rfl, ?_⟩) hHeld ?_
                rotate_left
                · (intro W hSW; go_simp; try with_reducible rfl)
                try simp only [Act.put, List.setIfInBounds_toArray, List.set_cons_zero, List.set_cons_succ]
                refine wpAnyH_take (i := 8) (v := valS y) (ops_atL rfl) (by kernel_rfl) (by kernel_rfl) (by kernel_rfl) (fun _ _ _ h => h) (yieldsIf_load_mid (by rfl) 23 (.tmp 38) rfl g (k * 5) (by rfl) (encS y) _ rky Tryz.underlying23 rfl (n_info _)) hHeld ?_
                try simp only [Act.put, List.setIfInBounds_toArray, List.set_cons_zero, List.set_cons_succ]
                refine wpAnyH_take (i := 9) (v := ?_) (ops_atL rfl) (by kernel_rfl) (by kernel_rfl) (by kernel_rfl) (fun _ _ _ h => h) (Or.inl ⟨by rfl, ?_⟩) hHeld ?_
                rotate_left
                · (intro W hSW; go_simp; try with_reducible rfl)
                try simp only [Act.put, List.setIfInBounds_toArray, List.set_cons_zero, List.set_cons_succ]
                refine wpAnyH_take (i := 10) (v := ?_) (ops_atL rfl) (by kernel_rfl) (by kernel_rfl) (by kernel_rfl) (fun _ _ _ h => h) (Or.inl ⟨by rfl, ?_⟩) hHeld ?_
                rotate_left
                · (intro W hSW; go_simp; try with_reducible rfl)
                try simp only [Act.put, List.setIfInBounds_toArray, List.set_cons_zero, List.set_cons_succ]
                refine wpAnyH_take (i := 11) (v := ?_) (ops_atL rfl) (by kernel_rfl) (by kernel_rfl) (by kernel_rfl) (fun _ _ _ h => h) (Or.inl ⟨by rfl, ?_⟩) hHeld ?_
                rotate_left
                · (intro W hSW; go_simp; try with_reducible rfl)
                try simp only [Act.put, List.setIfInBounds_toArray, List.set_cons_zero, List.set_cons_succ]
                refine wpAnyH_take (i := 12) (v := valS x) (ops_atL rfl) (by kernel_rfl) (by kernel_rfl) (by kernel_rfl) (fun _ _ _ h => h) (yieldsIf_load_mid (by rfl) 23 (.tmp 42) rfl bl (fl + i * 5) (by rfl) (encS x) _ rkx Tryz.underlying23 rfl (n_info _)) hHeld ?_
                try simp only [Act.put, List.setIfInBounds_toArray, List.set_cons_zero, List.set_cons_succ]
                refine wpAnyH_take (i := 13) (v := ?_) (ops_atL rfl) (by kernel_rfl) (by kernel_rfl) (by kernel_rfl) (fun _ _ _ h => h) (Or.inl ⟨by rfl, ?_⟩) hHeld ?_
                rotate_left
                · (intro W hSW; go_simp; try with_reducible rfl)
                try simp only [Act.put, List.setIfInBounds_toArray, List.set_cons_zero, List.set_cons_succ]
                refine wpAnyH_take (i := 14) (v := ?_) (ops_atL rfl) (by kernel_rfl) (by kernel_rfl) (by kernel_rfl) (fun _ _ _ h => h) (Or.inl ⟨by rfl, ?_⟩) hHeld ?_
                rotate_left
                · (intro W hSW; go_simp; try with_reducible rfl)
                try simp only [Act.put, List.setIfInBounds_toArray, List.set_cons_zero, List.set_cons_succ]
                refine wpAnyH_done (by kernel_rfl) ?_ _
                have hck4 : k < cap := by omega
                have hck2 : ¬ cap - k = 0 := by omega
                have hck3 : ¬ k = cap := by omega
                clear rkx rky hq hg
                have HH2 := Lib.hid hHeld
                clear hHeld HH
                refine post_genQ (SQ w (some ⟨bl, fl, none⟩) l (.slice (some ⟨g, 0, none⟩) N cap) o) (HH2.out) ?_
                clear HH2
                intro V hV
                have HS3 := Lib.hid hV
                have hB0 := hV.2.2.size
                clear hV
                obtain ⟨m1, hm1⟩ : ∃ m, m = o.take k := ⟨_, rfl⟩
                obtain ⟨m3, hm3⟩ : ∃ m, m = o.drop k := ⟨_, rfl⟩
                have hml1 : k = m1.length := by rw [hm1, List.length_take, ← HN.out]; omega
                have hml3 : N - k = m3.length := by rw [hm3, List.length_drop, ← HN.out]
                have HO0 := Lib.hid (show OQ encS 5 23 (V.alloc (.cells #[] 23)) V.heap.size (.slice (some ⟨V.heap.size, 0, none⟩) 0 0) [] from World.ownsRow_made V #[] 0 (Nat.le_refl _) (by decide) (by simp))
                have HM1 := Lib.hid hm1
                have HM3 := Lib.hid hm3
                have HK1 := Lib.hid hml1
                have HK3 := Lib.hid hml3
                have hk5 : k ≤ cap := by omega
                have hkl : k ≤ 1000000 := by omega
                clear hm1 hm3 hml1 hml3
                go_wp2_with (first
                  | (at_builtin; refine wpList_appQ encS_ok nT_ok rfl (.tmp 46) (.tmp 49) rfl V.heap.size _ [] rfl HO0.out (V.heap.size + 1) (some ⟨g, 0, none⟩) m1 cap ?_ ?_ ?_ ?_ ?_ ?_; (focus (rw [← HK1.out]; try rfl)); (focus (rw [HM1.out]; exact (((rqN HS3.out.1).below (below_alloc0 V _ (Nat.le_refl _))).more (Nat.le_succ _)).take k)); (focus (rw [← HK1.out]; unfold maxLen; (first | (simp; done) | (simp; omega) | omega))); (focus (rw [← HK1.out]; (first | (simp; done) | (simp; omega) | omega))); (focus (simp)); intro v2 W2 ho2 hg2; rw [List.nil_append] at ho2; have hb2 := hg2.below (B := V.heap.size) (by simp) (fun k hk => (HO0.out.lt k hk).1); have HO2 := Lib.hid ho2; have HB2 := Lib.hid ((below_alloc0 V _ (Nat.le_refl _)).trans hb2); have HS4 := Lib.hid (HS3.out.next HB2.out); have hrx := rangeR HS4.out HX.out; clear ho2 hg2 hb2)
                  | (refine wpList_load_mid rfl 23 (.tmp 54) rfl bl (fl + i * 5) rfl [.int .i64 x.1.kind, .string (sv x.1.owner), .int .i64 x.1.num, .int .i64 x.1.idx, .string (sv x.1.text)] _ hrx Tryz.underlying23 rfl (n_info _) ?_)
                  | (at_builtin; refine wpList_pushQ encS_ok nT_ok rfl (.tmp 51) (.tmp 56) rfl V.heap.size v2 m1 rfl x _ rfl HO2.out rfl ?_ ?_ HB2.out.size ?_; (focus (rw [← HK1.out]; unfold maxLen; (first | (simp; done) | (simp; omega) | omega))); (focus (rw [← HK1.out]; (first | (simp; done) | (simp; omega) | omega))); intro v3 W3 ho3 hg3; have hb3 := hg3.below (B := V.heap.size) HB2.out.size (fun k hk => (HO2.out.lt k hk).1); obtain ⟨m2, hm2⟩ : ∃ m, m = m1 ++ [x] := ⟨_, rfl⟩; rw [← hm2] at ho3; have HO3 := Lib.hid ho3; have HB3 := Lib.hid (HB2.out.trans hb3); have HS5 := Lib.hid (HS3.out.next HB3.out); have HM2 := Lib.hid hm2; clear ho3 hg3 hb3 hm2)
                  | (at_builtin; refine wpList_appQ encS_ok nT_ok rfl (.tmp 58) (.tmp 61) rfl V.heap.size v3 m2 rfl HO3.out W3.heap.size (some ⟨g, k * 5, none⟩) m3 (cap - k) ?_ ?_ ?_ ?_ HB3.out.size ?_; (focus (rw [← HK3.out]; try rfl)); (focus (exact (by rw [HM3.out]; have h := (rqN HS5.out.1).drop k; rwa [Nat.zero_add] at h))); (focus (rw [HM2.out, List.length_append, ← HK1.out, ← HK3.out]; unfold maxLen; (first | (simp; done) | (simp; omega) | omega))); (focus (rw [HM2.out, List.length_append, ← HK1.out, ← HK3.out]; (first | (simp; done) | (simp; omega) | omega))); intro v4 W4 ho4 hg4; have hb4 := hg4.below (B := V.heap.size) HB3.out.size (fun k hk => (HO3.out.lt k hk).1); have HO4 := Lib.hid ho4; have HB4 := Lib.hid (HB3.out.trans hb4); clear ho4 hg4 hb4))
                go_roundw
                case rel =>
                  have hS6 := HS3.out.next (HB4.out.mono (Nat.le_refl _))
                  have e6 : m2 ++ m3 = insC cS x o := by rw [HI.out, HM2.out, HM1.out, HM3.out, HG.out]
                  refine ⟨i + 1, by omega, by go_num, ?_⟩
                  rw [sortC_step HX.out, ← HO.out, ← e6]
                  exact ⟨⟨HO4.out.base0 hB0, hS6.2.1, hS6.2.2⟩, .inr (by rw [HM2.out]; simp)⟩
                case measure => simp [intOf] <;> omega
          · have h2 : ¬ (k : Int) < (N : Int) := by omega
            have hkN : k = N := by omega
            subst hkN
            have HG := Lib.hid (posC_end HP.out (by rw [← HN.out]; omega))
            have HI := Lib.hid (insC_new cS_ok x o (by rw [HG.out, List.getElem?_eq_none (by rw [← HN.out]; omega)]; simp))
            go_wp2
            refine wp_region_held_drew (S := SQ w (some ⟨bl, fl, none⟩) l (.slice (some ⟨g, 0, none⟩) k cap) o) (by kernel_rfl) (HS0.out.drew) (fun hHeld => ?_)
            refine wpAnyH_take (i := 0) (v := ?_) (ops_atL rfl) (by kernel_rfl) (by kernel_rfl) (by kernel_rfl) (fun _ _ _ h => h) (Or.inl ⟨by rfl, ?_⟩) hHeld ?_
            rotate_left
            · (intro W hSW; go_simp; try with_reducible rfl)
            try simp only [Act.put, List.setIfInBounds_toArray, List.set_cons_zero, List.set_cons_succ]
            refine wpAnyH_take (i := 1) (v := ?_) (ops_atL rfl) (by kernel_rfl) (by kernel_rfl) (by kernel_rfl) (fun _ _ _ h => h) (Or.inl ⟨by rfl, ?_⟩) hHeld ?_
            rotate_left
            · (intro W hSW; go_simp; try with_reducible rfl)
            try simp only [Act.put, List.setIfInBounds_toArray, List.set_cons_zero, List.set_cons_succ]
            refine wpAnyH_take (i := 2) (v := ?_) (ops_atL rfl) (by kernel_rfl) (by kernel_rfl) (by kernel_rfl) (fun _ _ _ h => h) (Or.inl ⟨by rfl, ?_⟩) hHeld ?_
            rotate_left
            · (intro W hSW; go_simp; try with_reducible rfl)
            try simp only [Act.put, List.setIfInBounds_toArray, List.set_cons_zero, List.set_cons_succ]
            refine wpAnyH_take (i := 3) (v := ?_) (ops_atL rfl) (by kernel_rfl) (by kernel_rfl) (by kernel_rfl) (fun _ _ _ h => h) (Or.inl ⟨by rfl, ?_⟩) hHeld ?_
            rotate_left
            · (intro W hSW; go_simp; try with_reducible rfl)
            try simp only [Act.put, List.setIfInBounds_toArray, List.set_cons_zero, List.set_cons_succ]
            refine wpAnyH_take (i := 4) (v := ?_) (ops_atL rfl) (by kernel_rfl) (by kernel_rfl) (by kernel_rfl) (fun _ _ _ h => h) (Or.inl ⟨by rfl, ?_⟩) hHeld ?_
            rotate_left
            · (intro W hSW; go_simp; try with_reducible rfl)
            try simp only [Act.put, List.setIfInBounds_toArray, List.set_cons_zero, List.set_cons_succ]
            refine wpAnyH_take (i := 5) (v := undef) (ops_atL rfl) (by kernel_rfl) (by kernel_rfl) (by kernel_rfl) (fun _ _ _ h => h) (Or.inr ⟨by rfl, rfl⟩) hHeld ?_
            try simp only [Act.put, List.setIfInBounds_toArray, List.set_cons_zero, List.set_cons_succ]
            refine wpAnyH_take (i := 6) (v := undef) (ops_atL rfl) (by kernel_rfl) (by kernel_rfl) (by kernel_rfl) (fun _ _ _ h => h) (Or.inr ⟨by rfl, rfl⟩) hHeld ?_
            try simp only [Act.put, List.setIfInBounds_toArray, List.set_cons_zero, List.set_cons_succ]
            refine wpAnyH_take (i := 7) (v := undef) (ops_atL rfl) (by kernel_rfl) (by kernel_rfl) (by kernel_rfl) (fun _ _ _ h => h) (Or.inr ⟨by rfl, rfl⟩) hHeld ?_
            try simp only [Act.put, List.setIfInBounds_toArray, List.set_cons_zero, List.set_cons_succ]
            refine wpAnyH_take (i := 8) (v := undef) (ops_atL rfl) (by kernel_rfl) (by kernel_rfl) (by kernel_rfl) (fun _ _ _ h => h) (Or.inr ⟨by rfl, rfl⟩) hHeld ?_
            try simp only [Act.put, List.setIfInBounds_toArray, List.set_cons_zero, List.set_cons_succ]
            refine wpAnyH_take (i := 9) (v := undef) (ops_atL rfl) (by kernel_rfl) (by kernel_rfl) (by kernel_rfl) (fun _ _ _ h => h) (Or.inr ⟨by rfl, rfl⟩) hHeld ?_
            try simp only [Act.put, List.setIfInBounds_toArray, List.set_cons_zero, List.set_cons_succ]
            refine wpAnyH_take (i := 10) (v := undef) (ops_atL rfl) (by kernel_rfl) (by kernel_rfl) (by kernel_rfl) (fun _ _ _ h => h) (Or.inr ⟨by rfl, rfl⟩) hHeld ?_
            try simp only [Act.put, List.setIfInBounds_toArray, List.set_cons_zero, List.set_cons_succ]
            refine wpAnyH_take (i := 11) (v := undef) (ops_atL rfl) (by kernel_rfl) (by kernel_rfl) (by kernel_rfl) (fun _ _ _ h => h) (Or.inr ⟨by rfl, rfl⟩) hHeld ?_
            try simp only [Act.put, List.setIfInBounds_toArray, List.set_cons_zero, List.set_cons_succ]
            refine wpAnyH_take (i := 12) (v := undef) (ops_atL rfl) (by kernel_rfl) (by kernel_rfl) (by kernel_rfl) (fun _ _ _ h => h) (Or.inr ⟨by rfl, rfl⟩) hHeld ?_
            try simp only [Act.put, List.setIfInBounds_toArray, List.set_cons_zero, List.set_cons_succ]
            refine wpAnyH_take (i := 13) (v := undef) (ops_atL rfl) (by kernel_rfl) (by kernel_rfl) (by kernel_rfl) (fun _ _ _ h => h) (Or.inr ⟨by rfl, rfl⟩) hHeld ?_
            try simp only [Act.put, List.setIfInBounds_toArray, List.set_cons_zero, List.set_cons_succ]
            refine wpAnyH_take (i := 14) (v := undef) (ops_atL rfl) (by kernel_rfl) (by kernel_rfl) (by kernel_rfl) (fun _ _ _ h => h) (Or.inr ⟨by rfl, rfl⟩) hHeld ?_
            try simp only [Act.put, List.setIfInBounds_toArray, List.set_cons_zero, List.set_cons_succ]
            refine wpAnyH_take (i := 15) (v := ?_) (ops_atL rfl) (by kernel_rfl) (by kernel_rfl) (by kernel_rfl) (fun _ _ _ h => h) (Or.inl ⟨by rfl, ?_⟩) hHeld ?_
            rotate_left
            · (intro W hSW; go_simp; try with_reducible rfl)
            try simp only [Act.put, List.setIfInBounds_toArray, List.set_cons_zero, List.set_cons_succ]
            refine wpAnyH_done (by kernel_rfl) ?_ _
            have HH := Lib.hid hHeld
            clear hHeld
            go_wp2
            refine wp_region_held_drew (S := SQ w (some ⟨bl, fl, none⟩) l (.slice (some ⟨g, 0, none⟩) k cap) o) (by kernel_rfl) (HH.out.drew) (fun hHeld => ?_)
            refine wpAnyH_take (i := 0) (v := ?_) (ops_atL rfl) (by kernel_rfl) (by kernel_rfl) (by kernel_rfl) (fun _ _ _ h => h) (Or.inl ⟨by rfl, ?_⟩) hHeld ?_
            rotate_left
            · (intro W hSW; go_simp; try with_reducible rfl)
            try simp only [Act.put, List.setIfInBounds_toArray, List.set_cons_zero, List.set_cons_succ]
            refine wpAnyH_take (i := 1) (v := ?_) (ops_atL rfl) (by kernel_rfl) (by kernel_rfl) (by kernel_rfl) (fun _ _ _ h => h) (Or.inl ⟨by rfl, ?_⟩) hHeld ?_
            rotate_left
            · (intro W hSW; go_simp; try with_reducible rfl)
            try simp only [Act.put, List.setIfInBounds_toArray, List.set_cons_zero, List.set_cons_succ]
            refine wpAnyH_take (i := 2) (v := ?_) (ops_atL rfl) (by kernel_rfl) (by kernel_rfl) (by kernel_rfl) (fun _ _ _ h => h) (Or.inl ⟨by rfl, ?_⟩) hHeld ?_
            rotate_left
            · (intro W hSW; go_simp; try with_reducible rfl)
            try simp only [Act.put, List.setIfInBounds_toArray, List.set_cons_zero, List.set_cons_succ]
            refine wpAnyH_take (i := 3) (v := ?_) (ops_atL rfl) (by kernel_rfl) (by kernel_rfl) (by kernel_rfl) (fun _ _ _ h => h) (Or.inl ⟨by rfl, ?_⟩) hHeld ?_
            rotate_left
            · (intro W hSW; go_simp; try with_reducible rfl)
            try simp only [Act.put, List.setIfInBounds_toArray, List.set_cons_zero, List.set_cons_succ]
            refine wpAnyH_take (i := 4) (v := ?_) (ops_atL rfl) (by kernel_rfl) (by kernel_rfl) (by kernel_rfl) (fun _ _ _ h => h) (Or.inl ⟨by rfl, ?_⟩) hHeld ?_
            rotate_left
            · (intro W hSW; go_simp; try with_reducible rfl)
            try simp only [Act.put, List.setIfInBounds_toArray, List.set_cons_zero, List.set_cons_succ]
            refine wpAnyH_take (i := 5) (v := undef) (ops_atL rfl) (by kernel_rfl) (by kernel_rfl) (by kernel_rfl) (fun _ _ _ h => h) (Or.inr ⟨by rfl, rfl⟩) hHeld ?_
            try simp only [Act.put, List.setIfInBounds_toArray, List.set_cons_zero, List.set_cons_succ]
            refine wpAnyH_take (i := 6) (v := undef) (ops_atL rfl) (by kernel_rfl) (by kernel_rfl) (by kernel_rfl) (fun _ _ _ h => h) (Or.inr ⟨by rfl, rfl⟩) hHeld ?_
            try simp only [Act.put, List.setIfInBounds_toArray, List.set_cons_zero, List.set_cons_succ]
            refine wpAnyH_take (i := 7) (v := undef) (ops_atL rfl) (by kernel_rfl) (by kernel_rfl) (by kernel_rfl) (fun _ _ _ h => h) (Or.inr ⟨by rfl, rfl⟩) hHeld ?_
            try simp only [Act.put, List.setIfInBounds_toArray, List.set_cons_zero, List.set_cons_succ]
            refine wpAnyH_take (i := 8) (v := undef) (ops_atL rfl) (by kernel_rfl) (by kernel_rfl) (by kernel_rfl) (fun _ _ _ h => h) (Or.inr ⟨by rfl, rfl⟩) hHeld ?_
            try simp only [Act.put, List.setIfInBounds_toArray, List.set_cons_zero, List.set_cons_succ]
            refine wpAnyH_take (i := 9) (v := undef) (ops_atL rfl) (by kernel_rfl) (by kernel_rfl) (by kernel_rfl) (fun _ _ _ h => h) (Or.inr ⟨by rfl, rfl⟩) hHeld ?_
            try simp only [Act.put, List.setIfInBounds_toArray, List.set_cons_zero, List.set_cons_succ]
            refine wpAnyH_take (i := 10) (v := undef) (ops_atL rfl) (by kernel_rfl) (by kernel_rfl) (by kernel_rfl) (fun _ _ _ h => h) (Or.inr ⟨by rfl, rfl⟩) hHeld ?_
            try simp only [Act.put, List.setIfInBounds_toArray, List.set_cons_zero, List.set_cons_succ]
            refine wpAnyH_take (i := 11) (v := undef) (ops_atL rfl) (by kernel_rfl) (by kernel_rfl) (by kernel_rfl) (fun _ _ _ h => h) (Or.inr ⟨by rfl, rfl⟩) hHeld ?_
            try simp only [Act.put, List.setIfInBounds_toArray, List.set_cons_zero, List.set_cons_succ]
            refine wpAnyH_take (i := 12) (v := undef) (ops_atL rfl) (by kernel_rfl) (by kernel_rfl) (by kernel_rfl) (fun _ _ _ h => h) (Or.inr ⟨by rfl, rfl⟩) hHeld ?_
            try simp only [Act.put, List.setIfInBounds_toArray, List.set_cons_zero, List.set_cons_succ]
            refine wpAnyH_take (i := 13) (v := undef) (ops_atL rfl) (by kernel_rfl) (by kernel_rfl) (by kernel_rfl) (fun _ _ _ h => h) (Or.inr ⟨by rfl, rfl⟩) hHeld ?_
            try simp only [Act.put, List.setIfInBounds_toArray, List.set_cons_zero, List.set_cons_succ]
            refine wpAnyH_take (i := 14) (v := ?_) (ops_atL rfl) (by kernel_rfl) (by kernel_rfl) (by kernel_rfl) (fun _ _ _ h => h) (Or.inl ⟨by rfl, ?_⟩) hHeld ?_
            rotate_left
            · (intro W hSW; go_simp; try with_reducible rfl)
            try simp only [Act.put, List.setIfInBounds_toArray, List.set_cons_zero, List.set_cons_succ]
            refine wpAnyH_done (by kernel_rfl) ?_ _
            skip
            have HH2 := Lib.hid hHeld
            clear hHeld HH
            refine post_genQ (SQ w (some ⟨bl, fl, none⟩) l (.slice (some ⟨g, 0, none⟩) k cap) o) (HH2.out) ?_
            clear HH2
            intro V hV
            have HS3 := Lib.hid hV
            have hB0 := hV.2.2.size
            clear hV
            obtain ⟨m1, hm1⟩ : ∃ m, m = o.take k := ⟨_, rfl⟩
            obtain ⟨m3, hm3⟩ : ∃ m, m = o.drop k := ⟨_, rfl⟩
            have hml1 : k = m1.length := by rw [hm1, List.length_take, ← HN.out]; omega
            have hml3 : 0 = m3.length := by rw [hm3, List.length_drop, ← HN.out]; omega
            have HO0 := Lib.hid (show OQ encS 5 23 (V.alloc (.cells #[] 23)) V.heap.size (.slice (some ⟨V.heap.size, 0, none⟩) 0 0) [] from World.ownsRow_made V #[] 0 (Nat.le_refl _) (by decide) (by simp))
            have HM1 := Lib.hid hm1
            have HM3 := Lib.hid hm3
            have HK1 := Lib.hid hml1
            have HK3 := Lib.hid hml3
            have hk5 : k ≤ cap := by omega
            have hkl : k ≤ 1000000 := by omega
            clear hm1 hm3 hml1 hml3
            by_cases hck : cap = k
            · have hck' := hck.symm
              clear hck
              subst hck'
              go_wp2_with (first
                | (at_builtin; refine wpList_appQ encS_ok nT_ok rfl (.tmp 46) (.tmp 49) rfl V.heap.size _ [] rfl HO0.out (V.heap.size + 1) (some ⟨g, 0, none⟩) m1 k ?_ ?_ ?_ ?_ ?_ ?_; (focus (rw [← HK1.out]; try rfl)); (focus (rw [HM1.out]; exact (((rqN HS3.out.1).below (below_alloc0 V _ (Nat.le_refl _))).more (Nat.le_succ _)).take k)); (focus (rw [← HK1.out]; unfold maxLen; (first | (simp; done) | (simp; omega) | omega))); (focus (rw [← HK1.out]; (first | (simp; done) | (simp; omega) | omega))); (focus (simp)); intro v2 W2 ho2 hg2; rw [List.nil_append] at ho2; have hb2 := hg2.below (B := V.heap.size) (by simp) (fun k hk => (HO0.out.lt k hk).1); have HO2 := Lib.hid ho2; have HB2 := Lib.hid ((below_alloc0 V _ (Nat.le_refl _)).trans hb2); have HS4 := Lib.hid (HS3.out.next HB2.out); have hrx := rangeR HS4.out HX.out; clear ho2 hg2 hb2)
                | (refine wpList_load_mid rfl 23 (.tmp 54) rfl bl (fl + i * 5) rfl [.int .i64 x.1.kind, .string (sv x.1.owner), .int .i64 x.1.num, .int .i64 x.1.idx, .string (sv x.1.text)] _ hrx Tryz.underlying23 rfl (n_info _) ?_)
                | (at_builtin; refine wpList_pushQ encS_ok nT_ok rfl (.tmp 51) (.tmp 56) rfl V.heap.size v2 m1 rfl x _ rfl HO2.out rfl ?_ ?_ HB2.out.size ?_; (focus (rw [← HK1.out]; unfold maxLen; (first | (simp; done) | (simp; omega) | omega))); (focus (rw [← HK1.out]; (first | (simp; done) | (simp; omega) | omega))); intro v3 W3 ho3 hg3; have hb3 := hg3.below (B := V.heap.size) HB2.out.size (fun k hk => (HO2.out.lt k hk).1); obtain ⟨m2, hm2⟩ : ∃ m, m = m1 ++ [x] := ⟨_, rfl⟩; rw [← hm2] at ho3; have HO3 := Lib.hid ho3; have HB3 := Lib.hid (HB2.out.trans hb3); have HS5 := Lib.hid (HS3.out.next HB3.out); have HM2 := Lib.hid hm2; clear ho3 hg3 hb3 hm2)
                | (at_builtin; refine wpList_appQ encS_ok nT_ok rfl (.tmp 58) (.tmp 61) rfl V.heap.size v3 m2 rfl HO3.out 0 (some ⟨g, 0, none⟩) m3 0 ?_ ?_ ?_ ?_ HB3.out.size ?_; (focus (rw [← HK3.out]; try rfl)); (focus (exact (by rw [HM3.out, List.drop_eq_nil_of_le (by rw [← HN.out]; omega)]; exact RQ.nil))); (focus (rw [HM2.out, List.length_append, ← HK1.out, ← HK3.out]; unfold maxLen; (first | (simp; done) | (simp; omega) | omega))); (focus (rw [HM2.out, List.length_append, ← HK1.out, ← HK3.out]; (first | (simp; done) | (simp; omega) | omega))); intro v4 W4 ho4 hg4; have hb4 := hg4.below (B := V.heap.size) HB3.out.size (fun k hk => (HO3.out.lt k hk).1); have HO4 := Lib.hid ho4; have HB4 := Lib.hid (HB3.out.trans hb4); clear ho4 hg4 hb4))
              go_roundw
              case rel =>
                have hS6 := HS3.out.next (HB4.out.mono (Nat.le_refl _))
                have e6 : m2 ++ m3 = insC cS x o := by rw [HI.out, HM2.out, HM1.out, HM3.out, HG.out]
                refine ⟨i + 1, by omega, by go_num, ?_⟩
                rw [sortC_step HX.out, ← HO.out, ← e6]
                exact ⟨⟨HO4.out.base0 hB0, hS6.2.1, hS6.2.2⟩, .inr (by rw [HM2.out]; simp)⟩
              case measure => simp [intOf] <;> omega
            · have hck2 : ¬ cap - k = 0 := by omega
              have hck3 : ¬ k = cap := by omega
              have hck4 : k < cap := by omega
              go_wp2_with (first
                | (at_builtin; refine wpList_appQ encS_ok nT_ok rfl (.tmp 46) (.tmp 49) rfl V.heap.size _ [] rfl HO0.out (V.heap.size + 1) (some ⟨g, 0, none⟩) m1 cap ?_ ?_ ?_ ?_ ?_ ?_; (focus (rw [← HK1.out]; try rfl)); (focus (rw [HM1.out]; exact (((rqN HS3.out.1).below (below_alloc0 V _ (Nat.le_refl _))).more (Nat.le_succ _)).take k)); (focus (rw [← HK1.out]; unfold maxLen; (first | (simp; done) | (simp; omega) | omega))); (focus (rw [← HK1.out]; (first | (simp; done) | (simp; omega) | omega))); (focus (simp)); intro v2 W2 ho2 hg2; rw [List.nil_append] at ho2; have hb2 := hg2.below (B := V.heap.size) (by simp) (fun k hk => (HO0.out.lt k hk).1); have HO2 := Lib.hid ho2; have HB2 := Lib.hid ((below_alloc0 V _ (Nat.le_refl _)).trans hb2); have HS4 := Lib.hid (HS3.out.next HB2.out); have hrx := rangeR HS4.out HX.out; clear ho2 hg2 hb2)
                | (refine wpList_load_mid rfl 23 (.tmp 54) rfl bl (fl + i * 5) rfl [.int .i64 x.1.kind, .string (sv x.1.owner), .int .i64 x.1.num, .int .i64 x.1.idx, .string (sv x.1.text)] _ hrx Tryz.underlying23 rfl (n_info _) ?_)
                | (at_builtin; refine wpList_pushQ encS_ok nT_ok rfl (.tmp 51) (.tmp 56) rfl V.heap.size v2 m1 rfl x _ rfl HO2.out rfl ?_ ?_ HB2.out.size ?_; (focus (rw [← HK1.out]; unfold maxLen; (first | (simp; done) | (simp; omega) | omega))); (focus (rw [← HK1.out]; (first | (simp; done) | (simp; omega) | omega))); intro v3 W3 ho3 hg3; have hb3 := hg3.below (B := V.heap.size) HB2.out.size (fun k hk => (HO2.out.lt k hk).1); obtain ⟨m2, hm2⟩ : ∃ m, m = m1 ++ [x] := ⟨_, rfl⟩; rw [← hm2] at ho3; have HO3 := Lib.hid ho3; have HB3 := Lib.hid (HB2.out.trans hb3); have HS5 := Lib.hid (HS3.out.next HB3.out); have HM2 := Lib.hid hm2; clear ho3 hg3 hb3 hm2)
                | (at_builtin; refine wpList_appQ encS_ok nT_ok rfl (.tmp 58) (.tmp 61) rfl V.heap.size v3 m2 rfl HO3.out 0 (some ⟨g, k * 5, none⟩) m3 (cap - k) ?_ ?_ ?_ ?_ HB3.out.size ?_; (focus (rw [← HK3.out]; try rfl)); (focus (exact (by rw [HM3.out, List.drop_eq_nil_of_le (by rw [← HN.out]; omega)]; exact RQ.nil))); (focus (rw [HM2.out, List.length_append, ← HK1.out, ← HK3.out]; unfold maxLen; (first | (simp; done) | (simp; omega) | omega))); (focus (rw [HM2.out, List.length_append, ← HK1.out, ← HK3.out]; (first | (simp; done) | (simp; omega) | omega))); intro v4 W4 ho4 hg4; have hb4 := hg4.below (B := V.heap.size) HB3.out.size (fun k hk => (HO3.out.lt k hk).1); have HO4 := Lib.hid ho4; have HB4 := Lib.hid (HB3.out.trans hb4); clear ho4 hg4 hb4))
              go_roundw
              case rel =>
                have hS6 := HS3.out.next (HB4.out.mono (Nat.le_refl _))
                have e6 : m2 ++ m3 = insC cS x o := by rw [HI.out, HM2.out, HM1.out, HM3.out, HG.out]
                refine ⟨i + 1, by omega, by go_num, ?_⟩
                rw [sortC_step HX.out, ← HO.out, ← e6]
                exact ⟨⟨HO4.out.base0 hB0, hS6.2.1, hS6.2.2⟩, .inr (by rw [HM2.out]; simp)⟩
              case measure => simp [intOf] <;> omega
    · have h1 : ¬ (i : Int) < (l.length : Int) := by omega
      have hf : o = sortC cS l := by
        have := HO.out
        rw [List.take_of_length_le (by omega)] at this
        exact this
      have HF := Lib.hid hf
      clear hf hne hS
      go_wp2
      go_ret
      exact ⟨_, rfl, by rw [← HF.out]; exact HS.out.1, HS.out.2.2⟩
end Go.Proofs.YtcdjmkfpclmbdaaGreatDoor
