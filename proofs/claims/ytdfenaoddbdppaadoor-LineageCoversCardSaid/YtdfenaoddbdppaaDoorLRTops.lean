/- lineage: the walk of the reference's Tops. -/
import Derived.Test.YtdfenaoddbdppaaDoorLRSort
import Derived.Test.YtdfenaoddbdppaaDoorLSortMM
set_option linter.unusedVariables false
namespace Go.Proofs.YtdfenaoddbdppaaDoor
open Go.RowKit

def topQ (s : List ByteArray) (x : ByteArray) (k : Nat) : Bool := (s.take k).all fun y => decide (y = x) || !inB x y
theorem topQ_step {s : List ByteArray} {x y : ByteArray} {k : Nat} (h : s[k]? = some y) : topQ s x (k + 1) = (topQ s x k && (decide (y = x) || !inB x y)) := by
  unfold topQ; rw [take_step h, List.all_append]; simp
def topO (s : List ByteArray) (i : Nat) : List ByteArray := (s.take i).filter fun x => topQ s x s.length
theorem topO_all (s : List ByteArray) (i : Nat) (h : s.length ≤ i) : topO s i = topsS s := by
  unfold topO topsS topQ
  rw [List.take_of_length_le h, List.take_length]
theorem topO_step {s : List ByteArray} {x : ByteArray} {i : Nat} (h : s[i]? = some x) : topO s (i + 1) = topO s i ++ (if topQ s x s.length = true then [x] else []) := by
  unfold topO
  rw [take_step h, List.filter_append, List.filter_cons, List.filter_nil]
theorem topO_length (s : List ByteArray) (i : Nat) : (topO s i).length ≤ i := by
  have := List.length_filter_le (fun x => topQ s x s.length) (s.take i)
  rw [List.length_take] at this
  unfold topO; omega
/-- What lies there in the rounds. -/
def TS (W1 : World) (u : Value) (o : List ByteArray) (W : World) : Prop := Below W1.heap.size W1 W ∧ OT 9 W W1.heap.size u o
theorem TS.next {W1 W W' : World} {u : Value} {o : List ByteArray} (h : TS W1 u o W) (hb : Below W.heap.size W W') : TS W1 u o W' := ⟨h.1.trans (hb.mono h.1.size), h.2.below hb (Nat.le_refl _)⟩
theorem TS.drew {W1 W : World} {u : Value} {o : List ByteArray} (h : TS W1 u o W) : TS W1 u o W.drew := ⟨h.1.drew, h.2⟩

set_option maxHeartbeats 8000000 in
set_option maxRecDepth 100000 in
theorem refTops_any (A : Option Addr) (l : List ByteArray) (c B : Nat) (w : World) (hr : RT w B A l) (hB : B ≤ w.heap.size) (hl : ∀ s ∈ l, s.size ≤ 1000000) (hll : l.length ≤ 1000000) :
    Calls Tryd.prog 38 #[.slice A l.length c] w fun e w' => ∃ v, e = .returned v ∧ OT 9 w' w.heap.size v (topsS (sortS l)) ∧ Below w.heap.size w w' := by
  obtain ⟨s, hs⟩ : ∃ s, s = sortS l := ⟨_, rfl⟩
  have HSO : Hid (∀ W, Below w.heap.size w W → Calls Tryd.prog 36 #[.slice A l.length c] W fun e w' => ∃ v, e = .returned v ∧ OGT w' W.heap.size v s ∧ Below W.heap.size W w') := Lib.hid fun W hb => by
    rw [hs]; exact refSort_any A l c B W (hr.below (hb.mono hB)) (Nat.le_trans hB hb.size) hl hll
  have hsz : ∀ x ∈ s, x.size ≤ 1000000 := fun x hx => hl x ((sortS_mem l x).1 (by rw [← hs]; exact hx))
  have hsl : s.length ≤ 1000000 := by have := sortS_length_le l; rw [hs]; omega
  have HAS : Hid (s.Pairwise ltB) := Lib.hid (by rw [hs]; exact sortS_asc l)
  rw [← hs]
  have HSZ := Lib.hid hsz
  clear hr hl hs hsz
  go_enter Tryd.func38, Tryd.ntmps38
  go_wp2_with (go_at_call 36; refine (HSO.out _ (Below.refl _ _)).mono ?_; rintro e W1 ⟨v1, rfl, ho1, hb1⟩; obtain ⟨A1, cap1, hv1, hr1, _⟩ := ho1.form; obtain ⟨N, hN⟩ : ∃ N, N = s.length := ⟨_, rfl⟩; rw [← hN] at hv1; subst hv1; have HR1 := Lib.hid hr1; have HB1 := Lib.hid hb1; have HN := Lib.hid hN; have hNb : N ≤ 1000000 := (by omega); clear ho1 hb1 hr1 hN)
  go_loopw [3, 5] (fun u a wr => ∃ i : Nat, i ≤ N ∧ a = .int .i64 i ∧ TS W1 u (topO s i) wr) (fun _ a _ => N - (intOf a).toNat)
  case atStart => exact ⟨0, by omega, rfl, Below.refl _ _, OT.nil _ _ _⟩
  case round =>
    obtain ⟨i, hi, rfl, hT⟩ := hrel
    obtain ⟨o, hoe⟩ : ∃ o, o = topO s i := ⟨_, rfl⟩
    rw [← hoe] at hT
    have hol : o.length ≤ i := by rw [hoe]; exact topO_length s i
    obtain ⟨A2, cap2, rfl, _, _⟩ := hT.2.form
    obtain ⟨M, hM⟩ : ∃ M, M = o.length := ⟨_, rfl⟩
    rw [← hM] at hT hol ⊢
    have HM := Lib.hid hM
    have HOE := Lib.hid hoe
    have HT := Lib.hid hT
    clear hoe hM
    by_cases hlt : i < N
    · have h1 : (i : Int) < (N : Int) := by omega
      obtain ⟨b, off, x, rfl, hbb, hx, c0⟩ := HR1.out.at_ (k := i) (by rw [← HN.out]; exact hlt)
      have HX := Lib.hid hx
      have CI := Lib.hid c0
      have hxz := HSZ.out x (List.mem_of_getElem? hx)
      clear c0 hx hT
      go_wp2
      go_loopw [6, 7] (fun q a wr2 => ∃ k : Nat, k ≤ N ∧ a = .int .i64 k ∧ q = .bool (topQ s x k) ∧ TS W1 (.slice A2 M cap2) o wr2) (fun _ a _ => N - (intOf a).toNat)
      case atStart => exact ⟨0, by omega, rfl, rfl, HT.out⟩
      case round =>
        obtain ⟨k, hk, rfl, rfl, hT2⟩ := hrel
        have HS0 := Lib.hid hT2
        clear hT2
        by_cases hlk : k < N
        · have h2 : (k : Int) < (N : Int) := by omega
          obtain ⟨y, hy⟩ : ∃ y, s[k]? = some y := ⟨s[k]'(by rw [← HN.out]; exact hlk), List.getElem?_eq_getElem _⟩
          have HST := Lib.hid (topQ_step (x := x) hy)
          have CK : Hid (W1.cell? ⟨b, off + k, none⟩ = some (sv y)) := Lib.hid (HR1.out.cellT hy)
          obtain ⟨qb, hqb⟩ : ∃ qb, qb = topQ s x k := ⟨_, rfl⟩
          rw [← hqb] at HST ⊢
          by_cases hki : k = i
          · have gk : ((k : Int) != (i : Int)) = false := by simp; omega
            have hyx : y = x := by
              have := HX.out; rw [hki] at hy; rw [hy] at this; injection this
            have HQ : Hid (topQ s x (k + 1) = qb) := Lib.hid (by rw [HST.out, hyx]; simp)
            clear hy hyx hqb hki
            go_wp2
            refine wp_region_held_drew (S := TS W1 (.slice A2 M cap2) o) (by kernel_rfl) (HS0.out.drew) (fun hHeld => ?_)
            refine wpAnyH_take (i := 0) (v := ?_) (ops_atL rfl) (by kernel_rfl) (by kernel_rfl) (by kernel_rfl) (fun _ _ _ h => h) (Or.inl ⟨by rfl, ?_⟩) hHeld ?_
            rotate_left
            · (intro W hSW; go_simp; try with_reducible rfl)
            try simp only [Act.put, List.setIfInBounds_toArray, List.set_cons_zero, List.set_cons_succ]
            refine wpAnyH_take (i := 1) (v := ?_) (ops_atL rfl) (by kernel_rfl) (by kernel_rfl) (by kernel_rfl) (fun _ _ _ h => h) (Or.inl ⟨by rfl, ?_⟩) hHeld ?_
            rotate_left
            · (intro W hSW; go_simp; try with_reducible rfl)
            try simp only [Act.put, List.setIfInBounds_toArray, List.set_cons_zero, List.set_cons_succ]
            refine wpAnyH_take (i := 2) (v := ?_) (ops_atL rfl) (by kernel_rfl) (by kernel_rfl) (by kernel_rfl) (fun _ _ _ h => h) (Or.inl ⟨by rfl, ?_⟩) hHeld ?_
            rotate_left
            · (intro W hSW; go_simp; try with_reducible rfl)
            try simp only [Act.put, List.setIfInBounds_toArray, List.set_cons_zero, List.set_cons_succ]
            refine wpAnyH_take (i := 3) (v := ?_) (ops_atL rfl) (by kernel_rfl) (by kernel_rfl) (by kernel_rfl) (fun _ _ _ h => h) (Or.inl ⟨by rfl, ?_⟩) hHeld ?_
            rotate_left
            · (intro W hSW; go_simp; try with_reducible rfl)
            try simp only [Act.put, List.setIfInBounds_toArray, List.set_cons_zero, List.set_cons_succ]
            refine wpAnyH_take (i := 4) (v := undef) (ops_atL rfl) (by kernel_rfl) (by kernel_rfl) (by kernel_rfl) (fun _ _ _ h => h) (Or.inr ⟨by rfl, rfl⟩) hHeld ?_
            try simp only [Act.put, List.setIfInBounds_toArray, List.set_cons_zero, List.set_cons_succ]
            refine wpAnyH_take (i := 5) (v := undef) (ops_atL rfl) (by kernel_rfl) (by kernel_rfl) (by kernel_rfl) (fun _ _ _ h => h) (Or.inr ⟨by rfl, rfl⟩) hHeld ?_
            try simp only [Act.put, List.setIfInBounds_toArray, List.set_cons_zero, List.set_cons_succ]
            refine wpAnyH_take (i := 6) (v := undef) (ops_atL rfl) (by kernel_rfl) (by kernel_rfl) (by kernel_rfl) (fun _ _ _ h => h) (Or.inr ⟨by rfl, rfl⟩) hHeld ?_
            try simp only [Act.put, List.setIfInBounds_toArray, List.set_cons_zero, List.set_cons_succ]
            refine wpAnyH_take (i := 7) (v := undef) (ops_atL rfl) (by kernel_rfl) (by kernel_rfl) (by kernel_rfl) (fun _ _ _ h => h) (Or.inr ⟨by rfl, rfl⟩) hHeld ?_
            try simp only [Act.put, List.setIfInBounds_toArray, List.set_cons_zero, List.set_cons_succ]
            refine wpAnyH_take (i := 8) (v := undef) (ops_atL rfl) (by kernel_rfl) (by kernel_rfl) (by kernel_rfl) (fun _ _ _ h => h) (Or.inr ⟨by rfl, rfl⟩) hHeld ?_
            try simp only [Act.put, List.setIfInBounds_toArray, List.set_cons_zero, List.set_cons_succ]
            refine wpAnyH_take (i := 9) (v := undef) (ops_atL rfl) (by kernel_rfl) (by kernel_rfl) (by kernel_rfl) (fun _ _ _ h => h) (Or.inr ⟨by rfl, rfl⟩) hHeld ?_
            try simp only [Act.put, List.setIfInBounds_toArray, List.set_cons_zero, List.set_cons_succ]
            refine wpAnyH_take (i := 10) (v := undef) (ops_atL rfl) (by kernel_rfl) (by kernel_rfl) (by kernel_rfl) (fun _ _ _ h => h) (Or.inr ⟨by rfl, rfl⟩) hHeld ?_
            try simp only [Act.put, List.setIfInBounds_toArray, List.set_cons_zero, List.set_cons_succ]
            refine wpAnyH_take (i := 11) (v := undef) (ops_atL rfl) (by kernel_rfl) (by kernel_rfl) (by kernel_rfl) (fun _ _ _ h => h) (Or.inr ⟨by rfl, rfl⟩) hHeld ?_
            try simp only [Act.put, List.setIfInBounds_toArray, List.set_cons_zero, List.set_cons_succ]
            refine wpAnyH_take (i := 12) (v := undef) (ops_atL rfl) (by kernel_rfl) (by kernel_rfl) (by kernel_rfl) (fun _ _ _ h => h) (Or.inr ⟨by rfl, rfl⟩) hHeld ?_
            try simp only [Act.put, List.setIfInBounds_toArray, List.set_cons_zero, List.set_cons_succ]
            refine wpAnyH_take (i := 13) (v := ?_) (ops_atL rfl) (by kernel_rfl) (by kernel_rfl) (by kernel_rfl) (fun _ _ _ h => h) (Or.inl ⟨by rfl, ?_⟩) hHeld ?_
            rotate_left
            · (intro W hSW; go_simp; try with_reducible rfl)
            try simp only [Act.put, List.setIfInBounds_toArray, List.set_cons_zero, List.set_cons_succ]
            refine wpAnyH_done (by kernel_rfl) ?_ _
            go_wp2
            go_roundw
            case rel => exact ⟨k + 1, by omega, by go_num, by rw [HQ.out], hHeld⟩
            case measure => simp [intOf] <;> omega
          · have gk : ((k : Int) != (i : Int)) = true := by simp; omega
            have hyx : y ≠ x := by
              intro e
              subst e
              have hp := List.pairwise_iff_getElem.1 HAS.out
              obtain ⟨hk1, ek⟩ := List.getElem?_eq_some_iff.1 hy
              obtain ⟨hi1, ei⟩ := List.getElem?_eq_some_iff.1 HX.out
              rcases Nat.lt_or_gt_of_ne hki with h | h
              · have := hp k i hk1 hi1 h; rw [ek, ei] at this; exact ltB_irrefl _ this
              · have := hp i k hi1 hk1 h; rw [ek, ei] at this; exact ltB_irrefl _ this
            have HW : Hid (∀ W, TS W1 (.slice A2 M cap2) o W → Calls Tryd.prog 28 #[.string x, .string y] W fun e w' => e = .returned (.bool (inB x y)) ∧ TS W1 (.slice A2 M cap2) o w') := Lib.hid fun W hW => (refWithin_any x y W hxz (HSZ.out y (List.mem_of_getElem? hy))).mono fun e w' h => ⟨h.1, hW.next h.2⟩
            have HQ : Hid (topQ s x (k + 1) = (qb && !inB x y)) := Lib.hid (by rw [HST.out, decide_eq_false hyx]; simp)
            clear hy hyx hqb hki
            cases hq : inB x y with
            | true =>
              rw [hq] at HW HQ
              clear hq
              go_wp2
              refine wp_region_held_drew (S := TS W1 (.slice A2 M cap2) o) (by kernel_rfl) (HS0.out.drew) (fun hHeld => ?_)
              refine wpAnyH_take (i := 0) (v := ?_) (ops_atL rfl) (by kernel_rfl) (by kernel_rfl) (by kernel_rfl) (fun _ _ _ h => h) (Or.inl ⟨by rfl, ?_⟩) hHeld ?_
              rotate_left
              · (intro W hSW; go_simp; try with_reducible rfl)
              try simp only [Act.put, List.setIfInBounds_toArray, List.set_cons_zero, List.set_cons_succ]
              refine wpAnyH_take (i := 1) (v := ?_) (ops_atL rfl) (by kernel_rfl) (by kernel_rfl) (by kernel_rfl) (fun _ _ _ h => h) (Or.inl ⟨by rfl, ?_⟩) hHeld ?_
              rotate_left
              · (intro W hSW; go_simp; try with_reducible rfl)
              try simp only [Act.put, List.setIfInBounds_toArray, List.set_cons_zero, List.set_cons_succ]
              refine wpAnyH_take (i := 2) (v := ?_) (ops_atL rfl) (by kernel_rfl) (by kernel_rfl) (by kernel_rfl) (fun _ _ _ h => h) (Or.inl ⟨by rfl, ?_⟩) hHeld ?_
              rotate_left
              · (intro W hSW; go_simp; try with_reducible rfl)
              try simp only [Act.put, List.setIfInBounds_toArray, List.set_cons_zero, List.set_cons_succ]
              refine wpAnyH_take (i := 3) (v := ?_) (ops_atL rfl) (by kernel_rfl) (by kernel_rfl) (by kernel_rfl) (fun _ _ _ h => h) (Or.inl ⟨by rfl, ?_⟩) hHeld ?_
              rotate_left
              · (intro W hSW; go_simp; try with_reducible rfl)
              try simp only [Act.put, List.setIfInBounds_toArray, List.set_cons_zero, List.set_cons_succ]
              refine wpAnyH_take (i := 4) (v := ?_) (ops_atL rfl) (by kernel_rfl) (by kernel_rfl) (by kernel_rfl) (fun _ _ _ h => h) (Or.inl ⟨by rfl, ?_⟩) hHeld ?_
              rotate_left
              · (intro W hSW; go_simp; try with_reducible rfl)
              try simp only [Act.put, List.setIfInBounds_toArray, List.set_cons_zero, List.set_cons_succ]
              refine wpAnyH_take (i := 5) (v := ?_) (ops_atL rfl) (by kernel_rfl) (by kernel_rfl) (by kernel_rfl) (fun _ _ _ h => h) (Or.inl ⟨by rfl, ?_⟩) hHeld ?_
              rotate_left
              · (intro W hSW; go_simp; try with_reducible rfl)
              try simp only [Act.put, List.setIfInBounds_toArray, List.set_cons_zero, List.set_cons_succ]
              refine wpAnyH_take (i := 6) (v := ?_) (ops_atL rfl) (by kernel_rfl) (by kernel_rfl) (by kernel_rfl) (fun _ _ _ h => h) (Or.inl ⟨by rfl, ?_⟩) hHeld ?_
              rotate_left
              · (intro W hSW; go_simp; try with_reducible rfl)
              try simp only [Act.put, List.setIfInBounds_toArray, List.set_cons_zero, List.set_cons_succ]
              refine wpAnyH_take (i := 7) (v := ?_) (ops_atL rfl) (by kernel_rfl) (by kernel_rfl) (by kernel_rfl) (fun _ _ _ h => h) (Or.inl ⟨by rfl, ?_⟩) hHeld ?_
              rotate_left
              · (intro W hSW; have c0 := (hSW.1.cell (p := ⟨b, off + i, none⟩) hbb).trans CI.out; go_simp; try with_reducible rfl)
              try simp only [Act.put, List.setIfInBounds_toArray, List.set_cons_zero, List.set_cons_succ]
              refine wpAnyH_take (i := 8) (v := ?_) (ops_atL rfl) (by kernel_rfl) (by kernel_rfl) (by kernel_rfl) (fun _ _ _ h => h) (Or.inl ⟨by rfl, ?_⟩) hHeld ?_
              rotate_left
              · (intro W hSW; go_simp; try with_reducible rfl)
              try simp only [Act.put, List.setIfInBounds_toArray, List.set_cons_zero, List.set_cons_succ]
              refine wpAnyH_take (i := 9) (v := ?_) (ops_atL rfl) (by kernel_rfl) (by kernel_rfl) (by kernel_rfl) (fun _ _ _ h => h) (Or.inl ⟨by rfl, ?_⟩) hHeld ?_
              rotate_left
              · (intro W hSW; go_simp; try with_reducible rfl)
              try simp only [Act.put, List.setIfInBounds_toArray, List.set_cons_zero, List.set_cons_succ]
              refine wpAnyH_take (i := 10) (v := ?_) (ops_atL rfl) (by kernel_rfl) (by kernel_rfl) (by kernel_rfl) (fun _ _ _ h => h) (Or.inl ⟨by rfl, ?_⟩) hHeld ?_
              rotate_left
              · (intro W hSW; go_simp; try with_reducible rfl)
              try simp only [Act.put, List.setIfInBounds_toArray, List.set_cons_zero, List.set_cons_succ]
              refine wpAnyH_take (i := 11) (v := ?_) (ops_atL rfl) (by kernel_rfl) (by kernel_rfl) (by kernel_rfl) (fun _ _ _ h => h) (Or.inl ⟨by rfl, ?_⟩) hHeld ?_
              rotate_left
              · (intro W hSW; have c0 := (hSW.1.cell (p := ⟨b, off + k, none⟩) hbb).trans CK.out; go_simp; try with_reducible rfl)
              try simp only [Act.put, List.setIfInBounds_toArray, List.set_cons_zero, List.set_cons_succ]
              refine wpAnyH_ready (rs := [12]) (by kernel_rfl) (by simp) ?_
              refine AllReadyH.cons (ops_atL rfl) (fun K hK => ?_) AllReadyH.nil
              go_simp
              (go_at_call 28; refine (HW.out _ hHeld).mono ?_; rintro e W' ⟨rfl, hb'⟩)
              refine hK.out _ _ hb' (fun hHeld => ?_)
              clear hK K
              try simp only [Act.put, List.setIfInBounds_toArray, List.set_cons_zero, List.set_cons_succ]
              refine wpAnyH_take (i := 13) (v := ?_) (ops_atL rfl) (by kernel_rfl) (by kernel_rfl) (by kernel_rfl) (fun _ _ _ h => h) (Or.inl ⟨by rfl, ?_⟩) hHeld ?_
              rotate_left
              · (intro W hSW; go_simp; try with_reducible rfl)
              try simp only [Act.put, List.setIfInBounds_toArray, List.set_cons_zero, List.set_cons_succ]
              refine wpAnyH_done (by kernel_rfl) ?_ _
              go_wp2
              go_roundw
              case rel => exact ⟨k + 1, by omega, by go_num, by rw [HQ.out]; simp, hHeld⟩
              case measure => simp [intOf] <;> omega
            | false =>
              rw [hq] at HW HQ
              clear hq
              go_wp2
              refine wp_region_held_drew (S := TS W1 (.slice A2 M cap2) o) (by kernel_rfl) (HS0.out.drew) (fun hHeld => ?_)
              refine wpAnyH_take (i := 0) (v := ?_) (ops_atL rfl) (by kernel_rfl) (by kernel_rfl) (by kernel_rfl) (fun _ _ _ h => h) (Or.inl ⟨by rfl, ?_⟩) hHeld ?_
              rotate_left
              · (intro W hSW; go_simp; try with_reducible rfl)
              try simp only [Act.put, List.setIfInBounds_toArray, List.set_cons_zero, List.set_cons_succ]
              refine wpAnyH_take (i := 1) (v := ?_) (ops_atL rfl) (by kernel_rfl) (by kernel_rfl) (by kernel_rfl) (fun _ _ _ h => h) (Or.inl ⟨by rfl, ?_⟩) hHeld ?_
              rotate_left
              · (intro W hSW; go_simp; try with_reducible rfl)
              try simp only [Act.put, List.setIfInBounds_toArray, List.set_cons_zero, List.set_cons_succ]
              refine wpAnyH_take (i := 2) (v := ?_) (ops_atL rfl) (by kernel_rfl) (by kernel_rfl) (by kernel_rfl) (fun _ _ _ h => h) (Or.inl ⟨by rfl, ?_⟩) hHeld ?_
              rotate_left
              · (intro W hSW; go_simp; try with_reducible rfl)
              try simp only [Act.put, List.setIfInBounds_toArray, List.set_cons_zero, List.set_cons_succ]
              refine wpAnyH_take (i := 3) (v := ?_) (ops_atL rfl) (by kernel_rfl) (by kernel_rfl) (by kernel_rfl) (fun _ _ _ h => h) (Or.inl ⟨by rfl, ?_⟩) hHeld ?_
              rotate_left
              · (intro W hSW; go_simp; try with_reducible rfl)
              try simp only [Act.put, List.setIfInBounds_toArray, List.set_cons_zero, List.set_cons_succ]
              refine wpAnyH_take (i := 4) (v := ?_) (ops_atL rfl) (by kernel_rfl) (by kernel_rfl) (by kernel_rfl) (fun _ _ _ h => h) (Or.inl ⟨by rfl, ?_⟩) hHeld ?_
              rotate_left
              · (intro W hSW; go_simp; try with_reducible rfl)
              try simp only [Act.put, List.setIfInBounds_toArray, List.set_cons_zero, List.set_cons_succ]
              refine wpAnyH_take (i := 5) (v := ?_) (ops_atL rfl) (by kernel_rfl) (by kernel_rfl) (by kernel_rfl) (fun _ _ _ h => h) (Or.inl ⟨by rfl, ?_⟩) hHeld ?_
              rotate_left
              · (intro W hSW; go_simp; try with_reducible rfl)
              try simp only [Act.put, List.setIfInBounds_toArray, List.set_cons_zero, List.set_cons_succ]
              refine wpAnyH_take (i := 6) (v := ?_) (ops_atL rfl) (by kernel_rfl) (by kernel_rfl) (by kernel_rfl) (fun _ _ _ h => h) (Or.inl ⟨by rfl, ?_⟩) hHeld ?_
              rotate_left
              · (intro W hSW; go_simp; try with_reducible rfl)
              try simp only [Act.put, List.setIfInBounds_toArray, List.set_cons_zero, List.set_cons_succ]
              refine wpAnyH_take (i := 7) (v := ?_) (ops_atL rfl) (by kernel_rfl) (by kernel_rfl) (by kernel_rfl) (fun _ _ _ h => h) (Or.inl ⟨by rfl, ?_⟩) hHeld ?_
              rotate_left
              · (intro W hSW; have c0 := (hSW.1.cell (p := ⟨b, off + i, none⟩) hbb).trans CI.out; go_simp; try with_reducible rfl)
              try simp only [Act.put, List.setIfInBounds_toArray, List.set_cons_zero, List.set_cons_succ]
              refine wpAnyH_take (i := 8) (v := ?_) (ops_atL rfl) (by kernel_rfl) (by kernel_rfl) (by kernel_rfl) (fun _ _ _ h => h) (Or.inl ⟨by rfl, ?_⟩) hHeld ?_
              rotate_left
              · (intro W hSW; go_simp; try with_reducible rfl)
              try simp only [Act.put, List.setIfInBounds_toArray, List.set_cons_zero, List.set_cons_succ]
              refine wpAnyH_take (i := 9) (v := ?_) (ops_atL rfl) (by kernel_rfl) (by kernel_rfl) (by kernel_rfl) (fun _ _ _ h => h) (Or.inl ⟨by rfl, ?_⟩) hHeld ?_
              rotate_left
              · (intro W hSW; go_simp; try with_reducible rfl)
              try simp only [Act.put, List.setIfInBounds_toArray, List.set_cons_zero, List.set_cons_succ]
              refine wpAnyH_take (i := 10) (v := ?_) (ops_atL rfl) (by kernel_rfl) (by kernel_rfl) (by kernel_rfl) (fun _ _ _ h => h) (Or.inl ⟨by rfl, ?_⟩) hHeld ?_
              rotate_left
              · (intro W hSW; go_simp; try with_reducible rfl)
              try simp only [Act.put, List.setIfInBounds_toArray, List.set_cons_zero, List.set_cons_succ]
              refine wpAnyH_take (i := 11) (v := ?_) (ops_atL rfl) (by kernel_rfl) (by kernel_rfl) (by kernel_rfl) (fun _ _ _ h => h) (Or.inl ⟨by rfl, ?_⟩) hHeld ?_
              rotate_left
              · (intro W hSW; have c0 := (hSW.1.cell (p := ⟨b, off + k, none⟩) hbb).trans CK.out; go_simp; try with_reducible rfl)
              try simp only [Act.put, List.setIfInBounds_toArray, List.set_cons_zero, List.set_cons_succ]
              refine wpAnyH_ready (rs := [12]) (by kernel_rfl) (by simp) ?_
              refine AllReadyH.cons (ops_atL rfl) (fun K hK => ?_) AllReadyH.nil
              go_simp
              (go_at_call 28; refine (HW.out _ hHeld).mono ?_; rintro e W' ⟨rfl, hb'⟩)
              refine hK.out _ _ hb' (fun hHeld => ?_)
              clear hK K
              try simp only [Act.put, List.setIfInBounds_toArray, List.set_cons_zero, List.set_cons_succ]
              refine wpAnyH_take (i := 13) (v := ?_) (ops_atL rfl) (by kernel_rfl) (by kernel_rfl) (by kernel_rfl) (fun _ _ _ h => h) (Or.inl ⟨by rfl, ?_⟩) hHeld ?_
              rotate_left
              · (intro W hSW; go_simp; try with_reducible rfl)
              try simp only [Act.put, List.setIfInBounds_toArray, List.set_cons_zero, List.set_cons_succ]
              refine wpAnyH_done (by kernel_rfl) ?_ _
              go_wp2
              go_roundw
              case rel => exact ⟨k + 1, by omega, by go_num, by rw [HQ.out]; simp, hHeld⟩
              case measure => simp [intOf] <;> omega
        · have h2 : ¬ (k : Int) < (N : Int) := by omega
          have hkN : k = s.length := by rw [← HN.out]; omega
          have c1 := (HS0.out.1.cell (p := ⟨b, off + i, none⟩) hbb).trans CI.out
          have HST := Lib.hid (topO_step HX.out)
          rw [← hkN, ← HOE.out] at HST
          have hbs := HS0.out.1.size
          cases hq : topQ s x k with
          | true =>
            rw [hq] at HST
            clear hkN hq
            go_wp2_with (refine wpList_pushT tsl (by rfl) (.tmp 37) (.tmp 42) (by rfl) W1.heap.size _ o (by rfl) x HS0.out.2 _ (by rfl) rfl (by rw [← HM.out]; omega) hbs ?_; intro v3 w3 ho3 hb3; have HO3 := Lib.hid ho3; have HB3 := Lib.hid (HS0.out.1.trans hb3); clear ho3 hb3)
            go_roundw
            case rel => exact ⟨i + 1, by omega, by go_num, by rw [HST.out, if_pos rfl]; exact ⟨HB3.out, HO3.out⟩⟩
            case measure => simp [intOf] <;> omega
          | false =>
            rw [hq] at HST
            clear hkN hq
            go_wp2
            go_roundw
            case rel => exact ⟨i + 1, by omega, by go_num, by rw [HST.out, if_neg (by simp), List.append_nil]; exact HS0.out⟩
            case measure => simp [intOf] <;> omega
    · have h1 : ¬ (i : Int) < (N : Int) := by omega
      have hf : o = topsS s := by rw [HOE.out]; exact topO_all s i (by rw [← HN.out]; omega)
      have HF := Lib.hid hf
      clear hf hT
      go_wp2
      go_ret
      exact ⟨_, rfl, by rw [← HF.out]; exact World.ownsRow.mono HT.out.2 HB1.out.size, HB1.out.trans (HT.out.1.mono HB1.out.size)⟩
end Go.Proofs.YtdfenaoddbdppaaDoor
