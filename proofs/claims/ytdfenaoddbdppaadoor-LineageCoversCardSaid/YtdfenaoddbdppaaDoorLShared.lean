/- lineage: a list of ordinals as a value; the walk of shared. -/
import Derived.Test.YtdfenaoddbdppaaDoorLRParse
set_option linter.unusedVariables false
namespace Go.Proofs.YtdfenaoddbdppaaDoor
open Go.RowKit

/-- The cells of a list: eight ordinals and the depth. -/
def listV (o : List Nat) : List Value := o.map iv ++ List.replicate (8 - o.length) (.int .i64 0) ++ [iv o.length]
theorem listV_length {o : List Nat} (h : o.length ≤ 8) : (listV o).length = 9 := by unfold listV; simp; omega
theorem listV_depth {o : List Nat} (h : o.length ≤ 8) : (listV o)[8]? = some (iv o.length) := by
  unfold listV
  have e : (o.map iv ++ List.replicate (8 - o.length) (Value.int .i64 0)).length = 8 := by simp; omega
  rw [List.getElem?_append_right (by omega), e]; rfl
theorem listV_at {o : List Nat} {k x : Nat} (h : o[k]? = some x) : (listV o)[k]? = some (iv x) := by
  unfold listV
  have hk := (List.getElem?_eq_some_iff.1 h).1
  rw [List.getElem?_append_left (by simp; omega), List.getElem?_append_left (by simpa using hk), List.getElem?_map, h]; rfl
def sharedN : List Nat → List Nat → Nat
  | a :: x, b :: y => if a = b then sharedN x y + 1 else 0
  | _, _ => 0
theorem shared_stop : ∀ (k : Nat) (x y : List Nat), k ≤ x.length → k ≤ y.length → x.take k = y.take k → (∀ a b, x[k]? = some a → y[k]? = some b → a ≠ b) → sharedN x y = k
  | 0, [], _, _, _, _, _ => by simp [sharedN]
  | 0, _ :: _, [], _, _, _, _ => by simp [sharedN]
  | 0, a :: x, b :: y, _, _, _, h => by
    have := h a b rfl rfl
    simp [sharedN, this]
  | k + 1, [], _, h, _, _, _ => by simp at h
  | k + 1, _ :: _, [], _, h, _, _ => by simp at h
  | k + 1, a :: x, b :: y, hx, hy, ht, h => by
    simp only [List.take_succ_cons, List.cons.injEq] at ht
    rw [sharedN, if_pos ht.1, shared_stop k x y (by simpa using hx) (by simpa using hy) ht.2 (fun p q hp hq => h p q (by simpa using hp) (by simpa using hq))]
theorem two_lists (w : World) (x y : List Nat) (s t : TypeId) : Arr ((w.alloc (.cells (listV x).toArray s)).alloc (.cells (listV y).toArray t)) w.heap.size 0 (listV x) ∧ Arr ((w.alloc (.cells (listV x).toArray s)).alloc (.cells (listV y).toArray t)) (w.heap.size + 1) 0 (listV y) ∧ Below w.heap.size w ((w.alloc (.cells (listV x).toArray s)).alloc (.cells (listV y).toArray t)) := by
  have e1 : (w.alloc (Obj.cells (listV x).toArray s)).heap.size = w.heap.size + 1 := by simp
  refine ⟨(Arr.new w _ _).alloc _, ?_, ((Below.refl _ w).alloc (Nat.le_refl _) _).alloc (by simp) _⟩
  rw [← e1]; exact Arr.new _ (listV y) t

set_option maxHeartbeats 1000000 in
set_option maxRecDepth 100000 in
theorem shared_any (x y : List Nat) (w : World) (hx : x.length ≤ 8) (hy : y.length ≤ 8) :
    Calls Tryd.prog 53 #[.agg (listV x).toArray, .agg (listV y).toArray] w fun e w' => e = .returned (.int .i64 (sharedN x y : Int)) ∧ Below w.heap.size w w' := by
  have HX := Lib.hid hx
  have HY := Lib.hid hy
  go_enter Tryd.func53, Tryd.ntmps53
  go_wp2_with (show wpList _ _ _ (⟨some 7, _, _, _, _, _⟩ :: _) _ _; refine wpl_gen (fun V => Arr V w.heap.size 0 (listV x) ∧ Arr V (w.heap.size + 1) 0 (listV y) ∧ Below w.heap.size w V) (two_lists ..) ?_; rintro V ⟨a1, a2, aB⟩; have c1 := a1.cell0 (listV_depth HX.out); have c2 := a2.cell0 (listV_depth HY.out); have A1 := Lib.hid a1; have A2 := Lib.hid a2; have AB := Lib.hid aB; clear a1 a2 aB)
  case inl h =>
    go_loopw [13] (fun i wr => ∃ k n : Nat, k ≤ y.length ∧ i = .int .i64 k ∧ x.take k = y.take k ∧ wr = V.drewN n) (fun i _ => y.length - (intOf i).toNat)
    case atStart => exact ⟨0, 0, by omega, rfl, rfl, rfl⟩
    case round =>
      obtain ⟨k, n, hk, rfl, ht, rfl⟩ := hrel
      have HT := Lib.hid ht
      clear ht
      by_cases hlt : k < y.length
      · have h1 : (k : Int) < (y.length : Int) := by omega
        have h8 : (k : Int) < 8 := by omega
        have hkx : k < x.length := by omega
        have hky : k < y.length := by omega
        obtain ⟨p, hp⟩ : ∃ p, x[k]? = some p := ⟨x[k]'hkx, List.getElem?_eq_getElem hkx⟩
        obtain ⟨q, hq⟩ : ∃ q, y[k]? = some q := ⟨y[k]'hky, List.getElem?_eq_getElem hky⟩
        have d1 := A1.out.cell0 (listV_at hp)
        have d2 := A2.out.cell0 (listV_at hq)
        have HP := Lib.hid hp
        have HQ := Lib.hid hq
        clear hp hq
        by_cases hpq : p = q
        · have qq : ((p : Int) == (q : Int)) = true := by simp; omega
          go_wp2_with fail
          go_quiet (fail)
          go_wp2
          go_roundw
          case rel => exact ⟨k + 1, _, by omega, by go_num, by rw [List.take_add_one, List.take_add_one, HP.out, HQ.out, HT.out, hpq], rfl⟩
          case measure => simp [intOf] <;> omega
        · have qq : ((p : Int) == (q : Int)) = false := by rw [beq_eq_false_iff_ne]; omega
          have hres := Lib.hid (shared_stop k x y (by omega) (by omega) HT.out (fun a b ha hb e => hpq (by rw [HP.out] at ha; rw [HQ.out] at hb; injection ha with ha; injection hb with hb; omega)))
          go_wp2_with fail
          go_quiet (fail)
          go_wp2
          go_ret
          exact ⟨by rw [hres.out]; rfl, below_drewN (below_drewN AB.out _) _⟩
      · have h1 : ¬ (k : Int) < (y.length : Int) := by omega
        have hkM : k = y.length := by omega
        have hres := Lib.hid (shared_stop k x y (by omega) (by omega) HT.out (fun a b ha hb => by
          have := (List.getElem?_eq_some_iff.1 ha).1
          have := (List.getElem?_eq_some_iff.1 hb).1
          omega))
        have hM := Lib.hid hkM
        clear hkM
        go_wp2
        go_ret
        exact ⟨by rw [hres.out, hM.out]; rfl, below_drewN AB.out _⟩
  case inr h =>
    go_loopw [13] (fun i wr => ∃ k n : Nat, k ≤ x.length ∧ i = .int .i64 k ∧ x.take k = y.take k ∧ wr = V.drewN n) (fun i _ => x.length - (intOf i).toNat)
    case atStart => exact ⟨0, 0, by omega, rfl, rfl, rfl⟩
    case round =>
      obtain ⟨k, n, hk, rfl, ht, rfl⟩ := hrel
      have HT := Lib.hid ht
      clear ht
      by_cases hlt : k < x.length
      · have h1 : (k : Int) < (x.length : Int) := by omega
        have h8 : (k : Int) < 8 := by omega
        have hkx : k < x.length := by omega
        have hky : k < y.length := by omega
        obtain ⟨p, hp⟩ : ∃ p, x[k]? = some p := ⟨x[k]'hkx, List.getElem?_eq_getElem hkx⟩
        obtain ⟨q, hq⟩ : ∃ q, y[k]? = some q := ⟨y[k]'hky, List.getElem?_eq_getElem hky⟩
        have d1 := A1.out.cell0 (listV_at hp)
        have d2 := A2.out.cell0 (listV_at hq)
        have HP := Lib.hid hp
        have HQ := Lib.hid hq
        clear hp hq
        by_cases hpq : p = q
        · have qq : ((p : Int) == (q : Int)) = true := by simp; omega
          go_wp2_with fail
          go_quiet (fail)
          go_wp2
          go_roundw
          case rel => exact ⟨k + 1, _, by omega, by go_num, by rw [List.take_add_one, List.take_add_one, HP.out, HQ.out, HT.out, hpq], rfl⟩
          case measure => simp [intOf] <;> omega
        · have qq : ((p : Int) == (q : Int)) = false := by rw [beq_eq_false_iff_ne]; omega
          have hres := Lib.hid (shared_stop k x y (by omega) (by omega) HT.out (fun a b ha hb e => hpq (by rw [HP.out] at ha; rw [HQ.out] at hb; injection ha with ha; injection hb with hb; omega)))
          go_wp2_with fail
          go_quiet (fail)
          go_wp2
          go_ret
          exact ⟨by rw [hres.out]; rfl, below_drewN (below_drewN AB.out _) _⟩
      · have h1 : ¬ (k : Int) < (x.length : Int) := by omega
        have hkM : k = x.length := by omega
        have hres := Lib.hid (shared_stop k x y (by omega) (by omega) HT.out (fun a b ha hb => by
          have := (List.getElem?_eq_some_iff.1 ha).1
          have := (List.getElem?_eq_some_iff.1 hb).1
          omega))
        have hM := Lib.hid hkM
        clear hkM
        go_wp2
        go_ret
        exact ⟨by rw [hres.out, hM.out]; rfl, below_drewN AB.out _⟩
end Go.Proofs.YtdfenaoddbdppaaDoor
