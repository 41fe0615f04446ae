/- lineage: the walk of Compare. -/
import Derived.Test.YtdfenaoddbdppaaDoorLCmp
set_option linter.unusedVariables false
namespace Go.Proofs.YtdfenaoddbdppaaDoor
open Go.RowKit

/-- The order of names and other strings. -/
def compareB (s t : List UInt8) : Int := if validB s then (if validB t then cmpI (parseL s).1 (parseL t).1 else -1) else if validB t then 1 else strC s t
theorem list_ri {w : World} {g : Nat} {o : List Nat} (h : Arr w g 0 (listV o)) : RI w w.heap.size (some ⟨g, 0, none⟩) o := fun _ =>
  ⟨g, 0, rfl, h.lt (listV_pos o), fun j s hj => h.1 j _ (listV_at hj)⟩

set_option maxHeartbeats 4000000 in
set_option maxRecDepth 100000 in
theorem compare_any (S T : ByteArray) (w : World) (hS : S.size ≤ 1000000) (hT : T.size ≤ 1000000) :
    Calls Tryd.prog 31 #[.string S, .string T] w fun e w' => e = .returned (.int .i64 (compareB S.data.toList T.data.toList)) ∧ Below w.heap.size w w' := by
  obtain ⟨x, hx⟩ : ∃ x, x = (parseL S.data.toList).1 := ⟨_, rfl⟩
  obtain ⟨y, hy⟩ : ∃ y, y = (parseL T.data.toList).1 := ⟨_, rfl⟩
  obtain ⟨a0, a1, a2, a3, a4, a5, a6, a7, h9, hl, hf⟩ := list_first S hS x hx
  obtain ⟨b0, b1, b2, b3, b4, b5, b6, b7, k9, kl, kf⟩ := list_first T hT y hy
  have x8 : x.length ≤ 8 := by rw [hx]; exact parseL_len8 _
  have y8 : y.length ≤ 8 := by rw [hy]; exact parseL_len8 _
  have HX := Lib.hid hl
  have HY := Lib.hid kl
  have HX8 := Lib.hid x8
  have HY8 := Lib.hid y8
  have bx : (x.length : Int) ≤ 8 := by omega
  have bY : (y.length : Int) ≤ 8 := by omega
  have H9 : Hid (#[iv a0, iv a1, iv a2, iv a3, iv a4, iv a5, iv a6, iv a7, iv x.length] = (listV x).toArray) := Lib.hid (by rw [h9])
  have K9 : Hid (#[iv b0, iv b1, iv b2, iv b3, iv b4, iv b5, iv b6, iv b7, iv y.length] = (listV y).toArray) := Lib.hid (by rw [k9])
  obtain ⟨p, hp⟩ : ∃ p, p = validB S.data.toList := ⟨_, rfl⟩
  obtain ⟨q, hq⟩ : ∃ q, q = validB T.data.toList := ⟨_, rfl⟩
  unfold compareB
  rw [← hp, ← hq, ← hx, ← hy]
  rw [← hp] at HX
  rw [← hq] at HY
  have HSC0 : ∀ G1 G2, Hid (∀ W, SC w G1 G2 x y W → Calls Tryd.prog 54 #[.slice (some ⟨G1, 0, none⟩) x.length 8, .slice (some ⟨G2, 0, none⟩) y.length 8] W fun e w' => e = .returned (.int .i64 (cmpI x y)) ∧ SC w G1 G2 x y w') := fun G1 G2 => Lib.hid fun W hW => (sliceCmp_any x y _ _ 8 8 W.heap.size W (list_ri hW.1) (list_ri hW.2.1) (by omega) (by omega)).mono fun e w' he => ⟨he.1, by rw [he.2]; exact hW⟩
  have HNC : Hid (∀ W, Calls Tryd.prog 55 #[.string S, .string T] W fun e w' => e = .returned (.int .i64 (strC S.data.toList T.data.toList)) ∧ w' = W) := Lib.hid (nameCmp_any S T)
  clear hl kl hf kf h9 k9 hx hy x8 y8 hp hq
  cases p with
  | true => cases q with
    | true =>
      rw [if_pos rfl, if_pos rfl]
      go_enter Tryd.func31, Tryd.ntmps31
      go_wp2_with (first
        | (go_at_call 49; (with_reducible refine (HX.out _).mono ?_); rintro r W1 ⟨rfl, hb1⟩; have HB1 := Lib.hid hb1; clear hb1)
        | (go_at_call 49; (with_reducible refine (HY.out _).mono ?_); rintro r W2 ⟨rfl, hb2⟩; have HB2 := Lib.hid hb2; clear hb2))
      refine cwp_gen (SC w W1.heap.size W2.heap.size x y) (sc_new H9.out K9.out _ _ HB1.out HB2.out) ?_
      have HSC := HSC0 W1.heap.size W2.heap.size
      clear HSC0
      generalize W1.heap.size = G1 at HSC ⊢
      generalize W2.heap.size = G2 at HSC ⊢
      intro V HS0
      refine wp_region_held_drew (S := SC w G1 G2 x y) (by kernel_rfl) (HS0.drew) (fun hHeld => ?_)
      refine wpAnyH_take (i := 0) (v := ?_) (ops_atL rfl) (by kernel_rfl) (by kernel_rfl) (by kernel_rfl) (fun _ _ _ h => h) (Or.inl ⟨by rfl, ?_⟩) hHeld ?_
      rotate_left
      · (intro W hSW; go_simp; try with_reducible rfl)
      try simp only [Act.put, List.setIfInBounds_toArray, List.set_cons_zero, List.set_cons_succ]
      refine wpAnyH_take (i := 1) (v := ?_) (ops_atL rfl) (by kernel_rfl) (by kernel_rfl) (by kernel_rfl) (fun _ _ _ h => h) (Or.inl ⟨by rfl, ?_⟩) hHeld ?_
      rotate_left
      · (intro W hSW; go_simp; try with_reducible rfl)
      try simp only [Act.put, List.setIfInBounds_toArray, List.set_cons_zero, List.set_cons_succ]
      refine wpAnyH_take (i := 2) (v := ?_) (ops_atL rfl) (by kernel_rfl) (by kernel_rfl) (by kernel_rfl) (fun _ _ _ h => h) (Or.inl ⟨by rfl, ?_⟩) hHeld ?_
      rotate_left
      · (intro W hSW; have c8 := hSW.1.cell0 (listV_depth HX8.out); go_simp; try with_reducible rfl)
      try simp only [Act.put, List.setIfInBounds_toArray, List.set_cons_zero, List.set_cons_succ]
      refine wpAnyH_take (i := 3) (v := ?_) (ops_atL rfl) (by kernel_rfl) (by kernel_rfl) (by kernel_rfl) (fun _ _ _ h => h) (Or.inl ⟨by rfl, ?_⟩) hHeld ?_
      rotate_left
      · (intro W hSW; go_simp; try with_reducible rfl)
      try simp only [Act.put, List.setIfInBounds_toArray, List.set_cons_zero, List.set_cons_succ]
      refine wpAnyH_take (i := 4) (v := ?_) (ops_atL rfl) (by kernel_rfl) (by kernel_rfl) (by kernel_rfl) (fun _ _ _ h => h) (Or.inl ⟨by rfl, ?_⟩) hHeld ?_
      rotate_left
      · (intro W hSW; go_simp; try with_reducible rfl)
      try simp only [Act.put, List.setIfInBounds_toArray, List.set_cons_zero, List.set_cons_succ]
      refine wpAnyH_take (i := 5) (v := ?_) (ops_atL rfl) (by kernel_rfl) (by kernel_rfl) (by kernel_rfl) (fun _ _ _ h => h) (Or.inl ⟨by rfl, ?_⟩) hHeld ?_
      rotate_left
      · (intro W hSW; go_simp; try with_reducible rfl)
      try simp only [Act.put, List.setIfInBounds_toArray, List.set_cons_zero, List.set_cons_succ]
      refine wpAnyH_take (i := 6) (v := ?_) (ops_atL rfl) (by kernel_rfl) (by kernel_rfl) (by kernel_rfl) (fun _ _ _ h => h) (Or.inl ⟨by rfl, ?_⟩) hHeld ?_
      rotate_left
      · (intro W hSW; have c8 := hSW.2.1.cell0 (listV_depth HY8.out); go_simp; try with_reducible rfl)
      try simp only [Act.put, List.setIfInBounds_toArray, List.set_cons_zero, List.set_cons_succ]
      refine wpAnyH_take (i := 7) (v := ?_) (ops_atL rfl) (by kernel_rfl) (by kernel_rfl) (by kernel_rfl) (fun _ _ _ h => h) (Or.inl ⟨by rfl, ?_⟩) hHeld ?_
      rotate_left
      · (intro W hSW; go_simp; try with_reducible rfl)
      try simp only [Act.put, List.setIfInBounds_toArray, List.set_cons_zero, List.set_cons_succ]
      refine wpAnyH_ready (rs := [8]) (by kernel_rfl) (by simp) ?_
      refine AllReadyH.cons (ops_atL rfl) (fun K hK => ?_) AllReadyH.nil
      go_simp
      (go_at_call 54; refine (HSC.out _ hHeld).mono ?_; rintro e W' ⟨rfl, hb'⟩)
      refine hK.out _ _ hb' (fun hHeld => ?_)
      clear hK K
      try simp only [Act.put, List.setIfInBounds_toArray, List.set_cons_zero, List.set_cons_succ]
      refine wpAnyH_take (i := 9) (v := ?_) (ops_atL rfl) (by kernel_rfl) (by kernel_rfl) (by kernel_rfl) (fun _ _ _ h => h) (Or.inl ⟨by rfl, ?_⟩) hHeld ?_
      rotate_left
      · (intro W hSW; go_simp; try with_reducible rfl)
      try simp only [Act.put, List.setIfInBounds_toArray, List.set_cons_zero, List.set_cons_succ]
      refine wpAnyH_done (by kernel_rfl) ?_ _
      go_wp2
      go_ret
      exact ⟨rfl, hHeld.2.2⟩
    | false =>
      rw [if_pos rfl, if_neg (by decide)]
      clear HSC0
      go_enter Tryd.func31, Tryd.ntmps31
      go_wp2_with (first
        | (go_at_call 49; (with_reducible refine (HX.out _).mono ?_); rintro r W1 ⟨rfl, hb1⟩; have HB1 := Lib.hid hb1; clear hb1)
        | (go_at_call 49; (with_reducible refine (HY.out _).mono ?_); rintro r W2 ⟨rfl, hb2⟩; have HB2 := Lib.hid hb2; clear hb2))
      go_ret
      exact ⟨rfl, (sc_new H9.out K9.out _ _ HB1.out HB2.out).2.2⟩
  | false => cases q with
    | true =>
      rw [if_neg (by decide), if_pos rfl]
      clear HSC0
      go_enter Tryd.func31, Tryd.ntmps31
      go_wp2_with (first
        | (go_at_call 49; (with_reducible refine (HX.out _).mono ?_); rintro r W1 ⟨rfl, hb1⟩; have HB1 := Lib.hid hb1; clear hb1)
        | (go_at_call 49; (with_reducible refine (HY.out _).mono ?_); rintro r W2 ⟨rfl, hb2⟩; have HB2 := Lib.hid hb2; clear hb2))
      go_ret
      exact ⟨rfl, (sc_new H9.out K9.out _ _ HB1.out HB2.out).2.2⟩
    | false =>
      rw [if_neg (by decide), if_neg (by decide)]
      clear HSC0
      go_enter Tryd.func31, Tryd.ntmps31
      go_wp2_with (first
        | (go_at_call 49; (with_reducible refine (HX.out _).mono ?_); rintro r W1 ⟨rfl, hb1⟩; have HB1 := Lib.hid hb1; clear hb1)
        | (go_at_call 49; (with_reducible refine (HY.out _).mono ?_); rintro r W2 ⟨rfl, hb2⟩; have HB2 := Lib.hid hb2; clear hb2)
        | (go_at_call 55; refine (HNC.out _).mono ?_; rintro r W3 ⟨rfl, rfl⟩))
      go_ret
      exact ⟨rfl, (sc_new H9.out K9.out _ _ HB1.out HB2.out).2.2⟩
end Go.Proofs.YtdfenaoddbdppaaDoor
