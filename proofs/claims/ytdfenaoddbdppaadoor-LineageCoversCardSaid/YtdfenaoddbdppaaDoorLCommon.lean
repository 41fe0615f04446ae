/- lineage: the walks of Common and Within. -/
import Derived.Test.YtdfenaoddbdppaaDoorLNames
set_option linter.unusedVariables false
namespace Go.Proofs.YtdfenaoddbdppaaDoor
open Go.RowKit

theorem shared_le : ∀ (x y : List Nat), sharedN x y ≤ x.length
  | [], _ => by simp [sharedN]
  | _ :: _, [] => by simp [sharedN]
  | a :: x, b :: y => by
    rw [sharedN]
    split
    · have := shared_le x y; simp; omega
    · simp
/-- Two lists in blocks of the caller's. -/
def SC (w : World) (G1 G2 : Nat) (x y : List Nat) (V : World) : Prop := Arr V G1 0 (listV x) ∧ Arr V G2 0 (listV y) ∧ Below w.heap.size w V
theorem SC.drew {w : World} {G1 G2 : Nat} {x y : List Nat} {V : World} (h : SC w G1 G2 x y V) : SC w G1 G2 x y V.drew := ⟨h.1, h.2.1, h.2.2.drew⟩
theorem listV_pos (x : List Nat) : 0 < (listV x).length := by unfold listV; simp; omega
theorem SC.below {w : World} {G1 G2 : Nat} {x y : List Nat} {V V' : World} (h : SC w G1 G2 x y V) (hb : Below V.heap.size V V') : SC w G1 G2 x y V' :=
  ⟨h.1.below hb (h.1.lt (listV_pos x)), h.2.1.below hb (h.2.1.lt (listV_pos y)), h.2.2.trans (hb.mono h.2.2.size)⟩
theorem sc_new {w W1 W2 : World} {x y : List Nat} {l1 l2 : Array Value} (h1 : l1 = (listV x).toArray) (h2 : l2 = (listV y).toArray) (t1 t2 : TypeId) (hb1 : Below w.heap.size w W1) (hb2 : Below (W1.alloc (.cells l1 t1)).heap.size (W1.alloc (.cells l1 t1)) W2) :
    SC w W1.heap.size W2.heap.size x y (W2.alloc (.cells l2 t2)) := by
  subst h1 h2
  refine ⟨((Arr.new W1 _ t1).below hb2 (by simp)).alloc _, Arr.new W2 _ t2, ?_⟩
  have h3 := (hb1.alloc hb1.size (.cells (listV x).toArray t1))
  exact (h3.trans (hb2.mono h3.size)).alloc (h3.trans (hb2.mono h3.size)).size _

set_option maxHeartbeats 2000000 in
set_option maxRecDepth 100000 in
theorem common_any (S T : ByteArray) (w : World) (hS : S.size ≤ 1000000) (hT : T.size ≤ 1000000) (hP : Pow w) (x y : List Nat) (hx : x = (parseL S.data.toList).1) (hy : y = (parseL T.data.toList).1) :
    Calls Tryd.prog 29 #[.string S, .string T] w fun e w' => e = .returned (.string ⟨(tx (x.take (sharedN x y))).toArray⟩) ∧ Below w.heap.size w w' := by
  obtain ⟨a0, a1, a2, a3, a4, a5, a6, a7, h9, hl, hf⟩ := list_first S hS x hx
  obtain ⟨b0, b1, b2, b3, b4, b5, b6, b7, k9, kl, kf⟩ := list_first T hT y hy
  have x8 : x.length ≤ 8 := by rw [hx]; exact parseL_len8 _
  have y8 : y.length ≤ 8 := by rw [hy]; exact parseL_len8 _
  have HX := Lib.hid hl
  have HY := Lib.hid kl
  have HPW := Lib.hid (fun W (hb : Below w.heap.size w W) => hP.below hb hP.lt)
  have H9 : Hid (#[iv a0, iv a1, iv a2, iv a3, iv a4, iv a5, iv a6, iv a7, iv x.length] = (listV x).toArray) := Lib.hid (by rw [h9])
  have K9 : Hid (#[iv b0, iv b1, iv b2, iv b3, iv b4, iv b5, iv b6, iv b7, iv y.length] = (listV y).toArray) := Lib.hid (by rw [k9])
  have HI1 : Hid ((Tryd.prog.info? 85).map (·.size) = some (listV x).length) := Lib.hid (by rw [listV_length x8]; kernel_rfl)
  have HI2 : Hid ((Tryd.prog.info? 85).map (·.size) = some (listV y).length) := Lib.hid (by rw [listV_length y8]; kernel_rfl)
  obtain ⟨k, hk⟩ : ∃ k, k = sharedN x y := ⟨_, rfl⟩
  have HSH0 : Hid (∀ W, Calls Tryd.prog 53 #[.agg (listV x).toArray, .agg (listV y).toArray] W fun e w' => e = .returned (.int .i64 (k : Int)) ∧ Below W.heap.size W w') := Lib.hid fun W => by rw [hk]; exact shared_any x y W x8 y8
  have HF0 : Hid (∀ W, Pow W → Calls Tryd.prog 52 #[.agg (listV x).toArray, .int .i64 (k : Int)] W fun e w' => e = .returned (.string ⟨(tx (x.take k)).toArray⟩) ∧ Below W.heap.size W w') := Lib.hid fun W hW => by
    have := hf k W (by rw [hk]; exact shared_le x y) hW
    rw [← h9] at this
    exact this
  rw [← hk]
  clear hl kl hf kf h9 k9 hx hy hk x8 y8
  go_enter Tryd.func29, Tryd.ntmps29
  go_wp2_with (first
    | (go_at_call 49; (with_reducible refine (HX.out _).mono ?_); rintro r W1 ⟨rfl, hb1⟩; have HB1 := Lib.hid hb1; clear hb1)
    | (go_at_call 49; (with_reducible refine (HY.out _).mono ?_); rintro r W2 ⟨rfl, hb2⟩; have HB2 := Lib.hid hb2; clear hb2))
  refine cwp_gen (SC w W1.heap.size W2.heap.size x y) (sc_new H9.out K9.out _ _ HB1.out HB2.out) ?_
  generalize W1.heap.size = G1
  generalize W2.heap.size = G2
  intro V HS0
  have HSH : Hid (∀ W, SC w G1 G2 x y W → Calls Tryd.prog 53 #[.agg (listV x).toArray, .agg (listV y).toArray] W fun e w' => e = .returned (.int .i64 (k : Int)) ∧ SC w G1 G2 x y w') := Lib.hid fun W hW => (HSH0.out W).mono fun e w' he => ⟨he.1, hW.below he.2⟩
  have HF : Hid (∀ W, SC w G1 G2 x y W → Calls Tryd.prog 52 #[.agg (listV x).toArray, .int .i64 (k : Int)] W fun e w' => e = .returned (.string ⟨(tx (x.take k)).toArray⟩) ∧ SC w G1 G2 x y w') := Lib.hid fun W hW => (HF0.out W (HPW.out W hW.2.2)).mono fun e w' he => ⟨he.1, hW.below he.2⟩
  refine wp_region_held_drew (S := SC w G1 G2 x y) (by kernel_rfl) HS0.drew (fun hHeld => ?_)
  refine wpAnyH_take (i := 0) (ops_atL rfl) (by kernel_rfl) (by kernel_rfl) (by kernel_rfl) (fun _ _ _ h => h) (yieldsIf_load_mid (by rfl) 85 _ rfl G1 0 rfl (listV x) _ (fun _ h => h.1.1) Tryd.underlying85 rfl HI1.out) hHeld ?_
  try simp only [Act.put, List.setIfInBounds_toArray, List.set_cons_zero, List.set_cons_succ]
  refine wpAnyH_take (i := 1) (ops_atL rfl) (by kernel_rfl) (by kernel_rfl) (by kernel_rfl) (fun _ _ _ h => h) (yieldsIf_load_mid (by rfl) 85 _ rfl G1 0 rfl (listV x) _ (fun _ h => h.1.1) Tryd.underlying85 rfl HI1.out) hHeld ?_
  try simp only [Act.put, List.setIfInBounds_toArray, List.set_cons_zero, List.set_cons_succ]
  refine wpAnyH_take (i := 2) (ops_atL rfl) (by kernel_rfl) (by kernel_rfl) (by kernel_rfl) (fun _ _ _ h => h) (yieldsIf_load_mid (by rfl) 85 _ rfl G2 0 rfl (listV y) _ (fun _ h => h.2.1.1) Tryd.underlying85 rfl HI2.out) hHeld ?_
  try simp only [Act.put, List.setIfInBounds_toArray, List.set_cons_zero, List.set_cons_succ]
  refine wpAnyH_ready (rs := [3]) (by kernel_rfl) (by simp) ?_
  refine AllReadyH.cons (ops_atL rfl) (fun K hK => ?_) AllReadyH.nil
  go_simp
  (go_at_call 53; refine (HSH.out _ hHeld).mono ?_; rintro e W' ⟨rfl, hb'⟩)
  refine hK.out _ _ hb' (fun hHeld => ?_)
  clear hK K
  try simp only [Act.put, List.setIfInBounds_toArray, List.set_cons_zero, List.set_cons_succ]
  refine wpAnyH_ready (rs := [4]) (by kernel_rfl) (by simp) ?_
  refine AllReadyH.cons (ops_atL rfl) (fun K hK => ?_) AllReadyH.nil
  go_simp
  (go_at_call 52; refine (HF.out _ hHeld).mono ?_; rintro e W' ⟨rfl, hb'⟩)
  refine hK.out _ _ hb' (fun hHeld => ?_)
  clear hK K
  try simp only [Act.put, List.setIfInBounds_toArray, List.set_cons_zero, List.set_cons_succ]
  refine wpAnyH_take (i := 5) (v := ?_) (ops_atL rfl) (by kernel_rfl) (by kernel_rfl) (by kernel_rfl) (fun _ _ _ h => h) (Or.inl ⟨by rfl, ?_⟩) hHeld ?_
  rotate_left
  · (intro W hSW; go_simp; try with_reducible rfl)
  try simp only [Act.put, List.setIfInBounds_toArray, List.set_cons_zero, List.set_cons_succ]
  refine wpAnyH_done (by kernel_rfl) ?_ _
  go_wp2
  go_ret
  exact ⟨rfl, hHeld.2.2⟩
end Go.Proofs.YtdfenaoddbdppaaDoor
