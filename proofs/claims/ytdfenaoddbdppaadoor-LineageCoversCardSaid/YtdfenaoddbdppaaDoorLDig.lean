/- lineage: the walk of the reference's Digits, by induction. -/
import Derived.Test.YtdfenaoddbdppaaDoorLPart
import Derived.Test.YtdfenaoddbdppaaDoorSComp
set_option linter.unusedVariables false
namespace Go.Proofs.YtdfenaoddbdppaaDoor
open Go.RowKit

/-- A number in decimal. -/
def dec (n : Nat) : List UInt8 := if h : n < 10 then [UInt8.ofNat (48 + n)] else dec (n / 10) ++ [UInt8.ofNat (48 + n % 10)]
termination_by n
decreasing_by omega
theorem dec_small {n : Nat} (h : n < 10) : dec n = [UInt8.ofNat (48 + n)] := by rw [dec, dif_pos h]
theorem dec_big {n : Nat} (h : ¬ n < 10) : dec n = dec (n / 10) ++ [UInt8.ofNat (48 + n % 10)] := by rw [dec, dif_neg h]
theorem u8_small (m : Nat) (h : m ≤ 255) : Value.int .u8 (m : Int) = bv (UInt8.ofNat m) := by
  show Value.int .u8 _ = Value.int .u8 _
  rw [UInt8.toNat_ofNat', Nat.mod_eq_of_lt (by omega)]

theorem ops_atL {l : List Oper} {i : Nat} {o : Oper} (h : l[i]? = some o) : (List.toArray l)[i]? = some o := by rw [List.getElem?_toArray]; exact h
theorem wpAnyH_strongL {P : Program} {md : Region.Mode} {ops : Array Oper} {Q : Exit → Act → World → Prop} {S S' : World → Prop} (hS : ∀ w, S' w → S w) :
    ∀ (fuel : Nat) (listed : Array Bool) (a : Act) (w : World), wpAnyH P md ops Q S' fuel listed a w → wpAnyH P md ops Q S fuel listed a w
  | 0, _, _, _, h => h
  | fuel + 1, listed, a, w, h => ⟨h.1, fun i hi => wpOp_mono (fun a' w' h' => ⟨hS _ h'.1, wpAnyH_strongL hS fuel _ a' w' h'.2⟩) (h.2 i hi)⟩
theorem bslL : ByteSlice Tryd.prog 72 5 := ⟨Tryd.underlying72, Tryd.underlying5, by kernel_rfl⟩
/-- A block of one byte c. -/
def DS (w : World) (G : Nat) (c : UInt8) (V : World) : Prop := Below w.heap.size w V ∧ V.cell? ⟨G, 0, none⟩ = some (bv c) ∧ G < V.heap.size
theorem ds_new {w V : World} (h : Below w.heap.size w V) (c : UInt8) (x : Int) (hx : x = (c.toNat : Int)) (t : TypeId) : DS w V.heap.size c (V.alloc (.cells #[.int .u8 x] t)) := by
  subst hx
  refine ⟨h.alloc h.size _, ?_, by simp⟩
  rw [World.cell?_alloc_at _ _ _ _ rfl]; rfl
theorem DS.below {w V W : World} {G : Nat} {c : UInt8} (h : DS w G c V) (hb : Below V.heap.size V W) : DS w G c W :=
  ⟨h.1.trans (hb.mono h.1.size), (hb.cell (p := ⟨G, 0, none⟩) h.2.2).trans h.2.1, Nat.lt_of_lt_of_le h.2.2 hb.size⟩
theorem DS.str {w V : World} {G : Nat} {c : UInt8} (h : DS w G c V) : (convert 72 9 (.slice (some ⟨G, 0, none⟩) 1 1)).run Tryd.prog V = .ok (.string ⟨#[c]⟩) V :=
  run_str (l := [c]) bslL 9 Tryd.underlying9 (B := V.heap.size) (fun _ => ⟨G, 0, rfl, h.2.2, fun j d hj => by
    match j, hj with
    | 0, hj => simp at hj; subst hj; exact h.2.1⟩) 1

set_option maxHeartbeats 1000000 in
set_option maxRecDepth 100000 in
theorem digits_small (n : Nat) (w : World) (hn : n < 10) :
    Calls Tryd.prog 51 #[.int .i64 (n : Int)] w fun e w' => e = .returned (.string ⟨(dec n).toArray⟩) ∧ Below w.heap.size w w' := by
  have g : (n : Int) < 10 := by omega
  rw [dec_small hn]
  obtain ⟨c, hc⟩ : ∃ c, c = UInt8.ofNat (48 + n) := ⟨_, rfl⟩
  have hcx : (48 + (n : Int)) = (c.toNat : Int) := by rw [hc, UInt8.toNat_ofNat']; omega
  have hD : DS w w.heap.size c (w.alloc (.cells #[.int .u8 (48 + (n : Int))] 5)) := ds_new (Below.refl _ _) _ _ hcx _
  rw [← hc]
  clear hc hcx
  have hcv := hD.str
  have HB := Lib.hid hD.1
  clear hD
  go_enter Tryd.func51, Tryd.ntmps51
  go_wp2
  go_ret
  exact ⟨rfl, HB.out⟩

set_option maxHeartbeats 1000000 in
set_option maxRecDepth 100000 in
theorem digits_big (n : Nat) (w : World) (hn : ¬ n < 10) (hN : n ≤ 999999) (D : ByteArray) (hD : D = ⟨(dec (n / 10)).toArray⟩) (hDs : D.size ≤ 100) (ih : ∀ W, Calls Tryd.prog 51 #[.int .i64 ((n / 10 : Nat) : Int)] W fun e w' => e = .returned (.string D) ∧ Below W.heap.size W w') :
    Calls Tryd.prog 51 #[.int .i64 (n : Int)] w fun e w' => e = .returned (.string ⟨(dec n).toArray⟩) ∧ Below w.heap.size w w' := by
  have g : ¬ (n : Int) < 10 := by omega
  obtain ⟨X, hX⟩ : ∃ X : ByteArray, X = ⟨(dec n).toArray⟩ := ⟨_, rfl⟩
  rw [← hX]
  obtain ⟨c, hc⟩ : ∃ c, c = UInt8.ofNat (48 + n % 10) := ⟨_, rfl⟩
  have HCX : Hid (48 + (n : Int) % 10 = (c.toNat : Int)) := Lib.hid (by rw [hc, UInt8.toNat_ofNat']; omega)
  have hXD : D ++ ⟨#[c]⟩ = X := by
    rw [hX, hD, dec_big hn, hc]; apply ByteArray.ext; apply Array.ext'; simp
  have hsz : ¬ 9223372036854775807 < D.size + 1 := by omega
  have hq : (n : Int) / 10 = ((n / 10 : Nat) : Int) := by omega
  have HI : Hid (∀ W, Calls Tryd.prog 51 #[.int .i64 ((n : Int) / 10)] W fun e w' => e = .returned (.string D) ∧ Below W.heap.size W w') := Lib.hid fun W => by rw [hq]; exact ih W
  clear ih hq hX hD hc
  have hw0 : (n : Int).tmod 10 = (n : Int) % 10 := Int.tmod_eq_emod_of_nonneg (by omega)
  have hw1 : IntKind.i64.wrap ((n : Int) / 10) = (n : Int) / 10 := by rw [IntKind.wrap_i64]; omega
  have hw2 : IntKind.i64.wrap ((n : Int) % 10) = (n : Int) % 10 := by rw [IntKind.wrap_i64]; omega
  have hw3 : IntKind.i64.wrap (48 + (n : Int) % 10) = 48 + (n : Int) % 10 := by rw [IntKind.wrap_i64]; omega
  have hw4 : IntKind.u8.wrap (48 + (n : Int) % 10) = 48 + (n : Int) % 10 := by rw [IntKind.wrap_u8]; omega
  go_enter Tryd.func51, Tryd.ntmps51
  go_wp2_with fail
  refine wp_region_held_drew (S := fun V => Below w.heap.size w V) (by kernel_rfl) (Below.refl _ _).drew (fun hHeld => ?_)
  refine wpAnyH_take (i := 0) (v := ?_) (ops_atL rfl) (by kernel_rfl) (by kernel_rfl) (by kernel_rfl) (fun _ _ _ h => h) (Or.inl ⟨by rfl, ?_⟩) hHeld ?_
  rotate_left
  · (intro W hSW; go_simp; try with_reducible rfl)
  try simp only [Act.put, List.setIfInBounds_toArray, List.set_cons_zero, List.set_cons_succ]
  refine wpAnyH_take (i := 1) (v := ?_) (ops_atL rfl) (by kernel_rfl) (by kernel_rfl) (by kernel_rfl) (fun _ _ _ h => h) (Or.inl ⟨by rfl, ?_⟩) hHeld ?_
  rotate_left
  · (intro W hSW; go_simp; try with_reducible rfl)
  try simp only [Act.put, List.setIfInBounds_toArray, List.set_cons_zero, List.set_cons_succ]
  refine wpAnyH_take (i := 3) (v := ?_) (ops_atL rfl) (by kernel_rfl) (by kernel_rfl) (by kernel_rfl) (fun _ _ _ h => h) (Or.inl ⟨by rfl, ?_⟩) hHeld ?_
  rotate_left
  · (intro W hSW; go_simp; try with_reducible rfl)
  try simp only [Act.put, List.setIfInBounds_toArray, List.set_cons_zero, List.set_cons_succ]
  refine wpAnyH_take (i := 4) (v := ?_) (ops_atL rfl) (by kernel_rfl) (by kernel_rfl) (by kernel_rfl) (fun _ _ _ h => h) (Or.inl ⟨by rfl, ?_⟩) hHeld ?_
  rotate_left
  · (intro W hSW; go_simp; try with_reducible rfl)
  try simp only [Act.put, List.setIfInBounds_toArray, List.set_cons_zero, List.set_cons_succ]
  refine wpAnyH_take (i := 5) (v := ?_) (ops_atL rfl) (by kernel_rfl) (by kernel_rfl) (by kernel_rfl) (fun _ _ _ h => h) (Or.inl ⟨by rfl, ?_⟩) hHeld ?_
  rotate_left
  · (intro W hSW; go_simp; try with_reducible rfl)
  try simp only [Act.put, List.setIfInBounds_toArray, List.set_cons_zero, List.set_cons_succ]
  refine wpAnyH_take (i := 6) (v := ?_) (ops_atL rfl) (by kernel_rfl) (by kernel_rfl) (by kernel_rfl) (fun _ _ _ h => h) (Or.inl ⟨by rfl, ?_⟩) hHeld ?_
  rotate_left
  · (intro W hSW; go_simp; try with_reducible rfl)
  try simp only [Act.put, List.setIfInBounds_toArray, List.set_cons_zero, List.set_cons_succ]
  refine wpAnyH_ready (rs := [2, 7]) (by kernel_rfl) (by simp) ?_
  refine AllReadyH.cons (ops_atL rfl) (fun K hK => ?_) (AllReadyH.cons (ops_atL rfl) (fun K hK => ?_) AllReadyH.nil)
  · skip
    go_simp
    (go_at_call 51; refine (HI.out _).mono ?_; rintro e W1 ⟨rfl, hb'⟩)
    refine hK.out _ _ (hHeld.trans (hb'.mono hHeld.size)) (fun hHeld2 => ?_)
    clear hK K
    try simp only [Act.put, List.setIfInBounds_toArray, List.set_cons_zero, List.set_cons_succ]
    clear hHeld hb'
    have hHeld := hHeld2
    refine wpAnyH_ready (rs := [7]) (by kernel_rfl) (by simp) ?_
    refine AllReadyH.cons (ops_atL rfl) (fun K hK => ?_) AllReadyH.nil
    go_simp
    have hS2 : DS w W1.heap.size c (W1.alloc (.cells #[.int .u8 (48 + (n : Int) % 10)] 5)) := ds_new hHeld _ _ HCX.out _
    refine hK.out _ _ hS2.1 (fun _ => ?_)
    clear hK K
    replace hHeld := hS2
    clear hS2
    refine wpAnyH_strongL (S' := DS w W1.heap.size c) (fun _ h => h.1) _ _ _ _ ?_
    try simp only [Act.put, List.setIfInBounds_toArray, List.set_cons_zero, List.set_cons_succ]
    refine wpAnyH_take (i := 8) (v := ?_) (ops_atL rfl) (by kernel_rfl) (by kernel_rfl) (by kernel_rfl) (fun _ _ _ h => h) (Or.inl ⟨by rfl, ?_⟩) hHeld ?_
    rotate_left
    · (intro W hSW; have hcv := hSW.str; go_simp; try with_reducible rfl)
    try simp only [Act.put, List.setIfInBounds_toArray, List.set_cons_zero, List.set_cons_succ]
    refine wpAnyH_take (i := 9) (v := ?_) (ops_atL rfl) (by kernel_rfl) (by kernel_rfl) (by kernel_rfl) (fun _ _ _ h => h) (Or.inl ⟨by rfl, ?_⟩) hHeld ?_
    rotate_left
    · (intro W hSW; go_simp; try with_reducible rfl)
    try simp only [Act.put, List.setIfInBounds_toArray, List.set_cons_zero, List.set_cons_succ]
    refine wpAnyH_take (i := 10) (v := ?_) (ops_atL rfl) (by kernel_rfl) (by kernel_rfl) (by kernel_rfl) (fun _ _ _ h => h) (Or.inl ⟨by rfl, ?_⟩) hHeld ?_
    rotate_left
    · (intro W hSW; go_simp; try with_reducible rfl)
    try simp only [Act.put, List.setIfInBounds_toArray, List.set_cons_zero, List.set_cons_succ]
    refine wpAnyH_done (by kernel_rfl) ?_ _
    go_wp2
    go_ret
    exact ⟨rfl, hHeld.1⟩
  · skip
    go_simp
    have hS2 : DS w w.heap.size c (w.drew.alloc (.cells #[.int .u8 (48 + (n : Int) % 10)] 5)) := ds_new hHeld _ _ HCX.out _
    refine hK.out _ _ hS2.1 (fun _ => ?_)
    clear hK K
    replace hHeld := hS2
    clear hS2
    refine wpAnyH_strongL (S' := DS w w.heap.size c) (fun _ h => h.1) _ _ _ _ ?_
    try simp only [Act.put, List.setIfInBounds_toArray, List.set_cons_zero, List.set_cons_succ]
    refine wpAnyH_take (i := 8) (v := ?_) (ops_atL rfl) (by kernel_rfl) (by kernel_rfl) (by kernel_rfl) (fun _ _ _ h => h) (Or.inl ⟨by rfl, ?_⟩) hHeld ?_
    rotate_left
    · (intro W hSW; have hcv := hSW.str; go_simp; try with_reducible rfl)
    try simp only [Act.put, List.setIfInBounds_toArray, List.set_cons_zero, List.set_cons_succ]
    refine wpAnyH_ready (rs := [2]) (by kernel_rfl) (by simp) ?_
    refine AllReadyH.cons (ops_atL rfl) (fun K hK => ?_) AllReadyH.nil
    go_simp
    (go_at_call 51; refine (HI.out _).mono ?_; rintro e W1 ⟨rfl, hb'⟩)
    refine hK.out _ _ (hHeld.below hb') (fun hHeld3 => ?_)
    clear hK K
    try simp only [Act.put, List.setIfInBounds_toArray, List.set_cons_zero, List.set_cons_succ]
    have hHeld := hHeld3
    refine wpAnyH_take (i := 9) (v := ?_) (ops_atL rfl) (by kernel_rfl) (by kernel_rfl) (by kernel_rfl) (fun _ _ _ h => h) (Or.inl ⟨by rfl, ?_⟩) hHeld ?_
    rotate_left
    · (intro W hSW; go_simp; try with_reducible rfl)
    try simp only [Act.put, List.setIfInBounds_toArray, List.set_cons_zero, List.set_cons_succ]
    refine wpAnyH_take (i := 10) (v := ?_) (ops_atL rfl) (by kernel_rfl) (by kernel_rfl) (by kernel_rfl) (fun _ _ _ h => h) (Or.inl ⟨by rfl, ?_⟩) hHeld ?_
    rotate_left
    · (intro W hSW; go_simp; try with_reducible rfl)
    try simp only [Act.put, List.setIfInBounds_toArray, List.set_cons_zero, List.set_cons_succ]
    refine wpAnyH_done (by kernel_rfl) ?_ _
    go_wp2
    go_ret
    exact ⟨rfl, hHeld.1⟩
theorem dec_len (n : Nat) : (dec n).length ≤ n + 1 := by
  induction n using Nat.strongRecOn with
  | _ n ih =>
    by_cases h : n < 10
    · rw [dec_small h]; simp
    · rw [dec_big h, List.length_append]
      have := ih (n / 10) (by omega)
      simp; omega
theorem dec_len6 {n : Nat} (h : n ≤ 999999) : (dec n).length ≤ 30 := by
  have step : ∀ m k, m < 10 * k → (∀ j, j < k → (dec j).length ≤ 24) → (dec m).length ≤ 25 := by
    intro m k hm hk
    by_cases h : m < 10
    · rw [dec_small h]; simp
    · rw [dec_big h, List.length_append]
      have := hk (m / 10) (by omega)
      simp; omega
  have e1 : ∀ j, j < 10 → (dec j).length ≤ 1 := fun j h => by rw [dec_small h]; simp
  have up : ∀ (k b : Nat), (∀ j, j < k → (dec j).length ≤ b) → 1 ≤ b + 1 → ∀ j, j < 10 * k → (dec j).length ≤ b + 1 := by
    intro k b hk hb j hj
    by_cases h : j < 10
    · rw [dec_small h]; simp
    · rw [dec_big h, List.length_append]
      have := hk (j / 10) (by omega)
      simp; omega
  have e2 := up 10 1 e1 (by omega)
  have e3 := up 100 2 e2 (by omega)
  have e4 := up 1000 3 e3 (by omega)
  have e5 := up 10000 4 e4 (by omega)
  have e6 := up 100000 5 e5 (by omega)
  have := e6 n (by omega)
  omega
theorem digits_any : ∀ (n : Nat) (w : World), n ≤ 999999 →
    Calls Tryd.prog 51 #[.int .i64 (n : Int)] w fun e w' => e = .returned (.string ⟨(dec n).toArray⟩) ∧ Below w.heap.size w w' := by
  intro n
  induction n using Nat.strongRecOn with
  | _ n ih =>
    intro w hN
    by_cases h : n < 10
    · exact digits_small n w h
    · refine digits_big n w h hN _ rfl ?_ (fun W => ih (n / 10) (by omega) W (by omega))
      show (dec (n / 10)).toArray.size ≤ 100
      rw [List.size_toArray]
      have := dec_len6 (n := n / 10) (by omega)
      omega
end Go.Proofs.YtdfenaoddbdppaaDoor
