/- The walk of the law Sha256Compares: what it says of any two digests. -/
import Derived.Test.YtedmnepilbfihaaDoorSHeld
set_option linter.unusedVariables false
namespace Go.Proofs.YtedmnepilbfihaaDoor
open Go.RowKit

theorem u8_xor_nat (a b : Nat) (ha : a < 256) (hb : b < 256) : bits .xor .u8 (a : Int) (b : Int) = ((a ^^^ b : Nat) : Int) := by
  have hx : a ^^^ b < 2 ^ 8 := Nat.xor_lt_two_pow (by omega) (by omega)
  have e : ∀ n : Nat, n < 256 → (BitVec.ofInt 8 (n : Int)).toNat = n := fun n hn => by
    rw [BitVec.ofInt_natCast, BitVec.toNat_ofNat]; exact Nat.mod_eq_of_lt (by omega)
  show IntKind.u8.wrap ((BitVec.ofInt 8 (a : Int) ^^^ BitVec.ofInt 8 (b : Int)).toNat : Int) = _
  rw [BitVec.toNat_xor, e a ha, e b hb, IntKind.wrap_u8]
  omega
theorem xor_u8 (x y : UInt8) : bits .xor .u8 (x.toNat : Int) (y.toNat : Int) = ((x ^^^ y).toNat : Int) := by
  rw [u8_xor_nat _ _ x.toNat_lt y.toNat_lt, UInt8.toNat_xor]
theorem xor_zero (x y : UInt8) : (x ^^^ y = x) ↔ y = 0 := by
  constructor
  · intro h
    have : x ^^^ (x ^^^ y) = x ^^^ x := by rw [h]
    rw [← UInt8.xor_assoc, UInt8.xor_self, UInt8.zero_xor] at this
    exact this
  · rintro rfl; simp
theorem set_same (a : List UInt8) (k : Nat) (o n : UInt8) (h : a[k]? = some o) : (a.set k n = a) ↔ n = o := by
  obtain ⟨hk, he⟩ := List.getElem?_eq_some_iff.1 h
  constructor
  · intro e
    have := congrArg (fun l => l[k]?) e
    simp only [List.getElem?_set_self hk, h] at this
    exact Option.some.inj this
  · rintro rfl
    rw [← he]; exact List.set_getElem_self hk

theorem held3_new (w : World) (x y z : List Value) (zx zy zz : Array Value) (hx : zx = x.toArray) (hy : zy = y.toArray) (hz : zz = z.toArray) (r s t : TypeId) :
    Held w [(w.heap.size + 2, z), (w.heap.size + 1, y), (w.heap.size, x)] (((w.alloc (.cells zx r)).alloc (.cells zy s)).alloc (.cells zz t)) := by
  have h := (((Held.start w).new x zx hx r).new y zy hy s).new z zz hz t
  simp only [World.size_alloc] at h
  exact h
theorem there2 (V : World) (z0 z1 : Array Value) (h0 : z0 = zero32.toArray) (h1 : z1 = zero32.toArray) (s t : TypeId) :
    Arr ((V.drew.alloc (.cells z0 s)).alloc (.cells z1 t)) V.heap.size 0 zero32 ∧ Arr ((V.drew.alloc (.cells z0 s)).alloc (.cells z1 t)) (V.heap.size + 1) 0 zero32 := by
  subst h0 h1
  have e1 : (V.drew.alloc (Obj.cells zero32.toArray s)).heap.size = V.heap.size + 1 := by simp
  refine ⟨(Arr.new V.drew zero32 s).alloc _, ?_⟩
  rw [← e1]; exact Arr.new _ zero32 t
theorem held_two {w V : World} {L : List (Nat × List Value)} (h : Held w L V) (x y : List Value) (hx : x.length = 32) (hy : y.length = 32) (z0 z1 : Array Value) (h0 : z0 = zero32.toArray) (h1 : z1 = zero32.toArray) (s t : TypeId) (G G' : Nat)
    (hG : (G = V.heap.size ∧ G' = V.heap.size + 1) ∨ (G = V.heap.size + 1 ∧ G' = V.heap.size)) :
    Held w ((G, x) :: (G', y) :: L) ((((V.drew.alloc (.cells z0 s)).alloc (.cells z1 t)).setCells G 0 x).setCells G' 0 y) := by
  obtain ⟨a0, a1⟩ := there2 V z0 z1 h0 h1 s t
  have hL := (h.drew.alloc (.cells z0 s)).alloc (.cells z1 t)
  have hn : ∀ p ∈ L, p.1 < V.heap.size := fun p hp => (h.2 p hp).2
  have hs := h.1.size
  have hz : (((V.drew.alloc (.cells z0 s)).alloc (.cells z1 t))).heap.size = V.heap.size + 1 + 1 := by simp
  have hne : G ≠ G' := by omega
  have aG : Arr ((V.drew.alloc (.cells z0 s)).alloc (.cells z1 t)) G 0 zero32 := by rcases hG with ⟨rfl, _⟩ | ⟨rfl, _⟩ <;> assumption
  have aG' : Arr ((V.drew.alloc (.cells z0 s)).alloc (.cells z1 t)) G' 0 zero32 := by rcases hG with ⟨_, rfl⟩ | ⟨_, rfl⟩ <;> assumption
  have k1 := (hL.sets G 0 x (by omega) (fun p hp => by have := hn p hp; omega)).sets G' 0 y (by omega) (fun p hp => by have := hn p hp; omega)
  refine ⟨k1.1, fun p hp => ?_⟩
  rcases List.mem_cons.1 hp with rfl | hp
  · exact ⟨(aG.sets x (by rw [hx]; rfl)).sets_other _ _ _ (.inl hne), by rw [size_sets, size_sets, hz]; show G < _; omega⟩
  · rcases List.mem_cons.1 hp with rfl | hp
    · exact ⟨(aG'.sets_other _ _ _ (.inl (Ne.symm hne))).sets y (by rw [hy]; rfl), by rw [size_sets, size_sets, hz]; show G' < _; omega⟩
    · exact k1.2 p hp

set_option maxHeartbeats 4000000 in
set_option maxRecDepth 100000 in
theorem sha256Compares_walk (a ch c : List UInt8) (w : World) (hT : Tab w) (ha : a.length = 32) (hch : ch.length = 2) (hc : c.length = 32) :
    Calls Tryd.prog 10 #[.agg (a.map bv).toArray, .agg (ch.map bv).toArray, .agg (c.map bv).toArray] w fun e w' => e = .returned (.bool true) ∧ Below w.heap.size w w' := by
  obtain ⟨c0, c1, rfl⟩ : ∃ c0 c1, ch = [c0, c1] := by
    match ch, hch with
    | [p, q], _ => exact ⟨p, q, rfl⟩
  obtain ⟨k, hk⟩ : ∃ k, k = c0.toNat % 32 := ⟨_, rfl⟩
  have hk32 : k < 32 := by omega
  obtain ⟨o, ho⟩ : ∃ o, a[k]? = some o := ⟨a[k]'(by omega), List.getElem?_eq_getElem _⟩
  obtain ⟨y, hy⟩ : ∃ y, y = a.set k (o ^^^ c1) := ⟨_, rfl⟩
  have hyl : y.length = 32 := by rw [hy, List.length_set, ha]
  have hya : y = a ↔ c1 = 0 := by rw [hy, set_same a k o _ ho, xor_zero]
  have hym : (a.map bv).set k (bv (o ^^^ c1)) = y.map bv := by rw [hy, List.map_set]
  obtain ⟨q, hq⟩ : ∃ q, q = Lib.compareBytes a c := ⟨_, rfl⟩
  obtain ⟨X, eX⟩ : ∃ X, X = (⟨(hexOf a).toArray⟩ : ByteArray) := ⟨_, rfl⟩
  obtain ⟨Y, eY⟩ : ∃ Y, Y = (⟨(hexOf y).toArray⟩ : ByteArray) := ⟨_, rfl⟩
  have hXl : X.toList = hexOf a := by rw [Lib.toList_data, eX]
  have hYl : Y.toList = hexOf y := by rw [Lib.toList_data, eY]
  obtain ⟨r, hr⟩ : ∃ r, r = Lib.compareBytes a y := ⟨_, rfl⟩
  have hless : Op.bytesLess X.toList Y.toList = decide (r = -1) := by rw [hXl, hYl, hex_less, hr]
  have hsame : (X.toList == Y.toList) = decide (r = 0) := by
    rw [hXl, hYl, Bool.eq_iff_iff, beq_iff_eq, hex_same, decide_eq_true_iff, hr, cmp_zero]
  have hzero : ((c1.toNat : Int) == 0) = decide (r = 0) := by
    rw [Bool.eq_iff_iff, beq_iff_eq, decide_eq_true_iff, hr, cmp_zero]
    constructor
    · intro h; exact (hya.2 (UInt8.toNat_inj.1 (by have e0 : (0 : UInt8).toNat = 0 := rfl; omega))).symm
    · intro h; rw [hya.1 h.symm]; rfl
  have hr3 : r = -1 ∨ r = 0 ∨ r = 1 := by rw [hr]; exact cmp_three a y
  have HX : Hid (∀ W, Calls Tryd.prog 24 #[.agg (a.map bv).toArray] W fun e w' => e = .returned (.string X) ∧ Below W.heap.size W w') := Lib.hid fun W => by rw [eX]; exact string_any a W ha
  have HY : Hid (∀ W, Calls Tryd.prog 24 #[.agg (y.map bv).toArray] W fun e w' => e = .returned (.string Y) ∧ Below W.heap.size W w') := Lib.hid fun W => by rw [eY]; exact string_any y W hyl
  have HC1 : Hid (∀ W, Calls Tryd.prog 29 #[.agg (a.map bv).toArray, .agg (y.map bv).toArray] W fun e w' => e = .returned (.int .i64 r) ∧ Below W.heap.size W w') := Lib.hid fun W => by rw [hr]; exact compare_any a y W ha hyl
  have HC2 : Hid (∀ W, Calls Tryd.prog 29 #[.agg (y.map bv).toArray, .agg (a.map bv).toArray] W fun e w' => e = .returned (.int .i64 (-r)) ∧ Below W.heap.size W w') := Lib.hid fun W => by rw [hr, ← cmp_swap]; exact compare_any y a W hyl ha
  have HC3 : Hid (∀ W, Calls Tryd.prog 29 #[.agg (a.map bv).toArray, .agg (c.map bv).toArray] W fun e w' => e = .returned (.int .i64 q) ∧ Below W.heap.size W w') := Lib.hid fun W => by rw [hq]; exact compare_any a c W ha hc
  have HC4 : Hid (∀ W, Calls Tryd.prog 30 #[.agg (a.map bv).toArray, .agg (c.map bv).toArray] W fun e w' => e = .returned (.int .i64 q) ∧ Below W.heap.size W w') := Lib.hid fun W => by rw [hq]; exact refCompare_any a c W ha hc
  have HK : Hid (∀ W, Tab W → Calls Tryd.prog 14 #[] W fun e w' => e = .returned (.bool true) ∧ Below W.heap.size W w') := Lib.hid fun W h => known_any W h
  have hi24 : ∀ l : List UInt8, l.length = 32 → (Tryd.prog.info? 24).map (·.size) = some (l.map bv).length := fun l h => by rw [info32r, List.length_map, h]
  have hi25 : ∀ l : List UInt8, l.length = 32 → (Tryd.prog.info? 25).map (·.size) = some (l.map bv).length := fun l h => by rw [info32, List.length_map, h]
  have I24a := hi24 a ha
  have I24y := hi24 y hyl
  have I24c := hi24 c hc
  have I25a := hi25 a ha
  have I25y := hi25 y hyl
  have I25c := hi25 c hc
  have U24 := Tryd.underlying24
  have U25 := Tryd.underlying25
  have HXO := Lib.hid (xor_u8 o c1)
  have HYM := Lib.hid hym
  have HA := Lib.hid ha
  have HYL := Lib.hid hyl
  have HA32 : Hid ((a.map bv).toArray.size = 32) := Lib.hid (by rw [List.size_toArray, List.length_map, ha])
  have HY32 : Hid ((y.map bv).toArray.size = 32) := Lib.hid (by rw [List.size_toArray, List.length_map, hyl])
  have HCL := Lib.hid hc
  have HO := Lib.hid ho
  have HT := Lib.hid hT
  have HKK := Lib.hid hk
  clear hy hya hym hr hq eX eY hXl hYl hi24 hi25 hT ho ha hyl hc hk hch
  rcases hr3 with rfl | rfl | rfl
  all_goals
    simp only [show decide ((-1 : Int) = -1) = true from rfl, show decide ((-1 : Int) = 0) = false from rfl, show decide ((0 : Int) = -1) = false from rfl, show decide ((0 : Int) = 0) = true from rfl, show decide ((1 : Int) = -1) = false from rfl, show decide ((1 : Int) = 0) = false from rfl] at hless hsame hzero
    have hw1 : IntKind.i64.wrap 1 = 1 := by rw [IntKind.wrap_i64]; omega
    have hw0 : IntKind.i64.wrap 0 = 0 := by rw [IntKind.wrap_i64]; omega
    have hwm : IntKind.i64.wrap (-1) = -1 := by rw [IntKind.wrap_i64]; omega
    try simp only [Int.neg_neg, Int.neg_zero] at HC2
    have hgtr : ∀ W, (binOp .gtr 9 (.string X) (.string Y)).run Tryd.prog W = .ok (.bool (!(Op.bytesLess X.toList Y.toList) && !(X.toList == Y.toList))) W := fun W => by simp [binOp, Op.stringOp]
    rw [hless, hsame] at hgtr
    simp only [Bool.not_true, Bool.not_false, Bool.and_true, Bool.and_false, Bool.true_and, Bool.false_and] at hgtr
    go_enter Tryd.func10, Tryd.ntmps10
    go_wp2_with fail
    refine cwp_gen (Held w [(w.heap.size + 2, c.map bv), (w.heap.size + 1, [bv c0, bv c1]), (w.heap.size, a.map bv)]) (held3_new w (a.map bv) [bv c0, bv c1] (c.map bv) _ _ _ rfl rfl rfl _ _ _) ?_
    rintro V hV
    refine wp_region_held_drew (S := Held w [(w.heap.size + 2, c.map bv), (w.heap.size + 1, [bv c0, bv c1]), (w.heap.size, a.map bv)]) (by kernel_rfl) (hV.drew) (fun hHeld => ?_)
    refine wpAnyH_take (i := 0) (ops_at rfl) (by kernel_rfl) (by kernel_rfl) (by kernel_rfl) (fun _ _ _ h => h) (yieldsIf_load_mid (by rfl) 24 _ rfl (w.heap.size) 0 rfl (a.map bv) _ (fun _ h => (Held.arr (G := w.heap.size) (cs := a.map bv) h (by simp)).1) U24 rfl I24a) hHeld ?_
    try simp only [Act.put, List.setIfInBounds_toArray, List.set_cons_zero, List.set_cons_succ]
    refine wpAnyH_take (i := 1) (v := ?_) (ops_at rfl) (by kernel_rfl) (by kernel_rfl) (by kernel_rfl) (fun _ _ _ h => h) (Or.inl ⟨by rfl, ?_⟩) hHeld ?_
    rotate_left
    · (intro W hSW; go_simp; try with_reducible rfl)
    try simp only [Act.put, List.setIfInBounds_toArray, List.set_cons_zero, List.set_cons_succ]
    refine wpAnyH_take (i := 2) (v := ?_) (ops_at rfl) (by kernel_rfl) (by kernel_rfl) (by kernel_rfl) (fun _ _ _ h => h) (Or.inl ⟨by rfl, ?_⟩) hHeld ?_
    rotate_left
    · (intro W hSW; have hcell1 := (Held.arr (G := w.heap.size + 1) (cs := [bv c0, bv c1]) hSW (by simp)).cell0 (i := 1) rfl; go_simp; try with_reducible rfl)
    try simp only [Act.put, List.setIfInBounds_toArray, List.set_cons_zero, List.set_cons_succ]
    refine wpAnyH_ready (rs := [3]) (by kernel_rfl) (by simp) ?_
    refine AllReadyH.cons (ops_at rfl) (fun K hK => ?_) AllReadyH.nil
    go_simp
    refine hK.out _ _ (hHeld.alloc _) (fun hHeld => ?_)
    clear hK K
    try simp only [Act.put, List.setIfInBounds_toArray, List.set_cons_zero, List.set_cons_succ]
    refine wpAnyH_ready (rs := [4]) (by kernel_rfl) (by simp) ?_
    refine AllReadyH.cons (ops_at rfl) (fun K hK => ?_) AllReadyH.nil
    rw [if_pos (by rfl)]
    refine wp_store_mid 24 (.tmp 7) (.tmp 12) rfl V.heap.size 0 (a.map bv).toArray rfl rfl (there_drew V.drew (a.map bv) _ rfl _ (by rw [List.length_map, HA.out]) _ rfl) (by rw [List.size_toArray]; exact I24a) (all_oneCell_toArray (bvs_oneCell _)) ?_
    refine hK.out _ _ (hHeld.sets _ _ _ hV.1.size hV.ne) (fun hHeld => ?_)
    clear hK K
    try simp only [Act.put, List.setIfInBounds_toArray, List.set_cons_zero, List.set_cons_succ]
    refine wpAnyH_take (i := 5) (v := ?_) (ops_at rfl) (by kernel_rfl) (by kernel_rfl) (by kernel_rfl) (fun _ _ _ h => h) (Or.inl ⟨by rfl, ?_⟩) hHeld ?_
    rotate_left
    · (intro W hSW; go_simp; try with_reducible rfl)
    try simp only [Act.put, List.setIfInBounds_toArray, List.set_cons_zero, List.set_cons_succ]
    refine wpAnyH_done (by kernel_rfl) ?_ _
    refine gen_post (Held w ((V.heap.size, a.map bv) :: [(w.heap.size + 2, c.map bv), (w.heap.size + 1, [bv c0, bv c1]), (w.heap.size, a.map bv)])) ((hV.drew.new zero32 _ rfl _).write (a.map bv) hV.1.size (by rw [List.length_map, HA.out]; rfl) hV.ne) ?_
    rintro V2 h2
    clear hHeld
    have cc0 := (Held.arr (G := w.heap.size + 1) (cs := [bv c0, bv c1]) h2 (by simp)).cell0 (i := 0) rfl
    have cco := (Held.arr (G := V.heap.size) (cs := a.map bv) h2 (by simp)).cell0 (i := k) (v := bv o) (by rw [List.getElem?_map, HO.out]; rfl)
    have cfo := (Held.arr (G := V.heap.size) (cs := a.map bv) h2 (by simp)).frozen0 (i := k) (by rw [List.length_map, HA.out]; exact hk32)
    have hm1 : (0 : Int) ≤ (c0.toNat : Int) % 32 := by omega
    have hm2 : (c0.toNat : Int) % 32 < 32 := by omega
    have hm3 : ((c0.toNat : Int) % 32).toNat = k := by have := HKK.out; omega
    have hxo := HXO.out
    go_wp2_with fail
    clear cc0 cco cfo
    refine cwp_gen (Held w ((V.heap.size, y.map bv) :: [(w.heap.size + 2, c.map bv), (w.heap.size + 1, [bv c0, bv c1]), (w.heap.size, a.map bv)])) (by have h := h2.write1 k (bv (o ^^^ c1)) hV.1.size (by rw [List.length_map, HA.out]; exact hk32) hV.ne; rw [HYM.out] at h; exact h) ?_
    rintro V3 h3
    refine wp_region_held_drew (S := Held w ((V.heap.size, y.map bv) :: [(w.heap.size + 2, c.map bv), (w.heap.size + 1, [bv c0, bv c1]), (w.heap.size, a.map bv)])) (by kernel_rfl) (h3.drew) (fun hHeld => ?_)
    refine wpAnyH_take (i := 0) (ops_at rfl) (by kernel_rfl) (by kernel_rfl) (by kernel_rfl) (fun _ _ _ h => h) (yieldsIf_load_mid (by rfl) 24 _ rfl (w.heap.size) 0 rfl (a.map bv) _ (fun _ h => (Held.arr (G := w.heap.size) (cs := a.map bv) h (by simp)).1) U24 rfl I24a) hHeld ?_
    try simp only [Act.put, List.setIfInBounds_toArray, List.set_cons_zero, List.set_cons_succ]
    refine wpAnyH_take (i := 1) (ops_at rfl) (by kernel_rfl) (by kernel_rfl) (by kernel_rfl) (fun _ _ _ h => h) (yieldsIf_load_mid (by rfl) 24 _ rfl (V.heap.size) 0 rfl (y.map bv) _ (fun _ h => (Held.arr (G := V.heap.size) (cs := y.map bv) h (by simp)).1) U24 rfl I24y) hHeld ?_
    try simp only [Act.put, List.setIfInBounds_toArray, List.set_cons_zero, List.set_cons_succ]
    refine wpAnyH_ready (rs := [2, 3]) (by kernel_rfl) (by simp) ?_
    refine AllReadyH.cons (ops_at rfl) (fun K hK => ?_) (AllReadyH.cons (ops_at rfl) (fun K hK => ?_) AllReadyH.nil)
    · go_simp
      refine hK.out _ _ (hHeld.alloc _) (fun hHeld => ?_)
      clear hK K
      try simp only [Act.put, List.setIfInBounds_toArray, List.set_cons_zero, List.set_cons_succ]
      refine wpAnyH_ready (rs := [3]) (by kernel_rfl) (by simp) ?_
      refine AllReadyH.cons (ops_at rfl) (fun K hK => ?_) AllReadyH.nil
      go_simp
      refine hK.out _ _ (hHeld.alloc _) (fun hHeld => ?_)
      clear hK K
      try simp only [Act.put, List.setIfInBounds_toArray, List.set_cons_zero, List.set_cons_succ]
      refine wpAnyH_ready (rs := [4]) (by kernel_rfl) (by simp) ?_
      refine AllReadyH.cons (ops_at rfl) (fun K hK => ?_) AllReadyH.nil
      rw [if_pos (by rfl)]
      refine wp_store_mid 25 (.tmp 9) (.tmp 23) rfl (V3.heap.size) 0 (a.map bv).toArray rfl rfl (by rw [HA32.out]; exact (there2 V3 _ _ rfl rfl _ _).1.2) (by rw [List.size_toArray]; exact I25a) (all_oneCell_toArray (bvs_oneCell _)) ?_
      refine hK.out _ _ (hHeld.sets _ _ _ (by have := h3.1.size; omega) (fun p hp => by have := (h3.2 p hp).2; omega)) (fun hHeld => ?_)
      clear hK K
      try simp only [Act.put, List.setIfInBounds_toArray, List.set_cons_zero, List.set_cons_succ]
      refine wpAnyH_ready (rs := [5]) (by kernel_rfl) (by simp) ?_
      refine AllReadyH.cons (ops_at rfl) (fun K hK => ?_) AllReadyH.nil
      rw [if_pos (by rfl)]
      refine wp_store_mid 25 (.tmp 10) (.tmp 24) rfl (V3.heap.size + 1) 0 (y.map bv).toArray rfl rfl (by rw [HY32.out]; exact World.there_setCells (there2 V3 _ _ rfl rfl _ _).2.2 _ _ _) (by rw [List.size_toArray]; exact I25y) (all_oneCell_toArray (bvs_oneCell _)) ?_
      refine hK.out _ _ (hHeld.sets _ _ _ (by have := h3.1.size; omega) (fun p hp => by have := (h3.2 p hp).2; omega)) (fun hHeld => ?_)
      clear hK K
      try simp only [Act.put, List.setIfInBounds_toArray, List.set_cons_zero, List.set_cons_succ]
      refine wpAnyH_done (by kernel_rfl) ?_ _
      refine gen_post (Held w ((V3.heap.size, a.map bv) :: (V3.heap.size + 1, y.map bv) :: ((V.heap.size, y.map bv) :: [(w.heap.size + 2, c.map bv), (w.heap.size + 1, [bv c0, bv c1]), (w.heap.size, a.map bv)]))) (held_two h3 (a.map bv) (y.map bv) (by rw [List.length_map, HA.out]) (by rw [List.length_map, HYL.out]) _ _ rfl rfl _ _ _ _ (by omega)) ?_
      rintro V4 h4
      clear hHeld
      obtain ⟨G9, e9⟩ : ∃ G, G = V3.heap.size := ⟨_, rfl⟩
      obtain ⟨G10, e10⟩ : ∃ G, G = V3.heap.size + 1 := ⟨_, rfl⟩
      rw [← e10, ← e9] at h4 ⊢
      clear e9 e10
      have KX : Hid (∀ W, Held w ((G9, a.map bv) :: (G10, y.map bv) :: ((V.heap.size, y.map bv) :: [(w.heap.size + 2, c.map bv), (w.heap.size + 1, [bv c0, bv c1]), (w.heap.size, a.map bv)])) W → Calls Tryd.prog 24 #[.agg (a.map bv).toArray] W fun e w' => e = .returned (.string X) ∧ Held w ((G9, a.map bv) :: (G10, y.map bv) :: ((V.heap.size, y.map bv) :: [(w.heap.size + 2, c.map bv), (w.heap.size + 1, [bv c0, bv c1]), (w.heap.size, a.map bv)])) w') := Lib.hid fun W h => (HX.out W).mono fun e w' ⟨he, hb⟩ => ⟨he, h.below hb⟩
      have KY : Hid (∀ W, Held w ((G9, a.map bv) :: (G10, y.map bv) :: ((V.heap.size, y.map bv) :: [(w.heap.size + 2, c.map bv), (w.heap.size + 1, [bv c0, bv c1]), (w.heap.size, a.map bv)])) W → Calls Tryd.prog 24 #[.agg (y.map bv).toArray] W fun e w' => e = .returned (.string Y) ∧ Held w ((G9, a.map bv) :: (G10, y.map bv) :: ((V.heap.size, y.map bv) :: [(w.heap.size + 2, c.map bv), (w.heap.size + 1, [bv c0, bv c1]), (w.heap.size, a.map bv)])) w') := Lib.hid fun W h => (HY.out W).mono fun e w' ⟨he, hb⟩ => ⟨he, h.below hb⟩
      have K1 : Hid (∀ W, Held w ((G9, a.map bv) :: (G10, y.map bv) :: ((V.heap.size, y.map bv) :: [(w.heap.size + 2, c.map bv), (w.heap.size + 1, [bv c0, bv c1]), (w.heap.size, a.map bv)])) W → Calls Tryd.prog 29 #[.agg (a.map bv).toArray, .agg (y.map bv).toArray] W fun e w' => e = .returned (.int .i64 _) ∧ Held w ((G9, a.map bv) :: (G10, y.map bv) :: ((V.heap.size, y.map bv) :: [(w.heap.size + 2, c.map bv), (w.heap.size + 1, [bv c0, bv c1]), (w.heap.size, a.map bv)])) w') := Lib.hid fun W h => (HC1.out W).mono fun e w' ⟨he, hb⟩ => ⟨he, h.below hb⟩
      have K2 : Hid (∀ W, Held w ((G9, a.map bv) :: (G10, y.map bv) :: ((V.heap.size, y.map bv) :: [(w.heap.size + 2, c.map bv), (w.heap.size + 1, [bv c0, bv c1]), (w.heap.size, a.map bv)])) W → Calls Tryd.prog 29 #[.agg (y.map bv).toArray, .agg (a.map bv).toArray] W fun e w' => e = .returned (.int .i64 _) ∧ Held w ((G9, a.map bv) :: (G10, y.map bv) :: ((V.heap.size, y.map bv) :: [(w.heap.size + 2, c.map bv), (w.heap.size + 1, [bv c0, bv c1]), (w.heap.size, a.map bv)])) w') := Lib.hid fun W h => (HC2.out W).mono fun e w' ⟨he, hb⟩ => ⟨he, h.below hb⟩
      have K3 : Hid (∀ W, Held w ((G9, a.map bv) :: (G10, y.map bv) :: ((V.heap.size, y.map bv) :: [(w.heap.size + 2, c.map bv), (w.heap.size + 1, [bv c0, bv c1]), (w.heap.size, a.map bv)])) W → Calls Tryd.prog 29 #[.agg (a.map bv).toArray, .agg (c.map bv).toArray] W fun e w' => e = .returned (.int .i64 q) ∧ Held w ((G9, a.map bv) :: (G10, y.map bv) :: ((V.heap.size, y.map bv) :: [(w.heap.size + 2, c.map bv), (w.heap.size + 1, [bv c0, bv c1]), (w.heap.size, a.map bv)])) w') := Lib.hid fun W h => (HC3.out W).mono fun e w' ⟨he, hb⟩ => ⟨he, h.below hb⟩
      have K4 : Hid (∀ W, Held w ((G9, a.map bv) :: (G10, y.map bv) :: ((V.heap.size, y.map bv) :: [(w.heap.size + 2, c.map bv), (w.heap.size + 1, [bv c0, bv c1]), (w.heap.size, a.map bv)])) W → Calls Tryd.prog 30 #[.agg (a.map bv).toArray, .agg (c.map bv).toArray] W fun e w' => e = .returned (.int .i64 q) ∧ Held w ((G9, a.map bv) :: (G10, y.map bv) :: ((V.heap.size, y.map bv) :: [(w.heap.size + 2, c.map bv), (w.heap.size + 1, [bv c0, bv c1]), (w.heap.size, a.map bv)])) w') := Lib.hid fun W h => (HC4.out W).mono fun e w' ⟨he, hb⟩ => ⟨he, h.below hb⟩
      have K0 : Hid (∀ W, Held w ((G9, a.map bv) :: (G10, y.map bv) :: ((V.heap.size, y.map bv) :: [(w.heap.size + 2, c.map bv), (w.heap.size + 1, [bv c0, bv c1]), (w.heap.size, a.map bv)])) W → Calls Tryd.prog 14 #[] W fun e w' => e = .returned (.bool true) ∧ Held w ((G9, a.map bv) :: (G10, y.map bv) :: ((V.heap.size, y.map bv) :: [(w.heap.size + 2, c.map bv), (w.heap.size + 1, [bv c0, bv c1]), (w.heap.size, a.map bv)])) w') := Lib.hid fun W h => (HK.out W (HT.out.below h.1 HT.out.1)).mono fun e w' ⟨he, hb⟩ => ⟨he, h.below hb⟩
      go_wp2_with fail
      refine wp_region_held_drew (S := Held w ((G9, a.map bv) :: (G10, y.map bv) :: ((V.heap.size, y.map bv) :: [(w.heap.size + 2, c.map bv), (w.heap.size + 1, [bv c0, bv c1]), (w.heap.size, a.map bv)]))) (by kernel_rfl) (h4.drew) (fun hHeld => ?_)
      refine wpAnyH_take (i := 0) (ops_at rfl) (by kernel_rfl) (by kernel_rfl) (by kernel_rfl) (fun _ _ _ h => h) (yieldsIf_load_mid (by rfl) 25 _ rfl (G9) 0 rfl (a.map bv) _ (fun _ h => (Held.arr (G := G9) (cs := a.map bv) h (by simp)).1) U25 rfl I25a) hHeld ?_
      try simp only [Act.put, List.setIfInBounds_toArray, List.set_cons_zero, List.set_cons_succ]
      refine wpAnyH_take (i := 2) (ops_at rfl) (by kernel_rfl) (by kernel_rfl) (by kernel_rfl) (fun _ _ _ h => h) (yieldsIf_load_mid (by rfl) 25 _ rfl (G10) 0 rfl (y.map bv) _ (fun _ h => (Held.arr (G := G10) (cs := y.map bv) h (by simp)).1) U25 rfl I25y) hHeld ?_
      try simp only [Act.put, List.setIfInBounds_toArray, List.set_cons_zero, List.set_cons_succ]
      refine wpAnyH_ready (rs := [1]) (by kernel_rfl) (by simp) ?_
      refine AllReadyH.cons (ops_at rfl) (fun K hK => ?_) AllReadyH.nil
      go_simp
      (go_at_call 24; refine (KX.out _ hHeld).mono ?_; rintro e W' ⟨rfl, hb'⟩)
      refine hK.out _ _ hb' (fun hHeld => ?_)
      clear hK K
      try simp only [Act.put, List.setIfInBounds_toArray, List.set_cons_zero, List.set_cons_succ]
      refine wpAnyH_ready (rs := [3]) (by kernel_rfl) (by simp) ?_
      refine AllReadyH.cons (ops_at rfl) (fun K hK => ?_) AllReadyH.nil
      go_simp
      (go_at_call 24; refine (KY.out _ hHeld).mono ?_; rintro e W' ⟨rfl, hb'⟩)
      refine hK.out _ _ hb' (fun hHeld => ?_)
      clear hK K
      try simp only [Act.put, List.setIfInBounds_toArray, List.set_cons_zero, List.set_cons_succ]
      refine wpAnyH_take (i := 4) (v := ?_) (ops_at rfl) (by kernel_rfl) (by kernel_rfl) (by kernel_rfl) (fun _ _ _ h => h) (Or.inl ⟨by rfl, ?_⟩) hHeld ?_
      rotate_left
      · (intro W hSW; go_simp; try with_reducible rfl)
      try simp only [Act.put, List.setIfInBounds_toArray, List.set_cons_zero, List.set_cons_succ]
      refine wpAnyH_done (by kernel_rfl) ?_ _
      go_wp2_with fail
      refine wp_region_held_drew (S := Held w ((G9, a.map bv) :: (G10, y.map bv) :: ((V.heap.size, y.map bv) :: [(w.heap.size + 2, c.map bv), (w.heap.size + 1, [bv c0, bv c1]), (w.heap.size, a.map bv)]))) (by kernel_rfl) (hHeld.drew) (fun hHeld => ?_)
      refine wpAnyH_take (i := 0) (ops_at rfl) (by kernel_rfl) (by kernel_rfl) (by kernel_rfl) (fun _ _ _ h => h) (yieldsIf_load_mid (by rfl) 25 _ rfl (G9) 0 rfl (a.map bv) _ (fun _ h => (Held.arr (G := G9) (cs := a.map bv) h (by simp)).1) U25 rfl I25a) hHeld ?_
      try simp only [Act.put, List.setIfInBounds_toArray, List.set_cons_zero, List.set_cons_succ]
      refine wpAnyH_take (i := 2) (ops_at rfl) (by kernel_rfl) (by kernel_rfl) (by kernel_rfl) (fun _ _ _ h => h) (yieldsIf_load_mid (by rfl) 25 _ rfl (G10) 0 rfl (y.map bv) _ (fun _ h => (Held.arr (G := G10) (cs := y.map bv) h (by simp)).1) U25 rfl I25y) hHeld ?_
      try simp only [Act.put, List.setIfInBounds_toArray, List.set_cons_zero, List.set_cons_succ]
      refine wpAnyH_ready (rs := [1]) (by kernel_rfl) (by simp) ?_
      refine AllReadyH.cons (ops_at rfl) (fun K hK => ?_) AllReadyH.nil
      go_simp
      (go_at_call 24; refine (KX.out _ hHeld).mono ?_; rintro e W' ⟨rfl, hb'⟩)
      refine hK.out _ _ hb' (fun hHeld => ?_)
      clear hK K
      try simp only [Act.put, List.setIfInBounds_toArray, List.set_cons_zero, List.set_cons_succ]
      refine wpAnyH_ready (rs := [3]) (by kernel_rfl) (by simp) ?_
      refine AllReadyH.cons (ops_at rfl) (fun K hK => ?_) AllReadyH.nil
      go_simp
      (go_at_call 24; refine (KY.out _ hHeld).mono ?_; rintro e W' ⟨rfl, hb'⟩)
      refine hK.out _ _ hb' (fun hHeld => ?_)
      clear hK K
      try simp only [Act.put, List.setIfInBounds_toArray, List.set_cons_zero, List.set_cons_succ]
      refine wpAnyH_take (i := 4) (v := ?_) (ops_at rfl) (by kernel_rfl) (by kernel_rfl) (by kernel_rfl) (fun _ _ _ h => h) (Or.inl ⟨by rfl, ?_⟩) hHeld ?_
      rotate_left
      · (intro W hSW; go_simp; try with_reducible rfl)
      try simp only [Act.put, List.setIfInBounds_toArray, List.set_cons_zero, List.set_cons_succ]
      refine wpAnyH_done (by kernel_rfl) ?_ _
      go_wp2_with fail
      refine wp_region_held_drew (S := Held w ((G9, a.map bv) :: (G10, y.map bv) :: ((V.heap.size, y.map bv) :: [(w.heap.size + 2, c.map bv), (w.heap.size + 1, [bv c0, bv c1]), (w.heap.size, a.map bv)]))) (by kernel_rfl) (hHeld.drew) (fun hHeld => ?_)
      refine wpAnyH_ready (rs := [0]) (by kernel_rfl) (by simp) ?_
      refine AllReadyH.cons (ops_at rfl) (fun K hK => ?_) AllReadyH.nil
      go_simp
      (go_at_call 14; refine (K0.out _ hHeld).mono ?_; rintro e W' ⟨rfl, hb'⟩)
      refine hK.out _ _ hb' (fun hHeld => ?_)
      clear hK K
      try simp only [Act.put, List.setIfInBounds_toArray, List.set_cons_zero, List.set_cons_succ]
      refine wpAnyH_take (i := 1) (v := ?_) (ops_at rfl) (by kernel_rfl) (by kernel_rfl) (by kernel_rfl) (fun _ _ _ h => h) (Or.inl ⟨by rfl, ?_⟩) hHeld ?_
      rotate_left
      · (intro W hSW; go_simp; try with_reducible rfl)
      try simp only [Act.put, List.setIfInBounds_toArray, List.set_cons_zero, List.set_cons_succ]
      refine wpAnyH_take (i := 2) (ops_at rfl) (by kernel_rfl) (by kernel_rfl) (by kernel_rfl) (fun _ _ _ h => h) (yieldsIf_load_mid (by rfl) 25 _ rfl (G9) 0 rfl (a.map bv) _ (fun _ h => (Held.arr (G := G9) (cs := a.map bv) h (by simp)).1) U25 rfl I25a) hHeld ?_
      try simp only [Act.put, List.setIfInBounds_toArray, List.set_cons_zero, List.set_cons_succ]
      refine wpAnyH_take (i := 3) (ops_at rfl) (by kernel_rfl) (by kernel_rfl) (by kernel_rfl) (fun _ _ _ h => h) (yieldsIf_load_mid (by rfl) 25 _ rfl (G10) 0 rfl (y.map bv) _ (fun _ h => (Held.arr (G := G10) (cs := y.map bv) h (by simp)).1) U25 rfl I25y) hHeld ?_
      try simp only [Act.put, List.setIfInBounds_toArray, List.set_cons_zero, List.set_cons_succ]
      refine wpAnyH_take (i := 5) (v := ?_) (ops_at rfl) (by kernel_rfl) (by kernel_rfl) (by kernel_rfl) (fun _ _ _ h => h) (Or.inl ⟨by rfl, ?_⟩) hHeld ?_
      rotate_left
      · (intro W hSW; go_simp; try with_reducible rfl)
      try simp only [Act.put, List.setIfInBounds_toArray, List.set_cons_zero, List.set_cons_succ]
      refine wpAnyH_ready (rs := [4]) (by kernel_rfl) (by simp) ?_
      refine AllReadyH.cons (ops_at rfl) (fun K hK => ?_) AllReadyH.nil
      go_simp
      (go_at_call 29; refine (K1.out _ hHeld).mono ?_; rintro e W' ⟨rfl, hb'⟩)
      refine hK.out _ _ hb' (fun hHeld => ?_)
      clear hK K
      try simp only [Act.put, List.setIfInBounds_toArray, List.set_cons_zero, List.set_cons_succ]
      refine wpAnyH_take (i := 6) (v := ?_) (ops_at rfl) (by kernel_rfl) (by kernel_rfl) (by kernel_rfl) (fun _ _ _ h => h) (Or.inl ⟨by rfl, ?_⟩) hHeld ?_
      rotate_left
      · (intro W hSW; go_simp; try with_reducible rfl)
      try simp only [Act.put, List.setIfInBounds_toArray, List.set_cons_zero, List.set_cons_succ]
      refine wpAnyH_take (i := 7) (v := ?_) (ops_at rfl) (by kernel_rfl) (by kernel_rfl) (by kernel_rfl) (fun _ _ _ h => h) (Or.inl ⟨by rfl, ?_⟩) hHeld ?_
      rotate_left
      · (intro W hSW; go_simp; try with_reducible rfl)
      try simp only [Act.put, List.setIfInBounds_toArray, List.set_cons_zero, List.set_cons_succ]
      refine wpAnyH_take (i := 8) (v := ?_) (ops_at rfl) (by kernel_rfl) (by kernel_rfl) (by kernel_rfl) (fun _ _ _ h => h) (Or.inl ⟨by rfl, ?_⟩) hHeld ?_
      rotate_left
      · (intro W hSW; go_simp; try with_reducible rfl)
      try simp only [Act.put, List.setIfInBounds_toArray, List.set_cons_zero, List.set_cons_succ]
      refine wpAnyH_take (i := 9) (ops_at rfl) (by kernel_rfl) (by kernel_rfl) (by kernel_rfl) (fun _ _ _ h => h) (yieldsIf_load_mid (by rfl) 25 _ rfl (G10) 0 rfl (y.map bv) _ (fun _ h => (Held.arr (G := G10) (cs := y.map bv) h (by simp)).1) U25 rfl I25y) hHeld ?_
      try simp only [Act.put, List.setIfInBounds_toArray, List.set_cons_zero, List.set_cons_succ]
      refine wpAnyH_take (i := 10) (ops_at rfl) (by kernel_rfl) (by kernel_rfl) (by kernel_rfl) (fun _ _ _ h => h) (yieldsIf_load_mid (by rfl) 25 _ rfl (G9) 0 rfl (a.map bv) _ (fun _ h => (Held.arr (G := G9) (cs := a.map bv) h (by simp)).1) U25 rfl I25a) hHeld ?_
      try simp only [Act.put, List.setIfInBounds_toArray, List.set_cons_zero, List.set_cons_succ]
      refine wpAnyH_take (i := 12) (v := ?_) (ops_at rfl) (by kernel_rfl) (by kernel_rfl) (by kernel_rfl) (fun _ _ _ h => h) (Or.inl ⟨by rfl, ?_⟩) hHeld ?_
      rotate_left
      · (intro W hSW; go_simp; try with_reducible rfl)
      try simp only [Act.put, List.setIfInBounds_toArray, List.set_cons_zero, List.set_cons_succ]
      refine wpAnyH_take (i := 13) (v := ?_) (ops_at rfl) (by kernel_rfl) (by kernel_rfl) (by kernel_rfl) (fun _ _ _ h => h) (Or.inl ⟨by rfl, ?_⟩) hHeld ?_
      rotate_left
      · (intro W hSW; go_simp; try with_reducible rfl)
      try simp only [Act.put, List.setIfInBounds_toArray, List.set_cons_zero, List.set_cons_succ]
      refine wpAnyH_ready (rs := [11]) (by kernel_rfl) (by simp) ?_
      refine AllReadyH.cons (ops_at rfl) (fun K hK => ?_) AllReadyH.nil
      go_simp
      (go_at_call 29; refine (K2.out _ hHeld).mono ?_; rintro e W' ⟨rfl, hb'⟩)
      refine hK.out _ _ hb' (fun hHeld => ?_)
      clear hK K
      try simp only [Act.put, List.setIfInBounds_toArray, List.set_cons_zero, List.set_cons_succ]
      refine wpAnyH_take (i := 14) (v := ?_) (ops_at rfl) (by kernel_rfl) (by kernel_rfl) (by kernel_rfl) (fun _ _ _ h => h) (Or.inl ⟨by rfl, ?_⟩) hHeld ?_
      rotate_left
      · (intro W hSW; go_simp; try with_reducible rfl)
      try simp only [Act.put, List.setIfInBounds_toArray, List.set_cons_zero, List.set_cons_succ]
      refine wpAnyH_take (i := 15) (v := ?_) (ops_at rfl) (by kernel_rfl) (by kernel_rfl) (by kernel_rfl) (fun _ _ _ h => h) (Or.inl ⟨by rfl, ?_⟩) hHeld ?_
      rotate_left
      · (intro W hSW; go_simp; try with_reducible rfl)
      try simp only [Act.put, List.setIfInBounds_toArray, List.set_cons_zero, List.set_cons_succ]
      refine wpAnyH_take (i := 16) (v := ?_) (ops_at rfl) (by kernel_rfl) (by kernel_rfl) (by kernel_rfl) (fun _ _ _ h => h) (Or.inl ⟨by rfl, ?_⟩) hHeld ?_
      rotate_left
      · (intro W hSW; go_simp; try with_reducible rfl)
      try simp only [Act.put, List.setIfInBounds_toArray, List.set_cons_zero, List.set_cons_succ]
      refine wpAnyH_take (i := 17) (ops_at rfl) (by kernel_rfl) (by kernel_rfl) (by kernel_rfl) (fun _ _ _ h => h) (yieldsIf_load_mid (by rfl) 25 _ rfl (G9) 0 rfl (a.map bv) _ (fun _ h => (Held.arr (G := G9) (cs := a.map bv) h (by simp)).1) U25 rfl I25a) hHeld ?_
      try simp only [Act.put, List.setIfInBounds_toArray, List.set_cons_zero, List.set_cons_succ]
      refine wpAnyH_take (i := 18) (ops_at rfl) (by kernel_rfl) (by kernel_rfl) (by kernel_rfl) (fun _ _ _ h => h) (yieldsIf_load_mid (by rfl) 24 _ rfl (w.heap.size + 2) 0 rfl (c.map bv) _ (fun _ h => (Held.arr (G := w.heap.size + 2) (cs := c.map bv) h (by simp)).1) U24 rfl I24c) hHeld ?_
      try simp only [Act.put, List.setIfInBounds_toArray, List.set_cons_zero, List.set_cons_succ]
      refine wpAnyH_take (i := 20) (ops_at rfl) (by kernel_rfl) (by kernel_rfl) (by kernel_rfl) (fun _ _ _ h => h) (yieldsIf_load_mid (by rfl) 24 _ rfl (w.heap.size) 0 rfl (a.map bv) _ (fun _ h => (Held.arr (G := w.heap.size) (cs := a.map bv) h (by simp)).1) U24 rfl I24a) hHeld ?_
      try simp only [Act.put, List.setIfInBounds_toArray, List.set_cons_zero, List.set_cons_succ]
      refine wpAnyH_take (i := 21) (ops_at rfl) (by kernel_rfl) (by kernel_rfl) (by kernel_rfl) (fun _ _ _ h => h) (yieldsIf_load_mid (by rfl) 24 _ rfl (w.heap.size + 2) 0 rfl (c.map bv) _ (fun _ h => (Held.arr (G := w.heap.size + 2) (cs := c.map bv) h (by simp)).1) U24 rfl I24c) hHeld ?_
      try simp only [Act.put, List.setIfInBounds_toArray, List.set_cons_zero, List.set_cons_succ]
      refine wpAnyH_ready (rs := [19]) (by kernel_rfl) (by simp) ?_
      refine AllReadyH.cons (ops_at rfl) (fun K hK => ?_) AllReadyH.nil
      go_simp
      (go_at_call 29; refine (K3.out _ hHeld).mono ?_; rintro e W' ⟨rfl, hb'⟩)
      refine hK.out _ _ hb' (fun hHeld => ?_)
      clear hK K
      try simp only [Act.put, List.setIfInBounds_toArray, List.set_cons_zero, List.set_cons_succ]
      refine wpAnyH_ready (rs := [22]) (by kernel_rfl) (by simp) ?_
      refine AllReadyH.cons (ops_at rfl) (fun K hK => ?_) AllReadyH.nil
      go_simp
      (go_at_call 30; refine (K4.out _ hHeld).mono ?_; rintro e W' ⟨rfl, hb'⟩)
      refine hK.out _ _ hb' (fun hHeld => ?_)
      clear hK K
      try simp only [Act.put, List.setIfInBounds_toArray, List.set_cons_zero, List.set_cons_succ]
      refine wpAnyH_take (i := 23) (v := ?_) (ops_at rfl) (by kernel_rfl) (by kernel_rfl) (by kernel_rfl) (fun _ _ _ h => h) (Or.inl ⟨by rfl, ?_⟩) hHeld ?_
      rotate_left
      · (intro W hSW; go_simp; try with_reducible rfl)
      try simp only [Act.put, List.setIfInBounds_toArray, List.set_cons_zero, List.set_cons_succ]
      refine wpAnyH_take (i := 24) (v := ?_) (ops_at rfl) (by kernel_rfl) (by kernel_rfl) (by kernel_rfl) (fun _ _ _ h => h) (Or.inl ⟨by rfl, ?_⟩) hHeld ?_
      rotate_left
      · (intro W hSW; go_simp; try with_reducible rfl)
      try simp only [Act.put, List.setIfInBounds_toArray, List.set_cons_zero, List.set_cons_succ]
      refine wpAnyH_take (i := 25) (v := ?_) (ops_at rfl) (by kernel_rfl) (by kernel_rfl) (by kernel_rfl) (fun _ _ _ h => h) (Or.inl ⟨by rfl, ?_⟩) hHeld ?_
      rotate_left
      · (intro W hSW; go_simp; try with_reducible rfl)
      try simp only [Act.put, List.setIfInBounds_toArray, List.set_cons_zero, List.set_cons_succ]
      refine wpAnyH_take (i := 26) (v := ?_) (ops_at rfl) (by kernel_rfl) (by kernel_rfl) (by kernel_rfl) (fun _ _ _ h => h) (Or.inl ⟨by rfl, ?_⟩) hHeld ?_
      rotate_left
      · (intro W hSW; go_simp; try with_reducible rfl)
      try simp only [Act.put, List.setIfInBounds_toArray, List.set_cons_zero, List.set_cons_succ]
      refine wpAnyH_take (i := 27) (v := ?_) (ops_at rfl) (by kernel_rfl) (by kernel_rfl) (by kernel_rfl) (fun _ _ _ h => h) (Or.inl ⟨by rfl, ?_⟩) hHeld ?_
      rotate_left
      · (intro W hSW; go_simp; try with_reducible rfl)
      try simp only [Act.put, List.setIfInBounds_toArray, List.set_cons_zero, List.set_cons_succ]
      refine wpAnyH_take (i := 28) (v := ?_) (ops_at rfl) (by kernel_rfl) (by kernel_rfl) (by kernel_rfl) (fun _ _ _ h => h) (Or.inl ⟨by rfl, ?_⟩) hHeld ?_
      rotate_left
      · (intro W hSW; go_simp; try with_reducible rfl)
      try simp only [Act.put, List.setIfInBounds_toArray, List.set_cons_zero, List.set_cons_succ]
      refine wpAnyH_take (i := 29) (v := ?_) (ops_at rfl) (by kernel_rfl) (by kernel_rfl) (by kernel_rfl) (fun _ _ _ h => h) (Or.inl ⟨by rfl, ?_⟩) hHeld ?_
      rotate_left
      · (intro W hSW; go_simp; try with_reducible rfl)
      try simp only [Act.put, List.setIfInBounds_toArray, List.set_cons_zero, List.set_cons_succ]
      refine wpAnyH_take (i := 30) (v := ?_) (ops_at rfl) (by kernel_rfl) (by kernel_rfl) (by kernel_rfl) (fun _ _ _ h => h) (Or.inl ⟨by rfl, ?_⟩) hHeld ?_
      rotate_left
      · (intro W hSW; go_simp; try with_reducible rfl)
      try simp only [Act.put, List.setIfInBounds_toArray, List.set_cons_zero, List.set_cons_succ]
      refine wpAnyH_take (i := 31) (v := ?_) (ops_at rfl) (by kernel_rfl) (by kernel_rfl) (by kernel_rfl) (fun _ _ _ h => h) (Or.inl ⟨by rfl, ?_⟩) hHeld ?_
      rotate_left
      · (intro W hSW; go_simp; try with_reducible rfl)
      try simp only [Act.put, List.setIfInBounds_toArray, List.set_cons_zero, List.set_cons_succ]
      refine wpAnyH_take (i := 32) (v := ?_) (ops_at rfl) (by kernel_rfl) (by kernel_rfl) (by kernel_rfl) (fun _ _ _ h => h) (Or.inl ⟨by rfl, ?_⟩) hHeld ?_
      rotate_left
      · (intro W hSW; go_simp; try with_reducible rfl)
      try simp only [Act.put, List.setIfInBounds_toArray, List.set_cons_zero, List.set_cons_succ]
      refine wpAnyH_done (by kernel_rfl) ?_ _
      go_wp2
      go_ret
      exact ⟨rfl, hHeld.1⟩
    · go_simp
      refine hK.out _ _ (hHeld.alloc _) (fun hHeld => ?_)
      clear hK K
      try simp only [Act.put, List.setIfInBounds_toArray, List.set_cons_zero, List.set_cons_succ]
      refine wpAnyH_ready (rs := [2]) (by kernel_rfl) (by simp) ?_
      refine AllReadyH.cons (ops_at rfl) (fun K hK => ?_) AllReadyH.nil
      go_simp
      refine hK.out _ _ (hHeld.alloc _) (fun hHeld => ?_)
      clear hK K
      try simp only [Act.put, List.setIfInBounds_toArray, List.set_cons_zero, List.set_cons_succ]
      refine wpAnyH_ready (rs := [4]) (by kernel_rfl) (by simp) ?_
      refine AllReadyH.cons (ops_at rfl) (fun K hK => ?_) AllReadyH.nil
      rw [if_pos (by rfl)]
      refine wp_store_mid 25 (.tmp 9) (.tmp 23) rfl (V3.heap.size + 1) 0 (a.map bv).toArray rfl rfl (by rw [HA32.out]; exact (there2 V3 _ _ rfl rfl _ _).2.2) (by rw [List.size_toArray]; exact I25a) (all_oneCell_toArray (bvs_oneCell _)) ?_
      refine hK.out _ _ (hHeld.sets _ _ _ (by have := h3.1.size; omega) (fun p hp => by have := (h3.2 p hp).2; omega)) (fun hHeld => ?_)
      clear hK K
      try simp only [Act.put, List.setIfInBounds_toArray, List.set_cons_zero, List.set_cons_succ]
      refine wpAnyH_ready (rs := [5]) (by kernel_rfl) (by simp) ?_
      refine AllReadyH.cons (ops_at rfl) (fun K hK => ?_) AllReadyH.nil
      rw [if_pos (by rfl)]
      refine wp_store_mid 25 (.tmp 10) (.tmp 24) rfl (V3.heap.size) 0 (y.map bv).toArray rfl rfl (by rw [HY32.out]; exact World.there_setCells (there2 V3 _ _ rfl rfl _ _).1.2 _ _ _) (by rw [List.size_toArray]; exact I25y) (all_oneCell_toArray (bvs_oneCell _)) ?_
      refine hK.out _ _ (hHeld.sets _ _ _ (by have := h3.1.size; omega) (fun p hp => by have := (h3.2 p hp).2; omega)) (fun hHeld => ?_)
      clear hK K
      try simp only [Act.put, List.setIfInBounds_toArray, List.set_cons_zero, List.set_cons_succ]
      refine wpAnyH_done (by kernel_rfl) ?_ _
      refine gen_post (Held w ((V3.heap.size + 1, a.map bv) :: (V3.heap.size, y.map bv) :: ((V.heap.size, y.map bv) :: [(w.heap.size + 2, c.map bv), (w.heap.size + 1, [bv c0, bv c1]), (w.heap.size, a.map bv)]))) (held_two h3 (a.map bv) (y.map bv) (by rw [List.length_map, HA.out]) (by rw [List.length_map, HYL.out]) _ _ rfl rfl _ _ _ _ (by omega)) ?_
      rintro V4 h4
      clear hHeld
      obtain ⟨G9, e9⟩ : ∃ G, G = V3.heap.size + 1 := ⟨_, rfl⟩
      obtain ⟨G10, e10⟩ : ∃ G, G = V3.heap.size := ⟨_, rfl⟩
      rw [← e9, ← e10] at h4 ⊢
      clear e9 e10
      have KX : Hid (∀ W, Held w ((G9, a.map bv) :: (G10, y.map bv) :: ((V.heap.size, y.map bv) :: [(w.heap.size + 2, c.map bv), (w.heap.size + 1, [bv c0, bv c1]), (w.heap.size, a.map bv)])) W → Calls Tryd.prog 24 #[.agg (a.map bv).toArray] W fun e w' => e = .returned (.string X) ∧ Held w ((G9, a.map bv) :: (G10, y.map bv) :: ((V.heap.size, y.map bv) :: [(w.heap.size + 2, c.map bv), (w.heap.size + 1, [bv c0, bv c1]), (w.heap.size, a.map bv)])) w') := Lib.hid fun W h => (HX.out W).mono fun e w' ⟨he, hb⟩ => ⟨he, h.below hb⟩
      have KY : Hid (∀ W, Held w ((G9, a.map bv) :: (G10, y.map bv) :: ((V.heap.size, y.map bv) :: [(w.heap.size + 2, c.map bv), (w.heap.size + 1, [bv c0, bv c1]), (w.heap.size, a.map bv)])) W → Calls Tryd.prog 24 #[.agg (y.map bv).toArray] W fun e w' => e = .returned (.string Y) ∧ Held w ((G9, a.map bv) :: (G10, y.map bv) :: ((V.heap.size, y.map bv) :: [(w.heap.size + 2, c.map bv), (w.heap.size + 1, [bv c0, bv c1]), (w.heap.size, a.map bv)])) w') := Lib.hid fun W h => (HY.out W).mono fun e w' ⟨he, hb⟩ => ⟨he, h.below hb⟩
      have K1 : Hid (∀ W, Held w ((G9, a.map bv) :: (G10, y.map bv) :: ((V.heap.size, y.map bv) :: [(w.heap.size + 2, c.map bv), (w.heap.size + 1, [bv c0, bv c1]), (w.heap.size, a.map bv)])) W → Calls Tryd.prog 29 #[.agg (a.map bv).toArray, .agg (y.map bv).toArray] W fun e w' => e = .returned (.int .i64 _) ∧ Held w ((G9, a.map bv) :: (G10, y.map bv) :: ((V.heap.size, y.map bv) :: [(w.heap.size + 2, c.map bv), (w.heap.size + 1, [bv c0, bv c1]), (w.heap.size, a.map bv)])) w') := Lib.hid fun W h => (HC1.out W).mono fun e w' ⟨he, hb⟩ => ⟨he, h.below hb⟩
      have K2 : Hid (∀ W, Held w ((G9, a.map bv) :: (G10, y.map bv) :: ((V.heap.size, y.map bv) :: [(w.heap.size + 2, c.map bv), (w.heap.size + 1, [bv c0, bv c1]), (w.heap.size, a.map bv)])) W → Calls Tryd.prog 29 #[.agg (y.map bv).toArray, .agg (a.map bv).toArray] W fun e w' => e = .returned (.int .i64 _) ∧ Held w ((G9, a.map bv) :: (G10, y.map bv) :: ((V.heap.size, y.map bv) :: [(w.heap.size + 2, c.map bv), (w.heap.size + 1, [bv c0, bv c1]), (w.heap.size, a.map bv)])) w') := Lib.hid fun W h => (HC2.out W).mono fun e w' ⟨he, hb⟩ => ⟨he, h.below hb⟩
      have K3 : Hid (∀ W, Held w ((G9, a.map bv) :: (G10, y.map bv) :: ((V.heap.size, y.map bv) :: [(w.heap.size + 2, c.map bv), (w.heap.size + 1, [bv c0, bv c1]), (w.heap.size, a.map bv)])) W → Calls Tryd.prog 29 #[.agg (a.map bv).toArray, .agg (c.map bv).toArray] W fun e w' => e = .returned (.int .i64 q) ∧ Held w ((G9, a.map bv) :: (G10, y.map bv) :: ((V.heap.size, y.map bv) :: [(w.heap.size + 2, c.map bv), (w.heap.size + 1, [bv c0, bv c1]), (w.heap.size, a.map bv)])) w') := Lib.hid fun W h => (HC3.out W).mono fun e w' ⟨he, hb⟩ => ⟨he, h.below hb⟩
      have K4 : Hid (∀ W, Held w ((G9, a.map bv) :: (G10, y.map bv) :: ((V.heap.size, y.map bv) :: [(w.heap.size + 2, c.map bv), (w.heap.size + 1, [bv c0, bv c1]), (w.heap.size, a.map bv)])) W → Calls Tryd.prog 30 #[.agg (a.map bv).toArray, .agg (c.map bv).toArray] W fun e w' => e = .returned (.int .i64 q) ∧ Held w ((G9, a.map bv) :: (G10, y.map bv) :: ((V.heap.size, y.map bv) :: [(w.heap.size + 2, c.map bv), (w.heap.size + 1, [bv c0, bv c1]), (w.heap.size, a.map bv)])) w') := Lib.hid fun W h => (HC4.out W).mono fun e w' ⟨he, hb⟩ => ⟨he, h.below hb⟩
      have K0 : Hid (∀ W, Held w ((G9, a.map bv) :: (G10, y.map bv) :: ((V.heap.size, y.map bv) :: [(w.heap.size + 2, c.map bv), (w.heap.size + 1, [bv c0, bv c1]), (w.heap.size, a.map bv)])) W → Calls Tryd.prog 14 #[] W fun e w' => e = .returned (.bool true) ∧ Held w ((G9, a.map bv) :: (G10, y.map bv) :: ((V.heap.size, y.map bv) :: [(w.heap.size + 2, c.map bv), (w.heap.size + 1, [bv c0, bv c1]), (w.heap.size, a.map bv)])) w') := Lib.hid fun W h => (HK.out W (HT.out.below h.1 HT.out.1)).mono fun e w' ⟨he, hb⟩ => ⟨he, h.below hb⟩
      go_wp2_with fail
      refine wp_region_held_drew (S := Held w ((G9, a.map bv) :: (G10, y.map bv) :: ((V.heap.size, y.map bv) :: [(w.heap.size + 2, c.map bv), (w.heap.size + 1, [bv c0, bv c1]), (w.heap.size, a.map bv)]))) (by kernel_rfl) (h4.drew) (fun hHeld => ?_)
      refine wpAnyH_take (i := 0) (ops_at rfl) (by kernel_rfl) (by kernel_rfl) (by kernel_rfl) (fun _ _ _ h => h) (yieldsIf_load_mid (by rfl) 25 _ rfl (G9) 0 rfl (a.map bv) _ (fun _ h => (Held.arr (G := G9) (cs := a.map bv) h (by simp)).1) U25 rfl I25a) hHeld ?_
      try simp only [Act.put, List.setIfInBounds_toArray, List.set_cons_zero, List.set_cons_succ]
      refine wpAnyH_take (i := 2) (ops_at rfl) (by kernel_rfl) (by kernel_rfl) (by kernel_rfl) (fun _ _ _ h => h) (yieldsIf_load_mid (by rfl) 25 _ rfl (G10) 0 rfl (y.map bv) _ (fun _ h => (Held.arr (G := G10) (cs := y.map bv) h (by simp)).1) U25 rfl I25y) hHeld ?_
      try simp only [Act.put, List.setIfInBounds_toArray, List.set_cons_zero, List.set_cons_succ]
      refine wpAnyH_ready (rs := [1]) (by kernel_rfl) (by simp) ?_
      refine AllReadyH.cons (ops_at rfl) (fun K hK => ?_) AllReadyH.nil
      go_simp
      (go_at_call 24; refine (KX.out _ hHeld).mono ?_; rintro e W' ⟨rfl, hb'⟩)
      refine hK.out _ _ hb' (fun hHeld => ?_)
      clear hK K
      try simp only [Act.put, List.setIfInBounds_toArray, List.set_cons_zero, List.set_cons_succ]
      refine wpAnyH_ready (rs := [3]) (by kernel_rfl) (by simp) ?_
      refine AllReadyH.cons (ops_at rfl) (fun K hK => ?_) AllReadyH.nil
      go_simp
      (go_at_call 24; refine (KY.out _ hHeld).mono ?_; rintro e W' ⟨rfl, hb'⟩)
      refine hK.out _ _ hb' (fun hHeld => ?_)
      clear hK K
      try simp only [Act.put, List.setIfInBounds_toArray, List.set_cons_zero, List.set_cons_succ]
      refine wpAnyH_take (i := 4) (v := ?_) (ops_at rfl) (by kernel_rfl) (by kernel_rfl) (by kernel_rfl) (fun _ _ _ h => h) (Or.inl ⟨by rfl, ?_⟩) hHeld ?_
      rotate_left
      · (intro W hSW; go_simp; try with_reducible rfl)
      try simp only [Act.put, List.setIfInBounds_toArray, List.set_cons_zero, List.set_cons_succ]
      refine wpAnyH_done (by kernel_rfl) ?_ _
      go_wp2_with fail
      refine wp_region_held_drew (S := Held w ((G9, a.map bv) :: (G10, y.map bv) :: ((V.heap.size, y.map bv) :: [(w.heap.size + 2, c.map bv), (w.heap.size + 1, [bv c0, bv c1]), (w.heap.size, a.map bv)]))) (by kernel_rfl) (hHeld.drew) (fun hHeld => ?_)
      refine wpAnyH_take (i := 0) (ops_at rfl) (by kernel_rfl) (by kernel_rfl) (by kernel_rfl) (fun _ _ _ h => h) (yieldsIf_load_mid (by rfl) 25 _ rfl (G9) 0 rfl (a.map bv) _ (fun _ h => (Held.arr (G := G9) (cs := a.map bv) h (by simp)).1) U25 rfl I25a) hHeld ?_
      try simp only [Act.put, List.setIfInBounds_toArray, List.set_cons_zero, List.set_cons_succ]
      refine wpAnyH_take (i := 2) (ops_at rfl) (by kernel_rfl) (by kernel_rfl) (by kernel_rfl) (fun _ _ _ h => h) (yieldsIf_load_mid (by rfl) 25 _ rfl (G10) 0 rfl (y.map bv) _ (fun _ h => (Held.arr (G := G10) (cs := y.map bv) h (by simp)).1) U25 rfl I25y) hHeld ?_
      try simp only [Act.put, List.setIfInBounds_toArray, List.set_cons_zero, List.set_cons_succ]
      refine wpAnyH_ready (rs := [1]) (by kernel_rfl) (by simp) ?_
      refine AllReadyH.cons (ops_at rfl) (fun K hK => ?_) AllReadyH.nil
      go_simp
      (go_at_call 24; refine (KX.out _ hHeld).mono ?_; rintro e W' ⟨rfl, hb'⟩)
      refine hK.out _ _ hb' (fun hHeld => ?_)
      clear hK K
      try simp only [Act.put, List.setIfInBounds_toArray, List.set_cons_zero, List.set_cons_succ]
      refine wpAnyH_ready (rs := [3]) (by kernel_rfl) (by simp) ?_
      refine AllReadyH.cons (ops_at rfl) (fun K hK => ?_) AllReadyH.nil
      go_simp
      (go_at_call 24; refine (KY.out _ hHeld).mono ?_; rintro e W' ⟨rfl, hb'⟩)
      refine hK.out _ _ hb' (fun hHeld => ?_)
      clear hK K
      try simp only [Act.put, List.setIfInBounds_toArray, List.set_cons_zero, List.set_cons_succ]
      refine wpAnyH_take (i := 4) (v := ?_) (ops_at rfl) (by kernel_rfl) (by kernel_rfl) (by kernel_rfl) (fun _ _ _ h => h) (Or.inl ⟨by rfl, ?_⟩) hHeld ?_
      rotate_left
      · (intro W hSW; go_simp; try with_reducible rfl)
      try simp only [Act.put, List.setIfInBounds_toArray, List.set_cons_zero, List.set_cons_succ]
      refine wpAnyH_done (by kernel_rfl) ?_ _
      go_wp2_with fail
      refine wp_region_held_drew (S := Held w ((G9, a.map bv) :: (G10, y.map bv) :: ((V.heap.size, y.map bv) :: [(w.heap.size + 2, c.map bv), (w.heap.size + 1, [bv c0, bv c1]), (w.heap.size, a.map bv)]))) (by kernel_rfl) (hHeld.drew) (fun hHeld => ?_)
      refine wpAnyH_ready (rs := [0]) (by kernel_rfl) (by simp) ?_
      refine AllReadyH.cons (ops_at rfl) (fun K hK => ?_) AllReadyH.nil
      go_simp
      (go_at_call 14; refine (K0.out _ hHeld).mono ?_; rintro e W' ⟨rfl, hb'⟩)
      refine hK.out _ _ hb' (fun hHeld => ?_)
      clear hK K
      try simp only [Act.put, List.setIfInBounds_toArray, List.set_cons_zero, List.set_cons_succ]
      refine wpAnyH_take (i := 1) (v := ?_) (ops_at rfl) (by kernel_rfl) (by kernel_rfl) (by kernel_rfl) (fun _ _ _ h => h) (Or.inl ⟨by rfl, ?_⟩) hHeld ?_
      rotate_left
      · (intro W hSW; go_simp; try with_reducible rfl)
      try simp only [Act.put, List.setIfInBounds_toArray, List.set_cons_zero, List.set_cons_succ]
      refine wpAnyH_take (i := 2) (ops_at rfl) (by kernel_rfl) (by kernel_rfl) (by kernel_rfl) (fun _ _ _ h => h) (yieldsIf_load_mid (by rfl) 25 _ rfl (G9) 0 rfl (a.map bv) _ (fun _ h => (Held.arr (G := G9) (cs := a.map bv) h (by simp)).1) U25 rfl I25a) hHeld ?_
      try simp only [Act.put, List.setIfInBounds_toArray, List.set_cons_zero, List.set_cons_succ]
      refine wpAnyH_take (i := 3) (ops_at rfl) (by kernel_rfl) (by kernel_rfl) (by kernel_rfl) (fun _ _ _ h => h) (yieldsIf_load_mid (by rfl) 25 _ rfl (G10) 0 rfl (y.map bv) _ (fun _ h => (Held.arr (G := G10) (cs := y.map bv) h (by simp)).1) U25 rfl I25y) hHeld ?_
      try simp only [Act.put, List.setIfInBounds_toArray, List.set_cons_zero, List.set_cons_succ]
      refine wpAnyH_take (i := 5) (v := ?_) (ops_at rfl) (by kernel_rfl) (by kernel_rfl) (by kernel_rfl) (fun _ _ _ h => h) (Or.inl ⟨by rfl, ?_⟩) hHeld ?_
      rotate_left
      · (intro W hSW; go_simp; try with_reducible rfl)
      try simp only [Act.put, List.setIfInBounds_toArray, List.set_cons_zero, List.set_cons_succ]
      refine wpAnyH_ready (rs := [4]) (by kernel_rfl) (by simp) ?_
      refine AllReadyH.cons (ops_at rfl) (fun K hK => ?_) AllReadyH.nil
      go_simp
      (go_at_call 29; refine (K1.out _ hHeld).mono ?_; rintro e W' ⟨rfl, hb'⟩)
      refine hK.out _ _ hb' (fun hHeld => ?_)
      clear hK K
      try simp only [Act.put, List.setIfInBounds_toArray, List.set_cons_zero, List.set_cons_succ]
      refine wpAnyH_take (i := 6) (v := ?_) (ops_at rfl) (by kernel_rfl) (by kernel_rfl) (by kernel_rfl) (fun _ _ _ h => h) (Or.inl ⟨by rfl, ?_⟩) hHeld ?_
      rotate_left
      · (intro W hSW; go_simp; try with_reducible rfl)
      try simp only [Act.put, List.setIfInBounds_toArray, List.set_cons_zero, List.set_cons_succ]
      refine wpAnyH_take (i := 7) (v := ?_) (ops_at rfl) (by kernel_rfl) (by kernel_rfl) (by kernel_rfl) (fun _ _ _ h => h) (Or.inl ⟨by rfl, ?_⟩) hHeld ?_
      rotate_left
      · (intro W hSW; go_simp; try with_reducible rfl)
      try simp only [Act.put, List.setIfInBounds_toArray, List.set_cons_zero, List.set_cons_succ]
      refine wpAnyH_take (i := 8) (v := ?_) (ops_at rfl) (by kernel_rfl) (by kernel_rfl) (by kernel_rfl) (fun _ _ _ h => h) (Or.inl ⟨by rfl, ?_⟩) hHeld ?_
      rotate_left
      · (intro W hSW; go_simp; try with_reducible rfl)
      try simp only [Act.put, List.setIfInBounds_toArray, List.set_cons_zero, List.set_cons_succ]
      refine wpAnyH_take (i := 9) (ops_at rfl) (by kernel_rfl) (by kernel_rfl) (by kernel_rfl) (fun _ _ _ h => h) (yieldsIf_load_mid (by rfl) 25 _ rfl (G10) 0 rfl (y.map bv) _ (fun _ h => (Held.arr (G := G10) (cs := y.map bv) h (by simp)).1) U25 rfl I25y) hHeld ?_
      try simp only [Act.put, List.setIfInBounds_toArray, List.set_cons_zero, List.set_cons_succ]
      refine wpAnyH_take (i := 10) (ops_at rfl) (by kernel_rfl) (by kernel_rfl) (by kernel_rfl) (fun _ _ _ h => h) (yieldsIf_load_mid (by rfl) 25 _ rfl (G9) 0 rfl (a.map bv) _ (fun _ h => (Held.arr (G := G9) (cs := a.map bv) h (by simp)).1) U25 rfl I25a) hHeld ?_
      try simp only [Act.put, List.setIfInBounds_toArray, List.set_cons_zero, List.set_cons_succ]
      refine wpAnyH_take (i := 12) (v := ?_) (ops_at rfl) (by kernel_rfl) (by kernel_rfl) (by kernel_rfl) (fun _ _ _ h => h) (Or.inl ⟨by rfl, ?_⟩) hHeld ?_
      rotate_left
      · (intro W hSW; go_simp; try with_reducible rfl)
      try simp only [Act.put, List.setIfInBounds_toArray, List.set_cons_zero, List.set_cons_succ]
      refine wpAnyH_take (i := 13) (v := ?_) (ops_at rfl) (by kernel_rfl) (by kernel_rfl) (by kernel_rfl) (fun _ _ _ h => h) (Or.inl ⟨by rfl, ?_⟩) hHeld ?_
      rotate_left
      · (intro W hSW; go_simp; try with_reducible rfl)
      try simp only [Act.put, List.setIfInBounds_toArray, List.set_cons_zero, List.set_cons_succ]
      refine wpAnyH_ready (rs := [11]) (by kernel_rfl) (by simp) ?_
      refine AllReadyH.cons (ops_at rfl) (fun K hK => ?_) AllReadyH.nil
      go_simp
      (go_at_call 29; refine (K2.out _ hHeld).mono ?_; rintro e W' ⟨rfl, hb'⟩)
      refine hK.out _ _ hb' (fun hHeld => ?_)
      clear hK K
      try simp only [Act.put, List.setIfInBounds_toArray, List.set_cons_zero, List.set_cons_succ]
      refine wpAnyH_take (i := 14) (v := ?_) (ops_at rfl) (by kernel_rfl) (by kernel_rfl) (by kernel_rfl) (fun _ _ _ h => h) (Or.inl ⟨by rfl, ?_⟩) hHeld ?_
      rotate_left
      · (intro W hSW; go_simp; try with_reducible rfl)
      try simp only [Act.put, List.setIfInBounds_toArray, List.set_cons_zero, List.set_cons_succ]
      refine wpAnyH_take (i := 15) (v := ?_) (ops_at rfl) (by kernel_rfl) (by kernel_rfl) (by kernel_rfl) (fun _ _ _ h => h) (Or.inl ⟨by rfl, ?_⟩) hHeld ?_
      rotate_left
      · (intro W hSW; go_simp; try with_reducible rfl)
      try simp only [Act.put, List.setIfInBounds_toArray, List.set_cons_zero, List.set_cons_succ]
      refine wpAnyH_take (i := 16) (v := ?_) (ops_at rfl) (by kernel_rfl) (by kernel_rfl) (by kernel_rfl) (fun _ _ _ h => h) (Or.inl ⟨by rfl, ?_⟩) hHeld ?_
      rotate_left
      · (intro W hSW; go_simp; try with_reducible rfl)
      try simp only [Act.put, List.setIfInBounds_toArray, List.set_cons_zero, List.set_cons_succ]
      refine wpAnyH_take (i := 17) (ops_at rfl) (by kernel_rfl) (by kernel_rfl) (by kernel_rfl) (fun _ _ _ h => h) (yieldsIf_load_mid (by rfl) 25 _ rfl (G9) 0 rfl (a.map bv) _ (fun _ h => (Held.arr (G := G9) (cs := a.map bv) h (by simp)).1) U25 rfl I25a) hHeld ?_
      try simp only [Act.put, List.setIfInBounds_toArray, List.set_cons_zero, List.set_cons_succ]
      refine wpAnyH_take (i := 18) (ops_at rfl) (by kernel_rfl) (by kernel_rfl) (by kernel_rfl) (fun _ _ _ h => h) (yieldsIf_load_mid (by rfl) 24 _ rfl (w.heap.size + 2) 0 rfl (c.map bv) _ (fun _ h => (Held.arr (G := w.heap.size + 2) (cs := c.map bv) h (by simp)).1) U24 rfl I24c) hHeld ?_
      try simp only [Act.put, List.setIfInBounds_toArray, List.set_cons_zero, List.set_cons_succ]
      refine wpAnyH_take (i := 20) (ops_at rfl) (by kernel_rfl) (by kernel_rfl) (by kernel_rfl) (fun _ _ _ h => h) (yieldsIf_load_mid (by rfl) 24 _ rfl (w.heap.size) 0 rfl (a.map bv) _ (fun _ h => (Held.arr (G := w.heap.size) (cs := a.map bv) h (by simp)).1) U24 rfl I24a) hHeld ?_
      try simp only [Act.put, List.setIfInBounds_toArray, List.set_cons_zero, List.set_cons_succ]
      refine wpAnyH_take (i := 21) (ops_at rfl) (by kernel_rfl) (by kernel_rfl) (by kernel_rfl) (fun _ _ _ h => h) (yieldsIf_load_mid (by rfl) 24 _ rfl (w.heap.size + 2) 0 rfl (c.map bv) _ (fun _ h => (Held.arr (G := w.heap.size + 2) (cs := c.map bv) h (by simp)).1) U24 rfl I24c) hHeld ?_
      try simp only [Act.put, List.setIfInBounds_toArray, List.set_cons_zero, List.set_cons_succ]
      refine wpAnyH_ready (rs := [19]) (by kernel_rfl) (by simp) ?_
      refine AllReadyH.cons (ops_at rfl) (fun K hK => ?_) AllReadyH.nil
      go_simp
      (go_at_call 29; refine (K3.out _ hHeld).mono ?_; rintro e W' ⟨rfl, hb'⟩)
      refine hK.out _ _ hb' (fun hHeld => ?_)
      clear hK K
      try simp only [Act.put, List.setIfInBounds_toArray, List.set_cons_zero, List.set_cons_succ]
      refine wpAnyH_ready (rs := [22]) (by kernel_rfl) (by simp) ?_
      refine AllReadyH.cons (ops_at rfl) (fun K hK => ?_) AllReadyH.nil
      go_simp
      (go_at_call 30; refine (K4.out _ hHeld).mono ?_; rintro e W' ⟨rfl, hb'⟩)
      refine hK.out _ _ hb' (fun hHeld => ?_)
      clear hK K
      try simp only [Act.put, List.setIfInBounds_toArray, List.set_cons_zero, List.set_cons_succ]
      refine wpAnyH_take (i := 23) (v := ?_) (ops_at rfl) (by kernel_rfl) (by kernel_rfl) (by kernel_rfl) (fun _ _ _ h => h) (Or.inl ⟨by rfl, ?_⟩) hHeld ?_
      rotate_left
      · (intro W hSW; go_simp; try with_reducible rfl)
      try simp only [Act.put, List.setIfInBounds_toArray, List.set_cons_zero, List.set_cons_succ]
      refine wpAnyH_take (i := 24) (v := ?_) (ops_at rfl) (by kernel_rfl) (by kernel_rfl) (by kernel_rfl) (fun _ _ _ h => h) (Or.inl ⟨by rfl, ?_⟩) hHeld ?_
      rotate_left
      · (intro W hSW; go_simp; try with_reducible rfl)
      try simp only [Act.put, List.setIfInBounds_toArray, List.set_cons_zero, List.set_cons_succ]
      refine wpAnyH_take (i := 25) (v := ?_) (ops_at rfl) (by kernel_rfl) (by kernel_rfl) (by kernel_rfl) (fun _ _ _ h => h) (Or.inl ⟨by rfl, ?_⟩) hHeld ?_
      rotate_left
      · (intro W hSW; go_simp; try with_reducible rfl)
      try simp only [Act.put, List.setIfInBounds_toArray, List.set_cons_zero, List.set_cons_succ]
      refine wpAnyH_take (i := 26) (v := ?_) (ops_at rfl) (by kernel_rfl) (by kernel_rfl) (by kernel_rfl) (fun _ _ _ h => h) (Or.inl ⟨by rfl, ?_⟩) hHeld ?_
      rotate_left
      · (intro W hSW; go_simp; try with_reducible rfl)
      try simp only [Act.put, List.setIfInBounds_toArray, List.set_cons_zero, List.set_cons_succ]
      refine wpAnyH_take (i := 27) (v := ?_) (ops_at rfl) (by kernel_rfl) (by kernel_rfl) (by kernel_rfl) (fun _ _ _ h => h) (Or.inl ⟨by rfl, ?_⟩) hHeld ?_
      rotate_left
      · (intro W hSW; go_simp; try with_reducible rfl)
      try simp only [Act.put, List.setIfInBounds_toArray, List.set_cons_zero, List.set_cons_succ]
      refine wpAnyH_take (i := 28) (v := ?_) (ops_at rfl) (by kernel_rfl) (by kernel_rfl) (by kernel_rfl) (fun _ _ _ h => h) (Or.inl ⟨by rfl, ?_⟩) hHeld ?_
      rotate_left
      · (intro W hSW; go_simp; try with_reducible rfl)
      try simp only [Act.put, List.setIfInBounds_toArray, List.set_cons_zero, List.set_cons_succ]
      refine wpAnyH_take (i := 29) (v := ?_) (ops_at rfl) (by kernel_rfl) (by kernel_rfl) (by kernel_rfl) (fun _ _ _ h => h) (Or.inl ⟨by rfl, ?_⟩) hHeld ?_
      rotate_left
      · (intro W hSW; go_simp; try with_reducible rfl)
      try simp only [Act.put, List.setIfInBounds_toArray, List.set_cons_zero, List.set_cons_succ]
      refine wpAnyH_take (i := 30) (v := ?_) (ops_at rfl) (by kernel_rfl) (by kernel_rfl) (by kernel_rfl) (fun _ _ _ h => h) (Or.inl ⟨by rfl, ?_⟩) hHeld ?_
      rotate_left
      · (intro W hSW; go_simp; try with_reducible rfl)
      try simp only [Act.put, List.setIfInBounds_toArray, List.set_cons_zero, List.set_cons_succ]
      refine wpAnyH_take (i := 31) (v := ?_) (ops_at rfl) (by kernel_rfl) (by kernel_rfl) (by kernel_rfl) (fun _ _ _ h => h) (Or.inl ⟨by rfl, ?_⟩) hHeld ?_
      rotate_left
      · (intro W hSW; go_simp; try with_reducible rfl)
      try simp only [Act.put, List.setIfInBounds_toArray, List.set_cons_zero, List.set_cons_succ]
      refine wpAnyH_take (i := 32) (v := ?_) (ops_at rfl) (by kernel_rfl) (by kernel_rfl) (by kernel_rfl) (fun _ _ _ h => h) (Or.inl ⟨by rfl, ?_⟩) hHeld ?_
      rotate_left
      · (intro W hSW; go_simp; try with_reducible rfl)
      try simp only [Act.put, List.setIfInBounds_toArray, List.set_cons_zero, List.set_cons_succ]
      refine wpAnyH_done (by kernel_rfl) ?_ _
      go_wp2
      go_ret
      exact ⟨rfl, hHeld.1⟩
end Go.Proofs.YtedmnepilbfihaaDoor
