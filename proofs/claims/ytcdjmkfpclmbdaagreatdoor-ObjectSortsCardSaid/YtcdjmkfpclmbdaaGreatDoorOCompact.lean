/- object: slices.Compact over lists of names. -/
import Derived.Test.YtcdjmkfpclmbdaaGreatDoorOSortB
import Derived.Test.YtcdjmkfpclmbdaaGreatDoorQStore
import Derived.Test.YtcdjmkfpclmbdaaGreatDoorOEqN
set_option linter.unusedVariables false
namespace Go.Proofs.YtcdjmkfpclmbdaaGreatDoor
open Go.RowKit

abbrev OS (w : World) (base : Nat) (v : Value) (l : List NmS) : Prop := OQ encS 5 28 w base v l
set_option maxHeartbeats 1000000 in
set_option maxRecDepth 100000 in
theorem compactS_short (base : Nat) (A : Option Addr) (n c : Nat) (w : World) (hn : n < 2) :
    Calls Tryz.prog 52 #[.slice A n c] w fun e w' => e = .returned (.slice A n c) ∧ w' = w := by
  have h1 : (n : Int) < 2 := by omega
  go_enter Tryz.func52, Tryz.ntmps52
  go_wp2
  go_ret
  exact ⟨rfl, rfl⟩
/-- An element as a value. -/
def valS (x : NmS) : Value := .agg (encS x).toArray
theorem valS_nm (x : NmS) : valS x = nmV x.1.kind (sv x.1.owner) x.1.num x.1.idx (sv x.1.text) := rfl
/-- An element of the list as it is loaded. -/
theorem range_at (w : World) (base g n cap : Nat) (l : List NmS) (ho : OS w base (.slice (some ⟨g, 0, none⟩) n cap) l) (j o : Nat) (x : NmS) (hx : l[j]? = some x) (h : o = j * 5) :
    w.rangeAt g o (encS x) := by
  obtain ⟨A, cap', hv, hr, _⟩ := OQ.form encS_ok ho
  cases hv
  obtain ⟨b, off, e, _, hc⟩ := hr (by have := (List.getElem?_eq_some_iff.1 hx).1; omega)
  cases e
  subst h
  have h1 := hc j x hx
  rwa [Nat.zero_add] at h1
theorem nm_info (x : NmS) : (Tryz.prog.info? 28).map (·.size) = some (encS x).length := by
  obtain ⟨i, hi, hz, hs, hb⟩ := info_parts infoNameZ
  rw [hi]; simp [hs, encS]
theorem sv_inj {a b : List UInt8} (h : sv a = sv b) : a = b := by
  have := congrArg (fun x => x.toList) h
  simpa using this
theorem nmS_ne {x y : NmS} (h : x ≠ y) : ¬ (x.1.kind = y.1.kind ∧ sv x.1.owner = sv y.1.owner ∧ x.1.num = y.1.num ∧ x.1.idx = y.1.idx ∧ sv x.1.text = sv y.1.text) := fun h0 => h (Subtype.ext (nm_ext ⟨h0.1, sv_inj h0.2.1, h0.2.2.1, h0.2.2.2.1, sv_inj h0.2.2.2.2⟩))
theorem eqS_same (x : NmS) (W : World) : (binOp .eql 28 (valS x) (valS x)).run Tryz.prog W = .ok (.bool true) W := by
  rw [valS_nm, eq_nm, decide_eq_true ⟨rfl, rfl, rfl, rfl, rfl⟩]
theorem eqS_ne {x y : NmS} (h : x ≠ y) (W : World) : (binOp .eql 28 (valS x) (valS y)).run Tryz.prog W = .ok (.bool false) W := by
  rw [valS_nm, valS_nm, eq_nm, decide_eq_false (nmS_ne h)]
theorem neq_of {t : TypeId} {a b : Array Value} {c : Bool} {W : World} (h : (binOp .eql t (.agg a) (.agg b)).run Tryz.prog W = .ok (.bool c) W) : (binOp .neq t (.agg a) (.agg b)).run Tryz.prog W = .ok (.bool (!c)) W := by
  rw [run_eql_struct] at h
  rw [run_neq_struct]
  revert h
  cases (Op.equalIn 10000 t (.agg a) (.agg b)).run Tryz.prog W <;> simp [Result.andThen]
theorem neS_same (x : NmS) (W : World) : (binOp .neq 28 (valS x) (valS x)).run Tryz.prog W = .ok (.bool false) W := neq_of (eqS_same x W)
theorem neS_ne {x y : NmS} (h : x ≠ y) (W : World) : (binOp .neq 28 (valS x) (valS y)).run Tryz.prog W = .ok (.bool true) W := neq_of (eqS_ne h W)
theorem guardS (op : BinOp) (a b : Operand) (x y : NmS) (W : World) : (eqGuard op 28 a b (valS x) (valS y)).run Tryz.prog W = .ok () W := run_eqGuard_agg _ op _ a b _ _ (by kernel_rfl)

theorem zeroS (w : World) : (zeroValue 28).run Tryz.prog w = .ok (.agg #[.int .i64 0, .string ByteArray.empty, .int .i64 0, .int .i64 0, .string ByteArray.empty]) w := by
  obtain ⟨i, hi, hz, hs, hb⟩ := info_parts infoNameZ
  simp [zeroValue, typeInfo, hi, hz]
theorem zeroS_one : ∀ u ∈ (Value.agg #[.int .i64 0, .string ByteArray.empty, .int .i64 0, .int .i64 0, .string ByteArray.empty]).cells, u.oneCell' = true := by
  intro u hu
  simp only [Value.cells, List.mem_toArray, List.mem_cons, List.not_mem_nil, or_false] at hu
  rcases hu with rfl | rfl | rfl | rfl | rfl <;> rfl
/-- Before two equal ones are met. -/
def C1 (w : World) (base g n cap : Nat) (l : List NmS) (W : World) : Prop := OS W base (.slice (some ⟨g, 0, none⟩) n cap) l ∧ Below base w W
theorem C1.drew {w W : World} {base g n cap : Nat} {l : List NmS} (h : C1 w base g n cap l W) : C1 w base g n cap l W.drew := ⟨h.1, h.2.drew⟩
/-- Behind two equal ones: q elements are kept of the first m. -/
def C2 (w : World) (base g n cap : Nat) (l : List NmS) (q m : Nat) (W : World) : Prop :=
  ∃ R : List NmS, OS W base (.slice (some ⟨g, 0, none⟩) n cap) R ∧ R.length = n ∧ Below base w W ∧ R.take q = ddC cS (l.take m) ∧ q < m ∧ ∀ i, m - 1 ≤ i → R[i]? = l[i]?
theorem C2.drew {w W : World} {base g n cap q m : Nat} {l : List NmS} (h : C2 w base g n cap l q m W) : C2 w base g n cap l q m W.drew := by
  obtain ⟨R, h1, h2, h3, h4, h5, h6⟩ := h
  exact ⟨R, h1, h2, h3.drew, h4, h5, h6⟩
theorem C2.lt {w W : World} {base g n cap q m : Nat} {l : List NmS} (h : C2 w base g n cap l q m W) : q < m := by
  obtain ⟨R, h1, h2, h3, h4, h5, h6⟩ := h
  exact h5
theorem C2.range {w W : World} {base g n cap q m : Nat} {l : List NmS} (h : C2 w base g n cap l q m W) (j o : Nat) (x : NmS) (hx : l[j]? = some x) (hj : m - 1 ≤ j) (ho : o = j * 5) : W.rangeAt g o (encS x) := by
  obtain ⟨R, h1, h2, h3, h4, h5, h6⟩ := h
  exact range_at W base g n cap R h1 j o x (by rw [h6 j hj]; exact hx) ho
theorem C2.same {w W : World} {base g n cap q m i : Nat} {l : List NmS} {x : NmS} (h : C2 w base g n cap l q m W) (hx : l[i]? = some x) (hy : l[m]? = some x) (hm : i + 1 = m) : C2 w base g n cap l q (m + 1) W := by
  obtain ⟨R, h1, h2, h3, h4, h5, h6⟩ := h
  subst hm
  exact ⟨R, h1, h2, h3, by rw [dd_same hx hy]; exact h4, by omega, fun j hj => h6 j (by omega)⟩
theorem C2.new {w W : World} {base g n cap q m i : Nat} {l : List NmS} {x y : NmS} (h : C2 w base g n cap l q m W) (hx : l[i]? = some x) (hy : l[m]? = some y) (hm : i + 1 = m) (hxy : x ≠ y) (hmn : m < n) :
    C2 w base g n cap l (q + 1) (m + 1) (W.setCells g (q * 5) (encS y)) ∧ W.there g (q * 5) (encS y).length := by
  obtain ⟨R, h1, h2, h3, h4, h5, h6⟩ := h
  subst hm
  have hs := OQ.set encS_ok h1 q y (by omega)
  refine ⟨⟨R.set q y, hs.1, by rw [List.length_set]; exact h2, h3.trans hs.2.1, ?_, by omega, fun j hj => ?_⟩, hs.2.2⟩
  · rw [dd_new hx hy hxy, ← h4, List.take_add_one, List.getElem?_set_self (by omega), List.take_set_of_le (Nat.le_refl _)]; rfl
  · rw [List.getElem?_set_ne (by omega)]; exact h6 j (by omega)
theorem C2.done {w W : World} {base g n cap q : Nat} {l : List NmS} (h : C2 w base g n cap l q n W) (hn : n = l.length) (vs : List Value) :
    OS (W.setCells g (q * 5) vs) base (.slice (some ⟨g, 0, none⟩) q cap) (ddC cS l) ∧ Below base w (W.setCells g (q * 5) vs) ∧ W.there g (q * 5) ((n - q) * 5) := by
  obtain ⟨R, h1, h2, h3, h4, h5, h6⟩ := h
  have hc := OQ.cut encS_ok h1 q (by omega)
  have hl : (R.take q).length = q := by rw [List.length_take]; omega
  have ho := OQ.outer encS_ok hc (q * 5) vs (by rw [hl]; exact Nat.le_refl _)
  rw [h4, List.take_of_length_le (by omega)] at ho
  have hg : base ≤ g := by
    rcases h1.2 with ⟨e, _⟩ | ⟨g', _, _, e, hb, _⟩
    · cases e
    · cases e; exact hb
  exact ⟨ho, h3.trans (below_setCells g hg _ _ _ (Below.refl _ _)), OQ.there h1 _ _ (by rw [h2, ← Nat.add_mul]; exact Nat.mul_le_mul_right 5 (by omega))⟩
set_option maxHeartbeats 8000000 in
set_option maxRecDepth 100000 in
theorem compactS_long (base g n cap : Nat) (l : List NmS) (w : World) (hn : n = l.length) (h2 : 2 ≤ n) (ho : OS w base (.slice (some ⟨g, 0, none⟩) n cap) l) (hll : l.length ≤ 1000000) (hcap : n ≤ cap) (hcm : cap ≤ maxLen) :
    Calls Tryz.prog 52 #[.slice (some ⟨g, 0, none⟩) n cap] w fun e w' => ∃ v', e = .returned v' ∧ OS w' base v' (ddC cS l) ∧ Below base w w' := by
  have HN := Lib.hid hn
  have HS0 := Lib.hid (show C1 w base g n cap l w from ⟨ho, Below.refl _ _⟩)
  have h1 : ¬ (n : Int) < 2 := by omega
  have hdd : ddC cS (l.take 1) = l.take 1 := by
    cases l with
    | nil => simp [ddC]
    | cons a r => simp [ddC]
  have HDD := Lib.hid hdd
  have HLL := Lib.hid hll
  clear ho hn hdd hll
  go_enter Tryz.func52, Tryz.ntmps52
  go_wp2
  go_loopw [3] (fun i wr => ∃ k : Nat, i = .int .i64 k ∧ 1 ≤ k ∧ k ≤ n ∧ C1 w base g n cap l wr ∧ ddC cS (l.take k) = l.take k) (fun i _ => n - (intOf i).toNat)
  case atStart => exact ⟨1, rfl, by omega, by omega, HS0.out, HDD.out⟩
  case round =>
    obtain ⟨k, rfl, hk1, hkn, hS, hd⟩ := hrel
    have HD := Lib.hid hd
    have HS := Lib.hid hS
    clear hd hS
    by_cases hlt : k < n
    · have h3 : (k : Int) < (n : Int) := by omega
      obtain ⟨m, hm⟩ : ∃ m, m + 1 = k := ⟨k - 1, by omega⟩
      have hkm : (k : Int) - 1 = (m : Int) := by omega
      have hmn : (m : Int) < (n : Int) := by omega
      have hmn' : m < n := by omega
      have hml : n ≤ 1000000 := by rw [HN.out]; exact HLL.out
      have HM := Lib.hid hm
      have hwm : IntKind.i64.wrap (m : Int) = (m : Int) := by rw [IntKind.wrap_i64]; omega
      obtain ⟨y, hy⟩ : ∃ y, l[k]? = some y := ⟨_, List.getElem?_eq_getElem (by rw [← HN.out]; omega)⟩
      obtain ⟨x, hx⟩ : ∃ x, l[m]? = some x := ⟨_, List.getElem?_eq_getElem (by rw [← HN.out]; omega)⟩
      have HX := Lib.hid hx
      have HY := Lib.hid hy
      clear hx hy hm
      have rkx : ∀ V, C1 w base g n cap l V → V.rangeAt g (m * 5) (encS x) := fun V hV => range_at V base g n cap l hV.1 m _ x HX.out rfl
      have rky : ∀ V, C1 w base g n cap l V → V.rangeAt g (k * 5) (encS y) := fun V hV => range_at V base g n cap l hV.1 k _ y HY.out rfl
      by_cases hxy : y = x
      · subst hxy
        have hq := fun V => eqS_same y V
        have hg := fun V => guardS .eql (.tmp 19) (.tmp 24) y y V
        go_wp2
        refine wp_region_held_drew (S := C1 w base g n cap l) (by kernel_rfl) (HS.out.drew) (fun hHeld => ?_)
        refine wpAnyH_take (i := 0) (v := ?_) (ops_atL rfl) (by kernel_rfl) (by kernel_rfl) (by kernel_rfl) (fun _ _ _ h => h) (Or.inl ⟨by rfl, ?_⟩) hHeld ?_
        rotate_left
        · (intro W hSW; go_simp; try with_reducible rfl)
        try simp only [Act.put, List.setIfInBounds_toArray, List.set_cons_zero, List.set_cons_succ]
        refine wpAnyH_take (i := 1) (v := ?_) (ops_atL rfl) (by kernel_rfl) (by kernel_rfl) (by kernel_rfl) (fun _ _ _ h => h) (Or.inl ⟨by rfl, ?_⟩) hHeld ?_
        rotate_left
        · (intro W hSW; go_simp; try with_reducible rfl)
        try simp only [Act.put, List.setIfInBounds_toArray, List.set_cons_zero, List.set_cons_succ]
        refine wpAnyH_take (i := 2) (v := ?_) (ops_atL rfl) (by kernel_rfl) (by kernel_rfl) (by kernel_rfl) (fun _ _ _ h => h) (Or.inl ⟨by rfl, ?_⟩) hHeld ?_
        rotate_left
        · (intro W hSW; go_simp; try with_reducible rfl)
        try simp only [Act.put, List.setIfInBounds_toArray, List.set_cons_zero, List.set_cons_succ]
        refine wpAnyH_take (i := 3) (v := valS y) (ops_atL rfl) (by kernel_rfl) (by kernel_rfl) (by kernel_rfl) (fun _ _ _ h => h) (yieldsIf_load_mid (by rfl) 28 (.tmp 18) rfl g (k * 5) (by rfl) (encS y) _ rky Tryz.underlying28 rfl (nm_info _)) hHeld ?_
        try simp only [Act.put, List.setIfInBounds_toArray, List.set_cons_zero, List.set_cons_succ]
        refine wpAnyH_take (i := 4) (v := ?_) (ops_atL rfl) (by kernel_rfl) (by kernel_rfl) (by kernel_rfl) (fun _ _ _ h => h) (Or.inl ⟨by rfl, ?_⟩) hHeld ?_
        rotate_left
        · (intro W hSW; go_simp; try with_reducible rfl)
        try simp only [Act.put, List.setIfInBounds_toArray, List.set_cons_zero, List.set_cons_succ]
        refine wpAnyH_take (i := 5) (v := ?_) (ops_atL rfl) (by kernel_rfl) (by kernel_rfl) (by kernel_rfl) (fun _ _ _ h => h) (Or.inl ⟨by rfl, ?_⟩) hHeld ?_
        rotate_left
        · (intro W hSW; go_simp; try with_reducible rfl)
        try simp only [Act.put, List.setIfInBounds_toArray, List.set_cons_zero, List.set_cons_succ]
        refine wpAnyH_take (i := 6) (v := ?_) (ops_atL rfl) (by kernel_rfl) (by kernel_rfl) (by kernel_rfl) (fun _ _ _ h => h) (Or.inl ⟨by rfl, ?_⟩) hHeld ?_
        rotate_left
        · (intro W hSW; go_simp; try with_reducible rfl)
        try simp only [Act.put, List.setIfInBounds_toArray, List.set_cons_zero, List.set_cons_succ]
        refine wpAnyH_take (i := 7) (v := ?_) (ops_atL rfl) (by kernel_rfl) (by kernel_rfl) (by kernel_rfl) (fun _ _ _ h => h) (Or.inl ⟨by rfl, ?_⟩) hHeld ?_
        rotate_left
        · (intro W hSW; go_simp; try with_reducible rfl)
        try simp only [Act.put, List.setIfInBounds_toArray, List.set_cons_zero, List.set_cons_succ]
        refine wpAnyH_take (i := 8) (v := valS y) (ops_atL rfl) (by kernel_rfl) (by kernel_rfl) (by kernel_rfl) (fun _ _ _ h => h) (yieldsIf_load_mid (by rfl) 28 (.tmp 23) rfl g (m * 5) (by rfl) (encS y) _ rkx Tryz.underlying28 rfl (nm_info _)) hHeld ?_
        try simp only [Act.put, List.setIfInBounds_toArray, List.set_cons_zero, List.set_cons_succ]
        refine wpAnyH_take (i := 9) (v := ?_) (ops_atL rfl) (by kernel_rfl) (by kernel_rfl) (by kernel_rfl) (fun _ _ _ h => h) (Or.inl ⟨by rfl, ?_⟩) hHeld ?_
        rotate_left
        · (intro W hSW; go_simp; try with_reducible rfl)
        try simp only [Act.put, List.setIfInBounds_toArray, List.set_cons_zero, List.set_cons_succ]
        refine wpAnyH_done (by kernel_rfl) ?_ _
        have HH := Lib.hid hHeld
        clear hHeld rkx rky hq hg
        have hm1 := HM.out
        have hc2 : C2 w base g n cap l k (k + 1) _ := ⟨l, HH.out.1, HN.out.symm, HH.out.2, (by
          have h0 := dd_same HX.out (by rw [hm1]; exact HY.out)
          rw [hm1, show m + 2 = k + 1 by omega, HD.out] at h0
          exact h0.symm), by omega, fun _ _ => rfl⟩
        have HC2 := Lib.hid hc2
        clear hc2 hm1
        go_wp2
        go_loopw [3, 5] (fun kk i wr => ∃ q j : Nat, kk = .int .i64 q ∧ i = .int .i64 j ∧ 1 ≤ j ∧ k + j ≤ n ∧ C2 w base g n cap l q (k + j) wr) (fun _ i _ => n - (intOf i).toNat)
        case atStart => exact ⟨k, 1, rfl, rfl, by omega, by omega, HC2.out⟩
        case round =>
          obtain ⟨q, j, rfl, rfl, hj1, hjn, hC⟩ := hrel
          have HC := Lib.hid hC
          have hqm : q < k + j := hC.lt
          clear hC
          by_cases hjl : j < n - k
          · have h4 : (j : Int) < ((n - k : Nat) : Int) := by omega
            obtain ⟨p, hp⟩ : ∃ p, p + 1 = j := ⟨j - 1, by omega⟩
            have hjp : (j : Int) - 1 = (p : Int) := by omega
            have hpn : (p : Int) < ((n - k : Nat) : Int) := by omega
            have hpn' : p < n - k := by omega
            have hwp : IntKind.i64.wrap (p : Int) = (p : Int) := by rw [IntKind.wrap_i64]; omega
            obtain ⟨v, hv⟩ : ∃ v, l[k + j]? = some v := ⟨_, List.getElem?_eq_getElem (by rw [← HN.out]; omega)⟩
            obtain ⟨u, hu⟩ : ∃ u, l[k + p]? = some u := ⟨_, List.getElem?_eq_getElem (by rw [← HN.out]; omega)⟩
            have HP := Lib.hid hp
            have HU := Lib.hid hu
            have HV := Lib.hid hv
            clear hu hv hp
            have rku : ∀ V, C2 w base g n cap l q (k + j) V → V.rangeAt g (k * 5 + p * 5) (encS u) := fun V hV => hV.range (k + p) _ u HU.out (by have := HP.out; omega) (by omega)
            have rkv : ∀ V, C2 w base g n cap l q (k + j) V → V.rangeAt g (k * 5 + j * 5) (encS v) := fun V hV => hV.range (k + j) _ v HV.out (by omega) (by omega)
            by_cases huv : v = u
            · subst huv
              have hq := fun V => neS_same v V
              have hg := fun V => guardS .neq (.tmp 38) (.tmp 43) v v V
              go_wp2
              refine wp_region_held_drew (S := C2 w base g n cap l q (k + j)) (by kernel_rfl) (HC.out.drew) (fun hHeld => ?_)
              refine wpAnyH_take (i := 0) (v := ?_) (ops_atL rfl) (by kernel_rfl) (by kernel_rfl) (by kernel_rfl) (fun _ _ _ h => h) (Or.inl ⟨by rfl, ?_⟩) hHeld ?_
              rotate_left
              · (intro W hSW; go_simp; try with_reducible rfl)
              try simp only [Act.put, List.setIfInBounds_toArray, List.set_cons_zero, List.set_cons_succ]
              refine wpAnyH_take (i := 1) (v := ?_) (ops_atL rfl) (by kernel_rfl) (by kernel_rfl) (by kernel_rfl) (fun _ _ _ h => h) (Or.inl ⟨by rfl, ?_⟩) hHeld ?_
              rotate_left
              · (intro W hSW; go_simp; try with_reducible rfl)
              try simp only [Act.put, List.setIfInBounds_toArray, List.set_cons_zero, List.set_cons_succ]
              refine wpAnyH_take (i := 2) (v := ?_) (ops_atL rfl) (by kernel_rfl) (by kernel_rfl) (by kernel_rfl) (fun _ _ _ h => h) (Or.inl ⟨by rfl, ?_⟩) hHeld ?_
              rotate_left
              · (intro W hSW; go_simp; try with_reducible rfl)
              try simp only [Act.put, List.setIfInBounds_toArray, List.set_cons_zero, List.set_cons_succ]
              refine wpAnyH_take (i := 3) (v := valS v) (ops_atL rfl) (by kernel_rfl) (by kernel_rfl) (by kernel_rfl) (fun _ _ _ h => h) (yieldsIf_load_mid (by rfl) 28 (.tmp 37) rfl g (k * 5 + j * 5) (by rfl) (encS v) _ rkv Tryz.underlying28 rfl (nm_info _)) hHeld ?_
              try simp only [Act.put, List.setIfInBounds_toArray, List.set_cons_zero, List.set_cons_succ]
              refine wpAnyH_take (i := 4) (v := ?_) (ops_atL rfl) (by kernel_rfl) (by kernel_rfl) (by kernel_rfl) (fun _ _ _ h => h) (Or.inl ⟨by rfl, ?_⟩) hHeld ?_
              rotate_left
              · (intro W hSW; go_simp; try with_reducible rfl)
              try simp only [Act.put, List.setIfInBounds_toArray, List.set_cons_zero, List.set_cons_succ]
              refine wpAnyH_take (i := 5) (v := ?_) (ops_atL rfl) (by kernel_rfl) (by kernel_rfl) (by kernel_rfl) (fun _ _ _ h => h) (Or.inl ⟨by rfl, ?_⟩) hHeld ?_
              rotate_left
              · (intro W hSW; go_simp; try with_reducible rfl)
              try simp only [Act.put, List.setIfInBounds_toArray, List.set_cons_zero, List.set_cons_succ]
              refine wpAnyH_take (i := 6) (v := ?_) (ops_atL rfl) (by kernel_rfl) (by kernel_rfl) (by kernel_rfl) (fun _ _ _ h => h) (Or.inl ⟨by rfl, ?_⟩) hHeld ?_
              rotate_left
              · (intro W hSW; go_simp; try with_reducible rfl)
              try simp only [Act.put, List.setIfInBounds_toArray, List.set_cons_zero, List.set_cons_succ]
              refine wpAnyH_take (i := 7) (v := ?_) (ops_atL rfl) (by kernel_rfl) (by kernel_rfl) (by kernel_rfl) (fun _ _ _ h => h) (Or.inl ⟨by rfl, ?_⟩) hHeld ?_
              rotate_left
              · (intro W hSW; go_simp; try with_reducible rfl)
              try simp only [Act.put, List.setIfInBounds_toArray, List.set_cons_zero, List.set_cons_succ]
              refine wpAnyH_take (i := 8) (v := valS v) (ops_atL rfl) (by kernel_rfl) (by kernel_rfl) (by kernel_rfl) (fun _ _ _ h => h) (yieldsIf_load_mid (by rfl) 28 (.tmp 42) rfl g (k * 5 + p * 5) (by rfl) (encS v) _ rku Tryz.underlying28 rfl (nm_info _)) hHeld ?_
              try simp only [Act.put, List.setIfInBounds_toArray, List.set_cons_zero, List.set_cons_succ]
              refine wpAnyH_take (i := 9) (v := ?_) (ops_atL rfl) (by kernel_rfl) (by kernel_rfl) (by kernel_rfl) (fun _ _ _ h => h) (Or.inl ⟨by rfl, ?_⟩) hHeld ?_
              rotate_left
              · (intro W hSW; go_simp; try with_reducible rfl)
              try simp only [Act.put, List.setIfInBounds_toArray, List.set_cons_zero, List.set_cons_succ]
              refine wpAnyH_done (by kernel_rfl) ?_ _
              have HH2 := Lib.hid hHeld
              clear hHeld rku rkv hq hg
              go_wp2
              go_roundw
              case rel =>
                refine ⟨q, j + 1, rfl, by go_num, by omega, by omega, ?_⟩
                have hp := HP.out
                exact HH2.out.same HU.out HV.out (by omega)
              case measure => simp [intOf] <;> omega
            · have hq := fun V => neS_ne huv V
              have hg := fun V => guardS .neq (.tmp 38) (.tmp 43) v u V
              go_wp2
              refine wp_region_held_drew (S := C2 w base g n cap l q (k + j)) (by kernel_rfl) (HC.out.drew) (fun hHeld => ?_)
              refine wpAnyH_take (i := 0) (v := ?_) (ops_atL rfl) (by kernel_rfl) (by kernel_rfl) (by kernel_rfl) (fun _ _ _ h => h) (Or.inl ⟨by rfl, ?_⟩) hHeld ?_
              rotate_left
              · (intro W hSW; go_simp; try with_reducible rfl)
              try simp only [Act.put, List.setIfInBounds_toArray, List.set_cons_zero, List.set_cons_succ]
              refine wpAnyH_take (i := 1) (v := ?_) (ops_atL rfl) (by kernel_rfl) (by kernel_rfl) (by kernel_rfl) (fun _ _ _ h => h) (Or.inl ⟨by rfl, ?_⟩) hHeld ?_
              rotate_left
              · (intro W hSW; go_simp; try with_reducible rfl)
              try simp only [Act.put, List.setIfInBounds_toArray, List.set_cons_zero, List.set_cons_succ]
              refine wpAnyH_take (i := 2) (v := ?_) (ops_atL rfl) (by kernel_rfl) (by kernel_rfl) (by kernel_rfl) (fun _ _ _ h => h) (Or.inl ⟨by rfl, ?_⟩) hHeld ?_
              rotate_left
              · (intro W hSW; go_simp; try with_reducible rfl)
              try simp only [Act.put, List.setIfInBounds_toArray, List.set_cons_zero, List.set_cons_succ]
              refine wpAnyH_take (i := 3) (v := valS v) (ops_atL rfl) (by kernel_rfl) (by kernel_rfl) (by kernel_rfl) (fun _ _ _ h => h) (yieldsIf_load_mid (by rfl) 28 (.tmp 37) rfl g (k * 5 + j * 5) (by rfl) (encS v) _ rkv Tryz.underlying28 rfl (nm_info _)) hHeld ?_
              try simp only [Act.put, List.setIfInBounds_toArray, List.set_cons_zero, List.set_cons_succ]
              refine wpAnyH_take (i := 4) (v := ?_) (ops_atL rfl) (by kernel_rfl) (by kernel_rfl) (by kernel_rfl) (fun _ _ _ h => h) (Or.inl ⟨by rfl, ?_⟩) hHeld ?_
              rotate_left
              · (intro W hSW; go_simp; try with_reducible rfl)
              try simp only [Act.put, List.setIfInBounds_toArray, List.set_cons_zero, List.set_cons_succ]
              refine wpAnyH_take (i := 5) (v := ?_) (ops_atL rfl) (by kernel_rfl) (by kernel_rfl) (by kernel_rfl) (fun _ _ _ h => h) (Or.inl ⟨by rfl, ?_⟩) hHeld ?_
              rotate_left
              · (intro W hSW; go_simp; try with_reducible rfl)
              try simp only [Act.put, List.setIfInBounds_toArray, List.set_cons_zero, List.set_cons_succ]
              refine wpAnyH_take (i := 6) (v := ?_) (ops_atL rfl) (by kernel_rfl) (by kernel_rfl) (by kernel_rfl) (fun _ _ _ h => h) (Or.inl ⟨by rfl, ?_⟩) hHeld ?_
              rotate_left
              · (intro W hSW; go_simp; try with_reducible rfl)
              try simp only [Act.put, List.setIfInBounds_toArray, List.set_cons_zero, List.set_cons_succ]
              refine wpAnyH_take (i := 7) (v := ?_) (ops_atL rfl) (by kernel_rfl) (by kernel_rfl) (by kernel_rfl) (fun _ _ _ h => h) (Or.inl ⟨by rfl, ?_⟩) hHeld ?_
              rotate_left
              · (intro W hSW; go_simp; try with_reducible rfl)
              try simp only [Act.put, List.setIfInBounds_toArray, List.set_cons_zero, List.set_cons_succ]
              refine wpAnyH_take (i := 8) (v := valS u) (ops_atL rfl) (by kernel_rfl) (by kernel_rfl) (by kernel_rfl) (fun _ _ _ h => h) (yieldsIf_load_mid (by rfl) 28 (.tmp 42) rfl g (k * 5 + p * 5) (by rfl) (encS u) _ rku Tryz.underlying28 rfl (nm_info _)) hHeld ?_
              try simp only [Act.put, List.setIfInBounds_toArray, List.set_cons_zero, List.set_cons_succ]
              refine wpAnyH_take (i := 9) (v := ?_) (ops_atL rfl) (by kernel_rfl) (by kernel_rfl) (by kernel_rfl) (fun _ _ _ h => h) (Or.inl ⟨by rfl, ?_⟩) hHeld ?_
              rotate_left
              · (intro W hSW; go_simp; try with_reducible rfl)
              try simp only [Act.put, List.setIfInBounds_toArray, List.set_cons_zero, List.set_cons_succ]
              refine wpAnyH_done (by kernel_rfl) ?_ _
              have HH2 := Lib.hid hHeld
              have hr3 := rkv _ hHeld
              have hqn : (q : Int) < (n : Int) := by omega
              have hqn' : q < n := by omega
              have hnew := HH2.out.new HU.out HV.out (by have := HP.out; omega) (fun e => huv e.symm) (by omega)
              have HNEW := Lib.hid hnew
              have hst := run_storeCells_cells (P := Tryz.prog) g (q * 5) (encS v) 0 _ (fun j' hj' => (hnew.2 j' hj').1) (fun j' hj' => (hnew.2 j' hj').2) (encS_ok.one v)
              rw [Nat.add_zero] at hst
              obtain ⟨W2, hW2⟩ : ∃ W2, W2 = World.setCells wr.drew g (q * 5) (encS v) := ⟨_, rfl⟩
              have HN2 := Lib.hid (show C2 w base g n cap l (q + 1) (k + j + 1) W2 by rw [hW2]; exact hnew.1)
              rw [← hW2] at hst
              clear hW2
              clear hHeld rku rkv hq hg hnew HH2 HNEW
              go_wp2_with (refine wpList_load_mid rfl 28 (.tmp 49) rfl g (k * 5 + j * 5) rfl (encS v) _ hr3 Tryz.underlying28 rfl (nm_info _) ?_)
              go_roundw
              case rel =>
                refine ⟨q + 1, j + 1, by go_num, by go_num, by omega, by omega, ?_⟩
                exact HN2.out
              case measure => simp [intOf] <;> omega
          · have h4 : ¬ (j : Int) < ((n - k : Nat) : Int) := by omega
            have hC := HC.out
            rw [show k + j = n by omega] at hC hqm
            have hqn : (q : Int) ≤ (n : Int) := by omega
            obtain ⟨vs, hcl⟩ := run_clearK nameT_ok wr 0 _ zeroS zeroS_one rfl (by decide) g (q * 5) (n - q) (cap - q) (hC.done HN.out []).2.2
            have HD2 := Lib.hid (hC.done HN.out vs)
            clear hC HC
            go_wp2
            go_ret
            exact ⟨_, rfl, HD2.out.1, HD2.out.2.1⟩
      · have hq := fun V => eqS_ne hxy V
        have hg := fun V => guardS .eql (.tmp 19) (.tmp 24) y x V
        go_wp2
        refine wp_region_held_drew (S := C1 w base g n cap l) (by kernel_rfl) (HS.out.drew) (fun hHeld => ?_)
        refine wpAnyH_take (i := 0) (v := ?_) (ops_atL rfl) (by kernel_rfl) (by kernel_rfl) (by kernel_rfl) (fun _ _ _ h => h) (Or.inl ⟨by rfl, ?_⟩) hHeld ?_
        rotate_left
        · (intro W hSW; go_simp; try with_reducible rfl)
        try simp only [Act.put, List.setIfInBounds_toArray, List.set_cons_zero, List.set_cons_succ]
        refine wpAnyH_take (i := 1) (v := ?_) (ops_atL rfl) (by kernel_rfl) (by kernel_rfl) (by kernel_rfl) (fun _ _ _ h => h) (Or.inl ⟨by rfl, ?_⟩) hHeld ?_
        rotate_left
        · (intro W hSW; go_simp; try with_reducible rfl)
        try simp only [Act.put, List.setIfInBounds_toArray, List.set_cons_zero, List.set_cons_succ]
        refine wpAnyH_take (i := 2) (v := ?_) (ops_atL rfl) (by kernel_rfl) (by kernel_rfl) (by kernel_rfl) (fun _ _ _ h => h) (Or.inl ⟨by rfl, ?_⟩) hHeld ?_
        rotate_left
        · (intro W hSW; go_simp; try with_reducible rfl)
        try simp only [Act.put, List.setIfInBounds_toArray, List.set_cons_zero, List.set_cons_succ]
        refine wpAnyH_take (i := 3) (v := valS y) (ops_atL rfl) (by kernel_rfl) (by kernel_rfl) (by kernel_rfl) (fun _ _ _ h => h) (yieldsIf_load_mid (by rfl) 28 (.tmp 18) rfl g (k * 5) (by rfl) (encS y) _ rky Tryz.underlying28 rfl (nm_info _)) hHeld ?_
        try simp only [Act.put, List.setIfInBounds_toArray, List.set_cons_zero, List.set_cons_succ]
        refine wpAnyH_take (i := 4) (v := ?_) (ops_atL rfl) (by kernel_rfl) (by kernel_rfl) (by kernel_rfl) (fun _ _ _ h => h) (Or.inl ⟨by rfl, ?_⟩) hHeld ?_
        rotate_left
        · (intro W hSW; go_simp; try with_reducible rfl)
        try simp only [Act.put, List.setIfInBounds_toArray, List.set_cons_zero, List.set_cons_succ]
        refine wpAnyH_take (i := 5) (v := ?_) (ops_atL rfl) (by kernel_rfl) (by kernel_rfl) (by kernel_rfl) (fun _ _ _ h => h) (Or.inl ⟨by rfl, ?_⟩) hHeld ?_
        rotate_left
        · (intro W hSW; go_simp; try with_reducible rfl)
        try simp only [Act.put, List.setIfInBounds_toArray, List.set_cons_zero, List.set_cons_succ]
        refine wpAnyH_take (i := 6) (v := ?_) (ops_atL rfl) (by kernel_rfl) (by kernel_rfl) (by kernel_rfl) (fun _ _ _ h => h) (Or.inl ⟨by rfl, ?_⟩) hHeld ?_
        rotate_left
        · (intro W hSW; go_simp; try with_reducible rfl)
        try simp only [Act.put, List.setIfInBounds_toArray, List.set_cons_zero, List.set_cons_succ]
        refine wpAnyH_take (i := 7) (v := ?_) (ops_atL rfl) (by kernel_rfl) (by kernel_rfl) (by kernel_rfl) (fun _ _ _ h => h) (Or.inl ⟨by rfl, ?_⟩) hHeld ?_
        rotate_left
        · (intro W hSW; go_simp; try with_reducible rfl)
        try simp only [Act.put, List.setIfInBounds_toArray, List.set_cons_zero, List.set_cons_succ]
        refine wpAnyH_take (i := 8) (v := valS x) (ops_atL rfl) (by kernel_rfl) (by kernel_rfl) (by kernel_rfl) (fun _ _ _ h => h) (yieldsIf_load_mid (by rfl) 28 (.tmp 23) rfl g (m * 5) (by rfl) (encS x) _ rkx Tryz.underlying28 rfl (nm_info _)) hHeld ?_
        try simp only [Act.put, List.setIfInBounds_toArray, List.set_cons_zero, List.set_cons_succ]
        refine wpAnyH_take (i := 9) (v := ?_) (ops_atL rfl) (by kernel_rfl) (by kernel_rfl) (by kernel_rfl) (fun _ _ _ h => h) (Or.inl ⟨by rfl, ?_⟩) hHeld ?_
        rotate_left
        · (intro W hSW; go_simp; try with_reducible rfl)
        try simp only [Act.put, List.setIfInBounds_toArray, List.set_cons_zero, List.set_cons_succ]
        refine wpAnyH_done (by kernel_rfl) ?_ _
        have HH := Lib.hid hHeld
        clear hHeld rkx rky hq hg
        go_wp2
        go_roundw
        case rel =>
          refine ⟨k + 1, by go_num, by omega, by omega, ⟨HH.out.1, HH.out.2⟩, ?_⟩
          have hk := HM.out
          have hy := HY.out
          have hD := HD.out
          subst hk
          rw [dd_new HX.out hy (fun e => hxy e.symm), hD, List.take_add_one (i := m + 1), hy]; rfl
        case measure => simp [intOf] <;> omega
    · have h3 : ¬ (k : Int) < (n : Int) := by omega
      go_wp2
      go_ret
      refine ⟨_, rfl, ?_, HS.out.2⟩
      have := HD.out
      rw [List.take_of_length_le (by rw [← HN.out]; omega)] at this
      rw [this]
      exact HS.out.1
end Go.Proofs.YtcdjmkfpclmbdaaGreatDoor
