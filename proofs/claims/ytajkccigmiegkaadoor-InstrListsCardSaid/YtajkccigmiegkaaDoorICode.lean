/- instr: results in cells; To, Of; Encode. -/
import Derived.Test.YtajkccigmiegkaaDoorIRChk
set_option linter.unusedVariables false
namespace Go.Proofs.YtajkccigmiegkaaDoor
open Go.RowKit

theorem Blk.range {w : World} {g : Nat} {t : TypeId} {cs : Array Value} (h : Blk w g t cs) : w.rangeAt g 0 cs.toList := fun j v hv => by
  rw [Nat.zero_add, h.cell j]; simpa using hv
theorem Blk.there {w : World} {g : Nat} {t : TypeId} {cs : Array Value} (h : Blk w g t cs) : w.there g 0 cs.size := fun j hj => by
  rw [Nat.zero_add, h.cell j, h.frozen j]
  exact ⟨by rw [Array.getElem?_eq_getElem hj]; rfl, rfl⟩
theorem results_row1 {P : Program} {fn : Func} {p : Tmp} {ty : TypeId} (h : fn.results = #[.cell p ty]) (tmps : Array Value) (w : World) (g : Nat) (cs : List Value) (d : TypeDesc)
    (hp : tmps.getD p undef = .pointer (some ⟨g, 0, none⟩)) (hg : w.rangeAt g 0 cs) (hu : P.underlying ty = some d) (hd : d.isRow = true) (hi : (P.info? ty).map (·.size) = some cs.length) :
    (results fn tmps).run P w = .ok (.agg cs.toArray) w := by
  have hp' : tmps[p]?.getD undef = .pointer (some ⟨g, 0, none⟩) := by simpa using hp
  simp [results, h, hp', asAddr, run_loadVar_mid w g 0 ty cs d hg hu hd hi]
theorem results_row2 {P : Program} {fn : Func} {p q : Tmp} {ty : TypeId} (h : fn.results = #[.cell p ty, .tmp q]) (tmps : Array Value) (w : World) (g : Nat) (cs : List Value) (d : TypeDesc)
    (hp : tmps.getD p undef = .pointer (some ⟨g, 0, none⟩)) (hg : w.rangeAt g 0 cs) (hu : P.underlying ty = some d) (hd : d.isRow = true) (hi : (P.info? ty).map (·.size) = some cs.length) :
    (results fn tmps).run P w = .ok (.tuple #[.agg cs.toArray, tmps.getD q undef]) w := by
  have hp' : tmps[p]?.getD undef = .pointer (some ⟨g, 0, none⟩) := by simpa using hp
  simp [results, h, hp', asAddr, run_loadVar_mid w g 0 ty cs d hg hu hd hi]
theorem below_setCells {B : Nat} {a : World} (b : Nat) (hb : B ≤ b) : ∀ (vs : List Value) (o : Nat) (w : World), Below B a w → Below B a (w.setCells b o vs)
  | [], _, _, h => h
  | v :: r, o, w, h => below_setCells b hb r (o + 1) _ (h.setCell (p := ⟨b, o, none⟩) hb v)
theorem infoI : (Tryd.prog.info? 26).map (·.size) = some 4 := by kernel_rfl
theorem infoR : (Tryd.prog.info? 23).map (·.size) = some 4 := by kernel_rfl
theorem infoB : (Tryd.prog.info? 43).map (·.size) = some 4 := by kernel_rfl
theorem in_one (o a b c : Int) : (inC o a b c).all (·.oneCell') = true :=
  Array.all_eq_true_iff_forall_mem.2 fun v hv => by
    simp only [inC, List.mem_toArray, List.mem_cons, List.not_mem_nil, or_false] at hv
    rcases hv with rfl | rfl | rfl | rfl <;> rfl
abbrev byC (o a b c : Int) : Array Value := #[.int .u8 o, .int .u8 a, .int .u8 b, .int .u8 c]
abbrev byV (o a b c : Int) : Value := .agg #[.int .u8 o, .int .u8 a, .int .u8 b, .int .u8 c]
theorem by_one (o a b c : Int) : (byC o a b c).all (·.oneCell') = true :=
  Array.all_eq_true_iff_forall_mem.2 fun v hv => by
    simp only [byC, List.mem_toArray, List.mem_cons, List.not_mem_nil, or_false] at hv
    rcases hv with rfl | rfl | rfl | rfl <;> rfl
theorem new2 (w : World) (cs us : Array Value) (t u : TypeId) : Blk ((w.alloc (.cells cs t)).alloc (.cells us u)) (w.heap.size + 1) u us := by
  have e : (w.alloc (Obj.cells cs t)).heap.size = w.heap.size + 1 := by simp
  have h := Blk.new (w.alloc (.cells cs t)) u us
  rw [e] at h; exact h
theorem below2 (w : World) (o p : Obj) : Below w.heap.size w ((w.alloc o).alloc p) := (below_alloc0 w o).alloc (by simp) p
set_option maxRecDepth 100000 in
theorem to_any (o a b c : Int) (w : World) : Calls Tryd.prog 14 #[inV o a b c] w fun e w' => e = .returned (inV o a b c) ∧ Below w.heap.size w w' := by
  go_enter Tryd.func14, Tryd.ntmps14
  go_wp2
  exact bodyPost_ret (results_row1 rfl _ _ (w.heap.size + 1) (inC o a b c).toList _ rfl (new2 w _ _ _ _).range Tryd.underlying26 rfl infoI) rfl ⟨rfl, below2 _ _ _⟩
set_option maxRecDepth 100000 in
theorem of_any (o a b c : Int) (w : World) : Calls Tryd.prog 28 #[inV o a b c] w fun e w' => e = .returned (inV o a b c) ∧ Below w.heap.size w w' := by
  go_enter Tryd.func28, Tryd.ntmps28
  go_wp2
  exact bodyPost_ret (results_row1 rfl _ _ (w.heap.size + 1) (inC o a b c).toList _ rfl (new2 w _ _ _ _).range Tryd.underlying23 rfl infoR) rfl ⟨rfl, below2 _ _ _⟩

/-- What a valid instruction is. -/
theorem lims : ∀ k, k < 27 → (4 ≤ formN k → -32768 ≤ lowN k ∧ highN k ≤ 65535) := by decide
theorem chk_ok {op a b c : Int} (h : chkZ op a b c = 0) : (0 ≤ op ∧ op ≤ 26) ∧ (0 ≤ a ∧ a ≤ 7) ∧ (0 ≤ b ∧ b ≤ 7) ∧ (-32768 ≤ c ∧ c ≤ 65535) := by
  unfold chkZ at h
  by_cases h0 : 0 ≤ op ∧ op ≤ 26
  · rw [if_pos h0] at h
    refine ⟨h0, ?_⟩
    have hf := form_le op.toNat (by omega)
    have hl := lims op.toNat (by omega)
    generalize formN op.toNat = f at *
    generalize lowN op.toNat = lo at *
    generalize highN op.toNat = hi at *
    unfold chkB at h
    split at h
    · cases h
    · rename_i h1
      split at h
      · cases h
      · rename_i h2
        split at h
        · cases h
        · rename_i h3
          simp only [isReg, Bool.or_eq_true, not_or, Bool.not_eq_true', Bool.and_eq_false_iff, decide_eq_false_iff_not] at h1 h2 h3
          obtain rfl | rfl | rfl | rfl | rfl | rfl | rfl : f = 0 ∨ f = 1 ∨ f = 2 ∨ f = 3 ∨ f = 4 ∨ f = 5 ∨ f = 6 := by omega
          all_goals
            simp [useA, useB, useC, useN] at h1 h2 h3 hl
            omega
  · rw [if_neg h0] at h; cases h
theorem nib_or : ∀ a, a < 8 → ∀ b, b < 8 → bits .or .i64 (((a : Nat) : Int) * 16) ((b : Nat) : Int) = 16 * ((a : Nat) : Int) + ((b : Nat) : Int) := by decide
theorem two_under {w V : World} {c1 c2 : Array Value} {t1 t2 : TypeId} (hb : Below ((w.alloc (.cells c1 t1)).alloc (.cells c2 t2)).heap.size ((w.alloc (.cells c1 t1)).alloc (.cells c2 t2)) V) : Blk V w.heap.size t1 c1 ∧ Blk V (w.heap.size + 1) t2 c2 ∧ Below w.heap.size w V := by
  have e : (w.alloc (Obj.cells c1 t1)).heap.size = w.heap.size + 1 := by simp
  have h1 := (((Blk.new w t1 c1).alloc (.cells c2 t2))).under hb
  have h := (Blk.new (w.alloc (.cells c1 t1)) t2 c2).under hb
  rw [e] at h
  exact ⟨h1, h, (below2 w _ _).trans (hb.mono (by simp; omega))⟩
set_option maxHeartbeats 1000000 in
set_option maxRecDepth 100000 in
theorem encode_bad (op a b c E : Int) (w : World) (hE : Env w) (hc : chkZ op a b c = E) (hne : E ≠ 0) : Calls Tryd.prog 25 #[inV op a b c] w fun e w' => e = .returned (.tuple #[byV 0 0 0 0, .int .i64 E]) ∧ Below w.heap.size w w' := by
  have HC : Hid (∀ W, Below w.heap.size w W → Calls Tryd.prog 15 #[inV op a b c] W fun e w' => e = .returned (.int .i64 E) ∧ Below W.heap.size W w') := Lib.hid fun W hb => by
    rw [← hc]; exact check_any op a b c W (hE.below hb)
  have hne1 : (E == 0) = false := by simp [hne]
  have hne2 : (E != 0) = true := by simp [hne]
  have HI := Lib.hid infoB
  have HO := Lib.hid by_one
  clear hE hc hne
  go_enter Tryd.func25, Tryd.ntmps25
  go_wp2_with (first
    | (go_at_call 15; refine (HC.out _ (below2 _ _ _)).mono ?_; rintro e V1 ⟨rfl, hb⟩; have HV := Lib.hid (two_under hb); clear hb; have HZ := Lib.hid HV.out.2.1.there)
    | ((with_reducible show wpList _ _ _ (⟨none, _, _, _, _, _⟩ :: _) _ _); refine wpList_store_mid (by rfl) 43 (.tmp 2) (.tmp 9) (by rfl) (w.heap.size + 1) 0 (byC 0 0 0 0) (by rfl) (by rfl) HZ.out HI.out (HO.out _ _ _ _) ?_))
  exact bodyPost_ret (results_row2 rfl _ _ (w.heap.size + 1) (byC 0 0 0 0).toList _ rfl (World.rangeAt_setCells_same _ _ _ _ HV.out.2.1.there) Tryd.underlying43 rfl infoB) rfl ⟨rfl, below_setCells _ (by omega) _ _ _ HV.out.2.2⟩
set_option maxHeartbeats 1000000 in
set_option maxRecDepth 100000 in
theorem encode_ok (op a b c : Int) (w : World) (hE : Env w) (hc : chkZ op a b c = 0) : Calls Tryd.prog 25 #[inV op a b c] w fun e w' => e = .returned (.tuple #[byV op (16 * a + b) (c % 256) (c / 256 % 256), .int .i64 0]) ∧ Below w.heap.size w w' := by
  have HC : Hid (∀ W, Below w.heap.size w W → Calls Tryd.prog 15 #[inV op a b c] W fun e w' => e = .returned (.int .i64 0) ∧ Below W.heap.size W w') := Lib.hid fun W hb => by
    rw [← hc]; exact check_any op a b c W (hE.below hb)
  obtain ⟨⟨o0, o1⟩, ⟨a0, a1⟩, ⟨b0, b1⟩, c0, c1⟩ := chk_ok hc
  have hor : bits .or .i64 (a * 16) b = 16 * a + b := by
    have := nib_or a.toNat (by omega) b.toNat (by omega)
    rw [Int.toNat_of_nonneg a0, Int.toNat_of_nonneg b0] at this
    exact this
  obtain ⟨m, hm⟩ : ∃ m, 16 * a + b = m := ⟨_, rfl⟩
  rw [hm] at hor
  rw [hm]
  have hm1 : m % 256 = m := by omega
  have hm0 : op % 256 = op := by omega
  have HI := Lib.hid infoB
  have HO := Lib.hid by_one
  clear hE hc hm hm0
  go_enter Tryd.func25, Tryd.ntmps25
  go_wp2_with (first
    | (go_at_call 15; refine (HC.out _ (below2 _ _ _)).mono ?_; rintro e V1 ⟨rfl, hb⟩; have HV := Lib.hid (two_under hb); clear hb; have HZ := Lib.hid HV.out.2.1.there; have q0 := HV.out.1.cell 0; have q1 := HV.out.1.cell 1; have q2 := HV.out.1.cell 2; have q3 := HV.out.1.cell 3)
    | ((with_reducible show wpList _ _ _ (⟨none, _, _, _, _, _⟩ :: _) _ _); refine wpList_store_mid (by rfl) 43 (.tmp 2) (.tmp 28) (by rfl) (w.heap.size + 1) 0 (byC op m (c % 256) (c / 256 % 256)) (by rfl) (by rfl) HZ.out HI.out (HO.out _ _ _ _) ?_))
  exact bodyPost_ret (results_row2 rfl _ _ (w.heap.size + 1) (byC op m (c % 256) (c / 256 % 256)).toList _ rfl (World.rangeAt_setCells_same _ _ _ _ HV.out.2.1.there) Tryd.underlying43 rfl infoB) rfl ⟨rfl, below_setCells _ (by omega) _ _ _ HV.out.2.2⟩

/-- The bytes and the error of an instruction. -/
def encV (op a b c : Int) : Value := if chkZ op a b c = 0 then byV op (16 * a + b) (c % 256) (c / 256 % 256) else byV 0 0 0 0
theorem encode_any (op a b c : Int) (w : World) (hE : Env w) : Calls Tryd.prog 25 #[inV op a b c] w fun e w' => e = .returned (.tuple #[encV op a b c, .int .i64 (chkZ op a b c)]) ∧ Below w.heap.size w w' := by
  unfold encV
  by_cases h : chkZ op a b c = 0
  · rw [if_pos h, h]; exact encode_ok op a b c w hE h
  · rw [if_neg h]; exact encode_bad op a b c _ w hE rfl h
set_option maxHeartbeats 1000000 in
set_option maxRecDepth 100000 in
theorem rencode_bad (op a b c E : Int) (w : World) (hc : chkZ op a b c = E) (hne : E ≠ 0) : Calls Tryd.prog 26 #[inV op a b c] w fun e w' => e = .returned (.tuple #[byV 0 0 0 0, .int .i64 E]) ∧ Below w.heap.size w w' := by
  have HC : Hid (∀ W, Calls Tryd.prog 16 #[inV op a b c] W fun e w' => e = .returned (.int .i64 E) ∧ Below W.heap.size W w') := Lib.hid fun W => by
    rw [← hc]; exact rcheck_any op a b c W
  have hne1 : (E == 0) = false := by simp [hne]
  have hne2 : (E != 0) = true := by simp [hne]
  have HI := Lib.hid infoB
  have HO := Lib.hid by_one
  clear hc hne
  go_enter Tryd.func26, Tryd.ntmps26
  go_wp2_with (first
    | (go_at_call 16; refine (HC.out _).mono ?_; rintro e V1 ⟨rfl, hb⟩; have HV := Lib.hid (two_under hb); clear hb; have HZ := Lib.hid HV.out.2.1.there)
    | ((with_reducible show wpList _ _ _ (⟨none, _, _, _, _, _⟩ :: _) _ _); refine wpList_store_mid (by rfl) 43 (.tmp 2) (.tmp 10) (by rfl) (w.heap.size + 1) 0 (byC 0 0 0 0) (by rfl) (by rfl) HZ.out HI.out (HO.out _ _ _ _) ?_))
  exact bodyPost_ret (results_row2 rfl _ _ (w.heap.size + 1) (byC 0 0 0 0).toList _ rfl (World.rangeAt_setCells_same _ _ _ _ HV.out.2.1.there) Tryd.underlying43 rfl infoB) rfl ⟨rfl, below_setCells _ (by omega) _ _ _ HV.out.2.2⟩
set_option maxHeartbeats 1000000 in
set_option maxRecDepth 100000 in
theorem rencode_ok (op a b c : Int) (w : World) (hc : chkZ op a b c = 0) : Calls Tryd.prog 26 #[inV op a b c] w fun e w' => e = .returned (.tuple #[byV op (16 * a + b) (c % 256) (c / 256 % 256), .int .i64 0]) ∧ Below w.heap.size w w' := by
  have HC : Hid (∀ W, Calls Tryd.prog 16 #[inV op a b c] W fun e w' => e = .returned (.int .i64 0) ∧ Below W.heap.size W w') := Lib.hid fun W => by
    rw [← hc]; exact rcheck_any op a b c W
  obtain ⟨⟨o0, o1⟩, ⟨a0, a1⟩, ⟨b0, b1⟩, c0, c1⟩ := chk_ok hc
  have hm1 : (16 * a + b) % 256 = 16 * a + b := by omega
  have HI := Lib.hid infoB
  have HO := Lib.hid by_one
  obtain ⟨x, hx⟩ : ∃ x, c % 256 = x := ⟨_, rfl⟩
  obtain ⟨y, hy⟩ : ∃ y, c / 256 % 256 = y := ⟨_, rfl⟩
  rw [hx, hy]
  clear hc
  by_cases hn : c < 0
  · have e1 : (c + 65536) % 256 = x := by omega
    have e2 : (c + 65536) / 256 = y := by omega
    have e3 : x % 256 = x := by omega
    have e4 : y % 256 = y := by omega
    have e5 : 0 ≤ c + 65536 := by omega
    clear hx hy
    go_enter Tryd.func26, Tryd.ntmps26
    go_wp2_with (first
      | (go_at_call 16; refine (HC.out _).mono ?_; rintro e V1 ⟨rfl, hb⟩; have HV := Lib.hid (two_under hb); clear hb; have HZ := Lib.hid HV.out.2.1.there; have q0 := HV.out.1.cell 0; have q1 := HV.out.1.cell 1; have q2 := HV.out.1.cell 2; have q3 := HV.out.1.cell 3)
      | ((with_reducible show wpList _ _ _ (⟨none, _, _, _, _, _⟩ :: _) _ _); refine wpList_store_mid (by rfl) 43 (.tmp 2) (.tmp 34) (by rfl) (w.heap.size + 1) 0 (byC op (16 * a + b) x y) (by rfl) (by rfl) HZ.out HI.out (HO.out _ _ _ _) ?_))
    exact bodyPost_ret (results_row2 rfl _ _ (w.heap.size + 1) (byC op (16 * a + b) x y).toList _ rfl (World.rangeAt_setCells_same _ _ _ _ HV.out.2.1.there) Tryd.underlying43 rfl infoB) rfl ⟨rfl, below_setCells _ (by omega) _ _ _ HV.out.2.2⟩
  · have e2 : c / 256 = y := by omega
    have e3 : x % 256 = x := by omega
    have e4 : y % 256 = y := by omega
    have e5 : 0 ≤ c := by omega
    clear hy
    go_enter Tryd.func26, Tryd.ntmps26
    go_wp2_with (first
      | (go_at_call 16; refine (HC.out _).mono ?_; rintro e V1 ⟨rfl, hb⟩; have HV := Lib.hid (two_under hb); clear hb; have HZ := Lib.hid HV.out.2.1.there; have q0 := HV.out.1.cell 0; have q1 := HV.out.1.cell 1; have q2 := HV.out.1.cell 2; have q3 := HV.out.1.cell 3)
      | ((with_reducible show wpList _ _ _ (⟨none, _, _, _, _, _⟩ :: _) _ _); refine wpList_store_mid (by rfl) 43 (.tmp 2) (.tmp 34) (by rfl) (w.heap.size + 1) 0 (byC op (16 * a + b) x y) (by rfl) (by rfl) HZ.out HI.out (HO.out _ _ _ _) ?_))
    exact bodyPost_ret (results_row2 rfl _ _ (w.heap.size + 1) (byC op (16 * a + b) x y).toList _ rfl (World.rangeAt_setCells_same _ _ _ _ HV.out.2.1.there) Tryd.underlying43 rfl infoB) rfl ⟨rfl, below_setCells _ (by omega) _ _ _ HV.out.2.2⟩
theorem rencode_any (op a b c : Int) (w : World) : Calls Tryd.prog 26 #[inV op a b c] w fun e w' => e = .returned (.tuple #[encV op a b c, .int .i64 (chkZ op a b c)]) ∧ Below w.heap.size w w' := by
  unfold encV
  by_cases h : chkZ op a b c = 0
  · rw [if_pos h, h]; exact rencode_ok op a b c w h
  · rw [if_neg h]; exact rencode_bad op a b c _ w rfl h
end Go.Proofs.YtajkccigmiegkaaDoor
