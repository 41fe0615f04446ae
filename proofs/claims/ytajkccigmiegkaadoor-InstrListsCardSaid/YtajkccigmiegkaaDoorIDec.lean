/- instr: Decode, and the reference's. -/
import Derived.Test.YtajkccigmiegkaaDoorICode
set_option linter.unusedVariables false
namespace Go.Proofs.YtajkccigmiegkaaDoor
open Go.RowKit

theorem or_nat (a b : Nat) (ha : a < 2147483648) (hb : b < 2147483648) : bits .or .i64 (a : Int) (b : Int) = ((a ||| b : Nat) : Int) := by
  show IntKind.i64.wrap ((BitVec.ofInt 64 (a : Int) ||| BitVec.ofInt 64 (b : Int)).toNat : Int) = _
  have hab : a ||| b < 2147483648 := by
    have := Nat.or_lt_two_pow (x := a) (y := b) (n := 31) (by omega) (by omega)
    omega
  rw [BitVec.ofInt_natCast, BitVec.ofInt_natCast, BitVec.toNat_or, BitVec.toNat_ofNat, BitVec.toNat_ofNat, Nat.mod_eq_of_lt (by omega), Nat.mod_eq_of_lt (by omega), IntKind.wrap_i64]
  omega
theorem half_or (a b : Nat) (ha : a < 256) (hb : b < 256) : bits .or .i64 (a : Int) ((b : Int) * 256) = (a : Int) + 256 * (b : Int) := by
  have e1 : ((b : Int) * 256) = ((2 ^ 8 * b : Nat) : Int) := by omega
  rw [e1, or_nat a _ (by omega) (by omega), Nat.or_comm, ← Nat.two_pow_add_eq_or_of_lt (by omega)]
  omega
set_option maxRecDepth 100000 in
theorem nib_and : ∀ a, a < 256 → bits .and .u8 ((a : Nat) : Int) 15 = ((a % 16 : Nat) : Int) := by decide
theorem i16_small {n : Int} (h0 : 0 ≤ n) (h1 : n < 65536) : IntKind.i16.wrap n = if 32767 < n then n - 65536 else n := by
  have e : IntKind.i16.wrap n = (if n % 65536 ≥ 32768 then n % 65536 - 65536 else n % 65536) := by
    simp [IntKind.wrap, IntKind.signed, IntKind.bits]
  rw [e]
  split <;> split <;> omega

/-- The number of an instruction with bytes. -/
def numZ (o c : Int) : Int := if limE o = 0 ∧ lowZ o < 0 then (if 32767 < c then c - 65536 else c) else c
def D3 (w : World) (us vs cs : Array Value) (ty : TypeId) (V : World) : Prop := Blk V w.heap.size 43 us ∧ Blk V (w.heap.size + 1) ty vs ∧ Blk V (w.heap.size + 1 + 1) ty cs ∧ Below w.heap.size w V
theorem d3_new (w : World) (us vs cs : Array Value) (ty : TypeId) : D3 w us vs cs ty (((w.alloc (.cells us 43)).alloc (.cells vs ty)).alloc (.cells cs ty)) := by
  have h2 := new2 w us vs 43 ty
  have h1 : Blk ((w.alloc (.cells us 43)).alloc (.cells vs ty)) w.heap.size 43 us := (Blk.new w _ _).alloc _
  have e : ((w.alloc (.cells us 43)).alloc (.cells vs ty)).heap.size = w.heap.size + 1 + 1 := by simp
  refine ⟨h1.alloc _, h2.alloc _, ?_, (below2 w _ _).alloc (by simp; omega) _⟩
  rw [← e]; exact Blk.new _ _ _
theorem D3.under {w V V' : World} {us vs cs : Array Value} {ty : TypeId} (h : D3 w us vs cs ty V) (hb : Below V.heap.size V V') : D3 w us vs cs ty V' := ⟨h.1.under hb, h.2.1.under hb, h.2.2.1.under hb, h.2.2.2.trans (hb.mono h.2.2.2.size)⟩
theorem D3.set3 {w V : World} {us vs cs : Array Value} {ty : TypeId} (h : D3 w us vs cs ty V) (u : Value) : D3 w us vs (cs.setIfInBounds 3 u) ty (V.setCell ⟨w.heap.size + 1 + 1, 3, none⟩ u) :=
  ⟨h.1.far (by show w.heap.size ≠ w.heap.size + 1 + 1; omega) u, h.2.1.far (by show w.heap.size + 1 ≠ w.heap.size + 1 + 1; omega) u, h.2.2.1.set_ 3 u, h.2.2.2.setCell (by show w.heap.size ≤ w.heap.size + 1 + 1; omega) u⟩
theorem D3.bel {w V : World} {us vs cs : Array Value} {ty : TypeId} (h : D3 w us vs cs ty V) : Below w.heap.size w V := h.2.2.2
set_option maxHeartbeats 1000000 in
set_option maxRecDepth 100000 in
theorem d_0ok (x0 x1 x2 x3 : Nat) (o a b c : Int) (w : World) (hE : Env w) (b0 : x0 < 256) (b1 : x1 < 256) (b2 : x2 < 256) (b3 : x3 < 256) (ho : o = (x0 : Int)) (ha : a = (x1 : Int) / 16) (hb : b = (x1 : Int) % 16) (hcc : c = (x2 : Int) + 256 * (x3 : Int)) (hl : limE o ≠ 0) (hk : chkZ o a b (c) = 0) :
    Calls Tryd.prog 27 #[byV x0 x1 x2 x3] w fun e w' => e = .returned (.tuple #[inV o a b (c), .int .i64 0]) ∧ Below w.heap.size w w' := by
  obtain ⟨E, hEE⟩ : ∃ E, limE o = E := ⟨_, rfl⟩
  obtain ⟨L, hLL⟩ : ∃ L, lowZ o = L := ⟨_, rfl⟩
  obtain ⟨M, hMM⟩ : ∃ M, highZ o = M := ⟨_, rfl⟩
  obtain ⟨R, hR⟩ : ∃ R, chkZ o a b (c) = R := ⟨_, rfl⟩
  rw [hR] at hk
  rw [hEE] at hl
  have HL : Hid (∀ W, Below w.heap.size w W → Calls Tryd.prog 19 #[.int .i64 o] W fun e w' => e = .returned (.tuple #[.int .i64 L, .int .i64 M, .int .i64 E]) ∧ Below W.heap.size W w') := Lib.hid fun W hb => by
    rw [← hEE, ← hLL, ← hMM]; exact limits_any o W (hE.below hb)
  have HC : Hid (∀ W, Below w.heap.size w W → Calls Tryd.prog 15 #[inV o a b (c)] W fun e w' => e = .returned (.int .i64 R) ∧ Below W.heap.size W w') := Lib.hid fun W hb => by
    rw [← hR]; exact check_any _ _ _ _ W (hE.below hb)
  have hnib := nib_and x1 b1
  have hor := half_or x2 x3 b2 b3
  have q0 : (x0 : Int) < 256 := by omega
  have q1 : (x1 : Int) < 256 := by omega
  have q2 : (x2 : Int) < 256 := by omega
  have q3 : (x3 : Int) < 256 := by omega
  have q4 : 0 ≤ c := by omega
  have q5 : c < 65536 := by omega
  have hb' : ((x1 % 16 : Nat) : Int) = b := by omega
  rw [hb'] at hnib
  have ha2 : (x1 : Int) / 16 = a := ha.symm
  have hb2 : (x1 : Int) % 16 = b := hb.symm
  have hc2 : (x2 : Int) + 256 * (x3 : Int) = c := hcc.symm
  rw [hc2] at hor
  subst ho
  have z1 : (E == 0) = false := by simp [hl]
  subst hk
  have HI := Lib.hid infoI
  have HO := Lib.hid in_one
  clear hEE hLL hMM hR ha hb hcc hb' b0 b1 b2 b3 hl hE
  go_enter Tryd.func27, Tryd.ntmps27
  go_wp2_with (first
    | ((with_reducible show wpList _ _ _ (⟨some 29, _, _, _, _, _⟩ :: _) _ _); refine wpl_gen (D3 w (byC x0 x1 x2 x3) (inC 0 0 0 0) (inC x0 a b c) 26) (d3_new w _ _ _ _) ?_; intro V hV; have HV := Lib.hid hV; clear hV; have c0 := HV.out.2.2.1.cell 0; have c1 := HV.out.2.2.1.cell 1; have c2 := HV.out.2.2.1.cell 2; have c3 := HV.out.2.2.1.cell 3; have f3 := HV.out.2.2.1.frozen 3)
    | (go_at_call 19; refine (HL.out _ HV.out.bel).mono ?_; rintro e V1 ⟨rfl, hb⟩; replace HV := Lib.hid (HV.out.under hb); clear hb c0 c1 c2 c3; have c0 := HV.out.2.2.1.cell 0; have c1 := HV.out.2.2.1.cell 1; have c2 := HV.out.2.2.1.cell 2; have c3 := HV.out.2.2.1.cell 3; have f3 := HV.out.2.2.1.frozen 3)
    | (go_at_call 15; refine (HC.out _ HV.out.bel).mono ?_; rintro e V3 ⟨rfl, hb⟩; replace HV := Lib.hid (HV.out.under hb); clear hb c0 c1 c2 c3; have c0 := HV.out.2.2.1.cell 0; have c1 := HV.out.2.2.1.cell 1; have c2 := HV.out.2.2.1.cell 2; have c3 := HV.out.2.2.1.cell 3; have f3 := HV.out.2.2.1.frozen 3; have HZ := Lib.hid HV.out.2.1.there)
    | ((with_reducible show wpList _ _ _ (⟨none, _, _, _, _, _⟩ :: _) _ _); refine wpList_store_mid (by rfl) 26 (.tmp 2) (.tmp 50) (by rfl) (w.heap.size + 1) 0 (inC x0 a b c) (by rfl) (by rfl) HZ.out HI.out (HO.out _ _ _ _) ?_))
  exact bodyPost_ret (results_row2 rfl _ _ (w.heap.size + 1) (inC x0 a b c).toList _ rfl (World.rangeAt_setCells_same _ _ _ _ HV.out.2.1.there) Tryd.underlying26 rfl infoI) rfl ⟨rfl, below_setCells _ (by omega) _ _ _ HV.out.2.2.2⟩
set_option maxHeartbeats 1000000 in
set_option maxRecDepth 100000 in
theorem d_0bad (x0 x1 x2 x3 : Nat) (o a b c : Int) (w : World) (hE : Env w) (b0 : x0 < 256) (b1 : x1 < 256) (b2 : x2 < 256) (b3 : x3 < 256) (ho : o = (x0 : Int)) (ha : a = (x1 : Int) / 16) (hb : b = (x1 : Int) % 16) (hcc : c = (x2 : Int) + 256 * (x3 : Int)) (hl : limE o ≠ 0) (hk : chkZ o a b (c) ≠ 0) :
    Calls Tryd.prog 27 #[byV x0 x1 x2 x3] w fun e w' => e = .returned (.tuple #[inV 0 0 0 0, .int .i64 24]) ∧ Below w.heap.size w w' := by
  obtain ⟨E, hEE⟩ : ∃ E, limE o = E := ⟨_, rfl⟩
  obtain ⟨L, hLL⟩ : ∃ L, lowZ o = L := ⟨_, rfl⟩
  obtain ⟨M, hMM⟩ : ∃ M, highZ o = M := ⟨_, rfl⟩
  obtain ⟨R, hR⟩ : ∃ R, chkZ o a b (c) = R := ⟨_, rfl⟩
  rw [hR] at hk
  rw [hEE] at hl
  have HL : Hid (∀ W, Below w.heap.size w W → Calls Tryd.prog 19 #[.int .i64 o] W fun e w' => e = .returned (.tuple #[.int .i64 L, .int .i64 M, .int .i64 E]) ∧ Below W.heap.size W w') := Lib.hid fun W hb => by
    rw [← hEE, ← hLL, ← hMM]; exact limits_any o W (hE.below hb)
  have HC : Hid (∀ W, Below w.heap.size w W → Calls Tryd.prog 15 #[inV o a b (c)] W fun e w' => e = .returned (.int .i64 R) ∧ Below W.heap.size W w') := Lib.hid fun W hb => by
    rw [← hR]; exact check_any _ _ _ _ W (hE.below hb)
  have hnib := nib_and x1 b1
  have hor := half_or x2 x3 b2 b3
  have q0 : (x0 : Int) < 256 := by omega
  have q1 : (x1 : Int) < 256 := by omega
  have q2 : (x2 : Int) < 256 := by omega
  have q3 : (x3 : Int) < 256 := by omega
  have q4 : 0 ≤ c := by omega
  have q5 : c < 65536 := by omega
  have hb' : ((x1 % 16 : Nat) : Int) = b := by omega
  rw [hb'] at hnib
  have ha2 : (x1 : Int) / 16 = a := ha.symm
  have hb2 : (x1 : Int) % 16 = b := hb.symm
  have hc2 : (x2 : Int) + 256 * (x3 : Int) = c := hcc.symm
  rw [hc2] at hor
  subst ho
  have z1 : (E == 0) = false := by simp [hl]
  have k1 : (R == 0) = false := by simp [hk]
  have k2 : (R != 0) = true := by simp [hk]
  have HI := Lib.hid infoI
  have HO := Lib.hid in_one
  clear hEE hLL hMM hR hk ha hb hcc hb' b0 b1 b2 b3 hl hE
  go_enter Tryd.func27, Tryd.ntmps27
  go_wp2_with (first
    | ((with_reducible show wpList _ _ _ (⟨some 29, _, _, _, _, _⟩ :: _) _ _); refine wpl_gen (D3 w (byC x0 x1 x2 x3) (inC 0 0 0 0) (inC x0 a b c) 26) (d3_new w _ _ _ _) ?_; intro V hV; have HV := Lib.hid hV; clear hV; have c0 := HV.out.2.2.1.cell 0; have c1 := HV.out.2.2.1.cell 1; have c2 := HV.out.2.2.1.cell 2; have c3 := HV.out.2.2.1.cell 3; have f3 := HV.out.2.2.1.frozen 3)
    | (go_at_call 19; refine (HL.out _ HV.out.bel).mono ?_; rintro e V1 ⟨rfl, hb⟩; replace HV := Lib.hid (HV.out.under hb); clear hb c0 c1 c2 c3; have c0 := HV.out.2.2.1.cell 0; have c1 := HV.out.2.2.1.cell 1; have c2 := HV.out.2.2.1.cell 2; have c3 := HV.out.2.2.1.cell 3; have f3 := HV.out.2.2.1.frozen 3)
    | (go_at_call 15; refine (HC.out _ HV.out.bel).mono ?_; rintro e V3 ⟨rfl, hb⟩; replace HV := Lib.hid (HV.out.under hb); clear hb c0 c1 c2 c3; have c0 := HV.out.2.2.1.cell 0; have c1 := HV.out.2.2.1.cell 1; have c2 := HV.out.2.2.1.cell 2; have c3 := HV.out.2.2.1.cell 3; have f3 := HV.out.2.2.1.frozen 3; have HZ := Lib.hid HV.out.2.1.there)
    | ((with_reducible show wpList _ _ _ (⟨none, _, _, _, _, _⟩ :: _) _ _); refine wpList_store_mid (by rfl) 26 (.tmp 2) (.tmp 49) (by rfl) (w.heap.size + 1) 0 (inC 0 0 0 0) (by rfl) (by rfl) HZ.out HI.out (HO.out _ _ _ _) ?_))
  exact bodyPost_ret (results_row2 rfl _ _ (w.heap.size + 1) (inC 0 0 0 0).toList _ rfl (World.rangeAt_setCells_same _ _ _ _ HV.out.2.1.there) Tryd.underlying26 rfl infoI) rfl ⟨rfl, below_setCells _ (by omega) _ _ _ HV.out.2.2.2⟩
set_option maxHeartbeats 1000000 in
set_option maxRecDepth 100000 in
theorem d_1ok (x0 x1 x2 x3 : Nat) (o a b c : Int) (w : World) (hE : Env w) (b0 : x0 < 256) (b1 : x1 < 256) (b2 : x2 < 256) (b3 : x3 < 256) (ho : o = (x0 : Int)) (ha : a = (x1 : Int) / 16) (hb : b = (x1 : Int) % 16) (hcc : c = (x2 : Int) + 256 * (x3 : Int)) (hl : limE o = 0) (hL : ¬ lowZ o < 0) (hk : chkZ o a b (c) = 0) :
    Calls Tryd.prog 27 #[byV x0 x1 x2 x3] w fun e w' => e = .returned (.tuple #[inV o a b (c), .int .i64 0]) ∧ Below w.heap.size w w' := by
  obtain ⟨E, hEE⟩ : ∃ E, limE o = E := ⟨_, rfl⟩
  obtain ⟨L, hLL⟩ : ∃ L, lowZ o = L := ⟨_, rfl⟩
  obtain ⟨M, hMM⟩ : ∃ M, highZ o = M := ⟨_, rfl⟩
  obtain ⟨R, hR⟩ : ∃ R, chkZ o a b (c) = R := ⟨_, rfl⟩
  rw [hR] at hk
  rw [hEE] at hl
  rw [hLL] at hL
  have HL : Hid (∀ W, Below w.heap.size w W → Calls Tryd.prog 19 #[.int .i64 o] W fun e w' => e = .returned (.tuple #[.int .i64 L, .int .i64 M, .int .i64 E]) ∧ Below W.heap.size W w') := Lib.hid fun W hb => by
    rw [← hEE, ← hLL, ← hMM]; exact limits_any o W (hE.below hb)
  have HC : Hid (∀ W, Below w.heap.size w W → Calls Tryd.prog 15 #[inV o a b (c)] W fun e w' => e = .returned (.int .i64 R) ∧ Below W.heap.size W w') := Lib.hid fun W hb => by
    rw [← hR]; exact check_any _ _ _ _ W (hE.below hb)
  have hnib := nib_and x1 b1
  have hor := half_or x2 x3 b2 b3
  have q0 : (x0 : Int) < 256 := by omega
  have q1 : (x1 : Int) < 256 := by omega
  have q2 : (x2 : Int) < 256 := by omega
  have q3 : (x3 : Int) < 256 := by omega
  have q4 : 0 ≤ c := by omega
  have q5 : c < 65536 := by omega
  have hb' : ((x1 % 16 : Nat) : Int) = b := by omega
  rw [hb'] at hnib
  have ha2 : (x1 : Int) / 16 = a := ha.symm
  have hb2 : (x1 : Int) % 16 = b := hb.symm
  have hc2 : (x2 : Int) + 256 * (x3 : Int) = c := hcc.symm
  rw [hc2] at hor
  subst ho
  have z1 : (E == 0) = true := by simp [hl]
  have z2 : decide (L < 0) = false := by simp; omega
  subst hk
  have HI := Lib.hid infoI
  have HO := Lib.hid in_one
  clear hEE hLL hMM hR ha hb hcc hb' b0 b1 b2 b3 hl hL hE
  go_enter Tryd.func27, Tryd.ntmps27
  go_wp2_with (first
    | ((with_reducible show wpList _ _ _ (⟨some 29, _, _, _, _, _⟩ :: _) _ _); refine wpl_gen (D3 w (byC x0 x1 x2 x3) (inC 0 0 0 0) (inC x0 a b c) 26) (d3_new w _ _ _ _) ?_; intro V hV; have HV := Lib.hid hV; clear hV; have c0 := HV.out.2.2.1.cell 0; have c1 := HV.out.2.2.1.cell 1; have c2 := HV.out.2.2.1.cell 2; have c3 := HV.out.2.2.1.cell 3; have f3 := HV.out.2.2.1.frozen 3)
    | (go_at_call 19; refine (HL.out _ HV.out.bel).mono ?_; rintro e V1 ⟨rfl, hb⟩; replace HV := Lib.hid (HV.out.under hb); clear hb c0 c1 c2 c3; have c0 := HV.out.2.2.1.cell 0; have c1 := HV.out.2.2.1.cell 1; have c2 := HV.out.2.2.1.cell 2; have c3 := HV.out.2.2.1.cell 3; have f3 := HV.out.2.2.1.frozen 3)
    | (go_at_call 15; refine (HC.out _ HV.out.bel).mono ?_; rintro e V3 ⟨rfl, hb⟩; replace HV := Lib.hid (HV.out.under hb); clear hb c0 c1 c2 c3; have c0 := HV.out.2.2.1.cell 0; have c1 := HV.out.2.2.1.cell 1; have c2 := HV.out.2.2.1.cell 2; have c3 := HV.out.2.2.1.cell 3; have f3 := HV.out.2.2.1.frozen 3; have HZ := Lib.hid HV.out.2.1.there)
    | ((with_reducible show wpList _ _ _ (⟨none, _, _, _, _, _⟩ :: _) _ _); refine wpList_store_mid (by rfl) 26 (.tmp 2) (.tmp 50) (by rfl) (w.heap.size + 1) 0 (inC x0 a b c) (by rfl) (by rfl) HZ.out HI.out (HO.out _ _ _ _) ?_))
  exact bodyPost_ret (results_row2 rfl _ _ (w.heap.size + 1) (inC x0 a b c).toList _ rfl (World.rangeAt_setCells_same _ _ _ _ HV.out.2.1.there) Tryd.underlying26 rfl infoI) rfl ⟨rfl, below_setCells _ (by omega) _ _ _ HV.out.2.2.2⟩
set_option maxHeartbeats 1000000 in
set_option maxRecDepth 100000 in
theorem d_1bad (x0 x1 x2 x3 : Nat) (o a b c : Int) (w : World) (hE : Env w) (b0 : x0 < 256) (b1 : x1 < 256) (b2 : x2 < 256) (b3 : x3 < 256) (ho : o = (x0 : Int)) (ha : a = (x1 : Int) / 16) (hb : b = (x1 : Int) % 16) (hcc : c = (x2 : Int) + 256 * (x3 : Int)) (hl : limE o = 0) (hL : ¬ lowZ o < 0) (hk : chkZ o a b (c) ≠ 0) :
    Calls Tryd.prog 27 #[byV x0 x1 x2 x3] w fun e w' => e = .returned (.tuple #[inV 0 0 0 0, .int .i64 24]) ∧ Below w.heap.size w w' := by
  obtain ⟨E, hEE⟩ : ∃ E, limE o = E := ⟨_, rfl⟩
  obtain ⟨L, hLL⟩ : ∃ L, lowZ o = L := ⟨_, rfl⟩
  obtain ⟨M, hMM⟩ : ∃ M, highZ o = M := ⟨_, rfl⟩
  obtain ⟨R, hR⟩ : ∃ R, chkZ o a b (c) = R := ⟨_, rfl⟩
  rw [hR] at hk
  rw [hEE] at hl
  rw [hLL] at hL
  have HL : Hid (∀ W, Below w.heap.size w W → Calls Tryd.prog 19 #[.int .i64 o] W fun e w' => e = .returned (.tuple #[.int .i64 L, .int .i64 M, .int .i64 E]) ∧ Below W.heap.size W w') := Lib.hid fun W hb => by
    rw [← hEE, ← hLL, ← hMM]; exact limits_any o W (hE.below hb)
  have HC : Hid (∀ W, Below w.heap.size w W → Calls Tryd.prog 15 #[inV o a b (c)] W fun e w' => e = .returned (.int .i64 R) ∧ Below W.heap.size W w') := Lib.hid fun W hb => by
    rw [← hR]; exact check_any _ _ _ _ W (hE.below hb)
  have hnib := nib_and x1 b1
  have hor := half_or x2 x3 b2 b3
  have q0 : (x0 : Int) < 256 := by omega
  have q1 : (x1 : Int) < 256 := by omega
  have q2 : (x2 : Int) < 256 := by omega
  have q3 : (x3 : Int) < 256 := by omega
  have q4 : 0 ≤ c := by omega
  have q5 : c < 65536 := by omega
  have hb' : ((x1 % 16 : Nat) : Int) = b := by omega
  rw [hb'] at hnib
  have ha2 : (x1 : Int) / 16 = a := ha.symm
  have hb2 : (x1 : Int) % 16 = b := hb.symm
  have hc2 : (x2 : Int) + 256 * (x3 : Int) = c := hcc.symm
  rw [hc2] at hor
  subst ho
  have z1 : (E == 0) = true := by simp [hl]
  have z2 : decide (L < 0) = false := by simp; omega
  have k1 : (R == 0) = false := by simp [hk]
  have k2 : (R != 0) = true := by simp [hk]
  have HI := Lib.hid infoI
  have HO := Lib.hid in_one
  clear hEE hLL hMM hR hk ha hb hcc hb' b0 b1 b2 b3 hl hL hE
  go_enter Tryd.func27, Tryd.ntmps27
  go_wp2_with (first
    | ((with_reducible show wpList _ _ _ (⟨some 29, _, _, _, _, _⟩ :: _) _ _); refine wpl_gen (D3 w (byC x0 x1 x2 x3) (inC 0 0 0 0) (inC x0 a b c) 26) (d3_new w _ _ _ _) ?_; intro V hV; have HV := Lib.hid hV; clear hV; have c0 := HV.out.2.2.1.cell 0; have c1 := HV.out.2.2.1.cell 1; have c2 := HV.out.2.2.1.cell 2; have c3 := HV.out.2.2.1.cell 3; have f3 := HV.out.2.2.1.frozen 3)
    | (go_at_call 19; refine (HL.out _ HV.out.bel).mono ?_; rintro e V1 ⟨rfl, hb⟩; replace HV := Lib.hid (HV.out.under hb); clear hb c0 c1 c2 c3; have c0 := HV.out.2.2.1.cell 0; have c1 := HV.out.2.2.1.cell 1; have c2 := HV.out.2.2.1.cell 2; have c3 := HV.out.2.2.1.cell 3; have f3 := HV.out.2.2.1.frozen 3)
    | (go_at_call 15; refine (HC.out _ HV.out.bel).mono ?_; rintro e V3 ⟨rfl, hb⟩; replace HV := Lib.hid (HV.out.under hb); clear hb c0 c1 c2 c3; have c0 := HV.out.2.2.1.cell 0; have c1 := HV.out.2.2.1.cell 1; have c2 := HV.out.2.2.1.cell 2; have c3 := HV.out.2.2.1.cell 3; have f3 := HV.out.2.2.1.frozen 3; have HZ := Lib.hid HV.out.2.1.there)
    | ((with_reducible show wpList _ _ _ (⟨none, _, _, _, _, _⟩ :: _) _ _); refine wpList_store_mid (by rfl) 26 (.tmp 2) (.tmp 49) (by rfl) (w.heap.size + 1) 0 (inC 0 0 0 0) (by rfl) (by rfl) HZ.out HI.out (HO.out _ _ _ _) ?_))
  exact bodyPost_ret (results_row2 rfl _ _ (w.heap.size + 1) (inC 0 0 0 0).toList _ rfl (World.rangeAt_setCells_same _ _ _ _ HV.out.2.1.there) Tryd.underlying26 rfl infoI) rfl ⟨rfl, below_setCells _ (by omega) _ _ _ HV.out.2.2.2⟩
set_option maxHeartbeats 1000000 in
set_option maxRecDepth 100000 in
theorem d_2ok (x0 x1 x2 x3 : Nat) (o a b c : Int) (w : World) (hE : Env w) (b0 : x0 < 256) (b1 : x1 < 256) (b2 : x2 < 256) (b3 : x3 < 256) (ho : o = (x0 : Int)) (ha : a = (x1 : Int) / 16) (hb : b = (x1 : Int) % 16) (hcc : c = (x2 : Int) + 256 * (x3 : Int)) (hl : limE o = 0) (hL : lowZ o < 0) (hc : ¬ 32767 < c) (hk : chkZ o a b (c) = 0) :
    Calls Tryd.prog 27 #[byV x0 x1 x2 x3] w fun e w' => e = .returned (.tuple #[inV o a b (c), .int .i64 0]) ∧ Below w.heap.size w w' := by
  obtain ⟨E, hEE⟩ : ∃ E, limE o = E := ⟨_, rfl⟩
  obtain ⟨L, hLL⟩ : ∃ L, lowZ o = L := ⟨_, rfl⟩
  obtain ⟨M, hMM⟩ : ∃ M, highZ o = M := ⟨_, rfl⟩
  obtain ⟨R, hR⟩ : ∃ R, chkZ o a b (c) = R := ⟨_, rfl⟩
  rw [hR] at hk
  rw [hEE] at hl
  rw [hLL] at hL
  have HL : Hid (∀ W, Below w.heap.size w W → Calls Tryd.prog 19 #[.int .i64 o] W fun e w' => e = .returned (.tuple #[.int .i64 L, .int .i64 M, .int .i64 E]) ∧ Below W.heap.size W w') := Lib.hid fun W hb => by
    rw [← hEE, ← hLL, ← hMM]; exact limits_any o W (hE.below hb)
  have HC : Hid (∀ W, Below w.heap.size w W → Calls Tryd.prog 15 #[inV o a b (c)] W fun e w' => e = .returned (.int .i64 R) ∧ Below W.heap.size W w') := Lib.hid fun W hb => by
    rw [← hR]; exact check_any _ _ _ _ W (hE.below hb)
  have hnib := nib_and x1 b1
  have hor := half_or x2 x3 b2 b3
  have q0 : (x0 : Int) < 256 := by omega
  have q1 : (x1 : Int) < 256 := by omega
  have q2 : (x2 : Int) < 256 := by omega
  have q3 : (x3 : Int) < 256 := by omega
  have q4 : 0 ≤ c := by omega
  have q5 : c < 65536 := by omega
  have hb' : ((x1 % 16 : Nat) : Int) = b := by omega
  rw [hb'] at hnib
  have ha2 : (x1 : Int) / 16 = a := ha.symm
  have hb2 : (x1 : Int) % 16 = b := hb.symm
  have hc2 : (x2 : Int) + 256 * (x3 : Int) = c := hcc.symm
  rw [hc2] at hor
  subst ho
  have z1 : (E == 0) = true := by simp [hl]
  have z2 : decide (L < 0) = true := by simp; omega
  have z3 : IntKind.i16.wrap c = c := by rw [i16_small q4 q5, if_neg hc]
  subst hk
  have HI := Lib.hid infoI
  have HO := Lib.hid in_one
  clear hEE hLL hMM hR ha hb hcc hb' b0 b1 b2 b3 hl hL hc hE
  go_enter Tryd.func27, Tryd.ntmps27
  go_wp2_with (first
    | ((with_reducible show wpList _ _ _ (⟨some 29, _, _, _, _, _⟩ :: _) _ _); refine wpl_gen (D3 w (byC x0 x1 x2 x3) (inC 0 0 0 0) (inC x0 a b c) 26) (d3_new w _ _ _ _) ?_; intro V hV; have HV := Lib.hid hV; clear hV; have c0 := HV.out.2.2.1.cell 0; have c1 := HV.out.2.2.1.cell 1; have c2 := HV.out.2.2.1.cell 2; have c3 := HV.out.2.2.1.cell 3; have f3 := HV.out.2.2.1.frozen 3)
    | (go_at_call 19; refine (HL.out _ HV.out.bel).mono ?_; rintro e V1 ⟨rfl, hb⟩; replace HV := Lib.hid (HV.out.under hb); clear hb c0 c1 c2 c3; have c0 := HV.out.2.2.1.cell 0; have c1 := HV.out.2.2.1.cell 1; have c2 := HV.out.2.2.1.cell 2; have c3 := HV.out.2.2.1.cell 3; have f3 := HV.out.2.2.1.frozen 3)
    | ((with_reducible show wpList _ _ _ (⟨some 46, _, _, _, _, _⟩ :: _) _ _); refine wpl_gen (D3 w (byC x0 x1 x2 x3) (inC 0 0 0 0) (inC x0 a b c) 26) (HV.out.set3 (.int .i64 c)) ?_; intro V2 hV; replace HV := Lib.hid hV; clear hV c0 c1 c2 c3; have c0 := HV.out.2.2.1.cell 0; have c1 := HV.out.2.2.1.cell 1; have c2 := HV.out.2.2.1.cell 2; have c3 := HV.out.2.2.1.cell 3; have f3 := HV.out.2.2.1.frozen 3)
    | (go_at_call 15; refine (HC.out _ HV.out.bel).mono ?_; rintro e V3 ⟨rfl, hb⟩; replace HV := Lib.hid (HV.out.under hb); clear hb c0 c1 c2 c3; have c0 := HV.out.2.2.1.cell 0; have c1 := HV.out.2.2.1.cell 1; have c2 := HV.out.2.2.1.cell 2; have c3 := HV.out.2.2.1.cell 3; have f3 := HV.out.2.2.1.frozen 3; have HZ := Lib.hid HV.out.2.1.there)
    | ((with_reducible show wpList _ _ _ (⟨none, _, _, _, _, _⟩ :: _) _ _); refine wpList_store_mid (by rfl) 26 (.tmp 2) (.tmp 50) (by rfl) (w.heap.size + 1) 0 (inC x0 a b c) (by rfl) (by rfl) HZ.out HI.out (HO.out _ _ _ _) ?_))
  exact bodyPost_ret (results_row2 rfl _ _ (w.heap.size + 1) (inC x0 a b c).toList _ rfl (World.rangeAt_setCells_same _ _ _ _ HV.out.2.1.there) Tryd.underlying26 rfl infoI) rfl ⟨rfl, below_setCells _ (by omega) _ _ _ HV.out.2.2.2⟩
set_option maxHeartbeats 1000000 in
set_option maxRecDepth 100000 in
theorem d_2bad (x0 x1 x2 x3 : Nat) (o a b c : Int) (w : World) (hE : Env w) (b0 : x0 < 256) (b1 : x1 < 256) (b2 : x2 < 256) (b3 : x3 < 256) (ho : o = (x0 : Int)) (ha : a = (x1 : Int) / 16) (hb : b = (x1 : Int) % 16) (hcc : c = (x2 : Int) + 256 * (x3 : Int)) (hl : limE o = 0) (hL : lowZ o < 0) (hc : ¬ 32767 < c) (hk : chkZ o a b (c) ≠ 0) :
    Calls Tryd.prog 27 #[byV x0 x1 x2 x3] w fun e w' => e = .returned (.tuple #[inV 0 0 0 0, .int .i64 24]) ∧ Below w.heap.size w w' := by
  obtain ⟨E, hEE⟩ : ∃ E, limE o = E := ⟨_, rfl⟩
  obtain ⟨L, hLL⟩ : ∃ L, lowZ o = L := ⟨_, rfl⟩
  obtain ⟨M, hMM⟩ : ∃ M, highZ o = M := ⟨_, rfl⟩
  obtain ⟨R, hR⟩ : ∃ R, chkZ o a b (c) = R := ⟨_, rfl⟩
  rw [hR] at hk
  rw [hEE] at hl
  rw [hLL] at hL
  have HL : Hid (∀ W, Below w.heap.size w W → Calls Tryd.prog 19 #[.int .i64 o] W fun e w' => e = .returned (.tuple #[.int .i64 L, .int .i64 M, .int .i64 E]) ∧ Below W.heap.size W w') := Lib.hid fun W hb => by
    rw [← hEE, ← hLL, ← hMM]; exact limits_any o W (hE.below hb)
  have HC : Hid (∀ W, Below w.heap.size w W → Calls Tryd.prog 15 #[inV o a b (c)] W fun e w' => e = .returned (.int .i64 R) ∧ Below W.heap.size W w') := Lib.hid fun W hb => by
    rw [← hR]; exact check_any _ _ _ _ W (hE.below hb)
  have hnib := nib_and x1 b1
  have hor := half_or x2 x3 b2 b3
  have q0 : (x0 : Int) < 256 := by omega
  have q1 : (x1 : Int) < 256 := by omega
  have q2 : (x2 : Int) < 256 := by omega
  have q3 : (x3 : Int) < 256 := by omega
  have q4 : 0 ≤ c := by omega
  have q5 : c < 65536 := by omega
  have hb' : ((x1 % 16 : Nat) : Int) = b := by omega
  rw [hb'] at hnib
  have ha2 : (x1 : Int) / 16 = a := ha.symm
  have hb2 : (x1 : Int) % 16 = b := hb.symm
  have hc2 : (x2 : Int) + 256 * (x3 : Int) = c := hcc.symm
  rw [hc2] at hor
  subst ho
  have z1 : (E == 0) = true := by simp [hl]
  have z2 : decide (L < 0) = true := by simp; omega
  have z3 : IntKind.i16.wrap c = c := by rw [i16_small q4 q5, if_neg hc]
  have k1 : (R == 0) = false := by simp [hk]
  have k2 : (R != 0) = true := by simp [hk]
  have HI := Lib.hid infoI
  have HO := Lib.hid in_one
  clear hEE hLL hMM hR hk ha hb hcc hb' b0 b1 b2 b3 hl hL hc hE
  go_enter Tryd.func27, Tryd.ntmps27
  go_wp2_with (first
    | ((with_reducible show wpList _ _ _ (⟨some 29, _, _, _, _, _⟩ :: _) _ _); refine wpl_gen (D3 w (byC x0 x1 x2 x3) (inC 0 0 0 0) (inC x0 a b c) 26) (d3_new w _ _ _ _) ?_; intro V hV; have HV := Lib.hid hV; clear hV; have c0 := HV.out.2.2.1.cell 0; have c1 := HV.out.2.2.1.cell 1; have c2 := HV.out.2.2.1.cell 2; have c3 := HV.out.2.2.1.cell 3; have f3 := HV.out.2.2.1.frozen 3)
    | (go_at_call 19; refine (HL.out _ HV.out.bel).mono ?_; rintro e V1 ⟨rfl, hb⟩; replace HV := Lib.hid (HV.out.under hb); clear hb c0 c1 c2 c3; have c0 := HV.out.2.2.1.cell 0; have c1 := HV.out.2.2.1.cell 1; have c2 := HV.out.2.2.1.cell 2; have c3 := HV.out.2.2.1.cell 3; have f3 := HV.out.2.2.1.frozen 3)
    | ((with_reducible show wpList _ _ _ (⟨some 46, _, _, _, _, _⟩ :: _) _ _); refine wpl_gen (D3 w (byC x0 x1 x2 x3) (inC 0 0 0 0) (inC x0 a b c) 26) (HV.out.set3 (.int .i64 c)) ?_; intro V2 hV; replace HV := Lib.hid hV; clear hV c0 c1 c2 c3; have c0 := HV.out.2.2.1.cell 0; have c1 := HV.out.2.2.1.cell 1; have c2 := HV.out.2.2.1.cell 2; have c3 := HV.out.2.2.1.cell 3; have f3 := HV.out.2.2.1.frozen 3)
    | (go_at_call 15; refine (HC.out _ HV.out.bel).mono ?_; rintro e V3 ⟨rfl, hb⟩; replace HV := Lib.hid (HV.out.under hb); clear hb c0 c1 c2 c3; have c0 := HV.out.2.2.1.cell 0; have c1 := HV.out.2.2.1.cell 1; have c2 := HV.out.2.2.1.cell 2; have c3 := HV.out.2.2.1.cell 3; have f3 := HV.out.2.2.1.frozen 3; have HZ := Lib.hid HV.out.2.1.there)
    | ((with_reducible show wpList _ _ _ (⟨none, _, _, _, _, _⟩ :: _) _ _); refine wpList_store_mid (by rfl) 26 (.tmp 2) (.tmp 49) (by rfl) (w.heap.size + 1) 0 (inC 0 0 0 0) (by rfl) (by rfl) HZ.out HI.out (HO.out _ _ _ _) ?_))
  exact bodyPost_ret (results_row2 rfl _ _ (w.heap.size + 1) (inC 0 0 0 0).toList _ rfl (World.rangeAt_setCells_same _ _ _ _ HV.out.2.1.there) Tryd.underlying26 rfl infoI) rfl ⟨rfl, below_setCells _ (by omega) _ _ _ HV.out.2.2.2⟩
set_option maxHeartbeats 1000000 in
set_option maxRecDepth 100000 in
theorem d_3ok (x0 x1 x2 x3 : Nat) (o a b c : Int) (w : World) (hE : Env w) (b0 : x0 < 256) (b1 : x1 < 256) (b2 : x2 < 256) (b3 : x3 < 256) (ho : o = (x0 : Int)) (ha : a = (x1 : Int) / 16) (hb : b = (x1 : Int) % 16) (hcc : c = (x2 : Int) + 256 * (x3 : Int)) (hl : limE o = 0) (hL : lowZ o < 0) (hc : 32767 < c) (hk : chkZ o a b (c - 65536) = 0) :
    Calls Tryd.prog 27 #[byV x0 x1 x2 x3] w fun e w' => e = .returned (.tuple #[inV o a b (c - 65536), .int .i64 0]) ∧ Below w.heap.size w w' := by
  obtain ⟨E, hEE⟩ : ∃ E, limE o = E := ⟨_, rfl⟩
  obtain ⟨L, hLL⟩ : ∃ L, lowZ o = L := ⟨_, rfl⟩
  obtain ⟨M, hMM⟩ : ∃ M, highZ o = M := ⟨_, rfl⟩
  obtain ⟨R, hR⟩ : ∃ R, chkZ o a b (c - 65536) = R := ⟨_, rfl⟩
  rw [hR] at hk
  rw [hEE] at hl
  rw [hLL] at hL
  have HL : Hid (∀ W, Below w.heap.size w W → Calls Tryd.prog 19 #[.int .i64 o] W fun e w' => e = .returned (.tuple #[.int .i64 L, .int .i64 M, .int .i64 E]) ∧ Below W.heap.size W w') := Lib.hid fun W hb => by
    rw [← hEE, ← hLL, ← hMM]; exact limits_any o W (hE.below hb)
  have HC : Hid (∀ W, Below w.heap.size w W → Calls Tryd.prog 15 #[inV o a b (c - 65536)] W fun e w' => e = .returned (.int .i64 R) ∧ Below W.heap.size W w') := Lib.hid fun W hb => by
    rw [← hR]; exact check_any _ _ _ _ W (hE.below hb)
  have hnib := nib_and x1 b1
  have hor := half_or x2 x3 b2 b3
  have q0 : (x0 : Int) < 256 := by omega
  have q1 : (x1 : Int) < 256 := by omega
  have q2 : (x2 : Int) < 256 := by omega
  have q3 : (x3 : Int) < 256 := by omega
  have q4 : 0 ≤ c := by omega
  have q5 : c < 65536 := by omega
  have hb' : ((x1 % 16 : Nat) : Int) = b := by omega
  rw [hb'] at hnib
  have ha2 : (x1 : Int) / 16 = a := ha.symm
  have hb2 : (x1 : Int) % 16 = b := hb.symm
  have hc2 : (x2 : Int) + 256 * (x3 : Int) = c := hcc.symm
  rw [hc2] at hor
  subst ho
  have z1 : (E == 0) = true := by simp [hl]
  have z2 : decide (L < 0) = true := by simp; omega
  have z3 : IntKind.i16.wrap c = c - 65536 := by rw [i16_small q4 q5, if_pos hc]
  obtain ⟨n, hn⟩ : ∃ n, c - 65536 = n := ⟨_, rfl⟩
  have n1 : -65536 ≤ n := by omega
  have n2 : n < 0 := by omega
  rw [hn] at HC z3
  rw [hn]
  subst hk
  have HI := Lib.hid infoI
  have HO := Lib.hid in_one
  clear hEE hLL hMM hR ha hb hcc hb' b0 b1 b2 b3 hl hL hc hE hn
  go_enter Tryd.func27, Tryd.ntmps27
  go_wp2_with (first
    | ((with_reducible show wpList _ _ _ (⟨some 29, _, _, _, _, _⟩ :: _) _ _); refine wpl_gen (D3 w (byC x0 x1 x2 x3) (inC 0 0 0 0) (inC x0 a b c) 26) (d3_new w _ _ _ _) ?_; intro V hV; have HV := Lib.hid hV; clear hV; have c0 := HV.out.2.2.1.cell 0; have c1 := HV.out.2.2.1.cell 1; have c2 := HV.out.2.2.1.cell 2; have c3 := HV.out.2.2.1.cell 3; have f3 := HV.out.2.2.1.frozen 3)
    | (go_at_call 19; refine (HL.out _ HV.out.bel).mono ?_; rintro e V1 ⟨rfl, hb⟩; replace HV := Lib.hid (HV.out.under hb); clear hb c0 c1 c2 c3; have c0 := HV.out.2.2.1.cell 0; have c1 := HV.out.2.2.1.cell 1; have c2 := HV.out.2.2.1.cell 2; have c3 := HV.out.2.2.1.cell 3; have f3 := HV.out.2.2.1.frozen 3)
    | ((with_reducible show wpList _ _ _ (⟨some 46, _, _, _, _, _⟩ :: _) _ _); refine wpl_gen (D3 w (byC x0 x1 x2 x3) (inC 0 0 0 0) (inC x0 a b n) 26) (HV.out.set3 (.int .i64 n)) ?_; intro V2 hV; replace HV := Lib.hid hV; clear hV c0 c1 c2 c3; have c0 := HV.out.2.2.1.cell 0; have c1 := HV.out.2.2.1.cell 1; have c2 := HV.out.2.2.1.cell 2; have c3 := HV.out.2.2.1.cell 3; have f3 := HV.out.2.2.1.frozen 3)
    | (go_at_call 15; refine (HC.out _ HV.out.bel).mono ?_; rintro e V3 ⟨rfl, hb⟩; replace HV := Lib.hid (HV.out.under hb); clear hb c0 c1 c2 c3; have c0 := HV.out.2.2.1.cell 0; have c1 := HV.out.2.2.1.cell 1; have c2 := HV.out.2.2.1.cell 2; have c3 := HV.out.2.2.1.cell 3; have f3 := HV.out.2.2.1.frozen 3; have HZ := Lib.hid HV.out.2.1.there)
    | ((with_reducible show wpList _ _ _ (⟨none, _, _, _, _, _⟩ :: _) _ _); refine wpList_store_mid (by rfl) 26 (.tmp 2) (.tmp 50) (by rfl) (w.heap.size + 1) 0 (inC x0 a b n) (by rfl) (by rfl) HZ.out HI.out (HO.out _ _ _ _) ?_))
  exact bodyPost_ret (results_row2 rfl _ _ (w.heap.size + 1) (inC x0 a b n).toList _ rfl (World.rangeAt_setCells_same _ _ _ _ HV.out.2.1.there) Tryd.underlying26 rfl infoI) rfl ⟨rfl, below_setCells _ (by omega) _ _ _ HV.out.2.2.2⟩
set_option maxHeartbeats 1000000 in
set_option maxRecDepth 100000 in
theorem d_3bad (x0 x1 x2 x3 : Nat) (o a b c : Int) (w : World) (hE : Env w) (b0 : x0 < 256) (b1 : x1 < 256) (b2 : x2 < 256) (b3 : x3 < 256) (ho : o = (x0 : Int)) (ha : a = (x1 : Int) / 16) (hb : b = (x1 : Int) % 16) (hcc : c = (x2 : Int) + 256 * (x3 : Int)) (hl : limE o = 0) (hL : lowZ o < 0) (hc : 32767 < c) (hk : chkZ o a b (c - 65536) ≠ 0) :
    Calls Tryd.prog 27 #[byV x0 x1 x2 x3] w fun e w' => e = .returned (.tuple #[inV 0 0 0 0, .int .i64 24]) ∧ Below w.heap.size w w' := by
  obtain ⟨E, hEE⟩ : ∃ E, limE o = E := ⟨_, rfl⟩
  obtain ⟨L, hLL⟩ : ∃ L, lowZ o = L := ⟨_, rfl⟩
  obtain ⟨M, hMM⟩ : ∃ M, highZ o = M := ⟨_, rfl⟩
  obtain ⟨R, hR⟩ : ∃ R, chkZ o a b (c - 65536) = R := ⟨_, rfl⟩
  rw [hR] at hk
  rw [hEE] at hl
  rw [hLL] at hL
  have HL : Hid (∀ W, Below w.heap.size w W → Calls Tryd.prog 19 #[.int .i64 o] W fun e w' => e = .returned (.tuple #[.int .i64 L, .int .i64 M, .int .i64 E]) ∧ Below W.heap.size W w') := Lib.hid fun W hb => by
    rw [← hEE, ← hLL, ← hMM]; exact limits_any o W (hE.below hb)
  have HC : Hid (∀ W, Below w.heap.size w W → Calls Tryd.prog 15 #[inV o a b (c - 65536)] W fun e w' => e = .returned (.int .i64 R) ∧ Below W.heap.size W w') := Lib.hid fun W hb => by
    rw [← hR]; exact check_any _ _ _ _ W (hE.below hb)
  have hnib := nib_and x1 b1
  have hor := half_or x2 x3 b2 b3
  have q0 : (x0 : Int) < 256 := by omega
  have q1 : (x1 : Int) < 256 := by omega
  have q2 : (x2 : Int) < 256 := by omega
  have q3 : (x3 : Int) < 256 := by omega
  have q4 : 0 ≤ c := by omega
  have q5 : c < 65536 := by omega
  have hb' : ((x1 % 16 : Nat) : Int) = b := by omega
  rw [hb'] at hnib
  have ha2 : (x1 : Int) / 16 = a := ha.symm
  have hb2 : (x1 : Int) % 16 = b := hb.symm
  have hc2 : (x2 : Int) + 256 * (x3 : Int) = c := hcc.symm
  rw [hc2] at hor
  subst ho
  have z1 : (E == 0) = true := by simp [hl]
  have z2 : decide (L < 0) = true := by simp; omega
  have z3 : IntKind.i16.wrap c = c - 65536 := by rw [i16_small q4 q5, if_pos hc]
  obtain ⟨n, hn⟩ : ∃ n, c - 65536 = n := ⟨_, rfl⟩
  have n1 : -65536 ≤ n := by omega
  have n2 : n < 0 := by omega
  rw [hn] at HC z3
  have k1 : (R == 0) = false := by simp [hk]
  have k2 : (R != 0) = true := by simp [hk]
  have HI := Lib.hid infoI
  have HO := Lib.hid in_one
  clear hEE hLL hMM hR hk ha hb hcc hb' b0 b1 b2 b3 hl hL hc hE hn
  go_enter Tryd.func27, Tryd.ntmps27
  go_wp2_with (first
    | ((with_reducible show wpList _ _ _ (⟨some 29, _, _, _, _, _⟩ :: _) _ _); refine wpl_gen (D3 w (byC x0 x1 x2 x3) (inC 0 0 0 0) (inC x0 a b c) 26) (d3_new w _ _ _ _) ?_; intro V hV; have HV := Lib.hid hV; clear hV; have c0 := HV.out.2.2.1.cell 0; have c1 := HV.out.2.2.1.cell 1; have c2 := HV.out.2.2.1.cell 2; have c3 := HV.out.2.2.1.cell 3; have f3 := HV.out.2.2.1.frozen 3)
    | (go_at_call 19; refine (HL.out _ HV.out.bel).mono ?_; rintro e V1 ⟨rfl, hb⟩; replace HV := Lib.hid (HV.out.under hb); clear hb c0 c1 c2 c3; have c0 := HV.out.2.2.1.cell 0; have c1 := HV.out.2.2.1.cell 1; have c2 := HV.out.2.2.1.cell 2; have c3 := HV.out.2.2.1.cell 3; have f3 := HV.out.2.2.1.frozen 3)
    | ((with_reducible show wpList _ _ _ (⟨some 46, _, _, _, _, _⟩ :: _) _ _); refine wpl_gen (D3 w (byC x0 x1 x2 x3) (inC 0 0 0 0) (inC x0 a b n) 26) (HV.out.set3 (.int .i64 n)) ?_; intro V2 hV; replace HV := Lib.hid hV; clear hV c0 c1 c2 c3; have c0 := HV.out.2.2.1.cell 0; have c1 := HV.out.2.2.1.cell 1; have c2 := HV.out.2.2.1.cell 2; have c3 := HV.out.2.2.1.cell 3; have f3 := HV.out.2.2.1.frozen 3)
    | (go_at_call 15; refine (HC.out _ HV.out.bel).mono ?_; rintro e V3 ⟨rfl, hb⟩; replace HV := Lib.hid (HV.out.under hb); clear hb c0 c1 c2 c3; have c0 := HV.out.2.2.1.cell 0; have c1 := HV.out.2.2.1.cell 1; have c2 := HV.out.2.2.1.cell 2; have c3 := HV.out.2.2.1.cell 3; have f3 := HV.out.2.2.1.frozen 3; have HZ := Lib.hid HV.out.2.1.there)
    | ((with_reducible show wpList _ _ _ (⟨none, _, _, _, _, _⟩ :: _) _ _); refine wpList_store_mid (by rfl) 26 (.tmp 2) (.tmp 49) (by rfl) (w.heap.size + 1) 0 (inC 0 0 0 0) (by rfl) (by rfl) HZ.out HI.out (HO.out _ _ _ _) ?_))
  exact bodyPost_ret (results_row2 rfl _ _ (w.heap.size + 1) (inC 0 0 0 0).toList _ rfl (World.rangeAt_setCells_same _ _ _ _ HV.out.2.1.there) Tryd.underlying26 rfl infoI) rfl ⟨rfl, below_setCells _ (by omega) _ _ _ HV.out.2.2.2⟩
set_option maxHeartbeats 1000000 in
set_option maxRecDepth 100000 in
theorem rd_0ok (x0 x1 x2 x3 : Nat) (o a b c : Int) (w : World) (b0 : x0 < 256) (b1 : x1 < 256) (b2 : x2 < 256) (b3 : x3 < 256) (ho : o = (x0 : Int)) (ha : a = (x1 : Int) / 16) (hb : b = (x1 : Int) % 16) (hcc : c = (x2 : Int) + 256 * (x3 : Int)) (hl : limE o ≠ 0) (hk : chkZ o a b (c) = 0) :
    Calls Tryd.prog 29 #[byV x0 x1 x2 x3] w fun e w' => e = .returned (.tuple #[inV o a b (c), .int .i64 0]) ∧ Below w.heap.size w w' := by
  obtain ⟨E, hEE⟩ : ∃ E, limE o = E := ⟨_, rfl⟩
  obtain ⟨L, hLL⟩ : ∃ L, lowZ o = L := ⟨_, rfl⟩
  obtain ⟨M, hMM⟩ : ∃ M, highZ o = M := ⟨_, rfl⟩
  obtain ⟨R, hR⟩ : ∃ R, chkZ o a b (c) = R := ⟨_, rfl⟩
  rw [hR] at hk
  rw [hEE] at hl
  have HL : Hid (∀ W, Below w.heap.size w W → Calls Tryd.prog 20 #[.int .i64 o] W fun e w' => e = .returned (.tuple #[.int .i64 L, .int .i64 M, .int .i64 E]) ∧ Below W.heap.size W w') := Lib.hid fun W hb => by
    rw [← hEE, ← hLL, ← hMM]; exact (rlimits_any o W).mono fun _ _ h => ⟨h.1, by rw [h.2]; exact Below.refl _ _⟩
  have HC : Hid (∀ W, Below w.heap.size w W → Calls Tryd.prog 16 #[inV o a b (c)] W fun e w' => e = .returned (.int .i64 R) ∧ Below W.heap.size W w') := Lib.hid fun W hb => by
    rw [← hR]; exact rcheck_any _ _ _ _ W
  have hnib := nib_and x1 b1
  have hor := half_or x2 x3 b2 b3
  have q0 : (x0 : Int) < 256 := by omega
  have q1 : (x1 : Int) < 256 := by omega
  have q2 : (x2 : Int) < 256 := by omega
  have q3 : (x3 : Int) < 256 := by omega
  have q4 : 0 ≤ c := by omega
  have q5 : c < 65536 := by omega
  have hb' : ((x1 % 16 : Nat) : Int) = b := by omega
  rw [hb'] at hnib
  have ha2 : (x1 : Int) / 16 = a := ha.symm
  have hb2 : (x1 : Int) % 16 = b := hb.symm
  have hc2 : (x2 : Int) + 256 * (x3 : Int) = c := hcc.symm
  rw [hc2] at hor
  subst ho
  have z1 : (E == 0) = false := by simp [hl]
  subst hk
  have HI := Lib.hid infoR
  have HO := Lib.hid in_one
  clear hEE hLL hMM hR ha hb hcc hb' b0 b1 b2 b3 hl
  go_enter Tryd.func29, Tryd.ntmps29
  go_wp2_with (first
    | ((with_reducible show wpList _ _ _ (⟨some 29, _, _, _, _, _⟩ :: _) _ _); refine wpl_gen (D3 w (byC x0 x1 x2 x3) (inC 0 0 0 0) (inC x0 a b c) 23) (d3_new w _ _ _ _) ?_; intro V hV; have HV := Lib.hid hV; clear hV; have c0 := HV.out.2.2.1.cell 0; have c1 := HV.out.2.2.1.cell 1; have c2 := HV.out.2.2.1.cell 2; have c3 := HV.out.2.2.1.cell 3; have f3 := HV.out.2.2.1.frozen 3)
    | (go_at_call 20; refine (HL.out _ HV.out.bel).mono ?_; rintro e V1 ⟨rfl, hb⟩; replace HV := Lib.hid (HV.out.under hb); clear hb c0 c1 c2 c3; have c0 := HV.out.2.2.1.cell 0; have c1 := HV.out.2.2.1.cell 1; have c2 := HV.out.2.2.1.cell 2; have c3 := HV.out.2.2.1.cell 3; have f3 := HV.out.2.2.1.frozen 3)
    | (go_at_call 16; refine (HC.out _ HV.out.bel).mono ?_; rintro e V3 ⟨rfl, hb⟩; replace HV := Lib.hid (HV.out.under hb); clear hb c0 c1 c2 c3; have c0 := HV.out.2.2.1.cell 0; have c1 := HV.out.2.2.1.cell 1; have c2 := HV.out.2.2.1.cell 2; have c3 := HV.out.2.2.1.cell 3; have f3 := HV.out.2.2.1.frozen 3; have HZ := Lib.hid HV.out.2.1.there)
    | ((with_reducible show wpList _ _ _ (⟨none, _, _, _, _, _⟩ :: _) _ _); refine wpList_store_mid (by rfl) 23 (.tmp 2) (.tmp 54) (by rfl) (w.heap.size + 1) 0 (inC x0 a b c) (by rfl) (by rfl) HZ.out HI.out (HO.out _ _ _ _) ?_))
  exact bodyPost_ret (results_row2 rfl _ _ (w.heap.size + 1) (inC x0 a b c).toList _ rfl (World.rangeAt_setCells_same _ _ _ _ HV.out.2.1.there) Tryd.underlying23 rfl infoR) rfl ⟨rfl, below_setCells _ (by omega) _ _ _ HV.out.2.2.2⟩
set_option maxHeartbeats 1000000 in
set_option maxRecDepth 100000 in
theorem rd_0bad (x0 x1 x2 x3 : Nat) (o a b c : Int) (w : World) (b0 : x0 < 256) (b1 : x1 < 256) (b2 : x2 < 256) (b3 : x3 < 256) (ho : o = (x0 : Int)) (ha : a = (x1 : Int) / 16) (hb : b = (x1 : Int) % 16) (hcc : c = (x2 : Int) + 256 * (x3 : Int)) (hl : limE o ≠ 0) (hk : chkZ o a b (c) ≠ 0) :
    Calls Tryd.prog 29 #[byV x0 x1 x2 x3] w fun e w' => e = .returned (.tuple #[inV 0 0 0 0, .int .i64 24]) ∧ Below w.heap.size w w' := by
  obtain ⟨E, hEE⟩ : ∃ E, limE o = E := ⟨_, rfl⟩
  obtain ⟨L, hLL⟩ : ∃ L, lowZ o = L := ⟨_, rfl⟩
  obtain ⟨M, hMM⟩ : ∃ M, highZ o = M := ⟨_, rfl⟩
  obtain ⟨R, hR⟩ : ∃ R, chkZ o a b (c) = R := ⟨_, rfl⟩
  rw [hR] at hk
  rw [hEE] at hl
  have HL : Hid (∀ W, Below w.heap.size w W → Calls Tryd.prog 20 #[.int .i64 o] W fun e w' => e = .returned (.tuple #[.int .i64 L, .int .i64 M, .int .i64 E]) ∧ Below W.heap.size W w') := Lib.hid fun W hb => by
    rw [← hEE, ← hLL, ← hMM]; exact (rlimits_any o W).mono fun _ _ h => ⟨h.1, by rw [h.2]; exact Below.refl _ _⟩
  have HC : Hid (∀ W, Below w.heap.size w W → Calls Tryd.prog 16 #[inV o a b (c)] W fun e w' => e = .returned (.int .i64 R) ∧ Below W.heap.size W w') := Lib.hid fun W hb => by
    rw [← hR]; exact rcheck_any _ _ _ _ W
  have hnib := nib_and x1 b1
  have hor := half_or x2 x3 b2 b3
  have q0 : (x0 : Int) < 256 := by omega
  have q1 : (x1 : Int) < 256 := by omega
  have q2 : (x2 : Int) < 256 := by omega
  have q3 : (x3 : Int) < 256 := by omega
  have q4 : 0 ≤ c := by omega
  have q5 : c < 65536 := by omega
  have hb' : ((x1 % 16 : Nat) : Int) = b := by omega
  rw [hb'] at hnib
  have ha2 : (x1 : Int) / 16 = a := ha.symm
  have hb2 : (x1 : Int) % 16 = b := hb.symm
  have hc2 : (x2 : Int) + 256 * (x3 : Int) = c := hcc.symm
  rw [hc2] at hor
  subst ho
  have z1 : (E == 0) = false := by simp [hl]
  have k1 : (R == 0) = false := by simp [hk]
  have k2 : (R != 0) = true := by simp [hk]
  have HI := Lib.hid infoR
  have HO := Lib.hid in_one
  clear hEE hLL hMM hR hk ha hb hcc hb' b0 b1 b2 b3 hl
  go_enter Tryd.func29, Tryd.ntmps29
  go_wp2_with (first
    | ((with_reducible show wpList _ _ _ (⟨some 29, _, _, _, _, _⟩ :: _) _ _); refine wpl_gen (D3 w (byC x0 x1 x2 x3) (inC 0 0 0 0) (inC x0 a b c) 23) (d3_new w _ _ _ _) ?_; intro V hV; have HV := Lib.hid hV; clear hV; have c0 := HV.out.2.2.1.cell 0; have c1 := HV.out.2.2.1.cell 1; have c2 := HV.out.2.2.1.cell 2; have c3 := HV.out.2.2.1.cell 3; have f3 := HV.out.2.2.1.frozen 3)
    | (go_at_call 20; refine (HL.out _ HV.out.bel).mono ?_; rintro e V1 ⟨rfl, hb⟩; replace HV := Lib.hid (HV.out.under hb); clear hb c0 c1 c2 c3; have c0 := HV.out.2.2.1.cell 0; have c1 := HV.out.2.2.1.cell 1; have c2 := HV.out.2.2.1.cell 2; have c3 := HV.out.2.2.1.cell 3; have f3 := HV.out.2.2.1.frozen 3)
    | (go_at_call 16; refine (HC.out _ HV.out.bel).mono ?_; rintro e V3 ⟨rfl, hb⟩; replace HV := Lib.hid (HV.out.under hb); clear hb c0 c1 c2 c3; have c0 := HV.out.2.2.1.cell 0; have c1 := HV.out.2.2.1.cell 1; have c2 := HV.out.2.2.1.cell 2; have c3 := HV.out.2.2.1.cell 3; have f3 := HV.out.2.2.1.frozen 3; have HZ := Lib.hid HV.out.2.1.there)
    | ((with_reducible show wpList _ _ _ (⟨none, _, _, _, _, _⟩ :: _) _ _); refine wpList_store_mid (by rfl) 23 (.tmp 2) (.tmp 53) (by rfl) (w.heap.size + 1) 0 (inC 0 0 0 0) (by rfl) (by rfl) HZ.out HI.out (HO.out _ _ _ _) ?_))
  exact bodyPost_ret (results_row2 rfl _ _ (w.heap.size + 1) (inC 0 0 0 0).toList _ rfl (World.rangeAt_setCells_same _ _ _ _ HV.out.2.1.there) Tryd.underlying23 rfl infoR) rfl ⟨rfl, below_setCells _ (by omega) _ _ _ HV.out.2.2.2⟩
set_option maxHeartbeats 1000000 in
set_option maxRecDepth 100000 in
theorem rd_1ok (x0 x1 x2 x3 : Nat) (o a b c : Int) (w : World) (b0 : x0 < 256) (b1 : x1 < 256) (b2 : x2 < 256) (b3 : x3 < 256) (ho : o = (x0 : Int)) (ha : a = (x1 : Int) / 16) (hb : b = (x1 : Int) % 16) (hcc : c = (x2 : Int) + 256 * (x3 : Int)) (hl : limE o = 0) (hL : ¬ lowZ o < 0) (hk : chkZ o a b (c) = 0) :
    Calls Tryd.prog 29 #[byV x0 x1 x2 x3] w fun e w' => e = .returned (.tuple #[inV o a b (c), .int .i64 0]) ∧ Below w.heap.size w w' := by
  obtain ⟨E, hEE⟩ : ∃ E, limE o = E := ⟨_, rfl⟩
  obtain ⟨L, hLL⟩ : ∃ L, lowZ o = L := ⟨_, rfl⟩
  obtain ⟨M, hMM⟩ : ∃ M, highZ o = M := ⟨_, rfl⟩
  obtain ⟨R, hR⟩ : ∃ R, chkZ o a b (c) = R := ⟨_, rfl⟩
  rw [hR] at hk
  rw [hEE] at hl
  rw [hLL] at hL
  have HL : Hid (∀ W, Below w.heap.size w W → Calls Tryd.prog 20 #[.int .i64 o] W fun e w' => e = .returned (.tuple #[.int .i64 L, .int .i64 M, .int .i64 E]) ∧ Below W.heap.size W w') := Lib.hid fun W hb => by
    rw [← hEE, ← hLL, ← hMM]; exact (rlimits_any o W).mono fun _ _ h => ⟨h.1, by rw [h.2]; exact Below.refl _ _⟩
  have HC : Hid (∀ W, Below w.heap.size w W → Calls Tryd.prog 16 #[inV o a b (c)] W fun e w' => e = .returned (.int .i64 R) ∧ Below W.heap.size W w') := Lib.hid fun W hb => by
    rw [← hR]; exact rcheck_any _ _ _ _ W
  have hnib := nib_and x1 b1
  have hor := half_or x2 x3 b2 b3
  have q0 : (x0 : Int) < 256 := by omega
  have q1 : (x1 : Int) < 256 := by omega
  have q2 : (x2 : Int) < 256 := by omega
  have q3 : (x3 : Int) < 256 := by omega
  have q4 : 0 ≤ c := by omega
  have q5 : c < 65536 := by omega
  have hb' : ((x1 % 16 : Nat) : Int) = b := by omega
  rw [hb'] at hnib
  have ha2 : (x1 : Int) / 16 = a := ha.symm
  have hb2 : (x1 : Int) % 16 = b := hb.symm
  have hc2 : (x2 : Int) + 256 * (x3 : Int) = c := hcc.symm
  rw [hc2] at hor
  subst ho
  have z1 : (E == 0) = true := by simp [hl]
  have z2 : decide (L < 0) = false := by simp; omega
  subst hk
  have HI := Lib.hid infoR
  have HO := Lib.hid in_one
  clear hEE hLL hMM hR ha hb hcc hb' b0 b1 b2 b3 hl hL
  go_enter Tryd.func29, Tryd.ntmps29
  go_wp2_with (first
    | ((with_reducible show wpList _ _ _ (⟨some 29, _, _, _, _, _⟩ :: _) _ _); refine wpl_gen (D3 w (byC x0 x1 x2 x3) (inC 0 0 0 0) (inC x0 a b c) 23) (d3_new w _ _ _ _) ?_; intro V hV; have HV := Lib.hid hV; clear hV; have c0 := HV.out.2.2.1.cell 0; have c1 := HV.out.2.2.1.cell 1; have c2 := HV.out.2.2.1.cell 2; have c3 := HV.out.2.2.1.cell 3; have f3 := HV.out.2.2.1.frozen 3)
    | (go_at_call 20; refine (HL.out _ HV.out.bel).mono ?_; rintro e V1 ⟨rfl, hb⟩; replace HV := Lib.hid (HV.out.under hb); clear hb c0 c1 c2 c3; have c0 := HV.out.2.2.1.cell 0; have c1 := HV.out.2.2.1.cell 1; have c2 := HV.out.2.2.1.cell 2; have c3 := HV.out.2.2.1.cell 3; have f3 := HV.out.2.2.1.frozen 3)
    | (go_at_call 16; refine (HC.out _ HV.out.bel).mono ?_; rintro e V3 ⟨rfl, hb⟩; replace HV := Lib.hid (HV.out.under hb); clear hb c0 c1 c2 c3; have c0 := HV.out.2.2.1.cell 0; have c1 := HV.out.2.2.1.cell 1; have c2 := HV.out.2.2.1.cell 2; have c3 := HV.out.2.2.1.cell 3; have f3 := HV.out.2.2.1.frozen 3; have HZ := Lib.hid HV.out.2.1.there)
    | ((with_reducible show wpList _ _ _ (⟨none, _, _, _, _, _⟩ :: _) _ _); refine wpList_store_mid (by rfl) 23 (.tmp 2) (.tmp 54) (by rfl) (w.heap.size + 1) 0 (inC x0 a b c) (by rfl) (by rfl) HZ.out HI.out (HO.out _ _ _ _) ?_))
  exact bodyPost_ret (results_row2 rfl _ _ (w.heap.size + 1) (inC x0 a b c).toList _ rfl (World.rangeAt_setCells_same _ _ _ _ HV.out.2.1.there) Tryd.underlying23 rfl infoR) rfl ⟨rfl, below_setCells _ (by omega) _ _ _ HV.out.2.2.2⟩
set_option maxHeartbeats 1000000 in
set_option maxRecDepth 100000 in
theorem rd_1bad (x0 x1 x2 x3 : Nat) (o a b c : Int) (w : World) (b0 : x0 < 256) (b1 : x1 < 256) (b2 : x2 < 256) (b3 : x3 < 256) (ho : o = (x0 : Int)) (ha : a = (x1 : Int) / 16) (hb : b = (x1 : Int) % 16) (hcc : c = (x2 : Int) + 256 * (x3 : Int)) (hl : limE o = 0) (hL : ¬ lowZ o < 0) (hk : chkZ o a b (c) ≠ 0) :
    Calls Tryd.prog 29 #[byV x0 x1 x2 x3] w fun e w' => e = .returned (.tuple #[inV 0 0 0 0, .int .i64 24]) ∧ Below w.heap.size w w' := by
  obtain ⟨E, hEE⟩ : ∃ E, limE o = E := ⟨_, rfl⟩
  obtain ⟨L, hLL⟩ : ∃ L, lowZ o = L := ⟨_, rfl⟩
  obtain ⟨M, hMM⟩ : ∃ M, highZ o = M := ⟨_, rfl⟩
  obtain ⟨R, hR⟩ : ∃ R, chkZ o a b (c) = R := ⟨_, rfl⟩
  rw [hR] at hk
  rw [hEE] at hl
  rw [hLL] at hL
  have HL : Hid (∀ W, Below w.heap.size w W → Calls Tryd.prog 20 #[.int .i64 o] W fun e w' => e = .returned (.tuple #[.int .i64 L, .int .i64 M, .int .i64 E]) ∧ Below W.heap.size W w') := Lib.hid fun W hb => by
    rw [← hEE, ← hLL, ← hMM]; exact (rlimits_any o W).mono fun _ _ h => ⟨h.1, by rw [h.2]; exact Below.refl _ _⟩
  have HC : Hid (∀ W, Below w.heap.size w W → Calls Tryd.prog 16 #[inV o a b (c)] W fun e w' => e = .returned (.int .i64 R) ∧ Below W.heap.size W w') := Lib.hid fun W hb => by
    rw [← hR]; exact rcheck_any _ _ _ _ W
  have hnib := nib_and x1 b1
  have hor := half_or x2 x3 b2 b3
  have q0 : (x0 : Int) < 256 := by omega
  have q1 : (x1 : Int) < 256 := by omega
  have q2 : (x2 : Int) < 256 := by omega
  have q3 : (x3 : Int) < 256 := by omega
  have q4 : 0 ≤ c := by omega
  have q5 : c < 65536 := by omega
  have hb' : ((x1 % 16 : Nat) : Int) = b := by omega
  rw [hb'] at hnib
  have ha2 : (x1 : Int) / 16 = a := ha.symm
  have hb2 : (x1 : Int) % 16 = b := hb.symm
  have hc2 : (x2 : Int) + 256 * (x3 : Int) = c := hcc.symm
  rw [hc2] at hor
  subst ho
  have z1 : (E == 0) = true := by simp [hl]
  have z2 : decide (L < 0) = false := by simp; omega
  have k1 : (R == 0) = false := by simp [hk]
  have k2 : (R != 0) = true := by simp [hk]
  have HI := Lib.hid infoR
  have HO := Lib.hid in_one
  clear hEE hLL hMM hR hk ha hb hcc hb' b0 b1 b2 b3 hl hL
  go_enter Tryd.func29, Tryd.ntmps29
  go_wp2_with (first
    | ((with_reducible show wpList _ _ _ (⟨some 29, _, _, _, _, _⟩ :: _) _ _); refine wpl_gen (D3 w (byC x0 x1 x2 x3) (inC 0 0 0 0) (inC x0 a b c) 23) (d3_new w _ _ _ _) ?_; intro V hV; have HV := Lib.hid hV; clear hV; have c0 := HV.out.2.2.1.cell 0; have c1 := HV.out.2.2.1.cell 1; have c2 := HV.out.2.2.1.cell 2; have c3 := HV.out.2.2.1.cell 3; have f3 := HV.out.2.2.1.frozen 3)
    | (go_at_call 20; refine (HL.out _ HV.out.bel).mono ?_; rintro e V1 ⟨rfl, hb⟩; replace HV := Lib.hid (HV.out.under hb); clear hb c0 c1 c2 c3; have c0 := HV.out.2.2.1.cell 0; have c1 := HV.out.2.2.1.cell 1; have c2 := HV.out.2.2.1.cell 2; have c3 := HV.out.2.2.1.cell 3; have f3 := HV.out.2.2.1.frozen 3)
    | (go_at_call 16; refine (HC.out _ HV.out.bel).mono ?_; rintro e V3 ⟨rfl, hb⟩; replace HV := Lib.hid (HV.out.under hb); clear hb c0 c1 c2 c3; have c0 := HV.out.2.2.1.cell 0; have c1 := HV.out.2.2.1.cell 1; have c2 := HV.out.2.2.1.cell 2; have c3 := HV.out.2.2.1.cell 3; have f3 := HV.out.2.2.1.frozen 3; have HZ := Lib.hid HV.out.2.1.there)
    | ((with_reducible show wpList _ _ _ (⟨none, _, _, _, _, _⟩ :: _) _ _); refine wpList_store_mid (by rfl) 23 (.tmp 2) (.tmp 53) (by rfl) (w.heap.size + 1) 0 (inC 0 0 0 0) (by rfl) (by rfl) HZ.out HI.out (HO.out _ _ _ _) ?_))
  exact bodyPost_ret (results_row2 rfl _ _ (w.heap.size + 1) (inC 0 0 0 0).toList _ rfl (World.rangeAt_setCells_same _ _ _ _ HV.out.2.1.there) Tryd.underlying23 rfl infoR) rfl ⟨rfl, below_setCells _ (by omega) _ _ _ HV.out.2.2.2⟩
set_option maxHeartbeats 1000000 in
set_option maxRecDepth 100000 in
theorem rd_2ok (x0 x1 x2 x3 : Nat) (o a b c : Int) (w : World) (b0 : x0 < 256) (b1 : x1 < 256) (b2 : x2 < 256) (b3 : x3 < 256) (ho : o = (x0 : Int)) (ha : a = (x1 : Int) / 16) (hb : b = (x1 : Int) % 16) (hcc : c = (x2 : Int) + 256 * (x3 : Int)) (hl : limE o = 0) (hL : lowZ o < 0) (hc : ¬ 32767 < c) (hk : chkZ o a b (c) = 0) :
    Calls Tryd.prog 29 #[byV x0 x1 x2 x3] w fun e w' => e = .returned (.tuple #[inV o a b (c), .int .i64 0]) ∧ Below w.heap.size w w' := by
  obtain ⟨E, hEE⟩ : ∃ E, limE o = E := ⟨_, rfl⟩
  obtain ⟨L, hLL⟩ : ∃ L, lowZ o = L := ⟨_, rfl⟩
  obtain ⟨M, hMM⟩ : ∃ M, highZ o = M := ⟨_, rfl⟩
  obtain ⟨R, hR⟩ : ∃ R, chkZ o a b (c) = R := ⟨_, rfl⟩
  rw [hR] at hk
  rw [hEE] at hl
  rw [hLL] at hL
  have HL : Hid (∀ W, Below w.heap.size w W → Calls Tryd.prog 20 #[.int .i64 o] W fun e w' => e = .returned (.tuple #[.int .i64 L, .int .i64 M, .int .i64 E]) ∧ Below W.heap.size W w') := Lib.hid fun W hb => by
    rw [← hEE, ← hLL, ← hMM]; exact (rlimits_any o W).mono fun _ _ h => ⟨h.1, by rw [h.2]; exact Below.refl _ _⟩
  have HC : Hid (∀ W, Below w.heap.size w W → Calls Tryd.prog 16 #[inV o a b (c)] W fun e w' => e = .returned (.int .i64 R) ∧ Below W.heap.size W w') := Lib.hid fun W hb => by
    rw [← hR]; exact rcheck_any _ _ _ _ W
  have hnib := nib_and x1 b1
  have hor := half_or x2 x3 b2 b3
  have q0 : (x0 : Int) < 256 := by omega
  have q1 : (x1 : Int) < 256 := by omega
  have q2 : (x2 : Int) < 256 := by omega
  have q3 : (x3 : Int) < 256 := by omega
  have q4 : 0 ≤ c := by omega
  have q5 : c < 65536 := by omega
  have hb' : ((x1 % 16 : Nat) : Int) = b := by omega
  rw [hb'] at hnib
  have ha2 : (x1 : Int) / 16 = a := ha.symm
  have hb2 : (x1 : Int) % 16 = b := hb.symm
  have hc2 : (x2 : Int) + 256 * (x3 : Int) = c := hcc.symm
  rw [hc2] at hor
  subst ho
  have z1 : (E == 0) = true := by simp [hl]
  have z2 : decide (L < 0) = true := by simp; omega
  have z3 : decide (32767 < c) = false := by simp; omega
  subst hk
  have HI := Lib.hid infoR
  have HO := Lib.hid in_one
  clear hEE hLL hMM hR ha hb hcc hb' b0 b1 b2 b3 hl hL hc
  go_enter Tryd.func29, Tryd.ntmps29
  go_wp2_with (first
    | ((with_reducible show wpList _ _ _ (⟨some 29, _, _, _, _, _⟩ :: _) _ _); refine wpl_gen (D3 w (byC x0 x1 x2 x3) (inC 0 0 0 0) (inC x0 a b c) 23) (d3_new w _ _ _ _) ?_; intro V hV; have HV := Lib.hid hV; clear hV; have c0 := HV.out.2.2.1.cell 0; have c1 := HV.out.2.2.1.cell 1; have c2 := HV.out.2.2.1.cell 2; have c3 := HV.out.2.2.1.cell 3; have f3 := HV.out.2.2.1.frozen 3)
    | (go_at_call 20; refine (HL.out _ HV.out.bel).mono ?_; rintro e V1 ⟨rfl, hb⟩; replace HV := Lib.hid (HV.out.under hb); clear hb c0 c1 c2 c3; have c0 := HV.out.2.2.1.cell 0; have c1 := HV.out.2.2.1.cell 1; have c2 := HV.out.2.2.1.cell 2; have c3 := HV.out.2.2.1.cell 3; have f3 := HV.out.2.2.1.frozen 3)
    | (go_at_call 16; refine (HC.out _ HV.out.bel).mono ?_; rintro e V3 ⟨rfl, hb⟩; replace HV := Lib.hid (HV.out.under hb); clear hb c0 c1 c2 c3; have c0 := HV.out.2.2.1.cell 0; have c1 := HV.out.2.2.1.cell 1; have c2 := HV.out.2.2.1.cell 2; have c3 := HV.out.2.2.1.cell 3; have f3 := HV.out.2.2.1.frozen 3; have HZ := Lib.hid HV.out.2.1.there)
    | ((with_reducible show wpList _ _ _ (⟨none, _, _, _, _, _⟩ :: _) _ _); refine wpList_store_mid (by rfl) 23 (.tmp 2) (.tmp 54) (by rfl) (w.heap.size + 1) 0 (inC x0 a b c) (by rfl) (by rfl) HZ.out HI.out (HO.out _ _ _ _) ?_))
  exact bodyPost_ret (results_row2 rfl _ _ (w.heap.size + 1) (inC x0 a b c).toList _ rfl (World.rangeAt_setCells_same _ _ _ _ HV.out.2.1.there) Tryd.underlying23 rfl infoR) rfl ⟨rfl, below_setCells _ (by omega) _ _ _ HV.out.2.2.2⟩
set_option maxHeartbeats 1000000 in
set_option maxRecDepth 100000 in
theorem rd_2bad (x0 x1 x2 x3 : Nat) (o a b c : Int) (w : World) (b0 : x0 < 256) (b1 : x1 < 256) (b2 : x2 < 256) (b3 : x3 < 256) (ho : o = (x0 : Int)) (ha : a = (x1 : Int) / 16) (hb : b = (x1 : Int) % 16) (hcc : c = (x2 : Int) + 256 * (x3 : Int)) (hl : limE o = 0) (hL : lowZ o < 0) (hc : ¬ 32767 < c) (hk : chkZ o a b (c) ≠ 0) :
    Calls Tryd.prog 29 #[byV x0 x1 x2 x3] w fun e w' => e = .returned (.tuple #[inV 0 0 0 0, .int .i64 24]) ∧ Below w.heap.size w w' := by
  obtain ⟨E, hEE⟩ : ∃ E, limE o = E := ⟨_, rfl⟩
  obtain ⟨L, hLL⟩ : ∃ L, lowZ o = L := ⟨_, rfl⟩
  obtain ⟨M, hMM⟩ : ∃ M, highZ o = M := ⟨_, rfl⟩
  obtain ⟨R, hR⟩ : ∃ R, chkZ o a b (c) = R := ⟨_, rfl⟩
  rw [hR] at hk
  rw [hEE] at hl
  rw [hLL] at hL
  have HL : Hid (∀ W, Below w.heap.size w W → Calls Tryd.prog 20 #[.int .i64 o] W fun e w' => e = .returned (.tuple #[.int .i64 L, .int .i64 M, .int .i64 E]) ∧ Below W.heap.size W w') := Lib.hid fun W hb => by
    rw [← hEE, ← hLL, ← hMM]; exact (rlimits_any o W).mono fun _ _ h => ⟨h.1, by rw [h.2]; exact Below.refl _ _⟩
  have HC : Hid (∀ W, Below w.heap.size w W → Calls Tryd.prog 16 #[inV o a b (c)] W fun e w' => e = .returned (.int .i64 R) ∧ Below W.heap.size W w') := Lib.hid fun W hb => by
    rw [← hR]; exact rcheck_any _ _ _ _ W
  have hnib := nib_and x1 b1
  have hor := half_or x2 x3 b2 b3
  have q0 : (x0 : Int) < 256 := by omega
  have q1 : (x1 : Int) < 256 := by omega
  have q2 : (x2 : Int) < 256 := by omega
  have q3 : (x3 : Int) < 256 := by omega
  have q4 : 0 ≤ c := by omega
  have q5 : c < 65536 := by omega
  have hb' : ((x1 % 16 : Nat) : Int) = b := by omega
  rw [hb'] at hnib
  have ha2 : (x1 : Int) / 16 = a := ha.symm
  have hb2 : (x1 : Int) % 16 = b := hb.symm
  have hc2 : (x2 : Int) + 256 * (x3 : Int) = c := hcc.symm
  rw [hc2] at hor
  subst ho
  have z1 : (E == 0) = true := by simp [hl]
  have z2 : decide (L < 0) = true := by simp; omega
  have z3 : decide (32767 < c) = false := by simp; omega
  have k1 : (R == 0) = false := by simp [hk]
  have k2 : (R != 0) = true := by simp [hk]
  have HI := Lib.hid infoR
  have HO := Lib.hid in_one
  clear hEE hLL hMM hR hk ha hb hcc hb' b0 b1 b2 b3 hl hL hc
  go_enter Tryd.func29, Tryd.ntmps29
  go_wp2_with (first
    | ((with_reducible show wpList _ _ _ (⟨some 29, _, _, _, _, _⟩ :: _) _ _); refine wpl_gen (D3 w (byC x0 x1 x2 x3) (inC 0 0 0 0) (inC x0 a b c) 23) (d3_new w _ _ _ _) ?_; intro V hV; have HV := Lib.hid hV; clear hV; have c0 := HV.out.2.2.1.cell 0; have c1 := HV.out.2.2.1.cell 1; have c2 := HV.out.2.2.1.cell 2; have c3 := HV.out.2.2.1.cell 3; have f3 := HV.out.2.2.1.frozen 3)
    | (go_at_call 20; refine (HL.out _ HV.out.bel).mono ?_; rintro e V1 ⟨rfl, hb⟩; replace HV := Lib.hid (HV.out.under hb); clear hb c0 c1 c2 c3; have c0 := HV.out.2.2.1.cell 0; have c1 := HV.out.2.2.1.cell 1; have c2 := HV.out.2.2.1.cell 2; have c3 := HV.out.2.2.1.cell 3; have f3 := HV.out.2.2.1.frozen 3)
    | (go_at_call 16; refine (HC.out _ HV.out.bel).mono ?_; rintro e V3 ⟨rfl, hb⟩; replace HV := Lib.hid (HV.out.under hb); clear hb c0 c1 c2 c3; have c0 := HV.out.2.2.1.cell 0; have c1 := HV.out.2.2.1.cell 1; have c2 := HV.out.2.2.1.cell 2; have c3 := HV.out.2.2.1.cell 3; have f3 := HV.out.2.2.1.frozen 3; have HZ := Lib.hid HV.out.2.1.there)
    | ((with_reducible show wpList _ _ _ (⟨none, _, _, _, _, _⟩ :: _) _ _); refine wpList_store_mid (by rfl) 23 (.tmp 2) (.tmp 53) (by rfl) (w.heap.size + 1) 0 (inC 0 0 0 0) (by rfl) (by rfl) HZ.out HI.out (HO.out _ _ _ _) ?_))
  exact bodyPost_ret (results_row2 rfl _ _ (w.heap.size + 1) (inC 0 0 0 0).toList _ rfl (World.rangeAt_setCells_same _ _ _ _ HV.out.2.1.there) Tryd.underlying23 rfl infoR) rfl ⟨rfl, below_setCells _ (by omega) _ _ _ HV.out.2.2.2⟩
set_option maxHeartbeats 1000000 in
set_option maxRecDepth 100000 in
theorem rd_3ok (x0 x1 x2 x3 : Nat) (o a b c : Int) (w : World) (b0 : x0 < 256) (b1 : x1 < 256) (b2 : x2 < 256) (b3 : x3 < 256) (ho : o = (x0 : Int)) (ha : a = (x1 : Int) / 16) (hb : b = (x1 : Int) % 16) (hcc : c = (x2 : Int) + 256 * (x3 : Int)) (hl : limE o = 0) (hL : lowZ o < 0) (hc : 32767 < c) (hk : chkZ o a b (c - 65536) = 0) :
    Calls Tryd.prog 29 #[byV x0 x1 x2 x3] w fun e w' => e = .returned (.tuple #[inV o a b (c - 65536), .int .i64 0]) ∧ Below w.heap.size w w' := by
  obtain ⟨E, hEE⟩ : ∃ E, limE o = E := ⟨_, rfl⟩
  obtain ⟨L, hLL⟩ : ∃ L, lowZ o = L := ⟨_, rfl⟩
  obtain ⟨M, hMM⟩ : ∃ M, highZ o = M := ⟨_, rfl⟩
  obtain ⟨R, hR⟩ : ∃ R, chkZ o a b (c - 65536) = R := ⟨_, rfl⟩
  rw [hR] at hk
  rw [hEE] at hl
  rw [hLL] at hL
  have HL : Hid (∀ W, Below w.heap.size w W → Calls Tryd.prog 20 #[.int .i64 o] W fun e w' => e = .returned (.tuple #[.int .i64 L, .int .i64 M, .int .i64 E]) ∧ Below W.heap.size W w') := Lib.hid fun W hb => by
    rw [← hEE, ← hLL, ← hMM]; exact (rlimits_any o W).mono fun _ _ h => ⟨h.1, by rw [h.2]; exact Below.refl _ _⟩
  have HC : Hid (∀ W, Below w.heap.size w W → Calls Tryd.prog 16 #[inV o a b (c - 65536)] W fun e w' => e = .returned (.int .i64 R) ∧ Below W.heap.size W w') := Lib.hid fun W hb => by
    rw [← hR]; exact rcheck_any _ _ _ _ W
  have hnib := nib_and x1 b1
  have hor := half_or x2 x3 b2 b3
  have q0 : (x0 : Int) < 256 := by omega
  have q1 : (x1 : Int) < 256 := by omega
  have q2 : (x2 : Int) < 256 := by omega
  have q3 : (x3 : Int) < 256 := by omega
  have q4 : 0 ≤ c := by omega
  have q5 : c < 65536 := by omega
  have hb' : ((x1 % 16 : Nat) : Int) = b := by omega
  rw [hb'] at hnib
  have ha2 : (x1 : Int) / 16 = a := ha.symm
  have hb2 : (x1 : Int) % 16 = b := hb.symm
  have hc2 : (x2 : Int) + 256 * (x3 : Int) = c := hcc.symm
  rw [hc2] at hor
  subst ho
  have z1 : (E == 0) = true := by simp [hl]
  have z2 : decide (L < 0) = true := by simp; omega
  have z3 : decide (32767 < c) = true := by simp; omega
  obtain ⟨n, hn⟩ : ∃ n, c - 65536 = n := ⟨_, rfl⟩
  have n1 : -65536 ≤ n := by omega
  have n2 : n < 0 := by omega
  rw [hn] at HC
  rw [hn]
  subst hk
  have HI := Lib.hid infoR
  have HO := Lib.hid in_one
  clear hEE hLL hMM hR ha hb hcc hb' b0 b1 b2 b3 hl hL hc
  go_enter Tryd.func29, Tryd.ntmps29
  go_wp2_with (first
    | ((with_reducible show wpList _ _ _ (⟨some 29, _, _, _, _, _⟩ :: _) _ _); refine wpl_gen (D3 w (byC x0 x1 x2 x3) (inC 0 0 0 0) (inC x0 a b c) 23) (d3_new w _ _ _ _) ?_; intro V hV; have HV := Lib.hid hV; clear hV; have c0 := HV.out.2.2.1.cell 0; have c1 := HV.out.2.2.1.cell 1; have c2 := HV.out.2.2.1.cell 2; have c3 := HV.out.2.2.1.cell 3; have f3 := HV.out.2.2.1.frozen 3)
    | (go_at_call 20; refine (HL.out _ HV.out.bel).mono ?_; rintro e V1 ⟨rfl, hb⟩; replace HV := Lib.hid (HV.out.under hb); clear hb c0 c1 c2 c3; have c0 := HV.out.2.2.1.cell 0; have c1 := HV.out.2.2.1.cell 1; have c2 := HV.out.2.2.1.cell 2; have c3 := HV.out.2.2.1.cell 3; have f3 := HV.out.2.2.1.frozen 3)
    | ((with_reducible show wpList _ _ _ (⟨some 50, _, _, _, _, _⟩ :: _) _ _); refine wpl_gen (D3 w (byC x0 x1 x2 x3) (inC 0 0 0 0) (inC x0 a b n) 23) (HV.out.set3 (.int .i64 n)) ?_; intro V2 hV; replace HV := Lib.hid hV; clear hV c0 c1 c2 c3; have c0 := HV.out.2.2.1.cell 0; have c1 := HV.out.2.2.1.cell 1; have c2 := HV.out.2.2.1.cell 2; have c3 := HV.out.2.2.1.cell 3; have f3 := HV.out.2.2.1.frozen 3)
    | (go_at_call 16; refine (HC.out _ HV.out.bel).mono ?_; rintro e V3 ⟨rfl, hb⟩; replace HV := Lib.hid (HV.out.under hb); clear hb c0 c1 c2 c3; have c0 := HV.out.2.2.1.cell 0; have c1 := HV.out.2.2.1.cell 1; have c2 := HV.out.2.2.1.cell 2; have c3 := HV.out.2.2.1.cell 3; have f3 := HV.out.2.2.1.frozen 3; have HZ := Lib.hid HV.out.2.1.there)
    | ((with_reducible show wpList _ _ _ (⟨none, _, _, _, _, _⟩ :: _) _ _); refine wpList_store_mid (by rfl) 23 (.tmp 2) (.tmp 54) (by rfl) (w.heap.size + 1) 0 (inC x0 a b n) (by rfl) (by rfl) HZ.out HI.out (HO.out _ _ _ _) ?_))
  exact bodyPost_ret (results_row2 rfl _ _ (w.heap.size + 1) (inC x0 a b n).toList _ rfl (World.rangeAt_setCells_same _ _ _ _ HV.out.2.1.there) Tryd.underlying23 rfl infoR) rfl ⟨rfl, below_setCells _ (by omega) _ _ _ HV.out.2.2.2⟩
set_option maxHeartbeats 1000000 in
set_option maxRecDepth 100000 in
theorem rd_3bad (x0 x1 x2 x3 : Nat) (o a b c : Int) (w : World) (b0 : x0 < 256) (b1 : x1 < 256) (b2 : x2 < 256) (b3 : x3 < 256) (ho : o = (x0 : Int)) (ha : a = (x1 : Int) / 16) (hb : b = (x1 : Int) % 16) (hcc : c = (x2 : Int) + 256 * (x3 : Int)) (hl : limE o = 0) (hL : lowZ o < 0) (hc : 32767 < c) (hk : chkZ o a b (c - 65536) ≠ 0) :
    Calls Tryd.prog 29 #[byV x0 x1 x2 x3] w fun e w' => e = .returned (.tuple #[inV 0 0 0 0, .int .i64 24]) ∧ Below w.heap.size w w' := by
  obtain ⟨E, hEE⟩ : ∃ E, limE o = E := ⟨_, rfl⟩
  obtain ⟨L, hLL⟩ : ∃ L, lowZ o = L := ⟨_, rfl⟩
  obtain ⟨M, hMM⟩ : ∃ M, highZ o = M := ⟨_, rfl⟩
  obtain ⟨R, hR⟩ : ∃ R, chkZ o a b (c - 65536) = R := ⟨_, rfl⟩
  rw [hR] at hk
  rw [hEE] at hl
  rw [hLL] at hL
  have HL : Hid (∀ W, Below w.heap.size w W → Calls Tryd.prog 20 #[.int .i64 o] W fun e w' => e = .returned (.tuple #[.int .i64 L, .int .i64 M, .int .i64 E]) ∧ Below W.heap.size W w') := Lib.hid fun W hb => by
    rw [← hEE, ← hLL, ← hMM]; exact (rlimits_any o W).mono fun _ _ h => ⟨h.1, by rw [h.2]; exact Below.refl _ _⟩
  have HC : Hid (∀ W, Below w.heap.size w W → Calls Tryd.prog 16 #[inV o a b (c - 65536)] W fun e w' => e = .returned (.int .i64 R) ∧ Below W.heap.size W w') := Lib.hid fun W hb => by
    rw [← hR]; exact rcheck_any _ _ _ _ W
  have hnib := nib_and x1 b1
  have hor := half_or x2 x3 b2 b3
  have q0 : (x0 : Int) < 256 := by omega
  have q1 : (x1 : Int) < 256 := by omega
  have q2 : (x2 : Int) < 256 := by omega
  have q3 : (x3 : Int) < 256 := by omega
  have q4 : 0 ≤ c := by omega
  have q5 : c < 65536 := by omega
  have hb' : ((x1 % 16 : Nat) : Int) = b := by omega
  rw [hb'] at hnib
  have ha2 : (x1 : Int) / 16 = a := ha.symm
  have hb2 : (x1 : Int) % 16 = b := hb.symm
  have hc2 : (x2 : Int) + 256 * (x3 : Int) = c := hcc.symm
  rw [hc2] at hor
  subst ho
  have z1 : (E == 0) = true := by simp [hl]
  have z2 : decide (L < 0) = true := by simp; omega
  have z3 : decide (32767 < c) = true := by simp; omega
  obtain ⟨n, hn⟩ : ∃ n, c - 65536 = n := ⟨_, rfl⟩
  have n1 : -65536 ≤ n := by omega
  have n2 : n < 0 := by omega
  rw [hn] at HC
  have k1 : (R == 0) = false := by simp [hk]
  have k2 : (R != 0) = true := by simp [hk]
  have HI := Lib.hid infoR
  have HO := Lib.hid in_one
  clear hEE hLL hMM hR hk ha hb hcc hb' b0 b1 b2 b3 hl hL hc
  go_enter Tryd.func29, Tryd.ntmps29
  go_wp2_with (first
    | ((with_reducible show wpList _ _ _ (⟨some 29, _, _, _, _, _⟩ :: _) _ _); refine wpl_gen (D3 w (byC x0 x1 x2 x3) (inC 0 0 0 0) (inC x0 a b c) 23) (d3_new w _ _ _ _) ?_; intro V hV; have HV := Lib.hid hV; clear hV; have c0 := HV.out.2.2.1.cell 0; have c1 := HV.out.2.2.1.cell 1; have c2 := HV.out.2.2.1.cell 2; have c3 := HV.out.2.2.1.cell 3; have f3 := HV.out.2.2.1.frozen 3)
    | (go_at_call 20; refine (HL.out _ HV.out.bel).mono ?_; rintro e V1 ⟨rfl, hb⟩; replace HV := Lib.hid (HV.out.under hb); clear hb c0 c1 c2 c3; have c0 := HV.out.2.2.1.cell 0; have c1 := HV.out.2.2.1.cell 1; have c2 := HV.out.2.2.1.cell 2; have c3 := HV.out.2.2.1.cell 3; have f3 := HV.out.2.2.1.frozen 3)
    | ((with_reducible show wpList _ _ _ (⟨some 50, _, _, _, _, _⟩ :: _) _ _); refine wpl_gen (D3 w (byC x0 x1 x2 x3) (inC 0 0 0 0) (inC x0 a b n) 23) (HV.out.set3 (.int .i64 n)) ?_; intro V2 hV; replace HV := Lib.hid hV; clear hV c0 c1 c2 c3; have c0 := HV.out.2.2.1.cell 0; have c1 := HV.out.2.2.1.cell 1; have c2 := HV.out.2.2.1.cell 2; have c3 := HV.out.2.2.1.cell 3; have f3 := HV.out.2.2.1.frozen 3)
    | (go_at_call 16; refine (HC.out _ HV.out.bel).mono ?_; rintro e V3 ⟨rfl, hb⟩; replace HV := Lib.hid (HV.out.under hb); clear hb c0 c1 c2 c3; have c0 := HV.out.2.2.1.cell 0; have c1 := HV.out.2.2.1.cell 1; have c2 := HV.out.2.2.1.cell 2; have c3 := HV.out.2.2.1.cell 3; have f3 := HV.out.2.2.1.frozen 3; have HZ := Lib.hid HV.out.2.1.there)
    | ((with_reducible show wpList _ _ _ (⟨none, _, _, _, _, _⟩ :: _) _ _); refine wpList_store_mid (by rfl) 23 (.tmp 2) (.tmp 53) (by rfl) (w.heap.size + 1) 0 (inC 0 0 0 0) (by rfl) (by rfl) HZ.out HI.out (HO.out _ _ _ _) ?_))
  exact bodyPost_ret (results_row2 rfl _ _ (w.heap.size + 1) (inC 0 0 0 0).toList _ rfl (World.rangeAt_setCells_same _ _ _ _ HV.out.2.1.there) Tryd.underlying23 rfl infoR) rfl ⟨rfl, below_setCells _ (by omega) _ _ _ HV.out.2.2.2⟩

end Go.Proofs.YtajkccigmiegkaaDoor
