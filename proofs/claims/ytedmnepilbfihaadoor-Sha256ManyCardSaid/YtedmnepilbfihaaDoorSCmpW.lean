/- The walks of both Compare. -/
import Derived.Test.YtedmnepilbfihaaDoorSTexts
import Derived.Lib.UnsafeStr
import Derived.Lib.Bytealg
import Derived.Laws.Externs
import Derived.Deep.QuietTactic
import Derived.BigQuiet
set_option linter.unusedVariables false
namespace Go.Proofs.YtedmnepilbfihaaDoor
open Go.RowKit

theorem run_loadB {P : Program} {w : World} (b : Nat) : ∀ (l : List UInt8) (off : Nat) (acc : ByteArray), (∀ j c, l[j]? = some c → w.cell? ⟨b, off + j, none⟩ = some (bv c)) →
    (Extern.Bytes.loadBytes ⟨b, off, none⟩ l.length acc).run P w = .ok ⟨acc.data ++ l.toArray⟩ w
  | [], off, acc, _ => by simp [Extern.Bytes.loadBytes]
  | c :: l, off, acc, h => by
    have h0 : w.cell? ⟨b, off, none⟩ = some (bv c) := by have := h 0 c rfl; simpa using this
    have ih := run_loadB (P := P) (w := w) b l (off + 1) (acc.push c) (fun j d hj => by
      have := h (j + 1) d (by simpa using hj)
      rw [show off + 1 + j = off + (j + 1) by omega]; exact this)
    have hx : ((c.toNat : Int).toNat).toUInt8 = c := by simp
    simp only [List.length_cons, Extern.Bytes.loadBytes, Sem.run_bind, run_load, h0, Result.andThen, hx, Addr.add_lit]
    rw [ih]
    congr 1
    apply ByteArray.ext
    simp
theorem run_bytesOf {P : Program} {w : World} {B : Nat} {A : Option Addr} {l : List UInt8} (hr : RB w B A l) (c : Nat) : (Extern.Bytes.bytesOf (.slice A l.length c)).run P w = .ok ⟨l.toArray⟩ w := by
  by_cases h0 : l.length = 0
  · obtain rfl : l = [] := List.eq_nil_of_length_eq_zero h0
    rcases A with _ | A
    · rfl
    · rfl
  · obtain ⟨b, off, rfl, _, hc⟩ := hr (by omega)
    have h := run_loadB (P := P) (w := w) b l off .empty hc
    show (Extern.Bytes.loadBytes ⟨b, off, none⟩ l.length .empty).run P w = _
    rw [h]
    congr 2
    apply Array.ext'
    simp
theorem run_compareBytes {P : Program} {w : World} {B B' : Nat} {A A' : Option Addr} {x y : List UInt8} (hx : RB w B A x) (hy : RB w B' A' y) (c c' : Nat) :
    (Extern.BytealgCompare.compare #[.slice A x.length c, .slice A' y.length c']).run P w = .ok (.int .i64 (Lib.compareBytes x y)) w := by
  change Sem.run P (do pure (goInt (Extern.BytealgCompare.cmp (← Extern.Bytes.bytesOf (.slice A x.length c)) (← Extern.Bytes.bytesOf (.slice A' y.length c'))))) w = _
  simp only [Sem.run_bind, run_bytesOf hx, run_bytesOf hy, Result.andThen_ok, Sem.run_pure]
  rw [Lib.cmp_eq]
  rfl

set_option maxHeartbeats 1000000 in
set_option maxRecDepth 100000 in
theorem bytesCompare_any (w : World) (B B' : Nat) (A A' : Option Addr) (x y : List UInt8) (c c' : Nat) (hx : RB w B A x) (hy : RB w B' A' y) :
    Calls Tryd.prog 44 #[.slice A x.length c, .slice A' y.length c'] w fun e w' => e = .returned (.int .i64 (Lib.compareBytes x y)) ∧ w = w' := by
  have hrun := run_compareBytes (P := Tryd.prog) hx hy c c'
  go_enter Tryd.func44, Tryd.ntmps44
  go_wp2
  rw [run_callFunc_extern Tryd.func52 (by kernel_rfl) (by kernel_rfl) (by kernel_rfl) (e := Extern.BytealgCompare.compare) (by kernel_rfl), hrun]
  simp only [Result.andThen]
  rw [Oper.upon_value]
  go_wp2
  go_ret
  exact ⟨rfl, rfl⟩

theorem two_new32 (w : World) (x y : List UInt8) (s t : TypeId) : Arr ((w.alloc (.cells (x.map bv).toArray s)).alloc (.cells (y.map bv).toArray t)) w.heap.size 0 (x.map bv) ∧ Arr ((w.alloc (.cells (x.map bv).toArray s)).alloc (.cells (y.map bv).toArray t)) (w.heap.size + 1) 0 (y.map bv) ∧ Below w.heap.size w ((w.alloc (.cells (x.map bv).toArray s)).alloc (.cells (y.map bv).toArray t)) := by
  have e1 : (w.alloc (Obj.cells (x.map bv).toArray s)).heap.size = w.heap.size + 1 := by simp
  refine ⟨(Arr.new w _ _).alloc _, ?_, (below_alloc0 _ _ (Nat.le_refl _)).alloc (by simp) _⟩
  rw [← e1]; exact Arr.new _ (y.map bv) t
theorem rb_arr {V : World} {G : Nat} {x : List UInt8} (h : Arr V G 0 (x.map bv)) (n : Nat) : RB (V.drewN n) (G + 1) (some ⟨G, 0, none⟩) x := fun _ => ⟨G, 0, rfl, by omega, fun j c hj => h.cell (i := j) (by rw [List.getElem?_map, hj]; rfl)⟩

set_option maxHeartbeats 1000000 in
set_option maxRecDepth 100000 in
theorem compare_any (x y : List UInt8) (w : World) (hx : x.length = 32) (hy : y.length = 32) :
    Calls Tryd.prog 29 #[.agg (x.map bv).toArray, .agg (y.map bv).toArray] w fun e w' => e = .returned (.int .i64 (Lib.compareBytes x y)) ∧ Below w.heap.size w w' := by
  obtain ⟨r, hr⟩ : ∃ r, r = Lib.compareBytes x y := ⟨_, rfl⟩
  have HC : Hid (∀ V n, Arr V w.heap.size 0 (x.map bv) → Arr V (w.heap.size + 1) 0 (y.map bv) → Calls Tryd.prog 44 #[.slice (some ⟨w.heap.size, 0, none⟩) 32 32, .slice (some ⟨w.heap.size + 1, 0, none⟩) 32 32] (V.drewN n) fun e w' => e = .returned (.int .i64 r) ∧ ∃ m, w' = V.drewN m) := Lib.hid fun V n a b => by
    have h := bytesCompare_any (V.drewN n) _ _ _ _ x y 32 32 (rb_arr a n) (rb_arr b n)
    rw [hx, hy] at h
    rw [hr]
    exact h.mono fun e w' ⟨he, hw⟩ => ⟨he, n, hw.symm⟩
  rw [← hr]
  clear hx hy hr
  go_enter Tryd.func29, Tryd.ntmps29
  go_wp2
  refine cwp_gen (fun V => Arr V w.heap.size 0 (x.map bv) ∧ Arr V (w.heap.size + 1) 0 (y.map bv) ∧ Below w.heap.size w V) (two_new32 w x y _ _) ?_
  rintro V ⟨a0, a1, aB⟩
  have A0 := Lib.hid a0
  have A1 := Lib.hid a1
  have AB := Lib.hid aB
  clear a0 a1 aB
  go_quiet ((go_at_call 44; exact HC.out _ _ A0.out A1.out))
  go_wp2
  go_ret
  exact ⟨rfl, below_drewN AB.out _⟩

/-- The two lists from k on, where what is ahead of it is equal. -/
theorem cmp_step (x y : List UInt8) (k : Nat) (a b : UInt8) (ha : x[k]? = some a) (hb : y[k]? = some b) : Lib.compareBytes (x.drop k) (y.drop k) = if a < b then -1 else if b < a then 1 else Lib.compareBytes (x.drop (k + 1)) (y.drop (k + 1)) := by
  obtain ⟨h1, e1⟩ := List.getElem?_eq_some_iff.1 ha
  obtain ⟨h2, e2⟩ := List.getElem?_eq_some_iff.1 hb
  rw [List.drop_eq_getElem_cons h1, List.drop_eq_getElem_cons h2, Lib.compareBytes, e1, e2]

set_option maxHeartbeats 1000000 in
set_option maxRecDepth 100000 in
theorem refCompare_any (x y : List UInt8) (w : World) (hx : x.length = 32) (hy : y.length = 32) :
    Calls Tryd.prog 30 #[.agg (x.map bv).toArray, .agg (y.map bv).toArray] w fun e w' => e = .returned (.int .i64 (Lib.compareBytes x y)) ∧ Below w.heap.size w w' := by
  have HX := Lib.hid hx
  have HY := Lib.hid hy
  clear hx hy
  go_enter Tryd.func30, Tryd.ntmps30
  go_wp2
  refine cwp_gen (fun V => Arr V w.heap.size 0 (x.map bv) ∧ Arr V (w.heap.size + 1) 0 (y.map bv) ∧ Below w.heap.size w V) (two_new32 w x y _ _) ?_
  rintro V ⟨a0, a1, aB⟩
  have A0 := Lib.hid a0
  have A1 := Lib.hid a1
  have AB := Lib.hid aB
  clear a0 a1 aB
  go_loopw [5] (fun i wr => ∃ (k n : Nat), i = .int .i64 (k : Int) ∧ k ≤ 32 ∧ wr = V.drewN n ∧ Lib.compareBytes x y = Lib.compareBytes (x.drop k) (y.drop k)) (fun i _ => 32 - (intOf i).toNat)
  case atStart => exact ⟨0, 0, rfl, by omega, rfl, rfl⟩
  case round =>
    obtain ⟨k, n, rfl, hk, hw, hc⟩ := hrel
    obtain ⟨Wd, hWd⟩ : ∃ Wd, Wd = wr := ⟨_, rfl⟩
    have h0 : Arr wr w.heap.size 0 (x.map bv) := by rw [hw]; exact A0.out.drewN n
    have h1 : Arr wr (w.heap.size + 1) 0 (y.map bv) := by rw [hw]; exact A1.out.drewN n
    have HB : Hid (∀ m, Below w.heap.size w (wr.drewN m)) := Lib.hid fun m => by rw [hw]; exact below_drewN (below_drewN AB.out n) m
    have HWN : Hid (∀ m, wr.drewN m = V.drewN (n + m)) := Lib.hid fun m => by rw [hw, World.drewN_drewN]
    have HC := Lib.hid hc
    clear hw hWd hc
    by_cases hk2 : (k : Int) < 32
    · obtain ⟨a, ha⟩ : ∃ a, x[k]? = some a := ⟨x[k]'(by rw [HX.out]; omega), List.getElem?_eq_getElem _⟩
      obtain ⟨b, hb⟩ : ∃ b, y[k]? = some b := ⟨y[k]'(by rw [HY.out]; omega), List.getElem?_eq_getElem _⟩
      have hca := h0.cell0 (i := k) (v := bv a) (by rw [List.getElem?_map, ha]; rfl)
      have hcb := h1.cell0 (i := k) (v := bv b) (by rw [List.getElem?_map, hb]; rfl)
      have HS := Lib.hid (cmp_step x y k a b ha hb)
      have hk0 : (0 : Int) ≤ (k : Int) := by omega
      clear ha hb h0 h1
      by_cases hlt : (a.toNat : Int) < (b.toNat : Int)
      · have HL : Hid (Lib.compareBytes x y = -1) := Lib.hid (by rw [HC.out, HS.out, if_pos (by rw [UInt8.lt_iff_toNat_lt]; omega)])
        go_wp2
        go_quiet (fail)
        go_wp2
        go_ret
        exact ⟨by rw [HL.out]; rfl, HB.out _⟩
      · by_cases hgt : (b.toNat : Int) < (a.toNat : Int)
        · have HL : Hid (Lib.compareBytes x y = 1) := Lib.hid (by rw [HC.out, HS.out, if_neg (by rw [UInt8.lt_iff_toNat_lt]; omega), if_pos (by rw [UInt8.lt_iff_toNat_lt]; omega)])
          go_wp2
          go_quiet (fail)
          go_wp2
          go_quiet (fail)
          go_wp2
          go_ret
          exact ⟨by rw [HL.out]; rfl, by rw [World.drewN_drewN]; exact HB.out _⟩
        · have HL : Hid (Lib.compareBytes x y = Lib.compareBytes (x.drop (k + 1)) (y.drop (k + 1))) := Lib.hid (by rw [HC.out, HS.out, if_neg (by rw [UInt8.lt_iff_toNat_lt]; omega), if_neg (by rw [UInt8.lt_iff_toNat_lt]; omega)])
          go_wp2
          go_quiet (fail)
          go_wp2
          go_quiet (fail)
          go_wp2
          go_roundw
          case rel => exact ⟨k + 1, _, rfl, by omega, HWN.out _, HL.out⟩
          case measure => simp [intOf] <;> omega
    · have hk3 : k = 32 := by omega
      subst hk3
      have HL : Hid (Lib.compareBytes x y = 0) := Lib.hid (by
        rw [HC.out, List.drop_eq_nil_of_le (by rw [HX.out]; omega), List.drop_eq_nil_of_le (by rw [HY.out]; omega)]; rfl)
      clear h0 h1
      go_wp2
      go_ret
      exact ⟨by rw [HL.out]; rfl, by have := HB.out 0; exact this⟩
end Go.Proofs.YtedmnepilbfihaaDoor
