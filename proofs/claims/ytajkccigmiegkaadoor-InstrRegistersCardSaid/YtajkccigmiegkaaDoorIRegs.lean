/- instr: lists of registers: the reference's registers and Same. -/
import Derived.Test.YtajkccigmiegkaaDoorIKnown
import Derived.Test.YtajkccigmiegkaaDoorQList
import Derived.Deep.QuietTactic
import Derived.BigQuiet
set_option linter.unusedVariables false
namespace Go.Proofs.YtajkccigmiegkaaDoor
open Go.RowKit

def encI (x : Int) : List Value := [.int .i64 x]
theorem encI_ok : EncK encI 1 where
  len _ := rfl
  one x u hu := by
    simp only [encI, List.mem_cons, List.not_mem_nil, or_false] at hu
    subst hu; rfl
  pos := by decide
theorem intT_ok : TypK Tryd.prog 79 3 1 8 := ⟨Tryd.underlying79, by
  obtain ⟨i, hi, hz, hs, hb⟩ := info_parts (P := Tryd.prog) (e := 3) (z := .int .i64 0) (size := 1) (bytes := 8) (by kernel_rfl)
  exact ⟨i, _, hi, hz, hs, hb, rfl⟩⟩
/-- The registers whose flags are set. -/
def regsTo (l : List Bool) : Nat → List Int
  | 0 => []
  | k + 1 => regsTo l k ++ (if l.getD k false then [(k : Int)] else [])
theorem regsTo_len (l : List Bool) : ∀ k, (regsTo l k).length ≤ k
  | 0 => by simp [regsTo]
  | k + 1 => by
    have := regsTo_len l k
    unfold regsTo
    rw [List.length_append]
    split <;> simp <;> omega
abbrev bsC (l : List Bool) : Array Value := (l.map Value.bool).toArray
theorem bsC_set (l : List Bool) (i : Nat) : (bsC l).setIfInBounds i (.bool true) = bsC (l.set i true) := by
  unfold bsC
  rw [List.setIfInBounds_toArray, List.map_set]
theorem bsC_get (l : List Bool) {i : Nat} (h : i < l.length) : (bsC l)[i]? = some (.bool (l.getD i false)) := by
  unfold bsC
  simp [h, List.getD]
/-- What a loop over flags keeps: the flags, the list. -/
def RL (w : World) (t : TypeId) (l : List Bool) (k : Nat) (v : Value) (W : World) : Prop := OQ encI 1 3 W (w.heap.size + 1) v (regsTo l k) ∧ Blk W w.heap.size t (bsC l) ∧ Below w.heap.size w W
set_option maxHeartbeats 1000000 in
set_option maxRecDepth 100000 in
theorem registers_any (l : List Bool) (h8 : l.length = 8) (w : World) : Calls Tryd.prog 60 #[.agg (bsC l)] w fun e w' => ∃ v, e = .returned v ∧ OQ encI 1 3 w' w.heap.size v (regsTo l 8) ∧ Below w.heap.size w w' := by
  obtain ⟨cs, hcs⟩ : ∃ cs, cs = bsC l := ⟨_, rfl⟩
  have HCS := Lib.hid hcs
  have H8 := Lib.hid h8
  rw [← hcs]
  clear h8 hcs
  go_enter Tryd.func60, Tryd.ntmps60
  go_wp2
  refine cwp_gen (RL w 94 l 0 (.slice none 0 0)) ⟨OQ.nil _ _, by rw [← HCS.out]; exact Blk.new w _ _, below_alloc0 w _⟩ ?_
  intro V hV
  go_loopw [3, 4] (fun a i wr => ∃ k : Nat, k ≤ 8 ∧ i = .int .i64 (k : Int) ∧ RL w 94 l k a wr) (fun _ i _ => 8 - (intOf i).toNat)
  case atStart => exact ⟨0, by omega, rfl, hV⟩
  case round =>
    obtain ⟨k, hk, rfl, hR⟩ := hrel
    clear hV
    have HR := Lib.hid hR
    clear hR
    by_cases hlt : k < 8
    · have h1 : (k : Int) < 8 := by omega
      have c0 := (HR.out.2.1.cell k).trans (bsC_get l (by rw [H8.out]; exact hlt))
      obtain ⟨b, hb⟩ : ∃ b, l.getD k false = b := ⟨_, rfl⟩
      rw [hb] at c0
      have HB := Lib.hid hb
      clear hb
      cases b with
      | false =>
        go_wp2
        go_roundw
        case rel =>
          refine ⟨k + 1, by omega, by go_num, ?_, HR.out.2.1, HR.out.2.2⟩
          unfold regsTo
          rw [HB.out]
          simpa using HR.out.1
        case measure => simp [intOf] <;> omega
      | true =>
        have hb := HR.out.2.1.lt
        go_wp2_with (at_builtin; refine wpList_pushQ encI_ok intT_ok rfl (.tmp 12) (.tmp 14) rfl (w.heap.size + 1) _ (regsTo l k) rfl (k : Int) _ rfl HR.out.1 rfl ?_ ?_ ?_ ?_; (focus (have := regsTo_len l k; unfold maxLen; omega)); (focus (have := regsTo_len l k; omega)); (focus (omega)); intro v3 W3 ho3 hg3; have HO := Lib.hid ho3; have HG := Lib.hid (hg3.below (B := w.heap.size + 1) (by omega) (fun j hj => (HR.out.1.lt j hj).1)); clear ho3 hg3)
        go_roundw
        case rel =>
          refine ⟨k + 1, by omega, by go_num, ?_, HR.out.2.1.mod (Mod.of_below HG.out) (by omega), HR.out.2.2.trans (HG.out.mono (by omega))⟩
          unfold regsTo
          rw [HB.out]
          exact HO.out
        case measure => simp [intOf] <;> omega
    · obtain rfl : k = 8 := by omega
      go_wp2
      go_ret
      exact ⟨_, rfl, HR.out.1.base0 (by omega), HR.out.2.2⟩

theorem run_index_bool {P : Program} {t e : TypeId} {len : Nat} (hu : P.underlying t = some (.array len e)) (he : P.underlying e = some .bool) (hs : (P.info? e).map (·.size) = some 1)
    (cs : Array Value) (i : Nat) (hi : i < len) (v : Value) (hv : cs[i]? = some v) (w : World) : (Instr.index t (.agg cs) (.int .i64 (i : Int))).run P w = .ok v w := by
  cases hq : P.info? e with
  | none => simp [hq] at hs
  | some j =>
    have hj : j.size = 1 := by simpa [hq] using hs
    have hi' : (i : Int) < (len : Int) := by omega
    simp [Instr.index, asIntOf, run_underlying hu, hi', part, isAgg, run_underlying he, sizeOf, typeInfo, hq, hj, hv]
    intro h; omega
theorem rq_int {w : World} {B : Nat} {A : Option Addr} {l : List Int} (h : RQ encI 1 w B A l) {k : Nat} (hk : k < l.length) : ∃ b off x, A = some ⟨b, off, none⟩ ∧ b < B ∧ l[k]? = some x ∧ w.cell? ⟨b, off + k, none⟩ = some (.int .i64 x) := by
  obtain ⟨b, off, rfl, hb, hc⟩ := h (by omega)
  refine ⟨b, off, l[k], rfl, hb, List.getElem?_eq_getElem hk, ?_⟩
  have := hc k l[k] (List.getElem?_eq_getElem hk) 0 (.int .i64 l[k]) rfl
  simpa using this
set_option maxHeartbeats 1000000 in
set_option maxRecDepth 100000 in
theorem same_any (A B : Option Addr) (l : List Int) (c d : Nat) (w : World) (hA : RQ encI 1 w w.heap.size A l) (hB : RQ encI 1 w w.heap.size B l) (hl : l.length ≤ 1000) :
    Calls Tryd.prog 41 #[.slice A l.length c, .slice B l.length d] w fun e w' => e = .returned (.bool true) ∧ Below w.heap.size w w' := by
  have HA := Lib.hid hA
  have HB := Lib.hid hB
  clear hA hB
  obtain ⟨n, hn⟩ : ∃ n, l.length = n := ⟨_, rfl⟩
  rw [hn] at hl
  rw [hn]
  have HN := Lib.hid hn
  clear hn
  go_enter Tryd.func41, Tryd.ntmps41
  go_wp2
  go_loopw [5] (fun i wr => ∃ k : Nat, k ≤ n ∧ i = .int .i64 (k : Int) ∧ Below w.heap.size w wr) (fun i _ => n - (intOf i).toNat)
  case atStart => exact ⟨0, by omega, rfl, Below.refl _ _⟩
  case round =>
    obtain ⟨k, hk, rfl, hW⟩ := hrel
    have HW := Lib.hid hW
    clear hW
    by_cases hlt : k < n
    · have h1 : (k : Int) < (n : Int) := by omega
      obtain ⟨b, off, x, rfl, hb, hx, hc⟩ := rq_int HA.out (k := k) (by rw [HN.out]; exact hlt)
      obtain ⟨b2, off2, x2, rfl, hb2, hx2, hc2⟩ := rq_int HB.out (k := k) (by rw [HN.out]; exact hlt)
      obtain rfl : x = x2 := by rw [hx] at hx2; exact Option.some.inj hx2
      have c0 := (HW.out.cell (p := ⟨b, off + k, none⟩) hb).trans hc
      have c1 := (HW.out.cell (p := ⟨b2, off2 + k, none⟩) hb2).trans hc2
      have h0 : (0 : Int) ≤ (k : Int) := by omega
      clear hx hx2 hc hc2
      go_wp2
      go_quiet (fail)
      go_wp2
      go_roundw
      case rel => exact ⟨k + 1, by omega, by go_num, below_drewN HW.out _⟩
      case measure => simp [intOf] <;> omega
    · obtain rfl : k = n := by omega
      go_wp2
      go_ret
      exact ⟨rfl, HW.out⟩
def rdA (op : Int) : Bool := op == 3 || op == 18 || op == 20 || op == 22 || op == 23 || op == 25
def wrA (op : Int) : Bool := (decide (1 ≤ op) && decide (op ≤ 17)) || op == 19 || op == 24
set_option maxRecDepth 100000 in
theorem readsA_any (op : Int) (w : World) (h0 : 0 ≤ op) (h1 : op ≤ 26) : Calls Tryd.prog 59 #[.int .i64 op] w fun e w' => e = .returned (.bool (rdA op)) ∧ w' = w := by
  obtain rfl | rfl | rfl | rfl | rfl | rfl | rfl | rfl | rfl | rfl | rfl | rfl | rfl | rfl | rfl | rfl | rfl | rfl | rfl | rfl | rfl | rfl | rfl | rfl | rfl | rfl | rfl := op27 h0 h1
  all_goals
    clear h0 h1
    go_enter Tryd.func59, Tryd.ntmps59
    go_wp2
    go_ret
    exact ⟨rfl, rfl⟩
set_option maxRecDepth 100000 in
theorem writesA_any (op : Int) (w : World) (h0 : 0 ≤ op) (h1 : op ≤ 26) : Calls Tryd.prog 61 #[.int .i64 op] w fun e w' => e = .returned (.bool (wrA op)) ∧ w' = w := by
  obtain rfl | rfl | rfl | rfl | rfl | rfl | rfl | rfl | rfl | rfl | rfl | rfl | rfl | rfl | rfl | rfl | rfl | rfl | rfl | rfl | rfl | rfl | rfl | rfl | rfl | rfl | rfl := op27 h0 h1
  all_goals
    clear h0 h1
    go_enter Tryd.func61, Tryd.ntmps61
    go_wp2
    go_ret
    exact ⟨rfl, rfl⟩
end Go.Proofs.YtajkccigmiegkaaDoor
