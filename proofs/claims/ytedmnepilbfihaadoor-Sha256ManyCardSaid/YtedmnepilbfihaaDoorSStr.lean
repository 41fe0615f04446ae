/- Slices of strings, and the walks of the law's 'list' and 'same'. -/
import Derived.Test.YtedmnepilbfihaaDoorSSums
import Derived.Test.YtedmnepilbfihaaDoorSApp
set_option linter.unusedVariables false
namespace Go.Proofs.YtedmnepilbfihaaDoor
open Go.RowKit

abbrev sv (s : ByteArray) : Value := .string s
/-- The slice value '.slice A l.length cap' reads as the strings l, below block B. -/
def RT (w : World) (B : Nat) (A : Option Addr) (l : List ByteArray) : Prop :=
  0 < l.length → ∃ b off, A = some ⟨b, off, none⟩ ∧ b < B ∧ ∀ j s, l[j]? = some s → w.cell? ⟨b, off + j, none⟩ = some (sv s)
theorem RT.nil {w : World} {B : Nat} {A : Option Addr} : RT w B A [] := fun h => absurd h (by simp)
theorem RT.below {w w' : World} {B : Nat} {A : Option Addr} {l : List ByteArray} (h : RT w B A l) (hb : Below B w w') : RT w' B A l := fun hn => by
  obtain ⟨b, off, rfl, hlt, hc⟩ := h hn
  exact ⟨b, off, rfl, hlt, fun j c hj => (hb.cell (p := ⟨b, off + j, none⟩) hlt).trans (hc j c hj)⟩
theorem RT.at_ {w : World} {B : Nat} {A : Option Addr} {l : List ByteArray} (h : RT w B A l) {k : Nat} (hk : k < l.length) :
    ∃ b off c, A = some ⟨b, off, none⟩ ∧ b < B ∧ l[k]? = some c ∧ w.cell? ⟨b, off + k, none⟩ = some (sv c) := by
  obtain ⟨b, off, rfl, hb, hc⟩ := h (by omega)
  exact ⟨b, off, l[k], rfl, hb, List.getElem?_eq_getElem hk, hc k _ (List.getElem?_eq_getElem hk)⟩
structure StrSlice (P : Program) (t e : TypeId) : Prop where
  u : P.underlying t = some (.slice e)
  b : P.underlying e = some .string
  i : (P.info? e).map (fun i => (i.zero, i.size, i.bytes)) = some (some (.string ⟨#[]⟩), 1, 16)
/-- The slice value v owns the strings l, in a block from 'base' on. -/
def OT (e : TypeId) (w : World) (base : Nat) (v : Value) (l : List ByteArray) : Prop := w.ownsRow base e 1 v l.length (l.map sv)
theorem OT.nil (e : TypeId) (w : World) (base : Nat) : OT e w base (.slice none 0 0) [] := World.ownsRow_nil w base e 1
theorem OT.alloc {e : TypeId} {w : World} {base : Nat} {v : Value} {l : List ByteArray} (h : OT e w base v l) (o : Obj) : OT e (w.alloc o) base v l := World.ownsRow.alloc h o
theorem OT.lt {e : TypeId} {w : World} {base : Nat} {v : Value} {l : List ByteArray} (h : OT e w base v l) : ∀ k, v.ownBlock = some k → base ≤ k ∧ k < w.heap.size := World.ownsRow.lt h
theorem OT.form {e : TypeId} {w : World} {base : Nat} {v : Value} {l : List ByteArray} (h : OT e w base v l) :
    ∃ A cap, v = .slice A l.length cap ∧ RT w w.heap.size A l ∧ l.length ≤ cap ∧ cap ≤ maxLen := by
  have hl := World.ownsRow.lt h
  have hc := @World.ownsRow.cells w base e 1 v l.length (l.map sv) h
  rcases h.2 with ⟨rfl, h0⟩ | ⟨g, cap, cur, rfl, _, _, h1, h2, _⟩
  · have : l = [] := List.eq_nil_of_length_eq_zero h0
    subst this
    exact ⟨none, 0, rfl, RT.nil, Nat.le_refl _, Nat.zero_le _⟩
  · refine ⟨_, cap, rfl, fun _ => ⟨g, 0, rfl, (hl g rfl).2, fun j c hj => ?_⟩, h1, h2⟩
    have := hc (g := g) rfl j (sv c) (by simp [hj])
    simpa [Addr.add_lit] using this
theorem svs_oneCell (l : List ByteArray) : ∀ u ∈ l.map sv, u.oneCell' = true := by
  intro u hu
  obtain ⟨_, _, rfl⟩ := List.mem_map.1 hu
  rfl
section
variable {P : Program} {t e : TypeId}
theorem StrSlice.parts (hP : StrSlice P t e) : ∃ i, P.info? e = some i ∧ i.zero = some (.string ⟨#[]⟩) ∧ i.size = 1 ∧ i.bytes = 16 := info_parts hP.i
theorem run_pushT (hP : StrSlice P t e) (w : World) (ty : TypeId) (base : Nat) (v : Value) (l : List ByteArray) (hown : OT e w base v l) (s : ByteArray)
    (hlen : l.length + 1 ≤ 8000000000000) (hbase : base ≤ w.heap.size) :
    ∃ v' w', (Builtin.append_ #[t, t] ty #[v, .slice (some ⟨w.heap.size, 0, none⟩) 1 1]).run P (w.alloc (.cells #[sv s] e)) = .ok v' w' ∧ OT e w' base v' (l ++ [s]) ∧ (w.alloc (.cells #[sv s] e)).grownBy w' v.ownBlock := by
  obtain ⟨i, hi, hz, hs, hb⟩ := hP.parts
  obtain ⟨v', w', h1, h2, h3, _, h5⟩ := run_append_own_at (P := P) (w.alloc (.cells #[sv s] e)) base t ty e i (.string ⟨#[]⟩) 1 16 hP.u hi hz hs hb rfl (by omega) v l.length (l.map sv) (hown.alloc _) ⟨w.heap.size, 0, none⟩ 1 1 [sv s] (by simp)
    (fun j u hu => by
      match j, hu with
      | 0, hu =>
        simp at hu; subst hu
        rw [Addr.add_lit, World.cell?_alloc_at _ _ _ _ rfl]; rfl) (svs_oneCell [s]) (by unfold maxLen; omega) (by omega) (by simp; omega)
  refine ⟨v', w', h1, ?_, h3⟩
  unfold OT; simpa using h2
/-- 'append(v, s)'. -/
theorem wpList_pushT {ops : Array Oper} {rest : List Oper} {o : Oper} {a : Act} {Q : Exit → Act → World → Prop} {w : World} (hP : StrSlice P t e) (hgd : o.guard = none) (s x : Operand)
    (ho : o.op = .call { callee := .builtin .append, args := #[s, x], argTypes := #[t, t] }) (base : Nat) (v : Value) (l : List ByteArray) (hs : a.eval s = v) (c : ByteArray) (hown : OT e w base v l)
    (G : Nat) (hx : a.eval x = .slice (some ⟨G, 0, none⟩) 1 1) (hG : w.heap.size = G) (hlen : l.length + 1 ≤ 8000000000000) (hbase : base ≤ w.heap.size)
    (h : ∀ v' w', OT e w' base v' (l ++ [c]) → Below base w w' → wpList P ops Q rest (a.put o.dst v') w') : wpList P ops Q (o :: rest) a (w.alloc (.cells #[sv c] e)) := by
  subst hG
  obtain ⟨v', w', h1, h2, h3⟩ := run_pushT hP w o.type base v l hown c hlen hbase
  refine wpList_append_of hgd s x t t ho hs hx h1 (h v' w' h2 ?_)
  refine ((Below.refl base w).alloc hbase _).trans ⟨h3.os, h3.tape, h3.output, h3.size, fun k hk => h3.block k (by simp; omega) (fun e => by have := (hown.lt k e.symm).1; omega)⟩
end
theorem tsl : StrSlice Tryd.prog 32 9 := ⟨Tryd.underlying32, Tryd.underlying9, by kernel_rfl⟩

def listS (l : List ByteArray) : List ByteArray := (l.map fun s => shortS s 100).take 12
theorem take_step {α : Type} {l : List α} {k : Nat} {v : α} (h : l[k]? = some v) : l.take (k + 1) = l.take k ++ [v] := by
  obtain ⟨hk, rfl⟩ := List.getElem?_eq_some_iff.1 h
  exact (List.take_append_getElem hk).symm
theorem OT.list12 {e : TypeId} {w : World} {b : Nat} {v : Value} {l : List ByteArray} (h : OT e w b v ((l.map fun s => shortS s 100).take 12)) : OT e w b v (listS l) := h
theorem OT.listAll {e : TypeId} {w : World} {b k : Nat} {v : Value} {l : List ByteArray} (h : OT e w b v ((l.map fun s => shortS s 100).take k)) (h1 : k = l.length) (h2 : k ≤ 12) : OT e w b v (listS l) := by
  subst h1
  rw [List.take_of_length_le (by simp)] at h
  unfold listS; rw [List.take_of_length_le (by simp; omega)]; exact h
theorem listS_length (l : List ByteArray) : (listS l).length = min 12 l.length := by unfold listS; simp
theorem listS_size (l : List ByteArray) : ∀ s ∈ listS l, s.size ≤ 100 := by
  intro s hs
  obtain ⟨x, _, rfl⟩ := List.mem_map.1 (List.mem_of_mem_take hs)
  exact shortS_size x 100

set_option maxHeartbeats 1000000 in
set_option maxRecDepth 100000 in
theorem list_any (A : Option Addr) (l : List ByteArray) (c B : Nat) (w : World) (hr : RT w B A l) (hB : B ≤ w.heap.size) :
    Calls Tryd.prog 18 #[.slice A l.length c] w fun e w' => ∃ v', e = .returned v' ∧ OT 9 w' w.heap.size v' (listS l) ∧ Below w.heap.size w w' := by
  go_enter Tryd.func18, Tryd.ntmps18
  go_wp2
  go_loopw [3, 4] (fun u i wr => ∃ k : Nat, k ≤ min 12 l.length ∧ i = .int .i64 k ∧ OT 9 wr w.heap.size u ((l.map fun s => shortS s 100).take k) ∧ Below w.heap.size w wr) (fun _ i _ => 40 - (intOf i).toNat)
  case atStart => exact ⟨0, by omega, rfl, OT.nil _ _ _, Below.refl _ _⟩
  case round =>
    obtain ⟨k, hk, rfl, ho, hb⟩ := hrel
    have HR := Lib.hid (hr.below (hb.mono hB))
    have HO := Lib.hid ho
    have HB := Lib.hid hb
    have hbs := hb.size
    clear hr ho hb
    by_cases hlt : k < l.length
    · have h1 : (k : Int) < (l.length : Int) := by omega
      by_cases hlt2 : k < 12
      · have h2 : (k : Int) < 12 := by omega
        obtain ⟨b, off, s, rfl, hbb, hv, h0⟩ := HR.out.at_ hlt
        have HV := Lib.hid hv
        have HS : Hid (∀ W, Calls Tryd.prog 13 #[.string s, .int .i64 100] W fun e w' => e = .returned (.string (shortS s 100)) ∧ W = w') := Lib.hid fun W => short_any s 100 W (by omega)
        obtain ⟨s2, hs2⟩ : ∃ s2, s2 = shortS s 100 := ⟨_, rfl⟩
        rw [← hs2] at HS
        have HS2 := Lib.hid hs2
        clear hv hs2
        go_wp2_with (first
          | (go_at_call 13; refine (HS.out _).mono ?_; rintro e w' ⟨rfl, rfl⟩)
          | (refine wpList_pushT tsl (by rfl) (.tmp 15) (.tmp 21) (by rfl) w.heap.size _ ((l.map fun s => shortS s 100).take k) (by rfl) s2 HO.out _ (by rfl) rfl (by simp; omega) hbs ?_; intro v1 w1 ho1 hb1; have HO1 := Lib.hid ho1; have HB1 := Lib.hid hb1; clear ho1 hb1))
        go_roundw
        case rel =>
          refine ⟨k + 1, by omega, by go_num, ?_, HB.out.trans HB1.out⟩
          rw [take_step (v := s2) (by rw [List.getElem?_map, HV.out, HS2.out]; rfl)]
          exact HO1.out
        case measure => simp [intOf] <;> omega
      · have h2 : ¬ (k : Int) < 12 := by omega
        have hk12 : k = 12 := by omega
        subst hk12
        have HO2 := Lib.hid HO.out.list12
        go_wp2
        go_ret
        exact ⟨_, rfl, HO2.out, HB.out⟩
    · have h1 : ¬ (k : Int) < (l.length : Int) := by omega
      have HO2 := Lib.hid (HO.out.listAll (by omega) (by omega))
      go_wp2
      go_ret
      exact ⟨_, rfl, HO2.out, HB.out⟩

theorem str_beq (x y : ByteArray) : (x.toList == y.toList) = decide (x = y) := by
  by_cases h : x = y
  · subst h; simp
  · rw [decide_eq_false h, beq_eq_false_iff_ne]
    intro e
    rw [ByteArray.toList_eq, ByteArray.toList_eq] at e
    exact h (Go.WideShapes.bytes_inj e)
theorem take_eq_step {l l' : List ByteArray} {k : Nat} {x y : ByteArray} (hx : l[k]? = some x) (hy : l'[k]? = some y) (h : l.take k = l'.take k) (e : x = y) : l.take (k + 1) = l'.take (k + 1) := by
  rw [take_step hx, take_step hy, h, e]

set_option maxHeartbeats 1000000 in
set_option maxRecDepth 100000 in
theorem same_any (A A' : Option Addr) (l l' : List ByteArray) (c c' B B' : Nat) (w : World) (hr : RT w B A l) (hr' : RT w B' A' l') (hl : l.length ≤ 1000000) :
    Calls Tryd.prog 22 #[.slice A l.length c, .slice A' l'.length c'] w fun e w' => e = .returned (.bool (decide (l = l'))) ∧ ∃ n, w' = w.drewN n := by
  by_cases hll : l.length = l'.length
  · have t0 : ((l.length : Int) != (l'.length : Int)) = false := by simp; omega
    go_enter Tryd.func22, Tryd.ntmps22
    go_wp2
    go_loopw [5] (fun i wr => ∃ k n : Nat, k ≤ l.length ∧ i = .int .i64 k ∧ l.take k = l'.take k ∧ wr = w.drewN n) (fun i _ => l.length - (intOf i).toNat)
    case atStart => exact ⟨0, 0, by omega, rfl, rfl, rfl⟩
    case round =>
      obtain ⟨k, n, hk, rfl, ht, rfl⟩ := hrel
      have HT := Lib.hid ht
      have HLL := Lib.hid hll
      clear ht t0
      by_cases hlt : k < l.length
      · have h1 : (k : Int) < (l.length : Int) := by omega
        obtain ⟨b, off, x, rfl, _, hx, c0⟩ := hr.at_ hlt
        obtain ⟨b2, off2, y, rfl, _, hy, c1⟩ := hr'.at_ (k := k) (by omega)
        have hk' : (k : Int) < (l'.length : Int) := by omega
        have HX := Lib.hid hx
        have HY := Lib.hid hy
        clear hx hy hr hr'
        by_cases hxy : x = y
        · have q : (x.toList == y.toList) = true := by rw [str_beq, decide_eq_true hxy]
          go_wp2_with fail
          go_quiet (fail)
          go_wp2
          go_roundw
          case rel => exact ⟨k + 1, _, by omega, by go_num, take_eq_step HX.out HY.out HT.out hxy, rfl⟩
          case measure => simp [intOf] <;> omega
        · have q : (x.toList == y.toList) = false := by rw [str_beq, decide_eq_false hxy]
          have hne : decide (l = l') = false := by
            rw [decide_eq_false_iff_not]; intro e; subst e
            have := HX.out.symm.trans HY.out
            injection this with this; exact hxy this
          go_wp2_with fail
          go_quiet (fail)
          go_wp2
          go_ret
          exact ⟨by first | rfl | (rw [hne]; rfl), _, World.drewN_drewN ..⟩
      · have h1 : ¬ (k : Int) < (l.length : Int) := by omega
        have he : decide (l = l') = true := by
          have := HT.out
          rw [List.take_of_length_le (by omega), List.take_of_length_le (by omega)] at this
          rw [decide_eq_true_iff]; exact this
        clear hr hr'
        go_wp2
        go_ret
        exact ⟨by first | rfl | (rw [he]; rfl), _, rfl⟩
  · have t0 : ((l.length : Int) != (l'.length : Int)) = true := by simp; omega
    have hne : decide (l = l') = false := by rw [decide_eq_false_iff_not]; intro e; rw [e] at hll; exact hll rfl
    clear hr hr'
    go_enter Tryd.func22, Tryd.ntmps22
    go_wp2
    go_ret
    exact ⟨by first | rfl | (rw [hne]; rfl), 0, rfl⟩
end Go.Proofs.YtedmnepilbfihaaDoor
