/- lineage: slices of strings and of names, and the walks of the law's 'names' and 'equal'. Slices of strings that the call made and appends to. Plain lemmas, no program. -/
import Derived.Test.YtdfenaoddbdppaaDoorLShort
import Derived.Test.YtdfenaoddbdppaaDoorLMake
import Derived.Test.YtdfenaoddbdppaaDoorSApp
import Derived.Deep.QuietTactic
import Derived.BigQuiet
set_option linter.unusedVariables false
namespace Go.Proofs.YtdfenaoddbdppaaDoor
open Go.RowKit

abbrev sv (s : ByteArray) : Value := .string s
/-- The slice value '.slice A l.length cap' reads as the strings l, below block B. -/
def RT (w : World) (B : Nat) (A : Option Addr) (l : List ByteArray) : Prop :=
  0 < l.length → ∃ b off, A = some ⟨b, off, none⟩ ∧ b < B ∧ ∀ j s, l[j]? = some s → w.cell? ⟨b, off + j, none⟩ = some (sv s)
theorem RT.nil {w : World} {B : Nat} {A : Option Addr} : RT w B A [] := fun h => absurd h (by simp)
theorem RT.below {w w' : World} {B : Nat} {A : Option Addr} {l : List ByteArray} (h : RT w B A l) (hb : Below B w w') : RT w' B A l := fun hn => by
  obtain ⟨b, off, rfl, hlt, hc⟩ := h hn
  exact ⟨b, off, rfl, hlt, fun j c hj => (hb.cell (p := ⟨b, off + j, none⟩) hlt).trans (hc j c hj)⟩
theorem RT.at_ {w : World} {B : Nat} {A : Option Addr} {l : List ByteArray} (h : RT w B A l) {k : Nat} (hk : k < l.length) :
    ∃ b off c, A = some ⟨b, off, none⟩ ∧ b < B ∧ l[k]? = some c ∧ w.cell? ⟨b, off + k, none⟩ = some (sv c) := by
  obtain ⟨b, off, rfl, hb, hc⟩ := h (by omega)
  exact ⟨b, off, l[k], rfl, hb, List.getElem?_eq_getElem hk, hc k _ (List.getElem?_eq_getElem hk)⟩
structure StrSlice (P : Program) (t e : TypeId) : Prop where
  u : P.underlying t = some (.slice e)
  b : P.underlying e = some .string
  i : (P.info? e).map (fun i => (i.zero, i.size, i.bytes)) = some (some (.string ⟨#[]⟩), 1, 16)
/-- The slice value v owns the strings l, in a block from 'base' on. -/
def OT (e : TypeId) (w : World) (base : Nat) (v : Value) (l : List ByteArray) : Prop := w.ownsRow base e 1 v l.length (l.map sv)
theorem OT.nil (e : TypeId) (w : World) (base : Nat) : OT e w base (.slice none 0 0) [] := World.ownsRow_nil w base e 1
theorem OT.alloc {e : TypeId} {w : World} {base : Nat} {v : Value} {l : List ByteArray} (h : OT e w base v l) (o : Obj) : OT e (w.alloc o) base v l := World.ownsRow.alloc h o
theorem OT.lt {e : TypeId} {w : World} {base : Nat} {v : Value} {l : List ByteArray} (h : OT e w base v l) : ∀ k, v.ownBlock = some k → base ≤ k ∧ k < w.heap.size := World.ownsRow.lt h
theorem OT.form {e : TypeId} {w : World} {base : Nat} {v : Value} {l : List ByteArray} (h : OT e w base v l) :
    ∃ A cap, v = .slice A l.length cap ∧ RT w w.heap.size A l ∧ l.length ≤ cap ∧ cap ≤ maxLen := by
  have hl := World.ownsRow.lt h
  have hc := @World.ownsRow.cells w base e 1 v l.length (l.map sv) h
  rcases h.2 with ⟨rfl, h0⟩ | ⟨g, cap, cur, rfl, _, _, h1, h2, _⟩
  · have : l = [] := List.eq_nil_of_length_eq_zero h0
    subst this
    exact ⟨none, 0, rfl, RT.nil, Nat.le_refl _, Nat.zero_le _⟩
  · refine ⟨_, cap, rfl, fun _ => ⟨g, 0, rfl, (hl g rfl).2, fun j c hj => ?_⟩, h1, h2⟩
    have := hc (g := g) rfl j (sv c) (by simp [hj])
    simpa [Addr.add_lit] using this
theorem svs_oneCell (l : List ByteArray) : ∀ u ∈ l.map sv, u.oneCell' = true := by
  intro u hu
  obtain ⟨_, _, rfl⟩ := List.mem_map.1 hu
  rfl
section
variable {P : Program} {t e : TypeId}
theorem StrSlice.parts (hP : StrSlice P t e) : ∃ i, P.info? e = some i ∧ i.zero = some (.string ⟨#[]⟩) ∧ i.size = 1 ∧ i.bytes = 16 := info_parts hP.i
theorem run_pushT (hP : StrSlice P t e) (w : World) (ty : TypeId) (base : Nat) (v : Value) (l : List ByteArray) (hown : OT e w base v l) (s : ByteArray)
    (hlen : l.length + 1 ≤ 8000000000000) (hbase : base ≤ w.heap.size) :
    ∃ v' w', (Builtin.append_ #[t, t] ty #[v, .slice (some ⟨w.heap.size, 0, none⟩) 1 1]).run P (w.alloc (.cells #[sv s] e)) = .ok v' w' ∧ OT e w' base v' (l ++ [s]) ∧ (w.alloc (.cells #[sv s] e)).grownBy w' v.ownBlock := by
  obtain ⟨i, hi, hz, hs, hb⟩ := hP.parts
  obtain ⟨v', w', h1, h2, h3, _, h5⟩ := run_append_own_at (P := P) (w.alloc (.cells #[sv s] e)) base t ty e i (.string ⟨#[]⟩) 1 16 hP.u hi hz hs hb rfl (by omega) v l.length (l.map sv) (hown.alloc _) ⟨w.heap.size, 0, none⟩ 1 1 [sv s] (by simp)
    (fun j u hu => by
      match j, hu with
      | 0, hu =>
        simp at hu; subst hu
        rw [Addr.add_lit, World.cell?_alloc_at _ _ _ _ rfl]; rfl) (svs_oneCell [s]) (by unfold maxLen; omega) (by omega) (by simp; omega)
  refine ⟨v', w', h1, ?_, h3⟩
  unfold OT; simpa using h2
/-- 'append(v, s)'. -/
theorem wpList_pushT {ops : Array Oper} {rest : List Oper} {o : Oper} {a : Act} {Q : Exit → Act → World → Prop} {w : World} (hP : StrSlice P t e) (hgd : o.guard = none) (s x : Operand)
    (ho : o.op = .call { callee := .builtin .append, args := #[s, x], argTypes := #[t, t] }) (base : Nat) (v : Value) (l : List ByteArray) (hs : a.eval s = v) (c : ByteArray) (hown : OT e w base v l)
    (G : Nat) (hx : a.eval x = .slice (some ⟨G, 0, none⟩) 1 1) (hG : w.heap.size = G) (hlen : l.length + 1 ≤ 8000000000000) (hbase : base ≤ w.heap.size)
    (h : ∀ v' w', OT e w' base v' (l ++ [c]) → Below base w w' → wpList P ops Q rest (a.put o.dst v') w') : wpList P ops Q (o :: rest) a (w.alloc (.cells #[sv c] e)) := by
  subst hG
  obtain ⟨v', w', h1, h2, h3⟩ := run_pushT hP w o.type base v l hown c hlen hbase
  refine wpList_append_of hgd s x t t ho hs hx h1 (h v' w' h2 ?_)
  refine ((Below.refl base w).alloc hbase _).trans ⟨h3.os, h3.tape, h3.output, h3.size, fun k hk => h3.block k (by simp; omega) (fun e => by have := (hown.lt k e.symm).1; omega)⟩
end
theorem tsl : StrSlice Tryd.prog 55 9 := ⟨Tryd.underlying55, Tryd.underlying9, by kernel_rfl⟩
theorem tnl : StrSlice Tryd.prog 54 23 := ⟨Tryd.underlying54, Tryd.underlying23, by kernel_rfl⟩
theorem OT.below {e : TypeId} {w w' : World} {base : Nat} {v : Value} {l : List ByteArray} (h : OT e w base v l) {B : Nat} (hb : Below B w w') (hB : w.heap.size ≤ B) : OT e w' base v l :=
  World.ownsRow.kept (row := none) h ⟨hb.os, hb.tape, hb.output, hb.size, fun k hk _ => hb.block k (by omega)⟩ (by cases v.ownBlock <;> simp)
/-- Two slices of the call's own, in blocks apart. -/
structure Two (e1 e2 : TypeId) (base : Nat) (w0 W : World) (v1 v2 : Value) (l1 l2 : List ByteArray) : Prop where
  one : OT e1 W base v1 l1
  two : OT e2 W base v2 l2
  apart : ∀ k, v1.ownBlock = some k → v2.ownBlock ≠ some k
  below : Below base w0 W
  size : base ≤ W.heap.size
theorem Two.swap {e1 e2 : TypeId} {base : Nat} {w0 W : World} {v1 v2 : Value} {l1 l2 : List ByteArray} (h : Two e1 e2 base w0 W v1 v2 l1 l2) : Two e2 e1 base w0 W v2 v1 l2 l1 :=
  ⟨h.two, h.one, fun k h1 h2 => h.apart k h2 h1, h.below, h.size⟩
/-- 'append(v1, c)' beside a second one. -/
theorem wpList_push2 {P : Program} {t e e2 : TypeId} {ops : Array Oper} {rest : List Oper} {o : Oper} {a : Act} {Q : Exit → Act → World → Prop} {w0 w : World} (hP : StrSlice P t e) (hgd : o.guard = none) (s x : Operand)
    (ho : o.op = .call { callee := .builtin .append, args := #[s, x], argTypes := #[t, t] }) (base : Nat) (v v2 : Value) (l l2 : List ByteArray) (hs : a.eval s = v) (c : ByteArray) (H : Two e e2 base w0 w v v2 l l2)
    (G : Nat) (hx : a.eval x = .slice (some ⟨G, 0, none⟩) 1 1) (hG : w.heap.size = G) (hlen : l.length + 1 ≤ 8000000000000)
    (h : ∀ v' w', Two e e2 base w0 w' v' v2 (l ++ [c]) l2 → wpList P ops Q rest (a.put o.dst v') w') : wpList P ops Q (o :: rest) a (w.alloc (.cells #[sv c] e)) := by
  subst hG
  obtain ⟨i, hi, hz, hs1, hb⟩ := hP.parts
  obtain ⟨v', w', h1, h2, h3, _, h5⟩ := run_append_own_at (P := P) (w.alloc (.cells #[sv c] e)) base t o.type e i (.string ⟨#[]⟩) 1 16 hP.u hi hz hs1 hb rfl (by omega) v l.length (l.map sv) (H.one.alloc _) ⟨w.heap.size, 0, none⟩ 1 1 [sv c] (by simp)
    (fun j u hu => by
      match j, hu with
      | 0, hu =>
        simp at hu; subst hu
        rw [Addr.add_lit, World.cell?_alloc_at _ _ _ _ rfl]; rfl) (svs_oneCell [c]) (by unfold maxLen; omega) (by omega) (by have := H.size; simp; omega)
  refine wpList_append_of hgd s x t t ho hs hx h1 (h v' w' ⟨?_, ?_, ?_, ?_, ?_⟩)
  · unfold OT; simpa using h2
  · refine World.ownsRow.kept (H.two.alloc _) h3 ?_
    cases hv : v2.ownBlock with
    | none => exact .inl rfl
    | some k => exact .inr fun e => H.apart k e.symm hv
  · intro k hk hk2
    rcases h5 with h5 | h5
    · exact H.apart k (h5 ▸ hk) hk2
    · rw [h5] at hk
      have := (H.two.lt k hk2).2
      injection hk with hk
      simp at hk; omega
  · refine ((H.below.alloc H.size _)).trans ⟨h3.os, h3.tape, h3.output, h3.size, fun k hk => h3.block k (by have := H.size; simp; omega) (fun e => by have := (H.one.lt k e.symm).1; omega)⟩
  · have := h3.size; have := H.size; simp at *; omega

theorem take_step {α : Type} {l : List α} {k : Nat} {v : α} (h : l[k]? = some v) : l.take (k + 1) = l.take k ++ [v] := by
  obtain ⟨hk, rfl⟩ := List.getElem?_eq_some_iff.1 h
  exact (List.take_append_getElem hk).symm
/-- What the law makes of a list of names. -/
def namesS (l : List ByteArray) : List ByteArray := (l.map shortN).take 20
theorem namesS_length (l : List ByteArray) : (namesS l).length = min 20 l.length := by unfold namesS; simp
theorem namesS_size (l : List ByteArray) : ∀ s ∈ namesS l, s.size ≤ 80 := by
  intro s hs
  obtain ⟨x, _, rfl⟩ := List.mem_map.1 (List.mem_of_mem_take hs)
  exact shortN_size x
theorem OT.names20 {e : TypeId} {w : World} {b : Nat} {v : Value} {l : List ByteArray} (h : OT e w b v ((l.map shortN).take 20)) : OT e w b v (namesS l) := h
theorem OT.namesAll {e : TypeId} {w : World} {b k : Nat} {v : Value} {l : List ByteArray} (h : OT e w b v ((l.map shortN).take k)) (h1 : k = l.length) (h2 : k ≤ 20) : OT e w b v (namesS l) := by
  subst h1
  rw [List.take_of_length_le (by simp)] at h
  unfold namesS; rw [List.take_of_length_le (by simp; omega)]; exact h

set_option maxHeartbeats 2000000 in
set_option maxRecDepth 100000 in
theorem names_any (A : Option Addr) (l : List ByteArray) (c B : Nat) (w : World) (hr : RT w B A l) (hB : B ≤ w.heap.size) (hz : ∀ s ∈ l, s.size ≤ maxLen) :
    Calls Tryd.prog 33 #[.slice A l.length c] w fun e w' => ∃ v1 v2, e = .returned (.tuple #[v1, v2]) ∧ OT 23 w' w.heap.size v1 (namesS l) ∧ OT 9 w' w.heap.size v2 (namesS l) ∧ (∀ k, v1.ownBlock = some k → v2.ownBlock ≠ some k) ∧ Below w.heap.size w w' := by
  go_enter Tryd.func33, Tryd.ntmps33
  go_wp2
  go_loopw [4, 5, 6] (fun u v i wr => ∃ k : Nat, k ≤ min 20 l.length ∧ i = .int .i64 k ∧ Two 23 9 w.heap.size w wr u v ((l.map shortN).take k) ((l.map shortN).take k)) (fun _ _ i _ => 40 - (intOf i).toNat)
  case atStart => exact ⟨0, by omega, rfl, ⟨OT.nil _ _ _, OT.nil _ _ _, fun k hk => (by simp [Value.ownBlock] at hk), Below.refl _ _, Nat.le_refl _⟩⟩
  case round =>
    obtain ⟨k, hk, rfl, h2⟩ := hrel
    have HR := Lib.hid hr
    have HT := Lib.hid h2
    have hbs := h2.size
    have HZ := Lib.hid hz
    clear hr h2 hz
    by_cases hlt : k < l.length
    · have h1 : (k : Int) < (l.length : Int) := by omega
      by_cases hlt2 : k < 20
      · have h2 : (k : Int) < 20 := by omega
        obtain ⟨b, off, s, rfl, hbb, hv, c0⟩ := HR.out.at_ hlt
        have hB1 : b < w.heap.size := by omega
        have h0 := (HT.out.below.cell (p := ⟨b, off + k, none⟩) hB1).trans c0
        have HC0 := Lib.hid c0
        clear c0
        have HV := Lib.hid hv
        have HS : Hid (∀ W, Calls Tryd.prog 21 #[.string s] W fun e w' => e = .returned (.string (shortN s)) ∧ W = w') := Lib.hid fun W => (short_any s W (HZ.out s (List.mem_of_getElem? hv))).mono fun e w' h => ⟨h.1, h.2.symm⟩
        obtain ⟨s2, hs2⟩ : ∃ s2, s2 = shortN s := ⟨_, rfl⟩
        rw [← hs2] at HS
        have HS2 := Lib.hid hs2
        clear hv hs2
        go_wp2_with (first
          | (go_at_call 21; refine (HS.out _).mono ?_; rintro e w' ⟨rfl, rfl⟩)
          | (refine wpList_push2 tnl (by rfl) (.tmp 17) (.tmp 23) (by rfl) w.heap.size _ _ ((l.map shortN).take k) _ (by rfl) s2 HT.out _ (by rfl) rfl (by simp; omega) ?_; intro v1 w1 ho1; have HT1 := Lib.hid ho1; have h3 := (HT1.out.below.cell (p := ⟨b, off + k, none⟩) hB1).trans HC0.out; clear ho1)
          | (refine wpList_push2 tsl (by rfl) (.tmp 25) (.tmp 31) (by rfl) w.heap.size _ _ ((l.map shortN).take k) _ (by rfl) s2 HT1.out.swap _ (by rfl) rfl (by simp; omega) ?_; intro v3 w3 ho3; have HT3 := Lib.hid ho3.swap; clear ho3))
        go_roundw
        case rel =>
          refine ⟨k + 1, by omega, by go_num, ?_⟩
          rw [take_step (v := s2) (by rw [List.getElem?_map, HV.out, HS2.out]; rfl)]
          exact HT3.out
        case measure => simp [intOf] <;> omega
      · have h2 : ¬ (k : Int) < 20 := by omega
        have hk12 : k = 20 := by omega
        subst hk12
        have HT2 := Lib.hid HT.out
        go_wp2
        refine bodyPost_ret (results_tmp2' rfl _ _ _) rfl ?_
        exact ⟨_, _, rfl, HT.out.one.names20, HT.out.two.names20, HT.out.apart, HT.out.below⟩
    · have h1 : ¬ (k : Int) < (l.length : Int) := by omega
      have HO1 := Lib.hid (HT.out.one.namesAll (by omega) (by omega))
      have HO2 := Lib.hid (HT.out.two.namesAll (by omega) (by omega))
      go_wp2
      refine bodyPost_ret (results_tmp2' rfl _ _ _) rfl ?_
      exact ⟨_, _, rfl, HO1.out, HO2.out, HT.out.apart, HT.out.below⟩

theorem str_beq (x y : ByteArray) : (x.toList == y.toList) = decide (x = y) := by
  by_cases h : x = y
  · subst h; simp
  · rw [decide_eq_false h, beq_eq_false_iff_ne]
    intro e
    rw [ByteArray.toList_eq, ByteArray.toList_eq] at e
    exact h (Go.WideShapes.bytes_inj e)
theorem take_eq_step {l l' : List ByteArray} {k : Nat} {x y : ByteArray} (hx : l[k]? = some x) (hy : l'[k]? = some y) (h : l.take k = l'.take k) (e : x = y) : l.take (k + 1) = l'.take (k + 1) := by
  rw [take_step hx, take_step hy, h, e]

set_option maxHeartbeats 1000000 in
set_option maxRecDepth 100000 in
theorem equal_any (A A' : Option Addr) (l l' : List ByteArray) (c c' B B' : Nat) (w : World) (hr : RT w B A l) (hr' : RT w B' A' l') (hl : l.length ≤ 1000000) :
    Calls Tryd.prog 34 #[.slice A l.length c, .slice A' l'.length c'] w fun e w' => e = .returned (.bool (decide (l = l'))) ∧ ∃ n, w' = w.drewN n := by
  by_cases hll : l.length = l'.length
  · have t0 : ((l.length : Int) != (l'.length : Int)) = false := by simp; omega
    go_enter Tryd.func34, Tryd.ntmps34
    go_wp2
    go_loopw [5] (fun i wr => ∃ k n : Nat, k ≤ l.length ∧ i = .int .i64 k ∧ l.take k = l'.take k ∧ wr = w.drewN n) (fun i _ => l.length - (intOf i).toNat)
    case atStart => exact ⟨0, 0, by omega, rfl, rfl, rfl⟩
    case round =>
      obtain ⟨k, n, hk, rfl, ht, rfl⟩ := hrel
      have HT := Lib.hid ht
      have HLL := Lib.hid hll
      clear ht t0
      by_cases hlt : k < l.length
      · have h1 : (k : Int) < (l.length : Int) := by omega
        obtain ⟨b, off, x, rfl, _, hx, c0⟩ := hr.at_ hlt
        obtain ⟨b2, off2, y, rfl, _, hy, c1⟩ := hr'.at_ (k := k) (by omega)
        have hk' : (k : Int) < (l'.length : Int) := by omega
        have HX := Lib.hid hx
        have HY := Lib.hid hy
        clear hx hy hr hr'
        by_cases hxy : x = y
        · have q : (x.toList == y.toList) = true := by rw [str_beq, decide_eq_true hxy]
          go_wp2_with fail
          go_quiet (fail)
          go_wp2
          go_roundw
          case rel => exact ⟨k + 1, _, by omega, by go_num, take_eq_step HX.out HY.out HT.out hxy, rfl⟩
          case measure => simp [intOf] <;> omega
        · have q : (x.toList == y.toList) = false := by rw [str_beq, decide_eq_false hxy]
          have hne : decide (l = l') = false := by
            rw [decide_eq_false_iff_not]; intro e; subst e
            have := HX.out.symm.trans HY.out
            injection this with this; exact hxy this
          go_wp2_with fail
          go_quiet (fail)
          go_wp2
          go_ret
          exact ⟨by first | rfl | (rw [hne]; rfl), _, World.drewN_drewN ..⟩
      · have h1 : ¬ (k : Int) < (l.length : Int) := by omega
        have he : decide (l = l') = true := by
          have := HT.out
          rw [List.take_of_length_le (by omega), List.take_of_length_le (by omega)] at this
          rw [decide_eq_true_iff]; exact this
        clear hr hr'
        go_wp2
        go_ret
        exact ⟨by first | rfl | (rw [he]; rfl), _, rfl⟩
  · have t0 : ((l.length : Int) != (l'.length : Int)) = true := by simp; omega
    have hne : decide (l = l') = false := by rw [decide_eq_false_iff_not]; intro e; rw [e] at hll; exact hll rfl
    clear hr hr'
    go_enter Tryd.func34, Tryd.ntmps34
    go_wp2
    go_ret
    exact ⟨by first | rfl | (rw [hne]; rfl), 0, rfl⟩
end Go.Proofs.YtdfenaoddbdppaaDoor

namespace Go.Proofs.YtdfenaoddbdppaaDoor
open Go.RowKit

theorem svs_len (m : List ByteArray) : (m.map sv).length = m.length := List.length_map _
/-- The slice value v reads as the bytes l, in a block from 'base' on whose spare cells may be written. -/
def OGT (w : World) (base : Nat) (v : Value) (l : List ByteArray) : Prop :=
  ∃ A cap, v = .slice A l.length cap ∧ l.length ≤ cap ∧ cap ≤ maxLen ∧
    (cap = 0 ∨ ∃ g, A = some ⟨g, 0, none⟩ ∧ base ≤ g ∧ g < w.heap.size ∧ (∀ j c, l[j]? = some c → w.cell? ⟨g, j, none⟩ = some (sv c)) ∧
      (∀ j, l.length ≤ j → j < cap → (w.cell? ⟨g, j, none⟩).isSome = true ∧ w.frozen? ⟨g, j, none⟩ = false))

theorem OGT.nil (w : World) (base : Nat) : OGT w base (.slice none 0 0) [] := ⟨none, 0, rfl, Nat.le_refl _, Nat.zero_le _, .inl rfl⟩
theorem OGT.form {w : World} {base : Nat} {v : Value} {l : List ByteArray} (h : OGT w base v l) : ∃ A cap, v = .slice A l.length cap ∧ RT w w.heap.size A l ∧ l.length ≤ cap ∧ cap ≤ maxLen := by
  obtain ⟨A, cap, rfl, h1, h2, h3⟩ := h
  refine ⟨A, cap, rfl, fun hn => ?_, h1, h2⟩
  rcases h3 with h3 | ⟨g, rfl, _, hg, hc, _⟩
  · omega
  · exact ⟨g, 0, rfl, hg, fun j c hj => by rw [Nat.zero_add]; exact hc j c hj⟩
theorem OGT.below {w w' : World} {base B : Nat} {v : Value} {l : List ByteArray} (h : OGT w base v l) (hb : Below B w w') (hB : w.heap.size ≤ B) : OGT w' base v l := by
  obtain ⟨A, cap, rfl, h1, h2, h3⟩ := h
  refine ⟨A, cap, rfl, h1, h2, h3.imp id ?_⟩
  rintro ⟨g, rfl, hg0, hg, hc, hf⟩
  refine ⟨g, rfl, hg0, Nat.lt_of_lt_of_le hg hb.size, fun j c hj => (hb.cell (p := ⟨g, j, none⟩) (by show g < B; omega)).trans (hc j c hj), fun j h3 h4 => ?_⟩
  rw [hb.cell (p := ⟨g, j, none⟩) (by show g < B; omega), hb.frozen (p := ⟨g, j, none⟩) (by show g < B; omega)]
  exact hf j h3 h4
theorem OGT.far {w w' : World} {base : Nat} {v : Value} {l : List ByteArray} (h : OGT w base v l) (hk : ∀ k, base ≤ k → k < w.heap.size → w'.heap[k]? = w.heap[k]?) (hs : w.heap.size ≤ w'.heap.size) : OGT w' base v l := by
  obtain ⟨A, cap, rfl, h1, h2, h3⟩ := h
  refine ⟨A, cap, rfl, h1, h2, h3.imp id ?_⟩
  rintro ⟨g, rfl, hg0, hg, hc, hf⟩
  have hh := hk g hg0 hg
  refine ⟨g, rfl, hg0, Nat.lt_of_lt_of_le hg hs, fun j c hj => (World.cell?_of_block (a := ⟨g, j, none⟩) hh).trans (hc j c hj), fun j h3 h4 => ?_⟩
  rw [World.cell?_of_block (w := w) (w' := w') (a := ⟨g, j, none⟩) hh, World.frozen?_of_block (w := w) (w' := w') (a := ⟨g, j, none⟩) hh]
  exact hf j h3 h4
theorem OGT.alloc {w : World} {base : Nat} {v : Value} {l : List ByteArray} (h : OGT w base v l) (o : Obj) : OGT (w.alloc o) base v l := h.below (below_alloc0 w o (Nat.le_refl _)) (Nat.le_refl _)
theorem OGT.drew {w : World} {base : Nat} {v : Value} {l : List ByteArray} (h : OGT w base v l) : OGT w.drew base v l := h
theorem OGT.drewN {w : World} {base : Nat} {v : Value} {l : List ByteArray} (h : OGT w base v l) (n : Nat) : OGT (w.drewN n) base v l := h

section
variable {P : Program} {t e : TypeId}
theorem run_appT (hP : StrSlice P t e) (w : World) (tx ty : TypeId) (base : Nat) (v : Value) (l m : List ByteArray) (x : Value) (hown : OGT w base v l) (hs : Src P 1 tx x m.length (m.map sv) w)
    (hlen : l.length + m.length ≤ 8000000000000) (hbase : base ≤ w.heap.size) :
    ∃ v' w', (Builtin.append_ #[t, tx] ty #[v, x]).run P w = .ok v' w' ∧ OGT w' base v' (l ++ m) ∧ Below base w w' := by
  obtain ⟨i, hi, hz, hs1, hb⟩ := hP.parts
  obtain ⟨A, cap, rfl, h1, h2, h3⟩ := hown
  have hs' : Src P i.size tx x m.length (m.map sv) w := by rw [hs1]; exact hs
  by_cases hroom : l.length + m.length ≤ cap
  · rcases h3 with h3 | ⟨g, rfl, hg0, hg, hc, hf⟩
    · have hm : m = [] := List.eq_nil_of_length_eq_zero (by omega)
      have hl : l = [] := List.eq_nil_of_length_eq_zero (by omega)
      subst hm hl
      exact ⟨_, w, run_append_nothing w t tx ty e i hP.u hi A 0 cap (by omega) x hs', ⟨A, cap, rfl, by simp, h2, .inl h3⟩, Below.refl _ _⟩
    · have hr := run_append_room_src (P := P) w t tx ty e i hP.u hi g 0 l.length cap x m.length (m.map sv) hs' hroom
        (by rw [svs_len, hs1, Nat.mul_one, Nat.zero_add]; intro j hj; exact (hf _ (by omega) (by omega)).1)
        (by rw [svs_len, hs1, Nat.mul_one, Nat.zero_add]; intro j hj; exact (hf _ (by omega) (by omega)).2)
      rw [hs1, Nat.mul_one, Nat.zero_add] at hr
      have hin : ∀ j, j < (m.map sv).length → (w.cell? ⟨g, l.length + j, none⟩).isSome = true := by rw [svs_len]; intro j hj; exact (hf _ (by omega) (by omega)).1
      refine ⟨_, _, hr, ⟨_, cap, by rw [List.length_append], by rw [List.length_append]; exact hroom, h2, .inr ⟨g, rfl, hg0, by rw [size_sets']; exact hg, fun j c hj => ?_, fun j h4 h5 => ?_⟩⟩, below_setCells g hg0 _ _ _ (Below.refl _ _)⟩
      · by_cases hj2 : j < l.length
        · rw [World.cell?_setCells_out g _ _ w _ (fun _ _ => .inl (by show j < l.length; omega))]
          exact hc j c (by rwa [List.getElem?_append_left hj2] at hj)
        · rw [List.getElem?_append_right (by omega)] at hj
          have hj3 := (List.getElem?_eq_some_iff.1 hj).1
          have := World.cell?_setCells_in g (m.map sv) l.length w hin (j - l.length) (by rw [svs_len]; exact hj3)
          rw [show l.length + (j - l.length) = j by omega] at this
          rw [this]
          simp only [List.getElem_map, Option.some.injEq]
          rw [(List.getElem?_eq_some_iff.1 hj).2]
      · rw [List.length_append] at h4
        rw [World.cell?_setCells_out g _ _ w _ (fun _ _ => .inr (by show l.length + (m.map sv).length ≤ j; rw [svs_len]; omega)), World.frozen?_setCells]
        exact hf j (by omega) h5
  · have hold : (Builtin.firstCells i.size l.length (.slice A l.length cap)).run P w.drew = .ok (l.map sv).toArray w.drew := by
      rw [hs1]
      rcases h3 with h3 | ⟨g, rfl, hg0, hg, hc, hf⟩
      · have hl : l = [] := List.eq_nil_of_length_eq_zero (by omega)
        subst hl
        cases A <;> simp [Builtin.firstCells, loadCells, loadCellsFrom]
      · exact run_firstCells_some w.drew 1 l.length ⟨g, 0, none⟩ l.length cap (l.map sv) (by simp) (fun j u hu => by
          rw [List.getElem?_map, Option.map_eq_some_iff] at hu
          obtain ⟨c', hc', rfl⟩ := hu
          rw [Addr.add_lit, Nat.zero_add]; exact hc j c' hc')
    have hr := run_append_grow_src (P := P) w t tx ty e i (.string ⟨#[]⟩) hP.u hi hz A l.length cap (l.map sv) hold x m.length (m.map sv) hs' (by omega) (by omega) (by rw [hb]; exact growslice_fits (by omega) (by omega))
    refine ⟨_, _, hr, ⟨_, _, by rw [List.length_append], by rw [List.length_append]; exact grownCap_ge _ _ _ _, grownCap_le_maxLen _ _ _ _ (by unfold maxLen; omega), .inr ⟨w.heap.size, rfl, hbase, by simp, fun j c hj => ?_, fun j h4 h5 => ?_⟩⟩, ((Below.refl base w).drew).alloc (by simpa using hbase) _⟩
    · rw [cell_drewn, Array.getElem?_append_left (by simp; have := (List.getElem?_eq_some_iff.1 hj).1; simpa using this)]
      rw [List.getElem?_toArray, ← List.map_append, List.getElem?_map, hj]; rfl
    · rw [List.length_append] at h4
      rw [cell_drewn, frozen_drewn]
      refine ⟨?_, by simp⟩
      rw [Array.getElem?_append_right (by simp; omega), Array.getElem?_eq_getElem (by rw [size_zeroCells]; simp [Value.cells]; omega)]; rfl

/-- 'append(v, x...)', whatever x. -/
theorem wpList_appT {ops : Array Oper} {rest : List Oper} {o : Oper} {a : Act} {Q : Exit → Act → World → Prop} {w : World} (hP : StrSlice P t e) (hgd : o.guard = none) (s x : Operand) (tx : TypeId)
    (ho : o.op = .call { callee := .builtin .append, args := #[s, x], argTypes := #[t, tx] }) (base : Nat) (v : Value) (l m : List ByteArray) (hs : a.eval s = v) (hown : OGT w base v l)
    (x' : Value) (hx : a.eval x = x') (hsrc : Src P 1 tx x' m.length (m.map sv) w) (hlen : l.length + m.length ≤ 8000000000000) (hbase : base ≤ w.heap.size)
    (h : ∀ v' w', OGT w' base v' (l ++ m) → Below base w w' → wpList P ops Q rest (a.put o.dst v') w') : wpList P ops Q (o :: rest) a w := by
  obtain ⟨v', w', h1, h2, h3⟩ := run_appT hP w tx o.type base v l m x' hown hsrc hlen hbase
  exact wpList_append_of hgd s x t tx ho hs hx h1 (h v' w' h2 h3)

end

theorem src_lits {P : Program} {t e : TypeId} (hP : StrSlice P t e) (W : World) (m : List ByteArray) (c : Nat) (G : Nat) (hG : G = W.heap.size) : Src P 1 t (.slice (some ⟨G, 0, none⟩) m.length c) m.length (m.map sv) (W.alloc (.cells (m.map sv).toArray e)) := by
  subst hG
  refine Src.ofSlice (P := P) _ (e' := e) hP.u _ _ _ _ (by simp) (fun j u hu => ?_) (svs_oneCell m)
  rw [Addr.add_lit, Nat.zero_add, World.cell?_alloc_at _ _ _ _ rfl]; simpa using hu
theorem src_rts {P : Program} {t e : TypeId} (hP : StrSlice P t e) {W : World} {b off n : Nat} {m : List ByteArray} (hc : ∀ j s, m[j]? = some s → W.cell? ⟨b, off + j, none⟩ = some (sv s)) (c : Nat) (hn : n = m.length) : Src P 1 t (.slice (some ⟨b, off, none⟩) n c) m.length (m.map sv) W := by
  subst hn
  refine Src.ofSlice (P := P) _ (e' := e) hP.u _ _ _ _ (by simp) (fun j u hu => ?_) (svs_oneCell m)
  rw [List.getElem?_map, Option.map_eq_some_iff] at hu
  obtain ⟨c', hc', rfl⟩ := hu
  rw [Addr.add_lit]; exact hc j c' hc'
end Go.Proofs.YtdfenaoddbdppaaDoor
