/- Bytes that the call made and appends to, whatever mark their block bears ('[]byte(s)' marks its). Plain lemmas, no program. -/
import Derived.Test.YtdfenaoddbdppaaDoorSWrite
import Derived.Deep.Upon
import Derived.Laws.IdiomStrings
set_option linter.unusedVariables false
namespace Go.Proofs.YtdfenaoddbdppaaDoor
open Go.RowKit

/-- The slice value v reads as the bytes l, in a block from 'base' on whose spare cells may be written. -/
def OG (w : World) (base : Nat) (v : Value) (l : List UInt8) : Prop :=
  ∃ A cap, v = .slice A l.length cap ∧ l.length ≤ cap ∧ cap ≤ maxLen ∧
    (cap = 0 ∨ ∃ g, A = some ⟨g, 0, none⟩ ∧ base ≤ g ∧ g < w.heap.size ∧ (∀ j c, l[j]? = some c → w.cell? ⟨g, j, none⟩ = some (bv c)) ∧
      (∀ j, l.length ≤ j → j < cap → (w.cell? ⟨g, j, none⟩).isSome = true ∧ w.frozen? ⟨g, j, none⟩ = false))

theorem OG.nil (w : World) (base : Nat) : OG w base (.slice none 0 0) [] := ⟨none, 0, rfl, Nat.le_refl _, Nat.zero_le _, .inl rfl⟩
theorem OG.form {w : World} {base : Nat} {v : Value} {l : List UInt8} (h : OG w base v l) : ∃ A cap, v = .slice A l.length cap ∧ RB w w.heap.size A l ∧ l.length ≤ cap ∧ cap ≤ maxLen := by
  obtain ⟨A, cap, rfl, h1, h2, h3⟩ := h
  refine ⟨A, cap, rfl, fun hn => ?_, h1, h2⟩
  rcases h3 with h3 | ⟨g, rfl, _, hg, hc, _⟩
  · omega
  · exact ⟨g, 0, rfl, hg, fun j c hj => by rw [Nat.zero_add]; exact hc j c hj⟩
theorem OG.below {w w' : World} {base B : Nat} {v : Value} {l : List UInt8} (h : OG w base v l) (hb : Below B w w') (hB : w.heap.size ≤ B) : OG w' base v l := by
  obtain ⟨A, cap, rfl, h1, h2, h3⟩ := h
  refine ⟨A, cap, rfl, h1, h2, h3.imp id ?_⟩
  rintro ⟨g, rfl, hg0, hg, hc, hf⟩
  refine ⟨g, rfl, hg0, Nat.lt_of_lt_of_le hg hb.size, fun j c hj => (hb.cell (p := ⟨g, j, none⟩) (by show g < B; omega)).trans (hc j c hj), fun j h3 h4 => ?_⟩
  rw [hb.cell (p := ⟨g, j, none⟩) (by show g < B; omega), hb.frozen (p := ⟨g, j, none⟩) (by show g < B; omega)]
  exact hf j h3 h4
theorem OG.far {w w' : World} {base : Nat} {v : Value} {l : List UInt8} (h : OG w base v l) (hk : ∀ k, base ≤ k → k < w.heap.size → w'.heap[k]? = w.heap[k]?) (hs : w.heap.size ≤ w'.heap.size) : OG w' base v l := by
  obtain ⟨A, cap, rfl, h1, h2, h3⟩ := h
  refine ⟨A, cap, rfl, h1, h2, h3.imp id ?_⟩
  rintro ⟨g, rfl, hg0, hg, hc, hf⟩
  have hh := hk g hg0 hg
  refine ⟨g, rfl, hg0, Nat.lt_of_lt_of_le hg hs, fun j c hj => (World.cell?_of_block (a := ⟨g, j, none⟩) hh).trans (hc j c hj), fun j h3 h4 => ?_⟩
  rw [World.cell?_of_block (w := w) (w' := w') (a := ⟨g, j, none⟩) hh, World.frozen?_of_block (w := w) (w' := w') (a := ⟨g, j, none⟩) hh]
  exact hf j h3 h4
theorem heap_setCells (b k : Nat) (hk : k ≠ b) : ∀ (vs : List Value) (o : Nat) (w : World), (w.setCells b o vs).heap[k]? = w.heap[k]?
  | [], _, _ => rfl
  | v :: r, o, w => by rw [World.setCells, heap_setCells b k hk r]; exact Below.heap_setCell w ⟨b, o, none⟩ v k hk
theorem OG.alloc {w : World} {base : Nat} {v : Value} {l : List UInt8} (h : OG w base v l) (o : Obj) : OG (w.alloc o) base v l := h.below (below_alloc0 w o (Nat.le_refl _)) (Nat.le_refl _)
theorem OG.drew {w : World} {base : Nat} {v : Value} {l : List UInt8} (h : OG w base v l) : OG w.drew base v l := h
theorem OG.drewN {w : World} {base : Nat} {v : Value} {l : List UInt8} (h : OG w base v l) (n : Nat) : OG (w.drewN n) base v l := h

section
variable {P : Program} {t e : TypeId}
theorem size_sets' (b : Nat) : ∀ (vs : List Value) (o : Nat) (w : World), (w.setCells b o vs).heap.size = w.heap.size
  | [], _, _ => rfl
  | v :: r, o, w => by rw [World.setCells, size_sets' b r]; simp [World.setCell]
theorem cell_drewn (w : World) (C : Array Value) (t : TypeId) (fr : Nat × Nat) (j : Nat) : (w.drew.alloc (.cells C t fr)).cell? ⟨w.heap.size, j, none⟩ = C[j]? := World.cell?_alloc_mark w.drew C t fr j
theorem frozen_drewn (w : World) (C : Array Value) (t : TypeId) (lo hi j : Nat) : (w.drew.alloc (.cells C t (lo, hi))).frozen? ⟨w.heap.size, j, none⟩ = (decide (lo ≤ j) && decide (j < hi)) := World.frozen?_alloc_mark w.drew C t lo hi j
theorem bvs_len (m : List UInt8) : (m.map bv).length = m.length := List.length_map _

theorem run_app_og (hP : ByteSlice P t e) (w : World) (tx ty : TypeId) (base : Nat) (v : Value) (l m : List UInt8) (x : Value) (hown : OG w base v l) (hs : Src P 1 tx x m.length (m.map bv) w)
    (hlen : l.length + m.length ≤ 140737488355328) (hbase : base ≤ w.heap.size) :
    ∃ v' w', (Builtin.append_ #[t, tx] ty #[v, x]).run P w = .ok v' w' ∧ OG w' base v' (l ++ m) ∧ Below base w w' := by
  obtain ⟨i, hi, hz, hs1, hb⟩ := hP.parts
  obtain ⟨A, cap, rfl, h1, h2, h3⟩ := hown
  have hs' : Src P i.size tx x m.length (m.map bv) w := by rw [hs1]; exact hs
  by_cases hroom : l.length + m.length ≤ cap
  · rcases h3 with h3 | ⟨g, rfl, hg0, hg, hc, hf⟩
    · have hm : m = [] := List.eq_nil_of_length_eq_zero (by omega)
      have hl : l = [] := List.eq_nil_of_length_eq_zero (by omega)
      subst hm hl
      exact ⟨_, w, run_append_nothing w t tx ty e i hP.u hi A 0 cap (by omega) x hs', ⟨A, cap, rfl, by simp, h2, .inl h3⟩, Below.refl _ _⟩
    · have hr := run_append_room_src (P := P) w t tx ty e i hP.u hi g 0 l.length cap x m.length (m.map bv) hs' hroom
        (by rw [bvs_len, hs1, Nat.mul_one, Nat.zero_add]; intro j hj; exact (hf _ (by omega) (by omega)).1)
        (by rw [bvs_len, hs1, Nat.mul_one, Nat.zero_add]; intro j hj; exact (hf _ (by omega) (by omega)).2)
      rw [hs1, Nat.mul_one, Nat.zero_add] at hr
      have hin : ∀ j, j < (m.map bv).length → (w.cell? ⟨g, l.length + j, none⟩).isSome = true := by rw [bvs_len]; intro j hj; exact (hf _ (by omega) (by omega)).1
      refine ⟨_, _, hr, ⟨_, cap, by rw [List.length_append], by rw [List.length_append]; exact hroom, h2, .inr ⟨g, rfl, hg0, by rw [size_sets']; exact hg, fun j c hj => ?_, fun j h4 h5 => ?_⟩⟩, below_setCells g hg0 _ _ _ (Below.refl _ _)⟩
      · by_cases hj2 : j < l.length
        · rw [World.cell?_setCells_out g _ _ w _ (fun _ _ => .inl (by show j < l.length; omega))]
          exact hc j c (by rwa [List.getElem?_append_left hj2] at hj)
        · rw [List.getElem?_append_right (by omega)] at hj
          have hj3 := (List.getElem?_eq_some_iff.1 hj).1
          have := World.cell?_setCells_in g (m.map bv) l.length w hin (j - l.length) (by rw [bvs_len]; exact hj3)
          rw [show l.length + (j - l.length) = j by omega] at this
          rw [this]
          simp only [List.getElem_map, Option.some.injEq]
          rw [(List.getElem?_eq_some_iff.1 hj).2]
      · rw [List.length_append] at h4
        rw [World.cell?_setCells_out g _ _ w _ (fun _ _ => .inr (by show l.length + (m.map bv).length ≤ j; rw [bvs_len]; omega)), World.frozen?_setCells]
        exact hf j (by omega) h5
  · have hold : (Builtin.firstCells i.size l.length (.slice A l.length cap)).run P w.drew = .ok (l.map bv).toArray w.drew := by
      rw [hs1]
      rcases h3 with h3 | ⟨g, rfl, hg0, hg, hc, hf⟩
      · have hl : l = [] := List.eq_nil_of_length_eq_zero (by omega)
        subst hl
        cases A <;> simp [Builtin.firstCells, loadCells, loadCellsFrom]
      · exact run_firstCells_some w.drew 1 l.length ⟨g, 0, none⟩ l.length cap (l.map bv) (by simp) (fun j u hu => by
          rw [List.getElem?_map, Option.map_eq_some_iff] at hu
          obtain ⟨c', hc', rfl⟩ := hu
          rw [Addr.add_lit, Nat.zero_add]; exact hc j c' hc')
    have hr := run_append_grow_src (P := P) w t tx ty e i (.int .u8 0) hP.u hi hz A l.length cap (l.map bv) hold x m.length (m.map bv) hs' (by omega) (by omega) (by rw [hb]; exact growslice_fits (by omega) (by omega))
    refine ⟨_, _, hr, ⟨_, _, by rw [List.length_append], by rw [List.length_append]; exact grownCap_ge _ _ _ _, grownCap_le_maxLen _ _ _ _ (by unfold maxLen; omega), .inr ⟨w.heap.size, rfl, hbase, by simp, fun j c hj => ?_, fun j h4 h5 => ?_⟩⟩, ((Below.refl base w).drew).alloc (by simpa using hbase) _⟩
    · rw [cell_drewn, Array.getElem?_append_left (by simp; have := (List.getElem?_eq_some_iff.1 hj).1; simpa using this)]
      rw [List.getElem?_toArray, ← List.map_append, List.getElem?_map, hj]; rfl
    · rw [List.length_append] at h4
      rw [cell_drewn, frozen_drewn]
      refine ⟨?_, by simp⟩
      rw [Array.getElem?_append_right (by simp; omega), Array.getElem?_eq_getElem (by rw [size_zeroCells]; simp [Value.cells]; omega)]; rfl

/-- 'append(v, x...)', whatever x. -/
theorem wpList_appG {ops : Array Oper} {rest : List Oper} {o : Oper} {a : Act} {Q : Exit → Act → World → Prop} {w : World} (hP : ByteSlice P t e) (hgd : o.guard = none) (s x : Operand) (tx : TypeId)
    (ho : o.op = .call { callee := .builtin .append, args := #[s, x], argTypes := #[t, tx] }) (base : Nat) (v : Value) (l m : List UInt8) (hs : a.eval s = v) (hown : OG w base v l)
    (x' : Value) (hx : a.eval x = x') (hsrc : Src P 1 tx x' m.length (m.map bv) w) (hlen : l.length + m.length ≤ 140737488355328) (hbase : base ≤ w.heap.size)
    (h : ∀ v' w', OG w' base v' (l ++ m) → Below base w w' → wpList P ops Q rest (a.put o.dst v') w') : wpList P ops Q (o :: rest) a w := by
  obtain ⟨v', w', h1, h2, h3⟩ := run_app_og hP w tx o.type base v l m x' hown hsrc hlen hbase
  exact wpList_append_of hgd s x t tx ho hs hx h1 (h v' w' h2 h3)

/-- The bytes of a new block. -/
theorem src_lit (hP : ByteSlice P t e) (W : World) (m : List UInt8) (c : Nat) (G : Nat) (hG : G = W.heap.size) : Src P 1 t (.slice (some ⟨G, 0, none⟩) m.length c) m.length (m.map bv) (W.alloc (.cells (m.map bv).toArray e)) := by
  subst hG
  refine Src.ofSlice (P := P) _ (e' := e) hP.u _ _ _ _ (by simp) (fun j u hu => ?_) (bvs_oneCell m)
  rw [Addr.add_lit, Nat.zero_add, World.cell?_alloc_at _ _ _ _ rfl]; simpa using hu
theorem src_rb (hP : ByteSlice P t e) {W : World} {B : Nat} {A : Option Addr} {m : List UInt8} (hr : RB W B A m) (c : Nat) (h0 : 0 < m.length) : Src P 1 t (.slice A m.length c) m.length (m.map bv) W := by
  obtain ⟨b, off, rfl, _, hc⟩ := hr h0
  refine Src.ofSlice (P := P) _ (e' := e) hP.u _ _ _ _ (by simp) (fun j u hu => ?_) (bvs_oneCell m)
  rw [List.getElem?_map, Option.map_eq_some_iff] at hu
  obtain ⟨c', hc', rfl⟩ := hu
  rw [Addr.add_lit]; exact hc j c' hc'
theorem src_str {tx : TypeId} (hk : P.underlying tx = some .string) (W : World) (s : ByteArray) (m : List UInt8) (hm : m = s.data.toList) : Src P 1 tx (.string s) m.length (m.map bv) W := by
  subst hm
  have := Src.ofString (P := P) W hk s
  rw [show s.data.toList.length = s.size by simp]
  exact this

/-- '[]byte(s)'. -/
theorem run_bytes (hP : ByteSlice P t e) {ts : TypeId} (hts : P.underlying ts = some .string) (w : World) (s : ByteArray) :
    (convert ts t (.string s)).run P w = .ok (.slice (some ⟨w.heap.size, 0, none⟩) s.size (grownCap w s.size 0 e))
      (w.drew.alloc (.cells (bytesRow s (grownCap w s.size 0 e)) e ((bytesRow s (grownCap w s.size 0 e)).size, (bytesRow s (grownCap w s.size 0 e)).size + 1))) :=
  run_bytes_of_string w ts t e s hts hP.u hP.b
theorem og_bytes (w : World) (s : ByteArray) (e : TypeId) (base : Nat) (hb : base ≤ w.heap.size) (hs : s.size ≤ 140737488355328) : OG (w.drew.alloc (.cells (bytesRow s (grownCap w s.size 0 e)) e ((bytesRow s (grownCap w s.size 0 e)).size, (bytesRow s (grownCap w s.size 0 e)).size + 1)))
    base (.slice (some ⟨w.heap.size, 0, none⟩) s.size (grownCap w s.size 0 e)) s.data.toList := by
  have hsz : (bytesRow s (grownCap w s.size 0 e)).size = grownCap w s.size 0 e := by
    unfold bytesRow
    have := grownCap_ge w s.size 0 e
    have h2 : s.data.size = s.size := rfl
    simp [h2]; omega
  refine ⟨_, grownCap w s.size 0 e, by simp, by simpa using grownCap_ge w s.size 0 e, grownCap_le_maxLen _ _ _ _ (by unfold maxLen; omega), .inr ⟨w.heap.size, rfl, hb, by simp, fun j c hj => ?_, fun j h4 h5 => ?_⟩⟩
  · have hj2 := (List.getElem?_eq_some_iff.1 hj).1
    rw [cell_drewn, bytesRow_at s _ j (by simpa using hj2)]
    rw [← (List.getElem?_eq_some_iff.1 hj).2]; simp
  · rw [cell_drewn, frozen_drewn, Array.getElem?_eq_getElem (by rw [hsz]; exact h5)]
    refine ⟨rfl, ?_⟩
    rw [hsz]; simp; omega
end
end Go.Proofs.YtdfenaoddbdppaaDoor
