/- Bytes that the call made and appends to, whatever mark their block bears ('[]byte(s)' marks its). Plain lemmas, no program. lineage: the walk of Make. lineage: the walks of first, Parent, Root, Common, Within. lineage: the walks of Parent, Root, Common, Within. The list of a name, in the walk's form. lineage: the walks of Common and Within. lineage: the walk of Within. lineage: the walks of slices.Compare at ints and cmp.Compare at names. lineage: the walk of Compare. lineage: the walk of the reference's Make. lineage: the walk of the reference's Common. lineage: the walk of the reference's Compare. -/
import Derived.Deep.Upon
import Derived.Laws.IdiomStrings
import Derived.Test.YtcdjmkfpclmbdaaGreatDoorOLd
import Derived.Lib.ItoaMem
import Derived.Test.YtcdjmkfpclmbdaaGreatDoorShelf
set_option linter.unusedVariables false
namespace Go.Proofs.YtcdjmkfpclmbdaaGreatDoor
open Go.RowKit

/-- The slice value v reads as the bytes l, in a block from 'base' on whose spare cells may be written. -/
def OG (w : World) (base : Nat) (v : Value) (l : List UInt8) : Prop :=
  ∃ A cap, v = .slice A l.length cap ∧ l.length ≤ cap ∧ cap ≤ maxLen ∧
    (cap = 0 ∨ ∃ g, A = some ⟨g, 0, none⟩ ∧ base ≤ g ∧ g < w.heap.size ∧ (∀ j c, l[j]? = some c → w.cell? ⟨g, j, none⟩ = some (bv c)) ∧
      (∀ j, l.length ≤ j → j < cap → (w.cell? ⟨g, j, none⟩).isSome = true ∧ w.frozen? ⟨g, j, none⟩ = false))

theorem OG.nil (w : World) (base : Nat) : OG w base (.slice none 0 0) [] := ⟨none, 0, rfl, Nat.le_refl _, Nat.zero_le _, .inl rfl⟩
theorem OG.form {w : World} {base : Nat} {v : Value} {l : List UInt8} (h : OG w base v l) : ∃ A cap, v = .slice A l.length cap ∧ RB w w.heap.size A l ∧ l.length ≤ cap ∧ cap ≤ maxLen := by
  obtain ⟨A, cap, rfl, h1, h2, h3⟩ := h
  refine ⟨A, cap, rfl, fun hn => ?_, h1, h2⟩
  rcases h3 with h3 | ⟨g, rfl, _, hg, hc, _⟩
  · omega
  · exact ⟨g, 0, rfl, hg, fun j c hj => by rw [Nat.zero_add]; exact hc j c hj⟩
theorem OG.below {w w' : World} {base B : Nat} {v : Value} {l : List UInt8} (h : OG w base v l) (hb : Below B w w') (hB : w.heap.size ≤ B) : OG w' base v l := by
  obtain ⟨A, cap, rfl, h1, h2, h3⟩ := h
  refine ⟨A, cap, rfl, h1, h2, h3.imp id ?_⟩
  rintro ⟨g, rfl, hg0, hg, hc, hf⟩
  refine ⟨g, rfl, hg0, Nat.lt_of_lt_of_le hg hb.size, fun j c hj => (hb.cell (p := ⟨g, j, none⟩) (by show g < B; omega)).trans (hc j c hj), fun j h3 h4 => ?_⟩
  rw [hb.cell (p := ⟨g, j, none⟩) (by show g < B; omega), hb.frozen (p := ⟨g, j, none⟩) (by show g < B; omega)]
  exact hf j h3 h4
theorem OG.far {w w' : World} {base : Nat} {v : Value} {l : List UInt8} (h : OG w base v l) (hk : ∀ k, base ≤ k → k < w.heap.size → w'.heap[k]? = w.heap[k]?) (hs : w.heap.size ≤ w'.heap.size) : OG w' base v l := by
  obtain ⟨A, cap, rfl, h1, h2, h3⟩ := h
  refine ⟨A, cap, rfl, h1, h2, h3.imp id ?_⟩
  rintro ⟨g, rfl, hg0, hg, hc, hf⟩
  have hh := hk g hg0 hg
  refine ⟨g, rfl, hg0, Nat.lt_of_lt_of_le hg hs, fun j c hj => (World.cell?_of_block (a := ⟨g, j, none⟩) hh).trans (hc j c hj), fun j h3 h4 => ?_⟩
  rw [World.cell?_of_block (w := w) (w' := w') (a := ⟨g, j, none⟩) hh, World.frozen?_of_block (w := w) (w' := w') (a := ⟨g, j, none⟩) hh]
  exact hf j h3 h4
theorem heap_setCells (b k : Nat) (hk : k ≠ b) : ∀ (vs : List Value) (o : Nat) (w : World), (w.setCells b o vs).heap[k]? = w.heap[k]?
  | [], _, _ => rfl
  | v :: r, o, w => by rw [World.setCells, heap_setCells b k hk r]; exact Below.heap_setCell w ⟨b, o, none⟩ v k hk
theorem OG.alloc {w : World} {base : Nat} {v : Value} {l : List UInt8} (h : OG w base v l) (o : Obj) : OG (w.alloc o) base v l := h.below (below_alloc0 w o (Nat.le_refl _)) (Nat.le_refl _)
theorem OG.drew {w : World} {base : Nat} {v : Value} {l : List UInt8} (h : OG w base v l) : OG w.drew base v l := h
theorem OG.drewN {w : World} {base : Nat} {v : Value} {l : List UInt8} (h : OG w base v l) (n : Nat) : OG (w.drewN n) base v l := h

section
variable {P : Program} {t e : TypeId}
theorem size_sets' (b : Nat) : ∀ (vs : List Value) (o : Nat) (w : World), (w.setCells b o vs).heap.size = w.heap.size
  | [], _, _ => rfl
  | v :: r, o, w => by rw [World.setCells, size_sets' b r]; simp [World.setCell]
theorem cell_drewn (w : World) (C : Array Value) (t : TypeId) (fr : Nat × Nat) (j : Nat) : (w.drew.alloc (.cells C t fr)).cell? ⟨w.heap.size, j, none⟩ = C[j]? := World.cell?_alloc_mark w.drew C t fr j
theorem frozen_drewn (w : World) (C : Array Value) (t : TypeId) (lo hi j : Nat) : (w.drew.alloc (.cells C t (lo, hi))).frozen? ⟨w.heap.size, j, none⟩ = (decide (lo ≤ j) && decide (j < hi)) := World.frozen?_alloc_mark w.drew C t lo hi j
theorem bvs_len (m : List UInt8) : (m.map bv).length = m.length := List.length_map _

theorem run_app_og (hP : ByteSlice P t e) (w : World) (tx ty : TypeId) (base : Nat) (v : Value) (l m : List UInt8) (x : Value) (hown : OG w base v l) (hs : Src P 1 tx x m.length (m.map bv) w)
    (hlen : l.length + m.length ≤ 140737488355328) (hbase : base ≤ w.heap.size) :
    ∃ v' w', (Builtin.append_ #[t, tx] ty #[v, x]).run P w = .ok v' w' ∧ OG w' base v' (l ++ m) ∧ Below base w w' := by
  obtain ⟨i, hi, hz, hs1, hb⟩ := hP.parts
  obtain ⟨A, cap, rfl, h1, h2, h3⟩ := hown
  have hs' : Src P i.size tx x m.length (m.map bv) w := by rw [hs1]; exact hs
  by_cases hroom : l.length + m.length ≤ cap
  · rcases h3 with h3 | ⟨g, rfl, hg0, hg, hc, hf⟩
    · have hm : m = [] := List.eq_nil_of_length_eq_zero (by omega)
      have hl : l = [] := List.eq_nil_of_length_eq_zero (by omega)
      subst hm hl
      exact ⟨_, w, run_append_nothing w t tx ty e i hP.u hi A 0 cap (by omega) x hs', ⟨A, cap, rfl, by simp, h2, .inl h3⟩, Below.refl _ _⟩
    · have hr := run_append_room_src (P := P) w t tx ty e i hP.u hi g 0 l.length cap x m.length (m.map bv) hs' hroom
        (by rw [bvs_len, hs1, Nat.mul_one, Nat.zero_add]; intro j hj; exact (hf _ (by omega) (by omega)).1)
        (by rw [bvs_len, hs1, Nat.mul_one, Nat.zero_add]; intro j hj; exact (hf _ (by omega) (by omega)).2)
      rw [hs1, Nat.mul_one, Nat.zero_add] at hr
      have hin : ∀ j, j < (m.map bv).length → (w.cell? ⟨g, l.length + j, none⟩).isSome = true := by rw [bvs_len]; intro j hj; exact (hf _ (by omega) (by omega)).1
      refine ⟨_, _, hr, ⟨_, cap, by rw [List.length_append], by rw [List.length_append]; exact hroom, h2, .inr ⟨g, rfl, hg0, by rw [size_sets']; exact hg, fun j c hj => ?_, fun j h4 h5 => ?_⟩⟩, below_setCells g hg0 _ _ _ (Below.refl _ _)⟩
      · by_cases hj2 : j < l.length
        · rw [World.cell?_setCells_out g _ _ w _ (fun _ _ => .inl (by show j < l.length; omega))]
          exact hc j c (by rwa [List.getElem?_append_left hj2] at hj)
        · rw [List.getElem?_append_right (by omega)] at hj
          have hj3 := (List.getElem?_eq_some_iff.1 hj).1
          have := World.cell?_setCells_in g (m.map bv) l.length w hin (j - l.length) (by rw [bvs_len]; exact hj3)
          rw [show l.length + (j - l.length) = j by omega] at this
          rw [this]
          simp only [List.getElem_map, Option.some.injEq]
          rw [(List.getElem?_eq_some_iff.1 hj).2]
      · rw [List.length_append] at h4
        rw [World.cell?_setCells_out g _ _ w _ (fun _ _ => .inr (by show l.length + (m.map bv).length ≤ j; rw [bvs_len]; omega)), World.frozen?_setCells]
        exact hf j (by omega) h5
  · have hold : (Builtin.firstCells i.size l.length (.slice A l.length cap)).run P w.drew = .ok (l.map bv).toArray w.drew := by
      rw [hs1]
      rcases h3 with h3 | ⟨g, rfl, hg0, hg, hc, hf⟩
      · have hl : l = [] := List.eq_nil_of_length_eq_zero (by omega)
        subst hl
        cases A <;> simp [Builtin.firstCells, loadCells, loadCellsFrom]
      · exact run_firstCells_some w.drew 1 l.length ⟨g, 0, none⟩ l.length cap (l.map bv) (by simp) (fun j u hu => by
          rw [List.getElem?_map, Option.map_eq_some_iff] at hu
          obtain ⟨c', hc', rfl⟩ := hu
          rw [Addr.add_lit, Nat.zero_add]; exact hc j c' hc')
    have hr := run_append_grow_src (P := P) w t tx ty e i (.int .u8 0) hP.u hi hz A l.length cap (l.map bv) hold x m.length (m.map bv) hs' (by omega) (by omega) (by rw [hb]; exact growslice_fits (by omega) (by omega))
    refine ⟨_, _, hr, ⟨_, _, by rw [List.length_append], by rw [List.length_append]; exact grownCap_ge _ _ _ _, grownCap_le_maxLen _ _ _ _ (by unfold maxLen; omega), .inr ⟨w.heap.size, rfl, hbase, by simp, fun j c hj => ?_, fun j h4 h5 => ?_⟩⟩, ((Below.refl base w).drew).alloc (by simpa using hbase) _⟩
    · rw [cell_drewn, Array.getElem?_append_left (by simp; have := (List.getElem?_eq_some_iff.1 hj).1; simpa using this)]
      rw [List.getElem?_toArray, ← List.map_append, List.getElem?_map, hj]; rfl
    · rw [List.length_append] at h4
      rw [cell_drewn, frozen_drewn]
      refine ⟨?_, by simp⟩
      rw [Array.getElem?_append_right (by simp; omega), Array.getElem?_eq_getElem (by rw [size_zeroCells]; simp [Value.cells]; omega)]; rfl

/-- 'append(v, x...)', whatever x. -/
theorem wpList_appG {ops : Array Oper} {rest : List Oper} {o : Oper} {a : Act} {Q : Exit → Act → World → Prop} {w : World} (hP : ByteSlice P t e) (hgd : o.guard = none) (s x : Operand) (tx : TypeId)
    (ho : o.op = .call { callee := .builtin .append, args := #[s, x], argTypes := #[t, tx] }) (base : Nat) (v : Value) (l m : List UInt8) (hs : a.eval s = v) (hown : OG w base v l)
    (x' : Value) (hx : a.eval x = x') (hsrc : Src P 1 tx x' m.length (m.map bv) w) (hlen : l.length + m.length ≤ 140737488355328) (hbase : base ≤ w.heap.size)
    (h : ∀ v' w', OG w' base v' (l ++ m) → Below base w w' → wpList P ops Q rest (a.put o.dst v') w') : wpList P ops Q (o :: rest) a w := by
  obtain ⟨v', w', h1, h2, h3⟩ := run_app_og hP w tx o.type base v l m x' hown hsrc hlen hbase
  exact wpList_append_of hgd s x t tx ho hs hx h1 (h v' w' h2 h3)

/-- The bytes of a new block. -/
theorem src_lit (hP : ByteSlice P t e) (W : World) (m : List UInt8) (c : Nat) (G : Nat) (hG : G = W.heap.size) : Src P 1 t (.slice (some ⟨G, 0, none⟩) m.length c) m.length (m.map bv) (W.alloc (.cells (m.map bv).toArray e)) := by
  subst hG
  refine Src.ofSlice (P := P) _ (e' := e) hP.u _ _ _ _ (by simp) (fun j u hu => ?_) (bvs_oneCell m)
  rw [Addr.add_lit, Nat.zero_add, World.cell?_alloc_at _ _ _ _ rfl]; simpa using hu
theorem src_rb (hP : ByteSlice P t e) {W : World} {B : Nat} {A : Option Addr} {m : List UInt8} (hr : RB W B A m) (c : Nat) (h0 : 0 < m.length) : Src P 1 t (.slice A m.length c) m.length (m.map bv) W := by
  obtain ⟨b, off, rfl, _, hc⟩ := hr h0
  refine Src.ofSlice (P := P) _ (e' := e) hP.u _ _ _ _ (by simp) (fun j u hu => ?_) (bvs_oneCell m)
  rw [List.getElem?_map, Option.map_eq_some_iff] at hu
  obtain ⟨c', hc', rfl⟩ := hu
  rw [Addr.add_lit]; exact hc j c' hc'
theorem src_str {tx : TypeId} (hk : P.underlying tx = some .string) (W : World) (s : ByteArray) (m : List UInt8) (hm : m = s.data.toList) : Src P 1 tx (.string s) m.length (m.map bv) W := by
  subst hm
  have := Src.ofString (P := P) W hk s
  rw [show s.data.toList.length = s.size by simp]
  exact this

/-- '[]byte(s)'. -/
theorem run_bytes (hP : ByteSlice P t e) {ts : TypeId} (hts : P.underlying ts = some .string) (w : World) (s : ByteArray) :
    (convert ts t (.string s)).run P w = .ok (.slice (some ⟨w.heap.size, 0, none⟩) s.size (grownCap w s.size 0 e))
      (w.drew.alloc (.cells (bytesRow s (grownCap w s.size 0 e)) e ((bytesRow s (grownCap w s.size 0 e)).size, (bytesRow s (grownCap w s.size 0 e)).size + 1))) :=
  run_bytes_of_string w ts t e s hts hP.u hP.b
theorem og_bytes (w : World) (s : ByteArray) (e : TypeId) (base : Nat) (hb : base ≤ w.heap.size) (hs : s.size ≤ 140737488355328) : OG (w.drew.alloc (.cells (bytesRow s (grownCap w s.size 0 e)) e ((bytesRow s (grownCap w s.size 0 e)).size, (bytesRow s (grownCap w s.size 0 e)).size + 1)))
    base (.slice (some ⟨w.heap.size, 0, none⟩) s.size (grownCap w s.size 0 e)) s.data.toList := by
  have hsz : (bytesRow s (grownCap w s.size 0 e)).size = grownCap w s.size 0 e := by
    unfold bytesRow
    have := grownCap_ge w s.size 0 e
    have h2 : s.data.size = s.size := rfl
    simp [h2]; omega
  refine ⟨_, grownCap w s.size 0 e, by simp, by simpa using grownCap_ge w s.size 0 e, grownCap_le_maxLen _ _ _ _ (by unfold maxLen; omega), .inr ⟨w.heap.size, rfl, hb, by simp, fun j c hj => ?_, fun j h4 h5 => ?_⟩⟩
  · have hj2 := (List.getElem?_eq_some_iff.1 hj).1
    rw [cell_drewn, bytesRow_at s _ j (by simpa using hj2)]
    rw [← (List.getElem?_eq_some_iff.1 hj).2]; simp
  · rw [cell_drewn, frozen_drewn, Array.getElem?_eq_getElem (by rw [hsz]; exact h5)]
    refine ⟨rfl, ?_⟩
    rw [hsz]; simp; omega
end
end Go.Proofs.YtcdjmkfpclmbdaaGreatDoor

namespace Go.Proofs.YtcdjmkfpclmbdaaGreatDoor
open Go.RowKit

/-! ### Slices of integers -/
abbrev zv (s : Int) : Value := .int .i64 s
/-- The slice value '.slice A l.length cap' reads as the integers l, below block B. -/
def RZ (w : World) (B : Nat) (A : Option Addr) (l : List Int) : Prop :=
  0 < l.length → ∃ b off, A = some ⟨b, off, none⟩ ∧ b < B ∧ ∀ j s, l[j]? = some s → w.cell? ⟨b, off + j, none⟩ = some (zv s)
theorem RZ.nil {w : World} {B : Nat} {A : Option Addr} : RZ w B A [] := fun h => absurd h (by simp)
theorem RZ.below {w w' : World} {B : Nat} {A : Option Addr} {l : List Int} (h : RZ w B A l) (hb : Below B w w') : RZ w' B A l := fun hn => by
  obtain ⟨b, off, rfl, hlt, hc⟩ := h hn
  exact ⟨b, off, rfl, hlt, fun j c hj => (hb.cell (p := ⟨b, off + j, none⟩) hlt).trans (hc j c hj)⟩
theorem RZ.more {w : World} {B B' : Nat} {A : Option Addr} {l : List Int} (h : RZ w B A l) (hB : B ≤ B') : RZ w B' A l := fun hn => by
  obtain ⟨b, off, rfl, hlt, hc⟩ := h hn
  exact ⟨b, off, rfl, by omega, hc⟩
theorem RZ.at_ {w : World} {B : Nat} {A : Option Addr} {l : List Int} (h : RZ w B A l) {k : Nat} (hk : k < l.length) :
    ∃ b off c, A = some ⟨b, off, none⟩ ∧ b < B ∧ l[k]? = some c ∧ w.cell? ⟨b, off + k, none⟩ = some (zv c) := by
  obtain ⟨b, off, rfl, hb, hc⟩ := h (by omega)
  exact ⟨b, off, l[k], rfl, hb, List.getElem?_eq_getElem hk, hc k _ (List.getElem?_eq_getElem hk)⟩
theorem RI.toRZ {w : World} {B : Nat} {A : Option Addr} {l : List Nat} (h : RI w B A l) : RZ w B A (l.map Int.ofNat) := fun hn => by
  obtain ⟨b, off, rfl, hb, hc⟩ := h (by simpa using hn)
  refine ⟨b, off, rfl, hb, fun j s hj => ?_⟩
  rw [List.getElem?_map, Option.map_eq_some_iff] at hj
  obtain ⟨x, hx, rfl⟩ := hj
  exact hc j x hx
theorem RZ.toRI {w : World} {B : Nat} {A : Option Addr} {l : List Int} (h : RZ w B A l) (hp : ∀ x ∈ l, 0 ≤ x) : RI w B A (l.map Int.toNat) := fun hn => by
  obtain ⟨b, off, rfl, hb, hc⟩ := h (by simpa using hn)
  refine ⟨b, off, rfl, hb, fun j s hj => ?_⟩
  rw [List.getElem?_map, Option.map_eq_some_iff] at hj
  obtain ⟨x, hx, rfl⟩ := hj
  have := hc j x hx
  rw [this, zv, iv, Int.toNat_of_nonneg (hp x (List.mem_of_getElem? hx))]

/-! ### The table of powers of ten, and Itoa -/
theorem gPow : Tryz.prog.globalNamed "internal/strconv.uint64pow10" = some 2 := by kernel_rfl
def Pow (w : World) : Prop := Lib.TabIs Tryz.prog w "internal/strconv.uint64pow10" .u64 Lib.pow10Tab
theorem Pow.lt {w : World} (h : Pow w) : 2 < w.heap.size := by
  unfold Pow Lib.TabIs World.var? at h
  rw [gPow] at h
  rcases Nat.lt_or_ge 2 w.heap.size with h' | h'
  · exact h'
  · simp [Array.getElem?_eq_none h'] at h
theorem Pow.below {w w' : World} {B : Nat} (h : Pow w) (hb : Below B w w') (hB : 2 < B) : Pow w' := by
  unfold Pow Lib.TabIs World.var? at h ⊢
  rw [gPow] at h ⊢
  show (match w'.heap[2]? with | some (.cells cs _ _) => some cs | _ => none) = _
  rw [hb.block 2 hB]
  exact h
theorem itoa_dec (n : Nat) : Lib.decDigits n = dec n := by
  induction n using Nat.strongRecOn with
  | _ n ih =>
    by_cases h : n < 10
    · rw [dec_small h, Lib.decDigits, dif_pos h]
    · rw [dec_big h, Lib.decDigits, dif_neg h, ih (n / 10) (by omega)]
theorem below_growL (w : World) (k : Nat) (os : Array Obj) : Below w.heap.size w (Go.Sort.grow (w.drewN k) os) :=
  ⟨rfl, rfl, rfl, by show w.heap.size ≤ (w.heap ++ os).size; rw [Array.size_append]; omega, fun j hj => by show (w.heap ++ os)[j]? = w.heap[j]?; exact Array.getElem?_append_left hj⟩
theorem itoa_any (n : Nat) (w : World) (hn : n ≤ 9223372036854775807) (h : Pow w) :
    Calls Tryz.prog 72 #[.int .i64 (n : Int)] w fun e w' => e = .returned (.string ⟨(dec n).toArray⟩) ∧ Below w.heap.size w w' := by
  refine (Tryz.strconv_Itoa (n : Int) (by omega) (by omega) w h).mono ?_
  rintro e w' ⟨rfl, k, os, rfl⟩
  exact ⟨by rw [Lib.itoa_nonneg, itoa_dec], below_growL _ _ _⟩

/-! ### Make -/
/-- The name with ordinals, or the number of the first error. -/
def mkL (l : List Int) : ByteArray × Nat := if 8 < l.length then (⟨#[]⟩, 9) else if l.all isO then (⟨(tx (l.map Int.toNat)).toArray⟩, 0) else (⟨#[]⟩, 2)
theorem results_tmp2' {fn : Func} {t u : Tmp} (h : fn.results = #[.tmp t, .tmp u]) (tmps : Array Value) (P : Program) (w : World) :
    (results fn tmps).run P w = .ok (.tuple #[tmps.getD t undef, tmps.getD u undef]) w := by
  simp [results, h]
theorem tx_len {l : List Nat} (h : ∀ x ∈ l, x ≤ 999999) : (tx l).length ≤ 7 * l.length := by
  induction l with
  | nil => simp [tx]
  | cons a r ih =>
    have h1 := dec_l6 (h a (by simp))
    have h2 := ih (fun x hx => h x (by simp [hx]))
    cases r with
    | nil => rw [tx_one]; simp; omega
    | cons b r => rw [tx_cons, List.length_append, List.length_cons]; simp at h2 ⊢; omega
theorem isO_nat {n : Int} (h : isO n = true) : ∃ k : Nat, n = (k : Int) ∧ 1 ≤ k ∧ k ≤ 999999 := by
  simp only [isO, Bool.and_eq_true, decide_eq_true_eq] at h
  exact ⟨n.toNat, by omega, by omega, by omega⟩

end Go.Proofs.YtcdjmkfpclmbdaaGreatDoor

namespace Go.Proofs.YtcdjmkfpclmbdaaGreatDoor
open Go.RowKit

theorem mkL_good {o : List Nat} (h : Good o) : mkL (o.map Int.ofNat) = (⟨(tx o).toArray⟩, 0) := by
  unfold mkL
  rw [if_neg (by rw [List.length_map]; have := h.1; omega), if_pos]
  · have e : (o.map Int.ofNat).map Int.toNat = o := by
      rw [List.map_map]
      conv => rhs; rw [← List.map_id o]
      exact List.map_congr_left fun x _ => rfl
    rw [e]
  · rw [List.all_eq_true]
    intro y hy
    obtain ⟨x, hx, rfl⟩ := List.mem_map.1 hy
    have := h.2 x hx
    simp only [isO, Bool.and_eq_true, decide_eq_true_eq]
    exact ⟨by show (1 : Int) ≤ (x : Int); omega, by show (x : Int) ≤ 999999; omega⟩
theorem Good.take {o : List Nat} (h : Good o) (d : Nat) : Good (o.take d) :=
  ⟨by rw [List.length_take]; have := h.1; omega, fun x hx => h.2 x (List.mem_of_mem_take hx)⟩
/-- The ordinals in a block of a list. -/
theorem list_rz {w : World} {g : Nat} {o : List Nat} (h : Arr w g 0 (listV o)) (d B : Nat) (hd : d ≤ o.length) (hg : g < B) : RZ w B (some ⟨g, 0, none⟩) ((o.take d).map Int.ofNat) := fun _ => by
  refine ⟨g, 0, rfl, hg, fun j s hj => ?_⟩
  rw [List.getElem?_map, Option.map_eq_some_iff] at hj
  obtain ⟨x, hx, rfl⟩ := hj
  rw [List.getElem?_take] at hx
  split at hx
  · exact h.1 j _ (listV_at hx)
  · cases hx

end Go.Proofs.YtcdjmkfpclmbdaaGreatDoor

namespace Go.Proofs.YtcdjmkfpclmbdaaGreatDoor
open Go.RowKit

theorem parseL_good (s : List UInt8) : Good (parseL s).1 := ⟨parseL_len8 s, parseL_num s⟩
theorem validB_false {s : List UInt8} (h : validB s = false) : (parseL s).1 = [] := parseL_none (by simpa [validB] using h)

end Go.Proofs.YtcdjmkfpclmbdaaGreatDoor

namespace Go.Proofs.YtcdjmkfpclmbdaaGreatDoor
open Go.RowKit

theorem list_first (S : ByteArray) (hS : S.size ≤ 1000000) (o : List Nat) (ho : o = (parseL S.data.toList).1) : ∃ a b c d e f g i : Nat, listV o = [iv a, iv b, iv c, iv d, iv e, iv f, iv g, iv i, iv o.length] ∧
    (∀ w, Calls Tryz.prog 73 #[.string S] w fun r w' => r = .returned (.tuple #[.agg #[iv a, iv b, iv c, iv d, iv e, iv f, iv g, iv i, iv o.length], .bool (validB S.data.toList)]) ∧ Below w.heap.size w w') ∧ True := by
  subst ho
  obtain ⟨a, b, c, d, e, f, g, i, h⟩ := nine (parseL_len8 S.data.toList)
  refine ⟨a, b, c, d, e, f, g, i, h, fun w => ?_, trivial⟩
  have := list_any S w hS
  rw [h] at this
  exact this
end Go.Proofs.YtcdjmkfpclmbdaaGreatDoor

namespace Go.Proofs.YtcdjmkfpclmbdaaGreatDoor
open Go.RowKit

theorem shared_le : ∀ (x y : List Nat), sharedN x y ≤ x.length
  | [], _ => by simp [sharedN]
  | _ :: _, [] => by simp [sharedN]
  | a :: x, b :: y => by
    rw [sharedN]
    split
    · have := shared_le x y; simp; omega
    · simp
/-- Two lists in blocks of the caller's. -/
def SC (w : World) (G1 G2 : Nat) (x y : List Nat) (V : World) : Prop := Arr V G1 0 (listV x) ∧ Arr V G2 0 (listV y) ∧ Below w.heap.size w V
theorem SC.drew {w : World} {G1 G2 : Nat} {x y : List Nat} {V : World} (h : SC w G1 G2 x y V) : SC w G1 G2 x y V.drew := ⟨h.1, h.2.1, h.2.2.drew⟩
theorem listV_pos (x : List Nat) : 0 < (listV x).length := by unfold listV; simp; omega
theorem SC.below {w : World} {G1 G2 : Nat} {x y : List Nat} {V V' : World} (h : SC w G1 G2 x y V) (hb : Below V.heap.size V V') : SC w G1 G2 x y V' :=
  ⟨h.1.below hb (h.1.lt (listV_pos x)), h.2.1.below hb (h.2.1.lt (listV_pos y)), h.2.2.trans (hb.mono h.2.2.size)⟩
theorem sc_new {w W1 W2 : World} {x y : List Nat} {l1 l2 : Array Value} (h1 : l1 = (listV x).toArray) (h2 : l2 = (listV y).toArray) (t1 t2 : TypeId) (hb1 : Below w.heap.size w W1) (hb2 : Below (W1.alloc (.cells l1 t1)).heap.size (W1.alloc (.cells l1 t1)) W2) :
    SC w W1.heap.size W2.heap.size x y (W2.alloc (.cells l2 t2)) := by
  subst h1 h2
  refine ⟨((Arr.new W1 _ t1).below hb2 (by simp)).alloc _, Arr.new W2 _ t2, ?_⟩
  have h3 := (hb1.alloc hb1.size (.cells (listV x).toArray t1))
  exact (h3.trans (hb2.mono h3.size)).alloc (h3.trans (hb2.mono h3.size)).size _

end Go.Proofs.YtcdjmkfpclmbdaaGreatDoor

namespace Go.Proofs.YtcdjmkfpclmbdaaGreatDoor
open Go.RowKit

theorem shared_prefix : ∀ (x y : List Nat), sharedN x y = y.length ↔ y <+: x
  | [], [] => by simp [sharedN]
  | [], b :: y => by simp [sharedN]
  | a :: x, [] => by simp [sharedN]
  | a :: x, b :: y => by
    rw [sharedN, List.cons_prefix_cons]
    by_cases h : a = b
    · subst h
      rw [if_pos rfl, List.length_cons]
      have := shared_prefix x y
      constructor
      · intro e; exact ⟨rfl, this.1 (by omega)⟩
      · intro e; have := this.2 e.2; omega
    · rw [if_neg h, List.length_cons]
      constructor
      · intro e; omega
      · intro e; exact absurd e.1.symm h

set_option maxHeartbeats 4000000 in
set_option maxRecDepth 100000 in
theorem within_any (S T : ByteArray) (w : World) (hS : S.size ≤ 1000000) (hT : T.size ≤ 1000000) :
    Calls Tryz.prog 47 #[.string S, .string T] w fun e w' => e = .returned (.bool (withinB S.data.toList T.data.toList)) ∧ Below w.heap.size w w' := by
  obtain ⟨x, hx⟩ : ∃ x, x = (parseL S.data.toList).1 := ⟨_, rfl⟩
  obtain ⟨y, hy⟩ : ∃ y, y = (parseL T.data.toList).1 := ⟨_, rfl⟩
  obtain ⟨a0, a1, a2, a3, a4, a5, a6, a7, h9, hl, hf⟩ := list_first S hS x hx
  obtain ⟨b0, b1, b2, b3, b4, b5, b6, b7, k9, kl, kf⟩ := list_first T hT y hy
  have x8 : x.length ≤ 8 := by rw [hx]; exact parseL_len8 _
  have y8 : y.length ≤ 8 := by rw [hy]; exact parseL_len8 _
  have HX := Lib.hid hl
  have HY := Lib.hid kl
  have HY8 := Lib.hid y8
  have H9 : Hid (#[iv a0, iv a1, iv a2, iv a3, iv a4, iv a5, iv a6, iv a7, iv x.length] = (listV x).toArray) := Lib.hid (by rw [h9])
  have K9 : Hid (#[iv b0, iv b1, iv b2, iv b3, iv b4, iv b5, iv b6, iv b7, iv y.length] = (listV y).toArray) := Lib.hid (by rw [k9])
  have HI1 : Hid ((Tryz.prog.info? 99).map (·.size) = some (listV x).length) := Lib.hid (by rw [listV_length x8]; kernel_rfl)
  have HI2 : Hid ((Tryz.prog.info? 99).map (·.size) = some (listV y).length) := Lib.hid (by rw [listV_length y8]; kernel_rfl)
  obtain ⟨k, hk⟩ : ∃ k, k = sharedN x y := ⟨_, rfl⟩
  have HSH0 : Hid (∀ W, Calls Tryz.prog 74 #[.agg (listV x).toArray, .agg (listV y).toArray] W fun e w' => e = .returned (.int .i64 (k : Int)) ∧ Below W.heap.size W w') := Lib.hid fun W => by rw [hk]; exact shared_any x y W x8 y8
  obtain ⟨p, hp⟩ : ∃ p, p = validB S.data.toList := ⟨_, rfl⟩
  obtain ⟨q, hq⟩ : ∃ q, q = validB T.data.toList := ⟨_, rfl⟩
  have hres : withinB S.data.toList T.data.toList = (p && q && ((k : Int) == (y.length : Int))) := by
    unfold withinB
    rw [← hp, ← hq, ← hx, ← hy]
    congr 1
    rw [Bool.eq_iff_iff]
    simp only [decide_eq_true_eq, beq_iff_eq]
    rw [← shared_prefix, ← hk]
    omega
  rw [hres]
  rw [← hp] at HX
  rw [← hq] at HY
  clear hl kl hf kf h9 k9 hx hy hk x8 y8 hres hp hq
  have HSH : ∀ G1 G2, Hid (∀ W, SC w G1 G2 x y W → Calls Tryz.prog 74 #[.agg (listV x).toArray, .agg (listV y).toArray] W fun e w' => e = .returned (.int .i64 (k : Int)) ∧ SC w G1 G2 x y w') := fun G1 G2 => Lib.hid fun W hW => (HSH0.out W).mono fun e w' he => ⟨he.1, hW.below he.2⟩
  clear HSH0
  cases p with
  | true => cases q with
    | true =>
      simp only [Bool.true_and]
      go_enter Tryz.func47, Tryz.ntmps47
      go_wp2_with (first
        | (go_at_call 73; (with_reducible refine (HX.out _).mono ?_); rintro r W1 ⟨rfl, hb1⟩; have HB1 := Lib.hid hb1; clear hb1)
        | (go_at_call 73; (with_reducible refine (HY.out _).mono ?_); rintro r W2 ⟨rfl, hb2⟩; have HB2 := Lib.hid hb2; clear hb2))
      refine cwp_gen (SC w W1.heap.size W2.heap.size x y) (sc_new H9.out K9.out _ _ HB1.out HB2.out) ?_
      replace HSH := HSH W1.heap.size W2.heap.size
      generalize W1.heap.size = G1 at HSH ⊢
      generalize W2.heap.size = G2 at HSH ⊢
      intro V HS0
      refine wp_region_held_drew (S := SC w G1 G2 x y) (by kernel_rfl) (HS0.drew) (fun hHeld => ?_)
      refine wpAnyH_take (i := 0) (v := ?_) (ops_atL rfl) (by kernel_rfl) (by kernel_rfl) (by kernel_rfl) (fun _ _ _ h => h) (Or.inl ⟨by rfl, ?_⟩) hHeld ?_
      rotate_left
      · (intro W hSW; go_simp; try with_reducible rfl)
      try simp only [Act.put, List.setIfInBounds_toArray, List.set_cons_zero, List.set_cons_succ]
      refine wpAnyH_take (i := 1) (v := ?_) (ops_atL rfl) (by kernel_rfl) (by kernel_rfl) (by kernel_rfl) (fun _ _ _ h => h) (Or.inl ⟨by rfl, ?_⟩) hHeld ?_
      rotate_left
      · (intro W hSW; go_simp; try with_reducible rfl)
      try simp only [Act.put, List.setIfInBounds_toArray, List.set_cons_zero, List.set_cons_succ]
      refine wpAnyH_take (i := 2) (v := ?_) (ops_atL rfl) (by kernel_rfl) (by kernel_rfl) (by kernel_rfl) (fun _ _ _ h => h) (Or.inl ⟨by rfl, ?_⟩) hHeld ?_
      rotate_left
      · (intro W hSW; go_simp; try with_reducible rfl)
      try simp only [Act.put, List.setIfInBounds_toArray, List.set_cons_zero, List.set_cons_succ]
      refine wpAnyH_take (i := 3) (v := ?_) (ops_atL rfl) (by kernel_rfl) (by kernel_rfl) (by kernel_rfl) (fun _ _ _ h => h) (Or.inl ⟨by rfl, ?_⟩) hHeld ?_
      rotate_left
      · (intro W hSW; go_simp; try with_reducible rfl)
      try simp only [Act.put, List.setIfInBounds_toArray, List.set_cons_zero, List.set_cons_succ]
      refine wpAnyH_take (i := 4) (v := ?_) (ops_atL rfl) (by kernel_rfl) (by kernel_rfl) (by kernel_rfl) (fun _ _ _ h => h) (Or.inl ⟨by rfl, ?_⟩) hHeld ?_
      rotate_left
      · (intro W hSW; go_simp; try with_reducible rfl)
      try simp only [Act.put, List.setIfInBounds_toArray, List.set_cons_zero, List.set_cons_succ]
      refine wpAnyH_take (i := 5) (ops_atL rfl) (by kernel_rfl) (by kernel_rfl) (by kernel_rfl) (fun _ _ _ h => h) (yieldsIf_load_mid (by rfl) 99 _ rfl G1 0 rfl (listV x) _ (fun _ h => h.1.1) Tryz.underlying99 rfl HI1.out) hHeld ?_
      try simp only [Act.put, List.setIfInBounds_toArray, List.set_cons_zero, List.set_cons_succ]
      refine wpAnyH_take (i := 6) (ops_atL rfl) (by kernel_rfl) (by kernel_rfl) (by kernel_rfl) (fun _ _ _ h => h) (yieldsIf_load_mid (by rfl) 99 _ rfl G2 0 rfl (listV y) _ (fun _ h => h.2.1.1) Tryz.underlying99 rfl HI2.out) hHeld ?_
      try simp only [Act.put, List.setIfInBounds_toArray, List.set_cons_zero, List.set_cons_succ]
      refine wpAnyH_take (i := 8) (v := ?_) (ops_atL rfl) (by kernel_rfl) (by kernel_rfl) (by kernel_rfl) (fun _ _ _ h => h) (Or.inl ⟨by rfl, ?_⟩) hHeld ?_
      rotate_left
      · (intro W hSW; go_simp; try with_reducible rfl)
      try simp only [Act.put, List.setIfInBounds_toArray, List.set_cons_zero, List.set_cons_succ]
      refine wpAnyH_take (i := 9) (v := ?_) (ops_atL rfl) (by kernel_rfl) (by kernel_rfl) (by kernel_rfl) (fun _ _ _ h => h) (Or.inl ⟨by rfl, ?_⟩) hHeld ?_
      rotate_left
      · (intro W hSW; have c8 := hSW.2.1.cell0 (listV_depth HY8.out); go_simp; try with_reducible rfl)
      try simp only [Act.put, List.setIfInBounds_toArray, List.set_cons_zero, List.set_cons_succ]
      refine wpAnyH_ready (rs := [7]) (by kernel_rfl) (by simp) ?_
      refine AllReadyH.cons (ops_atL rfl) (fun K hK => ?_) AllReadyH.nil
      go_simp
      (go_at_call 74; refine (HSH.out _ hHeld).mono ?_; rintro e W' ⟨rfl, hb'⟩)
      refine hK.out _ _ hb' (fun hHeld => ?_)
      clear hK K
      try simp only [Act.put, List.setIfInBounds_toArray, List.set_cons_zero, List.set_cons_succ]
      refine wpAnyH_take (i := 10) (v := ?_) (ops_atL rfl) (by kernel_rfl) (by kernel_rfl) (by kernel_rfl) (fun _ _ _ h => h) (Or.inl ⟨by rfl, ?_⟩) hHeld ?_
      rotate_left
      · (intro W hSW; go_simp; try with_reducible rfl)
      try simp only [Act.put, List.setIfInBounds_toArray, List.set_cons_zero, List.set_cons_succ]
      refine wpAnyH_take (i := 11) (v := ?_) (ops_atL rfl) (by kernel_rfl) (by kernel_rfl) (by kernel_rfl) (fun _ _ _ h => h) (Or.inl ⟨by rfl, ?_⟩) hHeld ?_
      rotate_left
      · (intro W hSW; go_simp; try with_reducible rfl)
      try simp only [Act.put, List.setIfInBounds_toArray, List.set_cons_zero, List.set_cons_succ]
      refine wpAnyH_take (i := 12) (v := ?_) (ops_atL rfl) (by kernel_rfl) (by kernel_rfl) (by kernel_rfl) (fun _ _ _ h => h) (Or.inl ⟨by rfl, ?_⟩) hHeld ?_
      rotate_left
      · (intro W hSW; go_simp; try with_reducible rfl)
      try simp only [Act.put, List.setIfInBounds_toArray, List.set_cons_zero, List.set_cons_succ]
      refine wpAnyH_done (by kernel_rfl) ?_ _
      go_wp2
      go_ret
      exact ⟨rfl, hHeld.2.2⟩
    | false =>
      simp only [Bool.and_false, Bool.false_and]
      go_enter Tryz.func47, Tryz.ntmps47
      go_wp2_with (first
        | (go_at_call 73; (with_reducible refine (HX.out _).mono ?_); rintro r W1 ⟨rfl, hb1⟩; have HB1 := Lib.hid hb1; clear hb1)
        | (go_at_call 73; (with_reducible refine (HY.out _).mono ?_); rintro r W2 ⟨rfl, hb2⟩; have HB2 := Lib.hid hb2; clear hb2))
      refine cwp_gen (SC w W1.heap.size W2.heap.size x y) (sc_new H9.out K9.out _ _ HB1.out HB2.out) ?_
      generalize W1.heap.size = G1
      generalize W2.heap.size = G2
      intro V HS0
      refine wp_region_held_drew (S := SC w G1 G2 x y) (by kernel_rfl) (HS0.drew) (fun hHeld => ?_)
      refine wpAnyH_take (i := 0) (v := ?_) (ops_atL rfl) (by kernel_rfl) (by kernel_rfl) (by kernel_rfl) (fun _ _ _ h => h) (Or.inl ⟨by rfl, ?_⟩) hHeld ?_
      rotate_left
      · (intro W hSW; go_simp; try with_reducible rfl)
      try simp only [Act.put, List.setIfInBounds_toArray, List.set_cons_zero, List.set_cons_succ]
      refine wpAnyH_take (i := 1) (v := ?_) (ops_atL rfl) (by kernel_rfl) (by kernel_rfl) (by kernel_rfl) (fun _ _ _ h => h) (Or.inl ⟨by rfl, ?_⟩) hHeld ?_
      rotate_left
      · (intro W hSW; go_simp; try with_reducible rfl)
      try simp only [Act.put, List.setIfInBounds_toArray, List.set_cons_zero, List.set_cons_succ]
      refine wpAnyH_take (i := 2) (v := ?_) (ops_atL rfl) (by kernel_rfl) (by kernel_rfl) (by kernel_rfl) (fun _ _ _ h => h) (Or.inl ⟨by rfl, ?_⟩) hHeld ?_
      rotate_left
      · (intro W hSW; go_simp; try with_reducible rfl)
      try simp only [Act.put, List.setIfInBounds_toArray, List.set_cons_zero, List.set_cons_succ]
      refine wpAnyH_take (i := 3) (v := ?_) (ops_atL rfl) (by kernel_rfl) (by kernel_rfl) (by kernel_rfl) (fun _ _ _ h => h) (Or.inl ⟨by rfl, ?_⟩) hHeld ?_
      rotate_left
      · (intro W hSW; go_simp; try with_reducible rfl)
      try simp only [Act.put, List.setIfInBounds_toArray, List.set_cons_zero, List.set_cons_succ]
      refine wpAnyH_take (i := 4) (v := ?_) (ops_atL rfl) (by kernel_rfl) (by kernel_rfl) (by kernel_rfl) (fun _ _ _ h => h) (Or.inl ⟨by rfl, ?_⟩) hHeld ?_
      rotate_left
      · (intro W hSW; go_simp; try with_reducible rfl)
      try simp only [Act.put, List.setIfInBounds_toArray, List.set_cons_zero, List.set_cons_succ]
      refine wpAnyH_take (i := 5) (v := undef) (ops_atL rfl) (by kernel_rfl) (by kernel_rfl) (by kernel_rfl) (fun _ _ _ h => h) (Or.inr ⟨by rfl, rfl⟩) hHeld ?_
      try simp only [Act.put, List.setIfInBounds_toArray, List.set_cons_zero, List.set_cons_succ]
      refine wpAnyH_take (i := 6) (v := undef) (ops_atL rfl) (by kernel_rfl) (by kernel_rfl) (by kernel_rfl) (fun _ _ _ h => h) (Or.inr ⟨by rfl, rfl⟩) hHeld ?_
      try simp only [Act.put, List.setIfInBounds_toArray, List.set_cons_zero, List.set_cons_succ]
      refine wpAnyH_take (i := 7) (v := undef) (ops_atL rfl) (by kernel_rfl) (by kernel_rfl) (by kernel_rfl) (fun _ _ _ h => h) (Or.inr ⟨by rfl, rfl⟩) hHeld ?_
      try simp only [Act.put, List.setIfInBounds_toArray, List.set_cons_zero, List.set_cons_succ]
      refine wpAnyH_take (i := 8) (v := undef) (ops_atL rfl) (by kernel_rfl) (by kernel_rfl) (by kernel_rfl) (fun _ _ _ h => h) (Or.inr ⟨by rfl, rfl⟩) hHeld ?_
      try simp only [Act.put, List.setIfInBounds_toArray, List.set_cons_zero, List.set_cons_succ]
      refine wpAnyH_take (i := 9) (v := undef) (ops_atL rfl) (by kernel_rfl) (by kernel_rfl) (by kernel_rfl) (fun _ _ _ h => h) (Or.inr ⟨by rfl, rfl⟩) hHeld ?_
      try simp only [Act.put, List.setIfInBounds_toArray, List.set_cons_zero, List.set_cons_succ]
      refine wpAnyH_take (i := 10) (v := undef) (ops_atL rfl) (by kernel_rfl) (by kernel_rfl) (by kernel_rfl) (fun _ _ _ h => h) (Or.inr ⟨by rfl, rfl⟩) hHeld ?_
      try simp only [Act.put, List.setIfInBounds_toArray, List.set_cons_zero, List.set_cons_succ]
      refine wpAnyH_take (i := 11) (v := ?_) (ops_atL rfl) (by kernel_rfl) (by kernel_rfl) (by kernel_rfl) (fun _ _ _ h => h) (Or.inl ⟨by rfl, ?_⟩) hHeld ?_
      rotate_left
      · (intro W hSW; go_simp; try with_reducible rfl)
      try simp only [Act.put, List.setIfInBounds_toArray, List.set_cons_zero, List.set_cons_succ]
      refine wpAnyH_take (i := 12) (v := ?_) (ops_atL rfl) (by kernel_rfl) (by kernel_rfl) (by kernel_rfl) (fun _ _ _ h => h) (Or.inl ⟨by rfl, ?_⟩) hHeld ?_
      rotate_left
      · (intro W hSW; go_simp; try with_reducible rfl)
      try simp only [Act.put, List.setIfInBounds_toArray, List.set_cons_zero, List.set_cons_succ]
      refine wpAnyH_done (by kernel_rfl) ?_ _
      go_wp2
      go_ret
      exact ⟨rfl, hHeld.2.2⟩
  | false =>
      simp only [Bool.false_and]
      go_enter Tryz.func47, Tryz.ntmps47
      go_wp2_with (first
        | (go_at_call 73; (with_reducible refine (HX.out _).mono ?_); rintro r W1 ⟨rfl, hb1⟩; have HB1 := Lib.hid hb1; clear hb1)
        | (go_at_call 73; (with_reducible refine (HY.out _).mono ?_); rintro r W2 ⟨rfl, hb2⟩; have HB2 := Lib.hid hb2; clear hb2))
      refine cwp_gen (SC w W1.heap.size W2.heap.size x y) (sc_new H9.out K9.out _ _ HB1.out HB2.out) ?_
      generalize W1.heap.size = G1
      generalize W2.heap.size = G2
      intro V HS0
      refine wp_region_held_drew (S := SC w G1 G2 x y) (by kernel_rfl) (HS0.drew) (fun hHeld => ?_)
      refine wpAnyH_take (i := 0) (v := ?_) (ops_atL rfl) (by kernel_rfl) (by kernel_rfl) (by kernel_rfl) (fun _ _ _ h => h) (Or.inl ⟨by rfl, ?_⟩) hHeld ?_
      rotate_left
      · (intro W hSW; go_simp; try with_reducible rfl)
      try simp only [Act.put, List.setIfInBounds_toArray, List.set_cons_zero, List.set_cons_succ]
      refine wpAnyH_take (i := 1) (v := ?_) (ops_atL rfl) (by kernel_rfl) (by kernel_rfl) (by kernel_rfl) (fun _ _ _ h => h) (Or.inl ⟨by rfl, ?_⟩) hHeld ?_
      rotate_left
      · (intro W hSW; go_simp; try with_reducible rfl)
      try simp only [Act.put, List.setIfInBounds_toArray, List.set_cons_zero, List.set_cons_succ]
      refine wpAnyH_take (i := 2) (v := undef) (ops_atL rfl) (by kernel_rfl) (by kernel_rfl) (by kernel_rfl) (fun _ _ _ h => h) (Or.inr ⟨by rfl, rfl⟩) hHeld ?_
      try simp only [Act.put, List.setIfInBounds_toArray, List.set_cons_zero, List.set_cons_succ]
      refine wpAnyH_take (i := 3) (v := ?_) (ops_atL rfl) (by kernel_rfl) (by kernel_rfl) (by kernel_rfl) (fun _ _ _ h => h) (Or.inl ⟨by rfl, ?_⟩) hHeld ?_
      rotate_left
      · (intro W hSW; go_simp; try with_reducible rfl)
      try simp only [Act.put, List.setIfInBounds_toArray, List.set_cons_zero, List.set_cons_succ]
      refine wpAnyH_take (i := 4) (v := ?_) (ops_atL rfl) (by kernel_rfl) (by kernel_rfl) (by kernel_rfl) (fun _ _ _ h => h) (Or.inl ⟨by rfl, ?_⟩) hHeld ?_
      rotate_left
      · (intro W hSW; go_simp; try with_reducible rfl)
      try simp only [Act.put, List.setIfInBounds_toArray, List.set_cons_zero, List.set_cons_succ]
      refine wpAnyH_take (i := 5) (v := undef) (ops_atL rfl) (by kernel_rfl) (by kernel_rfl) (by kernel_rfl) (fun _ _ _ h => h) (Or.inr ⟨by rfl, rfl⟩) hHeld ?_
      try simp only [Act.put, List.setIfInBounds_toArray, List.set_cons_zero, List.set_cons_succ]
      refine wpAnyH_take (i := 6) (v := undef) (ops_atL rfl) (by kernel_rfl) (by kernel_rfl) (by kernel_rfl) (fun _ _ _ h => h) (Or.inr ⟨by rfl, rfl⟩) hHeld ?_
      try simp only [Act.put, List.setIfInBounds_toArray, List.set_cons_zero, List.set_cons_succ]
      refine wpAnyH_take (i := 7) (v := undef) (ops_atL rfl) (by kernel_rfl) (by kernel_rfl) (by kernel_rfl) (fun _ _ _ h => h) (Or.inr ⟨by rfl, rfl⟩) hHeld ?_
      try simp only [Act.put, List.setIfInBounds_toArray, List.set_cons_zero, List.set_cons_succ]
      refine wpAnyH_take (i := 8) (v := undef) (ops_atL rfl) (by kernel_rfl) (by kernel_rfl) (by kernel_rfl) (fun _ _ _ h => h) (Or.inr ⟨by rfl, rfl⟩) hHeld ?_
      try simp only [Act.put, List.setIfInBounds_toArray, List.set_cons_zero, List.set_cons_succ]
      refine wpAnyH_take (i := 9) (v := undef) (ops_atL rfl) (by kernel_rfl) (by kernel_rfl) (by kernel_rfl) (fun _ _ _ h => h) (Or.inr ⟨by rfl, rfl⟩) hHeld ?_
      try simp only [Act.put, List.setIfInBounds_toArray, List.set_cons_zero, List.set_cons_succ]
      refine wpAnyH_take (i := 10) (v := undef) (ops_atL rfl) (by kernel_rfl) (by kernel_rfl) (by kernel_rfl) (fun _ _ _ h => h) (Or.inr ⟨by rfl, rfl⟩) hHeld ?_
      try simp only [Act.put, List.setIfInBounds_toArray, List.set_cons_zero, List.set_cons_succ]
      refine wpAnyH_take (i := 11) (v := ?_) (ops_atL rfl) (by kernel_rfl) (by kernel_rfl) (by kernel_rfl) (fun _ _ _ h => h) (Or.inl ⟨by rfl, ?_⟩) hHeld ?_
      rotate_left
      · (intro W hSW; go_simp; try with_reducible rfl)
      try simp only [Act.put, List.setIfInBounds_toArray, List.set_cons_zero, List.set_cons_succ]
      refine wpAnyH_take (i := 12) (v := ?_) (ops_atL rfl) (by kernel_rfl) (by kernel_rfl) (by kernel_rfl) (fun _ _ _ h => h) (Or.inl ⟨by rfl, ?_⟩) hHeld ?_
      rotate_left
      · (intro W hSW; go_simp; try with_reducible rfl)
      try simp only [Act.put, List.setIfInBounds_toArray, List.set_cons_zero, List.set_cons_succ]
      refine wpAnyH_done (by kernel_rfl) ?_ _
      go_wp2
      go_ret
      exact ⟨rfl, hHeld.2.2⟩
end Go.Proofs.YtcdjmkfpclmbdaaGreatDoor

namespace Go.Proofs.YtcdjmkfpclmbdaaGreatDoor
open Go.RowKit

def cmpI : List Nat → List Nat → Int
  | [], [] => 0
  | [], _ :: _ => -1
  | _ :: _, [] => 1
  | a :: x, b :: y => if a < b then -1 else if b < a then 1 else cmpI x y
theorem getElem_drop {l : List Nat} {k x : Nat} (h : l[k]? = some x) : l.drop k = x :: l.drop (k + 1) := by
  obtain ⟨hk, rfl⟩ := List.getElem?_eq_some_iff.1 h
  exact List.drop_eq_getElem_cons hk

set_option maxHeartbeats 2000000 in
set_option maxRecDepth 100000 in
theorem sliceCmp_any (x y : List Nat) (A B : Option Addr) (c d M : Nat) (w : World) (hx : RI w M A x) (hy : RI w M B y) (hxl : x.length ≤ 1000) (hyl : y.length ≤ 1000) :
    Calls Tryz.prog 118 #[.slice A x.length c, .slice B y.length d] w fun e w' => e = .returned (.int .i64 (cmpI x y)) ∧ w' = w := by
  obtain ⟨R, hR⟩ : ∃ R, R = cmpI x y := ⟨_, rfl⟩
  rw [← hR]
  have HX := Lib.hid hx
  have HY := Lib.hid hy
  have HR := Lib.hid hR
  clear hx hy hR
  go_enter Tryz.func118, Tryz.ntmps118
  go_wp2
  go_loopw [11] (fun i wr => ∃ k : Nat, k ≤ x.length ∧ k ≤ y.length ∧ i = .int .i64 k ∧ R = cmpI (x.drop k) (y.drop k) ∧ wr = w) (fun i _ => x.length - (intOf i).toNat)
  case atStart => exact ⟨0, by omega, by omega, rfl, HR.out, rfl⟩
  case round =>
    obtain ⟨k, hk, hk2, rfl, hRk, rfl⟩ := hrel
    have HRK := Lib.hid hRk
    clear hRk
    by_cases hlt : k < x.length
    · have h1 : (k : Int) < (x.length : Int) := by omega
      obtain ⟨b, off, a, rfl, hb, ha, hc⟩ := HX.out.at_ hlt
      have HA := Lib.hid ha
      clear ha
      by_cases hlt2 : k < y.length
      · have h2 : ¬ (y.length : Int) ≤ (k : Int) := by omega
        have h2' : (k : Int) < (y.length : Int) := by omega
        obtain ⟨b2, off2, e, rfl, hb2, he, hc2⟩ := HY.out.at_ hlt2
        have hq := HRK.out
        rw [getElem_drop HA.out, getElem_drop he, cmpI] at hq
        clear he
        have HC : Hid (∀ W, Calls Tryz.prog 78 #[.int .i64 (a : Int), .int .i64 (e : Int)] W fun e' w' => e' = .returned (.int .i64 (if a < e then -1 else if e < a then 1 else 0)) ∧ w' = W) := Lib.hid fun W => by
          refine (Tryz.cmp_Compare_int (a : Int) (e : Int) W).mono ?_
          rintro e' w' ⟨rfl, rfl⟩
          refine ⟨?_, rfl⟩
          congr 3
          unfold Lib.compareInt
          split <;> split <;> first | rfl | omega | (split <;> first | rfl | omega) | skip
        by_cases hae : a < e
        · rw [if_pos hae] at hq
          have HC2 : Hid (∀ W, Calls Tryz.prog 78 #[.int .i64 (a : Int), .int .i64 (e : Int)] W fun e' w' => e' = .returned (.int .i64 (-1)) ∧ w' = W) := Lib.hid fun W => by have := HC.out W; rw [if_pos hae] at this; exact this
          subst hq
          clear HC hae HRK
          go_wp2_with (go_at_call 78; refine (HC2.out _).mono ?_; rintro e w' ⟨rfl, rfl⟩)
          go_ret
          exact ⟨rfl, rfl⟩
        · rw [if_neg hae] at hq
          by_cases hea : e < a
          · rw [if_pos hea] at hq
            have HC2 : Hid (∀ W, Calls Tryz.prog 78 #[.int .i64 (a : Int), .int .i64 (e : Int)] W fun e' w' => e' = .returned (.int .i64 1) ∧ w' = W) := Lib.hid fun W => by have := HC.out W; rw [if_neg hae, if_pos hea] at this; exact this
            subst hq
            clear HC hae hea HRK
            go_wp2_with (go_at_call 78; refine (HC2.out _).mono ?_; rintro e w' ⟨rfl, rfl⟩)
            go_ret
            exact ⟨rfl, rfl⟩
          · rw [if_neg hea] at hq
            have HC2 : Hid (∀ W, Calls Tryz.prog 78 #[.int .i64 (a : Int), .int .i64 (e : Int)] W fun e' w' => e' = .returned (.int .i64 0) ∧ w' = W) := Lib.hid fun W => by have := HC.out W; rw [if_neg hae, if_neg hea] at this; exact this
            have HQ := Lib.hid hq
            clear HC hae hea HRK hq
            go_wp2_with (go_at_call 78; refine (HC2.out _).mono ?_; rintro e w' ⟨rfl, rfl⟩)
            go_roundw
            case rel => exact ⟨k + 1, by omega, by omega, by go_num, HQ.out, trivial⟩
            case measure => simp [intOf] <;> omega
      · have h2 : (y.length : Int) ≤ (k : Int) := by omega
        have hq := HRK.out
        rw [getElem_drop HA.out, List.drop_eq_nil_of_le (show y.length ≤ k by omega), cmpI] at hq
        subst hq
        clear HRK
        go_wp2
        go_ret
        exact ⟨rfl, rfl⟩
    · have h1 : ¬ (k : Int) < (x.length : Int) := by omega
      have hkx : k = x.length := by omega
      have hq := HRK.out
      rw [List.drop_eq_nil_of_le (show x.length ≤ k by omega)] at hq
      by_cases hlt2 : x.length < y.length
      · have h2 : (x.length : Int) < (y.length : Int) := by omega
        have : ∃ b r, y.drop k = b :: r := by
          cases h : y.drop k with
          | nil => have := congrArg List.length h; rw [List.length_drop, List.length_nil] at this; omega
          | cons b r => exact ⟨b, r, rfl⟩
        obtain ⟨b, r, hbr⟩ := this
        rw [hbr, cmpI] at hq
        subst hq
        clear HRK hkx
        go_wp2
        go_ret
        exact ⟨rfl, rfl⟩
      · have h2 : ¬ (x.length : Int) < (y.length : Int) := by omega
        rw [List.drop_eq_nil_of_le (show y.length ≤ k by omega), cmpI] at hq
        subst hq
        clear HRK hkx
        go_wp2
        go_ret
        exact ⟨rfl, rfl⟩

theorem isNaN_any (S : ByteArray) (w : World) : Calls Tryz.prog 133 #[.string S] w fun e w' => e = .returned (.bool false) ∧ w' = w := by
  have h : (S.toList == S.toList) = true := by simp
  go_enter Tryz.func133, Tryz.ntmps133
  go_wp2
  go_ret
  exact ⟨rfl, rfl⟩
/-- The order of strings. -/
def strC (s t : List UInt8) : Int := if Op.bytesLess s t then -1 else if s = t then 0 else 1
theorem toList_data (S : ByteArray) : S.toList = S.data.toList := ByteArray.toList_eq S
theorem bytesLess_irrefl : ∀ s : List UInt8, Op.bytesLess s s = false
  | [] => rfl
  | a :: s => by rw [Op.bytesLess, bytesLess_irrefl s]; simp

set_option maxHeartbeats 1000000 in
set_option maxRecDepth 100000 in
theorem nameCmp_any (S T : ByteArray) (w : World) :
    Calls Tryz.prog 119 #[.string S, .string T] w fun e w' => e = .returned (.int .i64 (strC S.data.toList T.data.toList)) ∧ w' = w := by
  have e1 : (S.toList == T.toList) = decide (S.data.toList = T.data.toList) := by
    rw [toList_data, toList_data, Bool.eq_iff_iff]; simp
  obtain ⟨p, hp⟩ : ∃ p, p = Op.bytesLess S.toList T.toList := ⟨_, rfl⟩
  have hp2 : Op.bytesLess S.data.toList T.data.toList = p := by rw [hp, toList_data, toList_data]
  have HN : Hid (∀ (X : ByteArray) W, Calls Tryz.prog 133 #[.string X] W fun e w' => e = .returned (.bool false) ∧ w' = W) := Lib.hid isNaN_any
  unfold strC
  rw [hp2]
  cases p with
  | true =>
    have HE := Lib.hid e1
    clear e1 hp2
    have q1 : Op.bytesLess S.toList T.toList = true := hp.symm
    clear hp
    go_enter Tryz.func119, Tryz.ntmps119
    go_wp2_with (go_at_call 133; refine (HN.out _ _).mono ?_; rintro e w' ⟨rfl, rfl⟩)
    go_ret
    exact ⟨rfl, rfl⟩
  | false =>
    have q1 : Op.bytesLess S.toList T.toList = false := hp.symm
    clear hp hp2
    by_cases he : S.data.toList = T.data.toList
    · have q2 : (S.toList == T.toList) = true := by rw [e1, decide_eq_true he]
      have hr : (if (false : Bool) = true then (-1 : Int) else if S.data.toList = T.data.toList then 0 else 1) = 0 := by rw [if_neg (by decide), if_pos he]
      rw [hr]
      clear he hr e1
      have hgt : ∀ W, (binOp BinOp.gtr 26 (.string S) (.string T)).run Tryz.prog W = .ok (.bool false) W := fun W => by simp [binOp, Op.stringOp, q1, q2]
      go_enter Tryz.func119, Tryz.ntmps119
      go_wp2_with (go_at_call 133; refine (HN.out _ _).mono ?_; rintro e w' ⟨rfl, rfl⟩)
      go_ret
      exact ⟨rfl, rfl⟩
    · have q2 : (S.toList == T.toList) = false := by rw [e1, decide_eq_false he]
      have hr : (if (false : Bool) = true then (-1 : Int) else if S.data.toList = T.data.toList then 0 else 1) = 1 := by rw [if_neg (by decide), if_neg he]
      rw [hr]
      clear he hr e1
      have hgt : ∀ W, (binOp BinOp.gtr 26 (.string S) (.string T)).run Tryz.prog W = .ok (.bool true) W := fun W => by simp [binOp, Op.stringOp, q1, q2]
      go_enter Tryz.func119, Tryz.ntmps119
      go_wp2_with (go_at_call 133; refine (HN.out _ _).mono ?_; rintro e w' ⟨rfl, rfl⟩)
      go_ret
      exact ⟨rfl, rfl⟩
end Go.Proofs.YtcdjmkfpclmbdaaGreatDoor

namespace Go.Proofs.YtcdjmkfpclmbdaaGreatDoor
open Go.RowKit

/-- The order of names and other strings. -/
def compareB (s t : List UInt8) : Int := if validB s then (if validB t then cmpI (parseL s).1 (parseL t).1 else -1) else if validB t then 1 else strC s t
theorem list_ri {w : World} {g : Nat} {o : List Nat} (h : Arr w g 0 (listV o)) : RI w w.heap.size (some ⟨g, 0, none⟩) o := fun _ =>
  ⟨g, 0, rfl, h.lt (listV_pos o), fun j s hj => h.1 j _ (listV_at hj)⟩

set_option maxHeartbeats 4000000 in
set_option maxRecDepth 100000 in
theorem compare_any (S T : ByteArray) (w : World) (hS : S.size ≤ 1000000) (hT : T.size ≤ 1000000) :
    Calls Tryz.prog 79 #[.string S, .string T] w fun e w' => e = .returned (.int .i64 (compareB S.data.toList T.data.toList)) ∧ Below w.heap.size w w' := by
  obtain ⟨x, hx⟩ : ∃ x, x = (parseL S.data.toList).1 := ⟨_, rfl⟩
  obtain ⟨y, hy⟩ : ∃ y, y = (parseL T.data.toList).1 := ⟨_, rfl⟩
  obtain ⟨a0, a1, a2, a3, a4, a5, a6, a7, h9, hl, hf⟩ := list_first S hS x hx
  obtain ⟨b0, b1, b2, b3, b4, b5, b6, b7, k9, kl, kf⟩ := list_first T hT y hy
  have x8 : x.length ≤ 8 := by rw [hx]; exact parseL_len8 _
  have y8 : y.length ≤ 8 := by rw [hy]; exact parseL_len8 _
  have HX := Lib.hid hl
  have HY := Lib.hid kl
  have HX8 := Lib.hid x8
  have HY8 := Lib.hid y8
  have bx : (x.length : Int) ≤ 8 := by omega
  have bY : (y.length : Int) ≤ 8 := by omega
  have H9 : Hid (#[iv a0, iv a1, iv a2, iv a3, iv a4, iv a5, iv a6, iv a7, iv x.length] = (listV x).toArray) := Lib.hid (by rw [h9])
  have K9 : Hid (#[iv b0, iv b1, iv b2, iv b3, iv b4, iv b5, iv b6, iv b7, iv y.length] = (listV y).toArray) := Lib.hid (by rw [k9])
  obtain ⟨p, hp⟩ : ∃ p, p = validB S.data.toList := ⟨_, rfl⟩
  obtain ⟨q, hq⟩ : ∃ q, q = validB T.data.toList := ⟨_, rfl⟩
  unfold compareB
  rw [← hp, ← hq, ← hx, ← hy]
  rw [← hp] at HX
  rw [← hq] at HY
  have HSC0 : ∀ G1 G2, Hid (∀ W, SC w G1 G2 x y W → Calls Tryz.prog 118 #[.slice (some ⟨G1, 0, none⟩) x.length 8, .slice (some ⟨G2, 0, none⟩) y.length 8] W fun e w' => e = .returned (.int .i64 (cmpI x y)) ∧ SC w G1 G2 x y w') := fun G1 G2 => Lib.hid fun W hW => (sliceCmp_any x y _ _ 8 8 W.heap.size W (list_ri hW.1) (list_ri hW.2.1) (by omega) (by omega)).mono fun e w' he => ⟨he.1, by rw [he.2]; exact hW⟩
  have HNC : Hid (∀ W, Calls Tryz.prog 119 #[.string S, .string T] W fun e w' => e = .returned (.int .i64 (strC S.data.toList T.data.toList)) ∧ w' = W) := Lib.hid (nameCmp_any S T)
  clear hl kl hf kf h9 k9 hx hy x8 y8 hp hq
  cases p with
  | true => cases q with
    | true =>
      rw [if_pos rfl, if_pos rfl]
      go_enter Tryz.func79, Tryz.ntmps79
      go_wp2_with (first
        | (go_at_call 73; (with_reducible refine (HX.out _).mono ?_); rintro r W1 ⟨rfl, hb1⟩; have HB1 := Lib.hid hb1; clear hb1)
        | (go_at_call 73; (with_reducible refine (HY.out _).mono ?_); rintro r W2 ⟨rfl, hb2⟩; have HB2 := Lib.hid hb2; clear hb2))
      refine cwp_gen (SC w W1.heap.size W2.heap.size x y) (sc_new H9.out K9.out _ _ HB1.out HB2.out) ?_
      have HSC := HSC0 W1.heap.size W2.heap.size
      clear HSC0
      generalize W1.heap.size = G1 at HSC ⊢
      generalize W2.heap.size = G2 at HSC ⊢
      intro V HS0
      refine wp_region_held_drew (S := SC w G1 G2 x y) (by kernel_rfl) (HS0.drew) (fun hHeld => ?_)
      refine wpAnyH_take (i := 0) (v := ?_) (ops_atL rfl) (by kernel_rfl) (by kernel_rfl) (by kernel_rfl) (fun _ _ _ h => h) (Or.inl ⟨by rfl, ?_⟩) hHeld ?_
      rotate_left
      · (intro W hSW; go_simp; try with_reducible rfl)
      try simp only [Act.put, List.setIfInBounds_toArray, List.set_cons_zero, List.set_cons_succ]
      refine wpAnyH_take (i := 1) (v := ?_) (ops_atL rfl) (by kernel_rfl) (by kernel_rfl) (by kernel_rfl) (fun _ _ _ h => h) (Or.inl ⟨by rfl, ?_⟩) hHeld ?_
      rotate_left
      · (intro W hSW; go_simp; try with_reducible rfl)
      try simp only [Act.put, List.setIfInBounds_toArray, List.set_cons_zero, List.set_cons_succ]
      refine wpAnyH_take (i := 2) (v := ?_) (ops_atL rfl) (by kernel_rfl) (by kernel_rfl) (by kernel_rfl) (fun _ _ _ h => h) (Or.inl ⟨by rfl, ?_⟩) hHeld ?_
      rotate_left
      · (intro W hSW; have c8 := hSW.1.cell0 (listV_depth HX8.out); go_simp; try with_reducible rfl)
      try simp only [Act.put, List.setIfInBounds_toArray, List.set_cons_zero, List.set_cons_succ]
      refine wpAnyH_take (i := 3) (v := ?_) (ops_atL rfl) (by kernel_rfl) (by kernel_rfl) (by kernel_rfl) (fun _ _ _ h => h) (Or.inl ⟨by rfl, ?_⟩) hHeld ?_
      rotate_left
      · (intro W hSW; go_simp; try with_reducible rfl)
      try simp only [Act.put, List.setIfInBounds_toArray, List.set_cons_zero, List.set_cons_succ]
      refine wpAnyH_take (i := 4) (v := ?_) (ops_atL rfl) (by kernel_rfl) (by kernel_rfl) (by kernel_rfl) (fun _ _ _ h => h) (Or.inl ⟨by rfl, ?_⟩) hHeld ?_
      rotate_left
      · (intro W hSW; go_simp; try with_reducible rfl)
      try simp only [Act.put, List.setIfInBounds_toArray, List.set_cons_zero, List.set_cons_succ]
      refine wpAnyH_take (i := 5) (v := ?_) (ops_atL rfl) (by kernel_rfl) (by kernel_rfl) (by kernel_rfl) (fun _ _ _ h => h) (Or.inl ⟨by rfl, ?_⟩) hHeld ?_
      rotate_left
      · (intro W hSW; go_simp; try with_reducible rfl)
      try simp only [Act.put, List.setIfInBounds_toArray, List.set_cons_zero, List.set_cons_succ]
      refine wpAnyH_take (i := 6) (v := ?_) (ops_atL rfl) (by kernel_rfl) (by kernel_rfl) (by kernel_rfl) (fun _ _ _ h => h) (Or.inl ⟨by rfl, ?_⟩) hHeld ?_
      rotate_left
      · (intro W hSW; have c8 := hSW.2.1.cell0 (listV_depth HY8.out); go_simp; try with_reducible rfl)
      try simp only [Act.put, List.setIfInBounds_toArray, List.set_cons_zero, List.set_cons_succ]
      refine wpAnyH_take (i := 7) (v := ?_) (ops_atL rfl) (by kernel_rfl) (by kernel_rfl) (by kernel_rfl) (fun _ _ _ h => h) (Or.inl ⟨by rfl, ?_⟩) hHeld ?_
      rotate_left
      · (intro W hSW; go_simp; try with_reducible rfl)
      try simp only [Act.put, List.setIfInBounds_toArray, List.set_cons_zero, List.set_cons_succ]
      refine wpAnyH_ready (rs := [8]) (by kernel_rfl) (by simp) ?_
      refine AllReadyH.cons (ops_atL rfl) (fun K hK => ?_) AllReadyH.nil
      go_simp
      (go_at_call 118; refine (HSC.out _ hHeld).mono ?_; rintro e W' ⟨rfl, hb'⟩)
      refine hK.out _ _ hb' (fun hHeld => ?_)
      clear hK K
      try simp only [Act.put, List.setIfInBounds_toArray, List.set_cons_zero, List.set_cons_succ]
      refine wpAnyH_take (i := 9) (v := ?_) (ops_atL rfl) (by kernel_rfl) (by kernel_rfl) (by kernel_rfl) (fun _ _ _ h => h) (Or.inl ⟨by rfl, ?_⟩) hHeld ?_
      rotate_left
      · (intro W hSW; go_simp; try with_reducible rfl)
      try simp only [Act.put, List.setIfInBounds_toArray, List.set_cons_zero, List.set_cons_succ]
      refine wpAnyH_done (by kernel_rfl) ?_ _
      go_wp2
      go_ret
      exact ⟨rfl, hHeld.2.2⟩
    | false =>
      rw [if_pos rfl, if_neg (by decide)]
      clear HSC0
      go_enter Tryz.func79, Tryz.ntmps79
      go_wp2_with (first
        | (go_at_call 73; (with_reducible refine (HX.out _).mono ?_); rintro r W1 ⟨rfl, hb1⟩; have HB1 := Lib.hid hb1; clear hb1)
        | (go_at_call 73; (with_reducible refine (HY.out _).mono ?_); rintro r W2 ⟨rfl, hb2⟩; have HB2 := Lib.hid hb2; clear hb2))
      go_ret
      exact ⟨rfl, (sc_new H9.out K9.out _ _ HB1.out HB2.out).2.2⟩
  | false => cases q with
    | true =>
      rw [if_neg (by decide), if_pos rfl]
      clear HSC0
      go_enter Tryz.func79, Tryz.ntmps79
      go_wp2_with (first
        | (go_at_call 73; (with_reducible refine (HX.out _).mono ?_); rintro r W1 ⟨rfl, hb1⟩; have HB1 := Lib.hid hb1; clear hb1)
        | (go_at_call 73; (with_reducible refine (HY.out _).mono ?_); rintro r W2 ⟨rfl, hb2⟩; have HB2 := Lib.hid hb2; clear hb2))
      go_ret
      exact ⟨rfl, (sc_new H9.out K9.out _ _ HB1.out HB2.out).2.2⟩
    | false =>
      rw [if_neg (by decide), if_neg (by decide)]
      clear HSC0
      go_enter Tryz.func79, Tryz.ntmps79
      go_wp2_with (first
        | (go_at_call 73; (with_reducible refine (HX.out _).mono ?_); rintro r W1 ⟨rfl, hb1⟩; have HB1 := Lib.hid hb1; clear hb1)
        | (go_at_call 73; (with_reducible refine (HY.out _).mono ?_); rintro r W2 ⟨rfl, hb2⟩; have HB2 := Lib.hid hb2; clear hb2)
        | (go_at_call 119; refine (HNC.out _).mono ?_; rintro r W3 ⟨rfl, rfl⟩))
      go_ret
      exact ⟨rfl, (sc_new H9.out K9.out _ _ HB1.out HB2.out).2.2⟩
end Go.Proofs.YtcdjmkfpclmbdaaGreatDoor

namespace Go.Proofs.YtcdjmkfpclmbdaaGreatDoor
open Go.RowKit

theorem isO_false {n : Int} (h : isO n = false) : n < 1 ∨ 999999 < n := by
  simp only [isO, Bool.and_eq_false_iff, decide_eq_false_iff_not] at h
  omega

end Go.Proofs.YtcdjmkfpclmbdaaGreatDoor

namespace Go.Proofs.YtcdjmkfpclmbdaaGreatDoor
open Go.RowKit

theorem RI.take {w : World} {B : Nat} {A : Option Addr} {l : List Nat} (h : RI w B A l) (k : Nat) : RI w B A (l.take k) := fun hn => by
  obtain ⟨b, off, rfl, hb, hc⟩ := h (by rw [List.length_take] at hn; omega)
  refine ⟨b, off, rfl, hb, fun j s hj => hc j s ?_⟩
  rw [List.getElem?_take] at hj
  split at hj
  · exact hj
  · cases hj
theorem shared_nil_left (y : List Nat) : sharedN [] y = 0 := by cases y <;> rfl
theorem shared_nil_right (x : List Nat) : sharedN x [] = 0 := by cases x <;> rfl

end Go.Proofs.YtcdjmkfpclmbdaaGreatDoor

namespace Go.Proofs.YtcdjmkfpclmbdaaGreatDoor
open Go.RowKit

theorem cmpI_nil_left {y : List Nat} (h : 0 < y.length) : cmpI [] y = -1 := by
  cases y with
  | nil => simp at h
  | cons a r => rfl
theorem cmpI_nil_right {x : List Nat} (h : 0 < x.length) : cmpI x [] = 1 := by
  cases x with
  | nil => simp at h
  | cons a r => rfl

set_option maxHeartbeats 4000000 in
set_option maxRecDepth 100000 in
theorem refCompare_any (S T : ByteArray) (w : World) (hS : S.size ≤ 1000000) (hT : T.size ≤ 1000000) :
    Calls Tryz.prog 82 #[.string S, .string T] w fun e w' => e = .returned (.int .i64 (compareB S.data.toList T.data.toList)) ∧ Below w.heap.size w w' := by
  obtain ⟨R, hR⟩ : ∃ R, R = parseL S.data.toList := ⟨_, rfl⟩
  obtain ⟨Q, hQ⟩ : ∃ Q, Q = parseL T.data.toList := ⟨_, rfl⟩
  have HP := Lib.hid (refParse_any S w hS R hR)
  have HQ := Lib.hid (fun W => refParse_any T W hT Q hQ)
  have hxl : R.1.length ≤ 8 := by rw [hR]; exact parseL_len8 _
  have hyl : Q.1.length ≤ 8 := by rw [hQ]; exact parseL_len8 _
  have hc : compareB S.data.toList T.data.toList = if R.2.2 = 0 then (if Q.2.2 = 0 then cmpI R.1 Q.1 else -1) else if Q.2.2 = 0 then 1 else strC S.data.toList T.data.toList := by
    unfold compareB validB
    rw [← hR, ← hQ]
    simp only [beq_iff_eq]
  rw [hc]
  clear hR hQ hc
  obtain ⟨x, xa, xe⟩ := R
  obtain ⟨y, ya, ye⟩ := Q
  simp only at hxl hyl ⊢
  by_cases hxe : xe = 0
  · subst hxe
    rw [if_pos rfl]
    by_cases hye : ye = 0
    · subst hye
      rw [if_pos rfl]
      obtain ⟨C, hC⟩ : ∃ C, C = cmpI x y := ⟨_, rfl⟩
      rw [← hC]
      have HC := Lib.hid hC
      clear hC
      go_enter Tryz.func82, Tryz.ntmps82
      go_wp2_with (first
        | (go_at_call 75; (with_reducible refine HP.out.mono ?_); rintro e W1 ⟨v1, rfl, ho1, hb1⟩; have HB1 := Lib.hid hb1; (obtain ⟨A1, c1, hv1, hr1, hcap1, _⟩ := ho1.form); have R1 := Lib.hid hr1; subst hv1; clear ho1 hb1 hr1)
        | (go_at_call 75; (with_reducible refine (HQ.out W1).mono ?_); rintro e W2 ⟨v2, rfl, ho2, hb2⟩; have HB2 := Lib.hid hb2; (obtain ⟨A2, c2, hv2, hr2, _, _⟩ := ho2.form); have R2 := Lib.hid hr2; subst hv2; clear ho2 hb2 hr2))
      have hrx := R1.out.below HB2.out
      have hry := R2.out
      have HBB := Lib.hid (HB1.out.trans (HB2.out.mono HB1.out.size))
      clear R1 R2 HB1 HB2 HP HQ
      go_loopw [11] (fun i wr => ∃ k n : Nat, k ≤ x.length ∧ k ≤ y.length ∧ i = .int .i64 k ∧ C = cmpI (x.drop k) (y.drop k) ∧ wr = W2.drewN n) (fun i _ => y.length - (intOf i).toNat)
      case atStart => exact ⟨0, 0, by omega, by omega, rfl, HC.out, rfl⟩
      case round =>
        obtain ⟨k, n, hk, hk2, rfl, hCk, rfl⟩ := hrel
        have HCK := Lib.hid hCk
        clear hCk
        by_cases hlt : k < x.length
        · have h1 : (k : Int) < (x.length : Int) := by omega
          by_cases hlt2 : k < y.length
          · have h2 : (k : Int) < (y.length : Int) := by omega
            obtain ⟨b, off, p, rfl, _, hp, c0⟩ := hrx.at_ (k := k) (by omega)
            obtain ⟨b2, off2, q, rfl, _, hq, c1⟩ := hry.at_ hlt2
            have hcq := HCK.out
            rw [getElem_drop hp, getElem_drop hq, cmpI] at hcq
            clear hp hq hrx hry HCK
            by_cases hpq : p < q
            · rw [if_pos hpq] at hcq
              have g1 : (p : Int) < (q : Int) := by omega
              subst hcq
              clear HC
              go_wp2_with fail
              go_quiet (fail)
              go_wp2
              go_ret
              exact ⟨rfl, below_drewN (below_drewN HBB.out _) _⟩
            · rw [if_neg hpq] at hcq
              have g1 : ¬ (p : Int) < (q : Int) := by omega
              by_cases hqp : q < p
              · rw [if_pos hqp] at hcq
                have g2 : (q : Int) < (p : Int) := by omega
                subst hcq
                clear HC
                go_wp2_with fail
                go_quiet (fail)
                go_wp2_with fail
                go_quiet (fail)
                go_wp2
                go_ret
                exact ⟨rfl, by first | exact below_drewN (below_drewN HBB.out _) _ | exact below_drewN (below_drewN (below_drewN HBB.out _) _) _⟩
              · rw [if_neg hqp] at hcq
                have g2 : ¬ (q : Int) < (p : Int) := by omega
                have HCQ := Lib.hid hcq
                clear hcq
                go_wp2_with fail
                go_quiet (fail)
                go_wp2_with fail
                go_quiet (fail)
                go_wp2
                go_roundw
                case rel => exact ⟨k + 1, _, by omega, by omega, by go_num, HCQ.out, rfl⟩
                case measure => simp [intOf] <;> omega
          · have h2 : ¬ (k : Int) < (y.length : Int) := by omega
            have h3 : ¬ (x.length : Int) < (y.length : Int) := by omega
            have h4 : (y.length : Int) < (x.length : Int) := by omega
            have hcq := HCK.out
            rw [List.drop_eq_nil_of_le (show y.length ≤ k by omega), cmpI_nil_right (by rw [List.length_drop]; omega)] at hcq
            subst hcq
            clear HC HCK hrx hry
            go_wp2
            go_ret
            exact ⟨rfl, below_drewN HBB.out _⟩
        · have h1 : ¬ (k : Int) < (x.length : Int) := by omega
          have hcq := HCK.out
          by_cases hlt2 : x.length < y.length
          · have h3 : (x.length : Int) < (y.length : Int) := by omega
            rw [List.drop_eq_nil_of_le (show x.length ≤ k by omega), cmpI_nil_left (by rw [List.length_drop]; omega)] at hcq
            subst hcq
            clear HC HCK hrx hry
            go_wp2
            go_ret
            exact ⟨rfl, below_drewN HBB.out _⟩
          · have h3 : ¬ (x.length : Int) < (y.length : Int) := by omega
            have h4 : ¬ (y.length : Int) < (x.length : Int) := by omega
            rw [List.drop_eq_nil_of_le (show x.length ≤ k by omega), List.drop_eq_nil_of_le (show y.length ≤ k by omega), cmpI] at hcq
            subst hcq
            clear HC HCK hrx hry
            go_wp2
            go_ret
            exact ⟨rfl, below_drewN HBB.out _⟩
    · have q : ((ye : Int) != 0) = true := by simp; omega
      rw [if_neg hye]
      clear hye
      go_enter Tryz.func82, Tryz.ntmps82
      go_wp2_with (first
        | (go_at_call 75; (with_reducible refine HP.out.mono ?_); rintro e W1 ⟨v1, rfl, ho1, hb1⟩; have HB1 := Lib.hid hb1; (obtain ⟨A1, c1, hv1, _⟩ := ho1.form); subst hv1; clear ho1 hb1)
        | (go_at_call 75; (with_reducible refine (HQ.out W1).mono ?_); rintro e W2 ⟨v2, rfl, ho2, hb2⟩; have HB2 := Lib.hid hb2; (obtain ⟨A2, c2, hv2, _⟩ := ho2.form); subst hv2; clear ho2 hb2))
      go_ret
      exact ⟨rfl, HB1.out.trans (HB2.out.mono HB1.out.size)⟩
  · have q : ((xe : Int) != 0) = true := by simp; omega
    have q' : ((xe : Int) == 0) = false := by simp; omega
    rw [if_neg hxe]
    by_cases hye : ye = 0
    · subst hye
      rw [if_pos rfl]
      clear hxe
      go_enter Tryz.func82, Tryz.ntmps82
      go_wp2_with (first
        | (go_at_call 75; (with_reducible refine HP.out.mono ?_); rintro e W1 ⟨v1, rfl, ho1, hb1⟩; have HB1 := Lib.hid hb1; (obtain ⟨A1, c1, hv1, _⟩ := ho1.form); subst hv1; clear ho1 hb1)
        | (go_at_call 75; (with_reducible refine (HQ.out W1).mono ?_); rintro e W2 ⟨v2, rfl, ho2, hb2⟩; have HB2 := Lib.hid hb2; (obtain ⟨A2, c2, hv2, _⟩ := ho2.form); subst hv2; clear ho2 hb2))
      go_ret
      exact ⟨rfl, HB1.out.trans (HB2.out.mono HB1.out.size)⟩
    · have p : ((ye : Int) == 0) = false := by simp; omega
      rw [if_neg hye]
      clear hxe hye
      have e1 : (S.toList == T.toList) = decide (S.data.toList = T.data.toList) := by
        rw [toList_data, toList_data, Bool.eq_iff_iff]; simp
      unfold strC
      rw [← toList_data S, ← toList_data T] at e1 ⊢
      by_cases hlt : Op.bytesLess S.toList T.toList = true
      · rw [if_pos hlt]
        clear e1
        go_enter Tryz.func82, Tryz.ntmps82
        go_wp2_with (first
          | (go_at_call 75; (with_reducible refine HP.out.mono ?_); rintro e W1 ⟨v1, rfl, ho1, hb1⟩; have HB1 := Lib.hid hb1; (obtain ⟨A1, c1, hv1, _⟩ := ho1.form); subst hv1; clear ho1 hb1)
          | (go_at_call 75; (with_reducible refine (HQ.out W1).mono ?_); rintro e W2 ⟨v2, rfl, ho2, hb2⟩; have HB2 := Lib.hid hb2; (obtain ⟨A2, c2, hv2, _⟩ := ho2.form); subst hv2; clear ho2 hb2))
        go_ret
        exact ⟨rfl, HB1.out.trans (HB2.out.mono HB1.out.size)⟩
      · rw [if_neg hlt]
        have q1 : Op.bytesLess S.toList T.toList = false := by simpa using hlt
        by_cases he : S.toList = T.toList
        · rw [if_pos he]
          have q2 : (S.toList == T.toList) = true := by rw [he]; simp
          have hgt : ∀ W, (binOp BinOp.gtr 9 (.string S) (.string T)).run Tryz.prog W = .ok (.bool false) W := fun W => by simp [binOp, Op.stringOp, q1, q2]
          clear hlt he e1
          go_enter Tryz.func82, Tryz.ntmps82
          go_wp2_with (first
            | (go_at_call 75; (with_reducible refine HP.out.mono ?_); rintro e W1 ⟨v1, rfl, ho1, hb1⟩; have HB1 := Lib.hid hb1; (obtain ⟨A1, c1, hv1, _⟩ := ho1.form); subst hv1; clear ho1 hb1)
            | (go_at_call 75; (with_reducible refine (HQ.out W1).mono ?_); rintro e W2 ⟨v2, rfl, ho2, hb2⟩; have HB2 := Lib.hid hb2; (obtain ⟨A2, c2, hv2, _⟩ := ho2.form); subst hv2; clear ho2 hb2))
          go_ret
          exact ⟨rfl, HB1.out.trans (HB2.out.mono HB1.out.size)⟩
        · rw [if_neg he]
          have q2 : (S.toList == T.toList) = false := by simpa using he
          have hgt : ∀ W, (binOp BinOp.gtr 9 (.string S) (.string T)).run Tryz.prog W = .ok (.bool true) W := fun W => by simp [binOp, Op.stringOp, q1, q2]
          clear hlt he e1
          go_enter Tryz.func82, Tryz.ntmps82
          go_wp2_with (first
            | (go_at_call 75; (with_reducible refine HP.out.mono ?_); rintro e W1 ⟨v1, rfl, ho1, hb1⟩; have HB1 := Lib.hid hb1; (obtain ⟨A1, c1, hv1, _⟩ := ho1.form); subst hv1; clear ho1 hb1)
            | (go_at_call 75; (with_reducible refine (HQ.out W1).mono ?_); rintro e W2 ⟨v2, rfl, ho2, hb2⟩; have HB2 := Lib.hid hb2; (obtain ⟨A2, c2, hv2, _⟩ := ho2.form); subst hv2; clear ho2 hb2))
          go_ret
          exact ⟨rfl, HB1.out.trans (HB2.out.mono HB1.out.size)⟩
end Go.Proofs.YtcdjmkfpclmbdaaGreatDoor
