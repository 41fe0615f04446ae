/- The values of the reference, as cells; the walks of 'short', 'most' and 'write'. -/
import Derived.Test.YtfjigooahdfbpaaKnown
set_option linter.unusedVariables false
namespace Go.Proofs.Ytfjigooahdfbpaa
open Go.RowKit

/-- A value of the reference. -/
structure V where
  kind : UInt8
  n : Int
  is : Bool
  s : ByteArray
  most : Int

/-- Its numbers fit their kinds, and its text is not longer than memory. -/
structure V.Ok (v : V) : Prop where
  n0 : -9223372036854775808 ≤ v.n
  n1 : v.n ≤ 9223372036854775807
  m0 : -9223372036854775808 ≤ v.most
  m1 : v.most ≤ 9223372036854775807
  s1 : v.s.size ≤ 9223372036854775807

/-- Its five cells. -/
def V.cells (v : V) : List Value := [.int .u8 (v.kind.toNat : Int), .int .i64 v.n, .bool v.is, .string v.s, .int .i64 v.most]
theorem V.cells_length (v : V) : v.cells.length = 5 := rfl

/-- The slice value '.slice A l.length cap' reads as the values l, below block B. -/
def RV (w : World) (B : Nat) (A : Option Addr) (l : List V) : Prop :=
  0 < l.length → ∃ b off, A = some ⟨b, off, none⟩ ∧ b < B ∧ ∀ j v, l[j]? = some v → ∀ i u, v.cells[i]? = some u → w.cell? ⟨b, off + j * 5 + i, none⟩ = some u

theorem RV.nil {w : World} {B : Nat} {A : Option Addr} : RV w B A [] := fun h => absurd h (by simp)
theorem RV.keep {w w' : World} {B : Nat} {A : Option Addr} {l : List V} (h : RV w B A l) (hk : ∀ p : Addr, p.block < B → w'.cell? p = w.cell? p) : RV w' B A l := fun hn => by
  obtain ⟨b, off, rfl, hb, hc⟩ := h hn
  exact ⟨b, off, rfl, hb, fun j v hj i u hu => (hk _ hb).trans (hc j v hj i u hu)⟩
theorem RV.more {w : World} {B B' : Nat} {A : Option Addr} {l : List V} (h : RV w B A l) (hB : B ≤ B') : RV w B' A l := fun hn => by
  obtain ⟨b, off, rfl, hb, hc⟩ := h hn
  exact ⟨b, off, rfl, by omega, hc⟩
theorem RV.below {w w' : World} {B : Nat} {A : Option Addr} {l : List V} (h : RV w B A l) (hb : Below B w w') : RV w' B A l := h.keep fun _ hp => hb.cell hp
theorem RV.at_ {w : World} {B : Nat} {A : Option Addr} {l : List V} (h : RV w B A l) {k : Nat} (hk : k < l.length) :
    ∃ b off v, A = some ⟨b, off, none⟩ ∧ b < B ∧ l[k]? = some v ∧ w.cell? ⟨b, off + k * 5, none⟩ = some (.int .u8 (v.kind.toNat : Int)) ∧ w.cell? ⟨b, off + k * 5 + 1, none⟩ = some (.int .i64 v.n) ∧
      w.cell? ⟨b, off + k * 5 + 2, none⟩ = some (.bool v.is) ∧ w.cell? ⟨b, off + k * 5 + 3, none⟩ = some (.string v.s) ∧ w.cell? ⟨b, off + k * 5 + 4, none⟩ = some (.int .i64 v.most) := by
  obtain ⟨b, off, rfl, hb, hc⟩ := h (by omega)
  have hv := List.getElem?_eq_getElem hk
  exact ⟨b, off, l[k], rfl, hb, hv, hc k _ hv 0 _ rfl, hc k _ hv 1 _ rfl, hc k _ hv 2 _ rfl, hc k _ hv 3 _ rfl, hc k _ hv 4 _ rfl⟩

def vcells (l : List V) : List Value := l.flatMap V.cells
theorem vcells_length (l : List V) : (vcells l).length = l.length * 5 := by
  induction l with
  | nil => rfl
  | cons v r ih => simp only [vcells, List.flatMap_cons, List.length_append, V.cells_length] at ih ⊢; rw [ih, List.length_cons]; omega
theorem vcells_append (l m : List V) : vcells (l ++ m) = vcells l ++ vcells m := by simp [vcells]
theorem vcells_at (l : List V) : ∀ (j i : Nat) (v : V) (u : Value), l[j]? = some v → v.cells[i]? = some u → (vcells l)[j * 5 + i]? = some u := by
  induction l with
  | nil => intro j i v u h; simp at h
  | cons x r ih =>
    intro j i v u hj hi
    have hi5 : i < 5 := by have := (List.getElem?_eq_some_iff.1 hi).1; simpa [V.cells_length] using this
    simp only [vcells, List.flatMap_cons]
    cases j with
    | zero =>
      simp at hj; subst hj
      rw [List.getElem?_append_left (by rw [V.cells_length]; omega), show 0 * 5 + i = i by omega]; exact hi
    | succ j =>
      rw [List.getElem?_append_right (by rw [V.cells_length]; omega), V.cells_length, show (j + 1) * 5 + i - 5 = j * 5 + i by omega]
      exact ih j i v u (by simpa using hj) hi

/-- The slice value v owns the values l. -/
def OV (w : World) (base : Nat) (v : Value) (l : List V) : Prop := w.ownsRow base 56 5 v l.length (vcells l)

theorem OV.nil (w : World) (base : Nat) : OV w base (.slice none 0 0) [] := World.ownsRow_nil w base _ 5
theorem OV.lt {w : World} {base : Nat} {v : Value} {l : List V} (h : OV w base v l) : ∀ k, v.ownBlock = some k → base ≤ k ∧ k < w.heap.size := World.ownsRow.lt h
theorem OV.form {w : World} {base : Nat} {v : Value} {l : List V} (h : OV w base v l) : ∃ A cap, v = .slice A l.length cap ∧ RV w w.heap.size A l ∧ l.length ≤ cap ∧ cap ≤ maxLen := by
  have hl := World.ownsRow.lt h
  have hc := @World.ownsRow.cells w base 56 5 v l.length (vcells l) h
  rcases h.2 with ⟨rfl, h0⟩ | ⟨g, cap, cur, rfl, _, _, h1, h2, _⟩
  · have : l = [] := List.eq_nil_of_length_eq_zero h0
    subst this
    exact ⟨none, 0, rfl, RV.nil, Nat.le_refl _, Nat.zero_le _⟩
  · refine ⟨_, cap, rfl, fun _ => ⟨g, 0, rfl, (hl g rfl).2, fun j v hj i u hu => ?_⟩, h1, h2⟩
    have := hc (g := g) rfl (j * 5 + i) u (vcells_at l j i v u hj hu)
    rw [Addr.add_lit] at this
    rw [show 0 + j * 5 + i = 0 + (j * 5 + i) by omega]; exact this

theorem vinfo : (Try.prog.info? 56).map (fun i => (i.zero, i.size, i.bytes)) = some (some (.agg #[.int .u8 0, .int .i64 0, .bool false, .string ByteArray.empty, .int .i64 0]), 5, 48) := by kernel_rfl

theorem V.oneCell (v : V) : ∀ u ∈ v.cells, u.oneCell' = true := by
  intro u hu
  simp only [V.cells, List.mem_cons, List.not_mem_nil, or_false] at hu
  rcases hu with rfl | rfl | rfl | rfl | rfl <;> rfl

/-- 'append(v, x)', x a value: it lies in a new block of its own. -/
theorem wpList_pushV {ops : Array Oper} {rest : List Oper} {o : Oper} {a : Act} {Q : Exit → Act → World → Prop} {w : World} (hgd : o.guard = none) (s x : Operand)
    (ho : o.op = .call { callee := .builtin .append, args := #[s, x], argTypes := #[36, 36] }) (base : Nat) (v : Value) (l : List V) (hs : a.eval s = v) (cs : Array Value) (u : V) (hu : cs = u.cells.toArray) (hown : OV w base v l)
    (G : Nat) (hx : a.eval x = .slice (some ⟨G, 0, none⟩) 1 1) (hG : w.heap.size = G) (hlen : l.length + 1 ≤ 1000000) (hbase : base ≤ w.heap.size)
    (h : ∀ v' w', OV w' base v' (l ++ [u]) → Grew w w' v v' → wpList Try.prog ops Q rest (a.put o.dst v') w') : wpList Try.prog ops Q (o :: rest) a (w.alloc (.cells cs 56)) := by
  subst hu
  subst hG
  obtain ⟨i, hi, hz, hs5, hb⟩ := info_parts vinfo
  obtain ⟨v', w', h1, h2, h3, _, h5⟩ := run_append_own_at (P := Try.prog) (w.alloc (.cells u.cells.toArray 56)) base 36 o.type 56 i _ 5 48 Try.underlying36 hi hz hs5 hb rfl (by omega) v l.length (vcells l) (World.ownsRow.alloc hown _) ⟨w.heap.size, 0, none⟩ 1 1 u.cells rfl
    (fun j x hx => by rw [Addr.add_lit, World.cell?_alloc_at _ _ _ _ rfl, Nat.zero_add]; simpa using hx) (V.oneCell u) (by unfold maxLen; omega) (by omega) (by simp; omega)
  refine wpList_append_of hgd s x _ _ ho hs hx h1 (h v' w' ?_ (Grew.alloc ⟨h3, h5.imp id fun e => ⟨_, e, Nat.le_refl _⟩⟩))
  unfold OV; rw [vcells_append]; simpa [vcells] using h2

/-- A value with a text of at most 200 bytes. -/
def V.cut (v : V) : V := { v with s := v.s.extract 0 (min v.s.size 200) }
def shortL (l : List V) : List V := (l.map V.cut).take 40
theorem OV.alloc {w : World} {base : Nat} {v : Value} {l : List V} (h : OV w base v l) (o : Obj) : OV (w.alloc o) base v l := World.ownsRow.alloc h o

theorem take_step {α : Type} {l : List α} {k : Nat} {v : α} (h : l[k]? = some v) : l.take (k + 1) = l.take k ++ [v] := by rw [List.take_add_one, h]; rfl

set_option maxHeartbeats 1000000 in
set_option maxRecDepth 100000 in
theorem short_any (A : Option Addr) (l : List V) (c : Nat) (w : World) (hr : RV w w.heap.size A l) (hl : l.length ≤ 9223372036854775807) (hok : ∀ v ∈ l, V.Ok v) :
    Calls Try.prog 18 #[.slice A l.length c] w fun e w' => ∃ v', e = .returned v' ∧ OV w' w.heap.size v' (shortL l) ∧ Below w.heap.size w w' := by
  go_enter Try.func18, Try.ntmps18
  go_wp2
  go_loopw [3, 4] (fun u i wr => ∃ k : Nat, k ≤ l.length ∧ k ≤ 40 ∧ i = .int .i64 k ∧ OV wr w.heap.size u ((l.map V.cut).take k) ∧ Below w.heap.size w wr ∧ Newer w (.slice none 0 0) u) (fun _ i _ => 40 - (intOf i).toNat)
  case atStart => exact ⟨0, by omega, by omega, rfl, OV.nil _ _, Below.refl _ _, .inl rfl⟩
  case round =>
    obtain ⟨k, hk, hk40, rfl, ho, hb, hn⟩ := hrel
    have HR := Lib.hid (hr.below hb)
    have HO := Lib.hid ho
    have HB := Lib.hid hb
    have HN := Lib.hid hn
    have HK := Lib.hid hok
    clear hr ho hb hn hok
    by_cases hlt : k < l.length
    · by_cases h40 : k < 40
      · obtain ⟨b, off, v, rfl, hbb, hv, h0, h1, h2, h3, h4⟩ := HR.out.at_ hlt
        have HV := Lib.hid hv
        have hvo := HK.out v (List.mem_of_getElem? hv)
        have hsz : (0 : Int) ≤ (v.s.size : Int) := by omega
        have hsz2 := hvo.s1
        have hbs := HB.out.size
        clear hv
        go_wp2_with (at_builtin; refine wpList_pushV rfl (.tmp 28) (.tmp 30) rfl w.heap.size _ ((l.map V.cut).take k) rfl _ v.cut ?hu ?ho _ rfl ?hG ?hlen ?hbase ?_)
        case hu =>
          have e : (min (v.s.size : Int) 200).toNat = min v.s.size 200 := by omega
          rw [e]; rfl
        case ho => exact HO.out.alloc _
        case hG => simp
        case hlen => simp; omega
        case hbase => simp; omega
        intro v1 w1 ho1 hg1
        have b1 := ((Below.refl w.heap.size wr).alloc hbs _).trans (hg1.below (by simp; omega) (fun k hk => (HO.out.lt k hk).1))
        have n1 : Newer w (.slice none 0 0) v1 := HN.out.trans (hg1.newer) (by simp; omega)
        have HO1 := Lib.hid ho1
        have HB1 := Lib.hid b1
        have HN1 := Lib.hid n1
        clear ho1 hg1 b1 n1
        go_wp2
        go_roundw
        case rel =>
          refine ⟨k + 1, by omega, by omega, by go_num, ?_, HB.out.trans HB1.out, HN1.out⟩
          rw [take_step (v := v.cut) (by rw [List.getElem?_map, HV.out]; rfl)]
          exact HO1.out
        case measure => simp [intOf] <;> omega
      · have he : shortL l = (l.map V.cut).take k := by rw [shortL, show k = 40 by omega]
        have HE := Lib.hid he
        clear he
        go_wp2
        go_ret
        exact ⟨u3, rfl, by rw [HE.out]; exact HO.out, HB.out⟩
    · have he : shortL l = (l.map V.cut).take k := by rw [shortL, List.take_of_length_le (by simp; omega), List.take_of_length_le (by simp; omega)]
      have HE := Lib.hid he
      clear he
      go_wp2
      go_ret
      exact ⟨u3, rfl, by rw [HE.out]; exact HO.out, HB.out⟩

/-- What a Writer has written, and its error, when values have been written. -/
def wstep (s : List UInt8 × Nat) (v : V) : List UInt8 × Nat :=
  if v.kind.toNat % 4 = 0 then (if v.n < 0 then (s.1, errOf s.2 2) else (wput s.1 s.2 (enc v.n.toNat), s.2))
  else if v.kind.toNat % 4 = 1 then (wput s.1 s.2 (enc (zig v.n)), s.2)
  else if v.kind.toNat % 4 = 2 then (wput s.1 s.2 [if v.is then 1 else 0], s.2)
  else if 16777216 < v.s.size then (s.1, errOf s.2 5) else (wput s.1 s.2 (enc v.s.size ++ v.s.data.toList), s.2)

theorem wput_le (l : List UInt8) (e : Nat) (m : List UInt8) : (wput l e m).length ≤ l.length + m.length := by unfold wput; split <;> simp
theorem wstep_le (s : List UInt8 × Nat) (v : V) (h : v.Ok) : (wstep s v).1.length ≤ s.1.length + 16777300 := by
  have hz : zig v.n < 18446744073709551616 := by
    have h1 := h.n0; have h2 := h.n1
    by_cases h0 : v.n < 0
    · have := zig_neg h0; omega
    · have := zig_pos h0; omega
  have hn : v.n.toNat < 18446744073709551616 := by have h2 := h.n1; omega
  have l1 := enc_len10 hz
  have l2 := enc_len10 hn
  have l3 := h.s1
  unfold wstep
  repeat' split
  all_goals first
    | (simp only []; omega)
    | (refine Nat.le_trans (wput_le _ _ _) ?_; simp <;> omega)
    | (refine Nat.le_trans (wput_le _ _ _) ?_
       have := enc_len10 (n := v.s.size) (by omega)
       simp <;> omega)
theorem wstep0 (s : List UInt8 × Nat) (v : V) (h : v.kind.toNat % 4 = 0) : wstep s v = (if v.n < 0 then s.1 else wput s.1 s.2 (enc v.n.toNat), if v.n < 0 then errOf s.2 2 else s.2) := by
  unfold wstep; rw [if_pos h]; split <;> rfl
theorem wstep1 (s : List UInt8 × Nat) (v : V) (h : v.kind.toNat % 4 = 1) : wstep s v = (wput s.1 s.2 (enc (zig v.n)), s.2) := by
  unfold wstep; rw [if_neg (by omega), if_pos h]
theorem wstep2 (s : List UInt8 × Nat) (v : V) (h : v.kind.toNat % 4 = 2) : wstep s v = (wput s.1 s.2 [if v.is then 1 else 0], s.2) := by
  unfold wstep; rw [if_neg (by omega), if_neg (by omega), if_pos h]
theorem wstep3 (s : List UInt8 × Nat) (v : V) (h : v.kind.toNat % 4 = 3) : wstep s v = (if 16777216 < v.s.size then s.1 else wput s.1 s.2 (enc v.s.size ++ v.s.data.toList), if 16777216 < v.s.size then errOf s.2 5 else s.2) := by
  unfold wstep; rw [if_neg (by omega), if_neg (by omega), if_neg (by omega)]; split <;> rfl

/-- One value: the four methods under one name. -/
def WAll (w : World) (g : Nat) (v : Value) (s : List UInt8 × Nat) (w' : World) : Prop := ∃ v', IsW w' g v' s.1 s.2 ∧ Mod w w' (wfoot g v) ∧ Newer w v v'

theorem WAll.refl {w : World} {g : Nat} {v : Value} {s : List UInt8 × Nat} (h : IsW w g v s.1 s.2) : WAll w g v s w := ⟨v, h, Mod.refl _ _, .inl rfl⟩
theorem WAll.step {w w1 w2 : World} {g : Nat} {v v1 : Value} {s : List UInt8 × Nat} (hm : Mod w w1 (wfoot g v)) (hn : Newer w v v1) (h : WAll w1 g v1 s w2) : WAll w g v s w2 := by
  obtain ⟨v2, h2, hm2, hn2⟩ := h
  refine ⟨v2, h2, hm.trans hm2 fun k hk hf => ?_, hn.trans hn2 hm.size⟩
  rcases hf with rfl | hf
  · exact .inl rfl
  · rcases hn with e | ⟨j, e, hj⟩ <;> rw [e] at hf
    · exact .inr hf
    · injection hf with hf; omega

set_option maxHeartbeats 1000000 in
set_option maxRecDepth 100000 in
theorem write_any (g : Nat) (v0 : Value) (s0 : List UInt8 × Nat) (A : Option Addr) (l : List V) (c B : Nat) (w : World) (hw : IsW w g v0 s0.1 s0.2) (hr : RV w B A l) (hl : l.length ≤ 40) (hok : ∀ v ∈ l, V.Ok v) (hB : B ≤ w.heap.size)
    (hB0 : ∀ k, wfoot g v0 k → B ≤ k) (hs0 : s0.1.length ≤ 1000000) :
    Calls Try.prog 20 #[.pointer (some ⟨g, 0, none⟩), .slice A l.length c] w fun e w' => e = .returned (.tuple #[]) ∧ WAll w g v0 (l.foldl wstep s0) w' := by
  go_enter Try.func20, Try.ntmps20
  go_wp2
  go_loopw [4] (fun i wr => ∃ k : Nat, k ≤ l.length ∧ i = .int .i64 k ∧ WAll w g v0 ((l.take k).foldl wstep s0) wr ∧ ((l.take k).foldl wstep s0).1.length ≤ 1000000 + k * 16777300) (fun i _ => l.length - (intOf i).toNat)
  case atStart => exact ⟨0, by omega, rfl, WAll.refl hw, by simpa using hs0⟩
  case round =>
    obtain ⟨k, hk, rfl, ha, hsz⟩ := hrel
    have HK := Lib.hid hok
    have HF := Lib.hid hB0
    obtain ⟨vr, hwr, hmr, hnr⟩ := ha
    have hrr := hr.keep (w' := wr) fun p hp => hmr.cell (by omega) (fun hf => by have := hB0 _ hf; omega)
    have HR := Lib.hid hrr
    obtain ⟨s, es⟩ : ∃ s, s = (l.take k).foldl wstep s0 := ⟨_, rfl⟩
    rw [← es] at hwr hsz
    have HE := Lib.hid es
    have HW := Lib.hid hwr
    have HM := Lib.hid hmr
    have HN := Lib.hid hnr
    clear hr hok hB0 hwr hmr hnr hrr es hw
    by_cases hlt : k < l.length
    · obtain ⟨b, off, v, rfl, hbb, hv, h0, h1, h2, h3, h4⟩ := HR.out.at_ hlt
      have HV := Lib.hid hv
      have hvo := HK.out v (List.mem_of_getElem? hv)
      have hstep := wstep_le s v hvo
      have hfold : (l.take (k + 1)).foldl wstep s0 = wstep s v := by rw [take_step hv, List.foldl_append, List.foldl_cons, List.foldl_nil, ← HE.out]
      have HFo := Lib.hid hfold
      have hkb := v.kind.toNat_lt
      clear hv hfold
      have hsl : s.1.length + 16777300 ≤ 140737488355328 := by omega
      rcases (by omega : v.kind.toNat % 4 = 0 ∨ v.kind.toNat % 4 = 1 ∨ v.kind.toNat % 4 = 2 ∨ v.kind.toNat % 4 = 3) with hq | hq | hq | hq
      · have t0 : ((v.kind.toNat : Int) % 4 == 0) = true := by simp; omega
        have HC := Lib.hid (numberW_any wr g vr s.1 s.2 v.n HW.out (by have := hvo.n1; omega) (by omega))
        have HQ := Lib.hid (wstep0 s v hq)
        clear hq
        go_wp2_with fail
        refine HC.out.mono ?_
        rintro x w2 ⟨rfl, v2, h2', m2, n2⟩
        have H2 := Lib.hid h2'
        have M2 := Lib.hid m2
        have N2 := Lib.hid n2
        clear h2' m2 n2
        go_wp2
        go_roundw
        case rel => exact ⟨k + 1, by omega, by go_num, WAll.step HM.out HN.out ⟨v2, by rw [HFo.out, HQ.out]; exact H2.out, M2.out, N2.out⟩, by rw [HFo.out]; omega⟩
        case measure => simp [intOf] <;> omega
      · have t0 : ((v.kind.toNat : Int) % 4 == 0) = false := by simp; omega
        have t1 : ((v.kind.toNat : Int) % 4 == 1) = true := by simp; omega
        have HC := Lib.hid (signedW_any wr g vr s.1 s.2 v.n HW.out (by have := hvo.n1; omega) (by have := hvo.n0; omega) (by omega))
        have HQ := Lib.hid (wstep1 s v hq)
        clear hq
        go_wp2_with fail
        refine HC.out.mono ?_
        rintro x w2 ⟨rfl, v2, h2', m2, n2⟩
        have H2 := Lib.hid h2'
        have M2 := Lib.hid m2
        have N2 := Lib.hid n2
        clear h2' m2 n2
        go_wp2
        go_roundw
        case rel => exact ⟨k + 1, by omega, by go_num, WAll.step HM.out HN.out ⟨v2, by rw [HFo.out, HQ.out]; exact H2.out, M2.out, N2.out⟩, by rw [HFo.out]; omega⟩
        case measure => simp [intOf] <;> omega
      · have t0 : ((v.kind.toNat : Int) % 4 == 0) = false := by simp; omega
        have t1 : ((v.kind.toNat : Int) % 4 == 1) = false := by simp; omega
        have t2 : ((v.kind.toNat : Int) % 4 == 2) = true := by simp; omega
        have HC := Lib.hid (flagW_any wr g vr s.1 s.2 v.is HW.out (by omega))
        have HQ := Lib.hid (wstep2 s v hq)
        clear hq
        go_wp2_with fail
        refine HC.out.mono ?_
        rintro x w2 ⟨rfl, v2, h2', m2, n2⟩
        have H2 := Lib.hid h2'
        have M2 := Lib.hid m2
        have N2 := Lib.hid n2
        clear h2' m2 n2
        go_wp2
        go_roundw
        case rel => exact ⟨k + 1, by omega, by go_num, WAll.step HM.out HN.out ⟨v2, by rw [HFo.out, HQ.out]; exact H2.out, M2.out, N2.out⟩, by rw [HFo.out]; omega⟩
        case measure => simp [intOf] <;> omega
      · have t0 : ((v.kind.toNat : Int) % 4 == 0) = false := by simp; omega
        have t1 : ((v.kind.toNat : Int) % 4 == 1) = false := by simp; omega
        have t2 : ((v.kind.toNat : Int) % 4 == 2) = false := by simp; omega
        have HC := Lib.hid (textW_any wr g vr s.1 s.2 v.s HW.out (by have := hvo.s1; omega) (by omega))
        have HQ := Lib.hid (wstep3 s v hq)
        clear hq
        go_wp2_with fail
        refine HC.out.mono ?_
        rintro x w2 ⟨rfl, v2, h2', m2, n2⟩
        have H2 := Lib.hid h2'
        have M2 := Lib.hid m2
        have N2 := Lib.hid n2
        clear h2' m2 n2
        go_wp2
        go_roundw
        case rel => exact ⟨k + 1, by omega, by go_num, WAll.step HM.out HN.out ⟨v2, by rw [HFo.out, HQ.out]; exact H2.out, M2.out, N2.out⟩, by rw [HFo.out]; omega⟩
        case measure => simp [intOf] <;> omega
    · have he : l.foldl wstep s0 = s := by rw [HE.out, List.take_of_length_le (by omega)]
      have HX := Lib.hid he
      clear he
      go_wp2
      first | go_end0 | refine bodyPost_ret (results_none rfl _ _ _) rfl ?_
      exact ⟨rfl, vr, by rw [HX.out]; exact HW.out, HM.out, HN.out⟩
end Go.Proofs.Ytfjigooahdfbpaa
