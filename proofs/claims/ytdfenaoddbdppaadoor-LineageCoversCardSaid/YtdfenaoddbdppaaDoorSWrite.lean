/- The walk of (*sha256.Hash).Write. -/
import Derived.Test.YtdfenaoddbdppaaDoorSHash
set_option linter.unusedVariables false
namespace Go.Proofs.YtdfenaoddbdppaaDoor
open Go.RowKit

section
variable {P : Program}
theorem wpList_copy_of {ops : Array Oper} {rest : List Oper} {o : Oper} {a : Act} {Q : Exit → Act → World → Prop} {w : World} (hgd : o.guard = none) (s x : Operand) (t u : TypeId)
    (ho : o.op = .call { callee := .builtin .copy, args := #[s, x], argTypes := #[t, u] }) {v x' v' : Value} {w' : World} (hs : a.eval s = v) (hx : a.eval x = x')
    (hr : (Builtin.copy_ #[t, u] o.type #[v, x']).run P w = .ok v' w') (h : wpList P ops Q rest (a.put o.dst v') w') : wpList P ops Q (o :: rest) a w := by
  refine wpList_plain hgd fun K hK => ?_
  unfold Oper.wp execOp
  simp only [ho, resolve, invoke, builtin, Sem.run_bind, Sem.run_pure, Result.andThen_ok, List.map_toArray, List.map_cons, List.map_nil, hs, hx, hr]
  exact hK _ _ h

theorem run_copy_str (w : World) (dT sT ty elem : TypeId) (b o dLen dCap : Nat) (t : ByteArray)
    (hu : P.underlying dT = some (.slice elem)) (hz : (P.info? elem).map (·.size) = some 1)
    (ht : w.there b o (min t.size dLen)) :
    (Builtin.copy_ #[dT, sT] ty #[.slice (some ⟨b, o, none⟩) dLen dCap, .string t]).run P w = .ok (.int .i64 ((min t.size dLen : Nat) : Int)) (w.setCells b o ((t.data.toList.take (min t.size dLen)).map bv)) := by
  have hl : ((t.data.toList.take (min t.size dLen)).map bv).length = min t.size dLen := by
    have : t.data.toList.length = t.size := by simp
    rw [List.length_map, List.length_take, this]; omega
  have hst := run_storeCells_cells (P := P) b o ((t.data.toList.take (min t.size dLen)).map bv) 0 w (by rw [hl]; intro j hj; simpa using (ht j hj).1) (by rw [hl]; intro j hj; simpa using (ht j hj).2) (by
    intro v hv
    obtain ⟨x, _, rfl⟩ := List.mem_map.1 hv
    rfl)
  cases hq : P.info? elem with
  | none => simp [hq] at hz
  | some i =>
    have hi : i.size = 1 := by simpa [hq] using hz
    simp [Builtin.copy_, run_underlying hu, Builtin.lenOf, Builtin.firstCells, sizeOf, typeInfo, hq, hi]
    rw [← List.map_take]
    show (Sem.run P (storeCells ⟨b, o, none⟩ ((t.data.toList.take (min t.size dLen)).map bv)) w).andThen _ = _
    rw [hst]
    rfl
end
theorem grown_setCells {a : World} (b : Nat) : ∀ (vs : List Value) (o : Nat) (w : World), a.grownBy w (some b) → a.grownBy (w.setCells b o vs) (some b)
  | [], _, _, h => h
  | v :: r, o, w, h => grown_setCells b r (o + 1) _ ⟨h.os, h.tape, h.output, by simpa [World.setCell] using h.size, fun k hk hne => (Below.heap_setCell w ⟨b, o, none⟩ v k (fun e => hne (by rw [e]))).trans (h.block k hk hne)⟩
theorem grown_setCell {a : World} (b o : Nat) (v : Value) (w : World) (h : a.grownBy w (some b)) : a.grownBy (w.setCell ⟨b, o, none⟩ v) (some b) := grown_setCells b [v] o w h
theorem grown_below {a w w' : World} {b B : Nat} (h : a.grownBy w (some b)) (hb : Below B w w') (hB : a.heap.size ≤ B) : a.grownBy w' (some b) :=
  ⟨hb.os.trans h.os, hb.tape.trans h.tape, hb.output.trans h.output, Nat.le_trans h.size hb.size, fun k hk hne => (hb.block k (by omega)).trans (h.block k hk hne)⟩
theorem grown_trans {a w w' : World} {b : Nat} (h : a.grownBy w (some b)) (k : w.grownBy w' (some b)) : a.grownBy w' (some b) :=
  ⟨k.os.trans h.os, k.tape.trans h.tape, k.output.trans h.output, Nat.le_trans h.size k.size, fun i hi hne => (k.block i (Nat.lt_of_lt_of_le hi h.size) hne).trans (h.block i hi hne)⟩
theorem Tab.grown {w w' : World} {h : Nat} (hT : Tab w) (hg : w.grownBy w' (some h)) (h0 : 0 < h) : Tab w' :=
  ⟨Nat.lt_of_lt_of_le hT.1 hg.size, fun t ht => (World.cell?_of_block (w := w) (w' := w') (a := ⟨0, t, none⟩) (hg.block 0 hT.1 (by intro e; injection e with e; omega))).trans (hT.2 t ht)⟩

/-- Some of an array's cells are written. -/
theorem Arr.splice {w : World} {g o : Nat} {cs : List Value} (h : Arr w g o cs) (i : Nat) (ds : List Value) (hi : i + ds.length ≤ cs.length) :
    Arr (w.setCells g (o + i) ds) g o (cs.take i ++ ds ++ cs.drop (i + ds.length)) := by
  have hin : ∀ j, j < ds.length → (w.cell? ⟨g, o + i + j, none⟩).isSome = true := fun j hj => by
    have := (h.2 (i + j) (by omega)).1; rwa [← Nat.add_assoc] at this
  have hcell : ∀ j, (hj : j < cs.length) → (w.setCells g (o + i) ds).cell? ⟨g, o + j, none⟩ = some ((cs.take i ++ ds ++ cs.drop (i + ds.length))[j]'(by simp; omega)) := by
    intro j hj
    by_cases h1 : j < i
    · rw [World.cell?_setCells_out g ds _ w _ (fun _ _ => .inl (by show o + j < o + i; omega))]
      rw [List.getElem_append_left (by simp; omega), List.getElem_append_left (by simp; omega), List.getElem_take]
      exact h.1 j _ (List.getElem?_eq_getElem hj)
    · by_cases h2 : j < i + ds.length
      · have := World.cell?_setCells_in g ds (o + i) w hin (j - i) (by omega)
        rw [show o + i + (j - i) = o + j by omega] at this
        rw [this, List.getElem_append_left (by simp; omega), List.getElem_append_right (by simp; omega)]
        congr 2
        simp; omega
      · rw [World.cell?_setCells_out g ds _ w _ (fun _ _ => .inr (by show o + i + ds.length ≤ o + j; omega))]
        rw [List.getElem_append_right (by simp; omega), List.getElem_drop]
        rw [h.1 j _ (List.getElem?_eq_getElem hj)]
        congr 2
        simp; omega
  refine ⟨fun j v hv => ?_, fun j hj => ?_⟩
  · obtain ⟨hj, rfl⟩ := List.getElem?_eq_some_iff.1 hv
    exact hcell j (by simp at hj; omega)
  · have hj' : j < cs.length := by simp at hj; omega
    rw [hcell j hj', World.frozen?_setCells]
    exact ⟨rfl, (h.2 j hj').2⟩

/-- Behind the copy. -/
structure Copied (w : World) (h : Nat) (k x : List UInt8) (V : World) : Prop where
  words : Arr V h 0 ((wordsOf k).map wv)
  rest : Arr V h 8 ((tailOf k ++ x ++ List.replicate (64 - (k.length % 64 + x.length)) 0).map bv)
  len : Arr V h 72 [.int .i64 (k.length : Int)]
  grown : w.grownBy V (some h)
theorem copied_new {a w : World} {h : Nat} {k : List UInt8} (H : HashIs w h k) (hg : a.grownBy w (some h)) (x : List UInt8) (L : Nat) (hL : L = k.length) (hx : L % 64 + x.length ≤ 64) :
    Copied a h k x (w.setCells h (8 + L % 64) (x.map bv)) := by
  subst hL
  refine ⟨H.words.sets_other _ _ _ (.inr (.inl (by rw [List.length_map, wordsOf_length]; omega))), ?_, H.len.sets_other _ _ _ (.inr (.inr (by rw [List.length_map]; omega))), grown_setCells _ _ _ _ hg⟩
  have := H.rest.splice (k.length % 64) (x.map bv) (by rw [List.length_map, List.length_map, restOf_length]; omega)
  rw [List.length_map, ← List.map_take, ← List.map_drop, ← List.map_append, ← List.map_append, rest_copied k x hx] at this
  exact this

theorem extract_end (R : ByteArray) (n : Nat) : (R.extract n R.size).data.toList = R.data.toList.drop n := by
  rw [ByteArray.data_extract, Array.toList_extract, List.extract_eq_take_drop]
  apply List.take_of_length_le
  simp
theorem wrap_small (x : Int) (h0 : 0 ≤ x) (h1 : x < 9223372036854775808) : wrap64 x = x := by unfold wrap64; omega
theorem bytes_length (S : ByteArray) : S.data.toList.length = S.size := by simp
theorem write_arith {kl R mm S L n : Nat} (h1 : kl + R = mm + S) (h2 : mm + S < 4611686018427387904) (eL : L = kl) (en : n = min R (64 - L % 64)) (hR : 0 < R) :
    n ≤ 64 - L % 64 ∧ 0 < n ∧ n ≤ R ∧ L + n < 4611686018427387904 := by omega
theorem write_wraps {L n : Nat} (h : L + n < 4611686018427387904) (hn : n ≤ 64 - L % 64) : wrap64 ((L : Int) % 64 + (n : Int)) = (L : Int) % 64 + (n : Int) ∧ wrap64 ((L : Int) + (n : Int)) = (L : Int) + (n : Int) :=
  ⟨wrap_small _ (by omega) (by omega), wrap_small _ (by omega) (by omega)⟩

theorem Copied.end_part {w : World} {h : Nat} {k x : List UInt8} {V : World} (H : Copied w h k x V) (hx : k.length % 64 + x.length < 64) {L n : Nat} (hL : L = k.length) (hn : x.length = n) :
    HashIs (V.setCell ⟨h, 72, none⟩ (.int .i64 ((L : Int) + (n : Int)))) h (k ++ x) := by
  subst hL hn
  refine ⟨?_, ?_, ?_⟩
  · rw [words_part k x hx]
    exact H.words.other _ (.inr (.inr (by rw [List.length_map, wordsOf_length]; show 0 + 8 ≤ 72; omega)))
  · rw [rest_part k x hx]
    refine H.rest.other _ (.inr (.inr ?_))
    rw [List.length_map, List.length_append, List.length_append, tailOf_length, List.length_replicate]
    show 8 + _ ≤ 72; omega
  · rw [List.length_append]
    exact H.len.set (i := 0) (by simp) _

/-- Behind the block that was compressed. -/
structure Fuller (w : World) (h : Nat) (k x : List UInt8) (V : World) : Prop where
  words : Arr V h 0 ((wordsOf (k ++ x)).map wv)
  rest : Arr V h 8 ((restOf (k ++ x)).map bv)
  len : Arr V h 72 [.int .i64 (k.length : Int)]
  grown : w.grownBy V (some h)
theorem fuller_new {w : World} {h : Nat} {k x : List UInt8} {V W : World} (H : Copied w h k x V) (hb : Below V.heap.size V W) (hw : w.heap.size ≤ V.heap.size) (nw : List Value) (cs : List UInt8) (st : S8) (hx : k.length % 64 + x.length = 64)
    (ecs : cs = tailOf k ++ x) (est : st = stateAt k (k.length / 64)) (enw : nw = (compressS st cs).toL.map wv) (hcs : Arr V h 8 (cs.map bv)) (hlc : cs.length = 64) (z : List Value) (hz : z = List.replicate 64 (.int .u8 0)) :
    Fuller w h k x ((W.setCells h 0 nw).setCells h 8 z) := by
  have hl := H.len.lt (by simp)
  have hw8 : ((wordsOf k).map wv).length = 8 := by rw [List.length_map, wordsOf_length]
  have hn8 : nw.length = 8 := by rw [enw]; rfl
  have hz64 : z.length = 64 := by rw [hz]; simp
  refine ⟨?_, ?_, ?_, grown_setCells _ _ _ _ (grown_setCells _ _ _ _ (grown_below H.grown hb hw))⟩
  · rw [words_full k x hx, ← est, ← ecs, ← enw]
    exact (((H.words.below hb hl).sets nw (by omega))).sets_other _ _ _ (.inr (.inl (by omega)))
  · rw [rest_full k x hx, List.map_replicate]
    have := (((hcs.below hb hl).sets_other h 0 nw (.inr (.inr (by omega)))).sets z (by rw [List.length_map]; omega))
    rw [hz] at this ⊢
    exact this
  · exact ((H.len.below hb hl).sets_other h 0 nw (.inr (.inr (by omega)))).sets_other h 8 z (.inr (.inr (by omega)))
theorem Fuller.fin {w : World} {h : Nat} {k x : List UInt8} {V : World} (H : Fuller w h k x V) {L n : Nat} (hL : L = k.length) (hn : x.length = n) :
    HashIs (V.setCell ⟨h, 72, none⟩ (.int .i64 ((L : Int) + (n : Int)))) h (k ++ x) := by
  subst hL hn
  refine ⟨H.words.other _ (.inr (.inr (by rw [List.length_map, wordsOf_length]; show 0 + 8 ≤ 72; omega))), H.rest.other _ (.inr (.inr (by rw [List.length_map, restOf_length]; show 8 + 64 ≤ 72; omega))), ?_⟩
  rw [List.length_append]
  exact H.len.set (i := 0) (by simp) _

abbrev zeroB : List Value := List.replicate 64 (Value.int .u8 0)
theorem zeroB_size : zeroB.toArray.size = 64 := by simp
theorem zeroB_one : ∀ v ∈ zeroB, v.oneCell' = true := by intro v hv; rw [List.eq_of_mem_replicate hv]; rfl
theorem infoZ : (Tryd.prog.info? 112).map (·.size) = some zeroB.toArray.size := by rw [zeroB_size]; exact info64b

def strLen : Value → Nat
  | .string R => R.size
  | _ => 0

/-- What the region that compresses stands on. -/
def InReg (V : World) (h : Nat) (cs : List UInt8) (W : World) : Prop := Below V.heap.size V W ∧ W.rangeAt h 8 (cs.map bv) ∧ W.there h 0 8

theorem info1 : (Tryd.prog.info? 5).map (·.size) = some 1 := by kernel_rfl

set_option maxHeartbeats 1000000 in
set_option maxRecDepth 100000 in
theorem write_any (h : Nat) (m : List UInt8) (S : ByteArray) (w : World) (H : HashIs w h m) (hT : Tab w) (h0 : 0 < h) (hl : m.length + S.size < 4611686018427387904) :
    Calls Tryd.prog 73 #[.pointer (some ⟨h, 0, none⟩), .string S] w fun e w' => e = .returned (.int .i64 0) ∧ HashIs w' h (m ++ S.data.toList) ∧ w.grownBy w' (some h) := by
  have HL := Lib.hid hl
  have HH := Lib.hid H
  have HT := Lib.hid hT
  have H0 := Lib.hid h0
  clear hl H hT h0
  go_enter Tryd.func73, Tryd.ntmps73
  go_wp2
  go_loopw [1] (fun u wr => ∃ (R : ByteArray) (k : List UInt8), u = .string R ∧ k ++ R.data.toList = m ++ S.data.toList ∧ HashIs wr h k ∧ w.grownBy wr (some h)) (fun u _ => strLen u)
  case atStart => exact ⟨S, m, rfl, rfl, HH.out, World.grownBy.refl _ _⟩
  case round =>
    obtain ⟨R, k, rfl, hk, hH, hg⟩ := hrel
    by_cases hR : (0 : Int) < (R.size : Int)
    · obtain ⟨L, eL⟩ : ∃ L, L = k.length := ⟨_, rfl⟩
      have hc := hH.lenCell
      have hlt := hH.lt
      rw [← eL] at hc
      obtain ⟨n, en⟩ : ∃ n, n = min R.size (64 - L % 64) := ⟨_, rfl⟩
      obtain ⟨x, ex⟩ : ∃ x, x = R.data.toList.take n := ⟨_, rfl⟩
      have hRl : R.data.toList.length = R.size := by simp
      have hxl : x.length = n := by rw [ex, List.length_take, hRl]; omega
      have hu0 : (0 : Int) ≤ (L : Int) % 64 := by omega
      have hu1 : (L : Int) % 64 ≤ 64 := by omega
      have hcp := Lib.hid (run_copy_str (P := Tryd.prog) wr 72 9 3 5 h (8 + L % 64) (64 - L % 64) (64 - L % 64) R Tryd.underlying72 info1 (fun j hj => by
        have := hH.rest.2 (L % 64 + j) (by rw [List.length_map, restOf_length]; omega)
        rw [← Nat.add_assoc] at this; exact this))
      rw [← en, ← ex] at hcp
      have HCW := Lib.hid (copied_new hH hg x L eL (by rw [hxl]; omega))
      obtain ⟨hnn, hn0, hnR', hLn⟩ := write_arith (kl := k.length) (R := R.size) (mm := m.length) (S := S.size) (by have h1 := congrArg List.length hk; rwa [List.length_append, List.length_append, bytes_length, bytes_length] at h1) HL.out eL en (by omega)
      obtain ⟨hw1, hw2⟩ := write_wraps hLn hnn
      have hnR : (n : Int) ≤ (R.size : Int) := by omega
      have HRX := Lib.hid (extract_end R n)
      have HN := Lib.hid en
      have HX := Lib.hid ex
      have HXL := Lib.hid hxl
      have HK := Lib.hid hk
      have HHW := Lib.hid hH
      have HG := Lib.hid hg
      have HEL := Lib.hid eL
      clear en ex hxl hk hH hg eL hRl
      by_cases hfull : L % 64 + n = 64
      · have hct : ((L : Int) % 64 + (n : Int) == 64) = true := by simp; omega
        have hTV := HT.out.grown HCW.out.grown H0.out
        go_wp2_with (refine wpList_copy_of (by rfl) (.tmp 21) (.tmp 22) 72 9 (by rfl) (by rfl) (by rfl) hcp.out ?_; refine wpl_gen (fun V => Copied w h k x V ∧ Tab V) ⟨HCW.out, hTV⟩ ?_; rintro V ⟨hV, hTV2⟩; have hc72 := hV.len.cell (i := 0) rfl; have hf72 := hV.len.frozen (i := 0) (by simp); rw [← HEL.out] at hc72; have HV := Lib.hid hV; have HTV := Lib.hid hTV2; clear hV hTV2)
        have hlV : h < V.heap.size := HV.out.len.lt (by simp)
        obtain ⟨cs, ecs⟩ : ∃ cs, cs = tailOf k ++ x := ⟨_, rfl⟩
        have hcsl : cs.length = 64 := by rw [ecs, List.length_append, tailOf_length, HXL.out, ← HEL.out]; exact hfull
        have hcsV : Arr V h 8 (cs.map bv) := by
          have := HV.out.rest
          rw [show 64 - (k.length % 64 + x.length) = 0 by rw [← HEL.out, HXL.out]; omega, List.replicate_zero, List.append_nil, ← ecs] at this
          exact this
        obtain ⟨st, est⟩ : ∃ st, st = stateAt k (k.length / 64) := ⟨_, rfl⟩
        have HSt : Hid (∀ W, Below V.heap.size V W → Calls Tryd.prog 93 #[.pointer (some ⟨h, 0, none⟩)] W fun e W' => e = .returned (.agg (st.toL.map wv).toArray) ∧ (Below V.heap.size V W' ∧ W'.rangeAt h 8 (cs.map bv) ∧ W'.there h 0 8)) := Lib.hid (by
          intro W hb
          refine (state_parts h k W (HV.out.words.below hb hlV) (HV.out.len.below hb hlV)).mono ?_
          rintro e W' ⟨rfl, hb2⟩
          have hb3 := hb.trans (hb2.mono hb.size)
          refine ⟨by rw [est], hb3, (hcsV.below hb3 hlV).1, ?_⟩
          have := (HV.out.words.below hb3 hlV).2
          rwa [List.length_map, wordsOf_length] at this)
        have HCo : Hid (∀ W, Below V.heap.size V W → Calls Tryd.prog 92 #[.agg (st.toL.map wv).toArray, .agg (cs.map bv).toArray] W fun e W' => e = .returned (.agg ((compressS st cs).toL.map wv).toArray) ∧ (Below V.heap.size V W' ∧ W'.rangeAt h 8 (cs.map bv) ∧ W'.there h 0 8)) := Lib.hid (by
          intro W hb
          refine (compress_any st cs W hcsl (HTV.out.below hb HTV.out.1)).mono ?_
          rintro e W' ⟨rfl, hb2⟩
          have hb3 := hb.trans (hb2.mono hb.size)
          refine ⟨rfl, hb3, (hcsV.below hb3 hlV).1, ?_⟩
          have := (HV.out.words.below hb3 hlV).2
          rwa [List.length_map, wordsOf_length] at this)
        obtain ⟨nw, enw⟩ : ∃ nw, nw = (compressS st cs).toL.map wv := ⟨_, rfl⟩
        rw [← enw] at HCo
        have hnwl : nw.length = 8 := by rw [enw]; rfl
        have hnw1 : ∀ v ∈ nw, v.oneCell' = true := by rw [enw]; exact wvs_oneCell _
        have hS0 : V.rangeAt h 8 (cs.map bv) := hcsV.1
        have hS1 : V.there h 0 8 := by have := HV.out.words.2; rwa [List.length_map, wordsOf_length] at this
        have hlc : (cs.map bv).length = 64 := by rw [List.length_map, hcsl]
        have hi64 : (Tryd.prog.info? 112).map (·.size) = some (cs.map bv).length := by rw [info64b, hlc]
        have hi8 : (Tryd.prog.info? 111).map (·.size) = some nw.length := by rw [info8w, hnwl]
        have hu64 := Tryd.underlying112
        have hu8 := Tryd.underlying111
        have hst8 : ∀ W : World, W.there h 0 8 → (storeCells ⟨h, 0, none⟩ nw).run Tryd.prog W = .ok () (W.setCells h 0 nw) := fun W ht => by
          have := run_storeCells_cells (P := Tryd.prog) h 0 nw 0 W (by rw [hnwl]; intro j hj; simpa using (ht j hj).1) (by rw [hnwl]; intro j hj; simpa using (ht j hj).2) hnw1
          simpa using this
        have hb00 := Below.refl V.heap.size V
        have HCS := Lib.hid ecs
        have HST := Lib.hid est
        have HNW := Lib.hid enw
        have HCL := Lib.hid hcsl
        have HCV := Lib.hid hcsV
        have HFU := Lib.hid hfull
        have HTV9 := Lib.hid hTV
        clear ecs est enw hcsl hcsV hfull hTV
        have hbd : Below V.heap.size V V.drew := hb00.drew
        go_region_held3 (fun W => W.rangeAt h 8 (cs.map bv) ∧ W.there h 0 8) (first | assumption | (exact ⟨by assumption, by assumption⟩) | (exact ⟨(World.rangeAt_drew _ _ _ _).2 (by assumption), (World.there_drew _ _ _ _).2 (by assumption)⟩) | (exact (World.rangeAt_drew _ _ _ _).2 (by assumption)) | (exact (World.there_drew _ _ _ _).2 (by assumption)) | (exact ⟨World.rangeAt_setCells_apart (by assumption) _ _ _ (.inr (.inr (by rw [hnwl]; omega))), World.there_setCells (by assumption) _ _ _⟩) | (exact World.there_setCells (by assumption) _ _ _) | (exact World.rangeAt_setCells_apart (by assumption) _ _ _ (.inr (.inr (by rw [hnwl]; omega)))))
          (first
            | (go_at_call 93; refine (HSt.out _ (by assumption)).mono ?_; rintro e W' ⟨rfl, hb', hr', ht'⟩)
            | (go_at_call 92; refine (HCo.out _ (by assumption)).mono ?_; rintro e W' ⟨rfl, hb', hr', ht'⟩))
        have hF := Lib.hid (fuller_new HV.out (by assumption) HV.out.grown.size nw cs st (by rw [← HEL.out, HXL.out]; exact HFU.out) HCS.out HST.out HNW.out HCV.out HCL.out zeroB rfl)
        have hT8 := Lib.hid (World.there_setCells (show W'.there h 8 zeroB.toArray.size from by rw [zeroB_size]; have := (HCV.out.below hb' hlV).2; rwa [hlc] at this) h 0 nw)
        obtain ⟨V2, hV2⟩ : ∃ V2, V2 = W'.setCells h 0 nw := ⟨_, rfl⟩
        rw [← hV2] at hF hT8 ⊢
        clear hV2 hst8 hS0 hS1 hb00 hbd hi64 hi8 hu64 hu8 hnw1 hnwl hlc
        go_wp2_with (refine wpList_store_mid (by rfl) 112 (.tmp 41) (.tmp 39) (by rfl) h 8 zeroB.toArray (by rfl) (by rfl) hT8.out infoZ (all_oneCell_toArray zeroB_one) ?_; refine wpl_gen (Fuller w h k x) hF.out ?_; intro V3 hV3; have hc73 := hV3.len.cell (i := 0) rfl; have hf73 := hV3.len.frozen (i := 0) (by simp); rw [← HEL.out] at hc73; have HV3 := Lib.hid hV3; clear hV3)
        go_roundw
        case rel =>
          refine ⟨_, k ++ x, rfl, ?_, HV3.out.fin HEL.out HXL.out, grown_setCell _ _ _ _ HV3.out.grown⟩
          rw [HRX.out, HX.out, List.append_assoc, List.take_append_drop]; exact HK.out
        case measure =>
          show (R.extract n R.size).size < R.size
          rw [ByteArray.size_extract]; omega
      · have hcd : ((L : Int) % 64 + (n : Int) == 64) = false := by simp; omega
        go_wp2_with (refine wpList_copy_of (by rfl) (.tmp 21) (.tmp 22) 72 9 (by rfl) (by rfl) (by rfl) hcp.out ?_; refine wpl_gen (Copied w h k x) HCW.out ?_; intro V hV; have hc72 := hV.len.cell (i := 0) rfl; have hf72 := hV.len.frozen (i := 0) (by simp); rw [← HEL.out] at hc72; have HV := Lib.hid hV; clear hV)
        go_roundw
        case rel =>
          refine ⟨_, k ++ x, rfl, ?_, HV.out.end_part (by rw [← HEL.out, HXL.out]; omega) HEL.out HXL.out, grown_setCell _ _ _ _ HV.out.grown⟩
          rw [HRX.out, HX.out, List.append_assoc, List.take_append_drop]; exact HK.out
        case measure =>
          show (R.extract n R.size).size < R.size
          rw [ByteArray.size_extract]; omega
    · have hR0 : R.data.toList = [] := List.eq_nil_of_length_eq_zero (by rw [bytes_length]; omega)
      rw [hR0, List.append_nil] at hk
      rw [hk] at hH
      have HHW := Lib.hid hH
      have HG := Lib.hid hg
      clear hk hH hg hR0
      go_wp2
      go_ret
      exact ⟨rfl, HHW.out, HG.out⟩
end Go.Proofs.YtdfenaoddbdppaaDoor
