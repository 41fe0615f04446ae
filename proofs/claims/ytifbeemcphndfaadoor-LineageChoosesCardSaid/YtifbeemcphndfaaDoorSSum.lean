/- The walk of (*sha256.Hash).Sum. -/
import Derived.Test.YtifbeemcphndfaaDoorSWrite
set_option linter.unusedVariables false
namespace Go.Proofs.YtifbeemcphndfaaDoor
open Go.RowKit

def lenBytes (n : Nat) : List UInt8 := (List.range 8).map fun i => UInt8.ofNat (8 * n / 2 ^ (8 * (7 - i)))
def zs (n : Nat) : List UInt8 := List.replicate n 0
/-- The last block or blocks. -/
def finS (s : S8) (t : List UInt8) (n : Nat) : S8 :=
  if 56 ≤ t.length then compressS (compressS s (t ++ [128] ++ zs (63 - t.length))) (zs 56 ++ lenBytes n)
  else compressS s (t ++ [128] ++ zs (55 - t.length) ++ lenBytes n)
def lenByte (L k : Nat) : UInt8 := UInt8.ofNat (8 * L / 2 ^ (8 * k))
def lenAcc (b : List UInt8) (L : Nat) : Nat → List UInt8
  | 0 => b
  | k + 1 => (lenAcc b L k).set (63 - k) (lenByte L k)
theorem lenAcc_length (b : List UInt8) (L k : Nat) : (lenAcc b L k).length = b.length := by
  induction k with
  | zero => rfl
  | succ k ih => rw [lenAcc, List.length_set, ih]
theorem lenAcc_get (b : List UInt8) (L k j : Nat) (hk : k ≤ 8) (hb : b.length = 64) : (lenAcc b L k)[j]? = if 64 - k ≤ j ∧ j < 64 then some (lenByte L (63 - j)) else b[j]? := by
  induction k with
  | zero => rw [lenAcc, if_neg (by omega)]
  | succ k ih =>
    rw [lenAcc, List.getElem?_set, ih (by omega)]
    by_cases h : 63 - k = j
    · rw [if_pos h, if_pos (by rw [lenAcc_length, hb]; omega), if_pos (by omega), ← h]
      congr 2; omega
    · rw [if_neg h]
      by_cases h2 : 64 - k ≤ j ∧ j < 64
      · rw [if_pos h2, if_pos (by omega)]
      · rw [if_neg h2, if_neg (by omega)]
theorem lenAcc_all (b : List UInt8) (L : Nat) (hb : b.length = 64) : lenAcc b L 8 = b.take 56 ++ lenBytes L := by
  apply List.ext_getElem?
  intro j
  rw [lenAcc_get b L 8 j (Nat.le_refl _) hb]
  have hl : (b.take 56).length = 56 := by rw [List.length_take, hb]; rfl
  rw [List.getElem?_append, hl, List.getElem?_take]
  by_cases h1 : j < 56
  · rw [if_neg (by omega), if_pos h1, if_pos h1]
  · rw [if_neg h1]
    by_cases h2 : j < 64
    · rw [if_pos (by omega)]
      unfold lenBytes
      rw [List.getElem?_map, List.getElem?_range (by omega)]
      simp only [Option.map_some, lenByte]
      congr 4; omega
    · rw [if_neg (by omega), List.getElem?_eq_none (by omega), List.getElem?_eq_none (by simp [lenBytes]; omega)]
theorem lenByte_eq (L k : Nat) : 8 * (L : Int) / 2 ^ (8 * k) % 256 = ((lenByte L k).toNat : Int) := by
  unfold lenByte
  rw [UInt8.toNat_ofNat', Int.natCast_emod, Int.natCast_ediv, Int.natCast_mul, Int.natCast_pow]
  rfl

def dbyte (s : S8) (i : Nat) : UInt8 := UInt8.ofNat ((s.toL.getD (i / 4) 0).toNat / 2 ^ (24 - 8 * (i % 4)))
theorem dbyte_eq (x : UInt32) (n : Nat) : (x.toNat : Int) / 2 ^ n % 256 = (((UInt8.ofNat (x.toNat / 2 ^ n)).toNat : Nat) : Int) := by
  rw [UInt8.toNat_ofNat', Int.natCast_emod, Int.natCast_ediv, Int.natCast_pow]
  rfl
def digest (s : S8) : List UInt8 := (List.range 32).map (dbyte s)
theorem digest_length (s : S8) : (digest s).length = 32 := by simp [digest]
def digAcc (s : S8) (k : Nat) : List UInt8 := (digest s).take k ++ zs (32 - k)
theorem digAcc_length (s : S8) (k : Nat) (hk : k ≤ 32) : (digAcc s k).length = 32 := by
  unfold digAcc zs; rw [List.length_append, List.length_take, digest_length, List.length_replicate]; omega
theorem digAcc_zero (s : S8) : digAcc s 0 = zs 32 := rfl
theorem digAcc_all (s : S8) : digAcc s 32 = digest s := by
  unfold digAcc; rw [List.take_of_length_le (by rw [digest_length]; omega)]; simp [zs]
theorem digAcc_step (s : S8) (k : Nat) (hk : k < 32) : digAcc s (k + 1) = (digAcc s k).set k (dbyte s k) := by
  apply List.ext_getElem?
  intro j
  rw [List.getElem?_set]
  have h1 : ((digest s).take k).length = k := by rw [List.length_take, digest_length]; omega
  have h2 : ((digest s).take (k + 1)).length = k + 1 := by rw [List.length_take, digest_length]; omega
  by_cases e : k = j
  · subst e
    rw [if_pos rfl, if_pos (by rw [digAcc_length _ _ (by omega)]; omega)]
    unfold digAcc
    rw [List.getElem?_append_left (by omega), List.getElem?_take, if_pos (by omega)]
    unfold digest
    rw [List.getElem?_map, List.getElem?_range hk]; rfl
  · rw [if_neg e]
    unfold digAcc zs
    by_cases h : j < k
    · rw [List.getElem?_append_left (by omega), List.getElem?_append_left (by omega), List.getElem?_take, List.getElem?_take, if_pos (by omega), if_pos (by omega)]
    · rw [List.getElem?_append_right (by omega), List.getElem?_append_right (by omega), h1, h2, List.getElem?_replicate, List.getElem?_replicate]
      by_cases h3 : j < 32
      · rw [if_pos (by omega), if_pos (by omega)]
      · rw [if_neg (by omega), if_neg (by omega)]
def sumS (m : List UInt8) : List UInt8 := digest (finS (stateAt m (m.length / 64)) (tailOf m) m.length)

theorem rest_set (m : List UInt8) : ((restOf m).set (m.length % 64) 128) = tailOf m ++ [128] ++ zs (63 - m.length % 64) := by
  unfold restOf zs
  rw [List.set_append_right _ _ (by rw [tailOf_length]; omega), tailOf_length, Nat.sub_self]
  rw [show 64 - m.length % 64 = (63 - m.length % 64) + 1 by omega, List.replicate_succ, List.set_cons_zero, List.append_assoc]
  rfl
theorem lenBytes_length (L : Nat) : (lenBytes L).length = 8 := by simp [lenBytes]
theorem last_low (m : List UInt8) (h : m.length % 64 < 56) : (tailOf m ++ [128] ++ zs (63 - m.length % 64)).take 56 = tailOf m ++ [128] ++ zs (55 - m.length % 64) := by
  have e : zs (63 - m.length % 64) = zs (55 - m.length % 64) ++ zs 8 := by
    unfold zs; rw [List.replicate_append_replicate]; congr 1; omega
  rw [e, ← List.append_assoc]
  apply List.take_left'
  rw [List.length_append, List.length_append, tailOf_length]; simp [zs]; omega
theorem sum_low (m : List UInt8) (h : m.length % 64 < 56) : digest (compressS (stateAt m (m.length / 64)) ((tailOf m ++ [128] ++ zs (63 - m.length % 64)).take 56 ++ lenBytes m.length)) = sumS m := by
  unfold sumS finS
  rw [if_neg (by rw [tailOf_length]; omega), tailOf_length, last_low m h]
theorem sum_high (m : List UInt8) (h : 56 ≤ m.length % 64) : digest (compressS (compressS (stateAt m (m.length / 64)) (tailOf m ++ [128] ++ zs (63 - m.length % 64))) ((zs 64).take 56 ++ lenBytes m.length)) = sumS m := by
  unfold sumS finS
  rw [if_pos (by rw [tailOf_length]; omega), tailOf_length]
  rfl

theorem info32 : (Tryd.prog.info? 96).map (·.size) = some 32 := by kernel_rfl
abbrev zero32 : List Value := List.replicate 32 (Value.int .u8 0)
theorem zero32_bv : (zs 32).map bv = zero32 := by unfold zs; rw [List.map_replicate]; rfl
theorem zeroB_bv : (zs 64).map bv = zeroB := by unfold zs; rw [List.map_replicate]; rfl
theorem new32 (w : World) (z : Array Value) (hz : z = zero32.toArray) (t : TypeId) : Arr (w.alloc (.cells z t)) w.heap.size 0 zero32 := by subst hz; exact Arr.new _ _ _

theorem gen_post {Q : Exit → Act → World → Prop} {e : Exit} {a : Act} {W : World} (R : World → Prop) (hR : R W) (h : ∀ W0, R W0 → Q e a W0) : Q e a W := h W hR
theorem there8u (W : World) : (W.alloc (.cells #[.int .u32 0, .int .u32 0, .int .u32 0, .int .u32 0, .int .u32 0, .int .u32 0, .int .u32 0, .int .u32 0] 111)).there W.heap.size 0 8 := (Arr.new W zero8 111).2
theorem there64u (W : World) : (W.alloc (.cells #[.int .u8 0, .int .u8 0, .int .u8 0, .int .u8 0, .int .u8 0, .int .u8 0, .int .u8 0, .int .u8 0, .int .u8 0, .int .u8 0, .int .u8 0, .int .u8 0, .int .u8 0, .int .u8 0, .int .u8 0, .int .u8 0, .int .u8 0, .int .u8 0, .int .u8 0, .int .u8 0, .int .u8 0, .int .u8 0, .int .u8 0, .int .u8 0, .int .u8 0, .int .u8 0, .int .u8 0, .int .u8 0, .int .u8 0, .int .u8 0, .int .u8 0, .int .u8 0, .int .u8 0, .int .u8 0, .int .u8 0, .int .u8 0, .int .u8 0, .int .u8 0, .int .u8 0, .int .u8 0, .int .u8 0, .int .u8 0, .int .u8 0, .int .u8 0, .int .u8 0, .int .u8 0, .int .u8 0, .int .u8 0, .int .u8 0, .int .u8 0, .int .u8 0, .int .u8 0, .int .u8 0, .int .u8 0, .int .u8 0, .int .u8 0, .int .u8 0, .int .u8 0, .int .u8 0, .int .u8 0, .int .u8 0, .int .u8 0, .int .u8 0, .int .u8 0] 112)).there W.heap.size 0 64 := (Arr.new W zeroB 112).2
theorem there8A (W : World) (o : Obj) : ((W.alloc (.cells #[.int .u32 0, .int .u32 0, .int .u32 0, .int .u32 0, .int .u32 0, .int .u32 0, .int .u32 0, .int .u32 0] 111)).alloc o).there W.heap.size 0 8 := World.there_alloc (there8u W) o
theorem there64A (W : World) (o : Obj) : ((W.alloc (.cells #[.int .u8 0, .int .u8 0, .int .u8 0, .int .u8 0, .int .u8 0, .int .u8 0, .int .u8 0, .int .u8 0, .int .u8 0, .int .u8 0, .int .u8 0, .int .u8 0, .int .u8 0, .int .u8 0, .int .u8 0, .int .u8 0, .int .u8 0, .int .u8 0, .int .u8 0, .int .u8 0, .int .u8 0, .int .u8 0, .int .u8 0, .int .u8 0, .int .u8 0, .int .u8 0, .int .u8 0, .int .u8 0, .int .u8 0, .int .u8 0, .int .u8 0, .int .u8 0, .int .u8 0, .int .u8 0, .int .u8 0, .int .u8 0, .int .u8 0, .int .u8 0, .int .u8 0, .int .u8 0, .int .u8 0, .int .u8 0, .int .u8 0, .int .u8 0, .int .u8 0, .int .u8 0, .int .u8 0, .int .u8 0, .int .u8 0, .int .u8 0, .int .u8 0, .int .u8 0, .int .u8 0, .int .u8 0, .int .u8 0, .int .u8 0, .int .u8 0, .int .u8 0, .int .u8 0, .int .u8 0, .int .u8 0, .int .u8 0, .int .u8 0, .int .u8 0] 112)).alloc o).there W.heap.size 0 64 := World.there_alloc (there64u W) o
theorem there8B (W : World) (o : Obj) : ((W.alloc o).alloc (.cells #[.int .u32 0, .int .u32 0, .int .u32 0, .int .u32 0, .int .u32 0, .int .u32 0, .int .u32 0, .int .u32 0] 111)).there (W.heap.size + 1) 0 8 := by
  have := there8u (W.alloc o); rwa [World.size_alloc] at this
theorem there64B (W : World) (o : Obj) : ((W.alloc o).alloc (.cells #[.int .u8 0, .int .u8 0, .int .u8 0, .int .u8 0, .int .u8 0, .int .u8 0, .int .u8 0, .int .u8 0, .int .u8 0, .int .u8 0, .int .u8 0, .int .u8 0, .int .u8 0, .int .u8 0, .int .u8 0, .int .u8 0, .int .u8 0, .int .u8 0, .int .u8 0, .int .u8 0, .int .u8 0, .int .u8 0, .int .u8 0, .int .u8 0, .int .u8 0, .int .u8 0, .int .u8 0, .int .u8 0, .int .u8 0, .int .u8 0, .int .u8 0, .int .u8 0, .int .u8 0, .int .u8 0, .int .u8 0, .int .u8 0, .int .u8 0, .int .u8 0, .int .u8 0, .int .u8 0, .int .u8 0, .int .u8 0, .int .u8 0, .int .u8 0, .int .u8 0, .int .u8 0, .int .u8 0, .int .u8 0, .int .u8 0, .int .u8 0, .int .u8 0, .int .u8 0, .int .u8 0, .int .u8 0, .int .u8 0, .int .u8 0, .int .u8 0, .int .u8 0, .int .u8 0, .int .u8 0, .int .u8 0, .int .u8 0, .int .u8 0, .int .u8 0] 112)).there (W.heap.size + 1) 0 64 := by
  have := there64u (W.alloc o); rwa [World.size_alloc] at this
theorem there_below {W W' : World} (hb : Below W.heap.size W W') (G n : Nat) (h : W.there G 0 n) : W'.there G 0 n := fun j hj => by
  obtain ⟨h1, h2⟩ := h j hj
  obtain ⟨u, hu⟩ := Option.isSome_iff_exists.1 h1
  have hlt := World.block_lt_of_cell? W _ hu
  rw [hb.cell (p := ⟨G, 0 + j, none⟩) hlt, hb.frozen (p := ⟨G, 0 + j, none⟩) hlt]
  exact ⟨h1, h2⟩

/-- The two copies. -/
def Two (V : World) (nw cs : List Value) (G3 G4 : Nat) (W : World) : Prop := Arr W G3 0 nw ∧ Arr W G4 0 cs ∧ Below V.heap.size V W ∧ V.heap.size ≤ G3 ∧ V.heap.size ≤ G4 ∧ G3 ≠ G4
theorem two_new {V X : World} {nw cs : List Value} {G3 G4 : Nat} (h3 : X.there G3 0 8) (h4 : X.there G4 0 64) (hn : nw.length = 8) (hc : cs.length = 64) (hb : Below V.heap.size V X) (g3 : V.heap.size ≤ G3) (g4 : V.heap.size ≤ G4) (hne : G3 ≠ G4) :
    Two V nw cs G3 G4 ((X.setCells G3 0 nw).setCells G4 0 cs) := by
  have a3 : Arr (X.setCells G3 0 nw) G3 0 nw := ⟨World.rangeAt_setCells_same X G3 0 nw (by rw [hn]; exact h3), World.there_setCells (by rw [hn]; exact h3) G3 0 nw⟩
  have t4 : (X.setCells G3 0 nw).there G4 0 cs.length := by rw [hc]; exact World.there_setCells h4 G3 0 nw
  exact ⟨a3.sets_other _ _ _ (.inl hne), ⟨World.rangeAt_setCells_same _ G4 0 cs t4, World.there_setCells t4 G4 0 cs⟩, below_setCells _ g4 _ _ _ (below_setCells _ g3 _ _ _ hb), g3, g4, hne⟩

theorem sum_mid {V Wc W2 : World} {G3 G4 h L : Nat} {c3 : List Value} {b1 : List UInt8} (A3 : Arr Wc G3 0 (c3)) (A4 : Arr Wc G4 0 (b1.map bv)) (AB : Below V.heap.size V Wc) (B2 : Below Wc.heap.size Wc W2) (s1 : S8) (b2 : List UInt8) (e2 : b2 = zs 64)
    (hb1 : b1.length = 64) (hne : G3 ≠ G4) (g3 : V.heap.size ≤ G3) (g4 : V.heap.size ≤ G4) (hg3 : G3 < Wc.heap.size) (hg4 : G4 < Wc.heap.size) (hlV : h < V.heap.size) (hc : V.cell? ⟨h, 72, none⟩ = some (.int .i64 (L : Int))) (hc3 : c3.length = 8 := by rfl) :
    Arr ((W2.setCells G3 0 (s1.toL.map wv)).setCells G4 0 zeroB) G3 0 (s1.toL.map wv) ∧ Arr ((W2.setCells G3 0 (s1.toL.map wv)).setCells G4 0 zeroB) G4 0 (b2.map bv) ∧ Below V.heap.size V ((W2.setCells G3 0 (s1.toL.map wv)).setCells G4 0 zeroB) ∧ ((W2.setCells G3 0 (s1.toL.map wv)).setCells G4 0 zeroB).cell? ⟨h, 72, none⟩ = some (.int .i64 (L : Int)) := by
  have hB := below_setCells G4 g4 zeroB 0 _ (below_setCells G3 g3 (s1.toL.map wv) 0 _ (AB.trans (B2.mono AB.size)))
  refine ⟨((A3.below B2 hg3).sets _ (by rw [hc3]; rfl)).sets_other _ _ _ (.inl hne), ?_, hB, (hB.cell (p := ⟨h, 72, none⟩) hlV).trans hc⟩
  rw [e2, zeroB_bv]
  exact ((A4.below B2 hg4).sets_other G3 0 _ (.inl (Ne.symm hne))).sets _ (by rw [List.length_map, hb1]; simp)

set_option maxHeartbeats 1600000 in
set_option maxRecDepth 100000 in
theorem sum_any (h : Nat) (m : List UInt8) (w : World) (H : HashIs w h m) (hT : Tab w) (hl : m.length < 1152921504606846976) :
    Calls Tryd.prog 74 #[.pointer (some ⟨h, 0, none⟩)] w fun e w' => e = .returned (.agg ((sumS m).map bv).toArray) ∧ Below w.heap.size w w' := by
  have hlt := H.lt
  have HH := Lib.hid H
  have HT := Lib.hid hT
  have HL := Lib.hid hl
  clear H hT hl
  go_enter Tryd.func74, Tryd.ntmps74
  go_wp2
  refine cwp_gen (fun V => Arr V w.heap.size 0 zero32 ∧ Below w.heap.size w V ∧ V.heap.size = w.heap.size + 1) ⟨new32 _ _ rfl _, below_alloc0 _ _ (Nat.le_refl _), by simp⟩ ?_
  rintro V ⟨hA, hB, hsz⟩
  have HHV := Lib.hid (HH.out.below hB hlt)
  have hc72 := HHV.out.lenCell
  obtain ⟨L, eL⟩ : ∃ L, L = m.length := ⟨_, rfl⟩
  rw [← eL] at hc72
  obtain ⟨U, eU⟩ : ∃ U, U = L % 64 := ⟨_, rfl⟩
  have hU64 : U < 64 := by omega
  have htm : (L : Int).tmod 64 = (U : Int) := by rw [Int.tmod_eq_emod_of_nonneg (by omega)]; omega
  have hL60 : L < 1152921504606846976 := by rw [eL]; exact HL.out
  obtain ⟨cs, ecs⟩ : ∃ cs, cs = restOf m := ⟨_, rfl⟩
  obtain ⟨st, est⟩ : ∃ st, st = stateAt m (m.length / 64) := ⟨_, rfl⟩
  have hlV : h < V.heap.size := by omega
  have hcsl : cs.length = 64 := by rw [ecs]; exact restOf_length m
  have hcsV : Arr V h 8 (cs.map bv) := by rw [ecs]; exact HHV.out.rest
  have HSt : Hid (∀ W, Below V.heap.size V W → Calls Tryd.prog 93 #[.pointer (some ⟨h, 0, none⟩)] W fun e W' => e = .returned (.agg (st.toL.map wv).toArray) ∧ Below W.heap.size W W') := Lib.hid (by
    intro W hb
    refine (state_parts h m W (HHV.out.words.below hb hlV) (HHV.out.len.below hb hlV)).mono ?_
    rintro e W' ⟨rfl, hb2⟩
    exact ⟨by rw [est], hb2⟩)
  have hKS : ∀ W : World, Below V.heap.size V W → (Below V.heap.size V W ∧ W.rangeAt h 8 (cs.map bv) ∧ W.cell? ⟨h, 72, none⟩ = some (.int .i64 (L : Int))) := fun W hb => ⟨hb, (hcsV.below hb hlV).1, (hb.cell (p := ⟨h, 72, none⟩) hlV).trans hc72⟩
  obtain ⟨nw, enw⟩ : ∃ nw, nw = st.toL.map wv := ⟨_, rfl⟩
  rw [← enw] at HSt
  have hnwl : nw.length = 8 := by rw [enw]; rfl
  have hnw1 : ∀ v ∈ nw, v.oneCell' = true := by rw [enw]; exact wvs_oneCell _
  have hlc : (cs.map bv).length = 64 := by rw [List.length_map, hcsl]
  have hcs1 : ∀ v ∈ cs.map bv, v.oneCell' = true := bvs_oneCell cs
  have hi64 : (Tryd.prog.info? 112).map (·.size) = some (cs.map bv).length := by rw [info64b, hlc]
  have hi8 : (Tryd.prog.info? 111).map (·.size) = some nw.length := by rw [info8w, hnwl]
  have hu64 := Tryd.underlying112
  have hst8 : ∀ (W : World) (G : Nat), W.there G 0 8 → (storeCells ⟨G, 0, none⟩ nw).run Tryd.prog W = .ok () (W.setCells G 0 nw) := fun W G ht => by
    have := run_storeCells_cells (P := Tryd.prog) G 0 nw 0 W (by rw [hnwl]; intro j hj; simpa using (ht j hj).1) (by rw [hnwl]; intro j hj; simpa using (ht j hj).2) hnw1
    simpa using this
  have hsa : ∀ (W : World) (o : Obj), (W.alloc o).heap.size = W.heap.size + 1 := fun W o => World.size_alloc W o
  have hT1 := there8u
  have hT2 := there64u
  have hT3 := there8A
  have hT4 := there64A
  have hT5 := there8B
  have hT6 := there64B
  have hTA : ∀ (W : World) (o : Obj) (G n : Nat), W.there G 0 n → (W.alloc o).there G 0 n := fun W o G n ht => World.there_alloc ht o
  have hTS : ∀ (W : World) (b o : Nat) (vs : List Value) (G n : Nat), W.there G 0 n → (W.setCells b o vs).there G 0 n := fun W b o vs G n ht => World.there_setCells ht b o vs
  have hTD : ∀ (W : World) (G n : Nat), W.there G 0 n → W.drew.there G 0 n := fun W G n ht => ht
  have hb00 : Below V.heap.size V V.drew := (Below.refl V.heap.size V).drew
  have HCS := Lib.hid ecs
  have HST := Lib.hid est
  have HNW := Lib.hid enw
  have HEL := Lib.hid eL
  have HEU := Lib.hid eU
  have HA := Lib.hid hA
  have HB := Lib.hid hB
  have HCL := Lib.hid hcsl
  have HSZ := Lib.hid hsz
  clear ecs est enw eL eU hA hB hcsl hsz hcsV
  rename_i Q' K hK
  have key : ∀ (G3 G4 : Nat) (W : World), Two V nw (cs.map bv) G3 G4 W → K { tmps := #[.pointer (some ⟨h, 0, none⟩), undef, .pointer (some ⟨w.heap.size, 0, none⟩), .pointer (some ⟨G3, 0, none⟩), .pointer (some ⟨G4, 0, none⟩), .int .i64 (U : Int), undef, undef, undef, undef, .pointer (some ⟨h, 0, none⟩), .bool false, undef, .pointer (some ⟨h, 0, none⟩), .agg nw.toArray, .pointer (some ⟨h, 0, none⟩), .pointer (some ⟨h, 0, none⟩), .pointer (some ⟨h, 8, none⟩), .agg (cs.map bv).toArray, .pointer (some ⟨h, 0, none⟩), .pointer (some ⟨h, 0, none⟩), .pointer (some ⟨h, 72, none⟩), .int .i64 (L : Int), .int .i64 (U : Int), undef, undef, undef, undef, undef, undef, undef, undef, undef, undef, undef, undef, undef, undef, undef, undef, undef, undef, undef, undef, undef, undef, undef, undef, undef, undef, undef, undef, undef, undef, undef, undef, undef, undef, undef, undef, undef, undef, undef, undef, undef, undef, undef, undef, undef, undef], defers := [] } W := by
    intro G3 G4 W hTw
    refine hK _ _ ?_
    obtain ⟨t3, t4, hbW, g3, g4, hne⟩ := hTw
    have hf4 := t4.frozen0 (i := U) (by omega)
    obtain ⟨v4, hv4⟩ := Option.isSome_iff_exists.1 (t4.2 U (by omega)).1
    simp only [Nat.zero_add] at hv4
    have hU0 : (0 : Int) ≤ (U : Int) := by omega
    have hU1 : (U : Int) < 64 := by omega
    have T3 := Lib.hid t3
    have T4 := Lib.hid t4
    have TB := Lib.hid hbW
    clear t3 t4 hbW hKS hst8 hTA hTS hTD hT1 hT2 hT3 hT4 hT5 hT6 hb00 htm hsa
    have hcsm : cs = restOf m := HCS.out
    have HTV : Hid (Tab V) := Lib.hid (HT.out.below HB.out HT.out.1)
    obtain ⟨b1, eb1⟩ : ∃ b, b = tailOf m ++ [128] ++ zs (63 - U) := ⟨_, rfl⟩
    have hm64 : m.length % 64 = U := by rw [HEU.out, HEL.out]
    have a4 : Arr (W.setCell ⟨G4, U, none⟩ (.int .u8 128)) G4 0 (b1.map bv) := by
      have := T4.out.set0 (i := U) (by rw [hlc]; exact hU64) (bv 128)
      rw [← List.map_set, hcsm, ← hm64, rest_set m, hm64, ← eb1] at this
      exact this
    have a3 : Arr (W.setCell ⟨G4, U, none⟩ (.int .u8 128)) G3 0 (st.toL.map wv) := by
      rw [← HNW.out]; exact T3.out.other _ (.inl (Ne.symm hne))
    have aB : Below V.heap.size V (W.setCell ⟨G4, U, none⟩ (.int .u8 128)) := TB.out.setCell (p := ⟨G4, U, none⟩) g4 _
    have hb1 : b1.length = 64 := by rw [eb1, List.length_append, List.length_append, tailOf_length, hm64]; simp [zs]; omega
    have hB1 := Lib.hid hb1
    have A4 := Lib.hid a4
    have A3 := Lib.hid a3
    have AB := Lib.hid aB
    have EB1 := Lib.hid eb1
    have HM64 := Lib.hid hm64
    clear hcsm a4 a3 aB hb1 eb1 hm64
    by_cases hU : (56 : Int) ≤ (U : Int)
    · have hc5 := hc72
      have E1 : Hid ((zs 64).length = 64) := Lib.hid (by simp [zs])
      have E2 : Hid (digest (compressS (compressS st b1) ((zs 64).take 56 ++ lenBytes L)) = sumS m) := Lib.hid (by
        have := sum_high m (by rw [HM64.out]; omega)
        rw [HM64.out, ← EB1.out, ← HST.out, ← HEL.out] at this; exact this)
      obtain ⟨b2, eb2⟩ : ∃ b, b = zs 64 := ⟨_, rfl⟩
      obtain ⟨s1, es1⟩ : ∃ s, s = compressS st b1 := ⟨_, rfl⟩
      rw [← eb2] at E1 E2
      rw [← es1] at E2
      have HC1 : Hid (Calls Tryd.prog 92 #[.agg nw.toArray, .agg (b1.map bv).toArray] (W.setCell ⟨G4, U, none⟩ (.int .u8 128)) fun e W' => e = .returned (.agg (s1.toL.map wv).toArray) ∧ Below (W.setCell ⟨G4, U, none⟩ (.int .u8 128)).heap.size (W.setCell ⟨G4, U, none⟩ (.int .u8 128)) W') := Lib.hid (by
        rw [HNW.out]
        refine (compress_any st b1 _ hB1.out (HTV.out.below AB.out HTV.out.1)).mono ?_
        rintro e W' ⟨rfl, hb⟩
        exact ⟨by rw [es1], hb⟩)
      have HI1 : Hid ((Tryd.prog.info? 112).map (·.size) = some (b1.map bv).length) := Lib.hid (by rw [info64b, List.length_map, hB1.out])
      have A3n : Hid (Arr (W.setCell ⟨G4, U, none⟩ (.int .u8 128)) G3 0 nw) := Lib.hid (by rw [HNW.out]; exact A3.out)
      have hg3 := A3.out.lt (by simp [S8.toL])
      have hg4 := A4.out.lt (by rw [List.length_map, hB1.out]; omega)
      have HEB2 := Lib.hid eb2
      clear eb2 es1
      go_wp2_with (first
        | (show wpList _ _ _ (⟨some 28, _, _, _, _, _⟩ :: _) _ _; refine wpList_load_mid (by rfl) 111 (.tmp 3) (by rfl) G3 0 (by rfl) nw _ A3n.out.1 Tryd.underlying111 rfl hi8 ?_)
        | (show wpList _ _ _ (⟨some 29, _, _, _, _, _⟩ :: _) _ _; refine wpList_load_mid (by rfl) 112 (.tmp 4) (by rfl) G4 0 (by rfl) (b1.map bv) _ A4.out.1 Tryd.underlying112 rfl HI1.out ?_)
        | (go_at_call 92; refine HC1.out.mono ?_; rintro e W2 ⟨rfl, hb2⟩; have B2 := Lib.hid hb2; clear hb2)
        | (show wpList _ _ _ (⟨none, .store 111 _ _, _, _, _, _⟩ :: _) _ _; refine wpList_store_mid (by rfl) 111 (.tmp 3) (.tmp 30) (by rfl) G3 0 (s1.toL.map wv).toArray (by rfl) (by rfl) (A3.out.below B2.out hg3).2 info8w (all_oneCell_toArray (wvs_oneCell _)) ?_)
        | (show wpList _ _ _ (⟨none, .store 112 _ _, _, _, _, _⟩ :: _) _ _; refine wpList_store_mid (by rfl) 112 (.tmp 4) (.tmp 31) (by rfl) G4 0 zeroB.toArray (by rfl) (by rfl) (((A4.out.below B2.out hg4).sets_other G3 0 (s1.toL.map wv) (.inl (Ne.symm hne))).thereA zeroB (by rw [List.length_map, hB1.out]; simp)) infoZ (all_oneCell_toArray zeroB_one) ?_; refine wpl_gen (fun W3 => Arr W3 G3 0 (s1.toL.map wv) ∧ Arr W3 G4 0 (b2.map bv) ∧ Below V.heap.size V W3 ∧ W3.cell? ⟨h, 72, none⟩ = some (.int .i64 (L : Int)))
            (sum_mid A3.out A4.out AB.out B2.out s1 b2 HEB2.out hB1.out hne g3 g4 hg3 hg4 hlV hc5) ?_; rintro W3 ⟨y3, y4, yB, hc6⟩; have Y3 := Lib.hid y3; have Y4 := Lib.hid y4; have YB := Lib.hid yB; clear y3 y4 yB))
      refine cwp_gen (fun Wx => Arr Wx G3 0 (s1.toL.map wv) ∧ Arr Wx G4 0 (b2.map bv) ∧ Below V.heap.size V Wx) ⟨Y3.out, Y4.out, YB.out⟩ ?_
      rintro Wx ⟨x3, x4, xB⟩
      have X3 := Lib.hid x3
      have X4 := Lib.hid x4
      have XB := Lib.hid xB
      clear x3 x4 xB Y3 Y4 YB
      go_loopw [38] (fun i wr => ∃ k : Nat, i = .int .i64 (k : Int) ∧ k ≤ 8 ∧ Arr wr G3 0 (s1.toL.map wv) ∧ Arr wr G4 0 ((lenAcc b2 L k).map bv) ∧ Below V.heap.size V wr) (fun i _ => 8 - (intOf i).toNat)
      case atStart => exact ⟨0, rfl, by omega, X3.out, X4.out, XB.out⟩
      case round =>
        obtain ⟨k, rfl, hk, r3, r4, rB⟩ := hrel
        by_cases hk2 : (k : Int) < 8
        · have hb2l : ((lenAcc b2 L k).map bv).length = 64 := by rw [List.length_map, lenAcc_length, E1.out]
          have hf := r4.frozen0 (i := 63 - k) (by rw [hb2l]; omega)
          obtain ⟨v5, hv5⟩ := Option.isSome_iff_exists.1 (r4.2 (63 - k) (by rw [hb2l]; omega)).1
          simp only [Nat.zero_add] at hv5
          have hi0 : (0 : Int) ≤ 63 - (k : Int) := by omega
          have hi1 : 63 - (k : Int) < 64 := by omega
          have hi2 : (63 - (k : Int)).toNat = 63 - k := by omega
          have hi3 : (0 : Int) ≤ 8 * (k : Int) := by omega
          have hi4 : min (8 * (k : Int)).toNat 64 = 8 * k := by omega
          have R3 := Lib.hid r3
          have R4 := Lib.hid r4
          have RB := Lib.hid rB
          have HBL := Lib.hid hb2l
          clear r3 r4 rB hb2l
          go_wp2
          rw [lenByte_eq]
          go_roundw
          case rel =>
            refine ⟨k + 1, rfl, by omega, R3.out.other _ (.inl (Ne.symm hne)), ?_, RB.out.setCell (p := ⟨G4, 63 - k, none⟩) g4 _⟩
            rw [lenAcc, List.map_set]
            exact R4.out.set0 (by rw [HBL.out]; omega) _
          case measure => simp [intOf] <;> omega
        · have hk3 : k = 8 := by omega
          subst hk3
          rw [lenAcc_all _ _ E1.out] at r4
          obtain ⟨b3, eb3⟩ : ∃ b, b = b2.take 56 ++ lenBytes L := ⟨_, rfl⟩
          have hb3 : b3.length = 64 := by rw [eb3, List.length_append, List.length_take, E1.out, lenBytes_length]; omega
          rw [← eb3] at r4 E2
          obtain ⟨s2, es2⟩ : ∃ s, s = compressS s1 b3 := ⟨_, rfl⟩
          rw [← es2] at E2
          have HCo : Hid (Calls Tryd.prog 92 #[.agg (s1.toL.map wv).toArray, .agg (b3.map bv).toArray] wr fun e W' => e = .returned (.agg (s2.toL.map wv).toArray) ∧ Below wr.heap.size wr W') := Lib.hid (by
            refine (compress_any s1 b3 wr hb3 ((HTV.out.below rB HTV.out.1))).mono ?_
            rintro e W' ⟨rfl, hb⟩
            exact ⟨by rw [es2], hb⟩)
          have HI3 : Hid ((Tryd.prog.info? 112).map (·.size) = some (b3.map bv).length) := Lib.hid (by rw [info64b, List.length_map, hb3])
          have R3 := Lib.hid r3
          have R4 := Lib.hid r4
          have RB := Lib.hid rB
          have g3' := r3.lt (by simp [S8.toL])
          clear r3 r4 rB hb3 eb3 es2
          go_wp2_with (first
            | (refine wpList_load_mid (by rfl) 111 (.tmp 3) (by rfl) G3 0 (by rfl) (s1.toL.map wv) _ R3.out.1 Tryd.underlying111 rfl info8w ?_)
            | (refine wpList_load_mid (by rfl) 112 (.tmp 4) (by rfl) G4 0 (by rfl) (b3.map bv) _ R4.out.1 Tryd.underlying112 rfl HI3.out ?_)
            | (go_at_call 92; refine HCo.out.mono ?_; rintro e W2 ⟨rfl, hb2⟩; have B2 := Lib.hid hb2; clear hb2)
            | (refine wpList_store_mid (by rfl) 111 (.tmp 3) (.tmp 52) (by rfl) G3 0 (s2.toL.map wv).toArray (by rfl) (by rfl) (R3.out.below B2.out g3').2 info8w (all_oneCell_toArray (wvs_oneCell _)) ?_; refine wpl_gen (fun W3 => Arr W3 G3 0 (s2.toL.map wv) ∧ Below V.heap.size V W3) ⟨(R3.out.below B2.out g3').sets _ rfl, below_setCells _ g3 _ _ _ (RB.out.trans (B2.out.mono RB.out.size))⟩ ?_; rintro W3 ⟨y3, yB⟩; have Z3 := Lib.hid y3; have ZB := Lib.hid yB; clear y3 yB))
          refine cwp_gen (fun Wy => Arr Wy G3 0 (s2.toL.map wv) ∧ Arr Wy W3.heap.size 0 ((zs 32).map bv) ∧ Below V.heap.size V Wy) ⟨Z3.out.alloc _, by rw [zero32_bv]; exact new32 _ _ rfl _, ZB.out.alloc ZB.out.size _⟩ ?_
          rintro Wy ⟨x3, x4, xB⟩
          have hn35 : W3.heap.size ≠ G3 := by have := Z3.out.lt (by simp [S8.toL]); omega
          have hV3 := ZB.out.size
          have X3 := Lib.hid x3
          have X4 := Lib.hid x4
          have XB := Lib.hid xB
          clear x3 x4 xB
          go_loopw [53] (fun i wr => ∃ k : Nat, i = .int .i64 (k : Int) ∧ k ≤ 32 ∧ Arr wr G3 0 (s2.toL.map wv) ∧ Arr wr W3.heap.size 0 ((digAcc s2 k).map bv) ∧ Below V.heap.size V wr) (fun i _ => 32 - (intOf i).toNat)
          case atStart => exact ⟨0, rfl, by omega, X3.out, X4.out, XB.out⟩
          case round =>
            obtain ⟨k, rfl, hk, r3, r4, rB⟩ := hrel
            by_cases hk2 : (k : Int) < 32
            · have hdl : ((digAcc s2 k).map bv).length = 32 := by rw [List.length_map, digAcc_length _ _ hk]
              have hf := r4.frozen0 (i := k) (by rw [hdl]; omega)
              obtain ⟨v5, hv5⟩ := Option.isSome_iff_exists.1 (r4.2 k (by rw [hdl]; omega)).1
              simp only [Nat.zero_add] at hv5
              obtain ⟨x, ex⟩ : ∃ x, x = s2.toL.getD (k / 4) 0 := ⟨_, rfl⟩
              have hcx := r3.cell0 (i := k / 4) (v := wv x) (by
                have h8 : k / 4 < s2.toL.length := by rw [toL_length]; omega
                rw [ex, List.getElem?_map, List.getD_eq_getElem?_getD, List.getElem?_eq_getElem h8]; rfl)
              have hj1 : (0 : Int) ≤ 24 - 8 * ((k : Int) % 4) := by omega
              have hj2 : min (24 - 8 * ((k : Int) % 4)).toNat 32 = 24 - 8 * (k % 4) := by omega
              have HD : Hid (UInt8.ofNat (x.toNat / 2 ^ (24 - 8 * (k % 4))) = dbyte s2 k) := Lib.hid (by rw [ex]; rfl)
              have R3 := Lib.hid r3
              have R4 := Lib.hid r4
              have RB := Lib.hid rB
              have HBL := Lib.hid hdl
              clear r3 r4 rB hdl ex
              go_wp2
              rw [dbyte_eq, HD.out]
              go_roundw
              case rel =>
                refine ⟨k + 1, rfl, by omega, R3.out.other _ (.inl hn35), ?_, RB.out.setCell (p := ⟨W3.heap.size, k, none⟩) hV3 _⟩
                rw [digAcc_step _ _ (by omega), List.map_set]
                exact R4.out.set0 (by rw [HBL.out]; omega) _
              case measure => simp [intOf] <;> omega
            · have hk3 : k = 32 := by omega
              subst hk3
              rw [digAcc_all, E2.out] at r4
              obtain ⟨dg, edg⟩ : ∃ d, d = sumS m := ⟨_, rfl⟩
              rw [← edg] at r4
              have hdg : (dg.map bv).length = 32 := by rw [List.length_map, edg]; unfold sumS; exact digest_length _
              have a2 := HA.out.below rB (by have := HSZ.out; omega)
              have R2 := Lib.hid (a2.thereA (dg.map bv) (by rw [hdg]; rfl))
              have HI9 : Hid ((Tryd.prog.info? 96).map (·.size) = some (dg.map bv).length) := Lib.hid (by rw [info32, hdg])
              have HI8 : Hid ((Tryd.prog.info? 96).map (·.size) = some (dg.map bv).toArray.size) := Lib.hid (by rw [info32, List.size_toArray, hdg])
              have A2 := Lib.hid a2
              have R4 := Lib.hid r4
              have RB := Lib.hid rB
              have HDG := Lib.hid hdg
              have HED := Lib.hid edg
              clear r3 r4 rB a2 hdg edg
              go_wp2_with (first
                | (refine wpList_load_mid (by rfl) 96 (.tmp 8) (by rfl) W3.heap.size 0 (by rfl) (dg.map bv) _ R4.out.1 Tryd.underlying96 rfl HI9.out ?_)
                | (refine wpList_store_mid (by rfl) 96 (.tmp 2) (.tmp 69) (by rfl) w.heap.size 0 (dg.map bv).toArray (by rfl) (by rfl) R2.out HI8.out (all_oneCell_toArray (bvs_oneCell _)) ?_))
              refine bodyPost_ret (results_cell_mid rfl _ _ w.heap.size (dg.map bv) _ rfl (A2.out.sets _ (by rw [HDG.out]; rfl)) Tryd.underlying96 rfl HI9.out) rfl ?_
              exact ⟨by rw [HED.out], below_setCells _ (Nat.le_refl _) _ _ _ (HB.out.trans (RB.out.mono HB.out.size))⟩
    · have hc5 := (TB.out.cell (p := ⟨h, 72, none⟩) hlV).trans hc72
      have E1 := hB1
      have E2 : Hid (digest (compressS st (b1.take 56 ++ lenBytes L)) = sumS m) := Lib.hid (by
        have := sum_low m (by rw [HM64.out]; omega)
        rw [HM64.out, ← EB1.out, ← HST.out, ← HEL.out] at this; exact this)
      obtain ⟨b2, eb2⟩ : ∃ b, b = b1 := ⟨_, rfl⟩
      obtain ⟨s1, es1⟩ : ∃ s, s = st := ⟨_, rfl⟩
      rw [← eb2] at E1 E2
      rw [← es1] at E2
      have Y3 : Hid (Arr (W.setCell ⟨G4, U, none⟩ (.int .u8 128)) G3 0 (s1.toL.map wv)) := Lib.hid (by rw [es1]; exact A3.out)
      have Y4 : Hid (Arr (W.setCell ⟨G4, U, none⟩ (.int .u8 128)) G4 0 (b2.map bv)) := Lib.hid (by rw [eb2]; exact A4.out)
      have YB := AB
      clear eb2 es1
      go_wp2
      refine cwp_gen (fun Wx => Arr Wx G3 0 (s1.toL.map wv) ∧ Arr Wx G4 0 (b2.map bv) ∧ Below V.heap.size V Wx) ⟨Y3.out, Y4.out, YB.out⟩ ?_
      rintro Wx ⟨x3, x4, xB⟩
      have X3 := Lib.hid x3
      have X4 := Lib.hid x4
      have XB := Lib.hid xB
      clear x3 x4 xB Y3 Y4 YB
      go_loopw [38] (fun i wr => ∃ k : Nat, i = .int .i64 (k : Int) ∧ k ≤ 8 ∧ Arr wr G3 0 (s1.toL.map wv) ∧ Arr wr G4 0 ((lenAcc b2 L k).map bv) ∧ Below V.heap.size V wr) (fun i _ => 8 - (intOf i).toNat)
      case atStart => exact ⟨0, rfl, by omega, X3.out, X4.out, XB.out⟩
      case round =>
        obtain ⟨k, rfl, hk, r3, r4, rB⟩ := hrel
        by_cases hk2 : (k : Int) < 8
        · have hb2l : ((lenAcc b2 L k).map bv).length = 64 := by rw [List.length_map, lenAcc_length, E1.out]
          have hf := r4.frozen0 (i := 63 - k) (by rw [hb2l]; omega)
          obtain ⟨v5, hv5⟩ := Option.isSome_iff_exists.1 (r4.2 (63 - k) (by rw [hb2l]; omega)).1
          simp only [Nat.zero_add] at hv5
          have hi0 : (0 : Int) ≤ 63 - (k : Int) := by omega
          have hi1 : 63 - (k : Int) < 64 := by omega
          have hi2 : (63 - (k : Int)).toNat = 63 - k := by omega
          have hi3 : (0 : Int) ≤ 8 * (k : Int) := by omega
          have hi4 : min (8 * (k : Int)).toNat 64 = 8 * k := by omega
          have R3 := Lib.hid r3
          have R4 := Lib.hid r4
          have RB := Lib.hid rB
          have HBL := Lib.hid hb2l
          clear r3 r4 rB hb2l
          go_wp2
          rw [lenByte_eq]
          go_roundw
          case rel =>
            refine ⟨k + 1, rfl, by omega, R3.out.other _ (.inl (Ne.symm hne)), ?_, RB.out.setCell (p := ⟨G4, 63 - k, none⟩) g4 _⟩
            rw [lenAcc, List.map_set]
            exact R4.out.set0 (by rw [HBL.out]; omega) _
          case measure => simp [intOf] <;> omega
        · have hk3 : k = 8 := by omega
          subst hk3
          rw [lenAcc_all _ _ E1.out] at r4
          obtain ⟨b3, eb3⟩ : ∃ b, b = b2.take 56 ++ lenBytes L := ⟨_, rfl⟩
          have hb3 : b3.length = 64 := by rw [eb3, List.length_append, List.length_take, E1.out, lenBytes_length]; omega
          rw [← eb3] at r4 E2
          obtain ⟨s2, es2⟩ : ∃ s, s = compressS s1 b3 := ⟨_, rfl⟩
          rw [← es2] at E2
          have HCo : Hid (Calls Tryd.prog 92 #[.agg (s1.toL.map wv).toArray, .agg (b3.map bv).toArray] wr fun e W' => e = .returned (.agg (s2.toL.map wv).toArray) ∧ Below wr.heap.size wr W') := Lib.hid (by
            refine (compress_any s1 b3 wr hb3 ((HTV.out.below rB HTV.out.1))).mono ?_
            rintro e W' ⟨rfl, hb⟩
            exact ⟨by rw [es2], hb⟩)
          have HI3 : Hid ((Tryd.prog.info? 112).map (·.size) = some (b3.map bv).length) := Lib.hid (by rw [info64b, List.length_map, hb3])
          have R3 := Lib.hid r3
          have R4 := Lib.hid r4
          have RB := Lib.hid rB
          have g3' := r3.lt (by simp [S8.toL])
          clear r3 r4 rB hb3 eb3 es2
          go_wp2_with (first
            | (refine wpList_load_mid (by rfl) 111 (.tmp 3) (by rfl) G3 0 (by rfl) (s1.toL.map wv) _ R3.out.1 Tryd.underlying111 rfl info8w ?_)
            | (refine wpList_load_mid (by rfl) 112 (.tmp 4) (by rfl) G4 0 (by rfl) (b3.map bv) _ R4.out.1 Tryd.underlying112 rfl HI3.out ?_)
            | (go_at_call 92; refine HCo.out.mono ?_; rintro e W2 ⟨rfl, hb2⟩; have B2 := Lib.hid hb2; clear hb2)
            | (refine wpList_store_mid (by rfl) 111 (.tmp 3) (.tmp 52) (by rfl) G3 0 (s2.toL.map wv).toArray (by rfl) (by rfl) (R3.out.below B2.out g3').2 info8w (all_oneCell_toArray (wvs_oneCell _)) ?_; refine wpl_gen (fun W3 => Arr W3 G3 0 (s2.toL.map wv) ∧ Below V.heap.size V W3) ⟨(R3.out.below B2.out g3').sets _ rfl, below_setCells _ g3 _ _ _ (RB.out.trans (B2.out.mono RB.out.size))⟩ ?_; rintro W3 ⟨y3, yB⟩; have Z3 := Lib.hid y3; have ZB := Lib.hid yB; clear y3 yB))
          refine cwp_gen (fun Wy => Arr Wy G3 0 (s2.toL.map wv) ∧ Arr Wy W3.heap.size 0 ((zs 32).map bv) ∧ Below V.heap.size V Wy) ⟨Z3.out.alloc _, by rw [zero32_bv]; exact new32 _ _ rfl _, ZB.out.alloc ZB.out.size _⟩ ?_
          rintro Wy ⟨x3, x4, xB⟩
          have hn35 : W3.heap.size ≠ G3 := by have := Z3.out.lt (by simp [S8.toL]); omega
          have hV3 := ZB.out.size
          have X3 := Lib.hid x3
          have X4 := Lib.hid x4
          have XB := Lib.hid xB
          clear x3 x4 xB
          go_loopw [53] (fun i wr => ∃ k : Nat, i = .int .i64 (k : Int) ∧ k ≤ 32 ∧ Arr wr G3 0 (s2.toL.map wv) ∧ Arr wr W3.heap.size 0 ((digAcc s2 k).map bv) ∧ Below V.heap.size V wr) (fun i _ => 32 - (intOf i).toNat)
          case atStart => exact ⟨0, rfl, by omega, X3.out, X4.out, XB.out⟩
          case round =>
            obtain ⟨k, rfl, hk, r3, r4, rB⟩ := hrel
            by_cases hk2 : (k : Int) < 32
            · have hdl : ((digAcc s2 k).map bv).length = 32 := by rw [List.length_map, digAcc_length _ _ hk]
              have hf := r4.frozen0 (i := k) (by rw [hdl]; omega)
              obtain ⟨v5, hv5⟩ := Option.isSome_iff_exists.1 (r4.2 k (by rw [hdl]; omega)).1
              simp only [Nat.zero_add] at hv5
              obtain ⟨x, ex⟩ : ∃ x, x = s2.toL.getD (k / 4) 0 := ⟨_, rfl⟩
              have hcx := r3.cell0 (i := k / 4) (v := wv x) (by
                have h8 : k / 4 < s2.toL.length := by rw [toL_length]; omega
                rw [ex, List.getElem?_map, List.getD_eq_getElem?_getD, List.getElem?_eq_getElem h8]; rfl)
              have hj1 : (0 : Int) ≤ 24 - 8 * ((k : Int) % 4) := by omega
              have hj2 : min (24 - 8 * ((k : Int) % 4)).toNat 32 = 24 - 8 * (k % 4) := by omega
              have HD : Hid (UInt8.ofNat (x.toNat / 2 ^ (24 - 8 * (k % 4))) = dbyte s2 k) := Lib.hid (by rw [ex]; rfl)
              have R3 := Lib.hid r3
              have R4 := Lib.hid r4
              have RB := Lib.hid rB
              have HBL := Lib.hid hdl
              clear r3 r4 rB hdl ex
              go_wp2
              rw [dbyte_eq, HD.out]
              go_roundw
              case rel =>
                refine ⟨k + 1, rfl, by omega, R3.out.other _ (.inl hn35), ?_, RB.out.setCell (p := ⟨W3.heap.size, k, none⟩) hV3 _⟩
                rw [digAcc_step _ _ (by omega), List.map_set]
                exact R4.out.set0 (by rw [HBL.out]; omega) _
              case measure => simp [intOf] <;> omega
            · have hk3 : k = 32 := by omega
              subst hk3
              rw [digAcc_all, E2.out] at r4
              obtain ⟨dg, edg⟩ : ∃ d, d = sumS m := ⟨_, rfl⟩
              rw [← edg] at r4
              have hdg : (dg.map bv).length = 32 := by rw [List.length_map, edg]; unfold sumS; exact digest_length _
              have a2 := HA.out.below rB (by have := HSZ.out; omega)
              have R2 := Lib.hid (a2.thereA (dg.map bv) (by rw [hdg]; rfl))
              have HI9 : Hid ((Tryd.prog.info? 96).map (·.size) = some (dg.map bv).length) := Lib.hid (by rw [info32, hdg])
              have HI8 : Hid ((Tryd.prog.info? 96).map (·.size) = some (dg.map bv).toArray.size) := Lib.hid (by rw [info32, List.size_toArray, hdg])
              have A2 := Lib.hid a2
              have R4 := Lib.hid r4
              have RB := Lib.hid rB
              have HDG := Lib.hid hdg
              have HED := Lib.hid edg
              clear r3 r4 rB a2 hdg edg
              go_wp2_with (first
                | (refine wpList_load_mid (by rfl) 96 (.tmp 8) (by rfl) W3.heap.size 0 (by rfl) (dg.map bv) _ R4.out.1 Tryd.underlying96 rfl HI9.out ?_)
                | (refine wpList_store_mid (by rfl) 96 (.tmp 2) (.tmp 69) (by rfl) w.heap.size 0 (dg.map bv).toArray (by rfl) (by rfl) R2.out HI8.out (all_oneCell_toArray (bvs_oneCell _)) ?_))
              refine bodyPost_ret (results_cell_mid rfl _ _ w.heap.size (dg.map bv) _ rfl (A2.out.sets _ (by rw [HDG.out]; rfl)) Tryd.underlying96 rfl HI9.out) rfl ?_
              exact ⟨by rw [HED.out], below_setCells _ (Nat.le_refl _) _ _ _ (HB.out.trans (RB.out.mono HB.out.size))⟩
  go_region_held3 (fun W => Below V.heap.size V W ∧ W.rangeAt h 8 (cs.map bv) ∧ W.cell? ⟨h, 72, none⟩ = some (.int .i64 (L : Int)))
    ((refine hKS _ ?_; first
      | assumption
      | (exact Below.drew (Below.alloc (Below.refl _ V) (Nat.le_refl _) _))
      | (exact Below.drew (Below.alloc (Below.alloc (Below.refl _ V) (Nat.le_refl _) _) (by simp) _))
      | (exact Below.drew (by first | assumption | exact And.left (by assumption)))
      | (refine Below.alloc (by first | assumption | exact And.left (by assumption)) ?_ _; exact Below.size (by first | assumption | exact And.left (by assumption)))
      | (refine below_setCells _ ?_ _ _ _ (by first | assumption | exact And.left (by assumption)); first | omega | (simp; omega))))
    (first | (go_at_call 93; refine (HSt.out _ (by first | assumption | exact And.left (by assumption))).mono ?_; rintro e W' ⟨rfl, hb'⟩; have htt' := there_below hb'; (try have k1 := htt' V.heap.size 8 (there8u V)); (try have k2 := htt' V.heap.size 64 (there64u V)); (try have k3 := htt' V.heap.size 8 (there8A V _)); (try have k4 := htt' V.heap.size 64 (there64A V _)); (try have k5 := htt' (V.heap.size + 1) 8 (there8B V _)); (try have k6 := htt' (V.heap.size + 1) 64 (there64B V _)); clear htt'; have hsz' := hb'.size; (try simp only [heap_drew, World.size_alloc] at hsz'); have hbv' := Below.trans (by first | assumption | exact And.left (by assumption) : Below V.heap.size V _) (hb'.mono (Below.size (by first | assumption | exact And.left (by assumption)))); have hsv' := Below.size hbv'; clear hb'))
  all_goals
    refine gen_post (Two V nw (cs.map bv) _ _) (two_new
      (by first | assumption | exact there8A _ _ | exact there8B _ _ | exact there8u _ | exact World.there_alloc (by assumption) _)
      (by first | assumption | exact there64A _ _ | exact there64B _ _ | exact there64u _ | exact World.there_alloc (by assumption) _) hnwl hlc
      (by first | assumption | exact Below.alloc (by assumption) (by assumption) _ | exact Below.alloc (Below.alloc (by assumption) (by assumption) _) (by simp; omega) _)
      (by first | omega | (simp; omega)) (by first | omega | (simp; omega)) (by first | omega | (simp; omega))) ?_
    intro W0 hTw
    exact key _ _ W0 hTw
end Go.Proofs.YtifbeemcphndfaaDoor
