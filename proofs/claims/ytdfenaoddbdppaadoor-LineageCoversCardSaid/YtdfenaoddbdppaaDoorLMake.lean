/- lineage: the walk of Make. -/
import Derived.Test.YtdfenaoddbdppaaDoorLMath
import Derived.Test.YtdfenaoddbdppaaDoorLBld
import Derived.Lib.ItoaMem
set_option linter.unusedVariables false
namespace Go.Proofs.YtdfenaoddbdppaaDoor
open Go.RowKit

/-! ### Slices of integers -/
abbrev zv (s : Int) : Value := .int .i64 s
/-- The slice value '.slice A l.length cap' reads as the integers l, below block B. -/
def RZ (w : World) (B : Nat) (A : Option Addr) (l : List Int) : Prop :=
  0 < l.length → ∃ b off, A = some ⟨b, off, none⟩ ∧ b < B ∧ ∀ j s, l[j]? = some s → w.cell? ⟨b, off + j, none⟩ = some (zv s)
theorem RZ.nil {w : World} {B : Nat} {A : Option Addr} : RZ w B A [] := fun h => absurd h (by simp)
theorem RZ.below {w w' : World} {B : Nat} {A : Option Addr} {l : List Int} (h : RZ w B A l) (hb : Below B w w') : RZ w' B A l := fun hn => by
  obtain ⟨b, off, rfl, hlt, hc⟩ := h hn
  exact ⟨b, off, rfl, hlt, fun j c hj => (hb.cell (p := ⟨b, off + j, none⟩) hlt).trans (hc j c hj)⟩
theorem RZ.more {w : World} {B B' : Nat} {A : Option Addr} {l : List Int} (h : RZ w B A l) (hB : B ≤ B') : RZ w B' A l := fun hn => by
  obtain ⟨b, off, rfl, hlt, hc⟩ := h hn
  exact ⟨b, off, rfl, by omega, hc⟩
theorem RZ.at_ {w : World} {B : Nat} {A : Option Addr} {l : List Int} (h : RZ w B A l) {k : Nat} (hk : k < l.length) :
    ∃ b off c, A = some ⟨b, off, none⟩ ∧ b < B ∧ l[k]? = some c ∧ w.cell? ⟨b, off + k, none⟩ = some (zv c) := by
  obtain ⟨b, off, rfl, hb, hc⟩ := h (by omega)
  exact ⟨b, off, l[k], rfl, hb, List.getElem?_eq_getElem hk, hc k _ (List.getElem?_eq_getElem hk)⟩
theorem RI.toRZ {w : World} {B : Nat} {A : Option Addr} {l : List Nat} (h : RI w B A l) : RZ w B A (l.map Int.ofNat) := fun hn => by
  obtain ⟨b, off, rfl, hb, hc⟩ := h (by simpa using hn)
  refine ⟨b, off, rfl, hb, fun j s hj => ?_⟩
  rw [List.getElem?_map, Option.map_eq_some_iff] at hj
  obtain ⟨x, hx, rfl⟩ := hj
  exact hc j x hx
theorem RZ.toRI {w : World} {B : Nat} {A : Option Addr} {l : List Int} (h : RZ w B A l) (hp : ∀ x ∈ l, 0 ≤ x) : RI w B A (l.map Int.toNat) := fun hn => by
  obtain ⟨b, off, rfl, hb, hc⟩ := h (by simpa using hn)
  refine ⟨b, off, rfl, hb, fun j s hj => ?_⟩
  rw [List.getElem?_map, Option.map_eq_some_iff] at hj
  obtain ⟨x, hx, rfl⟩ := hj
  have := hc j x hx
  rw [this, zv, iv, Int.toNat_of_nonneg (hp x (List.mem_of_getElem? hx))]

/-! ### The table of powers of ten, and Itoa -/
theorem gPow : Tryd.prog.globalNamed "internal/strconv.uint64pow10" = some 1 := by kernel_rfl
def Pow (w : World) : Prop := Lib.TabIs Tryd.prog w "internal/strconv.uint64pow10" .u64 Lib.pow10Tab
theorem Pow.lt {w : World} (h : Pow w) : 1 < w.heap.size := by
  unfold Pow Lib.TabIs World.var? at h
  rw [gPow] at h
  rcases Nat.lt_or_ge 1 w.heap.size with h' | h'
  · exact h'
  · simp [Array.getElem?_eq_none h'] at h
theorem Pow.below {w w' : World} {B : Nat} (h : Pow w) (hb : Below B w w') (hB : 1 < B) : Pow w' := by
  unfold Pow Lib.TabIs World.var? at h ⊢
  rw [gPow] at h ⊢
  show (match w'.heap[1]? with | some (.cells cs _ _) => some cs | _ => none) = _
  rw [hb.block 1 hB]
  exact h
theorem itoa_dec (n : Nat) : Lib.decDigits n = dec n := by
  induction n using Nat.strongRecOn with
  | _ n ih =>
    by_cases h : n < 10
    · rw [dec_small h, Lib.decDigits, dif_pos h]
    · rw [dec_big h, Lib.decDigits, dif_neg h, ih (n / 10) (by omega)]
theorem below_growL (w : World) (k : Nat) (os : Array Obj) : Below w.heap.size w (Go.Sort.grow (w.drewN k) os) :=
  ⟨rfl, rfl, rfl, by show w.heap.size ≤ (w.heap ++ os).size; rw [Array.size_append]; omega, fun j hj => by show (w.heap ++ os)[j]? = w.heap[j]?; exact Array.getElem?_append_left hj⟩
theorem itoa_any (n : Nat) (w : World) (hn : n ≤ 999999) (h : Pow w) :
    Calls Tryd.prog 46 #[.int .i64 (n : Int)] w fun e w' => e = .returned (.string ⟨(dec n).toArray⟩) ∧ Below w.heap.size w w' := by
  refine (Tryd.strconv_Itoa (n : Int) (by omega) (by omega) w h).mono ?_
  rintro e w' ⟨rfl, k, os, rfl⟩
  exact ⟨by rw [Lib.itoa_nonneg, itoa_dec], below_growL _ _ _⟩

/-! ### Make -/
/-- The name with ordinals, or the number of the first error. -/
def mkL (l : List Int) : ByteArray × Nat := if 8 < l.length then (⟨#[]⟩, 9) else if l.all isO then (⟨(tx (l.map Int.toNat)).toArray⟩, 0) else (⟨#[]⟩, 2)
theorem BS.below {B b : Nat} {l : List UInt8} {w w' : World} (h : BS B b l w) (hb : Below w.heap.size w w') : BS B b l w' := by
  have key : ∀ p, Lib.BuilderAt 74 5 B b p (l.map bv) w → Lib.BuilderAt 74 5 B b p (l.map bv) w' := by
    intro p hp
    have hlt := hp.lt
    obtain ⟨h1, v, h2, h3, h4⟩ := hp
    have hg : w.grownBy w' none := ⟨hb.os, hb.tape, hb.output, hb.size, fun k hk _ => hb.block k hk⟩
    refine ⟨h1, v, (hb.block b hlt).trans h2, World.ownsRow.kept h3 hg ?_, h4⟩
    cases hv : v.ownBlock with
    | none => exact .inl rfl
    | some k => exact .inr (by simp)
  exact h.imp (key _) (key _)
theorem results_tmp2' {fn : Func} {t u : Tmp} (h : fn.results = #[.tmp t, .tmp u]) (tmps : Array Value) (P : Program) (w : World) :
    (results fn tmps).run P w = .ok (.tuple #[tmps.getD t undef, tmps.getD u undef]) w := by
  simp [results, h]
theorem tx_len {l : List Nat} (h : ∀ x ∈ l, x ≤ 999999) : (tx l).length ≤ 7 * l.length := by
  induction l with
  | nil => simp [tx]
  | cons a r ih =>
    have h1 := dec_l6 (h a (by simp))
    have h2 := ih (fun x hx => h x (by simp [hx]))
    cases r with
    | nil => rw [tx_one]; simp; omega
    | cons b r => rw [tx_cons, List.length_append, List.length_cons]; simp at h2 ⊢; omega
theorem isO_nat {n : Int} (h : isO n = true) : ∃ k : Nat, n = (k : Int) ∧ 1 ≤ k ∧ k ≤ 999999 := by
  simp only [isO, Bool.and_eq_true, decide_eq_true_eq] at h
  exact ⟨n.toNat, by omega, by omega, by omega⟩

set_option maxHeartbeats 2000000 in
set_option maxRecDepth 100000 in
theorem make_any (A : Option Addr) (l : List Int) (c B : Nat) (w : World) (hr : RZ w B A l) (hB : B ≤ w.heap.size) (hP : Pow w) :
    Calls Tryd.prog 12 #[.slice A l.length c] w fun e w' => e = .returned (.tuple #[.string (mkL l).1, .int .i64 ((mkL l).2 : Int)]) ∧ Below w.heap.size w w' := by
  by_cases h8 : 8 < l.length
  · have g8 : (8 : Int) < (l.length : Int) := by omega
    have hm : mkL l = (⟨#[]⟩, 9) := by unfold mkL; rw [if_pos h8]
    rw [hm]
    clear h8 hm
    go_enter Tryd.func12, Tryd.ntmps12
    go_wp2
    refine bodyPost_ret (results_tmp2' rfl _ _ _) rfl ?_
    exact ⟨rfl, Below.refl _ _⟩
  · have g8 : ¬ (8 : Int) < (l.length : Int) := by omega
    have HBS0 : Hid (BS w.heap.size w.heap.size [] (w.alloc (.cells #[.pointer none, .slice none 0 0] 74))) := Lib.hid (Lib.fresh_isBuilder _ _ w)
    have HR := Lib.hid (fun W (hb : Below w.heap.size w W) => hr.below (hb.mono hB))
    have HPOW := Lib.hid (fun W (hb : Below w.heap.size w W) => hP.below hb hP.lt)
    have HML : Hid (mkL l = if l.all isO then (⟨(tx (l.map Int.toNat)).toArray⟩, 0) else (⟨#[]⟩, 2)) := Lib.hid (by unfold mkL; rw [if_neg h8])
    obtain ⟨M, hM⟩ : ∃ M, M = mkL l := ⟨_, rfl⟩
    rw [← hM] at HML ⊢
    clear hr hP hM
    go_enter Tryd.func12, Tryd.ntmps12
    go_wp2
    go_loopw [12] (fun i wr => ∃ k : Nat, k ≤ l.length ∧ i = .int .i64 k ∧ (∀ x ∈ l.take k, isO x = true) ∧ BS w.heap.size w.heap.size (tx ((l.take k).map Int.toNat)) wr ∧ Below w.heap.size w wr) (fun i _ => l.length - (intOf i).toNat)
    case atStart => exact ⟨0, by omega, rfl, by simp, HBS0.out, (Below.refl _ w).alloc (Nat.le_refl _) _⟩
    case round =>
      obtain ⟨k, hk, rfl, hok, hbs, hb⟩ := hrel
      have HOK := Lib.hid hok
      have HBS := Lib.hid hbs
      have HB := Lib.hid hb
      have hsz := hb.size
      have HRW := Lib.hid (HR.out _ hb)
      clear hok hbs hb HBS0
      by_cases hlt : k < l.length
      · have h1 : (k : Int) < (l.length : Int) := by omega
        obtain ⟨b, off, x, rfl, hbb, hv, h0⟩ := HRW.out.at_ hlt
        have HV := Lib.hid hv
        have HIO : Hid (∀ W, Calls Tryd.prog 43 #[.int .i64 x] W fun e w' => e = .returned (.bool (isO x)) ∧ W = w') := Lib.hid fun W => isOrdinal_any x W
        clear hv HRW
        by_cases hx : isO x = true
        · rw [hx] at HIO
          obtain ⟨n, rfl, hn1, hn2⟩ := isO_nat hx
          have HXO := Lib.hid hx
          clear hx
          have HIT : Hid (∀ W, Below w.heap.size w W → Calls Tryd.prog 46 #[.int .i64 (n : Int)] W fun e w' => e = .returned (.string ⟨(dec n).toArray⟩) ∧ Below W.heap.size W w') := Lib.hid fun W hb => itoa_any n W hn2 (HPOW.out W hb)
          obtain ⟨D, hD⟩ : ∃ D : ByteArray, D = ⟨(dec n).toArray⟩ := ⟨_, rfl⟩
          rw [← hD] at HIT
          have hDs : D.size ≤ 6 := by rw [hD]; show (dec n).toArray.size ≤ 6; rw [List.size_toArray]; exact dec_l6 hn2
          have HDD : Hid (D.data.toList = dec n) := Lib.hid (by rw [hD])
          have HLEN : Hid ((tx ((l.take k).map Int.toNat)).length ≤ 100) := Lib.hid (by
            refine Nat.le_trans (tx_len (fun y hy => ?_)) (by simp; omega)
            obtain ⟨z, hz, rfl⟩ := List.mem_map.1 hy
            obtain ⟨m, rfl, _, hm⟩ := isO_nat (HOK.out z hz)
            simpa using hm)
          clear hD
          have HTS : Hid (∀ _t : Nat, l.take (k + 1) = l.take k ++ [(n : Int)]) := Lib.hid fun _ => by rw [List.take_add_one, HV.out]; rfl
          by_cases hk0 : k = 0
          · have g0 : ¬ (0 : Int) < (k : Int) := by omega
            have HWS : Hid (∀ W, BS w.heap.size w.heap.size (tx ((l.take k).map Int.toNat)) W → w.heap.size ≤ W.heap.size → Calls Tryd.prog 45 #[.pointer (some ⟨w.heap.size, 0, none⟩), .string D] W fun e w' => e = .returned (.tuple #[.int .i64 (D.size : Int), .nilIface]) ∧ BS w.heap.size w.heap.size (tx ((l.take (k + 1)).map Int.toNat)) w' ∧ Below w.heap.size W w') := Lib.hid fun W h1 h2 => by
              refine (writeString_any _ _ _ D W h1 (by have := HLEN.out; omega) h2).mono ?_
              rintro e w' ⟨h3, h4, h5⟩
              refine ⟨h3, ?_, h5⟩
              rw [HTS.out 0, hk0]
              rw [hk0, HDD.out] at h4
              simpa [tx] using h4
            clear hk0 HDD HLEN hDs
            go_wp2_with (first
              | (go_at_call 43; refine (HIO.out _).mono ?_; rintro e w' ⟨rfl, rfl⟩)
              | (go_at_call 46; refine (HIT.out _ HB.out).mono ?_; rintro e W1 ⟨rfl, hb1⟩; have HB1 := Lib.hid (HB.out.trans (hb1.mono HB.out.size)); have HBS1 := Lib.hid (HBS.out.below hb1); clear hb1)
              | (go_at_call 45; refine (HWS.out _ HBS1.out HB1.out.size).mono ?_; rintro e W2 ⟨rfl, hbs2, hb2⟩; have HBS2 := Lib.hid hbs2; have HB2 := Lib.hid (HB1.out.trans hb2); clear hbs2 hb2))
            go_roundw
            case rel =>
              refine ⟨k + 1, by omega, by go_num, ?_, HBS2.out, HB2.out⟩
              intro y hy
              rw [HTS.out 0] at hy
              rcases List.mem_append.1 hy with hy | hy
              · exact HOK.out y hy
              · rw [List.mem_singleton.1 hy]; exact HXO.out
            case measure => simp [intOf] <;> omega
          · have g0 : (0 : Int) < (k : Int) := by omega
            have HWB : Hid (∀ W, BS w.heap.size w.heap.size (tx ((l.take k).map Int.toNat)) W → w.heap.size ≤ W.heap.size → Calls Tryd.prog 44 #[.pointer (some ⟨w.heap.size, 0, none⟩), .int .u8 46] W fun e w' => e = .returned .nilIface ∧ BS w.heap.size w.heap.size (tx ((l.take k).map Int.toNat) ++ [46]) w' ∧ Below w.heap.size W w') := Lib.hid fun W h1 h2 =>
              writeByte_any _ _ _ 46 W h1 (by have := HLEN.out; omega) h2
            have HWS : Hid (∀ W, BS w.heap.size w.heap.size (tx ((l.take k).map Int.toNat) ++ [46]) W → w.heap.size ≤ W.heap.size → Calls Tryd.prog 45 #[.pointer (some ⟨w.heap.size, 0, none⟩), .string D] W fun e w' => e = .returned (.tuple #[.int .i64 (D.size : Int), .nilIface]) ∧ BS w.heap.size w.heap.size (tx ((l.take (k + 1)).map Int.toNat)) w' ∧ Below w.heap.size W w') := Lib.hid fun W h1 h2 => by
              refine (writeString_any _ _ _ D W h1 (by have := HLEN.out; rw [List.length_append, List.length_singleton]; omega) h2).mono ?_
              rintro e w' ⟨h3, h4, h5⟩
              refine ⟨h3, ?_, h5⟩
              rw [HTS.out 0, List.map_append, List.map_cons, List.map_nil, tx_snoc _ _ (by
                intro e
                have := congrArg List.length e
                rw [List.length_map, List.length_take, List.length_nil] at this
                omega)]
              rw [HDD.out] at h4
              simpa using h4
            clear hk0 HDD HLEN hDs
            go_wp2_with (first
              | (go_at_call 43; refine (HIO.out _).mono ?_; rintro e w' ⟨rfl, rfl⟩)
              | (go_at_call 44; refine (HWB.out _ HBS.out HB.out.size).mono ?_; rintro e W0 ⟨rfl, hbs0, hb0⟩; have HBS0 := Lib.hid hbs0; have HB0 := Lib.hid (HB.out.trans hb0); clear hbs0 hb0)
              | (go_at_call 46; refine (HIT.out _ HB0.out).mono ?_; rintro e W1 ⟨rfl, hb1⟩; have HB1 := Lib.hid (HB0.out.trans (hb1.mono HB0.out.size)); have HBS1 := Lib.hid (HBS0.out.below hb1); clear hb1)
              | (go_at_call 45; refine (HWS.out _ HBS1.out HB1.out.size).mono ?_; rintro e W2 ⟨rfl, hbs2, hb2⟩; have HBS2 := Lib.hid hbs2; have HB2 := Lib.hid (HB1.out.trans hb2); clear hbs2 hb2))
            go_roundw
            case rel =>
              refine ⟨k + 1, by omega, by go_num, ?_, HBS2.out, HB2.out⟩
              intro y hy
              rw [HTS.out 0] at hy
              rcases List.mem_append.1 hy with hy | hy
              · exact HOK.out y hy
              · rw [List.mem_singleton.1 hy]; exact HXO.out
            case measure => simp [intOf] <;> omega
        · have hxf : isO x = false := by simpa using hx
          rw [hxf] at HIO
          have hMe : M = (⟨#[]⟩, 2) := by
            rw [HML.out, if_neg]
            intro hall
            rw [List.all_eq_true] at hall
            have := hall x (List.mem_of_getElem? HV.out)
            rw [hxf] at this; cases this
          subst hMe
          clear hx hxf HML
          go_wp2_with (go_at_call 43; refine (HIO.out _).mono ?_; rintro e w' ⟨rfl, rfl⟩)
          refine bodyPost_ret (results_tmp2' rfl _ _ _) rfl ?_
          exact ⟨rfl, HB.out⟩
      · have h1 : ¬ (k : Int) < (l.length : Int) := by omega
        have hkl : k = l.length := by omega
        have hMe : M = (⟨(tx (l.map Int.toNat)).toArray⟩, 0) := by
          rw [HML.out, if_pos]
          rw [List.all_eq_true]
          intro y hy
          exact HOK.out y (by rw [hkl, List.take_length]; exact hy)
        have HS : Hid (Calls Tryd.prog 47 #[.pointer (some ⟨w.heap.size, 0, none⟩)] wr fun e w' => e = .returned (.string M.1) ∧ Below w.heap.size wr w') := Lib.hid (by
          rw [hMe]
          have := HBS.out
          rw [hkl, List.take_length] at this
          exact builderString_any _ _ _ wr this hsz)
        have HM2 : Hid (M.2 = 0) := Lib.hid (by rw [hMe])
        clear hMe hkl HML
        go_wp2_with (go_at_call 47; refine HS.out.mono ?_; rintro e W1 ⟨rfl, hb1⟩; have HB1 := Lib.hid (HB.out.trans hb1); clear hb1)
        refine bodyPost_ret (results_tmp2' rfl _ _ _) rfl ?_
        refine ⟨?_, HB1.out⟩
        rw [HM2.out]; rfl
end Go.Proofs.YtdfenaoddbdppaaDoor
