/- lineage: the walks of isDigit, isOrdinal and partAt, and what they are as plain functions. lineage: the walk of partAt. Slices of numbers. Plain lemmas. lineage: the walk of the reference's Parse. lineage: the walks of the reference's Valid and Within. lineage: a list of ordinals as a value; the walk of shared. -/
import Derived.Test.YtcdjmkfpclmbdaaGreatDoorLib
import Derived.Test.YtcdjmkfpclmbdaaGreatDoorChecked
import Derived.Test.YtcdjmkfpclmbdaaGreatDoorOLa
set_option linter.unusedVariables false
namespace Go.Proofs.YtcdjmkfpclmbdaaGreatDoor
open Go.RowKit

def isD (c : UInt8) : Bool := decide (48 ≤ c.toNat) && decide (c.toNat ≤ 57)
/-- The digits ahead, behind k digits that make n: the number and how many digits it has, or none if there are more than six. -/
def dig : List UInt8 → Nat → Nat → Option (Nat × Nat)
  | [], k, n => some (n, k)
  | c :: r, k, n => if isD c then (if k = 6 then none else dig r (k + 1) (10 * n + (c.toNat - 48))) else some (n, k)
/-- partAt: the offset, the ordinal, the error, and where it ends. -/
def partP (s : List UInt8) (at_ count : Nat) : Nat × Nat × Nat × Nat :=
  if count = 8 then (at_, 0, 9, at_) else match s.drop at_ with
  | [] => (at_, 0, 4, at_)
  | c :: r => if isD c then (if c = 48 then (at_, 0, 3, at_) else match dig (c :: r) 0 0 with
    | none => (at_, 0, 2, at_)
    | some (n, k) => (at_, n, 0, at_ + k)) else (at_, 0, 6, at_)

set_option maxRecDepth 100000 in
theorem isDigit_any (c : UInt8) (w : World) : Calls Tryz.prog 158 #[bv c] w fun e w' => e = .returned (.bool (isD c)) ∧ w = w' := by
  by_cases h1 : 48 ≤ c.toNat
  · have g1 : (48 : Int) ≤ (c.toNat : Int) := by omega
    by_cases h2 : c.toNat ≤ 57
    · have g2 : (c.toNat : Int) ≤ 57 := by omega
      have hr : isD c = true := by simp [isD, h1, h2]
      rw [hr]
      go_enter Tryz.func158, Tryz.ntmps158
      go_wp2
      go_ret
      exact ⟨rfl, rfl⟩
    · have g2 : ¬ (c.toNat : Int) ≤ 57 := by omega
      have hr : isD c = false := by simp [isD, h2]
      rw [hr]
      go_enter Tryz.func158, Tryz.ntmps158
      go_wp2
      go_ret
      exact ⟨rfl, rfl⟩
  · have g1 : ¬ (48 : Int) ≤ (c.toNat : Int) := by omega
    have hr : isD c = false := by simp [isD, h1]
    rw [hr]
    go_enter Tryz.func158, Tryz.ntmps158
    go_wp2
    go_ret
    exact ⟨rfl, rfl⟩

def isO (n : Int) : Bool := decide (1 ≤ n) && decide (n ≤ 999999)
end Go.Proofs.YtcdjmkfpclmbdaaGreatDoor

namespace Go.Proofs.YtcdjmkfpclmbdaaGreatDoor
open Go.RowKit

theorem results_row2 {P : Program} {fn : Func} {p q : Tmp} {ty : TypeId} (h : fn.results = #[.cell p ty, .tmp q]) (tmps : Array Value) (w : World) (g : Nat) (cs : List Value) (d : TypeDesc)
    (hp : tmps.getD p undef = .pointer (some ⟨g, 0, none⟩)) (hg : w.rangeAt g 0 cs) (hu : P.underlying ty = some d) (hd : d.isRow = true) (hi : (P.info? ty).map (·.size) = some cs.length) :
    (results fn tmps).run P w = .ok (.tuple #[.agg cs.toArray, tmps.getD q undef]) w := by
  have hp' : tmps[p]?.getD undef = .pointer (some ⟨g, 0, none⟩) := by simpa using hp
  simp [results, h, hp', asAddr, run_loadVar_mid w g 0 ty cs d hg hu hd hi]
theorem range3 {w : World} {g : Nat} {a b c : Value} (ha : w.cell? ⟨g, 0, none⟩ = some a) (hb : w.cell? ⟨g, 1, none⟩ = some b) (hc : w.cell? ⟨g, 2, none⟩ = some c) : w.rangeAt g 0 [a, b, c] := by
  intro j v hj
  match j, hj with
  | 0, hj => simp at hj; subst hj; exact ha
  | 1, hj => simp at hj; subst hj; exact hb
  | 2, hj => simp at hj; subst hj; exact hc

theorem new3 (w : World) (a b c : Value) (t : TypeId) : (w.alloc (.cells #[a, b, c] t)).rangeAt w.heap.size 0 [a, b, c] := by
  refine range3 ?_ ?_ ?_ <;> (rw [World.cell?_alloc_at _ _ _ _ rfl]; rfl)
theorem info_part : (Tryz.prog.info? 163).map (·.size) = some 3 := by kernel_rfl
def part3 (a b c : Nat) : List Value := [.int .i64 (a : Int), .int .i64 (b : Int), .int .i64 (c : Int)]
theorem partP_cons {s : List UInt8} {at_ count : Nat} {c : UInt8} {r : List UInt8} (h8 : ¬ count = 8) (h : s.drop at_ = c :: r) : partP s at_ count = if isD c then (if c = 48 then (at_, 0, 3, at_) else match dig (c :: r) 0 0 with
    | none => (at_, 0, 2, at_)
    | some (n, k) => (at_, n, 0, at_ + k)) else (at_, 0, 6, at_) := by
  unfold partP; rw [if_neg h8, h] <;> rfl

theorem info_part3 (a b c : Nat) : (Tryz.prog.info? 163).map (·.size) = some (part3 a b c).toArray.size := info_part
theorem part3_one (a b c : Nat) : ∀ v ∈ part3 a b c, v.oneCell' = true := by
  intro v hv
  simp only [part3, List.mem_cons, List.not_mem_nil, or_false] at hv
  rcases hv with rfl | rfl | rfl <;> rfl
theorem pow_step {n k x : Nat} (h : n < 10 ^ k) (hx : x ≤ 9) : 10 * n + x < 10 ^ (k + 1) := by
  rw [Nat.pow_succ]
  generalize 10 ^ k = P at *
  omega
/-- The result's variable and p. -/
def PB (w : World) (at_ n : Nat) (V : World) : Prop := Arr V w.heap.size 0 (part3 0 0 0) ∧ Arr V (w.heap.size + 1) 0 (part3 at_ n 0) ∧ Below w.heap.size w V
theorem pb_new (w : World) (at_ : Nat) (z y : Array Value) (hz : z = (part3 0 0 0).toArray) (hy : y = (part3 at_ 0 0).toArray) (s t : TypeId) : PB w at_ 0 ((w.alloc (.cells z s)).alloc (.cells y t)) := by
  subst hz hy
  have e1 : (w.alloc (Obj.cells (part3 0 0 0).toArray s)).heap.size = w.heap.size + 1 := by simp
  refine ⟨(Arr.new w _ _).alloc _, ?_, ((Below.refl _ w).alloc (Nat.le_refl _) _).alloc (by simp) _⟩
  rw [← e1]; exact Arr.new _ (part3 at_ 0 0) t

set_option maxHeartbeats 1000000 in
set_option maxRecDepth 100000 in
theorem partAt_any (S : ByteArray) (at_ count : Nat) (w : World) (ha : at_ ≤ S.size) (hS : S.size ≤ 1000000) (hc : count ≤ 8) (r : Nat × Nat × Nat × Nat) (hr : r = partP S.data.toList at_ count) :
    Calls Tryz.prog 143 #[.string S, .int .i64 (at_ : Int), .int .i64 (count : Int)] w fun e w' => e = .returned (.tuple #[.agg (part3 r.1 r.2.1 r.2.2.1).toArray, .int .i64 (r.2.2.2 : Int)]) ∧ Below w.heap.size w w' := by
  by_cases h8 : count = 8
  · subst h8
    have h2 : r = (at_, 0, 9, at_) := by rw [hr]; rfl
    subst h2
    clear hr
    go_enter Tryz.func143, Tryz.ntmps143
    go_wp2
    exact bodyPost_ret (results_row2 rfl _ _ w.heap.size _ _ rfl (new3 w _ _ _ _) Tryz.underlying163 rfl info_part) rfl ⟨rfl, (Below.refl _ w).alloc (Nat.le_refl _) _⟩
  · have g8 : ((count : Int) == 8) = false := by simp; omega
    by_cases hl : at_ = S.size
    · have h2 : r = (at_, 0, 4, at_) := by
        rw [hr]; unfold partP
        rw [if_neg h8, List.drop_eq_nil_of_le (by simp; omega)]
      subst h2
      subst hl
      clear hr
      go_enter Tryz.func143, Tryz.ntmps143
      go_wp2
      exact bodyPost_ret (results_row2 rfl _ _ w.heap.size _ _ rfl (new3 w _ _ _ _) Tryz.underlying163 rfl info_part) rfl ⟨rfl, (Below.refl _ w).alloc (Nat.le_refl _) _⟩
    · have gl : ((at_ : Int) == (S.size : Int)) = false := by simp; omega
      have hlt : at_ < S.size := by omega
      obtain ⟨c, hcv⟩ : ∃ c, c = S.data.toList[at_]'(by simpa using hlt) := ⟨_, rfl⟩
      obtain ⟨rest, hrest⟩ : ∃ x, x = S.data.toList.drop (at_ + 1) := ⟨_, rfl⟩
      have hdrop : S.data.toList.drop at_ = c :: rest := by rw [hcv, hrest, List.drop_eq_getElem_cons]
      rw [partP_cons h8 hdrop] at hr
      have hix : ∀ W, (Instr.index 9 (.string S) (.int .i64 (at_ : Int))).run Tryz.prog W = .ok (bv c) W := fun W => by
        rw [run_index_string W 9 S .i64 at_ Tryz.underlying9, dif_pos ⟨by omega, by omega⟩]
        rw [hcv]; rfl
      have HD : Hid (∀ W, Calls Tryz.prog 158 #[bv c] W fun e w' => e = .returned (.bool (isD c)) ∧ W = w') := Lib.hid fun W => isDigit_any c W
      have HCV := Lib.hid hcv
      have HDR := Lib.hid hdrop
      clear hcv hrest hdrop
      by_cases hdc : isD c = true
      · rw [hdc] at HD
        rw [if_pos hdc] at hr
        by_cases h48 : c = 48
        · rw [if_pos h48] at hr
          have q48 : ((c.toNat : Int) == 48) = true := by rw [h48]; decide
          subst hr
          clear h48
          go_enter Tryz.func143, Tryz.ntmps143
          go_wp2_with (go_at_call 158; refine (HD.out _).mono ?_; rintro e w' ⟨rfl, rfl⟩)
          exact bodyPost_ret (results_row2 rfl _ _ w.heap.size _ _ rfl (new3 w _ _ _ _) Tryz.underlying163 rfl info_part) rfl ⟨rfl, (Below.refl _ w).alloc (Nat.le_refl _) _⟩
        · have q48 : ((c.toNat : Int) == 48) = false := by
            rw [beq_eq_false_iff_ne]; intro e; exact h48 (UInt8.toNat_inj.1 (by rw [show c.toNat = 48 by omega]; rfl))
          rw [if_neg h48] at hr
          clear h48
          go_enter Tryz.func143, Tryz.ntmps143
          go_wp2_with (go_at_call 158; refine (HD.out _).mono ?_; rintro e w' ⟨rfl, rfl⟩)
          have HR := Lib.hid hr
          have HD2 : Hid (∀ (c : UInt8) W, Calls Tryz.prog 158 #[bv c] W fun e w' => e = .returned (.bool (isD c)) ∧ W = w') := Lib.hid isDigit_any
          have HLT := Lib.hid hlt
          clear HCV
          clear hr HD hix gl g8 hl h8 hdc q48 hlt
          refine cwp_gen (PB w at_ 0) (pb_new w at_ _ _ rfl rfl _ _) ?_
          intro V hV
          go_loopw [9] (fun i wr => ∃ m k n : Nat, i = .int .i64 (m : Int) ∧ m = at_ + k ∧ k ≤ 6 ∧ m ≤ S.size ∧ n < 10 ^ k ∧ dig (c :: rest) 0 0 = dig (S.data.toList.drop m) k n ∧ PB w at_ n wr) (fun i _ => S.size - (intOf i).toNat)
          case atStart => exact ⟨at_, 0, 0, rfl, rfl, by omega, ha, by decide, by rw [HDR.out], hV⟩
          case round =>
            obtain ⟨m, k, n, rfl, hm, hk, hmS, hn, hdig, hP⟩ := hrel
            have HP := Lib.hid hP
            have HN := Lib.hid hn
            have HG := Lib.hid hdig
            have HM := Lib.hid hm
            have hn6 : n < 1000000 := Nat.lt_of_lt_of_le hn (Nat.pow_le_pow_right (by decide) hk)
            have e1 := hP.2.1.cell0 (i := 1) (v := .int .i64 (n : Int)) rfl
            have f1 := hP.2.1.frozen0 (i := 1) (by simp [part3])
            have HZ : Hid (∀ a b c : Nat, wr.there w.heap.size 0 (part3 a b c).toArray.size) := Lib.hid fun a b c => hP.1.thereA (part3 a b c) rfl
            have HI3 : Hid (∀ a b c : Nat, (Tryz.prog.info? 163).map (·.size) = some (part3 a b c).toArray.size) := Lib.hid info_part3
            have HI3l : Hid (∀ a b c : Nat, (Tryz.prog.info? 163).map (·.size) = some (part3 a b c).length) := Lib.hid fun _ _ _ => info_part
            have HO3 : Hid (∀ a b c : Nat, (part3 a b c).toArray.all Value.oneCell' = true) := Lib.hid fun a b c => all_oneCell_toArray (part3_one a b c)
            have HR8 : Hid (wr.rangeAt (w.heap.size + 1) 0 (part3 at_ n 0)) := Lib.hid hP.2.1.1
            clear hV hP hn hdig hm
            by_cases hlt : m < S.size
            · have gl : (m : Int) < (S.size : Int) := by omega
              obtain ⟨d, hd⟩ : ∃ d, d = S.data.toList[m]'(by simpa using hlt) := ⟨_, rfl⟩
              have hix : ∀ W, (Instr.index 9 (.string S) (.int .i64 (m : Int))).run Tryz.prog W = .ok (bv d) W := fun W => by
                rw [run_index_string W 9 S .i64 m Tryz.underlying9, dif_pos ⟨by omega, by omega⟩]
                rw [hd]; rfl
              have HDR2 : Hid (S.data.toList.drop m = d :: S.data.toList.drop (m + 1)) := Lib.hid (by rw [hd, List.drop_eq_getElem_cons])
              have HD := Lib.hid (HD2.out d)
              clear hd
              by_cases hdd : isD d = true
              · rw [hdd] at HD
                have hd0 : 48 ≤ d.toNat ∧ d.toNat ≤ 57 := by simpa [isD] using hdd
                have gd0 : (48 : Int) ≤ (d.toNat : Int) := by omega
                have gd1 : (d.toNat : Int) ≤ 57 := by omega
                have HDD := Lib.hid hdd
                clear hdd
                by_cases h6 : k = 6
                · have q6 : ((m : Int) - (at_ : Int) == 6) = true := by have := HM.out; simp; omega
                  have hr2 : r = (at_, 0, 2, at_) := by
                    rw [HR.out, HG.out, HDR2.out, dig, if_pos HDD.out, if_pos h6]
                  subst hr2
                  clear HR HG
                  go_wp2_with (first
                    | (go_at_call 158; refine (HD.out _).mono ?_; rintro e w' ⟨rfl, rfl⟩)
                    | (refine wpList_store_mid (by rfl) 163 (.tmp 6) (.tmp 59) (by rfl) w.heap.size 0 (part3 at_ 0 2).toArray (by rfl) (by rfl) (HZ.out at_ 0 2) (HI3.out at_ 0 2) (HO3.out at_ 0 2) ?_))
                  refine bodyPost_ret (results_row2 rfl _ _ w.heap.size (part3 at_ 0 2) _ rfl (HP.out.1.sets (part3 at_ 0 2) rfl).1 Tryz.underlying163 rfl info_part) rfl ?_
                  exact ⟨rfl, below_setCells _ (Nat.le_refl _) _ _ _ HP.out.2.2⟩
                · have q6 : ((m : Int) - (at_ : Int) == 6) = false := by have := HM.out; simp; omega
                  go_wp2_with (go_at_call 158; refine (HD.out _).mono ?_; rintro e w' ⟨rfl, rfl⟩)
                  go_region
                  have ev : (10 * (n : Int) + ((d.toNat : Int) - 48)) = ((10 * n + (d.toNat - 48) : Nat) : Int) := by omega
                  rw [ev]
                  go_wp2
                  go_roundw
                  case rel =>
                    refine ⟨m + 1, k + 1, 10 * n + (d.toNat - 48), by go_num, by have := HM.out; omega, by omega, by omega, pow_step HN.out (by omega), ?_, (HP.out.1.other _ (.inl (by show w.heap.size + 1 ≠ w.heap.size; omega))).drew, (HP.out.2.1.set0 (i := 1) (by simp [part3]) _).drew, (HP.out.2.2.setCell (p := ⟨w.heap.size + 1, 1, none⟩) (by show w.heap.size ≤ w.heap.size + 1; omega) _).drew⟩
                    rw [HG.out, HDR2.out, dig, if_pos HDD.out, if_neg h6]
                  case measure => simp [intOf] <;> omega
              · have hdf : isD d = false := by simpa using hdd
                rw [hdf] at HD
                clear hdd
                have hr2 : r = (at_, n, 0, m) := by
                  rw [HR.out, HG.out, HDR2.out, dig, if_neg (by rw [hdf]; decide)]
                  show (at_, n, 0, at_ + k) = _
                  rw [← HM.out]
                subst hr2
                clear HR HG
                go_wp2_with (first
                  | (go_at_call 158; refine (HD.out _).mono ?_; rintro e w' ⟨rfl, rfl⟩)
                  | (refine wpList_load_mid (by rfl) 163 (.tmp 8) (by rfl) (w.heap.size + 1) 0 (by rfl) (part3 at_ n 0) _ HR8.out Tryz.underlying163 rfl (HI3l.out at_ n 0) ?_)
                  | (refine wpList_store_mid (by rfl) 163 (.tmp 6) (.tmp 73) (by rfl) w.heap.size 0 (part3 at_ n 0).toArray (by rfl) (by rfl) (HZ.out at_ n 0) (HI3.out at_ n 0) (HO3.out at_ n 0) ?_))
                refine bodyPost_ret (results_row2 rfl _ _ w.heap.size (part3 at_ n 0) _ rfl (HP.out.1.sets (part3 at_ n 0) rfl).1 Tryz.underlying163 rfl info_part) rfl ?_
                exact ⟨rfl, below_setCells _ (Nat.le_refl _) _ _ _ HP.out.2.2⟩
            · have gl : ¬ (m : Int) < (S.size : Int) := by omega
              have hr2 : r = (at_, n, 0, m) := by
                rw [HR.out, HG.out, List.drop_eq_nil_of_le (by simp; omega), dig]
                show (at_, n, 0, at_ + k) = _
                rw [← HM.out]
              subst hr2
              clear HR HG
              go_wp2_with (first
                | (refine wpList_load_mid (by rfl) 163 (.tmp 8) (by rfl) (w.heap.size + 1) 0 (by rfl) (part3 at_ n 0) _ HR8.out Tryz.underlying163 rfl (HI3l.out at_ n 0) ?_)
                | (refine wpList_store_mid (by rfl) 163 (.tmp 6) (.tmp 73) (by rfl) w.heap.size 0 (part3 at_ n 0).toArray (by rfl) (by rfl) (HZ.out at_ n 0) (HI3.out at_ n 0) (HO3.out at_ n 0) ?_))
              refine bodyPost_ret (results_row2 rfl _ _ w.heap.size (part3 at_ n 0) _ rfl (HP.out.1.sets (part3 at_ n 0) rfl).1 Tryz.underlying163 rfl info_part) rfl ?_
              exact ⟨rfl, below_setCells _ (Nat.le_refl _) _ _ _ HP.out.2.2⟩
      · have hdf : isD c = false := by simpa using hdc
        rw [hdf] at HD
        rw [if_neg hdc] at hr
        subst hr
        go_enter Tryz.func143, Tryz.ntmps143
        go_wp2_with (go_at_call 158; refine (HD.out _).mono ?_; rintro e w' ⟨rfl, rfl⟩)
        exact bodyPost_ret (results_row2 rfl _ _ w.heap.size _ _ rfl (new3 w _ _ _ _) Tryz.underlying163 rfl info_part) rfl ⟨rfl, (Below.refl _ w).alloc (Nat.le_refl _) _⟩
end Go.Proofs.YtcdjmkfpclmbdaaGreatDoor

namespace Go.Proofs.YtcdjmkfpclmbdaaGreatDoor
open Go.RowKit

/-- A number as a cell. -/
abbrev iv (s : Nat) : Value := .int .i64 (s : Int)
/-- The slice value '.slice A l.length cap' reads as the numbers l, below block B. -/
def RI (w : World) (B : Nat) (A : Option Addr) (l : List Nat) : Prop :=
  0 < l.length → ∃ b off, A = some ⟨b, off, none⟩ ∧ b < B ∧ ∀ j s, l[j]? = some s → w.cell? ⟨b, off + j, none⟩ = some (iv s)
theorem RI.nil {w : World} {B : Nat} {A : Option Addr} : RI w B A [] := fun h => absurd h (by simp)
theorem RI.below {w w' : World} {B : Nat} {A : Option Addr} {l : List Nat} (h : RI w B A l) (hb : Below B w w') : RI w' B A l := fun hn => by
  obtain ⟨b, off, rfl, hlt, hc⟩ := h hn
  exact ⟨b, off, rfl, hlt, fun j c hj => (hb.cell (p := ⟨b, off + j, none⟩) hlt).trans (hc j c hj)⟩
theorem RI.at_ {w : World} {B : Nat} {A : Option Addr} {l : List Nat} (h : RI w B A l) {k : Nat} (hk : k < l.length) :
    ∃ b off c, A = some ⟨b, off, none⟩ ∧ b < B ∧ l[k]? = some c ∧ w.cell? ⟨b, off + k, none⟩ = some (iv c) := by
  obtain ⟨b, off, rfl, hb, hc⟩ := h (by omega)
  exact ⟨b, off, l[k], rfl, hb, List.getElem?_eq_getElem hk, hc k _ (List.getElem?_eq_getElem hk)⟩
structure IntSlice (P : Program) (t e : TypeId) : Prop where
  u : P.underlying t = some (.slice e)
  b : P.underlying e = some (.int .i64)
  i : (P.info? e).map (fun i => (i.zero, i.size, i.bytes)) = some (some (.int .i64 0), 1, 8)
/-- The slice value v owns the numbers l, in a block from 'base' on. -/
def OI (e : TypeId) (w : World) (base : Nat) (v : Value) (l : List Nat) : Prop := w.ownsRow base e 1 v l.length (l.map iv)
theorem OI.nil (e : TypeId) (w : World) (base : Nat) : OI e w base (.slice none 0 0) [] := World.ownsRow_nil w base e 1
theorem OI.alloc {e : TypeId} {w : World} {base : Nat} {v : Value} {l : List Nat} (h : OI e w base v l) (o : Obj) : OI e (w.alloc o) base v l := World.ownsRow.alloc h o
theorem OI.lt {e : TypeId} {w : World} {base : Nat} {v : Value} {l : List Nat} (h : OI e w base v l) : ∀ k, v.ownBlock = some k → base ≤ k ∧ k < w.heap.size := World.ownsRow.lt h
theorem OI.form {e : TypeId} {w : World} {base : Nat} {v : Value} {l : List Nat} (h : OI e w base v l) :
    ∃ A cap, v = .slice A l.length cap ∧ RI w w.heap.size A l ∧ l.length ≤ cap ∧ cap ≤ maxLen := by
  have hl := World.ownsRow.lt h
  have hc := @World.ownsRow.cells w base e 1 v l.length (l.map iv) h
  rcases h.2 with ⟨rfl, h0⟩ | ⟨g, cap, cur, rfl, _, _, h1, h2, _⟩
  · have : l = [] := List.eq_nil_of_length_eq_zero h0
    subst this
    exact ⟨none, 0, rfl, RI.nil, Nat.le_refl _, Nat.zero_le _⟩
  · refine ⟨_, cap, rfl, fun _ => ⟨g, 0, rfl, (hl g rfl).2, fun j c hj => ?_⟩, h1, h2⟩
    have := hc (g := g) rfl j (iv c) (by simp [hj])
    simpa [Addr.add_lit] using this
theorem ivs_oneCell (l : List Nat) : ∀ u ∈ l.map iv, u.oneCell' = true := by
  intro u hu
  obtain ⟨_, _, rfl⟩ := List.mem_map.1 hu
  rfl
section
variable {P : Program} {t e : TypeId}
theorem IntSlice.parts (hP : IntSlice P t e) : ∃ i, P.info? e = some i ∧ i.zero = some (.int .i64 0) ∧ i.size = 1 ∧ i.bytes = 8 := info_parts hP.i
theorem run_pushI (hP : IntSlice P t e) (w : World) (ty : TypeId) (base : Nat) (v : Value) (l : List Nat) (hown : OI e w base v l) (s : Nat)
    (hlen : l.length + 1 ≤ 8000000000000) (hbase : base ≤ w.heap.size) :
    ∃ v' w', (Builtin.append_ #[t, t] ty #[v, .slice (some ⟨w.heap.size, 0, none⟩) 1 1]).run P (w.alloc (.cells #[iv s] e)) = .ok v' w' ∧ OI e w' base v' (l ++ [s]) ∧ (w.alloc (.cells #[iv s] e)).grownBy w' v.ownBlock := by
  obtain ⟨i, hi, hz, hs, hb⟩ := hP.parts
  obtain ⟨v', w', h1, h2, h3, _, h5⟩ := run_append_own_at (P := P) (w.alloc (.cells #[iv s] e)) base t ty e i (.int .i64 0) 1 8 hP.u hi hz hs hb rfl (by omega) v l.length (l.map iv) (hown.alloc _) ⟨w.heap.size, 0, none⟩ 1 1 [iv s] (by simp)
    (fun j u hu => by
      match j, hu with
      | 0, hu =>
        simp at hu; subst hu
        rw [Addr.add_lit, World.cell?_alloc_at _ _ _ _ rfl]; rfl) (ivs_oneCell [s]) (by unfold maxLen; omega) (by omega) (by simp; omega)
  refine ⟨v', w', h1, ?_, h3⟩
  unfold OI; simpa using h2
/-- 'append(v, s)'. -/
theorem wpList_pushI {ops : Array Oper} {rest : List Oper} {o : Oper} {a : Act} {Q : Exit → Act → World → Prop} {w : World} (hP : IntSlice P t e) (hgd : o.guard = none) (s x : Operand)
    (ho : o.op = .call { callee := .builtin .append, args := #[s, x], argTypes := #[t, t] }) (base : Nat) (v : Value) (l : List Nat) (hs : a.eval s = v) (c : Nat) (hown : OI e w base v l)
    (G : Nat) (hx : a.eval x = .slice (some ⟨G, 0, none⟩) 1 1) (hG : w.heap.size = G) (hlen : l.length + 1 ≤ 8000000000000) (hbase : base ≤ w.heap.size)
    (h : ∀ v' w', OI e w' base v' (l ++ [c]) → Below base w w' → wpList P ops Q rest (a.put o.dst v') w') : wpList P ops Q (o :: rest) a (w.alloc (.cells #[iv c] e)) := by
  subst hG
  obtain ⟨v', w', h1, h2, h3⟩ := run_pushI hP w o.type base v l hown c hlen hbase
  refine wpList_append_of hgd s x t t ho hs hx h1 (h v' w' h2 ?_)
  refine ((Below.refl base w).alloc hbase _).trans ⟨h3.os, h3.tape, h3.output, h3.size, fun k hk => h3.block k (by simp; omega) (fun e => by have := (hown.lt k e.symm).1; omega)⟩
end
theorem isl : IntSlice Tryz.prog 103 3 := ⟨Tryz.underlying103, Tryz.underlying3, by kernel_rfl⟩

end Go.Proofs.YtcdjmkfpclmbdaaGreatDoor

namespace Go.Proofs.YtcdjmkfpclmbdaaGreatDoor
open Go.RowKit

/-- The ordinals behind those of out, from at_ on; or none, the offset of the first error, and its number. -/
def parseF (s : List UInt8) : Nat → Nat → List Nat → List Nat × Nat × Nat
  | 0, _, _ => ([], 0, 0)
  | f + 1, at_, out =>
    if (partP s at_ out.length).2.2.1 = 0 then
      (match s.drop (partP s at_ out.length).2.2.2 with
      | [] => (out ++ [(partP s at_ out.length).2.1], 0, 0)
      | c :: _ => if c = 46 then parseF s f ((partP s at_ out.length).2.2.2 + 1) (out ++ [(partP s at_ out.length).2.1]) else ([], (partP s at_ out.length).2.2.2, 6))
    else ([], (partP s at_ out.length).1, (partP s at_ out.length).2.2.1)
def parseL (s : List UInt8) : List Nat × Nat × Nat := match s with
  | [] => ([], 0, 0)
  | _ => parseF s 9 0 []
section
variable {s : List UInt8} {f at_ a n e b : Nat} {out : List Nat} {c : UInt8} {r : List UInt8}
theorem parseF_err (h : partP s at_ out.length = (a, n, e, b)) (he : e ≠ 0) : parseF s (f + 1) at_ out = ([], a, e) := by
  rw [parseF, h]; exact if_neg he
theorem parseF_end (h : partP s at_ out.length = (a, n, 0, b)) (hb : s.drop b = []) : parseF s (f + 1) at_ out = (out ++ [n], 0, 0) := by
  rw [parseF, h]; show (if 0 = 0 then _ else _) = _; rw [if_pos rfl, hb]
theorem parseF_bad (h : partP s at_ out.length = (a, n, 0, b)) (hb : s.drop b = c :: r) (hc : ¬ c = 46) : parseF s (f + 1) at_ out = ([], b, 6) := by
  rw [parseF, h]; show (if 0 = 0 then _ else _) = _; rw [if_pos rfl, hb]; exact if_neg hc
theorem parseF_go (h : partP s at_ out.length = (a, n, 0, b)) (hb : s.drop b = c :: r) (hc : c = 46) : parseF s (f + 1) at_ out = parseF s f (b + 1) (out ++ [n]) := by
  rw [parseF, h]; show (if 0 = 0 then _ else _) = _; rw [if_pos rfl, hb]; exact if_pos hc
end
theorem results_tmp3' {fn : Func} {t u v : Tmp} (h : fn.results = #[.tmp t, .tmp u, .tmp v]) (tmps : Array Value) (P : Program) (w : World) :
    (results fn tmps).run P w = .ok (.tuple #[tmps.getD t undef, tmps.getD u undef, tmps.getD v undef]) w := by
  simp [results, h]

set_option maxHeartbeats 2000000 in
set_option maxRecDepth 100000 in
theorem refParse_any (S : ByteArray) (w : World) (hS : S.size ≤ 1000000) (R : List Nat × Nat × Nat) (hR : R = parseL S.data.toList) :
    Calls Tryz.prog 75 #[.string S] w fun e w' => ∃ v, e = .returned (.tuple #[v, .int .i64 (R.2.1 : Int), .int .i64 (R.2.2 : Int)]) ∧ OI 3 w' w.heap.size v R.1 ∧ Below w.heap.size w w' := by
  by_cases h0 : S.size = 0
  · have hd : S.data.toList = [] := List.eq_nil_of_length_eq_zero (by simpa using h0)
    have hSe : S = ⟨#[]⟩ := by apply ByteArray.ext; apply Array.ext'; simpa using hd
    rw [hd] at hR
    have h2 : R = ([], 0, 0) := hR
    subst h2
    subst hSe
    clear hR hd h0
    go_enter Tryz.func75, Tryz.ntmps75
    go_wp2
    refine bodyPost_ret (results_tmp3' rfl _ _ _) rfl ?_
    exact ⟨_, rfl, OI.nil _ _ _, Below.refl _ _⟩
  · have hR0 : R = parseF S.data.toList 9 0 [] := by
      rw [hR]
      cases hq : S.data.toList with
      | nil => exact absurd (by simpa using congrArg List.length hq) h0
      | cons a b => rfl
    have hSe : S.toList.isEmpty = false := by
      rw [ByteArray.toList_eq]
      cases hq : S.data.toList with
      | nil => exact absurd (by simpa using congrArg List.length hq) h0
      | cons a b => rfl
    have HR0 := Lib.hid hR0
    clear hR hR0
    go_enter Tryz.func75, Tryz.ntmps75
    go_wp2
    go_loopw [5, 6] (fun u i wr => ∃ (at_ f : Nat) (out : List Nat), i = .int .i64 (at_ : Int) ∧ at_ ≤ S.size ∧ out.length + f = 8 ∧ R = parseF S.data.toList (f + 1) at_ out ∧ OI 3 wr w.heap.size u out ∧ Below w.heap.size w wr) (fun _ i _ => S.size + 1 - (intOf i).toNat)
    case atStart => exact ⟨0, 8, [], rfl, by omega, rfl, HR0.out, OI.nil _ _ _, Below.refl _ _⟩
    case round =>
      obtain ⟨at_, f, out, rfl, ha, hf, hRf, ho, hb⟩ := hrel
      obtain ⟨W0, hW0⟩ : ∃ W0 : World, W0 = wr := ⟨_, rfl⟩
      subst hW0
      obtain ⟨A, cap, hv, _⟩ := ho.form
      subst hv
      have HO := Lib.hid ho
      have HB := Lib.hid hb
      have HF := Lib.hid hRf
      have HFL := Lib.hid hf
      clear ho hb hRf hSe HR0
      by_cases h8 : out.length = 8
      · have g8 : ((out.length : Int) == 8) = true := by simp; omega
        have hp : partP S.data.toList at_ out.length = (at_, 0, 9, at_) := by unfold partP; rw [if_pos h8]
        have hr := HF.out.trans (parseF_err hp (by decide))
        subst hr
        clear hp h8 HF
        go_wp2
        refine bodyPost_ret (results_tmp3' rfl _ _ _) rfl ?_
        exact ⟨_, rfl, OI.nil _ _ _, HB.out⟩
      · have g8 : ((out.length : Int) == 8) = false := by simp; omega
        by_cases hl : at_ = S.size
        · have gl : ((at_ : Int) == (S.size : Int)) = true := by simp; omega
          have hp : partP S.data.toList at_ out.length = (at_, 0, 4, at_) := by
            unfold partP; rw [if_neg h8, List.drop_eq_nil_of_le (by simp; omega)]
          have hr := HF.out.trans (parseF_err hp (by decide))
          subst hr
          clear hp h8 HF
          go_wp2
          refine bodyPost_ret (results_tmp3' rfl _ _ _) rfl ?_
          exact ⟨_, rfl, OI.nil _ _ _, HB.out⟩
        · have gl : ((at_ : Int) == (S.size : Int)) = false := by simp; omega
          have hlt : at_ < S.size := by omega
          obtain ⟨c, hcv⟩ : ∃ c, c = S.data.toList[at_]'(by simpa using hlt) := ⟨_, rfl⟩
          obtain ⟨rest, hrest⟩ : ∃ x, x = S.data.toList.drop (at_ + 1) := ⟨_, rfl⟩
          have hdrop : S.data.toList.drop at_ = c :: rest := by rw [hcv, hrest, List.drop_eq_getElem_cons]
          have hix : ∀ W, (Instr.index 9 (.string S) (.int .i64 (at_ : Int))).run Tryz.prog W = .ok (bv c) W := fun W => by
            rw [run_index_string W 9 S .i64 at_ Tryz.underlying9, dif_pos ⟨by omega, by omega⟩]
            rw [hcv]; rfl
          have hPC := partP_cons h8 hdrop
          have HDR := Lib.hid hdrop
          clear hcv hrest hdrop h8
          by_cases hd1 : c.toNat < 48
          · have g1 : (c.toNat : Int) < 48 := by omega
            have hdc : isD c = false := by simp [isD]; omega
            rw [if_neg (by rw [hdc]; decide)] at hPC
            have hr := HF.out.trans (parseF_err hPC (by decide))
            subst hr
            clear hPC HF
            go_wp2
            refine bodyPost_ret (results_tmp3' rfl _ _ _) rfl ?_
            exact ⟨_, rfl, OI.nil _ _ _, HB.out⟩
          · have g1 : ¬ (c.toNat : Int) < 48 := by omega
            by_cases hd2 : 57 < c.toNat
            · have g2 : (57 : Int) < (c.toNat : Int) := by omega
              have hdc : isD c = false := by simp [isD]; omega
              rw [if_neg (by rw [hdc]; decide)] at hPC
              have hr := HF.out.trans (parseF_err hPC (by decide))
              subst hr
              clear hPC HF
              go_wp2
              refine bodyPost_ret (results_tmp3' rfl _ _ _) rfl ?_
              exact ⟨_, rfl, OI.nil _ _ _, HB.out⟩
            · have g2 : ¬ (57 : Int) < (c.toNat : Int) := by omega
              have hdc : isD c = true := by simp [isD]; omega
              rw [if_pos hdc] at hPC
              by_cases h48 : c = 48
              · rw [if_pos h48] at hPC
                have q48 : ((c.toNat : Int) == 48) = true := by rw [h48]; decide
                have hr := HF.out.trans (parseF_err hPC (by decide))
                subst hr
                clear hPC HF h48
                go_wp2
                refine bodyPost_ret (results_tmp3' rfl _ _ _) rfl ?_
                exact ⟨_, rfl, OI.nil _ _ _, HB.out⟩
              · have q48 : ((c.toNat : Int) == 48) = false := by
                  rw [beq_eq_false_iff_ne]; intro e; exact h48 (UInt8.toNat_inj.1 (by rw [show c.toNat = 48 by omega]; rfl))
                rw [if_neg h48] at hPC
                have HPC := Lib.hid hPC
                obtain ⟨f2, rfl⟩ : ∃ f2, f = f2 + 1 := ⟨f - 1, by have := HFL.out; simp at g8; omega⟩
                clear hPC h48 hdc hd1 hd2 hf
                go_wp2
                go_loopw [7, 8] (fun a b wq => ∃ m k n : Nat, a = .int .i64 (n : Int) ∧ b = .int .i64 (m : Int) ∧ m = at_ + k ∧ k ≤ 7 ∧ m ≤ S.size ∧ n < 10 ^ k ∧ dig (c :: rest) 0 0 = (if k = 7 then none else dig (S.data.toList.drop m) k n) ∧ W0 = wq) (fun _ b _ => S.size - (intOf b).toNat)
                case atStart => exact ⟨at_, 0, 0, rfl, rfl, by omega, by omega, ha, by decide, by rw [HDR.out]; rfl, rfl⟩
                case round =>
                  obtain ⟨m, k, n, rfl, rfl, hm, hk, hmS, hn, hdig, rfl⟩ := hrel
                  have hn7 : n < 10000000 := Nat.lt_of_lt_of_le hn (Nat.pow_le_pow_right (by decide) hk)
                  have HM := Lib.hid hm
                  have HN := Lib.hid hn
                  have HG := Lib.hid hdig
                  clear hm hn hdig
                  by_cases hml : m < S.size
                  · have gm : (m : Int) < (S.size : Int) := by omega
                    obtain ⟨d, hd⟩ : ∃ d, d = S.data.toList[m]'(by simpa using hml) := ⟨_, rfl⟩
                    have hix2 : ∀ W, (Instr.index 9 (.string S) (.int .i64 (m : Int))).run Tryz.prog W = .ok (bv d) W := fun W => by
                      rw [run_index_string W 9 S .i64 m Tryz.underlying9, dif_pos ⟨by omega, by omega⟩]
                      rw [hd]; rfl
                    have HDR2 : Hid (S.data.toList.drop m = d :: S.data.toList.drop (m + 1)) := Lib.hid (by rw [hd, List.drop_eq_getElem_cons])
                    clear hd
                    by_cases hb1 : d.toNat < 48
                    · have gb1 : ¬ (48 : Int) ≤ (d.toNat : Int) := by omega
                      have hdf : isD d = false := by simp [isD]; omega
                      by_cases h7 : k = 7
                      · skip
                        have q7 : ((m : Int) == (at_ : Int) + 7) = true := by have := HM.out; simp; omega
                        have hp : partP S.data.toList at_ out.length = (at_, 0, 2, at_) := by rw [HPC.out, HG.out, if_pos h7]
                        have hr := HF.out.trans (parseF_err hp (by decide))
                        subst hr
                        clear hp HF h7
                        go_wp2
                        refine bodyPost_ret (results_tmp3' rfl _ _ _) rfl ?_
                        exact ⟨_, rfl, OI.nil _ _ _, HB.out⟩
                      · have q7 : ((m : Int) == (at_ : Int) + 7) = false := by have := HM.out; simp; omega
                        have hp : partP S.data.toList at_ out.length = (at_, n, 0, m) := by
                          rw [HPC.out, HG.out, if_neg h7, HDR2.out, dig, if_neg (by rw [hdf]; decide), HM.out]
                        have gms : ((m : Int) == (S.size : Int)) = false := by simp; omega
                        by_cases h46 : d = 46
                        · have q46 : ((d.toNat : Int) == 46) = true := by rw [h46]; decide
                          have HR2 := Lib.hid (HF.out.trans (parseF_go hp HDR2.out h46))
                          clear hp HF h7 h46
                          go_wp2_with (refine wpList_pushI isl (by rfl) (.tmp 74) (.tmp 76) (by rfl) w.heap.size _ out (by rfl) n HO.out _ (by rfl) rfl (by have := HFL.out; omega) HB.out.size ?_; intro v3 W3 ho3 hb3; (obtain ⟨A3, cap3, hv3, _⟩ := ho3.form); subst hv3; (simp only [List.length_append, List.length_cons, List.length_nil, Nat.zero_add] at ho3); have HO3 := Lib.hid ho3; have HB3 := Lib.hid (HB.out.trans hb3); clear ho3 hb3)
                          go_roundw
                          case rel => exact ⟨m + 1, f2, out ++ [n], by go_num, by omega, by have := HFL.out; simp; omega, HR2.out, HO3.out, HB3.out⟩
                          case measure => have := HM.out; simp [intOf] <;> omega
                        · have q46 : ((d.toNat : Int) == 46) = false := by
                            rw [beq_eq_false_iff_ne]; intro e; exact h46 (UInt8.toNat_inj.1 (by rw [show d.toNat = 46 by omega]; rfl))
                          have hr := HF.out.trans (parseF_bad hp HDR2.out h46)
                          subst hr
                          clear hp HF h7 h46
                          go_wp2_with (refine wpList_pushI isl (by rfl) (.tmp 74) (.tmp 76) (by rfl) w.heap.size _ out (by rfl) n HO.out _ (by rfl) rfl (by have := HFL.out; omega) HB.out.size ?_; intro v3 W3 ho3 hb3; (obtain ⟨A3, cap3, hv3, _⟩ := ho3.form); subst hv3; (simp only [List.length_append, List.length_cons, List.length_nil, Nat.zero_add] at ho3); have HO3 := Lib.hid ho3; have HB3 := Lib.hid (HB.out.trans hb3); clear ho3 hb3)
                          refine bodyPost_ret (results_tmp3' rfl _ _ _) rfl ?_
                          exact ⟨_, rfl, OI.nil _ _ _, HB3.out⟩
                    · have gb1 : (48 : Int) ≤ (d.toNat : Int) := by omega
                      by_cases hb2 : 57 < d.toNat
                      · have gb2 : ¬ (d.toNat : Int) ≤ 57 := by omega
                        have hdf : isD d = false := by simp [isD]; omega
                        by_cases h7 : k = 7
                        · skip
                          have q7 : ((m : Int) == (at_ : Int) + 7) = true := by have := HM.out; simp; omega
                          have hp : partP S.data.toList at_ out.length = (at_, 0, 2, at_) := by rw [HPC.out, HG.out, if_pos h7]
                          have hr := HF.out.trans (parseF_err hp (by decide))
                          subst hr
                          clear hp HF h7
                          go_wp2
                          refine bodyPost_ret (results_tmp3' rfl _ _ _) rfl ?_
                          exact ⟨_, rfl, OI.nil _ _ _, HB.out⟩
                        · have q7 : ((m : Int) == (at_ : Int) + 7) = false := by have := HM.out; simp; omega
                          have hp : partP S.data.toList at_ out.length = (at_, n, 0, m) := by
                            rw [HPC.out, HG.out, if_neg h7, HDR2.out, dig, if_neg (by rw [hdf]; decide), HM.out]
                          have gms : ((m : Int) == (S.size : Int)) = false := by simp; omega
                          by_cases h46 : d = 46
                          · exact absurd hb2 (by rw [h46]; decide)
                          · have q46 : ((d.toNat : Int) == 46) = false := by
                              rw [beq_eq_false_iff_ne]; intro e; exact h46 (UInt8.toNat_inj.1 (by rw [show d.toNat = 46 by omega]; rfl))
                            have hr := HF.out.trans (parseF_bad hp HDR2.out h46)
                            subst hr
                            clear hp HF h7 h46
                            go_wp2_with (refine wpList_pushI isl (by rfl) (.tmp 74) (.tmp 76) (by rfl) w.heap.size _ out (by rfl) n HO.out _ (by rfl) rfl (by have := HFL.out; omega) HB.out.size ?_; intro v3 W3 ho3 hb3; (obtain ⟨A3, cap3, hv3, _⟩ := ho3.form); subst hv3; (simp only [List.length_append, List.length_cons, List.length_nil, Nat.zero_add] at ho3); have HO3 := Lib.hid ho3; have HB3 := Lib.hid (HB.out.trans hb3); clear ho3 hb3)
                            refine bodyPost_ret (results_tmp3' rfl _ _ _) rfl ?_
                            exact ⟨_, rfl, OI.nil _ _ _, HB3.out⟩
                      · have gb2 : (d.toNat : Int) ≤ 57 := by omega
                        have hdd : isD d = true := by simp [isD]; omega
                        by_cases h7 : k = 7
                        · have g7 : ¬ (m : Int) < (at_ : Int) + 7 := by have := HM.out; omega
                          have q7 : ((m : Int) == (at_ : Int) + 7) = true := by have := HM.out; simp; omega
                          have hp : partP S.data.toList at_ out.length = (at_, 0, 2, at_) := by rw [HPC.out, HG.out, if_pos h7]
                          have hr := HF.out.trans (parseF_err hp (by decide))
                          subst hr
                          clear hp HF h7
                          go_wp2
                          refine bodyPost_ret (results_tmp3' rfl _ _ _) rfl ?_
                          exact ⟨_, rfl, OI.nil _ _ _, HB.out⟩
                        · have g7 : (m : Int) < (at_ : Int) + 7 := by have := HM.out; omega
                          have hnx := pow_step (x := d.toNat - 48) HN.out (by omega)
                          have HX := Lib.hid hnx
                          clear hnx
                          have HG2 : Hid (dig (c :: rest) 0 0 = (if k + 1 = 7 then none else dig (S.data.toList.drop (m + 1)) (k + 1) (10 * n + (d.toNat - 48)))) := Lib.hid (by
                            rw [HG.out, if_neg h7, HDR2.out, dig, if_pos hdd]
                            by_cases h6 : k = 6
                            · rw [if_pos h6, if_pos (by omega)]
                            · rw [if_neg h6, if_neg (by omega)])
                          clear hdd
                          go_wp2
                          go_roundw
                          case rel => exact ⟨m + 1, k + 1, 10 * n + (d.toNat - 48), by (show Value.int .i64 _ = Value.int .i64 _); congr 1; omega, by go_num, by have := HM.out; omega, by omega, by omega, HX.out, HG2.out, by first | rfl | trivial⟩
                          case measure => simp [intOf] <;> omega
                  · have gm : ¬ (m : Int) < (S.size : Int) := by omega
                    have HNL : Hid (S.data.toList.drop m = []) := Lib.hid (List.drop_eq_nil_of_le (by simp; omega))
                    by_cases h7 : k = 7
                    · skip
                      have q7 : ((m : Int) == (at_ : Int) + 7) = true := by have := HM.out; simp; omega
                      have hp : partP S.data.toList at_ out.length = (at_, 0, 2, at_) := by rw [HPC.out, HG.out, if_pos h7]
                      have hr := HF.out.trans (parseF_err hp (by decide))
                      subst hr
                      clear hp HF h7
                      go_wp2
                      refine bodyPost_ret (results_tmp3' rfl _ _ _) rfl ?_
                      exact ⟨_, rfl, OI.nil _ _ _, HB.out⟩
                    · have q7 : ((m : Int) == (at_ : Int) + 7) = false := by have := HM.out; simp; omega
                      have hp : partP S.data.toList at_ out.length = (at_, n, 0, m) := by
                        rw [HPC.out, HG.out, if_neg h7, HNL.out, dig, HM.out]
                      have gms : ((m : Int) == (S.size : Int)) = true := by simp; omega
                      have hr := HF.out.trans (parseF_end hp HNL.out)
                      subst hr
                      clear hp HF h7
                      go_wp2_with (refine wpList_pushI isl (by rfl) (.tmp 74) (.tmp 76) (by rfl) w.heap.size _ out (by rfl) n HO.out _ (by rfl) rfl (by have := HFL.out; omega) HB.out.size ?_; intro v3 W3 ho3 hb3; (obtain ⟨A3, cap3, hv3, _⟩ := ho3.form); subst hv3; (simp only [List.length_append, List.length_cons, List.length_nil, Nat.zero_add] at ho3); have HO3 := Lib.hid ho3; have HB3 := Lib.hid (HB.out.trans hb3); clear ho3 hb3)
                      refine bodyPost_ret (results_tmp3' rfl _ _ _) rfl ?_
                      exact ⟨_, rfl, HO3.out, HB3.out⟩
end Go.Proofs.YtcdjmkfpclmbdaaGreatDoor

namespace Go.Proofs.YtcdjmkfpclmbdaaGreatDoor
open Go.RowKit

def validB (s : List UInt8) : Bool := (parseL s).2.2 == 0
def withinB (s t : List UInt8) : Bool := validB s && validB t && decide ((parseL t).1 <+: (parseL s).1)

set_option maxHeartbeats 1000000 in
set_option maxRecDepth 100000 in
theorem refValid_any (S : ByteArray) (w : World) (hS : S.size ≤ 1000000) :
    Calls Tryz.prog 91 #[.string S] w fun e w' => e = .returned (.bool (validB S.data.toList)) ∧ Below w.heap.size w w' := by
  obtain ⟨R, hR⟩ : ∃ R, R = parseL S.data.toList := ⟨_, rfl⟩
  have HP := Lib.hid (refParse_any S w hS R hR)
  have hv : validB S.data.toList = (R.2.2 == 0) := by rw [hR]; rfl
  rw [hv]
  obtain ⟨l, a, e⟩ := R
  clear hR hv
  by_cases he : e = 0
  · subst he
    go_enter Tryz.func91, Tryz.ntmps91
    go_wp2_with (go_at_call 75; refine HP.out.mono ?_; rintro e w' ⟨v, rfl, ho, hb⟩; have HB := Lib.hid hb; clear ho hb)
    go_ret
    exact ⟨rfl, HB.out⟩
  · have q : ((e : Int) == 0) = false := by rw [beq_eq_false_iff_ne]; omega
    have q2 : (e == 0) = false := by rw [beq_eq_false_iff_ne]; exact he
    rw [show ((l, a, e) : List Nat × Nat × Nat).2.2 = e from rfl, q2]
    go_enter Tryz.func91, Tryz.ntmps91
    go_wp2_with (go_at_call 75; refine HP.out.mono ?_; rintro e w' ⟨v, rfl, ho, hb⟩; have HB := Lib.hid hb; clear ho hb)
    go_ret
    exact ⟨rfl, HB.out⟩
theorem take_eq_stepI {l l' : List Nat} {k x y : Nat} (hx : l[k]? = some x) (hy : l'[k]? = some y) (h : l.take k = l'.take k) (e : x = y) : l.take (k + 1) = l'.take (k + 1) := by
  rw [List.take_add_one, List.take_add_one, hx, hy, h, e]
theorem parseL_len (s : List UInt8) : (parseL s).1.length ≤ 9 := by
  have key : ∀ f at_ out, out.length + f ≤ 9 → (parseF s f at_ out).1.length ≤ 9 := by
    intro f
    induction f with
    | zero => intro at_ out _; simp [parseF]
    | succ f ih =>
      intro at_ out h
      rw [parseF]
      split
      · split
        · simp; omega
        · split
          · exact ih _ _ (by simp; omega)
          · simp
      · simp
  unfold parseL
  split
  · simp
  · exact key 9 0 [] (by simp)

set_option maxHeartbeats 1000000 in
set_option maxRecDepth 100000 in
theorem refWithin_any (S T : ByteArray) (w : World) (hS : S.size ≤ 1000000) (hT : T.size ≤ 1000000) :
    Calls Tryz.prog 48 #[.string S, .string T] w fun e w' => e = .returned (.bool (withinB S.data.toList T.data.toList)) ∧ Below w.heap.size w w' := by
  obtain ⟨R, hR⟩ : ∃ R, R = parseL S.data.toList := ⟨_, rfl⟩
  obtain ⟨Q, hQ⟩ : ∃ Q, Q = parseL T.data.toList := ⟨_, rfl⟩
  have HP := Lib.hid (refParse_any S w hS R hR)
  have HQ := Lib.hid (fun W => refParse_any T W hT Q hQ)
  have hRl : R.1.length ≤ 9 := by rw [hR]; exact parseL_len _
  have hQl : Q.1.length ≤ 9 := by rw [hQ]; exact parseL_len _
  have hv : withinB S.data.toList T.data.toList = ((R.2.2 == 0) && (Q.2.2 == 0) && decide (Q.1 <+: R.1)) := by rw [hR, hQ]; rfl
  rw [hv]
  obtain ⟨x, xa, xe⟩ := R
  obtain ⟨y, ya, ye⟩ := Q
  simp only at hRl hQl
  clear hR hQ hv
  by_cases hxe : xe = 0
  · subst hxe
    by_cases hye : ye = 0
    · subst hye
      show Calls _ _ _ _ fun e w' => e = .returned (.bool (decide (y <+: x))) ∧ _
      by_cases hlen : y.length ≤ x.length
      · have gl : ¬ (x.length : Int) < (y.length : Int) := by omega
        go_enter Tryz.func48, Tryz.ntmps48
        go_wp2_with (first
          | (go_at_call 75; (with_reducible refine HP.out.mono ?_); rintro e W1 ⟨v1, rfl, ho1, hb1⟩; have HB1 := Lib.hid hb1; (obtain ⟨A1, c1, hv1, hr1, _, _⟩ := ho1.form); have R1 := Lib.hid hr1; subst hv1; clear ho1 hb1 hr1)
          | (go_at_call 75; (with_reducible refine (HQ.out W1).mono ?_); rintro e W2 ⟨v2, rfl, ho2, hb2⟩; have HB2 := Lib.hid hb2; (obtain ⟨A2, c2, hv2, hr2, _, _⟩ := ho2.form); have R2 := Lib.hid hr2; subst hv2; clear ho2 hb2 hr2))
        have hrx := R1.out.below HB2.out
        have hry := R2.out
        have HBB := Lib.hid (HB1.out.trans (HB2.out.mono HB1.out.size))
        have HLE := Lib.hid hlen
        clear R1 R2 HB1 HB2 HP HQ hlen gl
        go_loopw [11] (fun i wr => ∃ k n : Nat, k ≤ y.length ∧ i = .int .i64 k ∧ x.take k = y.take k ∧ wr = W2.drewN n) (fun i _ => y.length - (intOf i).toNat)
        case atStart => exact ⟨0, 0, by omega, rfl, rfl, rfl⟩
        case round =>
          obtain ⟨k, n, hk, rfl, ht, rfl⟩ := hrel
          have HT := Lib.hid ht
          clear ht
          by_cases hlt : k < y.length
          · have h1 : (k : Int) < (y.length : Int) := by omega
            have hk' : (k : Int) < (x.length : Int) := by have := HLE.out; omega
            obtain ⟨b, off, p, rfl, _, hp, c0⟩ := hrx.at_ (k := k) (by omega)
            obtain ⟨b2, off2, q, rfl, _, hq, c1⟩ := hry.at_ hlt
            have HX := Lib.hid hp
            have HY := Lib.hid hq
            clear hp hq hrx hry
            by_cases hpq : p = q
            · have qq : ((p : Int) == (q : Int)) = true := by simp; omega
              go_wp2_with fail
              go_quiet (fail)
              go_wp2
              go_roundw
              case rel => exact ⟨k + 1, _, by omega, by go_num, take_eq_stepI HX.out HY.out HT.out hpq, rfl⟩
              case measure => simp [intOf] <;> omega
            · have qq : ((p : Int) == (q : Int)) = false := by rw [beq_eq_false_iff_ne]; omega
              have hne : decide (y <+: x) = false := by
                rw [decide_eq_false_iff_not]
                rintro ⟨r, rfl⟩
                have := HX.out
                rw [List.getElem?_append_left hlt, HY.out] at this
                injection this with this; exact hpq this.symm
              go_wp2_with fail
              go_quiet (fail)
              go_wp2
              go_ret
              exact ⟨by first | rfl | (rw [hne]; rfl), below_drewN (below_drewN HBB.out _) _⟩
          · have h1 : ¬ (k : Int) < (y.length : Int) := by omega
            have he : decide (y <+: x) = true := by
              have hky : k = y.length := by omega
              have := HT.out
              rw [hky, List.take_length] at this
              rw [decide_eq_true_iff, ← this]; exact List.take_prefix _ _
            clear hrx hry
            go_wp2
            go_ret
            exact ⟨by first | rfl | (rw [he]; rfl), below_drewN HBB.out _⟩
      · have gl : (x.length : Int) < (y.length : Int) := by omega
        have hne : decide (y <+: x) = false := by
          rw [decide_eq_false_iff_not]; intro h; exact hlen h.length_le
        clear hlen
        rw [hne]
        go_enter Tryz.func48, Tryz.ntmps48
        go_wp2_with (first
          | (go_at_call 75; (with_reducible refine HP.out.mono ?_); rintro e W1 ⟨v1, rfl, ho1, hb1⟩; have HB1 := Lib.hid hb1; (obtain ⟨A1, c1, hv1, _⟩ := ho1.form); subst hv1; clear ho1 hb1)
          | (go_at_call 75; (with_reducible refine (HQ.out W1).mono ?_); rintro e W2 ⟨v2, rfl, ho2, hb2⟩; have HB2 := Lib.hid hb2; (obtain ⟨A2, c2, hv2, _⟩ := ho2.form); subst hv2; clear ho2 hb2))
        go_ret
        exact ⟨rfl, HB1.out.trans (HB2.out.mono HB1.out.size)⟩
    · have q : ((ye : Int) == 0) = false := by rw [beq_eq_false_iff_ne]; omega
      have hz : ((((x, xa, 0) : List Nat × Nat × Nat).2.2 == 0) && (((y, ya, ye) : List Nat × Nat × Nat).2.2 == 0) && decide (y <+: x)) = false := by
        have : (ye == 0) = false := by rw [beq_eq_false_iff_ne]; exact hye
        simp [this]
      rw [hz]
      clear hz
      go_enter Tryz.func48, Tryz.ntmps48
      go_wp2_with (first
        | (go_at_call 75; (with_reducible refine HP.out.mono ?_); rintro e W1 ⟨v1, rfl, ho1, hb1⟩; have HB1 := Lib.hid hb1; clear ho1 hb1)
        | (go_at_call 75; (with_reducible refine (HQ.out W1).mono ?_); rintro e W2 ⟨v2, rfl, ho2, hb2⟩; have HB2 := Lib.hid hb2; clear ho2 hb2))
      go_ret
      exact ⟨rfl, HB1.out.trans (HB2.out.mono HB1.out.size)⟩
  · have q : ((xe : Int) == 0) = false := by rw [beq_eq_false_iff_ne]; omega
    have hz : ((((x, xa, xe) : List Nat × Nat × Nat).2.2 == 0) && (((y, ya, ye) : List Nat × Nat × Nat).2.2 == 0) && decide (y <+: x)) = false := by
      have : (xe == 0) = false := by rw [beq_eq_false_iff_ne]; exact hxe
      simp [this]
    rw [hz]
    clear hz
    go_enter Tryz.func48, Tryz.ntmps48
    go_wp2_with (first
      | (go_at_call 75; (with_reducible refine HP.out.mono ?_); rintro e W1 ⟨v1, rfl, ho1, hb1⟩; have HB1 := Lib.hid hb1; clear ho1 hb1)
      | (go_at_call 75; (with_reducible refine (HQ.out W1).mono ?_); rintro e W2 ⟨v2, rfl, ho2, hb2⟩; have HB2 := Lib.hid hb2; clear ho2 hb2))
    go_ret
    exact ⟨rfl, HB1.out.trans (HB2.out.mono HB1.out.size)⟩
end Go.Proofs.YtcdjmkfpclmbdaaGreatDoor

namespace Go.Proofs.YtcdjmkfpclmbdaaGreatDoor
open Go.RowKit

/-- The cells of a list: eight ordinals and the depth. -/
def listV (o : List Nat) : List Value := o.map iv ++ List.replicate (8 - o.length) (.int .i64 0) ++ [iv o.length]
theorem listV_length {o : List Nat} (h : o.length ≤ 8) : (listV o).length = 9 := by unfold listV; simp; omega
theorem listV_depth {o : List Nat} (h : o.length ≤ 8) : (listV o)[8]? = some (iv o.length) := by
  unfold listV
  have e : (o.map iv ++ List.replicate (8 - o.length) (Value.int .i64 0)).length = 8 := by simp; omega
  rw [List.getElem?_append_right (by omega), e]; rfl
theorem listV_at {o : List Nat} {k x : Nat} (h : o[k]? = some x) : (listV o)[k]? = some (iv x) := by
  unfold listV
  have hk := (List.getElem?_eq_some_iff.1 h).1
  rw [List.getElem?_append_left (by simp; omega), List.getElem?_append_left (by simpa using hk), List.getElem?_map, h]; rfl
def sharedN : List Nat → List Nat → Nat
  | a :: x, b :: y => if a = b then sharedN x y + 1 else 0
  | _, _ => 0
theorem shared_stop : ∀ (k : Nat) (x y : List Nat), k ≤ x.length → k ≤ y.length → x.take k = y.take k → (∀ a b, x[k]? = some a → y[k]? = some b → a ≠ b) → sharedN x y = k
  | 0, [], _, _, _, _, _ => by simp [sharedN]
  | 0, _ :: _, [], _, _, _, _ => by simp [sharedN]
  | 0, a :: x, b :: y, _, _, _, h => by
    have := h a b rfl rfl
    simp [sharedN, this]
  | k + 1, [], _, h, _, _, _ => by simp at h
  | k + 1, _ :: _, [], _, h, _, _ => by simp at h
  | k + 1, a :: x, b :: y, hx, hy, ht, h => by
    simp only [List.take_succ_cons, List.cons.injEq] at ht
    rw [sharedN, if_pos ht.1, shared_stop k x y (by simpa using hx) (by simpa using hy) ht.2 (fun p q hp hq => h p q (by simpa using hp) (by simpa using hq))]
theorem two_lists (w : World) (x y : List Nat) (s t : TypeId) : Arr ((w.alloc (.cells (listV x).toArray s)).alloc (.cells (listV y).toArray t)) w.heap.size 0 (listV x) ∧ Arr ((w.alloc (.cells (listV x).toArray s)).alloc (.cells (listV y).toArray t)) (w.heap.size + 1) 0 (listV y) ∧ Below w.heap.size w ((w.alloc (.cells (listV x).toArray s)).alloc (.cells (listV y).toArray t)) := by
  have e1 : (w.alloc (Obj.cells (listV x).toArray s)).heap.size = w.heap.size + 1 := by simp
  refine ⟨(Arr.new w _ _).alloc _, ?_, ((Below.refl _ w).alloc (Nat.le_refl _) _).alloc (by simp) _⟩
  rw [← e1]; exact Arr.new _ (listV y) t

set_option maxHeartbeats 1000000 in
set_option maxRecDepth 100000 in
theorem shared_any (x y : List Nat) (w : World) (hx : x.length ≤ 8) (hy : y.length ≤ 8) :
    Calls Tryz.prog 74 #[.agg (listV x).toArray, .agg (listV y).toArray] w fun e w' => e = .returned (.int .i64 (sharedN x y : Int)) ∧ Below w.heap.size w w' := by
  have HX := Lib.hid hx
  have HY := Lib.hid hy
  go_enter Tryz.func74, Tryz.ntmps74
  go_wp2_with (show wpList _ _ _ (⟨some 7, _, _, _, _, _⟩ :: _) _ _; refine wpl_gen (fun V => Arr V w.heap.size 0 (listV x) ∧ Arr V (w.heap.size + 1) 0 (listV y) ∧ Below w.heap.size w V) (two_lists ..) ?_; rintro V ⟨a1, a2, aB⟩; have c1 := a1.cell0 (listV_depth HX.out); have c2 := a2.cell0 (listV_depth HY.out); have A1 := Lib.hid a1; have A2 := Lib.hid a2; have AB := Lib.hid aB; clear a1 a2 aB)
  case inl h =>
    go_loopw [13] (fun i wr => ∃ k n : Nat, k ≤ y.length ∧ i = .int .i64 k ∧ x.take k = y.take k ∧ wr = V.drewN n) (fun i _ => y.length - (intOf i).toNat)
    case atStart => exact ⟨0, 0, by omega, rfl, rfl, rfl⟩
    case round =>
      obtain ⟨k, n, hk, rfl, ht, rfl⟩ := hrel
      have HT := Lib.hid ht
      clear ht
      by_cases hlt : k < y.length
      · have h1 : (k : Int) < (y.length : Int) := by omega
        have h8 : (k : Int) < 8 := by omega
        have hkx : k < x.length := by omega
        have hky : k < y.length := by omega
        obtain ⟨p, hp⟩ : ∃ p, x[k]? = some p := ⟨x[k]'hkx, List.getElem?_eq_getElem hkx⟩
        obtain ⟨q, hq⟩ : ∃ q, y[k]? = some q := ⟨y[k]'hky, List.getElem?_eq_getElem hky⟩
        have d1 := A1.out.cell0 (listV_at hp)
        have d2 := A2.out.cell0 (listV_at hq)
        have HP := Lib.hid hp
        have HQ := Lib.hid hq
        clear hp hq
        by_cases hpq : p = q
        · have qq : ((p : Int) == (q : Int)) = true := by simp; omega
          go_wp2_with fail
          go_quiet (fail)
          go_wp2
          go_roundw
          case rel => exact ⟨k + 1, _, by omega, by go_num, by rw [List.take_add_one, List.take_add_one, HP.out, HQ.out, HT.out, hpq], rfl⟩
          case measure => simp [intOf] <;> omega
        · have qq : ((p : Int) == (q : Int)) = false := by rw [beq_eq_false_iff_ne]; omega
          have hres := Lib.hid (shared_stop k x y (by omega) (by omega) HT.out (fun a b ha hb e => hpq (by rw [HP.out] at ha; rw [HQ.out] at hb; injection ha with ha; injection hb with hb; omega)))
          go_wp2_with fail
          go_quiet (fail)
          go_wp2
          go_ret
          exact ⟨by rw [hres.out]; rfl, below_drewN (below_drewN AB.out _) _⟩
      · have h1 : ¬ (k : Int) < (y.length : Int) := by omega
        have hkM : k = y.length := by omega
        have hres := Lib.hid (shared_stop k x y (by omega) (by omega) HT.out (fun a b ha hb => by
          have := (List.getElem?_eq_some_iff.1 ha).1
          have := (List.getElem?_eq_some_iff.1 hb).1
          omega))
        have hM := Lib.hid hkM
        clear hkM
        go_wp2
        go_ret
        exact ⟨by rw [hres.out, hM.out]; rfl, below_drewN AB.out _⟩
  case inr h =>
    go_loopw [13] (fun i wr => ∃ k n : Nat, k ≤ x.length ∧ i = .int .i64 k ∧ x.take k = y.take k ∧ wr = V.drewN n) (fun i _ => x.length - (intOf i).toNat)
    case atStart => exact ⟨0, 0, by omega, rfl, rfl, rfl⟩
    case round =>
      obtain ⟨k, n, hk, rfl, ht, rfl⟩ := hrel
      have HT := Lib.hid ht
      clear ht
      by_cases hlt : k < x.length
      · have h1 : (k : Int) < (x.length : Int) := by omega
        have h8 : (k : Int) < 8 := by omega
        have hkx : k < x.length := by omega
        have hky : k < y.length := by omega
        obtain ⟨p, hp⟩ : ∃ p, x[k]? = some p := ⟨x[k]'hkx, List.getElem?_eq_getElem hkx⟩
        obtain ⟨q, hq⟩ : ∃ q, y[k]? = some q := ⟨y[k]'hky, List.getElem?_eq_getElem hky⟩
        have d1 := A1.out.cell0 (listV_at hp)
        have d2 := A2.out.cell0 (listV_at hq)
        have HP := Lib.hid hp
        have HQ := Lib.hid hq
        clear hp hq
        by_cases hpq : p = q
        · have qq : ((p : Int) == (q : Int)) = true := by simp; omega
          go_wp2_with fail
          go_quiet (fail)
          go_wp2
          go_roundw
          case rel => exact ⟨k + 1, _, by omega, by go_num, by rw [List.take_add_one, List.take_add_one, HP.out, HQ.out, HT.out, hpq], rfl⟩
          case measure => simp [intOf] <;> omega
        · have qq : ((p : Int) == (q : Int)) = false := by rw [beq_eq_false_iff_ne]; omega
          have hres := Lib.hid (shared_stop k x y (by omega) (by omega) HT.out (fun a b ha hb e => hpq (by rw [HP.out] at ha; rw [HQ.out] at hb; injection ha with ha; injection hb with hb; omega)))
          go_wp2_with fail
          go_quiet (fail)
          go_wp2
          go_ret
          exact ⟨by rw [hres.out]; rfl, below_drewN (below_drewN AB.out _) _⟩
      · have h1 : ¬ (k : Int) < (x.length : Int) := by omega
        have hkM : k = x.length := by omega
        have hres := Lib.hid (shared_stop k x y (by omega) (by omega) HT.out (fun a b ha hb => by
          have := (List.getElem?_eq_some_iff.1 ha).1
          have := (List.getElem?_eq_some_iff.1 hb).1
          omega))
        have hM := Lib.hid hkM
        clear hkM
        go_wp2
        go_ret
        exact ⟨by rw [hres.out, hM.out]; rfl, below_drewN AB.out _⟩
end Go.Proofs.YtcdjmkfpclmbdaaGreatDoor
