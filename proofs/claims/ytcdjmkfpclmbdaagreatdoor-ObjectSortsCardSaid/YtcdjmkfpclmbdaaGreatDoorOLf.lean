/- lineage: as Below, with the number of draws, which never falls: what a sort's law asks of the function that compares. partAt, with the draws. The loop over an iterator, with the draws. The iterator, with the draws. read, with the draws. list, with the draws. The lists of two names, with the draws. Compare, with the draws. -/
import Derived.Test.YtcdjmkfpclmbdaaGreatDoorOLe
import Derived.Shelf.Abstract
set_option linter.unusedVariables false
namespace Go.Proofs.YtcdjmkfpclmbdaaGreatDoor.D
open Go.RowKit

/-- Below, and the tape was not wound back. -/
structure Below (B : Nat) (w w' : World) : Prop extends Go.RowKit.Below B w w' where
  drawn : w.drawn ≤ w'.drawn
instance {B : Nat} {w w' : World} : CoeOut (Below B w w') (Go.RowKit.Below B w w') := ⟨Below.toBelow⟩
theorem Below.refl (B : Nat) (w : World) : Below B w w := ⟨Go.RowKit.Below.refl B w, Nat.le_refl _⟩
theorem Below.trans {B : Nat} {a b c : World} (h : Below B a b) (k : Below B b c) : Below B a c := ⟨h.toBelow.trans k.toBelow, Nat.le_trans h.drawn k.drawn⟩
theorem Below.mono {B B' : Nat} {w w' : World} (h : Below B w w') (hB : B' ≤ B) : Below B' w w' := ⟨h.toBelow.mono hB, h.drawn⟩
theorem Below.drew {B : Nat} {a w : World} (h : Below B a w) : Below B a w.drew := ⟨h.toBelow.drew, Nat.le_succ_of_le h.drawn⟩
theorem Below.alloc {B : Nat} {a w : World} (h : Below B a w) (hB : B ≤ w.heap.size) (o : Obj) : Below B a (w.alloc o) := ⟨h.toBelow.alloc hB o, h.drawn⟩
theorem Below.setCell {B : Nat} {a w : World} (h : Below B a w) {p : Addr} (hp : B ≤ p.block) (u : Value) : Below B a (w.setCell p u) := ⟨h.toBelow.setCell hp u, h.drawn⟩
theorem Below.grown {B : Nat} {a w w' : World} {row : Option Nat} (h : Below B a w) (hg : w.grownBy w' row) (hd : w.drawn ≤ w'.drawn) (hB : B ≤ w.heap.size) (hr : ∀ k, row = some k → B ≤ k) : Below B a w' := ⟨h.toBelow.grown hg hB hr, Nat.le_trans h.drawn hd⟩
theorem below_alloc0 (w : World) (o : Obj) {B : Nat} (h : B ≤ w.heap.size) : Below B w (w.alloc o) := (Below.refl _ _).alloc h o
theorem below_setCells {B : Nat} {a : World} (b : Nat) (hb : B ≤ b) : ∀ (vs : List Value) (o : Nat) (w : World), Below B a w → Below B a (w.setCells b o vs)
  | [], _, _, h => h
  | v :: r, o, w, h => below_setCells b hb r (o + 1) _ (h.setCell (p := ⟨b, o, none⟩) hb v)
theorem drawn_setCells (b : Nat) : ∀ (vs : List Value) (o : Nat) (w : World), (w.setCells b o vs).drawn = w.drawn
  | [], _, _ => rfl
  | v :: r, o, w => drawn_setCells b r (o + 1) (w.setCell ⟨b, o, none⟩ v)

/-- What abides the turn of such blocks, and draws. -/
def OwnFrom {β : Type} (B : Nat) (I : β → World → Prop) : Prop :=
  ∀ s W W' row, I s W → W.grownBy W' row → (∀ r, row = some r → B ≤ r ∧ ∃ o : Obj, W.heap[r]? = some o ∧ o.isCells = false) → W.drawn ≤ W'.drawn → I s W'
def AbidesFrom {β : Type} (B : Nat) (J : β → World → Prop) : Prop :=
  ∀ s W W' row, J s W → W.grownBy W' row → (∀ r, row = some r → B ≤ r ∧ ∃ o : Obj, W.heap[r]? = some o ∧ o.isWalk = true) → W.drawn ≤ W'.drawn → J s W'
theorem OwnFrom.putObj {β : Type} {B : Nat} {I : β → World → Prop} (h : OwnFrom B I) {s : β} {W : World} {l : Nat} {o : Obj} (o' : Obj) (hs : I s W) (hB : B ≤ l) (hl : W.heap[l]? = some o) (ho : o.isCells = false) : I s (W.putObj l o') :=
  h s W _ (some l) hs (grownBy_putObj' W l o') (fun r e => by cases e; exact ⟨hB, o, hl, ho⟩) (Nat.le_refl _)
theorem OwnFrom.alloc {β : Type} {B : Nat} {I : β → World → Prop} (h : OwnFrom B I) {s : β} {W : World} (o : Obj) (hs : I s W) : I s (W.alloc o) :=
  h s W _ none hs (World.grownBy_alloc W o none) (fun r e => by cases e) (Nat.le_refl _)
end Go.Proofs.YtcdjmkfpclmbdaaGreatDoor.D

namespace Go.Proofs.YtcdjmkfpclmbdaaGreatDoor.D
open Go.RowKit

/-- The result's variable and p. -/
def PB (w : World) (at_ n : Nat) (V : World) : Prop := Arr V w.heap.size 0 (part3 0 0 0) ∧ Arr V (w.heap.size + 1) 0 (part3 at_ n 0) ∧ Below w.heap.size w V
theorem pb_new (w : World) (at_ : Nat) (z y : Array Value) (hz : z = (part3 0 0 0).toArray) (hy : y = (part3 at_ 0 0).toArray) (s t : TypeId) : PB w at_ 0 ((w.alloc (.cells z s)).alloc (.cells y t)) := by
  subst hz hy
  have e1 : (w.alloc (Obj.cells (part3 0 0 0).toArray s)).heap.size = w.heap.size + 1 := by simp
  refine ⟨(Arr.new w _ _).alloc _, ?_, ((Below.refl _ w).alloc (Nat.le_refl _) _).alloc (by simp) _⟩
  rw [← e1]; exact Arr.new _ (part3 at_ 0 0) t

set_option maxHeartbeats 1000000 in
set_option maxRecDepth 100000 in
theorem partAt_any (S : ByteArray) (at_ count : Nat) (w : World) (ha : at_ ≤ S.size) (hS : S.size ≤ 1000000) (hc : count ≤ 8) (r : Nat × Nat × Nat × Nat) (hr : r = partP S.data.toList at_ count) :
    Calls Tryz.prog 143 #[.string S, .int .i64 (at_ : Int), .int .i64 (count : Int)] w fun e w' => e = .returned (.tuple #[.agg (part3 r.1 r.2.1 r.2.2.1).toArray, .int .i64 (r.2.2.2 : Int)]) ∧ Below w.heap.size w w' := by
  by_cases h8 : count = 8
  · subst h8
    have h2 : r = (at_, 0, 9, at_) := by rw [hr]; rfl
    subst h2
    clear hr
    go_enter Tryz.func143, Tryz.ntmps143
    go_wp2
    exact bodyPost_ret (results_row2 rfl _ _ w.heap.size _ _ rfl (new3 w _ _ _ _) Tryz.underlying163 rfl info_part) rfl ⟨rfl, (Below.refl _ w).alloc (Nat.le_refl _) _⟩
  · have g8 : ((count : Int) == 8) = false := by simp; omega
    by_cases hl : at_ = S.size
    · have h2 : r = (at_, 0, 4, at_) := by
        rw [hr]; unfold partP
        rw [if_neg h8, List.drop_eq_nil_of_le (by simp; omega)]
      subst h2
      subst hl
      clear hr
      go_enter Tryz.func143, Tryz.ntmps143
      go_wp2
      exact bodyPost_ret (results_row2 rfl _ _ w.heap.size _ _ rfl (new3 w _ _ _ _) Tryz.underlying163 rfl info_part) rfl ⟨rfl, (Below.refl _ w).alloc (Nat.le_refl _) _⟩
    · have gl : ((at_ : Int) == (S.size : Int)) = false := by simp; omega
      have hlt : at_ < S.size := by omega
      obtain ⟨c, hcv⟩ : ∃ c, c = S.data.toList[at_]'(by simpa using hlt) := ⟨_, rfl⟩
      obtain ⟨rest, hrest⟩ : ∃ x, x = S.data.toList.drop (at_ + 1) := ⟨_, rfl⟩
      have hdrop : S.data.toList.drop at_ = c :: rest := by rw [hcv, hrest, List.drop_eq_getElem_cons]
      rw [partP_cons h8 hdrop] at hr
      have hix : ∀ W, (Instr.index 9 (.string S) (.int .i64 (at_ : Int))).run Tryz.prog W = .ok (bv c) W := fun W => by
        rw [run_index_string W 9 S .i64 at_ Tryz.underlying9, dif_pos ⟨by omega, by omega⟩]
        rw [hcv]; rfl
      have HD : Hid (∀ W, Calls Tryz.prog 158 #[bv c] W fun e w' => e = .returned (.bool (isD c)) ∧ W = w') := Lib.hid fun W => isDigit_any c W
      have HCV := Lib.hid hcv
      have HDR := Lib.hid hdrop
      clear hcv hrest hdrop
      by_cases hdc : isD c = true
      · rw [hdc] at HD
        rw [if_pos hdc] at hr
        by_cases h48 : c = 48
        · rw [if_pos h48] at hr
          have q48 : ((c.toNat : Int) == 48) = true := by rw [h48]; decide
          subst hr
          clear h48
          go_enter Tryz.func143, Tryz.ntmps143
          go_wp2_with (go_at_call 158; refine (HD.out _).mono ?_; rintro e w' ⟨rfl, rfl⟩)
          exact bodyPost_ret (results_row2 rfl _ _ w.heap.size _ _ rfl (new3 w _ _ _ _) Tryz.underlying163 rfl info_part) rfl ⟨rfl, (Below.refl _ w).alloc (Nat.le_refl _) _⟩
        · have q48 : ((c.toNat : Int) == 48) = false := by
            rw [beq_eq_false_iff_ne]; intro e; exact h48 (UInt8.toNat_inj.1 (by rw [show c.toNat = 48 by omega]; rfl))
          rw [if_neg h48] at hr
          clear h48
          go_enter Tryz.func143, Tryz.ntmps143
          go_wp2_with (go_at_call 158; refine (HD.out _).mono ?_; rintro e w' ⟨rfl, rfl⟩)
          have HR := Lib.hid hr
          have HD2 : Hid (∀ (c : UInt8) W, Calls Tryz.prog 158 #[bv c] W fun e w' => e = .returned (.bool (isD c)) ∧ W = w') := Lib.hid isDigit_any
          have HLT := Lib.hid hlt
          clear HCV
          clear hr HD hix gl g8 hl h8 hdc q48 hlt
          refine cwp_gen (PB w at_ 0) (pb_new w at_ _ _ rfl rfl _ _) ?_
          intro V hV
          go_loopw [9] (fun i wr => ∃ m k n : Nat, i = .int .i64 (m : Int) ∧ m = at_ + k ∧ k ≤ 6 ∧ m ≤ S.size ∧ n < 10 ^ k ∧ dig (c :: rest) 0 0 = dig (S.data.toList.drop m) k n ∧ PB w at_ n wr) (fun i _ => S.size - (intOf i).toNat)
          case atStart => exact ⟨at_, 0, 0, rfl, rfl, by omega, ha, by decide, by rw [HDR.out], hV⟩
          case round =>
            obtain ⟨m, k, n, rfl, hm, hk, hmS, hn, hdig, hP⟩ := hrel
            have HP := Lib.hid hP
            have HN := Lib.hid hn
            have HG := Lib.hid hdig
            have HM := Lib.hid hm
            have hn6 : n < 1000000 := Nat.lt_of_lt_of_le hn (Nat.pow_le_pow_right (by decide) hk)
            have e1 := hP.2.1.cell0 (i := 1) (v := .int .i64 (n : Int)) rfl
            have f1 := hP.2.1.frozen0 (i := 1) (by simp [part3])
            have HZ : Hid (∀ a b c : Nat, wr.there w.heap.size 0 (part3 a b c).toArray.size) := Lib.hid fun a b c => hP.1.thereA (part3 a b c) rfl
            have HI3 : Hid (∀ a b c : Nat, (Tryz.prog.info? 163).map (·.size) = some (part3 a b c).toArray.size) := Lib.hid info_part3
            have HI3l : Hid (∀ a b c : Nat, (Tryz.prog.info? 163).map (·.size) = some (part3 a b c).length) := Lib.hid fun _ _ _ => info_part
            have HO3 : Hid (∀ a b c : Nat, (part3 a b c).toArray.all Value.oneCell' = true) := Lib.hid fun a b c => all_oneCell_toArray (part3_one a b c)
            have HR8 : Hid (wr.rangeAt (w.heap.size + 1) 0 (part3 at_ n 0)) := Lib.hid hP.2.1.1
            clear hV hP hn hdig hm
            by_cases hlt : m < S.size
            · have gl : (m : Int) < (S.size : Int) := by omega
              obtain ⟨d, hd⟩ : ∃ d, d = S.data.toList[m]'(by simpa using hlt) := ⟨_, rfl⟩
              have hix : ∀ W, (Instr.index 9 (.string S) (.int .i64 (m : Int))).run Tryz.prog W = .ok (bv d) W := fun W => by
                rw [run_index_string W 9 S .i64 m Tryz.underlying9, dif_pos ⟨by omega, by omega⟩]
                rw [hd]; rfl
              have HDR2 : Hid (S.data.toList.drop m = d :: S.data.toList.drop (m + 1)) := Lib.hid (by rw [hd, List.drop_eq_getElem_cons])
              have HD := Lib.hid (HD2.out d)
              clear hd
              by_cases hdd : isD d = true
              · rw [hdd] at HD
                have hd0 : 48 ≤ d.toNat ∧ d.toNat ≤ 57 := by simpa [isD] using hdd
                have gd0 : (48 : Int) ≤ (d.toNat : Int) := by omega
                have gd1 : (d.toNat : Int) ≤ 57 := by omega
                have HDD := Lib.hid hdd
                clear hdd
                by_cases h6 : k = 6
                · have q6 : ((m : Int) - (at_ : Int) == 6) = true := by have := HM.out; simp; omega
                  have hr2 : r = (at_, 0, 2, at_) := by
                    rw [HR.out, HG.out, HDR2.out, dig, if_pos HDD.out, if_pos h6]
                  subst hr2
                  clear HR HG
                  go_wp2_with (first
                    | (go_at_call 158; refine (HD.out _).mono ?_; rintro e w' ⟨rfl, rfl⟩)
                    | (refine wpList_store_mid (by rfl) 163 (.tmp 6) (.tmp 59) (by rfl) w.heap.size 0 (part3 at_ 0 2).toArray (by rfl) (by rfl) (HZ.out at_ 0 2) (HI3.out at_ 0 2) (HO3.out at_ 0 2) ?_))
                  refine bodyPost_ret (results_row2 rfl _ _ w.heap.size (part3 at_ 0 2) _ rfl (HP.out.1.sets (part3 at_ 0 2) rfl).1 Tryz.underlying163 rfl info_part) rfl ?_
                  exact ⟨rfl, below_setCells _ (Nat.le_refl _) _ _ _ HP.out.2.2⟩
                · have q6 : ((m : Int) - (at_ : Int) == 6) = false := by have := HM.out; simp; omega
                  go_wp2_with (go_at_call 158; refine (HD.out _).mono ?_; rintro e w' ⟨rfl, rfl⟩)
                  go_region
                  have ev : (10 * (n : Int) + ((d.toNat : Int) - 48)) = ((10 * n + (d.toNat - 48) : Nat) : Int) := by omega
                  rw [ev]
                  go_wp2
                  go_roundw
                  case rel =>
                    refine ⟨m + 1, k + 1, 10 * n + (d.toNat - 48), by go_num, by have := HM.out; omega, by omega, by omega, pow_step HN.out (by omega), ?_, (HP.out.1.other _ (.inl (by show w.heap.size + 1 ≠ w.heap.size; omega))).drew, (HP.out.2.1.set0 (i := 1) (by simp [part3]) _).drew, (HP.out.2.2.setCell (p := ⟨w.heap.size + 1, 1, none⟩) (by show w.heap.size ≤ w.heap.size + 1; omega) _).drew⟩
                    rw [HG.out, HDR2.out, dig, if_pos HDD.out, if_neg h6]
                  case measure => simp [intOf] <;> omega
              · have hdf : isD d = false := by simpa using hdd
                rw [hdf] at HD
                clear hdd
                have hr2 : r = (at_, n, 0, m) := by
                  rw [HR.out, HG.out, HDR2.out, dig, if_neg (by rw [hdf]; decide)]
                  show (at_, n, 0, at_ + k) = _
                  rw [← HM.out]
                subst hr2
                clear HR HG
                go_wp2_with (first
                  | (go_at_call 158; refine (HD.out _).mono ?_; rintro e w' ⟨rfl, rfl⟩)
                  | (refine wpList_load_mid (by rfl) 163 (.tmp 8) (by rfl) (w.heap.size + 1) 0 (by rfl) (part3 at_ n 0) _ HR8.out Tryz.underlying163 rfl (HI3l.out at_ n 0) ?_)
                  | (refine wpList_store_mid (by rfl) 163 (.tmp 6) (.tmp 73) (by rfl) w.heap.size 0 (part3 at_ n 0).toArray (by rfl) (by rfl) (HZ.out at_ n 0) (HI3.out at_ n 0) (HO3.out at_ n 0) ?_))
                refine bodyPost_ret (results_row2 rfl _ _ w.heap.size (part3 at_ n 0) _ rfl (HP.out.1.sets (part3 at_ n 0) rfl).1 Tryz.underlying163 rfl info_part) rfl ?_
                exact ⟨rfl, below_setCells _ (Nat.le_refl _) _ _ _ HP.out.2.2⟩
            · have gl : ¬ (m : Int) < (S.size : Int) := by omega
              have hr2 : r = (at_, n, 0, m) := by
                rw [HR.out, HG.out, List.drop_eq_nil_of_le (by simp; omega), dig]
                show (at_, n, 0, at_ + k) = _
                rw [← HM.out]
              subst hr2
              clear HR HG
              go_wp2_with (first
                | (refine wpList_load_mid (by rfl) 163 (.tmp 8) (by rfl) (w.heap.size + 1) 0 (by rfl) (part3 at_ n 0) _ HR8.out Tryz.underlying163 rfl (HI3l.out at_ n 0) ?_)
                | (refine wpList_store_mid (by rfl) 163 (.tmp 6) (.tmp 73) (by rfl) w.heap.size 0 (part3 at_ n 0).toArray (by rfl) (by rfl) (HZ.out at_ n 0) (HI3.out at_ n 0) (HO3.out at_ n 0) ?_))
              refine bodyPost_ret (results_row2 rfl _ _ w.heap.size (part3 at_ n 0) _ rfl (HP.out.1.sets (part3 at_ n 0) rfl).1 Tryz.underlying163 rfl info_part) rfl ?_
              exact ⟨rfl, below_setCells _ (Nat.le_refl _) _ _ _ HP.out.2.2⟩
      · have hdf : isD c = false := by simpa using hdc
        rw [hdf] at HD
        rw [if_neg hdc] at hr
        subst hr
        go_enter Tryz.func143, Tryz.ntmps143
        go_wp2_with (go_at_call 158; refine (HD.out _).mono ?_; rintro e w' ⟨rfl, rfl⟩)
        exact bodyPost_ret (results_row2 rfl _ _ w.heap.size _ _ rfl (new3 w _ _ _ _) Tryz.underlying163 rfl info_part) rfl ⟨rfl, (Below.refl _ w).alloc (Nat.le_refl _) _⟩
end Go.Proofs.YtcdjmkfpclmbdaaGreatDoor.D

namespace Go.Proofs.YtcdjmkfpclmbdaaGreatDoor.D
open Go.RowKit

/-- The contract of an iterator that yields the elements xs in their order: what the rounds are asked, they are asked of these alone. -/
def Yields {α : Type} (P : Program) (g : Nat) (lb : Array Value) (enc : α → Value) (b k : Nat) (xs : List α) (w : World) : Prop :=
  ∀ (l : Nat) (J Jx : List α → World → Prop) (W : World), Below w.heap.size w W → AbidesFrom W.heap.size J → AbidesFrom W.heap.size Jx →
    (∀ pre x W1, (pre ++ [x]) <+: xs → J pre W1 → YieldAt Fence.wide 2 P l #[enc x] W1 fun e W' =>
      (e = .returned (.bool true) ∧ J (pre ++ [x]) W' ∧ KpB b k W1 W') ∨ (e = .returned (.bool false) ∧ Jx (pre ++ [x]) W')) →
    J [] W →
    CallsIn Fence.wide 3 P g (#[.func (.yield l) #[] #[]] ++ lb) W fun e W' => (∃ v, e = .returned v) ∧ (J xs W' ∨ ∃ pre, pre <+: xs ∧ Jx pre W')

/-- How a round's body may be left: at its end, or by a return. -/
def upPost {α : Type} (b k : Nat) (I Ix : List α → World → Prop) (xs : List α) (W : World) : Exit → Act → World → Prop
  | .normal, _, W' => KeepsOthers W W' ∧ KpB b k W W' ∧ I xs W'
  | .ret, _, W' => KeepsOthers W W' ∧ Ix xs W'
  | _, _, _ => False

theorem wpIn_upto {P : Program} {α : Type} {g : Operand} {ps : Array Tmp} {assign body : Code} {Q : Exit → Act → World → Prop} {a : Act} {w : World} {gf : Nat} {lb : Array Value}
    (hg : a.eval g = .func (.func gf) #[] lb) (eg : ∀ args w, (callFunc gf args).run P w = .ok (.enter gf args) w)
    {enc : α → Value} {b k : Nat} {xs : List α} (hbk : b + k ≤ w.heap.size) (hseq : Yields P gf lb enc b k xs w) (hps : ps.size = 1)
    (I Ix : List α → World → Prop) (hI : OwnFrom w.heap.size I) (hIx : OwnFrom w.heap.size Ix) (h0 : I [] w) (a₁ : α → Nat → Act) (o₁ : α → Obj)
    (hassign : ∀ (l : Nat) (x : α) (W : World) (K : Act → World → Prop), K (a₁ x W.heap.size) (W.alloc (o₁ x)) →
      assign.wpIn (Fence.wide.inRound l) 2 P (Exit.then K (fun _ _ _ => False)) { tmps := (ps.zip #[enc x]).foldl (fun t (p, v) => t.setIfInBounds p v) a.tmps, defers := [] } W)
    (hbody : ∀ (l G : Nat) (pre : List α) (x : α) (W : World), (pre ++ [x]) <+: xs → b + k ≤ G → W.heap[G]? = some (o₁ x) → I pre W → body.wpIn (Fence.wide.inRound l) 2 P (upPost b k I Ix (pre ++ [x]) W) (a₁ x G) W)
    (hdone : ∀ (D : Nat) (W : World), w.heap.size ≤ D → I xs W → W.heap[D]? = some (.deferred (some [])) → Q .normal { a with defers := { target := .collected D, args := #[] } :: a.defers } W)
    (hstop : ∀ (D : Nat) (pre : List α) (W : World), w.heap.size ≤ D → pre <+: xs → Ix pre W → W.heap[D]? = some (.deferred (some [])) → Code.ret.wpIn Fence.wide 4 P Q { a with defers := { target := .collected D, args := #[] } :: a.defers } W) :
    (Code.rangeFunc g ps assign body).wpIn Fence.wide 4 P Q a w := by
  refine wpIn_rangeFunc fun fn _ => ?_
  obtain ⟨B, hB⟩ : ∃ B, B = w.heap.size := ⟨_, rfl⟩
  rw [← hB] at hI hIx hdone hstop hbk
  let rec_ : LoopState → Option Code → Loop := fun st pe => { state := st, pending := pe, fn := fn, tmps := a.tmps, params := ps, assign := assign, body := body, defers := w.heap.size }
  obtain ⟨V, hV⟩ : ∃ V, V = (w.alloc (.deferred (some []))).alloc (.loop (rec_ .ready none)) := ⟨_, rfl⟩
  have hVs : V.heap.size = B + 2 := by rw [hV, hB]; simp
  have hVl : V.heap[B + 1]? = some (.loop (rec_ .ready none)) := by
    rw [hV, hB]; have := World.alloc_heap_new (w.alloc (.deferred (some []))) (.loop (rec_ .ready none)); rwa [World.size_alloc] at this
  have hVd : V.heap[B]? = some (.deferred (some [])) := by
    rw [hV, hB]; exact (Below.heap_alloc _ _ _ (by simp)).trans (World.alloc_heap_new w _)
  have hVI : I [] V := by rw [hV]; exact hI.alloc _ (hI.alloc _ h0)
  have hVb : Below w.heap.size w V := by rw [hV]; exact ((Below.refl _ w).alloc (Nat.le_refl _) _).alloc (by simp) _
  refine ⟨B + 1, [{ target := .collected B, args := #[] }], V, { target := .fn (.func gf) lb, args := #[.func (.yield (B + 1)) #[] #[]] }, V, gf, #[.func (.yield (B + 1)) #[] #[]] ++ lb, V, ?_, ?_, fun _ _ => trivial, ?_, fun _ => by omega, ?_⟩
  · rw [hV, hB]; exact run_enterLoop_outer _ _ _ _ _
  · simp only [resolve, hg]
    simp [go_sem]
  · simp [invoke, go_sem, eg]
  · have low : ∀ {A : World} {row : Option Nat}, (∀ r, row = some r → V.heap.size ≤ r ∧ ∃ o : Obj, A.heap[r]? = some o ∧ o.isWalk = true) → (∀ r, row = some r → B ≤ r ∧ ∃ o : Obj, A.heap[r]? = some o ∧ o.isCells = false) := by
      intro A row hr r e
      obtain ⟨h1, o, ho, hw⟩ := hr r e
      exact ⟨by omega, o, ho, Obj.not_cells_of_walk hw⟩
    refine (hseq (B + 1) (fun pre W => I pre W ∧ W.heap[B + 1]? = some (.loop (rec_ .ready none)) ∧ W.heap[B]? = some (.deferred (some [])))
      (fun pre W => Ix pre W ∧ W.heap[B + 1]? = some (.loop (rec_ .done (some .ret))) ∧ W.heap[B]? = some (.deferred (some []))) V hVb
      (fun s X Y row hs hg' hr hd => ⟨hI s X Y row hs.1 hg' (low hr) hd, (grownBy_keeps hg' (fun r e => (hr r e).2) hs.2.1 rfl).trans hs.2.1, (grownBy_keeps hg' (fun r e => (hr r e).2) hs.2.2 rfl).trans hs.2.2⟩)
      (fun s X Y row hs hg' hr hd => ⟨hIx s X Y row hs.1 hg' (low hr) hd, (grownBy_keeps hg' (fun r e => (hr r e).2) hs.2.1 rfl).trans hs.2.1, (grownBy_keeps hg' (fun r e => (hr r e).2) hs.2.2 rfl).trans hs.2.2⟩)
      ?_ ⟨hVI, hVl, hVd⟩).mono ?_
    · rintro pre x W hpx ⟨hi, hl, hd⟩
      have hy := run_yield (P := P) (args := #[enc x]) hl (by simp [rec_, hps])
      refine ⟨fn, _, assign, body, hy, roundIn_of_wpIn trivial (hassign _ x W _ ?_)⟩
      have hlt : B + 1 < W.heap.size := (Array.getElem?_eq_some_iff.1 hl).1
      have hl1 : (W.alloc (o₁ x)).heap[B + 1]? = some (.loop (rec_ .ready none)) := (Below.heap_alloc W _ _ hlt).trans hl
      have hd1 : (W.alloc (o₁ x)).heap[B]? = some (.deferred (some [])) := (Below.heap_alloc W _ _ (by omega)).trans hd
      have hG1 : (W.alloc (o₁ x)).heap[W.heap.size]? = some (o₁ x) := World.alloc_heap_new W _
      have hi1 : I pre (W.alloc (o₁ x)) := hI.alloc _ hi
      have hK1 : KpB b k W (W.alloc (o₁ x)) := (KpB.refl b k W).alloc _
      obtain ⟨G, hG⟩ : ∃ G, G = W.heap.size := ⟨_, rfl⟩
      rw [← hG] at hG1 ⊢
      obtain ⟨X, hX⟩ : ∃ X, X = W.alloc (o₁ x) := ⟨_, rfl⟩
      rw [← hX] at hl1 hd1 hG1 hi1 hK1 ⊢
      refine ⟨_, run_beginRound hl1 rfl, ?_⟩
      obtain ⟨Y, hY⟩ : ∃ Y, Y = X.putObj (B + 1) (.loop { rec_ .ready none with state := .busy }) := ⟨_, rfl⟩
      have hYl : Y.heap[B + 1]? = some (.loop { rec_ .ready none with state := .busy }) := by rw [hY]; exact World.putObj_heap_same (Array.getElem?_eq_some_iff.1 hl1).1
      have hYd : Y.heap[B]? = some (.deferred (some [])) := by rw [hY]; exact (World.putObj_heap_other (by omega)).trans hd1
      have hYG : Y.heap[G]? = some (o₁ x) := by rw [hY]; exact (World.putObj_heap_other (by omega)).trans hG1
      have hYI : I pre Y := by rw [hY]; exact hI.putObj _ hi1 (by omega) hl1 rfl
      have hYK : KpB b k W Y := by rw [hY]; exact hK1.trans (KpB.putObj _ hl1 rfl)
      show body.wpIn _ _ _ _ _ (X.putObj (B + 1) (.loop { rec_ .ready none with state := .busy }))
      rw [← hY]
      refine wpIn_mono (hbody _ G pre x Y hpx (by omega) hYG hYI) ?_
      rintro e a3 Z hp
      cases e with
      | normal =>
        obtain ⟨hz, hk, hi3⟩ := hp
        have hzl := hz.same _ _ hYl rfl
        exact ⟨_, _, run_endRound (P := P) none hzl, .inl ⟨rfl, ⟨hI.putObj _ hi3 (by omega) hzl rfl, World.putObj_heap_same (Array.getElem?_eq_some_iff.1 hzl).1, (World.putObj_heap_other (by omega)).trans (hz.same _ _ hYd rfl)⟩, (hYK.trans hk).trans (KpB.putObj _ hzl rfl)⟩⟩
      | ret =>
        obtain ⟨hz, hi3⟩ := hp
        have hzl := hz.same _ _ hYl rfl
        exact ⟨_, _, run_endRound (P := P) (some .ret) hzl, .inr ⟨rfl, hIx.putObj _ hi3 (by omega) hzl rfl, World.putObj_heap_same (Array.getElem?_eq_some_iff.1 hzl).1, (World.putObj_heap_other (by omega)).trans (hz.same _ _ hYd rfl)⟩⟩
      | exit id => exact hp.elim
      | goto t => exact hp.elim
      | panic ch => exact hp.elim
      | outgrown => exact hp.elim
    · rintro e Z ⟨⟨v, rfl⟩, ⟨hi, hl, hd⟩ | ⟨pre, hpx, hi, hl, hd⟩⟩
      · exact ⟨none, _, run_endLoop (P := P) hl (by simp [rec_]), hdone _ _ (Nat.le_refl _) (hI.putObj _ hi (by omega) hl rfl) ((World.putObj_heap_other (by omega)).trans hd)⟩
      · exact ⟨some .ret, _, run_endLoop (P := P) hl (by simp [rec_]), hstop _ pre _ (Nat.le_refl _) hpx (hIx.putObj _ hi (by omega) hl rfl) ((World.putObj_heap_other (by omega)).trans hd)⟩
end Go.Proofs.YtcdjmkfpclmbdaaGreatDoor.D

namespace Go.Proofs.YtcdjmkfpclmbdaaGreatDoor.D
open Go.RowKit

theorem abides_below {β : Type} {J : β → World → Prop} {B : Nat} (h : AbidesFrom B J) {x : β} {W W' : World} (hj : J x W) (hb : Below W.heap.size W W') : J x W' :=
  h x W W' none hj ⟨hb.os, hb.tape, hb.output, hb.size, fun k hk _ => hb.block k hk⟩ (fun r e => by cases e) hb.drawn

set_option maxHeartbeats 2000000 in
set_option maxRecDepth 100000 in
theorem iter_any (S : ByteArray) (hS : S.size ≤ 1000000) (Bs b k : Nat) (hBs : b + k ≤ Bs) (w : World) (hw : w.cell? ⟨Bs, 0, none⟩ = some (.string S)) :
    Yields Tryz.prog 142 #[.pointer (some ⟨Bs, 0, none⟩)] encP b k (partsL S.data.toList) w := by
  intro l J Jx W hW hJ hJx hY h0
  have hs : W.cell? ⟨Bs, 0, none⟩ = some (.string S) := (hW.cell (p := ⟨Bs, 0, none⟩) (cell_lt hw)).trans hw
  have hBW : Bs < W.heap.size := cell_lt hs
  clear hw hW
  refine callsIn_of_wp Tryz.func142 rfl trivial ?_ rfl
  simp only [Tryz.ntmps142, List.size_toArray, List.length_cons, List.length_nil, Nat.reduceAdd, Nat.reduceSub, Array.replicate_succ, Array.replicate_zero, List.push_toArray, List.append_toArray, List.nil_append, List.cons_append]
  by_cases hz : S.size = 0
  · have hd : S.data.toList = [] := List.eq_nil_of_length_eq_zero (by simpa using hz)
    have hSe : S = ⟨#[]⟩ := by apply ByteArray.ext; apply Array.ext'; simpa using hd
    rw [hd] at hY ⊢
    subst hSe
    gi_wp2
    refine bodyPost_ret (results_none rfl _ _ _) rfl ?_
    exact ⟨⟨_, rfl⟩, .inl h0⟩
  · have hq : partsL S.data.toList = partsF S.data.toList 9 0 0 := by
      cases hq : S.data.toList with
      | nil => exact absurd (by simpa using congrArg List.length hq) hz
      | cons a b => rfl
    have hSe : S.toList.isEmpty = false := by
      rw [ByteArray.toList_eq]
      cases hq : S.data.toList with
      | nil => exact absurd (by simpa using congrArg List.length hq) hz
      | cons a b => rfl
    rw [hq] at hY ⊢
    clear hq
    obtain ⟨xs, hxs⟩ : ∃ xs, xs = partsF S.data.toList 9 0 0 := ⟨_, rfl⟩
    rw [← hxs] at hY ⊢
    have HX := Lib.hid hxs
    have HY := Lib.hid hY
    have HJ := Lib.hid hJ
    have HJ0 := Lib.hid h0
    clear hxs hY hJ h0 hJx
    gi_wp2
    gi_loopw [3, 9] (fun u i wr => ∃ (at_ c f : Nat) (pre : List (Nat × Nat × Nat)), u = .int .i64 (at_ : Int) ∧ i = .int .i64 (c : Int) ∧ at_ ≤ S.size ∧ f + c = 9 ∧ 0 < f ∧ Hid (xs = pre ++ partsF S.data.toList f at_ c) ∧ Hid (J pre wr) ∧ wr.cell? ⟨Bs, 0, none⟩ = some (.string S)) (fun _ i _ => 9 - (intOf i).toNat)
    case atStart => exact ⟨0, 0, 9, [], rfl, rfl, by omega, rfl, by omega, Lib.hid HX.out, HJ0, hs⟩
    case round =>
      clear hs HX HJ0
      obtain ⟨at_, c, f, pre, rfl, rfl, ha, hf, hf0, HXS, HJP, hs⟩ := hrel
      obtain ⟨a, n, e, en, hr⟩ : ∃ a n e en, partP S.data.toList at_ c = (a, n, e, en) := ⟨_, _, _, _, rfl⟩
      obtain ⟨f', rfl⟩ : ∃ f', f = f' + 1 := ⟨f - 1, by omega⟩
      obtain ⟨E, hE⟩ : ∃ E : Int, E = (e : Int) := ⟨_, rfl⟩
      have HP : Hid (∀ W, Calls Tryz.prog 143 #[.string S, .int .i64 (at_ : Int), .int .i64 (c : Int)] W fun r w' => r = .returned (.tuple #[.agg #[.int .i64 (a : Int), .int .i64 (n : Int), .int .i64 E], .int .i64 (en : Int)]) ∧ Below W.heap.size W w') :=
        Lib.hid fun W => by rw [hE]; exact partAt_any S at_ c W ha hS (by omega) (a, n, e, en) hr.symm
      have hen : en ≤ S.size := by have := partP_end hr (by simpa using ha); simpa using this
      have hc9 : (c : Int) < 9 := by omega
      have hBr : Bs < wr.heap.size := cell_lt hs
      have HYL : Hid ((pre ++ [(a, n, e)]) <+: xs → ∀ W1, Below wr.heap.size wr W1 → YieldAt Fence.wide 2 Tryz.prog l #[.agg #[.int .i64 (a : Int), .int .i64 (n : Int), .int .i64 E]] (W1.alloc (.cells #[.int .i64 (a : Int), .int .i64 (n : Int), .int .i64 E] 163)) fun r W' =>
          (r = .returned (.bool true) ∧ J (pre ++ [(a, n, e)]) W' ∧ W'.cell? ⟨W1.heap.size, 2, none⟩ = some (.int .i64 E) ∧ W'.cell? ⟨Bs, 0, none⟩ = some (.string S)) ∨ (r = .returned (.bool false) ∧ Jx (pre ++ [(a, n, e)]) W')) := by
        rw [hE]; refine Lib.hid fun hpx W1 hb => (HY.out pre (a, n, e) _ hpx (abides_below HJ.out HJP.out (hb.alloc hb.size _))).mono ?_
        rintro r W' (⟨rfl, hj, hk⟩ | ⟨rfl, hj⟩)
        · refine .inl ⟨rfl, hj, hk.2 _ _ (by show ¬ (b ≤ W1.heap.size ∧ W1.heap.size < b + k); have := hb.size; omega) ?_, hk.2 _ _ (by show ¬ (b ≤ Bs ∧ Bs < b + k); omega) ?_⟩
          · rw [World.cell?_alloc_at _ _ _ _ rfl]; rfl
          · exact ((hb.alloc hb.size _).cell (p := ⟨Bs, 0, none⟩) hBr).trans hs
        · exact .inr ⟨rfl, hj⟩
      by_cases he : e = 0
      · obtain rfl : E = 0 := by rw [hE, he]; rfl
        clear hE
        subst he
        by_cases hl : en = S.size
        · have hx := HXS.out
          rw [partsF_end hr (List.drop_eq_nil_of_le (by simp; omega))] at hx
          have HYM := Lib.hid (HYL.out (by rw [hx]; exact List.prefix_refl _))
          have HXX := Lib.hid hx
          have gl : ((en : Int) == (S.size : Int)) = true := by simp; omega
          clear hx hr HXS HYL
          gi_wp2_with (refine ⟨trivial, ?_⟩; gi_at_call 143; refine ((callsIn_wide (n := 2)).2 (HP.out _)).mono ?_; rintro r W1 ⟨rfl, hb1⟩; obtain ⟨fn, tmps, assign, body, hy, hR⟩ := HYM.out _ hb1)
          refine hR.mono ?_
          rintro r W2 (⟨rfl, hj, hce, hcs⟩ | ⟨rfl, hj⟩)
          · gi_wp2
            refine bodyPost_ret (results_none rfl _ _ _) rfl ?_
            exact ⟨⟨_, rfl⟩, .inl (by rw [HXX.out]; exact hj)⟩
          · gi_wp2
            refine bodyPost_ret (results_none rfl _ _ _) rfl ?_
            exact ⟨⟨_, rfl⟩, .inr ⟨_, by rw [HXX.out]; exact List.prefix_refl _, hj⟩⟩
        · have gl : ((en : Int) == (S.size : Int)) = false := by simp; omega
          have hlt : en < S.size := by omega
          obtain ⟨d, hd⟩ : ∃ d, d = S.data.toList[en]'(by simpa using hlt) := ⟨_, rfl⟩
          have hix : ∀ W, (Instr.index 9 (.string S) (.int .i64 (en : Int))).run Tryz.prog W = .ok (bv d) W := fun W => by
            rw [run_index_string W 9 S .i64 en Tryz.underlying9, dif_pos ⟨by omega, by omega⟩]
            rw [hd]; rfl
          have hdrop : S.data.toList.drop en = d :: S.data.toList.drop (en + 1) := by rw [hd, List.drop_eq_getElem_cons]
          clear hd
          by_cases h46 : d = 46
          · have q46 : ((d.toNat : Int) == 46) = true := by rw [h46]; decide
            have hx := HXS.out
            rw [partsF_go hr hdrop h46] at hx
            have HYM := Lib.hid (HYL.out (by rw [hx]; exact ⟨partsF S.data.toList f' (en + 1) (c + 1), by simp⟩))
            have HXX := Lib.hid hx
            have hf2 : 0 < f' := by
              apply Nat.pos_of_ne_zero
              intro h0
              have hc8 : c = 8 := by omega
              rw [hc8] at hr
              unfold partP at hr
              rw [if_pos rfl] at hr
              cases hr
            clear hx hr HXS HYL h46 hdrop
            gi_wp2_with (refine ⟨trivial, ?_⟩; gi_at_call 143; refine ((callsIn_wide (n := 2)).2 (HP.out _)).mono ?_; rintro r W1 ⟨rfl, hb1⟩; obtain ⟨fn, tmps, assign, body, hy, hR⟩ := HYM.out _ hb1)
            refine hR.mono ?_
            rintro r W2 (⟨rfl, hj, hce, hcs⟩ | ⟨rfl, hj⟩)
            · have HJN := Lib.hid hj
              clear hj
              gi_wp2
              go_roundw
              case rel => exact ⟨en + 1, c + 1, f', pre ++ [(a, n, 0)], by go_num, by go_num, by omega, by omega, hf2, Lib.hid (by rw [HXX.out]; simp), HJN, hcs⟩
              case measure => simp [intOf] <;> omega
            · gi_wp2
              refine bodyPost_ret (results_none rfl _ _ _) rfl ?_
              exact ⟨⟨_, rfl⟩, .inr ⟨_, ⟨partsF S.data.toList f' (en + 1) (c + 1), by rw [HXX.out]; simp⟩, hj⟩⟩
          · have q46 : ((d.toNat : Int) == 46) = false := by
              rw [beq_eq_false_iff_ne]; intro e; exact h46 (UInt8.toNat_inj.1 (by rw [show d.toNat = 46 by omega]; rfl))
            have hx := HXS.out
            rw [partsF_bad hr hdrop h46] at hx
            have HYM := Lib.hid (HYL.out (by rw [hx]; exact ⟨[(en, 0, 6)], by simp⟩))
            have HXX := Lib.hid hx
            have HY2 : Hid (∀ W2, J (pre ++ [(a, n, 0)]) W2 → YieldAt Fence.wide 2 Tryz.prog l #[.agg #[.int .i64 (en : Int), .int .i64 0, .int .i64 6]] W2 fun r W' =>
                (r = .returned (.bool true) ∧ J xs W') ∨ (r = .returned (.bool false) ∧ Jx xs W')) := by
              refine Lib.hid fun W2 hj => (HY.out (pre ++ [(a, n, 0)]) (en, 0, 6) W2 (by rw [hx]; simp) hj).mono ?_
              have e1 : pre ++ [(a, n, 0)] ++ [(en, 0, 6)] = xs := by rw [hx]; simp
              rw [e1]
              rintro r W' (⟨rfl, hj, _⟩ | ⟨rfl, hj⟩)
              · exact .inl ⟨rfl, hj⟩
              · exact .inr ⟨rfl, hj⟩
            clear hx hr HXS HYL h46 hdrop
            gi_wp2_with (refine ⟨trivial, ?_⟩; gi_at_call 143; refine ((callsIn_wide (n := 2)).2 (HP.out _)).mono ?_; rintro r W1 ⟨rfl, hb1⟩; obtain ⟨fn, tmps, assign, body, hy, hR⟩ := HYM.out _ hb1)
            refine hR.mono ?_
            rintro r W2 (⟨rfl, hj, hce, hcs⟩ | ⟨rfl, hj⟩)
            · obtain ⟨fn2, tmps2, assign2, body2, hy2, hR2⟩ := HY2.out _ hj
              clear hj
              gi_wp2
              refine hR2.mono ?_
              rintro r W3 (⟨rfl, hj⟩ | ⟨rfl, hj⟩)
              · gi_wp2
                refine bodyPost_ret (results_none rfl _ _ _) rfl ?_
                exact ⟨⟨_, rfl⟩, .inl hj⟩
              · gi_wp2
                refine bodyPost_ret (results_none rfl _ _ _) rfl ?_
                exact ⟨⟨_, rfl⟩, .inr ⟨_, List.prefix_refl _, hj⟩⟩
            · gi_wp2
              refine bodyPost_ret (results_none rfl _ _ _) rfl ?_
              exact ⟨⟨_, rfl⟩, .inr ⟨_, ⟨[(en, 0, 6)], by rw [HXX.out]; simp⟩, hj⟩⟩
      · have hx := HXS.out
        rw [partsF_err hr he] at hx
        have HYM := Lib.hid (HYL.out (by rw [hx]; exact List.prefix_refl _))
        have HXX := Lib.hid hx
        have ge : (E == 0) = false := by simp; omega
        clear hx hr hE HXS HYL he
        gi_wp2_with (refine ⟨trivial, ?_⟩; gi_at_call 143; refine ((callsIn_wide (n := 2)).2 (HP.out _)).mono ?_; rintro r W1 ⟨rfl, hb1⟩; obtain ⟨fn, tmps, assign, body, hy, hR⟩ := HYM.out _ hb1)
        refine hR.mono ?_
        rintro r W2 (⟨rfl, hj, hce, hcs⟩ | ⟨rfl, hj⟩)
        · gi_wp2
          refine bodyPost_ret (results_none rfl _ _ _) rfl ?_
          exact ⟨⟨_, rfl⟩, .inl (by rw [HXX.out]; exact hj)⟩
        · gi_wp2
          refine bodyPost_ret (results_none rfl _ _ _) rfl ?_
          exact ⟨⟨_, rfl⟩, .inr ⟨_, by rw [HXX.out]; exact List.prefix_refl _, hj⟩⟩
end Go.Proofs.YtcdjmkfpclmbdaaGreatDoor.D

namespace Go.Proofs.YtcdjmkfpclmbdaaGreatDoor.D
open Go.RowKit
attribute [local go_sem] Oper.semAt_some

def RVn (w : World) (S : ByteArray) (V : World) : Prop := RV V w.heap.size [] 0 0 ∧ V.cell? ⟨w.heap.size + 3, 0, none⟩ = some (.string S) ∧ Below w.heap.size w V ∧ V.heap.size = w.heap.size + 4
theorem rv_new (w : World) (S : ByteArray) (z : Array Value) (hz : z = (listV []).toArray) (s t u v : TypeId) :
    RVn w S ((((w.alloc (.cells z s)).alloc (.cells #[.int .i64 0] t)).alloc (.cells #[.int .i64 0] u)).alloc (.cells #[.string S] v)) := by
  subst hz
  have e1 : (w.alloc (Obj.cells (listV []).toArray s)).heap.size = w.heap.size + 1 := by simp
  have e2 : ((w.alloc (Obj.cells (listV []).toArray s)).alloc (Obj.cells #[Value.int .i64 0] t)).heap.size = w.heap.size + 2 := by simp
  have e3 : (((w.alloc (Obj.cells (listV []).toArray s)).alloc (Obj.cells #[Value.int .i64 0] t)).alloc (Obj.cells #[Value.int .i64 0] u)).heap.size = w.heap.size + 3 := by simp
  refine ⟨⟨(((Arr.new w _ _).alloc _).alloc _).alloc _, ?_, ?_⟩, ?_, (((((Below.refl _ w).alloc (Nat.le_refl _) _).alloc (by simp) _).alloc (by simp; omega) _).alloc (by simp; omega) _), by simp⟩
  · rw [← e1]; exact (((Arr.new _ [iv 0] t).alloc _).alloc _)
  · rw [← e2]; exact ((Arr.new _ [iv 0] u).alloc _)
  · rw [← e3, World.cell?_alloc_at _ _ _ _ rfl]; rfl
/-- Between two rounds, and behind a round that has returned. -/
def IR (w : World) (pre : List (Nat × Nat × Nat)) (W : World) : Prop := (∀ y ∈ pre, y.2.2 = 0) ∧ RV W w.heap.size (pre.map fun y => y.2.1) 0 0 ∧ Below w.heap.size w W
def IxR (w : World) (pre : List (Nat × Nat × Nat)) (W : World) : Prop := ∃ q x, pre = q ++ [x] ∧ (∀ y ∈ q, y.2.2 = 0) ∧ x.2.2 ≠ 0 ∧ RV W w.heap.size [] x.1 x.2.2 ∧ Below w.heap.size w W
theorem ir_own {w : World} {B : Nat} (hB : w.heap.size ≤ B) : OwnFrom B (IR w) :=
  fun s X Y row hs hg hr hd => ⟨hs.1, hs.2.1.kept hg (fun r e => (hr r e).2), hs.2.2.grown hg hd hs.2.2.size (fun k e => by have := (hr k e).1; omega)⟩
theorem ixr_own {w : World} {B : Nat} (hB : w.heap.size ≤ B) : OwnFrom B (IxR w) :=
  fun s X Y row hs hg hr hd => by
    obtain ⟨q, x, h1, h2, h3, h4, h5⟩ := hs
    exact ⟨q, x, h1, h2, h3, h4.kept hg (fun r e => (hr r e).2), h5.grown hg hd h5.size (fun k e => by have := (hr k e).1; omega)⟩

set_option maxHeartbeats 2000000 in
set_option maxRecDepth 100000 in
theorem read_any (S : ByteArray) (w : World) (hS : S.size ≤ 1000000) (R : List Nat × Nat × Nat) (hR : R = parseL S.data.toList) :
    Calls Tryz.prog 106 #[.string S] w fun e w' => e = .returned (.tuple #[.agg (listV R.1).toArray, .int .i64 (R.2.1 : Int), .int .i64 (R.2.2 : Int)]) ∧ Below w.heap.size w w' := by
  refine (callsIn_wide (n := 4)).1 ?_
  refine callsIn_of_wp_marks Tryz.func106 rfl trivial ?_ rfl
  simp only [Tryz.ntmps106, List.size_toArray, List.length_cons, List.length_nil, Nat.reduceAdd, Nat.reduceSub, Array.replicate_succ, Array.replicate_zero, List.push_toArray, List.append_toArray, List.nil_append, List.cons_append]
  have HR := Lib.hid hR
  clear hR
  gi_wp2_with (refine ⟨trivial, ?_⟩; gi_at_call 127; refine ((callsIn_wide (n := 3)).2 (parts_any S _)).mono ?_; rintro r W1 ⟨rfl, rfl⟩)
  refine inwp_gen (RVn w S) (rv_new w S _ (by rfl) _ _ _ _) ?_
  rintro V ⟨hV, hVs, hVb, hVz⟩
  refine wpIn_upto (b := w.heap.size) (k := 3) (gf := 142) (lb := #[.pointer (some ⟨w.heap.size + 3, 0, none⟩)]) (enc := encP) (xs := partsL S.data.toList) rfl (enters_of Tryz.func142 (by kernel_rfl) rfl) (by omega) (iter_any S hS (w.heap.size + 3) w.heap.size 3 (Nat.le_refl _) V hVs) rfl
    (IR w) (IxR w) (ir_own (by omega)) (ixr_own (by omega))
    ⟨by simp, hV, hVb⟩
    (fun (x : Nat × Nat × Nat) G => { tmps := #[.string S, undef, .pointer (some ⟨w.heap.size, 0, none⟩), .pointer (some ⟨w.heap.size + 1, 0, none⟩), .pointer (some ⟨w.heap.size + 1 + 1, 0, none⟩), .pointer (some ⟨G, 0, none⟩), .string S, .func (.func 142) #[] #[.pointer (some ⟨w.heap.size + 1 + 1 + 1, 0, none⟩)], encP x, undef, undef, undef, undef, undef, undef, undef, undef, undef, undef, undef, undef, undef, undef, undef, undef, undef, undef, undef], defers := [] })
    (fun x => .cells #[.int .i64 (x.1 : Int), .int .i64 (x.2.1 : Int), .int .i64 (x.2.2 : Int)] 163)
    ?assign ?body ?done ?stop
  case assign =>
    intro l x W K hK
    simp only [encP] at hK ⊢
    gi_wp2
    exact hK
  case body =>
    rintro l G pre ⟨a, n, e⟩ W hpx hG hGo ⟨hpre, hRV, hB⟩
    simp only [encP]
    have cG0 : W.cell? ⟨G, 0, none⟩ = some (.int .i64 (a : Int)) := by unfold World.cell?; rw [hGo]; rfl
    have cG1 : W.cell? ⟨G, 1, none⟩ = some (.int .i64 (n : Int)) := by unfold World.cell?; rw [hGo]; rfl
    have cG2 : W.cell? ⟨G, 2, none⟩ = some (.int .i64 (e : Int)) := by unfold World.cell?; rw [hGo]; rfl
    have HPX := Lib.hid hpx
    have HPRE := Lib.hid hpre
    have HRV := Lib.hid hRV
    have HB := Lib.hid hB
    clear hpx hpre hRV hB hGo
    by_cases he : e = 0
    · subst he
      obtain ⟨o, ho⟩ : ∃ o, o = pre.map fun y => y.2.1 := ⟨_, rfl⟩
      have hk : o.length ≤ 7 := by rw [ho, List.length_map]; exact partsL_room HPX.out rfl
      have HRO := Lib.hid HRV.out
      rw [← ho] at HRO
      have HO := Lib.hid ho
      clear ho
      have h8 : (o.length : Int) < 8 := by omega
      have hne : ¬ o.length = 8 := by omega
      have c8 := HRO.out.1.cell0 (listV_depth (o := o) (by omega))
      have f8 := HRO.out.1.frozen0 (i := 8) (by rw [listV_length (by omega)]; omega)
      have ck : ∃ v, W.cell? ⟨w.heap.size, o.length, none⟩ = some v := ⟨_, HRO.out.1.cell0 (List.getElem?_eq_getElem (i := o.length) (by rw [listV_length (by omega)]; omega))⟩
      obtain ⟨v, ck⟩ := ck
      have fk := HRO.out.1.frozen0 (i := o.length) (by rw [listV_length (by omega)]; omega)
      simp only [Int.natCast_zero] at cG2
      gi_wp2
      have hA := HRO.out.1
      have h1 := (hA.set0 (i := o.length) (by rw [listV_length (by omega)]; omega) (iv n)).set0 (i := 8) (by rw [List.length_set, listV_length (by omega)]; omega) (iv (o.length + 1))
      rw [listV_push hk] at h1
      refine ⟨(KeepsOthers.setCell _ _ _).trans (KeepsOthers.setCell _ _ _), ((KpB.refl w.heap.size 3 W).setCell (q := ⟨w.heap.size, o.length, none⟩) ⟨Nat.le_refl _, by show w.heap.size < w.heap.size + 3; omega⟩ _).setCell (q := ⟨w.heap.size, 8, none⟩) ⟨Nat.le_refl _, by show w.heap.size < w.heap.size + 3; omega⟩ _, ?_, ⟨?_, ?_, ?_⟩, (HB.out.setCell (p := ⟨w.heap.size, o.length, none⟩) (Nat.le_refl _) _).setCell (p := ⟨w.heap.size, 8, none⟩) (Nat.le_refl _) _⟩
      · intro y hy
        rcases List.mem_append.1 hy with hy | hy
        · exact HPRE.out y hy
        · simp at hy; rw [hy]
      · rw [List.map_append, ← HO.out]; exact h1
      · exact (HRO.out.2.1.other _ (.inl (by show w.heap.size ≠ w.heap.size + 1; omega))).other _ (.inl (by show w.heap.size ≠ w.heap.size + 1; omega))
      · exact (HRO.out.2.2.other _ (.inl (by show w.heap.size ≠ w.heap.size + 2; omega))).other _ (.inl (by show w.heap.size ≠ w.heap.size + 2; omega))
    · have ge : ((e : Int) == 0) = false := by simp; omega
      have HE := Lib.hid he
      have HLEN : Hid (pre.length ≤ 8) := Lib.hid (by have := partsL_len HPX.out; omega)
      clear he
      gi_wp2
      refine region_round_held (S := fun V => V.rangeAt G 0 (part3 a n e)) (by kernel_rfl) (by kernel_rfl) (by rintro ⟨_, _, h⟩; exact h) (range3 cG0 cG1 cG2) (fun hHeld => ?_)
      refine wpAnyH_take (i := 0) (v := ?_) (ops_atL rfl) (by kernel_rfl) (by kernel_rfl) (by kernel_rfl) (fun _ _ _ h => h) (Or.inl ⟨by rfl, ?_⟩) hHeld ?_
      rotate_left
      · (intro W hSW; go_simp; try with_reducible rfl)
      try simp only [Act.put, List.setIfInBounds_toArray, List.set_cons_zero, List.set_cons_succ]
      refine wpAnyH_take (i := 1) (v := ?_) (ops_atL rfl) (by kernel_rfl) (by kernel_rfl) (by kernel_rfl) (fun _ _ _ h => h) (Or.inl ⟨by rfl, ?_⟩) hHeld ?_
      rotate_left
      · (intro W hSW; go_simp; try with_reducible rfl)
      try simp only [Act.put, List.setIfInBounds_toArray, List.set_cons_zero, List.set_cons_succ]
      refine wpAnyH_take (i := 2) (v := ?_) (ops_atL rfl) (by kernel_rfl) (by kernel_rfl) (by kernel_rfl) (fun _ _ _ h => h) (Or.inl ⟨by rfl, ?_⟩) hHeld ?_
      rotate_left
      · (intro W hSW; have c0 : W.cell? ⟨G, 0, none⟩ = some (.int .i64 (a : Int)) := hSW 0 _ rfl; go_simp; try with_reducible rfl)
      try simp only [Act.put, List.setIfInBounds_toArray, List.set_cons_zero, List.set_cons_succ]
      refine wpAnyH_take (i := 3) (v := ?_) (ops_atL rfl) (by kernel_rfl) (by kernel_rfl) (by kernel_rfl) (fun _ _ _ h => h) (Or.inl ⟨by rfl, ?_⟩) hHeld ?_
      rotate_left
      · (intro W hSW; go_simp; try with_reducible rfl)
      try simp only [Act.put, List.setIfInBounds_toArray, List.set_cons_zero, List.set_cons_succ]
      refine wpAnyH_take (i := 4) (v := ?_) (ops_atL rfl) (by kernel_rfl) (by kernel_rfl) (by kernel_rfl) (fun _ _ _ h => h) (Or.inl ⟨by rfl, ?_⟩) hHeld ?_
      rotate_left
      · (intro W hSW; have c2 : W.cell? ⟨G, 2, none⟩ = some (.int .i64 (e : Int)) := hSW 2 _ rfl; go_simp; try with_reducible rfl)
      try simp only [Act.put, List.setIfInBounds_toArray, List.set_cons_zero, List.set_cons_succ]
      refine wpAnyH_ready (rs := [5]) (by kernel_rfl) (by simp) ?_
      refine AllReadyH.cons (ops_atL rfl) (fun K hK => ?_) AllReadyH.nil
      rw [if_pos (by rfl)]
      refine wp_store_mid 99 (.tmp 2) (.tmp 12) rfl w.heap.size 0 (listV []).toArray rfl rfl ?th (by kernel_rfl) (all_oneCell_toArray (listV_one [])) ?_
      case th => exact HRV.out.1.drew.thereA (listV []) (listV_len2 (by simp) (by rw [List.length_map]; exact HLEN.out))
      have hS5 : (W.drew.setCells w.heap.size 0 (listV [])).rangeAt G 0 (part3 a n e) := World.rangeAt_setCells_apart hHeld _ _ _ (.inl (by omega))
      refine hK.out _ _ hS5 (fun _ => ?_)
      clear hK K hHeld
      try simp only [Act.put, List.setIfInBounds_toArray, List.set_cons_zero, List.set_cons_succ]
      refine anyH_gen (fun V => RV V w.heap.size [] 0 0 ∧ Below w.heap.size w V ∧ KeepsOthers W V ∧ V.rangeAt G 0 (part3 a n e)) ⟨⟨HRV.out.1.drew.sets (listV []) (listV_len2 (by simp) (by rw [List.length_map]; exact HLEN.out)), HRV.out.2.1.drew.sets_other _ _ _ (.inl (by omega)), HRV.out.2.2.drew.sets_other _ _ _ (.inl (by omega))⟩, below_setCells _ (Nat.le_refl _) _ _ _ HB.out.drew, keeps_setCells _ _ _ (KeepsOthers.drew W), hS5⟩ ?_
      rintro X ⟨hXR, hXB, hXK, hHeld⟩
      have d1 : X.cell? ⟨w.heap.size + 1, 0, none⟩ = some (.int .i64 0) := hXR.2.1.cell0 (i := 0) rfl
      have g1 := hXR.2.1.frozen0 (i := 0) (by simp)
      have d2 : X.cell? ⟨w.heap.size + 1 + 1, 0, none⟩ = some (.int .i64 0) := hXR.2.2.cell0 (i := 0) rfl
      have g2 : X.frozen? ⟨w.heap.size + 1 + 1, 0, none⟩ = false := hXR.2.2.frozen0 (i := 0) (by simp)
      refine wpAnyH_ready (rs := [6]) (by kernel_rfl) (by simp) ?_
      refine AllReadyH.cons (ops_atL rfl) (fun K hK => ?_) AllReadyH.nil
      go_simp
      have hS6 : (X.setCell ⟨w.heap.size + 1, 0, none⟩ (.int .i64 (a : Int))).rangeAt G 0 (part3 a n e) := fun j v hv => by
        rw [World.cell?_setCell_other _ _ _ _ (by intro e; injection e with e1 _; omega)]; exact hHeld j v hv
      refine hK.out _ _ hS6 (fun _ => ?_)
      clear hK K
      try simp only [Act.put, List.setIfInBounds_toArray, List.set_cons_zero, List.set_cons_succ]
      refine wpAnyH_ready (rs := [7]) (by kernel_rfl) (by simp) ?_
      refine AllReadyH.cons (ops_atL rfl) (fun K hK => ?_) AllReadyH.nil
      go_simp
      refine hK.out _ _ (fun j v hv => by
        rw [World.cell?_setCell_other _ _ _ _ (by intro e; injection e with e1 _; omega)]; exact hS6 j v hv) (fun _ => ?_)
      clear hK K
      try simp only [Act.put, List.setIfInBounds_toArray, List.set_cons_zero, List.set_cons_succ]
      refine wpAnyH_done (by kernel_rfl) ?_ _
      gi_wp2
      have h1 := hXR.1
      have h2 := hXR.2.1.set0 (i := 0) (by simp) (iv a)
      have h3 := (hXR.2.2.other (p := ⟨w.heap.size + 1, 0, none⟩) (iv a) (.inl (by show w.heap.size + 1 ≠ w.heap.size + 2; omega))).set0 (i := 0) (by simp) (iv e)
      refine ⟨(hXK.trans (KeepsOthers.setCell _ _ _)).trans (KeepsOthers.setCell _ _ _), pre, (a, n, e), rfl, HPRE.out, HE.out, ⟨?_, ?_, ?_⟩, (hXB.setCell (p := ⟨w.heap.size + 1, 0, none⟩) (by show w.heap.size ≤ w.heap.size + 1; omega) _).setCell (p := ⟨w.heap.size + 1 + 1, 0, none⟩) (by show w.heap.size ≤ w.heap.size + 1 + 1; omega) _⟩
      · exact (h1.other _ (.inl (by show w.heap.size + 1 ≠ w.heap.size; omega))).other _ (.inl (by show w.heap.size + 1 + 1 ≠ w.heap.size; omega))
      · exact h2.other _ (.inl (by show w.heap.size + 1 + 1 ≠ w.heap.size + 1; omega))
      · exact h3
  case done =>
    rintro D W hD ⟨hall, hRV, hB⟩ hK
    obtain ⟨o, ho⟩ : ∃ o, o = (partsL S.data.toList).map fun y => y.2.1 := ⟨_, rfl⟩
    have hRo : R = (o, 0, 0) := by rw [HR.out, ho]; exact partsL_all hall
    rw [← ho] at hRV
    have HLEN : Hid (o.length ≤ 8) := Lib.hid (by rw [ho, List.length_map]; exact partsL_short hall)
    have hDw : w.heap.size ≤ D := by omega
    have HRV := Lib.hid hRV
    have HB := Lib.hid hB
    have HK := Lib.hid hK
    have HL : Hid (W.rangeAt w.heap.size 0 (listV o)) := Lib.hid hRV.1.1
    have HT : Hid (W.there w.heap.size 0 (listV o).toArray.size) := Lib.hid (hRV.1.thereA (listV o) rfl)
    have HI : Hid ((Tryz.prog.info? 99).map (·.size) = some (listV o).length) := Lib.hid (by rw [listV_length HLEN.out]; kernel_rfl)
    have HIA : Hid ((Tryz.prog.info? 99).map (·.size) = some (listV o).toArray.size) := Lib.hid (by rw [List.size_toArray, listV_length HLEN.out]; kernel_rfl)
    have HO1 : Hid ((listV o).toArray.all Value.oneCell' = true) := Lib.hid (all_oneCell_toArray (listV_one o))
    obtain ⟨W2, hW2⟩ : ∃ W2, W2 = W.setCells w.heap.size 0 (listV o) := ⟨_, rfl⟩
    have hR2 : RV W2 w.heap.size o 0 0 := by rw [hW2]; exact ⟨hRV.1.sets (listV o) rfl, hRV.2.1.sets_other _ _ _ (.inl (by omega)), hRV.2.2.sets_other _ _ _ (.inl (by omega))⟩
    have hB2 : Below w.heap.size w W2 := by rw [hW2]; exact below_setCells _ (Nat.le_refl _) _ _ _ hB
    have hK2 : W2.heap[D]? = some (.deferred (some [])) := by rw [hW2]; exact (keeps_setCells _ _ _ (KeepsOthers.refl W)).same D _ hK rfl
    have d1 : W2.cell? ⟨w.heap.size + 1, 0, none⟩ = some (.int .i64 0) := hR2.2.1.cell0 (i := 0) rfl
    have g1 := hR2.2.1.frozen0 (i := 0) (by simp)
    have d2 : W2.cell? ⟨w.heap.size + 1 + 1, 0, none⟩ = some (.int .i64 0) := hR2.2.2.cell0 (i := 0) rfl
    have g2 : W2.frozen? ⟨w.heap.size + 1 + 1, 0, none⟩ = false := hR2.2.2.frozen0 (i := 0) (by simp)
    have HW := Lib.hid hW2
    have HR2 := Lib.hid hR2
    have HB2 := Lib.hid hB2
    have HK2 := Lib.hid hK2
    clear hRV hB hK hall ho hW2 hR2 hB2 hK2 hV hVs hVb hVz
    rename_i K1 hK1
    refine hK1 _ _ (wpIn_wide.2 ?_)
    clear hK1
    go_wp2_with (first
      | (refine wpList_load_mid (by rfl) 99 (.tmp 2) (by rfl) w.heap.size 0 (by rfl) (listV o) _ HL.out Tryz.underlying99 rfl HI.out ?_)
      | (refine wpList_store_mid (by rfl) 99 (.tmp 2) (.tmp 27) (by rfl) w.heap.size 0 (listV o).toArray (by rfl) (by rfl) HT.out HIA.out HO1.out ?_; rw [← HW.out]))
    have hR3 : RV ((W2.setCell ⟨w.heap.size + 1, 0, none⟩ (.int .i64 0)).setCell ⟨w.heap.size + 1 + 1, 0, none⟩ (.int .i64 0)) w.heap.size o 0 0 :=
      ⟨(HR2.out.1.other _ (.inl (by show w.heap.size + 1 ≠ w.heap.size; omega))).other _ (.inl (by show w.heap.size + 1 + 1 ≠ w.heap.size; omega)), (HR2.out.2.1.set0 (i := 0) (by simp) (iv 0)).other _ (.inl (by show w.heap.size + 1 + 1 ≠ w.heap.size + 1; omega)),
        (HR2.out.2.2.other (p := ⟨w.heap.size + 1, 0, none⟩) (iv 0) (.inl (by show w.heap.size + 1 ≠ w.heap.size + 2; omega))).set0 (i := 0) (by simp) (iv 0)⟩
    have hK3 := ((KeepsOthers.setCell W2 ⟨w.heap.size + 1, 0, none⟩ (.int .i64 0)).trans (KeepsOthers.setCell _ ⟨w.heap.size + 1 + 1, 0, none⟩ (.int .i64 0))).same D _ HK2.out rfl
    have hB3 := (HB2.out.setCell (p := ⟨w.heap.size + 1, 0, none⟩) (by show w.heap.size ≤ w.heap.size + 1; omega) (.int .i64 0)).setCell (p := ⟨w.heap.size + 1 + 1, 0, none⟩) (by show w.heap.size ≤ w.heap.size + 1 + 1; omega) (.int .i64 0)
    refine ⟨by simp, .inl ⟨_, _, rfl, run_takeDeferred hK3, ?_⟩⟩
    have hR4 := hR3.kept (grownBy_putObj' _ D (.deferred none)) (fun r e => by cases e; exact ⟨_, hK3, rfl⟩)
    have hB4 := hB3.grown (grownBy_putObj' _ D (.deferred none)) (Nat.le_refl _) hB3.size (fun k e => by cases e; exact hDw)
    refine ⟨_, results_cell3 rfl _ _ w.heap.size (listV o) _ (iv 0) (iv 0) rfl rfl rfl hR4.1 (hR4.2.1.cell0 (i := 0) rfl) (hR4.2.2.cell0 (i := 0) rfl) Tryz.underlying99 rfl HI.out Tryz.underlying3 Tryz.underlying46, ?_, hB4⟩
    rw [hRo]
  case stop =>
    rintro D pre W hD hpx ⟨q, x, rfl, hq, hx, hRV, hB⟩ hK
    have hR := HR.out.trans (partsL_bad hpx hx hq)
    gi_wp2
    refine ⟨by simp, .inl ⟨_, _, rfl, run_takeDeferred hK, ?_⟩⟩
    have hR4 := hRV.kept (grownBy_putObj' _ D (.deferred none)) (fun r e => by cases e; exact ⟨_, hK, rfl⟩)
    have hB4 := hB.grown (grownBy_putObj' _ D (.deferred none)) (Nat.le_refl _) hB.size (fun k e => by cases e; omega)
    refine ⟨_, results_cell3 rfl _ _ w.heap.size (listV []) _ (iv x.1) (iv x.2.2) rfl rfl rfl hR4.1 (hR4.2.1.cell0 (i := 0) rfl) (hR4.2.2.cell0 (i := 0) rfl) Tryz.underlying99 rfl (by kernel_rfl) Tryz.underlying3 Tryz.underlying46, ?_, hB4⟩
    rw [hR]
end Go.Proofs.YtcdjmkfpclmbdaaGreatDoor.D

namespace Go.Proofs.YtcdjmkfpclmbdaaGreatDoor.D
open Go.RowKit

set_option maxHeartbeats 1000000 in
set_option maxRecDepth 100000 in
theorem list_any (S : ByteArray) (w : World) (hS : S.size ≤ 1000000) :
    Calls Tryz.prog 73 #[.string S] w fun e w' => e = .returned (.tuple #[.agg (listV (parseL S.data.toList).1).toArray, .bool (validB S.data.toList)]) ∧ Below w.heap.size w w' := by
  obtain ⟨R, hR⟩ : ∃ R, R = parseL S.data.toList := ⟨_, rfl⟩
  have hv : validB S.data.toList = (R.2.2 == 0) := by rw [hR]; rfl
  have hl : R.1.length ≤ 8 := by rw [hR]; exact parseL_len8 _
  rw [hv, ← hR]
  have HP := Lib.hid fun W => read_any S W hS R hR
  obtain ⟨o, x, e⟩ := R
  clear hR hv
  obtain ⟨c0, c1, c2, c3, c4, c5, c6, c7, h9⟩ := nine hl
  simp only [h9] at HP ⊢
  clear h9 hl
  go_enter Tryz.func73, Tryz.ntmps73
  have HI9 : Hid ((Tryz.prog.info? 99).map (·.size) = some (listN c0 c1 c2 c3 c4 c5 c6 c7 o.length).toArray.size) := Lib.hid (by kernel_rfl)
  have HO9 : Hid ((listN c0 c1 c2 c3 c4 c5 c6 c7 o.length).toArray.all Value.oneCell' = true) := Lib.hid (all_oneCell_toArray (listN_one _ _ _ _ _ _ _ _ _))
  go_wp2_with (first
    | (go_at_call 106; refine (HP.out _).mono ?_; rintro r W1 ⟨rfl, hb1⟩; have HA : Hid (∀ c t, Arr (W1.alloc (.cells c t)) w.heap.size 0 (listN 0 0 0 0 0 0 0 0 0)) := Lib.hid (fun c t => ((Arr.new w (listN 0 0 0 0 0 0 0 0 0) _).below hb1.toBelow (by simp)).alloc (.cells c t)); have HB : Hid (Below w.heap.size w W1) := Lib.hid (((Below.refl _ w).alloc (Nat.le_refl _) _).trans (hb1.mono (by simp))); clear hb1)
    | (refine wpList_store_mid (by rfl) 99 (.tmp 2) (.tmp 13) (by rfl) w.heap.size 0 (listN c0 c1 c2 c3 c4 c5 c6 c7 o.length).toArray (by rfl) (by rfl) ((HA.out _ _).thereA (listN c0 c1 c2 c3 c4 c5 c6 c7 o.length) rfl) HI9.out HO9.out ?_))
  refine bodyPost_ret (results_row2 rfl _ _ w.heap.size (listN c0 c1 c2 c3 c4 c5 c6 c7 o.length) _ rfl ((HA.out _ _).sets (listN c0 c1 c2 c3 c4 c5 c6 c7 o.length) rfl).1 Tryz.underlying99 rfl (by kernel_rfl)) rfl ?_
  refine ⟨?_, below_setCells _ (Nat.le_refl _) _ _ _ (HB.out.alloc HB.out.size _)⟩
  rw [show ((e : Int) == 0) = (e == 0) from by rw [Bool.eq_iff_iff]; simp]
  rfl
end Go.Proofs.YtcdjmkfpclmbdaaGreatDoor.D

namespace Go.Proofs.YtcdjmkfpclmbdaaGreatDoor.D
open Go.RowKit

def SC (w : World) (G1 G2 : Nat) (x y : List Nat) (V : World) : Prop := Arr V G1 0 (listV x) ∧ Arr V G2 0 (listV y) ∧ Below w.heap.size w V
theorem SC.drew {w : World} {G1 G2 : Nat} {x y : List Nat} {V : World} (h : SC w G1 G2 x y V) : SC w G1 G2 x y V.drew := ⟨h.1, h.2.1, h.2.2.drew⟩
theorem SC.below {w : World} {G1 G2 : Nat} {x y : List Nat} {V V' : World} (h : SC w G1 G2 x y V) (hb : Below V.heap.size V V') : SC w G1 G2 x y V' :=
  ⟨h.1.below hb (h.1.lt (listV_pos x)), h.2.1.below hb (h.2.1.lt (listV_pos y)), h.2.2.trans (hb.mono h.2.2.size)⟩
theorem sc_new {w W1 W2 : World} {x y : List Nat} {l1 l2 : Array Value} (h1 : l1 = (listV x).toArray) (h2 : l2 = (listV y).toArray) (t1 t2 : TypeId) (hb1 : Below w.heap.size w W1) (hb2 : Below (W1.alloc (.cells l1 t1)).heap.size (W1.alloc (.cells l1 t1)) W2) :
    SC w W1.heap.size W2.heap.size x y (W2.alloc (.cells l2 t2)) := by
  subst h1 h2
  refine ⟨((Arr.new W1 _ t1).below hb2.toBelow (by simp)).alloc _, Arr.new W2 _ t2, ?_⟩
  have h3 := (hb1.alloc hb1.size (.cells (listV x).toArray t1))
  exact (h3.trans (hb2.mono h3.size)).alloc (h3.trans (hb2.mono h3.size)).size _

theorem list_first (S : ByteArray) (hS : S.size ≤ 1000000) (o : List Nat) (ho : o = (parseL S.data.toList).1) : ∃ a b c d e f g i : Nat, listV o = [iv a, iv b, iv c, iv d, iv e, iv f, iv g, iv i, iv o.length] ∧
    (∀ w, Calls Tryz.prog 73 #[.string S] w fun r w' => r = .returned (.tuple #[.agg #[iv a, iv b, iv c, iv d, iv e, iv f, iv g, iv i, iv o.length], .bool (validB S.data.toList)]) ∧ Below w.heap.size w w') ∧ True := by
  subst ho
  obtain ⟨a, b, c, d, e, f, g, i, h⟩ := nine (parseL_len8 S.data.toList)
  refine ⟨a, b, c, d, e, f, g, i, h, fun w => ?_, trivial⟩
  have := list_any S w hS
  rw [h] at this
  exact this
end Go.Proofs.YtcdjmkfpclmbdaaGreatDoor.D

namespace Go.Proofs.YtcdjmkfpclmbdaaGreatDoor.D
open Go.RowKit

set_option maxHeartbeats 4000000 in
set_option maxRecDepth 100000 in
theorem compare_any (S T : ByteArray) (w : World) (hS : S.size ≤ 1000000) (hT : T.size ≤ 1000000) :
    Calls Tryz.prog 79 #[.string S, .string T] w fun e w' => e = .returned (.int .i64 (compareB S.data.toList T.data.toList)) ∧ Below w.heap.size w w' := by
  obtain ⟨x, hx⟩ : ∃ x, x = (parseL S.data.toList).1 := ⟨_, rfl⟩
  obtain ⟨y, hy⟩ : ∃ y, y = (parseL T.data.toList).1 := ⟨_, rfl⟩
  obtain ⟨a0, a1, a2, a3, a4, a5, a6, a7, h9, hl, hf⟩ := list_first S hS x hx
  obtain ⟨b0, b1, b2, b3, b4, b5, b6, b7, k9, kl, kf⟩ := list_first T hT y hy
  have x8 : x.length ≤ 8 := by rw [hx]; exact parseL_len8 _
  have y8 : y.length ≤ 8 := by rw [hy]; exact parseL_len8 _
  have HX := Lib.hid hl
  have HY := Lib.hid kl
  have HX8 := Lib.hid x8
  have HY8 := Lib.hid y8
  have bx : (x.length : Int) ≤ 8 := by omega
  have bY : (y.length : Int) ≤ 8 := by omega
  have H9 : Hid (#[iv a0, iv a1, iv a2, iv a3, iv a4, iv a5, iv a6, iv a7, iv x.length] = (listV x).toArray) := Lib.hid (by rw [h9])
  have K9 : Hid (#[iv b0, iv b1, iv b2, iv b3, iv b4, iv b5, iv b6, iv b7, iv y.length] = (listV y).toArray) := Lib.hid (by rw [k9])
  obtain ⟨p, hp⟩ : ∃ p, p = validB S.data.toList := ⟨_, rfl⟩
  obtain ⟨q, hq⟩ : ∃ q, q = validB T.data.toList := ⟨_, rfl⟩
  unfold compareB
  rw [← hp, ← hq, ← hx, ← hy]
  rw [← hp] at HX
  rw [← hq] at HY
  have HSC0 : ∀ G1 G2, Hid (∀ W, SC w G1 G2 x y W → Calls Tryz.prog 118 #[.slice (some ⟨G1, 0, none⟩) x.length 8, .slice (some ⟨G2, 0, none⟩) y.length 8] W fun e w' => e = .returned (.int .i64 (cmpI x y)) ∧ SC w G1 G2 x y w') := fun G1 G2 => Lib.hid fun W hW => (sliceCmp_any x y _ _ 8 8 W.heap.size W (list_ri hW.1) (list_ri hW.2.1) (by omega) (by omega)).mono fun e w' he => ⟨he.1, by rw [he.2]; exact hW⟩
  have HNC : Hid (∀ W, Calls Tryz.prog 119 #[.string S, .string T] W fun e w' => e = .returned (.int .i64 (strC S.data.toList T.data.toList)) ∧ w' = W) := Lib.hid (nameCmp_any S T)
  clear hl kl hf kf h9 k9 hx hy x8 y8 hp hq
  cases p with
  | true => cases q with
    | true =>
      rw [if_pos rfl, if_pos rfl]
      go_enter Tryz.func79, Tryz.ntmps79
      go_wp2_with (first
        | (go_at_call 73; (with_reducible refine (HX.out _).mono ?_); rintro r W1 ⟨rfl, hb1⟩; have HB1 := Lib.hid hb1; clear hb1)
        | (go_at_call 73; (with_reducible refine (HY.out _).mono ?_); rintro r W2 ⟨rfl, hb2⟩; have HB2 := Lib.hid hb2; clear hb2))
      refine cwp_gen (SC w W1.heap.size W2.heap.size x y) (sc_new H9.out K9.out _ _ HB1.out HB2.out) ?_
      have HSC := HSC0 W1.heap.size W2.heap.size
      clear HSC0
      generalize W1.heap.size = G1 at HSC ⊢
      generalize W2.heap.size = G2 at HSC ⊢
      intro V HS0
      refine wp_region_held_drew (S := SC w G1 G2 x y) (by kernel_rfl) (HS0.drew) (fun hHeld => ?_)
      refine wpAnyH_take (i := 0) (v := ?_) (ops_atL rfl) (by kernel_rfl) (by kernel_rfl) (by kernel_rfl) (fun _ _ _ h => h) (Or.inl ⟨by rfl, ?_⟩) hHeld ?_
      rotate_left
      · (intro W hSW; go_simp; try with_reducible rfl)
      try simp only [Act.put, List.setIfInBounds_toArray, List.set_cons_zero, List.set_cons_succ]
      refine wpAnyH_take (i := 1) (v := ?_) (ops_atL rfl) (by kernel_rfl) (by kernel_rfl) (by kernel_rfl) (fun _ _ _ h => h) (Or.inl ⟨by rfl, ?_⟩) hHeld ?_
      rotate_left
      · (intro W hSW; go_simp; try with_reducible rfl)
      try simp only [Act.put, List.setIfInBounds_toArray, List.set_cons_zero, List.set_cons_succ]
      refine wpAnyH_take (i := 2) (v := ?_) (ops_atL rfl) (by kernel_rfl) (by kernel_rfl) (by kernel_rfl) (fun _ _ _ h => h) (Or.inl ⟨by rfl, ?_⟩) hHeld ?_
      rotate_left
      · (intro W hSW; have c8 := hSW.1.cell0 (listV_depth HX8.out); go_simp; try with_reducible rfl)
      try simp only [Act.put, List.setIfInBounds_toArray, List.set_cons_zero, List.set_cons_succ]
      refine wpAnyH_take (i := 3) (v := ?_) (ops_atL rfl) (by kernel_rfl) (by kernel_rfl) (by kernel_rfl) (fun _ _ _ h => h) (Or.inl ⟨by rfl, ?_⟩) hHeld ?_
      rotate_left
      · (intro W hSW; go_simp; try with_reducible rfl)
      try simp only [Act.put, List.setIfInBounds_toArray, List.set_cons_zero, List.set_cons_succ]
      refine wpAnyH_take (i := 4) (v := ?_) (ops_atL rfl) (by kernel_rfl) (by kernel_rfl) (by kernel_rfl) (fun _ _ _ h => h) (Or.inl ⟨by rfl, ?_⟩) hHeld ?_
      rotate_left
      · (intro W hSW; go_simp; try with_reducible rfl)
      try simp only [Act.put, List.setIfInBounds_toArray, List.set_cons_zero, List.set_cons_succ]
      refine wpAnyH_take (i := 5) (v := ?_) (ops_atL rfl) (by kernel_rfl) (by kernel_rfl) (by kernel_rfl) (fun _ _ _ h => h) (Or.inl ⟨by rfl, ?_⟩) hHeld ?_
      rotate_left
      · (intro W hSW; go_simp; try with_reducible rfl)
      try simp only [Act.put, List.setIfInBounds_toArray, List.set_cons_zero, List.set_cons_succ]
      refine wpAnyH_take (i := 6) (v := ?_) (ops_atL rfl) (by kernel_rfl) (by kernel_rfl) (by kernel_rfl) (fun _ _ _ h => h) (Or.inl ⟨by rfl, ?_⟩) hHeld ?_
      rotate_left
      · (intro W hSW; have c8 := hSW.2.1.cell0 (listV_depth HY8.out); go_simp; try with_reducible rfl)
      try simp only [Act.put, List.setIfInBounds_toArray, List.set_cons_zero, List.set_cons_succ]
      refine wpAnyH_take (i := 7) (v := ?_) (ops_atL rfl) (by kernel_rfl) (by kernel_rfl) (by kernel_rfl) (fun _ _ _ h => h) (Or.inl ⟨by rfl, ?_⟩) hHeld ?_
      rotate_left
      · (intro W hSW; go_simp; try with_reducible rfl)
      try simp only [Act.put, List.setIfInBounds_toArray, List.set_cons_zero, List.set_cons_succ]
      refine wpAnyH_ready (rs := [8]) (by kernel_rfl) (by simp) ?_
      refine AllReadyH.cons (ops_atL rfl) (fun K hK => ?_) AllReadyH.nil
      go_simp
      (go_at_call 118; refine (HSC.out _ hHeld).mono ?_; rintro e W' ⟨rfl, hb'⟩)
      refine hK.out _ _ hb' (fun hHeld => ?_)
      clear hK K
      try simp only [Act.put, List.setIfInBounds_toArray, List.set_cons_zero, List.set_cons_succ]
      refine wpAnyH_take (i := 9) (v := ?_) (ops_atL rfl) (by kernel_rfl) (by kernel_rfl) (by kernel_rfl) (fun _ _ _ h => h) (Or.inl ⟨by rfl, ?_⟩) hHeld ?_
      rotate_left
      · (intro W hSW; go_simp; try with_reducible rfl)
      try simp only [Act.put, List.setIfInBounds_toArray, List.set_cons_zero, List.set_cons_succ]
      refine wpAnyH_done (by kernel_rfl) ?_ _
      go_wp2
      go_ret
      exact ⟨rfl, hHeld.2.2⟩
    | false =>
      rw [if_pos rfl, if_neg (by decide)]
      clear HSC0
      go_enter Tryz.func79, Tryz.ntmps79
      go_wp2_with (first
        | (go_at_call 73; (with_reducible refine (HX.out _).mono ?_); rintro r W1 ⟨rfl, hb1⟩; have HB1 := Lib.hid hb1; clear hb1)
        | (go_at_call 73; (with_reducible refine (HY.out _).mono ?_); rintro r W2 ⟨rfl, hb2⟩; have HB2 := Lib.hid hb2; clear hb2))
      go_ret
      exact ⟨rfl, (sc_new H9.out K9.out _ _ HB1.out HB2.out).2.2⟩
  | false => cases q with
    | true =>
      rw [if_neg (by decide), if_pos rfl]
      clear HSC0
      go_enter Tryz.func79, Tryz.ntmps79
      go_wp2_with (first
        | (go_at_call 73; (with_reducible refine (HX.out _).mono ?_); rintro r W1 ⟨rfl, hb1⟩; have HB1 := Lib.hid hb1; clear hb1)
        | (go_at_call 73; (with_reducible refine (HY.out _).mono ?_); rintro r W2 ⟨rfl, hb2⟩; have HB2 := Lib.hid hb2; clear hb2))
      go_ret
      exact ⟨rfl, (sc_new H9.out K9.out _ _ HB1.out HB2.out).2.2⟩
    | false =>
      rw [if_neg (by decide), if_neg (by decide)]
      clear HSC0
      go_enter Tryz.func79, Tryz.ntmps79
      go_wp2_with (first
        | (go_at_call 73; (with_reducible refine (HX.out _).mono ?_); rintro r W1 ⟨rfl, hb1⟩; have HB1 := Lib.hid hb1; clear hb1)
        | (go_at_call 73; (with_reducible refine (HY.out _).mono ?_); rintro r W2 ⟨rfl, hb2⟩; have HB2 := Lib.hid hb2; clear hb2)
        | (go_at_call 119; refine (HNC.out _).mono ?_; rintro r W3 ⟨rfl, rfl⟩))
      go_ret
      exact ⟨rfl, (sc_new H9.out K9.out _ _ HB1.out HB2.out).2.2⟩
end Go.Proofs.YtcdjmkfpclmbdaaGreatDoor.D
