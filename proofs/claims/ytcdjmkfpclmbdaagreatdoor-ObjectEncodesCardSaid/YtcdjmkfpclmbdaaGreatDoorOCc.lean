/- The walks of the statements CodecNil, CodecParses and CodecNumbers. The walks of codec.Reader's methods. The walks of codec.Reader's generic read, at each value that it is called with. The walks of codec.Reader's methods, at Readers that are not nil. -/
import Derived.Test.YtcdjmkfpclmbdaaGreatDoorOCb
import Derived.Deep.RegionHeld3
import Derived.OpenShut
set_option linter.unusedVariables false
namespace Go.Proofs.YtcdjmkfpclmbdaaGreatDoor.Cod
open Go.RowKit

/-- 'string(b)' of bytes below a block number, in every later world. -/
theorem str_later {w : World} {B : Nat} {A : Option Addr} {l : List UInt8} (hr : RB w B A l) (n c : Nat) (hn : n = l.length) :
    ∀ W, Below B w W → (convert 53 9 (.slice A n c)).run Tryz.prog W = .ok (.string ⟨l.toArray⟩) W := fun W hW => by
  subst hn
  exact run_str bsl 9 Tryz.underlying9 (hr.below hW) c

theorem below_cells {B : Nat} {w w' : World} (h : Below B w w') : ∀ p : Addr, p.block < B → w'.cell? p = w.cell? p := fun _ hp => h.cell hp

/- CodecNil -/
theorem failedR_nil (w : World) : Calls Tryz.prog 99 #[.pointer none] w fun e w' => e = .returned (.tuple #[.int .i64 0, .int .i64 1]) ∧ w = w' := by
  go_enter Tryz.func99, Tryz.ntmps99
  go_wp2
  go_ret2
  exact ⟨rfl, rfl⟩
theorem restR_nil (w : World) : Calls Tryz.prog 100 #[.pointer none] w fun e w' => e = .returned (.int .i64 0) ∧ w = w' := by
  go_enter Tryz.func100, Tryz.ntmps100
  go_wp2
  go_ret
  exact ⟨rfl, rfl⟩
theorem closeR_nil (w : World) : Calls Tryz.prog 65 #[.pointer none] w fun e w' => e = .returned (.int .i64 1) ∧ w = w' := by
  go_enter Tryz.func65, Tryz.ntmps65
  go_wp2_with (go_at_call 99; refine (failedR_nil _).mono ?_; rintro e w' ⟨rfl, rfl⟩)
  go_ret
  exact ⟨rfl, rfl⟩
theorem readInt_nil (w : World) (f : Value) : Calls Tryz.prog 93 #[.pointer none, f] w fun e w' => e = .returned (.int .i64 0) ∧ w = w' := by
  go_enter Tryz.func93, Tryz.ntmps93
  go_wp2
  go_ret
  exact ⟨rfl, rfl⟩
theorem readStr_nil (w : World) (f : Value) : Calls Tryz.prog 96 #[.pointer none, f] w fun e w' => e = .returned (.string ByteArray.empty) ∧ w = w' := by
  go_enter Tryz.func96, Tryz.ntmps96
  go_wp2
  go_ret
  exact ⟨rfl, rfl⟩
theorem mkf (fn : Fn) (first cap : Array Value) (w : World) : (Instr.makeFunc fn first cap).run Tryz.prog w = .ok (.func fn first cap) w := rfl
theorem numberR_nil (w : World) (n : Int) : Calls Tryz.prog 63 #[.pointer none, .int .i64 n] w fun e w' => e = .returned (.int .i64 0) ∧ Below w.heap.size w w' := by
  have hmf := mkf
  go_enter Tryz.func63, Tryz.ntmps63
  go_wp2_with (go_at_call 93; refine (readInt_nil _ _).mono ?_; rintro e w' ⟨rfl, rfl⟩)
  go_ret
  exact ⟨rfl, below_alloc _ _⟩
theorem textR_nil (w : World) (n : Int) : Calls Tryz.prog 64 #[.pointer none, .int .i64 n] w fun e w' => e = .returned (.string ByteArray.empty) ∧ Below w.heap.size w w' := by
  have hmf := mkf
  go_enter Tryz.func64, Tryz.ntmps64
  go_wp2_with (go_at_call 96; refine (readStr_nil _ _).mono ?_; rintro e w' ⟨rfl, rfl⟩)
  go_ret
  exact ⟨rfl, below_alloc _ _⟩
end Go.Proofs.YtcdjmkfpclmbdaaGreatDoor.Cod

namespace Go.Proofs.YtcdjmkfpclmbdaaGreatDoor.Cod
open Go.RowKit

/-- Block g is a Reader of the bytes l that has read 'at' of them, with the error e; v is its slice. -/
def IsR (w : World) (g : Nat) (v : Value) (l : List UInt8) (at_ e : Nat) : Prop :=
  Blk w g 120 #[v, .int .i64 (at_ : Int), .int .i64 (e : Int)] ∧ OB 5 w 0 v l ∧ at_ ≤ l.length

theorem IsR.mod {w w' : World} {g : Nat} {v : Value} {l : List UInt8} {at_ e : Nat} {S : Nat → Prop} (h : IsR w g v l at_ e) (hm : Mod w w' S) (hS : ∀ k, wfoot g v k → ¬ S k) : IsR w' g v l at_ e :=
  ⟨h.1.mod hm (hS g (.inl rfl)), h.2.1.mod hm fun k hk => hS k (.inr hk), h.2.2⟩
theorem IsR.ne {w : World} {g : Nat} {v : Value} {l : List UInt8} {at_ e : Nat} (h : IsR w g v l at_ e) : v.ownBlock ≠ some g := h.2.1.ne_blk h.1 (by decide)
theorem IsR.foot_lt {w : World} {g : Nat} {v : Value} {l : List UInt8} {at_ e : Nat} (h : IsR w g v l at_ e) : ∀ k, wfoot g v k → k < w.heap.size := by
  rintro k (rfl | hk)
  · exact h.1.lt
  · exact (h.2.1.lt k hk).2

theorem newReader_any (A : Option Addr) (l : List UInt8) (c : Nat) (w : World) (hr : RB w w.heap.size A l) (hl : l.length ≤ 140737488355328) :
    Calls Tryz.prog 62 #[.slice A l.length c] w fun e w' => ∃ g v, e = .returned (.pointer (some ⟨g, 0, none⟩)) ∧ IsR w' g v l 0 0 ∧ (∀ k, wfoot g v k → w.heap.size ≤ k) ∧ Below w.heap.size w w' := by
  have HC := Lib.hid (clone_any A l c w hr hl)
  clear hr
  go_enter Tryz.func62, Tryz.ntmps62
  go_wp2_with fail
  refine HC.out.mono ?_
  rintro x w1 ⟨v, rfl, ho, hb⟩
  obtain ⟨A1, c1, rfl, _⟩ := ho.form
  have HO := Lib.hid ho
  have HB := Lib.hid hb
  clear ho hb
  go_wp2
  go_ret
  have hs := HB.out.size
  refine ⟨w1.heap.size, _, rfl, ⟨Blk.new _ _ _, (HO.out.alloc _).base0 (Nat.zero_le _), Nat.zero_le _⟩, ?_, HB.out.trans ((below_alloc w1 _).mono hs)⟩
  rintro k (rfl | hk)
  · exact hs
  · exact (HO.out.lt k hk).1

/-- 'b[k:]' of bytes that are known. -/
theorem slice_from {w : World} {B : Nat} {A : Option Addr} {l : List UInt8} (hr : RB w B A l) {k cap : Nat} (hk : k ≤ l.length) (hc : l.length ≤ cap) :
    ∃ A' c', RB w B A' (l.drop k) ∧ (l.drop k).length ≤ c' ∧ c' ≤ cap ∧ ∀ W : World, (Instr.slice 53 (.slice A l.length cap) (some (.int .i64 (k : Int))) none none).run Tryz.prog W = .ok (.slice A' (l.drop k).length c') W := by
  refine ⟨if cap = k then A else A.map (·.add (k * 1)), cap - k, fun hn => ?_, by rw [List.length_drop]; omega, by omega, fun W => ?_⟩
  · rw [List.length_drop] at hn
    obtain ⟨b, off, rfl, hb, hcell⟩ := hr (by omega)
    rw [if_neg (by omega)]
    refine ⟨b, off + k, by simp [Addr.add_lit], hb, fun j c hj => ?_⟩
    rw [List.getElem?_drop] at hj
    rw [Nat.add_assoc]; exact hcell _ c hj
  · have hs : (sizeOf 5).run Tryz.prog W = .ok 1 W := by
      obtain ⟨i, hi, _, hs, _⟩ := bsl.parts
      simp [sizeOf, typeInfo, hi, hs]
    have he : Tryz.prog.elem 53 = 5 := by kernel_rfl
    rw [run_slice_l W 53 A l.length cap (by rw [he]; exact bsl.u) .i64 (k : Int) (by omega) (by omega), he, hs]
    simp [sliced, Result.andThen]

/-- 'b[k:k+n]'. -/
theorem slice_mid {w : World} {B : Nat} {A : Option Addr} {l : List UInt8} (hr : RB w B A l) {k n cap : Nat} (hk : k + n ≤ l.length) (hc : l.length ≤ cap) :
    ∃ A' c', RB w B A' ((l.drop k).take n) ∧ ∀ W : World, (Instr.slice 53 (.slice A l.length cap) (some (.int .i64 (k : Int))) (some (.int .i64 ((k : Int) + (n : Int)))) none).run Tryz.prog W = .ok (.slice A' ((l.drop k).take n).length c') W := by
  refine ⟨if cap = k then A else A.map (·.add (k * 1)), cap - k, fun hn => ?_, fun W => ?_⟩
  · rw [List.length_take, List.length_drop] at hn
    obtain ⟨b, off, rfl, hb, hcell⟩ := hr (by omega)
    rw [if_neg (by omega)]
    refine ⟨b, off + k, by simp [Addr.add_lit], hb, fun j c hj => ?_⟩
    rw [List.getElem?_take] at hj
    split at hj
    · rw [List.getElem?_drop] at hj
      rw [Nat.add_assoc]; exact hcell _ c hj
    · cases hj
  · have hs : (sizeOf 5).run Tryz.prog W = .ok 1 W := by
      obtain ⟨i, hi, _, hs, _⟩ := bsl.parts
      simp [sizeOf, typeInfo, hi, hs]
    have he : Tryz.prog.elem 53 = 5 := by kernel_rfl
    rw [run_slice_lh W 53 A l.length cap (by rw [he]; exact bsl.u) .i64 .i64 (k : Int) ((k : Int) + (n : Int)) (by omega) (by omega) (by omega), he, hs]
    have e1 : ((k : Int) + (n : Int)).toNat = k + n := by omega
    simp [sliced, Result.andThen, e1]; omega

/-- The number for which a natural number stands. -/
def unzig (n : Nat) : Int := if n % 2 = 0 then ((n / 2 : Nat) : Int) else -((n / 2 : Nat) : Int) - 1

/-- What the methods find at the beginning of bytes: the value, its length, the error. -/
def pNum (most : Int) (b : List UInt8) : Int × Nat × Nat :=
  if (grp b 9).2.2 ≠ 0 then (0, 0, (grp b 9).2.2) else if most < ((grp b 9).1 : Int) then (0, 0, 2) else (((grp b 9).1 : Int), (grp b 9).2.1, 0)
def pSig (b : List UInt8) : Int × Nat × Nat := (unzig (grp b 10).1, (grp b 10).2.1, (grp b 10).2.2)
def pFlag (b : List UInt8) : Bool × Nat × Nat :=
  match b with
  | [] => (false, 0, 28)
  | c :: _ => if 1 < c.toNat then (false, 0, 3) else (decide (c.toNat = 1), 1, 0)
def pText (most : Int) (b : List UInt8) : List UInt8 × Nat × Nat :=
  if (grp b 9).2.2 ≠ 0 then ([], 0, (grp b 9).2.2)
  else if most < ((grp b 9).1 : Int) ∨ 16777216 < (grp b 9).1 then ([], 0, 5)
  else if b.length - (grp b 9).2.1 < (grp b 9).1 then ([], 0, 28)
  else ((b.drop (grp b 9).2.1).take (grp b 9).1, (grp b 9).2.1 + (grp b 9).1, 0)

theorem grp_size (b : List UInt8) (m : Nat) : (grp b m).2.1 ≤ b.length := by
  rcases grp_cases b m with ⟨e, _, h⟩ | ⟨n, s, h, _, _, hs, _⟩ <;> rw [h]
  · exact Nat.zero_le _
  · exact hs
theorem grp_errs (b : List UInt8) (m : Nat) : (grp b m).2.2 = 0 ∨ (grp b m).2.2 = 3 ∨ (grp b m).2.2 = 28 := by
  rcases grp_cases b m with ⟨e, h1, h⟩ | ⟨n, s, h, _⟩ <;> rw [h]
  · right; exact h1
  · left; rfl
theorem grp_zero_err (b : List UInt8) (m : Nat) (h : (grp b m).2.2 ≠ 0) : (grp b m).1 = 0 ∧ (grp b m).2.1 = 0 := by
  rcases grp_cases b m with ⟨e, _, h'⟩ | ⟨n, s, h', _⟩ <;> rw [h'] at h ⊢
  · exact ⟨rfl, rfl⟩
  · exact absurd rfl h

set_option maxHeartbeats 400000 in
theorem parseNumber_any (A : Option Addr) (b : List UInt8) (c B : Nat) (most : Int) (w : World) (hr : RB w B A b) (hl : b.length ≤ 9223372036854775806) :
    Calls Tryz.prog 95 #[.slice A b.length c, .int .i64 most] w fun e w' => e = .returned (.tuple #[.int .i64 (pNum most b).1, .int .i64 ((pNum most b).2.1 : Int), .int .i64 ((pNum most b).2.2 : Int)]) ∧ w = w' := by
  have HP := Lib.hid (codecParse_any A b c B w hr hl)
  have he := grp_errs b 9
  have h0 := grp_zero_err b 9
  have hp : pNum most b = if (grp b 9).2.2 ≠ 0 then (0, 0, (grp b 9).2.2) else if most < ((grp b 9).1 : Int) then (0, 0, 2) else (((grp b 9).1 : Int), (grp b 9).2.1, 0) := rfl
  rw [hp]
  clear hr hp
  generalize grp b 9 = q at *
  obtain ⟨n, s, e⟩ := q
  simp only at HP he h0 ⊢
  by_cases hz : e = 0
  · subst hz
    rw [if_neg (by omega)]
    clear h0 he
    by_cases hm : most < (n : Int)
    · rw [if_pos hm]
      go_enter Tryz.func95, Tryz.ntmps95
      go_wp2_with (go_at_call 122; refine HP.out.mono ?_; rintro x w' ⟨rfl, rfl⟩)
      go_ret3
      exact ⟨rfl, rfl⟩
    · rw [if_neg hm]
      go_enter Tryz.func95, Tryz.ntmps95
      go_wp2_with (go_at_call 122; refine HP.out.mono ?_; rintro x w' ⟨rfl, rfl⟩)
      go_ret3
      exact ⟨rfl, rfl⟩
  · rw [if_pos hz]
    have h1 : ((e : Int) != 0) = true := by simp; omega
    clear h0 he hz
    go_enter Tryz.func95, Tryz.ntmps95
    go_wp2_with (go_at_call 122; refine HP.out.mono ?_; rintro x w' ⟨rfl, rfl⟩)
    go_ret3
    exact ⟨rfl, rfl⟩

theorem grp10_lt (b : List UInt8) : (grp b 10).1 < 18446744073709551616 := by
  unfold grp
  repeat' split
  all_goals (try (simp; done))
  rename_i h1 h2 h3 h4
  have hle := lead_le b 10
  have hll := lead_le_length b 10
  obtain ⟨c, hc, hlt⟩ := lead_stop b 10 (by omega) (by omega)
  exact leval_take_lt (by omega) (by omega) hc hlt (fun h9 => by
    rcases Nat.lt_or_ge 1 c.toNat with h | h
    · exact absurd ⟨h9, by rw [hc]; exact h⟩ h4
    · exact h)

theorem unzig_even {n : Nat} (h : n % 2 = 0) : unzig n = ((n / 2 : Nat) : Int) := by unfold unzig; rw [if_pos h]
theorem unzig_odd {n : Nat} (h : ¬ n % 2 = 0) : unzig n = -((n / 2 : Nat) : Int) - 1 := by unfold unzig; rw [if_neg h]

set_option maxHeartbeats 1000000 in
set_option maxRecDepth 100000 in
theorem parseText_any (A : Option Addr) (b : List UInt8) (c B : Nat) (most : Int) (w : World) (hr : RB w B A b) (hl : b.length ≤ 9223372036854775806) (hc : b.length ≤ c) :
    Calls Tryz.prog 98 #[.slice A b.length c, .int .i64 most] w fun e w' => e = .returned (.tuple #[.string ⟨(pText most b).1.toArray⟩, .int .i64 ((pText most b).2.1 : Int), .int .i64 ((pText most b).2.2 : Int)]) ∧ w = w' := by
  have HP := Lib.hid (codecParse_any A b c B w hr hl)
  have he := grp_errs b 9
  have h0 := grp_zero_err b 9
  have hsz := grp_size b 9
  have hp : pText most b = if (grp b 9).2.2 ≠ 0 then ([], 0, (grp b 9).2.2)
    else if most < ((grp b 9).1 : Int) ∨ 16777216 < (grp b 9).1 then ([], 0, 5)
    else if b.length - (grp b 9).2.1 < (grp b 9).1 then ([], 0, 28)
    else ((b.drop (grp b 9).2.1).take (grp b 9).1, (grp b 9).2.1 + (grp b 9).1, 0) := rfl
  rw [hp]
  clear hp
  have HR := Lib.hid hr
  clear hr
  generalize grp b 9 = q at *
  obtain ⟨n, s, e⟩ := q
  simp only at HP he h0 hsz ⊢
  by_cases hz : e = 0
  · subst hz
    rw [if_neg (by omega)]
    clear h0 he
    by_cases hm : most < (n : Int)
    · rw [if_pos (.inl hm)]
      go_enter Tryz.func98, Tryz.ntmps98
      go_wp2_with (go_at_call 122; refine HP.out.mono ?_; rintro x w' ⟨rfl, rfl⟩)
      go_ret3
      exact ⟨rfl, rfl⟩
    · by_cases hx : (16777216 : Int) < (n : Int)
      · rw [if_pos (.inr (by omega))]
        go_enter Tryz.func98, Tryz.ntmps98
        go_wp2_with (go_at_call 122; refine HP.out.mono ?_; rintro x w' ⟨rfl, rfl⟩)
        go_ret3
        exact ⟨rfl, rfl⟩
      · rw [if_neg (by omega)]
        by_cases hs : (b.length : Int) - (s : Int) < (n : Int)
        · rw [if_pos (by omega)]
          go_enter Tryz.func98, Tryz.ntmps98
          go_wp2_with (go_at_call 122; refine HP.out.mono ?_; rintro x w' ⟨rfl, rfl⟩)
          go_ret3
          exact ⟨rfl, rfl⟩
        · rw [if_neg (by omega)]
          obtain ⟨A', c', hr', hsl⟩ := slice_mid HR.out (k := s) (n := n) (cap := c) (by omega) hc
          obtain ⟨m, hm'⟩ : ∃ m, m = (b.drop s).take n := ⟨_, rfl⟩
          rw [← hm'] at hr' hsl ⊢
          have hst := str_later hr' m.length c' rfl w (Below.refl _ _)
          clear hm' hr'
          go_enter Tryz.func98, Tryz.ntmps98
          go_wp2_with (go_at_call 122; refine HP.out.mono ?_; rintro x w' ⟨rfl, rfl⟩)
          go_ret3
          exact ⟨rfl, rfl⟩
  · rw [if_pos hz]
    have h1 : ((e : Int) != 0) = true := by simp; omega
    clear h0 he hz
    go_enter Tryz.func98, Tryz.ntmps98
    go_wp2_with (go_at_call 122; refine HP.out.mono ?_; rintro x w' ⟨rfl, rfl⟩)
    go_ret3
    exact ⟨rfl, rfl⟩

theorem numClosure_any (A : Option Addr) (b : List UInt8) (c B : Nat) (most : Int) (p : Nat) (w : World) (hr : RB w B A b) (hl : b.length ≤ 9223372036854775806) (hc : w.cell? ⟨p, 0, none⟩ = some (.int .i64 most)) :
    Calls Tryz.prog 94 #[.slice A b.length c, .pointer (some ⟨p, 0, none⟩)] w fun e w' => e = .returned (.tuple #[.int .i64 (pNum most b).1, .int .i64 ((pNum most b).2.1 : Int), .int .i64 ((pNum most b).2.2 : Int)]) ∧ w = w' := by
  have HP := Lib.hid (parseNumber_any A b c B most w hr hl)
  clear hr
  generalize pNum most b = q at *
  go_enter Tryz.func94, Tryz.ntmps94
  go_wp2_with (go_at_call 95; refine HP.out.mono ?_; rintro x w' ⟨rfl, rfl⟩)
  go_ret3
  exact ⟨rfl, rfl⟩
theorem textClosure_any (A : Option Addr) (b : List UInt8) (c B : Nat) (most : Int) (p : Nat) (w : World) (hr : RB w B A b) (hl : b.length ≤ 9223372036854775806) (hbc : b.length ≤ c) (hc : w.cell? ⟨p, 0, none⟩ = some (.int .i64 most)) :
    Calls Tryz.prog 97 #[.slice A b.length c, .pointer (some ⟨p, 0, none⟩)] w fun e w' => e = .returned (.tuple #[.string ⟨(pText most b).1.toArray⟩, .int .i64 ((pText most b).2.1 : Int), .int .i64 ((pText most b).2.2 : Int)]) ∧ w = w' := by
  have HP := Lib.hid (parseText_any A b c B most w hr hl hbc)
  clear hr
  generalize pText most b = q at *
  obtain ⟨q1, q2, q3⟩ := q
  obtain ⟨s, hs⟩ : ∃ s : ByteArray, s = ⟨q1.toArray⟩ := ⟨_, rfl⟩
  simp only at HP ⊢
  rw [← hs] at HP ⊢
  clear hs
  go_enter Tryz.func97, Tryz.ntmps97
  go_wp2_with (go_at_call 98; refine HP.out.mono ?_; rintro x w' ⟨rfl, rfl⟩)
  go_ret3
  exact ⟨rfl, rfl⟩
end Go.Proofs.YtcdjmkfpclmbdaaGreatDoor.Cod

namespace Go.Proofs.YtcdjmkfpclmbdaaGreatDoor.Cod
open Go.RowKit

theorem pNum_size (most : Int) (b : List UInt8) : (pNum most b).2.1 ≤ b.length := by
  have := grp_size b 9
  unfold pNum; repeat' split
  all_goals first | exact Nat.zero_le _ | exact this
theorem pNum_err (most : Int) (b : List UInt8) : (pNum most b).2.2 ≠ 0 → (pNum most b).1 = 0 := by
  unfold pNum; repeat' split
  all_goals simp
theorem pSig_size (b : List UInt8) : (pSig b).2.1 ≤ b.length := grp_size b 10
theorem pSig_err (b : List UInt8) : (pSig b).2.2 ≠ 0 → (pSig b).1 = 0 := fun h => by
  have := grp_zero_err b 10 h
  unfold pSig; simp only; rw [this.1]; rfl
theorem pFlag_size (b : List UInt8) : (pFlag b).2.1 ≤ b.length := by
  cases b with
  | nil => exact Nat.zero_le _
  | cons c r => simp only [pFlag]; split <;> simp
theorem pFlag_err (b : List UInt8) : (pFlag b).2.2 ≠ 0 → (pFlag b).1 = false := by
  cases b with
  | nil => intro _; rfl
  | cons c r => simp only [pFlag]; split <;> simp
theorem pText_size (most : Int) (b : List UInt8) : (pText most b).2.1 ≤ b.length := by
  have := grp_size b 9
  unfold pText; repeat' split
  all_goals first | exact Nat.zero_le _ | (simp only; omega)
theorem pText_err (most : Int) (b : List UInt8) : (pText most b).2.2 ≠ 0 → (pText most b).1 = [] := by
  unfold pText; repeat' split
  all_goals simp

theorem readNum_err (w : World) (g : Nat) (v : Value) (l : List UInt8) (at_ e : Nat) (f : Value) (h : IsR w g v l at_ e) (he : e ≠ 0) :
    Calls Tryz.prog 93 #[.pointer (some ⟨g, 0, none⟩), f] w fun r w' => r = .returned (.int .i64 0) ∧ w = w' := by
  have hc2 : w.cell? ⟨g, 2, none⟩ = some (.int .i64 (e : Int)) := h.1.cell 2
  have hne : ((e : Int) != 0) = true := by simp; omega
  clear h he
  go_enter Tryz.func93, Tryz.ntmps93
  go_wp2
  go_ret
  exact ⟨rfl, rfl⟩

set_option maxHeartbeats 1000000 in
theorem readNum (w : World) (g : Nat) (v : Value) (l : List UInt8) (at_ : Nat) (most : Int) (p : Nat) (h : IsR w g v l at_ 0) (hl : l.length ≤ 9223372036854775806) (hcp : w.cell? ⟨p, 0, none⟩ = some (.int .i64 most)) :
    Calls Tryz.prog 93 #[.pointer (some ⟨g, 0, none⟩), .func (.func 94) #[] #[.pointer (some ⟨p, 0, none⟩)]] w fun r w' =>
      r = .returned (.int .i64 (pNum most (l.drop at_)).1) ∧ IsR w' g v l (if (pNum most (l.drop at_)).2.2 ≠ 0 then at_ else at_ + (pNum most (l.drop at_)).2.1) (pNum most (l.drop at_)).2.2 ∧ Mod w w' (· = g) := by
  obtain ⟨A, cap, rfl, hr, hcap, hcm⟩ := h.2.1.form
  unfold maxLen at hcm
  have hc0 : w.cell? ⟨g, 0, none⟩ = some (.slice A l.length cap) := h.1.cell 0
  have hc1 : w.cell? ⟨g, 1, none⟩ = some (.int .i64 (at_ : Int)) := h.1.cell 1
  have hc2 : w.cell? ⟨g, 2, none⟩ = some (.int .i64 ((0 : Nat) : Int)) := h.1.cell 2
  have hf1 : w.frozen? ⟨g, 1, none⟩ = false := h.1.frozen 1
  have hf2 : w.frozen? ⟨g, 2, none⟩ = false := h.1.frozen 2
  obtain ⟨A', c', hr', hbc, hcc, hsl⟩ := slice_from hr h.2.2 hcap
  have hsz := pNum_size most (l.drop at_)
  have HZ := Lib.hid (pNum_err most (l.drop at_))
  have hdl : (l.drop at_).length = l.length - at_ := List.length_drop ..
  have hal := h.2.2
  obtain ⟨m, hm⟩ : ∃ m, m = l.drop at_ := ⟨_, rfl⟩
  rw [← hm] at hr' hsl hsz hdl hbc HZ ⊢
  have hml : m.length ≤ 9223372036854775806 := by omega
  have hms : (pNum most (l.drop at_)).2.1 ≤ l.length - at_ := by rw [← hm, ← hdl]; exact hsz
  rw [← hm] at hms
  clear hm hdl
  have HF : Hid (∀ n, Calls Tryz.prog 94 #[.slice A' m.length c', .pointer (some ⟨p, 0, none⟩)] (w.drewN n) fun e w' => e = .returned (.tuple #[.int .i64 (pNum most m).1, .int .i64 (((pNum most m).2.1 : Nat) : Int), .int .i64 (((pNum most m).2.2 : Nat) : Int)]) ∧ w.drewN n = w') := Lib.hid (fun n => numClosure_any A' m c' _ most p (w.drewN n) hr' hml hcp)
  have H := Lib.hid h
  clear h hr hr'
  generalize hq : pNum most m = q at *
  clear hq
  obtain ⟨x, s, e⟩ := q
  simp only at HF hsz hms HZ ⊢
  have hdrew : Mod w w (· = g) := Mod.refl _ _
  by_cases he : e = 0
  · subst he
    rw [if_neg (by omega)]
    go_enter Tryz.func93, Tryz.ntmps93
    go_wp2_with fail
    go_quiet ((go_at_call 94; exact (HF.out _).mono fun _ _ hh => ⟨hh.1, _, hh.2.symm⟩))
    go_wp2
    go_ret
    refine ⟨rfl, ⟨?_, H.out.2.1.mod ((Mod.refl w (· = g)).drewN nq |>.setCell (p := ⟨g, 1, none⟩) (fun _ => rfl) _) (fun k hk e => H.out.ne (by rw [hk, e])), by omega⟩, (Mod.refl w (· = g)).drewN nq |>.setCell (p := ⟨g, 1, none⟩) (fun _ => rfl) _⟩
    have := (show Blk (w.drewN nq) g _ _ from H.out.1).set_ 1 (.int .i64 ((at_ + s : Nat) : Int))
    simpa using this
  · rw [if_pos he]
    have hne : ((e : Int) != 0) = true := by simp; omega
    have HE := Lib.hid he
    have HX := Lib.hid (HZ.out he)
    clear he
    go_enter Tryz.func93, Tryz.ntmps93
    go_wp2_with fail
    go_quiet ((go_at_call 94; exact (HF.out _).mono fun _ _ hh => ⟨hh.1, _, hh.2.symm⟩))
    go_wp2
    go_ret
    refine ⟨by rw [HX.out]; rfl, ⟨?_, H.out.2.1.mod ((Mod.refl w (· = g)).drewN nq |>.setCell (p := ⟨g, 2, none⟩) (fun _ => rfl) _) (fun k hk e => H.out.ne (by rw [hk, e])), hal⟩, (Mod.refl w (· = g)).drewN nq |>.setCell (p := ⟨g, 2, none⟩) (fun _ => rfl) _⟩
    have := (show Blk (w.drewN nq) g _ _ from H.out.1).set_ 2 (.int .i64 (e : Int))
    simpa using this

theorem readSig_err (w : World) (g : Nat) (v : Value) (l : List UInt8) (at_ e : Nat) (f : Value) (h : IsR w g v l at_ e) (he : e ≠ 0) :
    Calls Tryz.prog 93 #[.pointer (some ⟨g, 0, none⟩), f] w fun r w' => r = .returned (.int .i64 0) ∧ w = w' := by
  have hc2 : w.cell? ⟨g, 2, none⟩ = some (.int .i64 (e : Int)) := h.1.cell 2
  have hne : ((e : Int) != 0) = true := by simp; omega
  clear h he
  go_enter Tryz.func93, Tryz.ntmps93
  go_wp2
  go_ret
  exact ⟨rfl, rfl⟩

theorem readTxt_err (w : World) (g : Nat) (v : Value) (l : List UInt8) (at_ e : Nat) (f : Value) (h : IsR w g v l at_ e) (he : e ≠ 0) :
    Calls Tryz.prog 96 #[.pointer (some ⟨g, 0, none⟩), f] w fun r w' => r = .returned (.string ByteArray.empty) ∧ w = w' := by
  have hc2 : w.cell? ⟨g, 2, none⟩ = some (.int .i64 (e : Int)) := h.1.cell 2
  have hne : ((e : Int) != 0) = true := by simp; omega
  clear h he
  go_enter Tryz.func96, Tryz.ntmps96
  go_wp2
  go_ret
  exact ⟨rfl, rfl⟩

set_option maxHeartbeats 1000000 in
theorem readTxt (w : World) (g : Nat) (v : Value) (l : List UInt8) (at_ : Nat) (most : Int) (p : Nat) (h : IsR w g v l at_ 0) (hl : l.length ≤ 9223372036854775806) (hcp : w.cell? ⟨p, 0, none⟩ = some (.int .i64 most)) :
    Calls Tryz.prog 96 #[.pointer (some ⟨g, 0, none⟩), .func (.func 97) #[] #[.pointer (some ⟨p, 0, none⟩)]] w fun r w' =>
      r = .returned (.string ⟨(pText most (l.drop at_)).1.toArray⟩) ∧ IsR w' g v l (if (pText most (l.drop at_)).2.2 ≠ 0 then at_ else at_ + (pText most (l.drop at_)).2.1) (pText most (l.drop at_)).2.2 ∧ Mod w w' (· = g) := by
  obtain ⟨A, cap, rfl, hr, hcap, hcm⟩ := h.2.1.form
  unfold maxLen at hcm
  have hc0 : w.cell? ⟨g, 0, none⟩ = some (.slice A l.length cap) := h.1.cell 0
  have hc1 : w.cell? ⟨g, 1, none⟩ = some (.int .i64 (at_ : Int)) := h.1.cell 1
  have hc2 : w.cell? ⟨g, 2, none⟩ = some (.int .i64 ((0 : Nat) : Int)) := h.1.cell 2
  have hf1 : w.frozen? ⟨g, 1, none⟩ = false := h.1.frozen 1
  have hf2 : w.frozen? ⟨g, 2, none⟩ = false := h.1.frozen 2
  obtain ⟨A', c', hr', hbc, hcc, hsl⟩ := slice_from hr h.2.2 hcap
  have hsz := pText_size most (l.drop at_)
  have HZ := Lib.hid (pText_err most (l.drop at_))
  have hdl : (l.drop at_).length = l.length - at_ := List.length_drop ..
  have hal := h.2.2
  obtain ⟨m, hm⟩ : ∃ m, m = l.drop at_ := ⟨_, rfl⟩
  rw [← hm] at hr' hsl hsz hdl hbc HZ ⊢
  have hml : m.length ≤ 9223372036854775806 := by omega
  have hms : (pText most (l.drop at_)).2.1 ≤ l.length - at_ := by rw [← hm, ← hdl]; exact hsz
  rw [← hm] at hms
  clear hm hdl
  have HF : Hid (∀ n, Calls Tryz.prog 97 #[.slice A' m.length c', .pointer (some ⟨p, 0, none⟩)] (w.drewN n) fun e w' => e = .returned (.tuple #[.string ⟨(pText most m).1.toArray⟩, .int .i64 (((pText most m).2.1 : Nat) : Int), .int .i64 (((pText most m).2.2 : Nat) : Int)]) ∧ w.drewN n = w') := Lib.hid (fun n => textClosure_any A' m c' _ most p (w.drewN n) hr' hml hbc hcp)
  have H := Lib.hid h
  clear h hr hr'
  generalize hq : pText most m = q at *
  clear hq
  obtain ⟨x, s, e⟩ := q
  simp only at HF hsz hms HZ ⊢
  have hdrew : Mod w w (· = g) := Mod.refl _ _
  by_cases he : e = 0
  · subst he
    rw [if_neg (by omega)]
    go_enter Tryz.func96, Tryz.ntmps96
    go_wp2_with fail
    go_quiet ((go_at_call 97; exact (HF.out _).mono fun _ _ hh => ⟨hh.1, _, hh.2.symm⟩))
    go_wp2
    go_ret
    refine ⟨rfl, ⟨?_, H.out.2.1.mod ((Mod.refl w (· = g)).drewN nq |>.setCell (p := ⟨g, 1, none⟩) (fun _ => rfl) _) (fun k hk e => H.out.ne (by rw [hk, e])), by omega⟩, (Mod.refl w (· = g)).drewN nq |>.setCell (p := ⟨g, 1, none⟩) (fun _ => rfl) _⟩
    have := (show Blk (w.drewN nq) g _ _ from H.out.1).set_ 1 (.int .i64 ((at_ + s : Nat) : Int))
    simpa using this
  · rw [if_pos he]
    have hne : ((e : Int) != 0) = true := by simp; omega
    have HE := Lib.hid he
    have HX := Lib.hid (HZ.out he)
    clear he
    go_enter Tryz.func96, Tryz.ntmps96
    go_wp2_with fail
    go_quiet ((go_at_call 97; exact (HF.out _).mono fun _ _ hh => ⟨hh.1, _, hh.2.symm⟩))
    go_wp2
    go_ret
    refine ⟨by rw [HX.out]; rfl, ⟨?_, H.out.2.1.mod ((Mod.refl w (· = g)).drewN nq |>.setCell (p := ⟨g, 2, none⟩) (fun _ => rfl) _) (fun k hk e => H.out.ne (by rw [hk, e])), hal⟩, (Mod.refl w (· = g)).drewN nq |>.setCell (p := ⟨g, 2, none⟩) (fun _ => rfl) _⟩
    have := (show Blk (w.drewN nq) g _ _ from H.out.1).set_ 2 (.int .i64 (e : Int))
    simpa using this
end Go.Proofs.YtcdjmkfpclmbdaaGreatDoor.Cod

namespace Go.Proofs.YtcdjmkfpclmbdaaGreatDoor.Cod
open Go.RowKit

/-- Where a Reader stands behind a value of a length, with an error. -/
def rat (at_ e size err : Nat) : Nat := if e ≠ 0 then at_ else if err ≠ 0 then at_ else at_ + size
def rerr (e err : Nat) : Nat := if e ≠ 0 then e else err
theorem rat0 (a s x : Nat) : rat a 0 s x = if x ≠ 0 then a else a + s := if_neg (by omega)
theorem rerr0 (x : Nat) : rerr 0 x = x := if_neg (by omega)
theorem rat1 {e : Nat} (a s x : Nat) (h : e ≠ 0) : rat a e s x = a := if_pos h
theorem rerr1 {e : Nat} (x : Nat) (h : e ≠ 0) : rerr e x = e := if_pos h
theorem ite00 {α : Type} (a b : α) : (if (0 : Nat) ≠ 0 then a else b) = b := if_neg (by omega)

theorem IsR.alloc {w : World} {g : Nat} {v : Value} {l : List UInt8} {at_ e : Nat} (h : IsR w g v l at_ e) (o : Obj) : IsR (w.alloc o) g v l at_ e := ⟨h.1.alloc o, h.2.1.alloc o, h.2.2⟩

/-- What a method leaves. -/
def RPost (w : World) (g : Nat) (v : Value) (l : List UInt8) (at_ e : Nat) (x : Value) (r : Ending) (w' : World) : Prop := r = .returned x ∧ IsR w' g v l at_ e ∧ Mod w w' (· = g)

theorem numberR_any (w : World) (g : Nat) (v : Value) (l : List UInt8) (at_ e : Nat) (most : Int) (h : IsR w g v l at_ e) (hl : l.length ≤ 9223372036854775806) :
    Calls Tryz.prog 63 #[.pointer (some ⟨g, 0, none⟩), .int .i64 most] w
      (RPost w g v l (rat at_ e (pNum most (l.drop at_)).2.1 (pNum most (l.drop at_)).2.2) (rerr e (pNum most (l.drop at_)).2.2) (.int .i64 (if e ≠ 0 then 0 else (pNum most (l.drop at_)).1))) := by
  have hmf := mkf
  have H := Lib.hid (h.alloc (.cells #[.int .i64 most] 3))
  have hcp : (w.alloc (.cells #[.int .i64 most] 3)).cell? ⟨w.heap.size, 0, none⟩ = some (.int .i64 most) := by rw [World.cell?_alloc_at _ _ _ _ rfl]; rfl
  have HCP := Lib.hid hcp
  clear h hcp
  by_cases he : e = 0
  · subst he
    have HC := Lib.hid (readNum _ g v l at_ most w.heap.size H.out hl HCP.out)
    rw [rat0, rerr0, ite00]
    generalize hq : pNum most (l.drop at_) = q at *
    clear hq
    obtain ⟨x, s, e⟩ := q
    simp only at HC ⊢
    generalize (if e ≠ 0 then at_ else at_ + s) = a' at *
    go_enter Tryz.func63, Tryz.ntmps63
    go_wp2_with (go_at_call 93; refine HC.out.mono ?_; rintro r w' ⟨rfl, h1, h2⟩; have H1 := Lib.hid h1; have H2 := Lib.hid h2; clear h1 h2)
    go_ret
    exact ⟨rfl, H1.out, (Mod.alloc (Mod.refl w (· = g)) _).trans H2.out fun _ _ h => h⟩
  · have HC := Lib.hid (readNum_err _ g v l at_ e (.func (.func 94) #[] #[.pointer (some ⟨w.heap.size, 0, none⟩)]) H.out he)
    rw [rat1 _ _ _ he, rerr1 _ he, if_pos he]
    have HE := Lib.hid he
    clear he
    go_enter Tryz.func63, Tryz.ntmps63
    go_wp2_with (go_at_call 93; refine HC.out.mono ?_; rintro r w' ⟨rfl, rfl⟩)
    go_ret
    exact ⟨rfl, H.out, Mod.alloc (Mod.refl w (· = g)) _⟩

theorem textR_any (w : World) (g : Nat) (v : Value) (l : List UInt8) (at_ e : Nat) (most : Int) (h : IsR w g v l at_ e) (hl : l.length ≤ 9223372036854775806) :
    Calls Tryz.prog 64 #[.pointer (some ⟨g, 0, none⟩), .int .i64 most] w
      (RPost w g v l (rat at_ e (pText most (l.drop at_)).2.1 (pText most (l.drop at_)).2.2) (rerr e (pText most (l.drop at_)).2.2) (.string (if e ≠ 0 then ByteArray.empty else ⟨(pText most (l.drop at_)).1.toArray⟩))) := by
  have hmf := mkf
  have H := Lib.hid (h.alloc (.cells #[.int .i64 most] 3))
  have hcp : (w.alloc (.cells #[.int .i64 most] 3)).cell? ⟨w.heap.size, 0, none⟩ = some (.int .i64 most) := by rw [World.cell?_alloc_at _ _ _ _ rfl]; rfl
  have HCP := Lib.hid hcp
  clear h hcp
  by_cases he : e = 0
  · subst he
    have HC := Lib.hid (readTxt _ g v l at_ most w.heap.size H.out hl HCP.out)
    rw [rat0, rerr0, ite00]
    generalize hq : pText most (l.drop at_) = q at *
    clear hq
    obtain ⟨x, s, e⟩ := q
    simp only at HC ⊢
    generalize (if e ≠ 0 then at_ else at_ + s) = a' at *
    generalize ByteArray.mk x.toArray = y at *
    go_enter Tryz.func64, Tryz.ntmps64
    go_wp2_with (go_at_call 96; refine HC.out.mono ?_; rintro r w' ⟨rfl, h1, h2⟩; have H1 := Lib.hid h1; have H2 := Lib.hid h2; clear h1 h2)
    go_ret
    exact ⟨rfl, H1.out, (Mod.alloc (Mod.refl w (· = g)) _).trans H2.out fun _ _ h => h⟩
  · have HC := Lib.hid (readTxt_err _ g v l at_ e (.func (.func 97) #[] #[.pointer (some ⟨w.heap.size, 0, none⟩)]) H.out he)
    rw [rat1 _ _ _ he, rerr1 _ he, if_pos he]
    have HE := Lib.hid he
    clear he
    go_enter Tryz.func64, Tryz.ntmps64
    go_wp2_with (go_at_call 96; refine HC.out.mono ?_; rintro r w' ⟨rfl, rfl⟩)
    go_ret
    exact ⟨rfl, H.out, Mod.alloc (Mod.refl w (· = g)) _⟩

theorem restR_any (w : World) (g : Nat) (v : Value) (l : List UInt8) (at_ e : Nat) (h : IsR w g v l at_ e) (hl : l.length ≤ 9223372036854775806) :
    Calls Tryz.prog 100 #[.pointer (some ⟨g, 0, none⟩)] w fun r w' => r = .returned (.int .i64 ((l.length : Int) - (at_ : Int))) ∧ ∃ n, w' = w.drewN n := by
  obtain ⟨A, cap, rfl, _⟩ := h.2.1.form
  have hc0 : w.cell? ⟨g, 0, none⟩ = some (.slice A l.length cap) := h.1.cell 0
  have hc1 : w.cell? ⟨g, 1, none⟩ = some (.int .i64 (at_ : Int)) := h.1.cell 1
  have hal := h.2.2
  clear h
  go_enter Tryz.func100, Tryz.ntmps100
  go_wp2
  go_quiet (fail)
  go_wp2
  go_ret
  exact ⟨rfl, _, rfl⟩

theorem failedR_ok (w : World) (g : Nat) (v : Value) (l : List UInt8) (at_ : Nat) (h : IsR w g v l at_ 0) :
    Calls Tryz.prog 99 #[.pointer (some ⟨g, 0, none⟩)] w fun r w' => r = .returned (.tuple #[.int .i64 0, .int .i64 0]) ∧ w = w' := by
  have hc2 : w.cell? ⟨g, 2, none⟩ = some (.int .i64 ((0 : Nat) : Int)) := h.1.cell 2
  clear h
  go_enter Tryz.func99, Tryz.ntmps99
  go_wp2
  go_ret2
  exact ⟨rfl, rfl⟩

theorem failedR_err (w : World) (g : Nat) (v : Value) (l : List UInt8) (at_ e : Nat) (h : IsR w g v l at_ e) (he : e ≠ 0) :
    Calls Tryz.prog 99 #[.pointer (some ⟨g, 0, none⟩)] w fun r w' => r = .returned (.tuple #[.int .i64 (at_ : Int), .int .i64 (e : Int)]) ∧ ∃ n, w' = w.drewN n := by
  have hc1 : w.cell? ⟨g, 1, none⟩ = some (.int .i64 (at_ : Int)) := h.1.cell 1
  have hc2 : w.cell? ⟨g, 2, none⟩ = some (.int .i64 (e : Int)) := h.1.cell 2
  have hne : ((e : Int) == 0) = false := by simp; omega
  clear h he
  go_enter Tryz.func99, Tryz.ntmps99
  go_wp2
  go_quiet (fail)
  go_wp2
  go_ret2
  exact ⟨rfl, _, rfl⟩

theorem closeR_any (w : World) (g : Nat) (v : Value) (l : List UInt8) (at_ e : Nat) (h : IsR w g v l at_ e) (hl : l.length ≤ 9223372036854775806) :
    Calls Tryz.prog 65 #[.pointer (some ⟨g, 0, none⟩)] w fun r w' => r = .returned (.int .i64 ((if e ≠ 0 then e else if at_ < l.length then 5 else 0 : Nat) : Int)) ∧ ∃ n, w' = w.drewN n := by
  have hal := h.2.2
  by_cases he : e = 0
  · subst he
    have HF := Lib.hid (failedR_ok w g v l at_ h)
    have HR := Lib.hid (restR_any w g v l at_ 0 h hl)
    rw [if_neg (by omega)]
    clear h
    by_cases hlt : at_ < l.length
    · rw [if_pos hlt]
      go_enter Tryz.func65, Tryz.ntmps65
      go_wp2_with (first | (go_at_call 99; refine HF.out.mono ?_; rintro r w' ⟨rfl, rfl⟩) | (go_at_call 100; refine HR.out.mono ?_; rintro r w' ⟨rfl, n, rfl⟩))
      go_ret
      exact ⟨rfl, _, rfl⟩
    · rw [if_neg hlt]
      go_enter Tryz.func65, Tryz.ntmps65
      go_wp2_with (first | (go_at_call 99; refine HF.out.mono ?_; rintro r w' ⟨rfl, rfl⟩) | (go_at_call 100; refine HR.out.mono ?_; rintro r w' ⟨rfl, n, rfl⟩))
      go_ret
      exact ⟨rfl, _, rfl⟩
  · have HF := Lib.hid (failedR_err w g v l at_ e h he)
    rw [if_pos he]
    have hne : ((e : Int) != 0) = true := by simp; omega
    clear h he
    go_enter Tryz.func65, Tryz.ntmps65
    go_wp2_with fail
    refine HF.out.mono ?_
    rintro r w' ⟨rfl, n, rfl⟩
    go_wp2
    go_ret
    exact ⟨rfl, _, rfl⟩
end Go.Proofs.YtcdjmkfpclmbdaaGreatDoor.Cod
