/- The walks of codec.Reader's methods. -/
import Derived.Test.YtfjigooahdfbpaaNumLaws
import Derived.Test.YtfjigooahdfbpaaVs
set_option linter.unusedVariables false
namespace Go.Proofs.Ytfjigooahdfbpaa
open Go.RowKit

/-- Block g is a Reader of the bytes l that has read 'at' of them, with the error e; v is its slice. -/
def IsR (w : World) (g : Nat) (v : Value) (l : List UInt8) (at_ e : Nat) : Prop :=
  Blk w g 79 #[v, .int .i64 (at_ : Int), .int .i64 (e : Int)] ∧ OB 5 w 0 v l ∧ at_ ≤ l.length

theorem IsR.mod {w w' : World} {g : Nat} {v : Value} {l : List UInt8} {at_ e : Nat} {S : Nat → Prop} (h : IsR w g v l at_ e) (hm : Mod w w' S) (hS : ∀ k, wfoot g v k → ¬ S k) : IsR w' g v l at_ e :=
  ⟨h.1.mod hm (hS g (.inl rfl)), h.2.1.mod hm fun k hk => hS k (.inr hk), h.2.2⟩
theorem IsR.ne {w : World} {g : Nat} {v : Value} {l : List UInt8} {at_ e : Nat} (h : IsR w g v l at_ e) : v.ownBlock ≠ some g := h.2.1.ne_blk h.1 (by decide)
theorem IsR.foot_lt {w : World} {g : Nat} {v : Value} {l : List UInt8} {at_ e : Nat} (h : IsR w g v l at_ e) : ∀ k, wfoot g v k → k < w.heap.size := by
  rintro k (rfl | hk)
  · exact h.1.lt
  · exact (h.2.1.lt k hk).2

theorem newReader_any (A : Option Addr) (l : List UInt8) (c : Nat) (w : World) (hr : RB w w.heap.size A l) (hl : l.length ≤ 140737488355328) :
    Calls Try.prog 24 #[.slice A l.length c] w fun e w' => ∃ g v, e = .returned (.pointer (some ⟨g, 0, none⟩)) ∧ IsR w' g v l 0 0 ∧ (∀ k, wfoot g v k → w.heap.size ≤ k) ∧ Below w.heap.size w w' := by
  have HC := Lib.hid (clone_any A l c w hr hl)
  clear hr
  go_enter Try.func24, Try.ntmps24
  go_wp2_with fail
  refine HC.out.mono ?_
  rintro x w1 ⟨v, rfl, ho, hb⟩
  obtain ⟨A1, c1, rfl, _⟩ := ho.form
  have HO := Lib.hid ho
  have HB := Lib.hid hb
  clear ho hb
  go_wp2
  go_ret
  have hs := HB.out.size
  refine ⟨w1.heap.size, _, rfl, ⟨Blk.new _ _ _, (HO.out.alloc _).base0 (Nat.zero_le _), Nat.zero_le _⟩, ?_, HB.out.trans ((below_alloc w1 _).mono hs)⟩
  rintro k (rfl | hk)
  · exact hs
  · exact (HO.out.lt k hk).1

/-- 'b[k:]' of bytes that are known. -/
theorem slice_from {w : World} {B : Nat} {A : Option Addr} {l : List UInt8} (hr : RB w B A l) {k cap : Nat} (hk : k ≤ l.length) (hc : l.length ≤ cap) :
    ∃ A' c', RB w B A' (l.drop k) ∧ (l.drop k).length ≤ c' ∧ c' ≤ cap ∧ ∀ W : World, (Instr.slice 22 (.slice A l.length cap) (some (.int .i64 (k : Int))) none none).run Try.prog W = .ok (.slice A' (l.drop k).length c') W := by
  refine ⟨if cap = k then A else A.map (·.add (k * 1)), cap - k, fun hn => ?_, by rw [List.length_drop]; omega, by omega, fun W => ?_⟩
  · rw [List.length_drop] at hn
    obtain ⟨b, off, rfl, hb, hcell⟩ := hr (by omega)
    rw [if_neg (by omega)]
    refine ⟨b, off + k, by simp [Addr.add_lit], hb, fun j c hj => ?_⟩
    rw [List.getElem?_drop] at hj
    rw [Nat.add_assoc]; exact hcell _ c hj
  · have hs : (sizeOf 5).run Try.prog W = .ok 1 W := by
      obtain ⟨i, hi, _, hs, _⟩ := bsl.parts
      simp [sizeOf, typeInfo, hi, hs]
    have he : Try.prog.elem 22 = 5 := by kernel_rfl
    rw [run_slice_l W 22 A l.length cap (by rw [he]; exact bsl.u) .i64 (k : Int) (by omega) (by omega), he, hs]
    simp [sliced, Result.andThen]

/-- 'b[k:k+n]'. -/
theorem slice_mid {w : World} {B : Nat} {A : Option Addr} {l : List UInt8} (hr : RB w B A l) {k n cap : Nat} (hk : k + n ≤ l.length) (hc : l.length ≤ cap) :
    ∃ A' c', RB w B A' ((l.drop k).take n) ∧ ∀ W : World, (Instr.slice 22 (.slice A l.length cap) (some (.int .i64 (k : Int))) (some (.int .i64 ((k : Int) + (n : Int)))) none).run Try.prog W = .ok (.slice A' ((l.drop k).take n).length c') W := by
  refine ⟨if cap = k then A else A.map (·.add (k * 1)), cap - k, fun hn => ?_, fun W => ?_⟩
  · rw [List.length_take, List.length_drop] at hn
    obtain ⟨b, off, rfl, hb, hcell⟩ := hr (by omega)
    rw [if_neg (by omega)]
    refine ⟨b, off + k, by simp [Addr.add_lit], hb, fun j c hj => ?_⟩
    rw [List.getElem?_take] at hj
    split at hj
    · rw [List.getElem?_drop] at hj
      rw [Nat.add_assoc]; exact hcell _ c hj
    · cases hj
  · have hs : (sizeOf 5).run Try.prog W = .ok 1 W := by
      obtain ⟨i, hi, _, hs, _⟩ := bsl.parts
      simp [sizeOf, typeInfo, hi, hs]
    have he : Try.prog.elem 22 = 5 := by kernel_rfl
    rw [run_slice_lh W 22 A l.length cap (by rw [he]; exact bsl.u) .i64 .i64 (k : Int) ((k : Int) + (n : Int)) (by omega) (by omega) (by omega), he, hs]
    have e1 : ((k : Int) + (n : Int)).toNat = k + n := by omega
    simp [sliced, Result.andThen, e1]; omega

/-- The number for which a natural number stands. -/
def unzig (n : Nat) : Int := if n % 2 = 0 then ((n / 2 : Nat) : Int) else -((n / 2 : Nat) : Int) - 1

/-- What the methods find at the beginning of bytes: the value, its length, the error. -/
def pNum (most : Int) (b : List UInt8) : Int × Nat × Nat :=
  if (grp b 9).2.2 ≠ 0 then (0, 0, (grp b 9).2.2) else if most < ((grp b 9).1 : Int) then (0, 0, 2) else (((grp b 9).1 : Int), (grp b 9).2.1, 0)
def pSig (b : List UInt8) : Int × Nat × Nat := (unzig (grp b 10).1, (grp b 10).2.1, (grp b 10).2.2)
def pFlag (b : List UInt8) : Bool × Nat × Nat :=
  match b with
  | [] => (false, 0, 28)
  | c :: _ => if 1 < c.toNat then (false, 0, 3) else (decide (c.toNat = 1), 1, 0)
def pText (most : Int) (b : List UInt8) : List UInt8 × Nat × Nat :=
  if (grp b 9).2.2 ≠ 0 then ([], 0, (grp b 9).2.2)
  else if most < ((grp b 9).1 : Int) ∨ 16777216 < (grp b 9).1 then ([], 0, 5)
  else if b.length - (grp b 9).2.1 < (grp b 9).1 then ([], 0, 28)
  else ((b.drop (grp b 9).2.1).take (grp b 9).1, (grp b 9).2.1 + (grp b 9).1, 0)

theorem grp_size (b : List UInt8) (m : Nat) : (grp b m).2.1 ≤ b.length := by
  rcases grp_cases b m with ⟨e, _, h⟩ | ⟨n, s, h, _, _, hs, _⟩ <;> rw [h]
  · exact Nat.zero_le _
  · exact hs
theorem grp_errs (b : List UInt8) (m : Nat) : (grp b m).2.2 = 0 ∨ (grp b m).2.2 = 3 ∨ (grp b m).2.2 = 28 := by
  rcases grp_cases b m with ⟨e, h1, h⟩ | ⟨n, s, h, _⟩ <;> rw [h]
  · right; exact h1
  · left; rfl
theorem grp_zero_err (b : List UInt8) (m : Nat) (h : (grp b m).2.2 ≠ 0) : (grp b m).1 = 0 ∧ (grp b m).2.1 = 0 := by
  rcases grp_cases b m with ⟨e, _, h'⟩ | ⟨n, s, h', _⟩ <;> rw [h'] at h ⊢
  · exact ⟨rfl, rfl⟩
  · exact absurd rfl h

set_option maxHeartbeats 400000 in
theorem parseNumber_any (A : Option Addr) (b : List UInt8) (c B : Nat) (most : Int) (w : World) (hr : RB w B A b) (hl : b.length ≤ 9223372036854775806) :
    Calls Try.prog 54 #[.slice A b.length c, .int .i64 most] w fun e w' => e = .returned (.tuple #[.int .i64 (pNum most b).1, .int .i64 ((pNum most b).2.1 : Int), .int .i64 ((pNum most b).2.2 : Int)]) ∧ w = w' := by
  have HP := Lib.hid (codecParse_any A b c B w hr hl)
  have he := grp_errs b 9
  have h0 := grp_zero_err b 9
  have hp : pNum most b = if (grp b 9).2.2 ≠ 0 then (0, 0, (grp b 9).2.2) else if most < ((grp b 9).1 : Int) then (0, 0, 2) else (((grp b 9).1 : Int), (grp b 9).2.1, 0) := rfl
  rw [hp]
  clear hr hp
  generalize grp b 9 = q at *
  obtain ⟨n, s, e⟩ := q
  simp only at HP he h0 ⊢
  by_cases hz : e = 0
  · subst hz
    rw [if_neg (by omega)]
    clear h0 he
    by_cases hm : most < (n : Int)
    · rw [if_pos hm]
      go_enter Try.func54, Try.ntmps54
      go_wp2_with (go_at_call 16; refine HP.out.mono ?_; rintro x w' ⟨rfl, rfl⟩)
      go_ret3
      exact ⟨rfl, rfl⟩
    · rw [if_neg hm]
      go_enter Try.func54, Try.ntmps54
      go_wp2_with (go_at_call 16; refine HP.out.mono ?_; rintro x w' ⟨rfl, rfl⟩)
      go_ret3
      exact ⟨rfl, rfl⟩
  · rw [if_pos hz]
    have h1 : ((e : Int) != 0) = true := by simp; omega
    clear h0 he hz
    go_enter Try.func54, Try.ntmps54
    go_wp2_with (go_at_call 16; refine HP.out.mono ?_; rintro x w' ⟨rfl, rfl⟩)
    go_ret3
    exact ⟨rfl, rfl⟩

theorem grp10_lt (b : List UInt8) : (grp b 10).1 < 18446744073709551616 := by
  unfold grp
  repeat' split
  all_goals (try (simp; done))
  rename_i h1 h2 h3 h4
  have hle := lead_le b 10
  have hll := lead_le_length b 10
  obtain ⟨c, hc, hlt⟩ := lead_stop b 10 (by omega) (by omega)
  exact leval_take_lt (by omega) (by omega) hc hlt (fun h9 => by
    rcases Nat.lt_or_ge 1 c.toNat with h | h
    · exact absurd ⟨h9, by rw [hc]; exact h⟩ h4
    · exact h)

theorem unzig_even {n : Nat} (h : n % 2 = 0) : unzig n = ((n / 2 : Nat) : Int) := by unfold unzig; rw [if_pos h]
theorem unzig_odd {n : Nat} (h : ¬ n % 2 = 0) : unzig n = -((n / 2 : Nat) : Int) - 1 := by unfold unzig; rw [if_neg h]

set_option maxHeartbeats 400000 in
theorem parseSigned_any (A : Option Addr) (b : List UInt8) (c B : Nat) (w : World) (hr : RB w B A b) (hl : b.length ≤ 9223372036854775806) :
    Calls Try.prog 49 #[.slice A b.length c] w fun e w' => e = .returned (.tuple #[.int .i64 (pSig b).1, .int .i64 ((pSig b).2.1 : Int), .int .i64 ((pSig b).2.2 : Int)]) ∧ w = w' := by
  have HP := Lib.hid (parseNatural_any A b c 10 B w hr hl (by omega))
  have hn := grp10_lt b
  unfold pSig
  clear hr
  generalize grp b 10 = q at *
  obtain ⟨n, s, e⟩ := q
  simp only at HP hn ⊢
  have hand : bits .and .u64 (n : Int) 1 = ((n % 2 : Nat) : Int) := by rw [show (1 : Int) = ((1 : Nat) : Int) from rfl, u64_and_nat n 1 hn (by omega), nat_mask1]
  by_cases hz : n % 2 = 0
  · have HU := Lib.hid (unzig_even hz)
    rw [hz] at hand
    go_enter Try.func49, Try.ntmps49
    go_wp2_with fail
    refine HP.out.mono ?_
    rintro x w' ⟨rfl, rfl⟩
    go_wp2
    go_ret3
    exact ⟨by rw [HU.out]; rfl, rfl⟩
  · have hz1 : n % 2 = 1 := by omega
    have HU := Lib.hid (unzig_odd hz)
    have hx := xor_m1 ((n : Int) / 2) (by omega) (by omega)
    rw [hz1] at hand
    clear hz hz1
    go_enter Try.func49, Try.ntmps49
    go_wp2_with fail
    refine HP.out.mono ?_
    rintro x w' ⟨rfl, rfl⟩
    go_wp2
    go_ret3
    exact ⟨by rw [HU.out]; go_num, rfl⟩

set_option maxHeartbeats 400000 in
theorem parseFlag_any (A : Option Addr) (b : List UInt8) (c B : Nat) (w : World) (hr : RB w B A b) (hl : b.length ≤ 9223372036854775806) :
    Calls Try.prog 56 #[.slice A b.length c] w fun e w' => e = .returned (.tuple #[.bool (pFlag b).1, .int .i64 ((pFlag b).2.1 : Int), .int .i64 ((pFlag b).2.2 : Int)]) ∧ w = w' := by
  cases b with
  | nil =>
    go_enter Try.func56, Try.ntmps56
    go_wp2
    go_ret3
    exact ⟨rfl, rfl⟩
  | cons x r =>
    obtain ⟨g, off, c', rfl, _, hx, hc⟩ := hr.at_ (k := 0) (by simp)
    simp at hx; subst hx
    rw [Nat.add_zero] at hc
    obtain ⟨n, hn⟩ : ∃ n, n = (x :: r).length := ⟨_, rfl⟩
    have hn0 : 0 < n := by rw [hn]; simp
    rw [← hn] at hl ⊢
    have hne : ((n : Int) == 0) = false := by simp; omega
    have hx256 := x.toNat_lt
    have HP := Lib.hid (show pFlag (x :: r) = if 1 < x.toNat then (false, 0, 3) else (decide (x.toNat = 1), 1, 0) from rfl)
    clear hn hr
    by_cases h1 : (1 : Int) < (x.toNat : Int)
    · go_enter Try.func56, Try.ntmps56
      go_wp2
      go_ret3
      exact ⟨by rw [HP.out, if_pos (by omega)]; rfl, rfl⟩
    · by_cases h2 : (x.toNat : Int) = 1
      · have h3 : ((x.toNat : Int) == 1) = true := by simp [h2]
        have H2 := Lib.hid h2
        clear h2
        go_enter Try.func56, Try.ntmps56
        go_wp2
        go_ret3
        have h4 : x.toNat = 1 := by have := H2.out; omega
        exact ⟨by rw [HP.out, if_neg (by omega), h4]; rfl, rfl⟩
      · have h3 : ((x.toNat : Int) == 1) = false := by simpa using h2
        have h4 : decide (x.toNat = 1) = false := by simp; omega
        have H4 := Lib.hid h4
        clear h2 h4
        go_enter Try.func56, Try.ntmps56
        go_wp2
        go_ret3
        exact ⟨by rw [HP.out, if_neg (by omega), H4.out]; rfl, rfl⟩

set_option maxHeartbeats 1000000 in
theorem parseText_any (A : Option Addr) (b : List UInt8) (c B : Nat) (most : Int) (w : World) (hr : RB w B A b) (hl : b.length ≤ 9223372036854775806) (hc : b.length ≤ c) :
    Calls Try.prog 59 #[.slice A b.length c, .int .i64 most] w fun e w' => e = .returned (.tuple #[.string ⟨(pText most b).1.toArray⟩, .int .i64 ((pText most b).2.1 : Int), .int .i64 ((pText most b).2.2 : Int)]) ∧ w = w' := by
  have HP := Lib.hid (codecParse_any A b c B w hr hl)
  have he := grp_errs b 9
  have h0 := grp_zero_err b 9
  have hsz := grp_size b 9
  have hp : pText most b = if (grp b 9).2.2 ≠ 0 then ([], 0, (grp b 9).2.2)
    else if most < ((grp b 9).1 : Int) ∨ 16777216 < (grp b 9).1 then ([], 0, 5)
    else if b.length - (grp b 9).2.1 < (grp b 9).1 then ([], 0, 28)
    else ((b.drop (grp b 9).2.1).take (grp b 9).1, (grp b 9).2.1 + (grp b 9).1, 0) := rfl
  rw [hp]
  clear hp
  have HR := Lib.hid hr
  clear hr
  generalize grp b 9 = q at *
  obtain ⟨n, s, e⟩ := q
  simp only at HP he h0 hsz ⊢
  by_cases hz : e = 0
  · subst hz
    rw [if_neg (by omega)]
    clear h0 he
    by_cases hm : most < (n : Int)
    · rw [if_pos (.inl hm)]
      go_enter Try.func59, Try.ntmps59
      go_wp2_with (go_at_call 16; refine HP.out.mono ?_; rintro x w' ⟨rfl, rfl⟩)
      go_ret3
      exact ⟨rfl, rfl⟩
    · by_cases hx : (16777216 : Int) < (n : Int)
      · rw [if_pos (.inr (by omega))]
        go_enter Try.func59, Try.ntmps59
        go_wp2_with (go_at_call 16; refine HP.out.mono ?_; rintro x w' ⟨rfl, rfl⟩)
        go_ret3
        exact ⟨rfl, rfl⟩
      · rw [if_neg (by omega)]
        by_cases hs : (b.length : Int) - (s : Int) < (n : Int)
        · rw [if_pos (by omega)]
          go_enter Try.func59, Try.ntmps59
          go_wp2_with (go_at_call 16; refine HP.out.mono ?_; rintro x w' ⟨rfl, rfl⟩)
          go_ret3
          exact ⟨rfl, rfl⟩
        · rw [if_neg (by omega)]
          obtain ⟨A', c', hr', hsl⟩ := slice_mid HR.out (k := s) (n := n) (cap := c) (by omega) hc
          obtain ⟨m, hm'⟩ : ∃ m, m = (b.drop s).take n := ⟨_, rfl⟩
          rw [← hm'] at hr' hsl ⊢
          have hst := str_later hr' m.length c' rfl w (Below.refl _ _)
          clear hm' hr'
          go_enter Try.func59, Try.ntmps59
          go_wp2_with (go_at_call 16; refine HP.out.mono ?_; rintro x w' ⟨rfl, rfl⟩)
          go_ret3
          exact ⟨rfl, rfl⟩
  · rw [if_pos hz]
    have h1 : ((e : Int) != 0) = true := by simp; omega
    clear h0 he hz
    go_enter Try.func59, Try.ntmps59
    go_wp2_with (go_at_call 16; refine HP.out.mono ?_; rintro x w' ⟨rfl, rfl⟩)
    go_ret3
    exact ⟨rfl, rfl⟩

theorem numClosure_any (A : Option Addr) (b : List UInt8) (c B : Nat) (most : Int) (p : Nat) (w : World) (hr : RB w B A b) (hl : b.length ≤ 9223372036854775806) (hc : w.cell? ⟨p, 0, none⟩ = some (.int .i64 most)) :
    Calls Try.prog 53 #[.slice A b.length c, .pointer (some ⟨p, 0, none⟩)] w fun e w' => e = .returned (.tuple #[.int .i64 (pNum most b).1, .int .i64 ((pNum most b).2.1 : Int), .int .i64 ((pNum most b).2.2 : Int)]) ∧ w = w' := by
  have HP := Lib.hid (parseNumber_any A b c B most w hr hl)
  clear hr
  generalize pNum most b = q at *
  go_enter Try.func53, Try.ntmps53
  go_wp2_with (go_at_call 54; refine HP.out.mono ?_; rintro x w' ⟨rfl, rfl⟩)
  go_ret3
  exact ⟨rfl, rfl⟩
theorem textClosure_any (A : Option Addr) (b : List UInt8) (c B : Nat) (most : Int) (p : Nat) (w : World) (hr : RB w B A b) (hl : b.length ≤ 9223372036854775806) (hbc : b.length ≤ c) (hc : w.cell? ⟨p, 0, none⟩ = some (.int .i64 most)) :
    Calls Try.prog 58 #[.slice A b.length c, .pointer (some ⟨p, 0, none⟩)] w fun e w' => e = .returned (.tuple #[.string ⟨(pText most b).1.toArray⟩, .int .i64 ((pText most b).2.1 : Int), .int .i64 ((pText most b).2.2 : Int)]) ∧ w = w' := by
  have HP := Lib.hid (parseText_any A b c B most w hr hl hbc)
  clear hr
  generalize pText most b = q at *
  obtain ⟨q1, q2, q3⟩ := q
  obtain ⟨s, hs⟩ : ∃ s : ByteArray, s = ⟨q1.toArray⟩ := ⟨_, rfl⟩
  simp only at HP ⊢
  rw [← hs] at HP ⊢
  clear hs
  go_enter Try.func58, Try.ntmps58
  go_wp2_with (go_at_call 59; refine HP.out.mono ?_; rintro x w' ⟨rfl, rfl⟩)
  go_ret3
  exact ⟨rfl, rfl⟩
end Go.Proofs.Ytfjigooahdfbpaa
