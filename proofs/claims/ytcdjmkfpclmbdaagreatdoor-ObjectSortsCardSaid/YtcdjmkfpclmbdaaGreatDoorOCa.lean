/- Plain mathematics of the encodings: groups of seven bits, the least significant first. No program. The walks of codec.appendNatural, codec.Size, codec.Append and of the reference's Natural. The walk of codec.parseNatural. -/
import Derived.Lib.BitFns
import Derived.Test.YtcdjmkfpclmbdaaGreatDoorChecked
import Derived.Test.YtcdjmkfpclmbdaaGreatDoorShelf
import Derived.Test.YtcdjmkfpclmbdaaGreatDoorLib
import Derived.Laws.CopyOwn
set_option linter.unusedVariables false
namespace Go.Proofs.YtcdjmkfpclmbdaaGreatDoor.Cod
/-- The number that groups denote. -/
def leval : List UInt8 → Nat
  | [] => 0
  | b :: r => b.toNat % 128 + 128 * leval r

theorem leval_append (l : List UInt8) (c : UInt8) : leval (l ++ [c]) = leval l + c.toNat % 128 * 128 ^ l.length := by
  induction l with
  | nil => simp [leval]
  | cons b r ih => simp only [List.cons_append, leval, ih, List.length_cons, Nat.pow_succ, Nat.mul_add]; rw [← Nat.add_assoc]; congr 1; rw [Nat.mul_comm 128, Nat.mul_assoc]

theorem leval_lt (l : List UInt8) : leval l < 128 ^ l.length := by
  induction l with
  | nil => simp [leval]
  | cons b r ih =>
    have := Nat.mod_lt b.toNat (show 128 > 0 by decide)
    simp only [leval, List.length_cons, Nat.pow_succ]; omega

/-- How many of the first m bytes, from the beginning on, are at least 128. -/
def lead : List UInt8 → Nat → Nat
  | [], _ => 0
  | _ :: _, 0 => 0
  | b :: r, m + 1 => if 128 ≤ b.toNat then lead r m + 1 else 0

theorem lead_eq (l : List UInt8) : ∀ (m k : Nat), k ≤ l.length → k ≤ m → (∀ j c, j < k → l[j]? = some c → 128 ≤ c.toNat) →
    (k = l.length ∨ k = m ∨ ∃ c, l[k]? = some c ∧ c.toNat < 128) → lead l m = k := by
  induction l with
  | nil => intro m k h1 _ _ _; simp at h1; simp [lead, h1]
  | cons b r ih =>
    intro m k h1 h2 h3 h4
    cases m with
    | zero => simp [lead]; omega
    | succ m =>
      cases k with
      | zero =>
        have : ¬ 128 ≤ b.toNat := by
          rcases h4 with h | h | ⟨c, hc, hl⟩
          · simp at h
          · omega
          · simp at hc; subst hc; omega
        simp [lead, this]
      | succ k =>
        have hb : 128 ≤ b.toNat := h3 0 b (by omega) (by simp)
        simp only [lead, hb, if_true]
        congr 1
        refine ih m k (by simpa using h1) (by omega) (fun j c hj hc => h3 (j + 1) c (by omega) (by simpa using hc)) ?_
        rcases h4 with h | h | ⟨c, hc, hl⟩
        · left; simpa using h
        · right; left; omega
        · right; right; exact ⟨c, by simpa using hc, hl⟩

theorem lead_le (l : List UInt8) : ∀ m, lead l m ≤ m := by
  induction l with
  | nil => intro m; simp [lead]
  | cons b r ih =>
    intro m
    cases m with
    | zero => simp [lead]
    | succ m =>
      simp only [lead]; split
      · have := ih m; omega
      · omega
theorem lead_le_length (l : List UInt8) : ∀ m, lead l m ≤ l.length := by
  induction l with
  | nil => intro m; simp [lead]
  | cons b r ih =>
    intro m
    cases m with
    | zero => simp [lead]
    | succ m =>
      simp only [lead, List.length_cons]; split
      · have := ih m; omega
      · omega

/-- The natural number at the beginning of bytes with at most m groups, its length, and the error. -/
def grp (l : List UInt8) (m : Nat) : Nat × Nat × Nat :=
  if lead l m = m then (0, 0, 3)
  else if lead l m = l.length then (0, 0, 28)
  else if 0 < lead l m ∧ l[lead l m]? = some 0 then (0, 0, 3)
  else if lead l m = 9 ∧ 1 < (l[lead l m]?.getD 0).toNat then (0, 0, 3)
  else (leval (l.take (lead l m + 1)), lead l m + 1, 0)

/-- The encoding of a natural number. -/
def enc (n : Nat) : List UInt8 := if n < 128 then [UInt8.ofNat n] else UInt8.ofNat (n % 128 + 128) :: enc (n / 128)
termination_by n
decreasing_by omega

theorem enc_low {n : Nat} (h : n < 128) : enc n = [UInt8.ofNat n] := by rw [enc, if_pos h]
theorem enc_high {n : Nat} (h : 128 ≤ n) : enc n = UInt8.ofNat (n % 128 + 128) :: enc (n / 128) := by rw [enc, if_neg (by omega)]

/-- The first group of a number that has more than one. -/
def hi7 (n : Nat) : UInt8 := UInt8.ofNat (n % 128 + 128)
theorem enc_hi7 {n : Nat} (h : 128 ≤ n) : enc n = hi7 n :: enc (n / 128) := enc_high h

/-- Induction over the groups of a number. -/
theorem groups_induct {p : Nat → Prop} (h0 : ∀ n, n < 128 → p n) (h1 : ∀ n, 128 ≤ n → p (n / 128) → p n) (n : Nat) : p n := by
  induction n using Nat.strongRecOn with
  | ind n ih =>
    rcases Nat.lt_or_ge n 128 with h | h
    · exact h0 n h
    · exact h1 n h (ih _ (by omega))

theorem enc_pos (n : Nat) : 0 < (enc n).length := by
  rcases Nat.lt_or_ge n 128 with h | h
  · rw [enc_low h]; simp
  · rw [enc_high h]; simp

theorem toNat_small {n : Nat} (h : n < 256) : (UInt8.ofNat n).toNat = n := by simp [UInt8.toNat_ofNat']; omega

theorem toNat_hi7 (n : Nat) : (hi7 n).toNat = n % 128 + 128 := toNat_small (by omega)

theorem leval_enc (n : Nat) : leval (enc n) = n := by
  refine groups_induct (p := fun n => leval (enc n) = n) ?_ ?_ n
  · intro n h; rw [enc_low h]; simp only [leval, toNat_small (show n < 256 by omega)]; omega
  · intro n h ih; rw [enc_high h]; simp only [leval, ih, toNat_small (show n % 128 + 128 < 256 by omega)]; omega

theorem enc_length_le (k : Nat) : ∀ n, n < 128 ^ (k + 1) → (enc n).length ≤ k + 1 := by
  induction k with
  | zero => intro n h; rw [enc_low (by simpa using h)]; simp
  | succ k ih =>
    intro n h
    rcases Nat.lt_or_ge n 128 with h' | h'
    · rw [enc_low h']; simp
    · rw [enc_high h']
      have := ih (n / 128) (by rw [Nat.pow_succ] at h; exact Nat.div_lt_of_lt_mul (by rw [Nat.mul_comm]; exact h))
      simp only [List.length_cons]; omega

theorem enc_len9 {n : Nat} (h : n < 9223372036854775808) : (enc n).length ≤ 9 := enc_length_le 8 n (by simpa using h)
theorem enc_len10 {n : Nat} (h : n < 18446744073709551616) : (enc n).length ≤ 10 := enc_length_le 9 n (Nat.lt_of_lt_of_le h (by simp))

theorem lead_enc (n : Nat) : ∀ (r : List UInt8) (m : Nat), (enc n).length ≤ m → lead (enc n ++ r) m = (enc n).length - 1 := by
  refine groups_induct (p := fun n => ∀ (r : List UInt8) (m : Nat), (enc n).length ≤ m → lead (enc n ++ r) m = (enc n).length - 1) ?_ ?_ n
  · intro n h r m hm
    rw [enc_low h] at hm ⊢
    obtain ⟨m, rfl⟩ : ∃ j, m = j + 1 := ⟨m - 1, by simp at hm; omega⟩
    simp only [List.cons_append, List.nil_append, lead, toNat_small (show n < 256 by omega), List.length_cons, List.length_nil]
    rw [if_neg (by omega)]
  · intro n h ih r m hm
    rw [enc_high h] at hm ⊢
    obtain ⟨m, rfl⟩ : ∃ j, m = j + 1 := ⟨m - 1, by simp at hm; omega⟩
    have hp := enc_pos (n / 128)
    simp only [List.length_cons] at hm
    simp only [List.cons_append, lead, toNat_small (show n % 128 + 128 < 256 by omega), List.length_cons]
    rw [if_pos (by omega), ih r m (by omega)]; omega

/-- The last byte of an encoding. -/
theorem enc_last (n : Nat) : ∀ r : List UInt8, ∃ c, (enc n ++ r)[(enc n).length - 1]? = some c ∧ c.toNat < 128 ∧ ((enc n).length > 1 → c.toNat ≠ 0) ∧ c.toNat * 128 ^ ((enc n).length - 1) ≤ n := by
  refine groups_induct (p := fun n => ∀ r : List UInt8, ∃ c, (enc n ++ r)[(enc n).length - 1]? = some c ∧ c.toNat < 128 ∧ ((enc n).length > 1 → c.toNat ≠ 0) ∧ c.toNat * 128 ^ ((enc n).length - 1) ≤ n) ?_ ?_ n
  · intro n h r
    rw [enc_low h]
    exact ⟨UInt8.ofNat n, by simp, by rw [toNat_small (by omega)]; exact h, by simp, by rw [toNat_small (by omega)]; simp⟩
  · intro n h ih r
    obtain ⟨c, h1, h2, h3, h4⟩ := ih r
    rw [enc_high h]
    have hp := enc_pos (n / 128)
    have e : (UInt8.ofNat (n % 128 + 128) :: enc (n / 128)).length - 1 = (enc (n / 128)).length - 1 + 1 := by simp only [List.length_cons]; omega
    refine ⟨c, by rw [e]; simpa using h1, h2, fun _ => ?_, ?_⟩
    · rcases Nat.lt_or_ge (n / 128) 128 with h' | h'
      · rw [enc_low h'] at h1
        simp at h1; subst h1
        rw [toNat_small (by omega)]; omega
      · exact h3 (by rw [enc_high h']; have := enc_pos (n / 128 / 128); simp only [List.length_cons]; omega)
    · rw [e, Nat.pow_succ, ← Nat.mul_assoc]
      have := Nat.mul_le_mul_right 128 h4
      omega

theorem take_len (l r : List UInt8) : (l ++ r).take l.length = l := by simp

theorem grp_enc (n : Nat) (r : List UInt8) (m : Nat) (hm : (enc n).length ≤ m) (hn : n < 18446744073709551616) : grp (enc n ++ r) m = (n, (enc n).length, 0) := by
  have hp := enc_pos n
  have hl := lead_enc n r m hm
  obtain ⟨c, h1, h2, h3, h4⟩ := enc_last n r
  unfold grp
  rw [hl, h1, if_neg (by omega), if_neg (by simp; omega), if_neg, if_neg, show (enc n).length - 1 + 1 = (enc n).length by omega, take_len, leval_enc]
  · rintro ⟨h9, hc⟩
    simp only [Option.getD_some] at hc
    rw [h9] at h4
    have : 2 * 128 ^ 9 ≤ c.toNat * 128 ^ 9 := Nat.mul_le_mul_right _ (by omega)
    simp only [Nat.reducePow] at this h4
    omega
  · rintro ⟨h0, hc⟩
    injection hc with hc; subst hc
    exact h3 (by omega) rfl

theorem or_one (n : Nat) : n ||| 1 = n / 2 * 2 + 1 := by
  have h1 : (n ||| 1) / 2 = n / 2 := by rw [Nat.or_div_two]; simp
  have h2 : (n ||| 1) % 2 = 1 := by rw [Nat.or_mod_two_eq_one]; simp
  omega

theorem enc_or_one (n : Nat) : (enc (n ||| 1)).length = (enc n).length := by
  rw [or_one]
  rcases Nat.lt_or_ge n 128 with h | h
  · rw [enc_low h, enc_low (by omega)]; rfl
  · rw [enc_high h, enc_high (by omega), show (n / 2 * 2 + 1) / 128 = n / 128 by omega]; rfl

theorem size_enc (n : Nat) : 1 ≤ n → n < 18446744073709551616 → (Go.Lib.bitLen n + 6) / 7 = (enc n).length := by
  refine groups_induct (p := fun n => 1 ≤ n → n < 18446744073709551616 → (Go.Lib.bitLen n + 6) / 7 = (enc n).length) ?_ ?_ n
  · intro n h h1 _
    rw [enc_low h]
    have h2 := Go.Lib.bitLen_le n 7 (by omega) (by simpa using h)
    have h3 : 1 ≤ Go.Lib.bitLen n := by
      have := Go.Lib.bitLen_half n (by omega) (by simp; omega)
      omega
    simp; omega
  · intro n h ih h1 h2
    rw [enc_high h, Go.Lib.bitLen_shift 7 n (by simpa using h) (by simpa using h2)]
    have := ih (by omega) (by omega)
    simp only [List.length_cons, Nat.reducePow]; omega

theorem ofNat_toNat (b : UInt8) : UInt8.ofNat b.toNat = b := by simp

/-- What stands at the beginning of bytes is the encoding of what is read. -/
theorem canon_lead (l : List UInt8) : ∀ (m : Nat) (c : UInt8), lead l m < m → l[lead l m]? = some c → (0 < lead l m → c.toNat ≠ 0) → enc (leval (l.take (lead l m + 1))) = l.take (lead l m + 1) := by
  induction l with
  | nil => intro m c _ h _; simp at h
  | cons b r ih =>
    intro m c hm hc h0
    cases m with
    | zero => omega
    | succ m =>
      have hb := b.toNat_lt
      by_cases h : 128 ≤ b.toNat
      · have e : lead (b :: r) (m + 1) = lead r m + 1 := by simp [lead, h]
        rw [e] at hm hc h0 ⊢
        have hc' : r[lead r m]? = some c := by simpa using hc
        have h1 := ih m c (by omega) hc' (fun _ => h0 (by omega))
        have hpos : 1 ≤ leval (r.take (lead r m + 1)) := by
          rcases Nat.eq_zero_or_pos (leval (r.take (lead r m + 1))) with hz | hz
          · rw [hz, enc_low (by omega)] at h1
            have hlen := congrArg List.length h1
            have hlt : lead r m < r.length := (List.getElem?_eq_some_iff.1 hc').1
            rw [List.length_take] at hlen
            simp only [List.length_cons, List.length_nil] at hlen
            have hk : lead r m = 0 := by omega
            rw [hk] at h1 hc'
            have h2 := congrArg (·[0]?) h1
            simp only [List.getElem?_take] at h2
            rw [if_pos (by omega), hc'] at h2
            simp at h2
            exact absurd (by rw [← h2]; rfl) (h0 (by omega))
          · exact hz
        rw [List.take_succ_cons]
        simp only [leval]
        rw [enc_high (by omega), show (b.toNat % 128 + 128 * leval (r.take (lead r m + 1))) % 128 + 128 = b.toNat by omega, show (b.toNat % 128 + 128 * leval (r.take (lead r m + 1))) / 128 = leval (r.take (lead r m + 1)) by omega, h1, ofNat_toNat]
      · have e : lead (b :: r) (m + 1) = 0 := by simp [lead, h]
        rw [e]
        simp only [Nat.zero_add, List.take_succ_cons, List.take_zero, leval, Nat.mul_zero, Nat.add_zero]
        rw [Nat.mod_eq_of_lt (by omega), enc_low (by omega), ofNat_toNat]

theorem lead_stop (l : List UInt8) : ∀ m, lead l m < m → lead l m < l.length → ∃ c, l[lead l m]? = some c ∧ c.toNat < 128 := by
  induction l with
  | nil => intro m _ h; simp at h
  | cons b r ih =>
    intro m hm hl
    cases m with
    | zero => omega
    | succ m =>
      by_cases h : 128 ≤ b.toNat
      · have e : lead (b :: r) (m + 1) = lead r m + 1 := by simp [lead, h]
        rw [e] at hm hl ⊢
        obtain ⟨c, h1, h2⟩ := ih m (by omega) (by simpa using hl)
        exact ⟨c, by simpa using h1, h2⟩
      · have e : lead (b :: r) (m + 1) = 0 := by simp [lead, h]
        rw [e]
        exact ⟨b, by simp, by omega⟩

theorem grp_cases (l : List UInt8) (m : Nat) :
    (∃ e, (e = 3 ∨ e = 28) ∧ grp l m = (0, 0, e)) ∨
    (∃ n s, grp l m = (n, s, 0) ∧ 0 < s ∧ s ≤ m ∧ s ≤ l.length ∧ enc n = l.take s) := by
  by_cases h1 : lead l m = m
  · exact .inl ⟨3, .inl rfl, by simp [grp, h1]⟩
  · have hle := lead_le l m
    have hll := lead_le_length l m
    by_cases h2 : lead l m = l.length
    · exact .inl ⟨28, .inr rfl, by unfold grp; rw [if_neg h1, if_pos h2]⟩
    · by_cases h3 : 0 < lead l m ∧ l[lead l m]? = some 0
      · exact .inl ⟨3, .inl rfl, by unfold grp; rw [if_neg h1, if_neg h2, if_pos h3]⟩
      · by_cases h4 : lead l m = 9 ∧ 1 < (l[lead l m]?.getD 0).toNat
        · exact .inl ⟨3, .inl rfl, by unfold grp; rw [if_neg h1, if_neg h2, if_neg h3, if_pos h4]⟩
        · obtain ⟨c, hc, _⟩ := lead_stop l m (by omega) (by omega)
          refine .inr ⟨_, _, by unfold grp; rw [if_neg h1, if_neg h2, if_neg h3, if_neg h4], by omega, by omega, by omega, canon_lead l m c (by omega) hc fun h0 hz => h3 ⟨h0, ?_⟩⟩
          rw [hc, show c = 0 from UInt8.toNat_inj.1 (by simpa using hz)]

end Go.Proofs.YtcdjmkfpclmbdaaGreatDoor.Cod

namespace Go.Proofs.YtcdjmkfpclmbdaaGreatDoor.Cod
open Go.RowKit

theorem bsl : ByteSlice Tryz.prog 53 5 := ⟨Tryz.underlying53, Tryz.underlying5, by kernel_rfl⟩

theorem byte_or (n : Nat) : bits .or .u8 ((n : Int) % 256) 128 = ((hi7 n).toNat : Int) := by
  have e : (n : Int) % 256 = ((n % 256 : Nat) : Int) := by omega
  rw [e, show (128 : Int) = ((128 : Nat) : Int) from rfl, u8_or_nat _ _ (by omega) (by omega), toNat_hi7]
  congr 1
  have h1 : n % 256 ||| 128 = n % 256 % 128 + 128 := by
    have := Nat.lt_two_pow_self (n := 1)
    rcases Nat.lt_or_ge (n % 256) 128 with h | h
    · rw [Nat.or_comm, nat_join 7 128 (n % 256) (by decide) (by simpa using h)]; omega
    · have e : n % 256 = 128 + n % 128 := by omega
      have h2 : 128 ||| n % 128 = 128 + n % 128 := nat_join 7 128 (n % 128) (by decide) (by simp; omega)
      rw [e, ← h2, Nat.or_comm, ← Nat.or_assoc, Nat.or_self, h2]; omega
  rw [h1]; omega
theorem byte_low {n : Nat} (h : (n : Int) < 128) : (n : Int) % 256 = ((UInt8.ofNat n).toNat : Int) := by rw [toNat_small (by omega)]; omega
theorem ret_int {k : IntKind} {a b : Int} (h : a = b) : Ending.returned (.int k a) = .returned (.int k b) := by rw [h]

set_option maxHeartbeats 400000 in
set_option maxRecDepth 100000 in
theorem appendNatural_any (B : Nat) (v : Value) (l : List UInt8) (n : Nat) (w : World) (hown : OB 5 w B v l) (hn : n < 18446744073709551616) (hlen : l.length + 20 ≤ 140737488355328) (hB : B ≤ w.heap.size) :
    Calls Tryz.prog 121 #[v, .int .u64 (n : Int)] w fun e w' => ∃ v', e = .returned v' ∧ OB 5 w' B v' (l ++ enc n) ∧ Grew w w' v v' := by
  go_enter Tryz.func121, Tryz.ntmps121
  go_wp2
  go_loopw [0, 1] (fun u i wr => ∃ (N : Nat) (m : List UInt8), i = .int .u64 (N : Int) ∧ N < 18446744073709551616 ∧ l ++ enc n = m ++ enc N ∧ OB 5 wr B u m ∧ Grew w wr v u) (fun _ i _ => (intOf i).toNat)
  case atStart => exact ⟨n, l, rfl, hn, rfl, hown, Grew.refl _ _⟩
  case round =>
    obtain ⟨N, m, rfl, hN, hm, ho, hg⟩ := hrel
    have hml : m.length + 1 ≤ 140737488355328 := by
      have h1 := congrArg List.length hm
      have h2 := enc_len10 hn
      simp only [List.length_append] at h1; omega
    have HM := Lib.hid hm
    have HB : B ≤ wr.heap.size := Nat.le_trans hB hg.1.size
    clear hm
    by_cases h : (128 : Int) ≤ (N : Int)
    · go_wp2_with (at_builtin; refine wpList_push bsl rfl (.tmp 7) (.tmp 11) rfl B _ m rfl _ (hi7 N) ?hu ho rfl hml HB ?_)
      case hu => exact congrArg (Value.int .u8) (byte_or N)
      intro u1 w1 ho1 hg1
      go_wp2
      go_roundw
      case rel => exact ⟨N / 128, m ++ [hi7 N], by go_num, by omega, by rw [HM.out, enc_hi7 (by omega)]; simp, ho1, hg.trans hg1⟩
      case measure => simp [intOf] <;> omega
    · go_wp2_with (at_builtin; refine wpList_push bsl rfl (.tmp 15) (.tmp 18) rfl B _ m rfl _ (UInt8.ofNat N) ?hu ho rfl hml HB ?_)
      case hu => first | omega | exact congrArg (Value.int .u8) (byte_low h)
      intro u1 w1 ho1 hg1
      go_wp2
      go_ret
      exact ⟨u1, rfl, by rw [HM.out, enc_low (by omega)]; exact ho1, hg.trans hg1⟩

set_option maxHeartbeats 400000 in
set_option maxRecDepth 100000 in
theorem natural_any (n : Nat) (w : World) (hn : n < 18446744073709551616) :
    Calls Tryz.prog 60 #[.int .u64 (n : Int)] w fun e w' => ∃ v', e = .returned v' ∧ OB 5 w' w.heap.size v' (enc n) ∧ Below w.heap.size w w' := by
  go_enter Tryz.func60, Tryz.ntmps60
  go_wp2
  go_loopw [0, 3] (fun i u wr => ∃ (N : Nat) (m : List UInt8), i = .int .u64 (N : Int) ∧ N < 18446744073709551616 ∧ enc n = m ++ enc N ∧ OB 5 wr w.heap.size u m ∧ Grew w wr (.slice none 0 0) u) (fun i _ _ => (intOf i).toNat)
  case atStart => exact ⟨n, [], rfl, hn, rfl, OB.nil _ _ _, Grew.refl _ _⟩
  case round =>
    obtain ⟨N, m, rfl, hN, hm, ho, hg⟩ := hrel
    have hml : m.length + 1 ≤ 140737488355328 := by
      have h1 := congrArg List.length hm
      have h2 := enc_len10 hn
      simp only [List.length_append] at h1; omega
    have HM := Lib.hid hm
    have HB : w.heap.size ≤ wr.heap.size := hg.1.size
    clear hm
    by_cases h : (128 : Int) ≤ (N : Int)
    · go_wp2_with (at_builtin; refine wpList_push bsl rfl (.tmp 6) (.tmp 11) rfl w.heap.size _ m rfl _ (hi7 N) ?hu ho rfl hml HB ?_)
      case hu =>
        refine congrArg (Value.int .u8) ?_
        rw [toNat_hi7]; omega
      intro u1 w1 ho1 hg1
      go_wp2
      go_roundw
      case rel => exact ⟨N / 128, m ++ [hi7 N], by go_num, by omega, by rw [HM.out, enc_hi7 (by omega)]; simp, ho1, hg.trans hg1⟩
      case measure => simp [intOf] <;> omega
    · go_wp2_with (at_builtin; refine wpList_push bsl rfl (.tmp 15) (.tmp 18) rfl w.heap.size _ m rfl _ (UInt8.ofNat N) ?hu ho rfl hml HB ?_)
      case hu => first | omega | exact congrArg (Value.int .u8) (byte_low h)
      intro u1 w1 ho1 hg1
      go_wp2
      go_ret
      exact ⟨u1, rfl, by rw [HM.out, enc_low (by omega)]; exact ho1, (hg.trans hg1).below (Nat.le_refl _) (by simp [Value.ownBlock])⟩

theorem below_alloc (w : World) (o : Obj) : Below w.heap.size w (w.alloc o) := (Below.refl _ _).alloc (Nat.le_refl _) o

/-- A row that was made and filled from its beginning on. -/
theorem ob_filled {w : World} {base g cap : Nat} {l : List UInt8} (hg : w.heap[g]? = some (.cells (Go.splice (madeCells #[Value.int .u8 0] cap).toList 0 (l.map bv)).toArray 5 (0, 0))) (hb : base ≤ g) (hl : l.length ≤ cap) (hc : cap ≤ maxLen) :
    OB 5 w base (.slice (some ⟨g, 0, none⟩) l.length cap) l := by
  refine ⟨by simp, .inr ⟨g, cap, _, rfl, hb, hg, hl, hc, ?_, ?_⟩⟩
  · simp [Go.splice, size_madeCells]; omega
  · simp [Go.splice]

theorem copy_src {w W : World} {B : Nat} {A : Option Addr} {l : List UInt8} {ad : Addr} (h : RB w B A l) (hk : ∀ p : Addr, p.block < B → W.cell? p = w.cell? p) :
    0 < (l.map bv).length → some ad = some ad ∧ ∃ ad', A = some ad' ∧ ∀ j v, (l.map bv)[j]? = some v → W.cell? (ad'.add j) = some v := by
  intro h0
  obtain ⟨b, off, rfl, hb, hc⟩ := h (by simpa using h0)
  refine ⟨rfl, _, rfl, fun j v hv => ?_⟩
  rw [List.getElem?_map, Option.map_eq_some_iff] at hv
  obtain ⟨c, hj, rfl⟩ := hv
  rw [Addr.add_lit, hk _ hb]
  exact hc j c hj

end Go.Proofs.YtcdjmkfpclmbdaaGreatDoor.Cod

namespace Go.Proofs.YtcdjmkfpclmbdaaGreatDoor.Cod
open Go.RowKit

theorem small_mul {x k : Nat} (hx : x ≤ 127) (hk : k ≤ 8) : x * 128 ^ k ≤ 9151314442816847872 := by
  have h := Nat.mul_le_mul hx (pow128_le hk)
  simpa using h

/-- The loop's numbers, one round on. -/
theorem parse_round {l : List UInt8} {k N : Nat} {c : UInt8} (hN : N < 18446744073709551616) (hk : k ≤ l.length) (hv : k ≤ 9 → N = leval (l.take k)) (hc : l[k]? = some c) (h128 : (128 : Int) ≤ (c.toNat : Int)) :
    ∃ M : Nat, bits .or .u64 (N : Int) (IntKind.u64.wrap (((c.toNat : Int) - 128) * 2 ^ (7 * k))) = (M : Int) ∧ M < 18446744073709551616 ∧ (k + 1 ≤ 9 → M = leval (l.take (k + 1))) := by
  by_cases h8 : k + 1 ≤ 9
  · have hlt := c.toNat_lt
    have e : ((c.toNat : Int) - 128) = ((c.toNat - 128 : Nat) : Int) := by omega
    have hlen : (l.take k).length = k := by rw [List.length_take, Nat.min_eq_left hk]
    have hNk : N < 128 ^ k := by
      rw [hv (by omega)]
      have := leval_lt (l.take k)
      rwa [hlen] at this
    have hb := small_mul (x := c.toNat - 128) (k := k) (by omega) (by omega)
    have hp : 128 ^ k ≤ 72057594037927936 := by
      have h := pow128_le (show k ≤ 8 by omega)
      simpa using h
    have e2 : c.toNat - 128 = c.toNat % 128 := by omega
    have hM : (c.toNat - 128) * 128 ^ k = c.toNat % 128 * 128 ^ k := by rw [e2]
    have hL : leval (l.take (k + 1)) = N + c.toNat % 128 * 128 ^ k := by
      rw [List.take_add_one, hc, Option.toList_some, leval_append, hlen, ← hv (by omega)]
    refine ⟨_, by rw [e]; exact or_shift k N _ hNk (by omega) hN, ?_, fun _ => ?_⟩
    · omega
    · rw [hL, hM]
  · obtain ⟨M, h1, h2⟩ := or_some N hN (((c.toNat : Int) - 128) * 2 ^ (7 * k))
    exact ⟨M, h1, h2, fun h => absurd h h8⟩

theorem parse_last {l : List UInt8} {k N : Nat} {c : UInt8} (hN : N < 18446744073709551616) (hk9 : k ≤ 9) (hk : k ≤ l.length) (hv : k ≤ 9 → N = leval (l.take k)) (hc : l[k]? = some c) (h128 : c.toNat < 128) (h1 : k = 9 → c.toNat ≤ 1) :
    bits .or .u64 (N : Int) (IntKind.u64.wrap ((c.toNat : Int) * 2 ^ (7 * k))) = (leval (l.take (k + 1)) : Int) := by
  have hlen : (l.take k).length = k := by rw [List.length_take, Nat.min_eq_left hk]
  have hNk : N < 128 ^ k := by
    rw [hv (by omega)]
    have := leval_lt (l.take k)
    rwa [hlen] at this
  have hb : c.toNat * 128 ^ k < 18446744073709551616 := by
    by_cases h9 : k = 9
    · subst h9
      exact Nat.lt_of_le_of_lt (Nat.mul_le_mul_right _ (h1 rfl)) (by decide)
    · exact Nat.lt_of_le_of_lt (small_mul (by omega) (by omega)) (by decide)
  rw [or_shift k N _ hNk hb hN, List.take_add_one, hc, Option.toList_some, leval_append, hlen, ← hv (by omega), Nat.mod_eq_of_lt h128]

theorem parse_nine {l : List UInt8} {N : Nat} {c : UInt8} (hN : N < 18446744073709551616) (hk : 9 ≤ l.length) (hv : 9 ≤ 9 → N = leval (l.take 9)) (hc : l[9]? = some c) (h1 : c.toNat ≤ 1) :
    bits .or .u64 (N : Int) ((c.toNat : Int) * 9223372036854775808) = (leval (l.take 10) : Int) := by
  have h := parse_last hN (Nat.le_refl _) hk hv hc (by omega) (fun _ => h1)
  have e : IntKind.u64.wrap ((c.toNat : Int) * 2 ^ (7 * 9)) = (c.toNat : Int) * 9223372036854775808 := by
    rw [show (2 : Int) ^ (7 * 9) = 9223372036854775808 from by kernel_rfl]
    exact IntWalk.u64_in _ ⟨by omega, by omega⟩
  rw [e] at h; exact h

theorem grp_full {l : List UInt8} {m k : Nat} (h : lead l m = k) (e : k = m) : grp l m = (0, 0, 3) := by simp [grp, h, e]
theorem grp_cut {l : List UInt8} {m k : Nat} (h : lead l m = k) (hm : k < m) (e : k = l.length) : grp l m = (0, 0, 28) := by
  subst e; unfold grp; rw [h, if_neg (by omega), if_pos rfl]
theorem grp_zero {l : List UInt8} {m k : Nat} {c : UInt8} (h : lead l m = k) (hm : k < m) (hl : k < l.length) (hc : l[k]? = some c) (h0 : 0 < k) (hz : c.toNat = 0) : grp l m = (0, 0, 3) := by
  have : c = 0 := UInt8.toNat_inj.1 (by simpa using hz)
  subst this
  unfold grp; rw [h, if_neg (by omega), if_neg (by omega), if_pos ⟨h0, hc⟩]
theorem grp_nine {l : List UInt8} {m k : Nat} {c : UInt8} (h : lead l m = k) (hm : k < m) (hl : k < l.length) (hc : l[k]? = some c) (h0 : k = 9) (hz : 1 < c.toNat) : grp l m = (0, 0, 3) := by
  unfold grp; rw [h, if_neg (by omega), if_neg (by omega)]
  split
  · rfl
  · rw [if_pos ⟨h0, by rw [hc]; exact hz⟩]
theorem grp_ok {l : List UInt8} {m k : Nat} {c : UInt8} (h : lead l m = k) (hm : k < m) (hl : k < l.length) (hc : l[k]? = some c) (h0 : 0 < k → c.toNat ≠ 0) (hz : k = 9 → c.toNat ≤ 1) :
    grp l m = (leval (l.take (k + 1)), k + 1, 0) := by
  unfold grp
  rw [h, if_neg (by omega), if_neg (by omega), if_neg, if_neg]
  · rintro ⟨h9, h1⟩; rw [hc] at h1; have := hz h9; simp at h1; omega
  · rintro ⟨hp, h1⟩; rw [hc] at h1; simp at h1; subst h1; exact h0 hp rfl

theorem grp9_lt (l : List UInt8) : (grp l 9).1 < 9223372036854775808 := by
  unfold grp
  repeat' split
  all_goals (try simp)
  rename_i h1 h2 h3 h4
  have h := leval_lt (l.take (lead l 9 + 1))
  rw [List.length_take] at h
  have hle : lead l 9 ≤ 9 := lead_le l 9
  have h5 : (128 : Nat) ^ (min (lead l 9 + 1) l.length) ≤ 128 ^ 9 := pow128_le (by omega)
  simp only [Nat.reducePow] at h5
  omega

set_option maxHeartbeats 400000 in
set_option maxRecDepth 100000 in
theorem parseNatural_any (A : Option Addr) (l : List UInt8) (cap m B : Nat) (w : World) (hr : RB w B A l) (hl : l.length ≤ 9223372036854775806) (hm : m ≤ 10) :
    Calls Tryz.prog 134 #[.slice A l.length cap, .int .i64 (m : Int)] w fun e w' =>
      e = .returned (.tuple #[.int .u64 ((grp l m).1 : Int), .int .i64 ((grp l m).2.1 : Int), .int .i64 ((grp l m).2.2 : Int)]) ∧ w = w' := by
  go_enter Tryz.func134, Tryz.ntmps134
  go_wp2
  go_loop [4, 7] (fun n i => ∃ k N : Nat, k ≤ l.length ∧ k ≤ m ∧ i = .int .i64 k ∧ n = .int .u64 (N : Int) ∧ N < 18446744073709551616 ∧ (k ≤ 9 → N = leval (l.take k)) ∧ (∀ j c, j < k → l[j]? = some c → 128 ≤ c.toNat)) (fun _ i => m - (intOf i).toNat)
  case atStart => exact ⟨0, 0, by omega, by omega, rfl, rfl, by omega, fun _ => by simp [leval], fun _ _ h => absurd h (by omega)⟩
  case round =>
    obtain ⟨k, N, hk, hkm, rfl, rfl, hN, hv, hall⟩ := hrel
    have HV := Lib.hid hv
    have HA := Lib.hid hall
    have HR := Lib.hid hr
    have HN := Lib.hid hN
    clear hv hall hr hN
    by_cases hlt : k < l.length
    · obtain ⟨b, off, c, rfl, hb, hc, hcell⟩ := HR.out.at_ hlt
      have HC := Lib.hid hc
      clear hc
      have hc256 := c.toNat_lt
      by_cases hlm : k < m
      · by_cases h128 : (128 : Int) ≤ (c.toNat : Int)
        · go_wp2
          go_round
          case rel =>
            obtain ⟨M, e, h1, h2⟩ := parse_round HN.out hk HV.out HC.out h128
            exact ⟨k + 1, M, by omega, by omega, by go_num, by rw [e], h1, h2, fun j c' hj hj' => by
              rcases Nat.lt_or_ge j k with h | h
              · exact HA.out j c' h hj'
              · obtain rfl : j = k := by omega
                rw [HC.out] at hj'; injection hj' with hj'; subst hj'; omega⟩
          case measure => simp [intOf] <;> omega
        · have hL := Lib.hid (lead_eq l m k hk hkm HA.out (.inr (.inr ⟨c, HC.out, by omega⟩)))
          have hne : ((k : Int) == (m : Int)) = false := by simp; omega
          have hne2 : ((k : Int) == (l.length : Int)) = false := by simp; omega
          by_cases h0 : 0 < k
          · have h0' : (0 : Int) < (k : Int) := by omega
            by_cases hz : (c.toNat : Int) = 0
            · have hG := Lib.hid (grp_zero hL.out hlm hlt HC.out h0 (by omega))
              have hz' : ((c.toNat : Int) == 0) = true := by simp [hz]
              have hz := Lib.hid hz
              go_wp2
              go_ret3
              exact ⟨by rw [hG.out]; rfl, rfl⟩
            · have hz' : ((c.toNat : Int) == 0) = false := by simpa using hz
              by_cases h9 : k = 9
              · subst h9
                by_cases h1 : (1 : Int) < (c.toNat : Int)
                · have hG := Lib.hid (grp_nine hL.out hlm hlt HC.out rfl (by omega))
                  go_wp2
                  go_ret3
                  exact ⟨by rw [hG.out]; rfl, rfl⟩
                · have hG := Lib.hid (grp_ok hL.out hlm hlt HC.out (fun _ => by omega) (fun _ => by omega))
                  have hP := Lib.hid (parse_nine HN.out hk HV.out HC.out (by omega))
                  go_wp2
                  go_ret3
                  exact ⟨by rw [hG.out]; dsimp only; rw [← hP.out]; rfl, rfl⟩
              · have hG := Lib.hid (grp_ok hL.out hlm hlt HC.out (fun _ => by omega) (fun _ => by omega))
                have hP := Lib.hid (parse_last HN.out (by omega) hk HV.out HC.out (by omega) (fun _ => by omega))
                have h9' : ((k : Int) == 9) = false := by simp; omega
                go_wp2
                go_ret3
                exact ⟨by rw [hG.out]; dsimp only; rw [← hP.out]; rfl, rfl⟩
          · have h0' : ¬ (0 : Int) < (k : Int) := by omega
            have h9' : ((k : Int) == 9) = false := by simp; omega
            have hG := Lib.hid (grp_ok hL.out hlm hlt HC.out (fun _ => by omega) (fun _ => by omega))
            have hP := Lib.hid (parse_last HN.out (by omega) hk HV.out HC.out (by omega) (fun _ => by omega))
            go_wp2
            go_ret3
            exact ⟨by rw [hG.out]; dsimp only; rw [← hP.out]; rfl, rfl⟩
      · have hL := Lib.hid (grp_full (lead_eq l m k hk hkm HA.out (.inr (.inl (by omega)))) (by omega))
        have he : ((k : Int) == (m : Int)) = true := by simp; omega
        go_wp2
        go_ret3
        exact ⟨by rw [hL.out]; rfl, rfl⟩
    · by_cases hlm : k < m
      · have hL := Lib.hid (grp_cut (lead_eq l m k hk hkm HA.out (.inl (by omega))) hlm (by omega))
        have hne : ((k : Int) == (m : Int)) = false := by simp; omega
        have he : ((k : Int) == (l.length : Int)) = true := by simp; omega
        go_wp2
        go_ret3
        exact ⟨by rw [hL.out]; rfl, rfl⟩
      · have hL := Lib.hid (grp_full (lead_eq l m k hk hkm HA.out (.inr (.inl (by omega)))) (by omega))
        have he : ((k : Int) == (m : Int)) = true := by simp; omega
        go_wp2
        go_ret3
        exact ⟨by rw [hL.out]; rfl, rfl⟩
theorem leval_take_lt {l : List UInt8} {k : Nat} {c : UInt8} (hk9 : k ≤ 9) (hk : k ≤ l.length) (hc : l[k]? = some c) (h128 : c.toNat < 128) (h1 : k = 9 → c.toNat ≤ 1) : leval (l.take (k + 1)) < 18446744073709551616 := by
  have hlen : (l.take k).length = k := by rw [List.length_take, Nat.min_eq_left hk]
  have hlt := leval_lt (l.take k)
  rw [hlen] at hlt
  rw [List.take_add_one, hc, Option.toList_some, leval_append, hlen, Nat.mod_eq_of_lt h128]
  by_cases h9 : k = 9
  · subst h9
    have h2 := Nat.mul_le_mul_right (128 ^ 9) (h1 rfl)
    simp only [Nat.reducePow] at h2 hlt ⊢
    omega
  · have h2 := small_mul (x := c.toNat) (k := k) (by omega) (by omega)
    have hp : 128 ^ k ≤ 72057594037927936 := by
      have h := pow128_le (show k ≤ 8 by omega)
      simpa using h
    omega
theorem leval_drop_le (l : List UInt8) : ∀ j, leval (l.drop j) ≤ leval l := by
  induction l with
  | nil => intro j; simp [leval]
  | cons b r ih =>
    intro j
    cases j with
    | zero => simp
    | succ j => have := ih j; simp only [List.drop_succ_cons, leval]; omega
theorem leval_drop_one {t : List UInt8} {j : Nat} {c : UInt8} (h : t[j]? = some c) : leval (t.drop j) = c.toNat % 128 + 128 * leval (t.drop (j + 1)) := by
  have hl : j < t.length := (List.getElem?_eq_some_iff.1 h).1
  have e : t[j] = c := by rw [List.getElem?_eq_getElem hl] at h; injection h
  rw [List.drop_eq_getElem_cons hl, e]; rfl

theorem codecParse_any (A : Option Addr) (l : List UInt8) (cap B : Nat) (w : World) (hr : RB w B A l) (hl : l.length ≤ 9223372036854775806) :
    Calls Tryz.prog 122 #[.slice A l.length cap] w fun e w' =>
      e = .returned (.tuple #[.int .i64 ((grp l 9).1 : Int), .int .i64 ((grp l 9).2.1 : Int), .int .i64 ((grp l 9).2.2 : Int)]) ∧ w = w' := by
  have hlt := grp9_lt l
  have HR := Lib.hid hr
  have HP := Lib.hid (parseNatural_any A l cap 9 B w hr hl (by omega))
  clear hr
  generalize grp l 9 = g at *
  go_enter Tryz.func122, Tryz.ntmps122
  go_wp2_with (go_at_call 134; refine (HP.out).mono ?_; rintro e w' ⟨rfl, rfl⟩)
  go_ret3
  exact ⟨rfl, rfl⟩

set_option maxHeartbeats 1000000 in
set_option maxRecDepth 100000 in
theorem groups_any (A : Option Addr) (l : List UInt8) (cap m B : Nat) (w : World) (hr : RB w B A l) (hl : l.length ≤ 9223372036854775806) (hm : m ≤ 10) :
    Calls Tryz.prog 123 #[.slice A l.length cap, .int .i64 (m : Int)] w fun e w' =>
      e = .returned (.tuple #[.int .u64 ((grp l m).1 : Int), .int .i64 ((grp l m).2.1 : Int), .int .i64 ((grp l m).2.2 : Int)]) ∧ w = w' := by
  go_enter Tryz.func123, Tryz.ntmps123
  go_wp2
  go_loop [7] (fun i => ∃ k : Nat, k ≤ l.length ∧ k ≤ m ∧ i = .int .i64 k ∧ (∀ j c, j < k → l[j]? = some c → 128 ≤ c.toNat)) (fun i => m - (intOf i).toNat)
  case atStart => exact ⟨0, by omega, by omega, rfl, fun _ _ h => absurd h (by omega)⟩
  case round =>
    obtain ⟨k, hk, hkm, rfl, hall⟩ := hrel
    have HA := Lib.hid hall
    have HR := Lib.hid hr
    clear hall hr
    by_cases hlt : k < l.length
    · obtain ⟨b, off, c, rfl, hb, hc, hcell⟩ := HR.out.at_ hlt
      have HC := Lib.hid hc
      clear hc
      have hc256 := c.toNat_lt
      by_cases hlm : k < m
      · by_cases h128 : (128 : Int) ≤ (c.toNat : Int)
        · go_wp2
          go_round
          case rel =>
            exact ⟨k + 1, by omega, by omega, by go_num, fun j c' hj hj' => by
              rcases Nat.lt_or_ge j k with h | h
              · exact HA.out j c' h hj'
              · obtain rfl : j = k := by omega
                rw [HC.out] at hj'; injection hj' with hj'; subst hj'; omega⟩
          case measure => simp [intOf] <;> omega
        · have hL := Lib.hid (lead_eq l m k hk hkm HA.out (.inr (.inr ⟨c, HC.out, by omega⟩)))
          have hne : ((k : Int) == (m : Int)) = false := by simp; omega
          have hne2 : ((k : Int) == (l.length : Int)) = false := by simp; omega
          by_cases hbad : 0 < k ∧ c.toNat = 0
          · obtain ⟨h0, hz⟩ := hbad
            have h0' : (0 : Int) < (k : Int) := by omega
            have hG := Lib.hid (grp_zero hL.out hlm hlt HC.out h0 (by omega))
            have hz' : ((c.toNat : Int) == 0) = true := by simp [hz]
            have hz := Lib.hid hz
            go_wp2
            go_ret3
            exact ⟨by rw [hG.out]; rfl, rfl⟩
          · by_cases hnine : k = 9 ∧ 1 < c.toNat
            · obtain ⟨rfl, h1⟩ := hnine
              have hz' : ((c.toNat : Int) == 0) = false := by simp; omega
              have h1' : (1 : Int) < (c.toNat : Int) := by omega
              have hG := Lib.hid (grp_nine hL.out hlm hlt HC.out rfl h1)
              clear hbad
              go_wp2
              go_ret3
              exact ⟨by rw [hG.out]; rfl, rfl⟩
            · have hG := Lib.hid (grp_ok hL.out hlm hlt HC.out (fun h => by omega) (fun h => by omega))
              have hV := Lib.hid (leval_take_lt (l := l) (by omega) hk HC.out (by omega) (fun h => by omega))
              by_cases h0 : 0 < k
              · have h0' : (0 : Int) < (k : Int) := by omega
                have hz' : ((c.toNat : Int) == 0) = false := by simp; omega
                by_cases h9 : k = 9
                · subst h9
                  have h1' : ¬ (1 : Int) < (c.toNat : Int) := by omega
                  clear hbad hnine
                  go_wp2
                  go_loop [8, 9] (fun n i => ∃ (j N : Nat), j ≤ 9 + 1 ∧ i = .int .i64 ((j : Int) - 1) ∧ n = .int .u64 (N : Int) ∧ N = leval ((l.take (9 + 1)).drop j)) (fun _ i => (intOf i + 1).toNat)
                  case atStart => exact ⟨9 + 1, 0, by omega, by go_num, rfl, by first | rfl | (rw [List.drop_of_length_le (by simp; omega)]; first | done | rfl)⟩
                  case round =>
                    obtain ⟨j, N, hj, rfl, rfl, hNv⟩ := hrel
                    rcases j with _ | j
                    · have HNv := Lib.hid hNv
                      clear hNv hcell
                      go_wp2
                      go_ret3
                      exact ⟨by rw [hG.out]; dsimp only; rw [List.drop_zero] at HNv; rw [← HNv.out]; rfl, rfl⟩
                    · obtain ⟨b', off', d, hA', _, hd, hcell'⟩ := HR.out.at_ (k := j) (by omega)
                      injection hA' with hA'; injection hA' with hb' ho'; subst hb'; subst ho'
                      have hd' : (l.take (9 + 1))[j]? = some d := by rw [List.getElem?_take, if_pos (by omega)]; exact hd
                      have h1 := leval_drop_one hd'
                      rw [← hNv] at h1
                      have h2 := leval_drop_le (l.take (9 + 1)) j
                      have h3 := hV.out
                      have hb1 : 128 * (N : Int) + (d.toNat : Int) % 128 < 18446744073709551616 := by omega
                      have hb2 : 0 ≤ (N : Int) := by omega
                      have hd256 := d.toNat_lt
                      have hjl : j < l.length := by omega
                      have H1 := Lib.hid h1
                      have HD := Lib.hid hd
                      clear h1 h2 h3 hd hd' hNv hcell hb
                      rw [show (((j + 1 : Nat) : Int) - 1) = (j : Int) by omega]
                      go_wp2
                      go_round
                      case rel => exact ⟨j, 128 * N + d.toNat % 128, by omega, by go_num, by go_num, by rw [H1.out]; omega⟩
                      case measure => simp [intOf] <;> omega
                · have h9' : ((k : Int) == 9) = false := by simp; omega
                  clear hbad hnine
                  go_wp2
                  go_loop [8, 9] (fun n i => ∃ (j N : Nat), j ≤ k + 1 ∧ i = .int .i64 ((j : Int) - 1) ∧ n = .int .u64 (N : Int) ∧ N = leval ((l.take (k + 1)).drop j)) (fun _ i => (intOf i + 1).toNat)
                  case atStart => exact ⟨k + 1, 0, by omega, by go_num, rfl, by first | rfl | (rw [List.drop_of_length_le (by simp; omega)]; first | done | rfl)⟩
                  case round =>
                    obtain ⟨j, N, hj, rfl, rfl, hNv⟩ := hrel
                    rcases j with _ | j
                    · have HNv := Lib.hid hNv
                      clear hNv hcell
                      go_wp2
                      go_ret3
                      exact ⟨by rw [hG.out]; dsimp only; rw [List.drop_zero] at HNv; rw [← HNv.out]; rfl, rfl⟩
                    · obtain ⟨b', off', d, hA', _, hd, hcell'⟩ := HR.out.at_ (k := j) (by omega)
                      injection hA' with hA'; injection hA' with hb' ho'; subst hb'; subst ho'
                      have hd' : (l.take (k + 1))[j]? = some d := by rw [List.getElem?_take, if_pos (by omega)]; exact hd
                      have h1 := leval_drop_one hd'
                      rw [← hNv] at h1
                      have h2 := leval_drop_le (l.take (k + 1)) j
                      have h3 := hV.out
                      have hb1 : 128 * (N : Int) + (d.toNat : Int) % 128 < 18446744073709551616 := by omega
                      have hb2 : 0 ≤ (N : Int) := by omega
                      have hd256 := d.toNat_lt
                      have hjl : j < l.length := by omega
                      have H1 := Lib.hid h1
                      have HD := Lib.hid hd
                      clear h1 h2 h3 hd hd' hNv hcell hb
                      rw [show (((j + 1 : Nat) : Int) - 1) = (j : Int) by omega]
                      go_wp2
                      go_round
                      case rel => exact ⟨j, 128 * N + d.toNat % 128, by omega, by go_num, by go_num, by rw [H1.out]; omega⟩
                      case measure => simp [intOf] <;> omega
              · have h0' : ¬ (0 : Int) < (k : Int) := by omega
                have h9' : ((k : Int) == 9) = false := by simp; omega
                clear hbad hnine
                go_wp2
                go_loop [8, 9] (fun n i => ∃ (j N : Nat), j ≤ k + 1 ∧ i = .int .i64 ((j : Int) - 1) ∧ n = .int .u64 (N : Int) ∧ N = leval ((l.take (k + 1)).drop j)) (fun _ i => (intOf i + 1).toNat)
                case atStart => exact ⟨k + 1, 0, by omega, by go_num, rfl, by first | rfl | (rw [List.drop_of_length_le (by simp; omega)]; first | done | rfl)⟩
                case round =>
                  obtain ⟨j, N, hj, rfl, rfl, hNv⟩ := hrel
                  rcases j with _ | j
                  · have HNv := Lib.hid hNv
                    clear hNv hcell
                    go_wp2
                    go_ret3
                    exact ⟨by rw [hG.out]; dsimp only; rw [List.drop_zero] at HNv; rw [← HNv.out]; rfl, rfl⟩
                  · obtain ⟨b', off', d, hA', _, hd, hcell'⟩ := HR.out.at_ (k := j) (by omega)
                    injection hA' with hA'; injection hA' with hb' ho'; subst hb'; subst ho'
                    have hd' : (l.take (k + 1))[j]? = some d := by rw [List.getElem?_take, if_pos (by omega)]; exact hd
                    have h1 := leval_drop_one hd'
                    rw [← hNv] at h1
                    have h2 := leval_drop_le (l.take (k + 1)) j
                    have h3 := hV.out
                    have hb1 : 128 * (N : Int) + (d.toNat : Int) % 128 < 18446744073709551616 := by omega
                    have hb2 : 0 ≤ (N : Int) := by omega
                    have hd256 := d.toNat_lt
                    have hjl : j < l.length := by omega
                    have H1 := Lib.hid h1
                    have HD := Lib.hid hd
                    clear h1 h2 h3 hd hd' hNv hcell hb
                    rw [show (((j + 1 : Nat) : Int) - 1) = (j : Int) by omega]
                    go_wp2
                    go_round
                    case rel => exact ⟨j, 128 * N + d.toNat % 128, by omega, by go_num, by go_num, by rw [H1.out]; omega⟩
                    case measure => simp [intOf] <;> omega
      · have hL := Lib.hid (grp_full (lead_eq l m k hk hkm HA.out (.inr (.inl (by omega)))) (by omega))
        have he : ((k : Int) == (m : Int)) = true := by simp; omega
        go_wp2
        go_ret3
        exact ⟨by rw [hL.out]; rfl, rfl⟩
    · by_cases hlm : k < m
      · have hL := Lib.hid (grp_cut (lead_eq l m k hk hkm HA.out (.inl (by omega))) hlm (by omega))
        have hne : ((k : Int) == (m : Int)) = false := by simp; omega
        have he : ((k : Int) == (l.length : Int)) = true := by simp; omega
        go_wp2
        go_ret3
        exact ⟨by rw [hL.out]; rfl, rfl⟩
      · have hL := Lib.hid (grp_full (lead_eq l m k hk hkm HA.out (.inr (.inl (by omega)))) (by omega))
        have he : ((k : Int) == (m : Int)) = true := by simp; omega
        go_wp2
        go_ret3
        exact ⟨by rw [hL.out]; rfl, rfl⟩

theorem refParse_any (A : Option Addr) (l : List UInt8) (cap B : Nat) (w : World) (hr : RB w B A l) (hl : l.length ≤ 9223372036854775806) :
    Calls Tryz.prog 101 #[.slice A l.length cap] w fun e w' =>
      e = .returned (.tuple #[.int .i64 ((grp l 9).1 : Int), .int .i64 ((grp l 9).2.1 : Int), .int .i64 ((grp l 9).2.2 : Int)]) ∧ w = w' := by
  have hlt := grp9_lt l
  have HP := Lib.hid (groups_any A l cap 9 B w hr hl (by omega))
  clear hr
  generalize grp l 9 = g at *
  go_enter Tryz.func101, Tryz.ntmps101
  go_wp2_with (go_at_call 123; refine (HP.out).mono ?_; rintro e w' ⟨rfl, rfl⟩)
  go_ret3
  exact ⟨rfl, rfl⟩
end Go.Proofs.YtcdjmkfpclmbdaaGreatDoor.Cod
