/- The walks of codec.appendNatural, codec.Size, codec.Append and of the reference's Natural. -/
import Derived.Test.YtfjigooahdfbpaaChecked
import Derived.Test.YtfjigooahdfbpaaShelf
import Derived.Test.YtfjigooahdfbpaaLib
import Derived.Test.YtfjigooahdfbpaaMath
import Derived.Laws.CopyOwn
set_option linter.unusedVariables false
namespace Go.Proofs.Ytfjigooahdfbpaa
open Go.RowKit

theorem bsl : ByteSlice Try.prog 22 5 := ⟨Try.underlying22, Try.underlying5, by kernel_rfl⟩

theorem byte_or (n : Nat) : bits .or .u8 ((n : Int) % 256) 128 = ((hi7 n).toNat : Int) := by
  have e : (n : Int) % 256 = ((n % 256 : Nat) : Int) := by omega
  rw [e, show (128 : Int) = ((128 : Nat) : Int) from rfl, u8_or_nat _ _ (by omega) (by omega), toNat_hi7]
  congr 1
  have h1 : n % 256 ||| 128 = n % 256 % 128 + 128 := by
    have := Nat.lt_two_pow_self (n := 1)
    rcases Nat.lt_or_ge (n % 256) 128 with h | h
    · rw [Nat.or_comm, nat_join 7 128 (n % 256) (by decide) (by simpa using h)]; omega
    · have e : n % 256 = 128 + n % 128 := by omega
      have h2 : 128 ||| n % 128 = 128 + n % 128 := nat_join 7 128 (n % 128) (by decide) (by simp; omega)
      rw [e, ← h2, Nat.or_comm, ← Nat.or_assoc, Nat.or_self, h2]; omega
  rw [h1]; omega
theorem byte_low {n : Nat} (h : (n : Int) < 128) : (n : Int) % 256 = ((UInt8.ofNat n).toNat : Int) := by rw [toNat_small (by omega)]; omega
theorem ret_int {k : IntKind} {a b : Int} (h : a = b) : Ending.returned (.int k a) = .returned (.int k b) := by rw [h]

set_option maxHeartbeats 400000 in
set_option maxRecDepth 100000 in
theorem appendNatural_any (B : Nat) (v : Value) (l : List UInt8) (n : Nat) (w : World) (hown : OB 5 w B v l) (hn : n < 18446744073709551616) (hlen : l.length + 20 ≤ 140737488355328) (hB : B ≤ w.heap.size) :
    Calls Try.prog 40 #[v, .int .u64 (n : Int)] w fun e w' => ∃ v', e = .returned v' ∧ OB 5 w' B v' (l ++ enc n) ∧ Grew w w' v v' := by
  go_enter Try.func40, Try.ntmps40
  go_wp2
  go_loopw [0, 1] (fun u i wr => ∃ (N : Nat) (m : List UInt8), i = .int .u64 (N : Int) ∧ N < 18446744073709551616 ∧ l ++ enc n = m ++ enc N ∧ OB 5 wr B u m ∧ Grew w wr v u) (fun _ i _ => (intOf i).toNat)
  case atStart => exact ⟨n, l, rfl, hn, rfl, hown, Grew.refl _ _⟩
  case round =>
    obtain ⟨N, m, rfl, hN, hm, ho, hg⟩ := hrel
    have hml : m.length + 1 ≤ 140737488355328 := by
      have h1 := congrArg List.length hm
      have h2 := enc_len10 hn
      simp only [List.length_append] at h1; omega
    have HM := Lib.hid hm
    have HB : B ≤ wr.heap.size := Nat.le_trans hB hg.1.size
    clear hm
    by_cases h : (128 : Int) ≤ (N : Int)
    · go_wp2_with (at_builtin; refine wpList_push bsl rfl (.tmp 7) (.tmp 11) rfl B _ m rfl _ (hi7 N) ?hu ho rfl hml HB ?_)
      case hu => exact congrArg (Value.int .u8) (byte_or N)
      intro u1 w1 ho1 hg1
      go_wp2
      go_roundw
      case rel => exact ⟨N / 128, m ++ [hi7 N], by go_num, by omega, by rw [HM.out, enc_hi7 (by omega)]; simp, ho1, hg.trans hg1⟩
      case measure => simp [intOf] <;> omega
    · go_wp2_with (at_builtin; refine wpList_push bsl rfl (.tmp 15) (.tmp 18) rfl B _ m rfl _ (UInt8.ofNat N) ?hu ho rfl hml HB ?_)
      case hu => first | omega | exact congrArg (Value.int .u8) (byte_low h)
      intro u1 w1 ho1 hg1
      go_wp2
      go_ret
      exact ⟨u1, rfl, by rw [HM.out, enc_low (by omega)]; exact ho1, hg.trans hg1⟩

set_option maxHeartbeats 400000 in
set_option maxRecDepth 100000 in
theorem natural_any (n : Nat) (w : World) (hn : n < 18446744073709551616) :
    Calls Try.prog 15 #[.int .u64 (n : Int)] w fun e w' => ∃ v', e = .returned v' ∧ OB 5 w' w.heap.size v' (enc n) ∧ Below w.heap.size w w' := by
  go_enter Try.func15, Try.ntmps15
  go_wp2
  go_loopw [0, 3] (fun i u wr => ∃ (N : Nat) (m : List UInt8), i = .int .u64 (N : Int) ∧ N < 18446744073709551616 ∧ enc n = m ++ enc N ∧ OB 5 wr w.heap.size u m ∧ Grew w wr (.slice none 0 0) u) (fun i _ _ => (intOf i).toNat)
  case atStart => exact ⟨n, [], rfl, hn, rfl, OB.nil _ _ _, Grew.refl _ _⟩
  case round =>
    obtain ⟨N, m, rfl, hN, hm, ho, hg⟩ := hrel
    have hml : m.length + 1 ≤ 140737488355328 := by
      have h1 := congrArg List.length hm
      have h2 := enc_len10 hn
      simp only [List.length_append] at h1; omega
    have HM := Lib.hid hm
    have HB : w.heap.size ≤ wr.heap.size := hg.1.size
    clear hm
    by_cases h : (128 : Int) ≤ (N : Int)
    · go_wp2_with (at_builtin; refine wpList_push bsl rfl (.tmp 6) (.tmp 11) rfl w.heap.size _ m rfl _ (hi7 N) ?hu ho rfl hml HB ?_)
      case hu =>
        refine congrArg (Value.int .u8) ?_
        rw [toNat_hi7]; omega
      intro u1 w1 ho1 hg1
      go_wp2
      go_roundw
      case rel => exact ⟨N / 128, m ++ [hi7 N], by go_num, by omega, by rw [HM.out, enc_hi7 (by omega)]; simp, ho1, hg.trans hg1⟩
      case measure => simp [intOf] <;> omega
    · go_wp2_with (at_builtin; refine wpList_push bsl rfl (.tmp 15) (.tmp 18) rfl w.heap.size _ m rfl _ (UInt8.ofNat N) ?hu ho rfl hml HB ?_)
      case hu => first | omega | exact congrArg (Value.int .u8) (byte_low h)
      intro u1 w1 ho1 hg1
      go_wp2
      go_ret
      exact ⟨u1, rfl, by rw [HM.out, enc_low (by omega)]; exact ho1, (hg.trans hg1).below (Nat.le_refl _) (by simp [Value.ownBlock])⟩

theorem size_neg (n : Int) (w : World) (h : n < 0) : Calls Try.prog 14 #[.int .i64 n] w fun e w' => e = .returned (.int .i64 0) ∧ w = w' := by
  go_enter Try.func14, Try.ntmps14
  go_wp2
  go_ret
  exact ⟨rfl, rfl⟩

set_option maxHeartbeats 400000 in
theorem size_any (n : Int) (w : World) (h0 : 0 ≤ n) (h1 : n ≤ 9223372036854775807) : Calls Try.prog 14 #[.int .i64 n] w fun e w' => e = .returned (.int .i64 ((enc n.toNat).length : Int)) ∧ w = w' := by
  obtain ⟨k, rfl⟩ := Int.eq_ofNat_of_zero_le h0
  rw [Int.toNat_natCast]
  have ho : bits .or .u64 (k : Int) 1 = ((k ||| 1 : Nat) : Int) := u64_or_nat k 1 (by omega) (by omega)
  have hb : k ||| 1 < 18446744073709551616 := by rw [or_one]; omega
  have hp : 1 ≤ k ||| 1 := by rw [or_one]; omega
  have hs := size_enc (k ||| 1) hp hb
  have hle := Go.Lib.bitLen_le (k ||| 1) 64 (by omega) (by simpa using hb)
  rw [enc_or_one] at hs
  go_enter Try.func14, Try.ntmps14
  have HS := Lib.hid hs
  clear hs
  generalize k ||| 1 = x at *
  go_wp2_with (go_at_call 41; refine (Try.bits_Len64 _ _ (by omega) (by omega)).mono ?_; rintro e w' ⟨rfl, rfl⟩)
  go_ret
  exact ⟨ret_int (by have := HS.out; omega), rfl⟩

theorem below_alloc (w : World) (o : Obj) : Below w.heap.size w (w.alloc o) := (Below.refl _ _).alloc (Nat.le_refl _) o

/-- A row that was made and filled from its beginning on. -/
theorem ob_filled {w : World} {base g cap : Nat} {l : List UInt8} (hg : w.heap[g]? = some (.cells (Go.splice (madeCells #[Value.int .u8 0] cap).toList 0 (l.map bv)).toArray 5 (0, 0))) (hb : base ≤ g) (hl : l.length ≤ cap) (hc : cap ≤ maxLen) :
    OB 5 w base (.slice (some ⟨g, 0, none⟩) l.length cap) l := by
  refine ⟨by simp, .inr ⟨g, cap, _, rfl, hb, hg, hl, hc, ?_, ?_⟩⟩
  · simp [Go.splice, size_madeCells]; omega
  · simp [Go.splice]

theorem copy_src {w W : World} {B : Nat} {A : Option Addr} {l : List UInt8} {ad : Addr} (h : RB w B A l) (hk : ∀ p : Addr, p.block < B → W.cell? p = w.cell? p) :
    0 < (l.map bv).length → some ad = some ad ∧ ∃ ad', A = some ad' ∧ ∀ j v, (l.map bv)[j]? = some v → W.cell? (ad'.add j) = some v := by
  intro h0
  obtain ⟨b, off, rfl, hb, hc⟩ := h (by simpa using h0)
  refine ⟨rfl, _, rfl, fun j v hv => ?_⟩
  rw [List.getElem?_map, Option.map_eq_some_iff] at hv
  obtain ⟨c, hj, rfl⟩ := hv
  rw [Addr.add_lit, hk _ hb]
  exact hc j c hj

theorem append_neg (v : Value) (n : Int) (w : World) (h : n < 0) : Calls Try.prog 12 #[v, .int .i64 n] w fun e w' => e = .returned (.tuple #[.slice none 0 0, .int .i64 2]) ∧ w = w' := by
  go_enter Try.func12, Try.ntmps12
  go_wp2
  go_ret2
  exact ⟨rfl, rfl⟩

set_option maxHeartbeats 400000 in
set_option maxRecDepth 100000 in
theorem append_any (A : Option Addr) (l : List UInt8) (cap : Nat) (n : Int) (w : World) (hr : RB w w.heap.size A l) (hl : l.length ≤ 1000000000) (h0 : 0 ≤ n) (h1 : n ≤ 9223372036854775807) :
    Calls Try.prog 12 #[.slice A l.length cap, .int .i64 n] w fun e w' => ∃ v', e = .returned (.tuple #[v', .int .i64 0]) ∧ OB 5 w' w.heap.size v' (l ++ enc n.toNat) ∧ Below w.heap.size w w' := by
  obtain ⟨i, hi, hz, hs, hb⟩ := bsl.parts
  obtain ⟨k, rfl⟩ := Int.eq_ofNat_of_zero_le h0
  rw [Int.toNat_natCast]
  have hle := enc_len9 (n := k) (by omega)
  obtain ⟨L, hL⟩ : ∃ L, L = (enc k).length := ⟨_, rfl⟩
  have HS : Hid (∀ W : World, Calls Try.prog 14 #[.int .i64 (k : Int)] W fun e w' => e = .returned (.int .i64 (L : Int)) ∧ W = w') := Lib.hid (fun W => by rw [hL]; simpa using size_any (k : Int) W h0 h1)
  rw [← hL] at hle
  have hmk : ∀ W : World, (Instr.makeSlice 22 (.int .i64 (l.length : Int)) (.int .i64 ((l.length : Int) + (L : Int)))).run Try.prog W = .ok (.slice (some ⟨W.heap.size, 0, none⟩) l.length (l.length + L)) (W.alloc (.cells (madeCells #[Value.int .u8 0] (l.length + L)) 5)) := fun W => by
    have h := run_make (P := Try.prog) W 22 5 i (.int .u8 0) bsl.u hi hz .i64 .i64 (l.length : Int) ((l.length : Int) + (L : Int)) (by omega) (by omega) (by rw [hb]; omega) (by omega)
    rw [h, hs, Nat.mul_one]
    show Result.ok _ (W.alloc (.cells (madeCells #[Value.int .u8 0] _) _)) = _
    have e1 : ((l.length : Int) + (L : Int)).toNat = l.length + L := by omega
    rw [e1, Int.toNat_natCast]
  have HL := Lib.hid hL
  clear hL
  go_enter Try.func12, Try.ntmps12
  have hsz : (Try.prog.info? 5).map (·.size) = some 1 := by rw [hi]; simp [hs]
  have HI := Lib.hid hsz
  have HG := Lib.hid (show (w.alloc (.cells (madeCells #[Value.int .u8 0] (l.length + L)) 5)).heap[w.heap.size]? = some (.cells (madeCells #[Value.int .u8 0] (l.length + L)).toList.toArray 5 (0, 0)) from heap_alloc_new w _)
  have HN := Lib.hid (show (l.map bv).length = Nat.min l.length l.length by simp)
  have HF := Lib.hid (show 0 + (l.map bv).length ≤ (madeCells #[Value.int .u8 0] (l.length + L)).toList.length by simp [size_madeCells])
  have HR := Lib.hid hr
  have HA := Lib.hid (bvs_oneCell l)
  clear hsz hr hi hz hs hb
  go_wp2_with (first
    | (go_at_call 14; refine (HS.out _).mono ?_; rintro e w' ⟨rfl, rfl⟩)
    | (refine wpList_copy_splice (o := ⟨some 19, _, _, _, _, _⟩) rfl (.tmp 17) (.tmp 18) 22 22 rfl 5 bsl.u HI.out _ _ _ _ _ _ rfl rfl w.heap.size 0 (madeCells #[Value.int .u8 0] (l.length + L)).toList 5 HG.out (l.map bv) HN.out (copy_src HR.out fun p hp => World.cell?_alloc_lt w _ p hp) HF.out HA.out w.heap.size w (below_alloc _ _) (Nat.le_refl _) ?_))
  intro w1 hg1 hb1
  have hown := ob_filled hg1.out (Nat.le_refl _) (by omega) (by unfold maxLen; omega)
  have HO := Lib.hid hown
  clear hown hg1
  go_wp2_with (go_at_call 40; refine (appendNatural_any w.heap.size _ l k _ HO.out (by omega) (by omega) hb1.size).mono ?_; rintro e w2 ⟨v2, rfl, ho2, hg2⟩)
  go_ret2
  exact ⟨v2, rfl, ho2, hb1.trans (hg2.below hb1.size (by intro k hk; simp [Value.ownBlock] at hk; omega))⟩
end Go.Proofs.Ytfjigooahdfbpaa
