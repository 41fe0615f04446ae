/- The walk of codec.parseNatural. -/
import Derived.Test.YtfjigooahdfbpaaChecked
import Derived.Test.YtfjigooahdfbpaaLib
import Derived.Test.YtfjigooahdfbpaaMath
set_option linter.unusedVariables false
namespace Go.Proofs.Ytfjigooahdfbpaa
open Go.RowKit

theorem small_mul {x k : Nat} (hx : x ≤ 127) (hk : k ≤ 8) : x * 128 ^ k ≤ 9151314442816847872 := by
  have h := Nat.mul_le_mul hx (pow128_le hk)
  simpa using h

/-- The loop's numbers, one round on. -/
theorem parse_round {l : List UInt8} {k N : Nat} {c : UInt8} (hN : N < 18446744073709551616) (hk : k ≤ l.length) (hv : k ≤ 9 → N = leval (l.take k)) (hc : l[k]? = some c) (h128 : (128 : Int) ≤ (c.toNat : Int)) :
    ∃ M : Nat, bits .or .u64 (N : Int) (IntKind.u64.wrap (((c.toNat : Int) - 128) * 2 ^ (7 * k))) = (M : Int) ∧ M < 18446744073709551616 ∧ (k + 1 ≤ 9 → M = leval (l.take (k + 1))) := by
  by_cases h8 : k + 1 ≤ 9
  · have hlt := c.toNat_lt
    have e : ((c.toNat : Int) - 128) = ((c.toNat - 128 : Nat) : Int) := by omega
    have hlen : (l.take k).length = k := by rw [List.length_take, Nat.min_eq_left hk]
    have hNk : N < 128 ^ k := by
      rw [hv (by omega)]
      have := leval_lt (l.take k)
      rwa [hlen] at this
    have hb := small_mul (x := c.toNat - 128) (k := k) (by omega) (by omega)
    have hp : 128 ^ k ≤ 72057594037927936 := by
      have h := pow128_le (show k ≤ 8 by omega)
      simpa using h
    have e2 : c.toNat - 128 = c.toNat % 128 := by omega
    have hM : (c.toNat - 128) * 128 ^ k = c.toNat % 128 * 128 ^ k := by rw [e2]
    have hL : leval (l.take (k + 1)) = N + c.toNat % 128 * 128 ^ k := by
      rw [List.take_add_one, hc, Option.toList_some, leval_append, hlen, ← hv (by omega)]
    refine ⟨_, by rw [e]; exact or_shift k N _ hNk (by omega) hN, ?_, fun _ => ?_⟩
    · omega
    · rw [hL, hM]
  · obtain ⟨M, h1, h2⟩ := or_some N hN (((c.toNat : Int) - 128) * 2 ^ (7 * k))
    exact ⟨M, h1, h2, fun h => absurd h h8⟩

theorem parse_last {l : List UInt8} {k N : Nat} {c : UInt8} (hN : N < 18446744073709551616) (hk9 : k ≤ 9) (hk : k ≤ l.length) (hv : k ≤ 9 → N = leval (l.take k)) (hc : l[k]? = some c) (h128 : c.toNat < 128) (h1 : k = 9 → c.toNat ≤ 1) :
    bits .or .u64 (N : Int) (IntKind.u64.wrap ((c.toNat : Int) * 2 ^ (7 * k))) = (leval (l.take (k + 1)) : Int) := by
  have hlen : (l.take k).length = k := by rw [List.length_take, Nat.min_eq_left hk]
  have hNk : N < 128 ^ k := by
    rw [hv (by omega)]
    have := leval_lt (l.take k)
    rwa [hlen] at this
  have hb : c.toNat * 128 ^ k < 18446744073709551616 := by
    by_cases h9 : k = 9
    · subst h9
      exact Nat.lt_of_le_of_lt (Nat.mul_le_mul_right _ (h1 rfl)) (by decide)
    · exact Nat.lt_of_le_of_lt (small_mul (by omega) (by omega)) (by decide)
  rw [or_shift k N _ hNk hb hN, List.take_add_one, hc, Option.toList_some, leval_append, hlen, ← hv (by omega), Nat.mod_eq_of_lt h128]

theorem parse_nine {l : List UInt8} {N : Nat} {c : UInt8} (hN : N < 18446744073709551616) (hk : 9 ≤ l.length) (hv : 9 ≤ 9 → N = leval (l.take 9)) (hc : l[9]? = some c) (h1 : c.toNat ≤ 1) :
    bits .or .u64 (N : Int) ((c.toNat : Int) * 9223372036854775808) = (leval (l.take 10) : Int) := by
  have h := parse_last hN (Nat.le_refl _) hk hv hc (by omega) (fun _ => h1)
  have e : IntKind.u64.wrap ((c.toNat : Int) * 2 ^ (7 * 9)) = (c.toNat : Int) * 9223372036854775808 := by
    rw [show (2 : Int) ^ (7 * 9) = 9223372036854775808 from by kernel_rfl]
    exact IntWalk.u64_in _ ⟨by omega, by omega⟩
  rw [e] at h; exact h

theorem grp_full {l : List UInt8} {m k : Nat} (h : lead l m = k) (e : k = m) : grp l m = (0, 0, 3) := by simp [grp, h, e]
theorem grp_cut {l : List UInt8} {m k : Nat} (h : lead l m = k) (hm : k < m) (e : k = l.length) : grp l m = (0, 0, 28) := by
  subst e; unfold grp; rw [h, if_neg (by omega), if_pos rfl]
theorem grp_zero {l : List UInt8} {m k : Nat} {c : UInt8} (h : lead l m = k) (hm : k < m) (hl : k < l.length) (hc : l[k]? = some c) (h0 : 0 < k) (hz : c.toNat = 0) : grp l m = (0, 0, 3) := by
  have : c = 0 := UInt8.toNat_inj.1 (by simpa using hz)
  subst this
  unfold grp; rw [h, if_neg (by omega), if_neg (by omega), if_pos ⟨h0, hc⟩]
theorem grp_nine {l : List UInt8} {m k : Nat} {c : UInt8} (h : lead l m = k) (hm : k < m) (hl : k < l.length) (hc : l[k]? = some c) (h0 : k = 9) (hz : 1 < c.toNat) : grp l m = (0, 0, 3) := by
  unfold grp; rw [h, if_neg (by omega), if_neg (by omega)]
  split
  · rfl
  · rw [if_pos ⟨h0, by rw [hc]; exact hz⟩]
theorem grp_ok {l : List UInt8} {m k : Nat} {c : UInt8} (h : lead l m = k) (hm : k < m) (hl : k < l.length) (hc : l[k]? = some c) (h0 : 0 < k → c.toNat ≠ 0) (hz : k = 9 → c.toNat ≤ 1) :
    grp l m = (leval (l.take (k + 1)), k + 1, 0) := by
  unfold grp
  rw [h, if_neg (by omega), if_neg (by omega), if_neg, if_neg]
  · rintro ⟨h9, h1⟩; rw [hc] at h1; have := hz h9; simp at h1; omega
  · rintro ⟨hp, h1⟩; rw [hc] at h1; simp at h1; subst h1; exact h0 hp rfl

theorem grp9_lt (l : List UInt8) : (grp l 9).1 < 9223372036854775808 := by
  unfold grp
  repeat' split
  all_goals (try simp)
  rename_i h1 h2 h3 h4
  have h := leval_lt (l.take (lead l 9 + 1))
  rw [List.length_take] at h
  have hle : lead l 9 ≤ 9 := lead_le l 9
  have h5 : (128 : Nat) ^ (min (lead l 9 + 1) l.length) ≤ 128 ^ 9 := pow128_le (by omega)
  simp only [Nat.reducePow] at h5
  omega

set_option maxHeartbeats 400000 in
set_option maxRecDepth 100000 in
theorem parseNatural_any (A : Option Addr) (l : List UInt8) (cap m B : Nat) (w : World) (hr : RB w B A l) (hl : l.length ≤ 9223372036854775806) (hm : m ≤ 10) :
    Calls Try.prog 42 #[.slice A l.length cap, .int .i64 (m : Int)] w fun e w' =>
      e = .returned (.tuple #[.int .u64 ((grp l m).1 : Int), .int .i64 ((grp l m).2.1 : Int), .int .i64 ((grp l m).2.2 : Int)]) ∧ w = w' := by
  go_enter Try.func42, Try.ntmps42
  go_wp2
  go_loop [4, 7] (fun n i => ∃ k N : Nat, k ≤ l.length ∧ k ≤ m ∧ i = .int .i64 k ∧ n = .int .u64 (N : Int) ∧ N < 18446744073709551616 ∧ (k ≤ 9 → N = leval (l.take k)) ∧ (∀ j c, j < k → l[j]? = some c → 128 ≤ c.toNat)) (fun _ i => m - (intOf i).toNat)
  case atStart => exact ⟨0, 0, by omega, by omega, rfl, rfl, by omega, fun _ => by simp [leval], fun _ _ h => absurd h (by omega)⟩
  case round =>
    obtain ⟨k, N, hk, hkm, rfl, rfl, hN, hv, hall⟩ := hrel
    have HV := Lib.hid hv
    have HA := Lib.hid hall
    have HR := Lib.hid hr
    have HN := Lib.hid hN
    clear hv hall hr hN
    by_cases hlt : k < l.length
    · obtain ⟨b, off, c, rfl, hb, hc, hcell⟩ := HR.out.at_ hlt
      have HC := Lib.hid hc
      clear hc
      have hc256 := c.toNat_lt
      by_cases hlm : k < m
      · by_cases h128 : (128 : Int) ≤ (c.toNat : Int)
        · go_wp2
          go_round
          case rel =>
            obtain ⟨M, e, h1, h2⟩ := parse_round HN.out hk HV.out HC.out h128
            exact ⟨k + 1, M, by omega, by omega, by go_num, by rw [e], h1, h2, fun j c' hj hj' => by
              rcases Nat.lt_or_ge j k with h | h
              · exact HA.out j c' h hj'
              · obtain rfl : j = k := by omega
                rw [HC.out] at hj'; injection hj' with hj'; subst hj'; omega⟩
          case measure => simp [intOf] <;> omega
        · have hL := Lib.hid (lead_eq l m k hk hkm HA.out (.inr (.inr ⟨c, HC.out, by omega⟩)))
          have hne : ((k : Int) == (m : Int)) = false := by simp; omega
          have hne2 : ((k : Int) == (l.length : Int)) = false := by simp; omega
          by_cases h0 : 0 < k
          · have h0' : (0 : Int) < (k : Int) := by omega
            by_cases hz : (c.toNat : Int) = 0
            · have hG := Lib.hid (grp_zero hL.out hlm hlt HC.out h0 (by omega))
              have hz' : ((c.toNat : Int) == 0) = true := by simp [hz]
              have hz := Lib.hid hz
              go_wp2
              go_ret3
              exact ⟨by rw [hG.out]; rfl, rfl⟩
            · have hz' : ((c.toNat : Int) == 0) = false := by simpa using hz
              by_cases h9 : k = 9
              · subst h9
                by_cases h1 : (1 : Int) < (c.toNat : Int)
                · have hG := Lib.hid (grp_nine hL.out hlm hlt HC.out rfl (by omega))
                  go_wp2
                  go_ret3
                  exact ⟨by rw [hG.out]; rfl, rfl⟩
                · have hG := Lib.hid (grp_ok hL.out hlm hlt HC.out (fun _ => by omega) (fun _ => by omega))
                  have hP := Lib.hid (parse_nine HN.out hk HV.out HC.out (by omega))
                  go_wp2
                  go_ret3
                  exact ⟨by rw [hG.out]; dsimp only; rw [← hP.out]; rfl, rfl⟩
              · have hG := Lib.hid (grp_ok hL.out hlm hlt HC.out (fun _ => by omega) (fun _ => by omega))
                have hP := Lib.hid (parse_last HN.out (by omega) hk HV.out HC.out (by omega) (fun _ => by omega))
                have h9' : ((k : Int) == 9) = false := by simp; omega
                go_wp2
                go_ret3
                exact ⟨by rw [hG.out]; dsimp only; rw [← hP.out]; rfl, rfl⟩
          · have h0' : ¬ (0 : Int) < (k : Int) := by omega
            have h9' : ((k : Int) == 9) = false := by simp; omega
            have hG := Lib.hid (grp_ok hL.out hlm hlt HC.out (fun _ => by omega) (fun _ => by omega))
            have hP := Lib.hid (parse_last HN.out (by omega) hk HV.out HC.out (by omega) (fun _ => by omega))
            go_wp2
            go_ret3
            exact ⟨by rw [hG.out]; dsimp only; rw [← hP.out]; rfl, rfl⟩
      · have hL := Lib.hid (grp_full (lead_eq l m k hk hkm HA.out (.inr (.inl (by omega)))) (by omega))
        have he : ((k : Int) == (m : Int)) = true := by simp; omega
        go_wp2
        go_ret3
        exact ⟨by rw [hL.out]; rfl, rfl⟩
    · by_cases hlm : k < m
      · have hL := Lib.hid (grp_cut (lead_eq l m k hk hkm HA.out (.inl (by omega))) hlm (by omega))
        have hne : ((k : Int) == (m : Int)) = false := by simp; omega
        have he : ((k : Int) == (l.length : Int)) = true := by simp; omega
        go_wp2
        go_ret3
        exact ⟨by rw [hL.out]; rfl, rfl⟩
      · have hL := Lib.hid (grp_full (lead_eq l m k hk hkm HA.out (.inr (.inl (by omega)))) (by omega))
        have he : ((k : Int) == (m : Int)) = true := by simp; omega
        go_wp2
        go_ret3
        exact ⟨by rw [hL.out]; rfl, rfl⟩
theorem leval_take_lt {l : List UInt8} {k : Nat} {c : UInt8} (hk9 : k ≤ 9) (hk : k ≤ l.length) (hc : l[k]? = some c) (h128 : c.toNat < 128) (h1 : k = 9 → c.toNat ≤ 1) : leval (l.take (k + 1)) < 18446744073709551616 := by
  have hlen : (l.take k).length = k := by rw [List.length_take, Nat.min_eq_left hk]
  have hlt := leval_lt (l.take k)
  rw [hlen] at hlt
  rw [List.take_add_one, hc, Option.toList_some, leval_append, hlen, Nat.mod_eq_of_lt h128]
  by_cases h9 : k = 9
  · subst h9
    have h2 := Nat.mul_le_mul_right (128 ^ 9) (h1 rfl)
    simp only [Nat.reducePow] at h2 hlt ⊢
    omega
  · have h2 := small_mul (x := c.toNat) (k := k) (by omega) (by omega)
    have hp : 128 ^ k ≤ 72057594037927936 := by
      have h := pow128_le (show k ≤ 8 by omega)
      simpa using h
    omega
theorem leval_drop_le (l : List UInt8) : ∀ j, leval (l.drop j) ≤ leval l := by
  induction l with
  | nil => intro j; simp [leval]
  | cons b r ih =>
    intro j
    cases j with
    | zero => simp
    | succ j => have := ih j; simp only [List.drop_succ_cons, leval]; omega
theorem leval_drop_one {t : List UInt8} {j : Nat} {c : UInt8} (h : t[j]? = some c) : leval (t.drop j) = c.toNat % 128 + 128 * leval (t.drop (j + 1)) := by
  have hl : j < t.length := (List.getElem?_eq_some_iff.1 h).1
  have e : t[j] = c := by rw [List.getElem?_eq_getElem hl] at h; injection h
  rw [List.drop_eq_getElem_cons hl, e]; rfl

theorem codecParse_any (A : Option Addr) (l : List UInt8) (cap B : Nat) (w : World) (hr : RB w B A l) (hl : l.length ≤ 9223372036854775806) :
    Calls Try.prog 16 #[.slice A l.length cap] w fun e w' =>
      e = .returned (.tuple #[.int .i64 ((grp l 9).1 : Int), .int .i64 ((grp l 9).2.1 : Int), .int .i64 ((grp l 9).2.2 : Int)]) ∧ w = w' := by
  have hlt := grp9_lt l
  have HR := Lib.hid hr
  have HP := Lib.hid (parseNatural_any A l cap 9 B w hr hl (by omega))
  clear hr
  generalize grp l 9 = g at *
  go_enter Try.func16, Try.ntmps16
  go_wp2_with (go_at_call 42; refine (HP.out).mono ?_; rintro e w' ⟨rfl, rfl⟩)
  go_ret3
  exact ⟨rfl, rfl⟩

set_option maxHeartbeats 1000000 in
set_option maxRecDepth 100000 in
theorem groups_any (A : Option Addr) (l : List UInt8) (cap m B : Nat) (w : World) (hr : RB w B A l) (hl : l.length ≤ 9223372036854775806) (hm : m ≤ 10) :
    Calls Try.prog 43 #[.slice A l.length cap, .int .i64 (m : Int)] w fun e w' =>
      e = .returned (.tuple #[.int .u64 ((grp l m).1 : Int), .int .i64 ((grp l m).2.1 : Int), .int .i64 ((grp l m).2.2 : Int)]) ∧ w = w' := by
  go_enter Try.func43, Try.ntmps43
  go_wp2
  go_loop [7] (fun i => ∃ k : Nat, k ≤ l.length ∧ k ≤ m ∧ i = .int .i64 k ∧ (∀ j c, j < k → l[j]? = some c → 128 ≤ c.toNat)) (fun i => m - (intOf i).toNat)
  case atStart => exact ⟨0, by omega, by omega, rfl, fun _ _ h => absurd h (by omega)⟩
  case round =>
    obtain ⟨k, hk, hkm, rfl, hall⟩ := hrel
    have HA := Lib.hid hall
    have HR := Lib.hid hr
    clear hall hr
    by_cases hlt : k < l.length
    · obtain ⟨b, off, c, rfl, hb, hc, hcell⟩ := HR.out.at_ hlt
      have HC := Lib.hid hc
      clear hc
      have hc256 := c.toNat_lt
      by_cases hlm : k < m
      · by_cases h128 : (128 : Int) ≤ (c.toNat : Int)
        · go_wp2
          go_round
          case rel =>
            exact ⟨k + 1, by omega, by omega, by go_num, fun j c' hj hj' => by
              rcases Nat.lt_or_ge j k with h | h
              · exact HA.out j c' h hj'
              · obtain rfl : j = k := by omega
                rw [HC.out] at hj'; injection hj' with hj'; subst hj'; omega⟩
          case measure => simp [intOf] <;> omega
        · have hL := Lib.hid (lead_eq l m k hk hkm HA.out (.inr (.inr ⟨c, HC.out, by omega⟩)))
          have hne : ((k : Int) == (m : Int)) = false := by simp; omega
          have hne2 : ((k : Int) == (l.length : Int)) = false := by simp; omega
          by_cases hbad : 0 < k ∧ c.toNat = 0
          · obtain ⟨h0, hz⟩ := hbad
            have h0' : (0 : Int) < (k : Int) := by omega
            have hG := Lib.hid (grp_zero hL.out hlm hlt HC.out h0 (by omega))
            have hz' : ((c.toNat : Int) == 0) = true := by simp [hz]
            have hz := Lib.hid hz
            go_wp2
            go_ret3
            exact ⟨by rw [hG.out]; rfl, rfl⟩
          · by_cases hnine : k = 9 ∧ 1 < c.toNat
            · obtain ⟨rfl, h1⟩ := hnine
              have hz' : ((c.toNat : Int) == 0) = false := by simp; omega
              have h1' : (1 : Int) < (c.toNat : Int) := by omega
              have hG := Lib.hid (grp_nine hL.out hlm hlt HC.out rfl h1)
              clear hbad
              go_wp2
              go_ret3
              exact ⟨by rw [hG.out]; rfl, rfl⟩
            · have hG := Lib.hid (grp_ok hL.out hlm hlt HC.out (fun h => by omega) (fun h => by omega))
              have hV := Lib.hid (leval_take_lt (l := l) (by omega) hk HC.out (by omega) (fun h => by omega))
              by_cases h0 : 0 < k
              · have h0' : (0 : Int) < (k : Int) := by omega
                have hz' : ((c.toNat : Int) == 0) = false := by simp; omega
                by_cases h9 : k = 9
                · subst h9
                  have h1' : ¬ (1 : Int) < (c.toNat : Int) := by omega
                  clear hbad hnine
                  go_wp2
                  go_loop [8, 9] (fun n i => ∃ (j N : Nat), j ≤ 9 + 1 ∧ i = .int .i64 ((j : Int) - 1) ∧ n = .int .u64 (N : Int) ∧ N = leval ((l.take (9 + 1)).drop j)) (fun _ i => (intOf i + 1).toNat)
                  case atStart => exact ⟨9 + 1, 0, by omega, by go_num, rfl, by first | rfl | (rw [List.drop_of_length_le (by simp; omega)]; first | done | rfl)⟩
                  case round =>
                    obtain ⟨j, N, hj, rfl, rfl, hNv⟩ := hrel
                    rcases j with _ | j
                    · have HNv := Lib.hid hNv
                      clear hNv hcell
                      go_wp2
                      go_ret3
                      exact ⟨by rw [hG.out]; dsimp only; rw [List.drop_zero] at HNv; rw [← HNv.out]; rfl, rfl⟩
                    · obtain ⟨b', off', d, hA', _, hd, hcell'⟩ := HR.out.at_ (k := j) (by omega)
                      injection hA' with hA'; injection hA' with hb' ho'; subst hb'; subst ho'
                      have hd' : (l.take (9 + 1))[j]? = some d := by rw [List.getElem?_take, if_pos (by omega)]; exact hd
                      have h1 := leval_drop_one hd'
                      rw [← hNv] at h1
                      have h2 := leval_drop_le (l.take (9 + 1)) j
                      have h3 := hV.out
                      have hb1 : 128 * (N : Int) + (d.toNat : Int) % 128 < 18446744073709551616 := by omega
                      have hb2 : 0 ≤ (N : Int) := by omega
                      have hd256 := d.toNat_lt
                      have hjl : j < l.length := by omega
                      have H1 := Lib.hid h1
                      have HD := Lib.hid hd
                      clear h1 h2 h3 hd hd' hNv hcell hb
                      rw [show (((j + 1 : Nat) : Int) - 1) = (j : Int) by omega]
                      go_wp2
                      go_round
                      case rel => exact ⟨j, 128 * N + d.toNat % 128, by omega, by go_num, by go_num, by rw [H1.out]; omega⟩
                      case measure => simp [intOf] <;> omega
                · have h9' : ((k : Int) == 9) = false := by simp; omega
                  clear hbad hnine
                  go_wp2
                  go_loop [8, 9] (fun n i => ∃ (j N : Nat), j ≤ k + 1 ∧ i = .int .i64 ((j : Int) - 1) ∧ n = .int .u64 (N : Int) ∧ N = leval ((l.take (k + 1)).drop j)) (fun _ i => (intOf i + 1).toNat)
                  case atStart => exact ⟨k + 1, 0, by omega, by go_num, rfl, by first | rfl | (rw [List.drop_of_length_le (by simp; omega)]; first | done | rfl)⟩
                  case round =>
                    obtain ⟨j, N, hj, rfl, rfl, hNv⟩ := hrel
                    rcases j with _ | j
                    · have HNv := Lib.hid hNv
                      clear hNv hcell
                      go_wp2
                      go_ret3
                      exact ⟨by rw [hG.out]; dsimp only; rw [List.drop_zero] at HNv; rw [← HNv.out]; rfl, rfl⟩
                    · obtain ⟨b', off', d, hA', _, hd, hcell'⟩ := HR.out.at_ (k := j) (by omega)
                      injection hA' with hA'; injection hA' with hb' ho'; subst hb'; subst ho'
                      have hd' : (l.take (k + 1))[j]? = some d := by rw [List.getElem?_take, if_pos (by omega)]; exact hd
                      have h1 := leval_drop_one hd'
                      rw [← hNv] at h1
                      have h2 := leval_drop_le (l.take (k + 1)) j
                      have h3 := hV.out
                      have hb1 : 128 * (N : Int) + (d.toNat : Int) % 128 < 18446744073709551616 := by omega
                      have hb2 : 0 ≤ (N : Int) := by omega
                      have hd256 := d.toNat_lt
                      have hjl : j < l.length := by omega
                      have H1 := Lib.hid h1
                      have HD := Lib.hid hd
                      clear h1 h2 h3 hd hd' hNv hcell hb
                      rw [show (((j + 1 : Nat) : Int) - 1) = (j : Int) by omega]
                      go_wp2
                      go_round
                      case rel => exact ⟨j, 128 * N + d.toNat % 128, by omega, by go_num, by go_num, by rw [H1.out]; omega⟩
                      case measure => simp [intOf] <;> omega
              · have h0' : ¬ (0 : Int) < (k : Int) := by omega
                have h9' : ((k : Int) == 9) = false := by simp; omega
                clear hbad hnine
                go_wp2
                go_loop [8, 9] (fun n i => ∃ (j N : Nat), j ≤ k + 1 ∧ i = .int .i64 ((j : Int) - 1) ∧ n = .int .u64 (N : Int) ∧ N = leval ((l.take (k + 1)).drop j)) (fun _ i => (intOf i + 1).toNat)
                case atStart => exact ⟨k + 1, 0, by omega, by go_num, rfl, by first | rfl | (rw [List.drop_of_length_le (by simp; omega)]; first | done | rfl)⟩
                case round =>
                  obtain ⟨j, N, hj, rfl, rfl, hNv⟩ := hrel
                  rcases j with _ | j
                  · have HNv := Lib.hid hNv
                    clear hNv hcell
                    go_wp2
                    go_ret3
                    exact ⟨by rw [hG.out]; dsimp only; rw [List.drop_zero] at HNv; rw [← HNv.out]; rfl, rfl⟩
                  · obtain ⟨b', off', d, hA', _, hd, hcell'⟩ := HR.out.at_ (k := j) (by omega)
                    injection hA' with hA'; injection hA' with hb' ho'; subst hb'; subst ho'
                    have hd' : (l.take (k + 1))[j]? = some d := by rw [List.getElem?_take, if_pos (by omega)]; exact hd
                    have h1 := leval_drop_one hd'
                    rw [← hNv] at h1
                    have h2 := leval_drop_le (l.take (k + 1)) j
                    have h3 := hV.out
                    have hb1 : 128 * (N : Int) + (d.toNat : Int) % 128 < 18446744073709551616 := by omega
                    have hb2 : 0 ≤ (N : Int) := by omega
                    have hd256 := d.toNat_lt
                    have hjl : j < l.length := by omega
                    have H1 := Lib.hid h1
                    have HD := Lib.hid hd
                    clear h1 h2 h3 hd hd' hNv hcell hb
                    rw [show (((j + 1 : Nat) : Int) - 1) = (j : Int) by omega]
                    go_wp2
                    go_round
                    case rel => exact ⟨j, 128 * N + d.toNat % 128, by omega, by go_num, by go_num, by rw [H1.out]; omega⟩
                    case measure => simp [intOf] <;> omega
      · have hL := Lib.hid (grp_full (lead_eq l m k hk hkm HA.out (.inr (.inl (by omega)))) (by omega))
        have he : ((k : Int) == (m : Int)) = true := by simp; omega
        go_wp2
        go_ret3
        exact ⟨by rw [hL.out]; rfl, rfl⟩
    · by_cases hlm : k < m
      · have hL := Lib.hid (grp_cut (lead_eq l m k hk hkm HA.out (.inl (by omega))) hlm (by omega))
        have hne : ((k : Int) == (m : Int)) = false := by simp; omega
        have he : ((k : Int) == (l.length : Int)) = true := by simp; omega
        go_wp2
        go_ret3
        exact ⟨by rw [hL.out]; rfl, rfl⟩
      · have hL := Lib.hid (grp_full (lead_eq l m k hk hkm HA.out (.inr (.inl (by omega)))) (by omega))
        have he : ((k : Int) == (m : Int)) = true := by simp; omega
        go_wp2
        go_ret3
        exact ⟨by rw [hL.out]; rfl, rfl⟩

theorem refParse_any (A : Option Addr) (l : List UInt8) (cap B : Nat) (w : World) (hr : RB w B A l) (hl : l.length ≤ 9223372036854775806) :
    Calls Try.prog 17 #[.slice A l.length cap] w fun e w' =>
      e = .returned (.tuple #[.int .i64 ((grp l 9).1 : Int), .int .i64 ((grp l 9).2.1 : Int), .int .i64 ((grp l 9).2.2 : Int)]) ∧ w = w' := by
  have hlt := grp9_lt l
  have HP := Lib.hid (groups_any A l cap 9 B w hr hl (by omega))
  clear hr
  generalize grp l 9 = g at *
  go_enter Try.func17, Try.ntmps17
  go_wp2_with (go_at_call 43; refine (HP.out).mono ?_; rintro e w' ⟨rfl, rfl⟩)
  go_ret3
  exact ⟨rfl, rfl⟩
end Go.Proofs.Ytfjigooahdfbpaa
