/- The walk of the statement CodecCanonical. -/
import Derived.Test.YthnajdccbkbknaaRound
set_option linter.unusedVariables false
namespace Go.Proofs.Ythnajdccbkbknaa
open Go.RowKit

theorem one_ok (v : V) (b : List UInt8) (h : v.Ok) (hb : b.length ≤ 1000000000) : (one v b).1.Ok := by
  have h9 := grp9_lt b
  have h10 := grp10_lt b
  rcases (by omega : v.kind.toNat % 4 = 0 ∨ v.kind.toNat % 4 = 1 ∨ v.kind.toNat % 4 = 2 ∨ v.kind.toNat % 4 = 3) with hq | hq | hq | hq
  · rw [one0 v b hq]
    have hp : 0 ≤ (pNum v.most b).1 ∧ (pNum v.most b).1 ≤ 9223372036854775807 := by
      unfold pNum
      split
      · simp
      · split
        · simp
        · simp only; omega
    exact ⟨by simp only; omega, hp.2, h.m0, h.m1, by simp⟩
  · rw [one1 v b hq]
    have hp : -9223372036854775808 ≤ (pSig b).1 ∧ (pSig b).1 ≤ 9223372036854775807 := by
      unfold pSig; simp only
      by_cases hm : (grp b 10).1 % 2 = 0
      · rw [unzig_even hm]; omega
      · rw [unzig_odd hm]; omega
    exact ⟨hp.1, hp.2, h.m0, h.m1, by simp⟩
  · rw [one2 v b hq]
    exact ⟨by simp only; omega, by simp only; omega, h.m0, h.m1, by simp⟩
  · rw [one3 v b hq]
    refine ⟨by simp only; omega, by simp only; omega, h.m0, h.m1, ?_⟩
    show ((pText v.most b).1.toArray).size ≤ _
    have hp : (pText v.most b).1.length ≤ b.length := by
      unfold pText
      repeat' split
      all_goals simp
      all_goals omega
    simp; omega
theorem zero_ok {v : V} (h : v.Ok) : v.zero.Ok := ⟨by simp [V.zero], by simp [V.zero], h.m0, h.m1, by simp [V.zero]⟩
theorem reads_ok (b : List UInt8) (hb : b.length ≤ 1000000000) (l : List V) : ∀ st : List V × Nat × Nat, (∀ v ∈ l, V.Ok v) → (∀ v ∈ st.1, V.Ok v) →
    (∀ v ∈ (l.foldl (rdstep b) st).1, V.Ok v) ∧ (l.foldl (rdstep b) st).1.length = st.1.length + l.length := by
  induction l with
  | nil => intro st _ h; exact ⟨h, rfl⟩
  | cons v t ih =>
    intro st h hs
    rw [List.foldl_cons]
    have hv := h v (List.mem_cons_self ..)
    obtain ⟨h1, h2⟩ := ih (rdstep b st v) (fun x hx => h x (List.mem_cons_of_mem _ hx)) (fun x hx => by
      unfold rdstep at hx
      simp only [List.mem_append, List.mem_singleton] at hx
      rcases hx with hx | rfl
      · exact hs x hx
      · split
        · exact zero_ok hv
        · exact one_ok v _ hv (by rw [List.length_drop]; omega))
    refine ⟨h1, ?_⟩
    rw [h2]
    unfold rdstep
    simp; omega

set_option maxHeartbeats 2000000 in
set_option maxRecDepth 100000 in
theorem codecCanonical_walk (A : Option Addr) (b : List UInt8) (c : Nat) (B : Option Addr) (l : List V) (d : Nat) (w : World) (hr : RB w w.heap.size A b) (hl : b.length ≤ c) (hc : c ≤ maxLen) (hq : RV w w.heap.size B l) (hm : l.length ≤ d) (hd : d ≤ maxLen) (hok : ∀ v ∈ l, V.Ok v) :
    Calls Try.prog 8 #[.slice A b.length c, .slice B l.length d] w fun r w' => r = .returned (.bool true) ∧ Below w.heap.size w w' := by
  unfold maxLen at hc hd
  have HS := Lib.hid (short_any B l d w.drew hq (by omega) hok)
  have HK := Lib.hid (short_ok hok)
  have hln := short_len l
  obtain ⟨m, em⟩ : ∃ m, m = shortL l := ⟨_, rfl⟩
  rw [← em] at HS HK hln
  have hbm := hr.take 1000
  obtain ⟨x, ex⟩ : ∃ x, x = b.take 1000 := ⟨_, rfl⟩
  have hxl : x.length ≤ 1000 := by rw [ex, List.length_take]; omega
  have hlen : (min (b.length : Int) 1000).toNat = x.length := by rw [ex, List.length_take]; omega
  have hxc : x.length ≤ c := by rw [ex, List.length_take]; omega
  rw [← ex] at hbm
  have HL := Lib.hid hlen
  have HX := Lib.hid hbm
  have hq0 : RV w.drew w.heap.size B l := hq
  have hsi : min (b.length : Int) 1000 ≤ (c : Int) := by omega
  have hsi0 : (0 : Int) ≤ min (b.length : Int) 1000 := by omega
  clear em hok hq hr hbm ex hlen
  go_enter Try.func8, Try.ntmps8
  go_wp2_with fail
  go_region_held3 (fun _ => True) (trivial) (first | (go_at_call 18; refine HS.out.mono ?_; rintro x1 w1 ⟨v1, rfl, ho1, hb1⟩))
  all_goals
    rw [HL.out]
    obtain ⟨A1, c1, rfl, hr1, _, _⟩ := ho1.form
    have hb1' : Below w.heap.size w w1 := (Below.drew (Below.refl w.heap.size w)).trans hb1
    have HX1 := Lib.hid ((HX.out.below hb1').more (B' := w1.heap.size) hb1'.size)
    have HN := Lib.hid (newReader_any A x c w1 HX1.out (by omega))
    have HR1 := Lib.hid hr1
    have HB1 := Lib.hid hb1'
    clear ho1 hb1 hb1' hr1 HS hq0
    try go_wp2_with fail
    refine HN.out.mono ?_
    rintro y w2 ⟨g, v2, rfl, hi2, hf2, hb2⟩
    have HC2 := Lib.hid (lread_any g v2 x A1 m c1 w1.heap.size w2 hi2 (HR1.out.below hb2) hln hb2.size hf2 (by omega))
    have HX2 := Lib.hid (HX1.out.below hb2)
    have HB2 := Lib.hid (HB1.out.trans (hb2.mono HB1.out.size))
    have hg2 := hf2 g (.inl rfl)
    have hs1 := HB1.out.size
    have hs2 := hb2.size
    clear hi2 hf2 hb2 HN
    obtain ⟨st, es⟩ : ∃ st, st = m.foldl (rdstep x) ([], 0, 0) := ⟨_, rfl⟩
    have hrok := reads_ok x (by omega) m ([], 0, 0) HK.out (by simp)
    rw [← es] at HC2 hrok
    have HE := Lib.hid es
    obtain ⟨got, at_, e⟩ := st
    simp only [List.length_nil, Nat.zero_add] at HC2 hrok
    have HOk := Lib.hid hrok.1
    have hgl : got.length ≤ 40 := by rw [hrok.2]; exact hln
    clear hrok es
    go_wp2_with fail
    refine HC2.out.mono ?_
    rintro y w3 ⟨v3, rfl, ho3, hi3, hm3⟩
    obtain ⟨A3, c3, rfl, hr3, _, _⟩ := ho3.form
    have hb3 : Below w1.heap.size w2 w3 := hm3.below hs2 (fun k _ hk => by omega)
    have HX3 := Lib.hid ((HX2.out.below hb3).more (B' := w3.heap.size) (by have := hb3.size; omega))
    have HG3 := Lib.hid hr3
    have HB3 := Lib.hid (HB2.out.trans (hb3.mono hs1))
    have hal := hi3.2.2
    have HCl := Lib.hid (closeR_any w3 g v2 x at_ e hi3 (by omega))
    clear ho3 hr3 hi3 hm3 hb3 hg2 HC2
    obtain ⟨q, hq⟩ : ∃ q, q = (if e ≠ 0 then e else if at_ < x.length then 5 else 0) := ⟨_, rfl⟩
    rw [← hq] at HCl
    have HQ := Lib.hid hq
    clear hq
    by_cases hz : q = 0
    · subst hz
      have hq := HQ.out
      by_cases he : e = 0
      · subst he
        rw [if_neg (by omega)] at hq
        by_cases hlt : at_ < x.length
        · rw [if_pos hlt] at hq; omega
        · have hend : at_ = x.length := by omega
          subst hend
          have hw0 := foldl_write x m 0 [] (Nat.zero_le _) (by simp) (by rw [← HE.out])
          rw [← HE.out] at hw0
          simp only [List.take_length] at hw0
          have HW0 := Lib.hid hw0
          clear hw0 hq hlt
          go_wp2_with fail
          refine HCl.out.mono ?_
          rintro y w4 ⟨rfl, n, rfl⟩
          go_wp2_with fail
          have hb4 : Below w3.heap.size w3 (w3.drewN n) := below_drewN (Below.refl _ _) n
          obtain ⟨W, hW⟩ : ∃ W, W = w3.drewN n := ⟨_, rfl⟩
          rw [← hW] at hb4 ⊢
          have hx4 := HX3.out.below hb4
          have hg4 := (HG3.out.more (B' := w3.heap.size) (by have := hs2; have := HB3.out.size; have := HX3.out; omega)).below hb4
          have HX4 := Lib.hid hx4
          have HG4 := Lib.hid (hg4.more hb4.size)
          have HX4' := Lib.hid (hx4.more hb4.size)
          have HB4 := Lib.hid (HB3.out.trans (hb4.mono HB3.out.size))
          clear hW hb4 hx4 hg4
          refine (newWriter_any W).mono ?_
          rintro y w5 ⟨rfl, hw5, hb5⟩
          obtain ⟨g5, hg5⟩ : ∃ g5, g5 = W.heap.size := ⟨_, rfl⟩
          have hr5 := HG4.out.below hb5
          have hx5 := HX4'.out.below hb5
          have hs5 := hb5.size
          have HB5 := Lib.hid (HB4.out.trans (hb5.mono HB4.out.size))
          have hg0 : w.heap.size ≤ g5 := by rw [hg5]; exact HB4.out.size
          rw [← hg5] at hw5 hr5 hx5 hs5 ⊢
          have HC := Lib.hid (write_any g5 _ ([], 0) A3 got c3 g5 w5 hw5 hr5 hgl HOk.out hs5 (fun k hk => by rcases hk with rfl | hk; exact Nat.le_refl _; simp [Value.ownBlock] at hk) (by simp))
          have HX5 := Lib.hid hx5
          clear hg5 hw5 hb5 hr5 hx5
          go_wp2_with fail
          refine HC.out.mono ?_
          rintro y w6 ⟨rfl, v6, hw6, hm6, hn6⟩
          have hb6 : Below g5 w5 w6 := hm6.below (by omega) (fun k _ hk => by rcases hk with rfl | hk; exact Nat.le_refl _; simp [Value.ownBlock] at hk)
          rw [HW0.out] at hw6
          simp only at hw6
          have HX6 := Lib.hid ((HX5.out.below hb6).more (B' := w6.heap.size) (by have := hb6.size; omega))
          have HB6 := Lib.hid (HB5.out.trans (hb6.mono hg0))
          have HBy := Lib.hid (bytesW_any w6 g5 v6 x hw6 (by omega))
          clear hw6 hm6 hn6 hb6 HC
          go_wp2_with fail
          refine HBy.out.mono ?_
          rintro y w7 ⟨v7, rfl, ho7, hb7⟩
          obtain ⟨A7, c7, rfl, hr7, _, _⟩ := ho7.form
          have st1 := str_later hr7 x.length c7 rfl
          have st2 := str_later ((HX6.out.below hb7).more (B' := w7.heap.size) hb7.size) x.length c rfl
          have HB7 := Lib.hid (HB6.out.trans (hb7.mono HB6.out.size))
          have hS : Below w7.heap.size w7 w7 := Below.refl _ _
          clear hb7 ho7 hr7 HBy
          go_wp2_with fail
          refine (known_any w7).mono ?_
          rintro y w8 ⟨rfl, hb8⟩
          have HB8 := Lib.hid (HB7.out.trans (hb8.mono HB7.out.size))
          have st1' := st1 w8 hb8
          have st2' := st2 w8 hb8
          clear st1 st2 hb8
          go_wp2_with fail
          go_ret
          exact ⟨rfl, HB8.out⟩
      · rw [if_pos he] at hq; omega
    · have hz1 : ((q : Int) != 0) = true := by simp; omega
      clear hz
      go_wp2_with fail
      refine HCl.out.mono ?_
      rintro y w4 ⟨rfl, n, rfl⟩
      go_wp2_with fail
      refine (known_any _).mono ?_
      rintro y w8 ⟨rfl, hb8⟩
      have HB8 := Lib.hid (HB3.out.trans (((below_drewN (Below.refl w3.heap.size w3) n).trans hb8).mono HB3.out.size))
      clear hb8
      go_wp2_with fail
      go_ret
      exact ⟨rfl, HB8.out⟩
end Go.Proofs.Ythnajdccbkbknaa
