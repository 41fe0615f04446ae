/- The walk of the statement CodecTruncated. -/
import Derived.Test.YthnajdccbkbknaaRound
set_option linter.unusedVariables false
namespace Go.Proofs.Ythnajdccbkbknaa
open Go.RowKit

theorem lead_cut (n : Nat) : ∀ (j m : Nat), j < (enc n).length → (enc n).length ≤ m → lead ((enc n).take j) m = j := by
  have hnil : ∀ m, lead [] m = 0 := fun m => by cases m <;> rfl
  refine groups_induct (p := fun n => ∀ (j m : Nat), j < (enc n).length → (enc n).length ≤ m → lead ((enc n).take j) m = j) ?_ ?_ n
  · intro n h j m hj hm
    rw [enc_low h] at hj
    have : j = 0 := by simpa using hj
    subst this
    rw [List.take_zero, hnil]
  · intro n h ih j m hj hm
    cases j with
    | zero => rw [List.take_zero, hnil]
    | succ j =>
      rw [enc_hi7 h] at hj hm ⊢
      simp only [List.length_cons] at hj hm
      obtain ⟨m, rfl⟩ : ∃ i, m = i + 1 := ⟨m - 1, by omega⟩
      rw [List.take_succ_cons]
      simp only [lead, toNat_hi7]
      rw [if_pos (by omega), ih j m (by omega) (by omega)]
theorem grp_short (n j m : Nat) (hj : j < (enc n).length) (hm : (enc n).length ≤ m) : grp ((enc n).take j) m = (0, 0, 28) := by
  have h := lead_cut n j m hj hm
  have hl : ((enc n).take j).length = j := by rw [List.length_take]; omega
  unfold grp
  rw [h, if_neg (by omega), if_pos hl.symm]

/-- What is missing at the end of a value is missed. -/
theorem one_cut (v : V) (hok : v.Ok) (h : can v) (j : Nat) (hj : j < (encv v).length) : (one v.lim ((encv v).take j)).2.2 = 28 := by
  rcases (by omega : v.kind.toNat % 4 = 0 ∨ v.kind.toNat % 4 = 1 ∨ v.kind.toNat % 4 = 2 ∨ v.kind.toNat % 4 = 3) with hq | hq | hq | hq
  · have hn1 := hok.n1
    have hn := h.1 hq
    rw [encv0 v hq] at hj ⊢
    rw [one0 v.lim _ hq]
    unfold pNum
    rw [grp_short _ j 9 hj (enc_len9 (by omega))]
    rfl
  · have hz := zig_lt hok.n0 hok.n1
    rw [encv1 v hq] at hj ⊢
    rw [one1 v.lim _ hq]
    unfold pSig
    rw [grp_short _ j 10 hj (enc_len10 hz)]
  · rw [encv2 v hq] at hj ⊢
    have : j = 0 := by simpa using hj
    subst this
    rw [one2 v.lim _ hq]
    rfl
  · have hs := h.2 hq
    have hlim : v.lim.most = (v.s.size : Int) := by unfold V.lim; simp only; rw [if_pos hq]
    have hdl : v.s.data.toList.length = v.s.size := by simp
    rw [encv3 v hq] at hj ⊢
    rw [List.length_append, hdl] at hj
    rw [one3 v.lim _ hq, hlim]
    unfold pText
    have h9 : (enc v.s.size).length ≤ 9 := enc_len9 (by omega)
    by_cases hlt : j < (enc v.s.size).length
    · rw [List.take_append_of_le_length (by omega), grp_short _ j 9 hlt h9]
      rfl
    · obtain ⟨i, rfl⟩ : ∃ i, j = (enc v.s.size).length + i := ⟨j - (enc v.s.size).length, by omega⟩
      have hlen : ((enc v.s.size ++ v.s.data.toList).take ((enc v.s.size).length + i)).length = (enc v.s.size).length + i := by
        rw [List.length_take, List.length_append, hdl]; omega
      have hg : grp ((enc v.s.size ++ v.s.data.toList).take ((enc v.s.size).length + i)) 9 = (v.s.size, (enc v.s.size).length, 0) := by
        rw [List.take_length_add_append]; exact grp_enc v.s.size _ 9 h9 (by omega)
      rw [hg]
      simp only [ne_eq, not_true_eq_false, if_false]
      rw [if_neg (by omega), if_pos (by rw [hlen]; omega)]

theorem rd_keep (b : List UInt8) (t : List V) : ∀ (st : List V × Nat × Nat), st.2.2 ≠ 0 → (t.foldl (rdstep b) st).2.2 = st.2.2 := by
  induction t with
  | nil => intro st _; rfl
  | cons y t ih2 =>
    intro st hs
    have : (rdstep b st y).2.2 = st.2.2 := by unfold rdstep; simp only; rw [rerr1 _ hs]
    rw [List.foldl_cons, ih2 _ (by rw [this]; exact hs), this]

theorem foldl_cut (l : List V) : ∀ (pre : List UInt8) (out : List V) (k : Nat), (∀ v ∈ l, can v) → (∀ v ∈ l, V.Ok v) → k < (encs l).length →
    ((l.map V.lim).foldl (rdstep (pre ++ (encs l).take k)) (out, pre.length, 0)).2.2 = 28 := by
  induction l with
  | nil => intro pre out k _ _ h; simp [encs] at h
  | cons v t ih =>
    intro pre out k hc hok hk
    have e0 : encs (v :: t) = encv v ++ encs t := by simp [encs]
    rw [e0, List.length_append] at hk
    rw [List.map_cons, List.foldl_cons, e0]
    by_cases hlt : k < (encv v).length
    · have h1 := one_cut v (hok v (List.mem_cons_self ..)) (hc v (List.mem_cons_self ..)) k hlt
      have e1 : (rdstep (pre ++ (encv v ++ encs t).take k) (out, pre.length, 0) v.lim).2.2 = 28 := by
        unfold rdstep
        simp only
        rw [List.drop_left, List.take_append_of_le_length (by omega), rerr0, h1]
      rw [rd_keep _ _ _ (by rw [e1]; omega), e1]
    · obtain ⟨i, rfl⟩ : ∃ i, k = (encv v).length + i := ⟨k - (encv v).length, by omega⟩
      have h1 := one_encv v (hok v (List.mem_cons_self ..)) (hc v (List.mem_cons_self ..)) ((encs t).take i)
      have e1 : rdstep (pre ++ (encv v ++ encs t).take ((encv v).length + i)) (out, pre.length, 0) v.lim = (out ++ [v.lim.norm], pre.length + (encv v).length, 0) := by
        unfold rdstep
        simp only
        rw [List.drop_left, List.take_length_add_append, h1, rat0, rerr0]
        simp
      rw [e1]
      have h2 := ih (pre ++ encv v) (out ++ [v.lim.norm]) i (fun x hx => hc x (List.mem_cons_of_mem _ hx)) (fun x hx => hok x (List.mem_cons_of_mem _ hx)) (by omega)
      rw [List.length_append, List.append_assoc] at h2
      rw [List.take_length_add_append]
      exact h2

/-- What was written, cut, and read, is truncated. -/
theorem cut_plain (l : List V) (hok : ∀ v ∈ l, V.Ok v) (L : List UInt8) (h : (L, 0) = (l.map V.lim).foldl wstep ([], 0)) (k : Nat) (hk : k < L.length) :
    ((l.map V.lim).foldl (rdstep (L.take k)) ([], 0, 0)).2.2 = 28 := by
  have hc : ∀ v ∈ l, can v := fun v hv => by
    have := can_of_foldl (l.map V.lim) [] (by rw [← h]) v.lim (List.mem_map_of_mem hv)
    exact this
  have h1 := foldl_can (l.map V.lim) [] (fun v hv => by obtain ⟨x, hx, rfl⟩ := List.mem_map.1 hv; exact hc x hx)
  rw [← h, List.nil_append, encs_lim] at h1
  injection h1 with h1 _
  subst h1
  have h2 := foldl_cut l [] [] k hc hok hk
  simpa using h2
theorem u16_nat {n : Int} (h : (Lit.int .u16 n).wf = true) : ∃ k : Nat, n = (k : Int) ∧ k < 65536 := by
  have h1 : 0 ≤ n ∧ n < 65536 := by
    simp [Lit.wf, IntKind.min, IntKind.max, IntKind.signed, IntKind.bits] at h
    omega
  exact ⟨n.toNat, by omega, by omega⟩

set_option maxHeartbeats 2000000 in
set_option maxRecDepth 100000 in
theorem codecTruncated_walk (A : Option Addr) (l : List V) (c : Nat) (n : Int) (w : World) (hr : RV w w.heap.size A l) (hl : l.length ≤ c) (hc : c ≤ maxLen) (hok : ∀ v ∈ l, V.Ok v) (hn : (Lit.int .u16 n).wf = true) :
    Calls Try.prog 9 #[.slice A l.length c, .int .u16 n] w fun r w' => r = .returned (.bool true) ∧ Below w.heap.size w w' := by
  have HS := Lib.hid (short_any A l c w hr (by unfold maxLen at hc; omega) hok)
  have HK0 := Lib.hid (short_ok hok)
  have hln := short_len l
  obtain ⟨m0, hm⟩ : ∃ m0, m0 = shortL l := ⟨_, rfl⟩
  rw [← hm] at HS HK0 hln
  clear hm hr hok
  go_enter Try.func9, Try.ntmps9
  go_wp2_with fail
  refine HS.out.mono ?_
  rintro x w1 ⟨v1, rfl, ho1, hb1⟩
  obtain ⟨A1, c1, rfl, hr1, _, _⟩ := ho1.form
  have HM := Lib.hid (most_any A1 m0 c1 _ w1 hr1 (Nat.le_refl _) hln HK0.out)
  have HB1 := Lib.hid hb1
  clear ho1 hb1 hr1 HS
  go_wp2_with fail
  refine HM.out.mono ?_
  rintro x w2 ⟨v2, rfl, ho2, hb2⟩
  have HK := Lib.hid (lims_ok HK0.out)
  obtain ⟨m, hm⟩ : ∃ m, m = m0.map V.lim := ⟨_, rfl⟩
  rw [← hm] at HK ho2
  have hmln : m.length ≤ 40 := by rw [hm, List.length_map]; exact hln
  obtain ⟨A2, c2, rfl, hr2, _, _⟩ := ho2.form
  have HMm := Lib.hid hm
  have HB2 := Lib.hid (HB1.out.trans (hb2.mono HB1.out.size))
  have HR2 := Lib.hid hr2
  clear hm ho2 hb2 hr2 HM HB1
  go_wp2_with fail
  refine (newWriter_any w2).mono ?_
  rintro x w3 ⟨rfl, hw3, hb3⟩
  obtain ⟨g, hg⟩ : ∃ g, g = w2.heap.size := ⟨_, rfl⟩
  have hr3 := HR2.out.below hb3
  have hg3 := hb3.size
  rw [← hg] at hw3 hb3 hr3 hg3 ⊢
  have HC := Lib.hid (write_any g _ ([], 0) A2 m c2 g w3 hw3 hr3 hmln HK.out hg3 (fun k hk => by rcases hk with rfl | hk; exact Nat.le_refl _; simp [Value.ownBlock] at hk) (by simp))
  have HB3 := Lib.hid (HB2.out.trans (hb3.mono (by rw [hg]; exact HB2.out.size)))
  have hg0 : w.heap.size ≤ g := by rw [hg]; exact HB2.out.size
  have HR3 := Lib.hid hr3
  clear hg hw3 hb3 hr3 HB2 HR2
  go_wp2_with fail
  refine HC.out.mono ?_
  rintro x w4 ⟨rfl, v4, hw4, hm4, hn4⟩
  have hb4 : Below g w3 w4 := hm4.below (by omega) (fun k _ hk => by rcases hk with rfl | hk; exact Nat.le_refl _; simp [Value.ownBlock] at hk)
  have hr4 := HR3.out.below hb4
  have hs4 := hb4.size
  have HB4 := Lib.hid (HB3.out.trans (hb4.mono hg0))
  obtain ⟨s, hs⟩ : ∃ s, s = m.foldl wstep ([], 0) := ⟨_, rfl⟩
  have hsl : s.1.length ≤ 1000000000 := by
    rw [hs]
    have := foldl_len m ([], 0) HK.out
    simp only [List.length_nil] at this; omega
  rw [← hs] at hw4
  have HSS := Lib.hid hs
  obtain ⟨L, e⟩ := s
  simp only at hw4 hsl
  have HW4 := Lib.hid hw4
  have HR4 := Lib.hid hr4
  clear hw4 hm4 hn4 hb4 hr4 hs HC
  by_cases he : e = 0
  · subst he
    have HB := Lib.hid (bytesW_any w4 g v4 L HW4.out (by omega))
    go_wp2_with fail
    refine HB.out.mono ?_
    rintro x w5 ⟨v5, rfl, ho5, hb5⟩
    obtain ⟨A5, c5, rfl, hr5, h5c, h5m⟩ := ho5.form
    have hr5x := hr5
    have HR5 := Lib.hid (((HR4.out.more (B' := w4.heap.size) (by omega)).below hb5).more hb5.size)
    have HB5 := Lib.hid (HB4.out.trans (hb5.mono HB4.out.size))
    by_cases hL : L.length = 0
    · have hL1 : ((L.length : Int) == 0) = true := by simp; exact List.eq_nil_of_length_eq_zero hL
      have HB' := Lib.hid (known_any w5)
      clear ho5 hb5 hr5 HB hL hr5x
      go_wp2_with fail
      refine HB'.out.mono ?_
      rintro x w8 ⟨rfl, hb8⟩
      have HB8 := Lib.hid (HB5.out.trans (hb8.mono HB5.out.size))
      clear hb8
      go_wp2_with fail
      go_ret
      exact ⟨rfl, HB8.out⟩
    · have hL1 : ((L.length : Int) == 0) = false := by simp; intro h; apply hL; rw [h]; rfl
      obtain ⟨k, rfl, hk⟩ := u16_nat hn
      obtain ⟨j, hj⟩ : ∃ j, j = k % L.length := ⟨_, rfl⟩
      have hjl : j < L.length := by rw [hj]; exact Nat.mod_lt _ (by omega)
      have hj1 : (k : Int) % (L.length : Int) = (j : Int) := by rw [hj]; rfl
      have hj2 : (k : Int).tmod (L.length : Int) = (j : Int) := by rw [hj]; rfl
      have hj3 : (j : Int) ≤ (c5 : Int) := by omega
      have hL0 : ¬ (L.length : Int) = 0 := by omega
      have hP := cut_plain m0 HK0.out L (by rw [← HMm.out]; exact HSS.out) j hjl
      rw [← HMm.out] at hP
      obtain ⟨y, hy⟩ : ∃ y, y = L.take j := ⟨_, rfl⟩
      have hyl : y.length = j := by rw [hy, List.length_take]; omega
      rw [← hy] at hP
      have HN := Lib.hid (newReader_any A5 y c5 w5 (by rw [hy]; exact hr5x.take j) (by omega))
      rw [hyl] at HN
      have hys : y.length ≤ 1000000000 := by omega
      have HP := Lib.hid hP
      clear hP hj ho5 hb5 HB hL hr5x hr5 hy hyl hn
      go_wp2_with fail
      refine HN.out.mono ?_
      rintro x w6 ⟨g6, v6, rfl, hi6, hf6, hb6⟩
      have HC6 := Lib.hid (lread_any g6 v6 y A2 m c2 w5.heap.size w6 hi6 (HR5.out.below hb6) hmln hb6.size hf6 hys)
      have HB6 := Lib.hid (HB5.out.trans (hb6.mono HB5.out.size))
      have hg6 := hf6 g6 (.inl rfl)
      have hs5 := HB5.out.size
      have hs6 := hb6.size
      clear hi6 hf6 hb6 HN
      obtain ⟨st, es⟩ : ∃ st, st = m.foldl (rdstep y) ([], 0, 0) := ⟨_, rfl⟩
      rw [← es] at HC6 HP
      obtain ⟨got, at_, e⟩ := st
      simp only at HC6 HP
      have he := HP.out
      subst he
      clear es HP
      go_wp2_with fail
      refine HC6.out.mono ?_
      rintro x w7 ⟨v7, rfl, ho7, hi7, hm7⟩
      obtain ⟨A7, c7, rfl, hr7, _, _⟩ := ho7.form
      have hb7 : Below w5.heap.size w6 w7 := hm7.below hs6 (fun k _ hk => by omega)
      have HB7 := Lib.hid (HB6.out.trans (hb7.mono hs5))
      have HI7 := Lib.hid hi7
      have HF := Lib.hid (failedR_err w7 g6 v6 y at_ 28 hi7 (by omega))
      clear ho7 hi7 hm7 hr7 hb7 HC6 hg6
      go_wp2_with fail
      refine HF.out.mono ?_
      rintro x w8 ⟨rfl, n8, rfl⟩
      have hi8 : IsR (w7.drewN n8) g6 v6 y at_ 28 := HI7.out.mod (S := fun _ => False) ((Mod.refl w7 _).drewN n8) (fun _ _ h => h)
      have hb8 : Below w7.heap.size w7 (w7.drewN n8) := below_drewN (Below.refl _ _) n8
      obtain ⟨W, hW⟩ : ∃ W, W = w7.drewN n8 := ⟨_, rfl⟩
      rw [← hW] at hi8 hb8 ⊢
      have HI8 := Lib.hid hi8
      have HB8 := Lib.hid (HB7.out.trans (hb8.mono HB7.out.size))
      clear hW hi8 hb8 HF HI7
      go_wp2_with fail
      refine (known_any W).mono ?_
      rintro x w9 ⟨rfl, hb9⟩
      have hi9 : IsR w9 g6 v6 y at_ 28 := HI8.out.mod (Mod.of_below hb9) (fun k hk hf => by have := HI8.out.foot_lt k hk; omega)
      have HCl := Lib.hid (closeR_any w9 g6 v6 y at_ 28 hi9 (by omega))
      rw [if_pos (by omega)] at HCl
      have HB9 := Lib.hid (HB8.out.trans (hb9.mono HB8.out.size))
      clear hi9 hb9
      go_wp2_with fail
      refine HCl.out.mono ?_
      rintro x w10 ⟨rfl, n10, rfl⟩
      go_wp2_with fail
      go_ret
      exact ⟨rfl, by first | exact below_drewN HB9.out _ | exact HB9.out⟩
  · have HB := Lib.hid (bytesW_err w4 g v4 L e HW4.out he)
    have he1 : ((e : Int) != 0) = true := by simp; omega
    clear he
    go_wp2_with fail
    refine HB.out.mono ?_
    rintro x w5 ⟨rfl, hb5⟩
    have HB5 := Lib.hid (HB4.out.trans (hb5.mono HB4.out.size))
    clear hb5 HB
    go_wp2_with fail
    refine (known_any w5).mono ?_
    rintro x w8 ⟨rfl, hb8⟩
    have HB8 := Lib.hid (HB5.out.trans (hb8.mono HB5.out.size))
    clear hb8
    go_wp2_with fail
    go_ret
    exact ⟨rfl, HB8.out⟩
end Go.Proofs.Ythnajdccbkbknaa
