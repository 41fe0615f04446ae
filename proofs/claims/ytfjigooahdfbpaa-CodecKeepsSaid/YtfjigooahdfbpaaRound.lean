/- The walk of the statement CodecRoundTrip. -/
import Derived.Test.YtfjigooahdfbpaaMost
import Derived.BigQuiet
set_option linter.unusedVariables false
namespace Go.Proofs.Ytfjigooahdfbpaa
open Go.RowKit

theorem encv_lim (v : V) : encv v.lim = encv v := rfl
theorem encs_lim (l : List V) : encs (l.map V.lim) = encs l := by
  unfold encs; rw [List.flatMap_map]; rfl
theorem lim_ok {v : V} (h : v.Ok) : v.lim.Ok := by
  refine ⟨h.n0, h.n1, ?_, ?_, h.s1⟩ <;> (unfold V.lim; simp only; have := h.n0; have := h.n1; have := h.s1; split <;> omega)
theorem lims_ok {l : List V} (h : ∀ v ∈ l, V.Ok v) : ∀ v ∈ l.map V.lim, V.Ok v := fun v hv => by
  obtain ⟨x, hx, rfl⟩ := List.mem_map.1 hv
  exact lim_ok (h x hx)
/-- What writing has written, if it has no error, and what reading it again reads. -/
theorem round_plain (l : List V) (hok : ∀ v ∈ l, V.Ok v) (L : List UInt8) (h : (L, 0) = (l.map V.lim).foldl wstep ([], 0)) :
    (l.map V.lim).foldl (rdstep L) ([], 0, 0) = (l.map fun v => v.lim.norm, L.length, 0) := by
  have hc : ∀ v ∈ l, can v := fun v hv => by
    have := can_of_foldl (l.map V.lim) [] (by rw [← h]) v.lim (List.mem_map_of_mem hv)
    exact this
  have h1 := foldl_can (l.map V.lim) [] (fun v hv => by obtain ⟨x, hx, rfl⟩ := List.mem_map.1 hv; exact hc x hx)
  rw [← h, List.nil_append, encs_lim] at h1
  injection h1 with h1 _
  have h2 := foldl_read l [] [] [] hc hok
  simp only [List.nil_append, List.append_nil, List.length_nil, Nat.zero_add] at h2
  rw [h1]; exact h2

set_option maxHeartbeats 2000000 in
set_option maxRecDepth 100000 in
theorem codecRoundTrip_walk (A : Option Addr) (l : List V) (c : Nat) (w : World) (hr : RV w w.heap.size A l) (hl : l.length ≤ c) (hc : c ≤ maxLen) (hok : ∀ v ∈ l, V.Ok v) :
    Calls Try.prog 7 #[.slice A l.length c] w fun r w' => r = .returned (.bool true) ∧ Below w.heap.size w w' := by
  have HS := Lib.hid (short_any A l c w hr (by unfold maxLen at hc; omega) hok)
  have HK0 := Lib.hid (short_ok hok)
  have hln := short_len l
  obtain ⟨m0, hm⟩ : ∃ m0, m0 = shortL l := ⟨_, rfl⟩
  rw [← hm] at HS HK0 hln
  clear hm hr hok
  go_enter Try.func7, Try.ntmps7
  go_wp2_with fail
  refine HS.out.mono ?_
  rintro x w1 ⟨v1, rfl, ho1, hb1⟩
  obtain ⟨A1, c1, rfl, hr1, _, _⟩ := ho1.form
  have HM := Lib.hid (most_any A1 m0 c1 _ w1 hr1 (Nat.le_refl _) hln HK0.out)
  have HB1 := Lib.hid hb1
  clear ho1 hb1 hr1 HS
  go_wp2_with fail
  refine HM.out.mono ?_
  rintro x w2 ⟨v2, rfl, ho2, hb2⟩
  have HK := Lib.hid (lims_ok HK0.out)
  obtain ⟨m, hm⟩ : ∃ m, m = m0.map V.lim := ⟨_, rfl⟩
  rw [← hm] at HK ho2
  have hmln : m.length ≤ 40 := by rw [hm, List.length_map]; exact hln
  obtain ⟨A2, c2, rfl, hr2, _, _⟩ := ho2.form
  have HMm := Lib.hid hm
  have HB2 := Lib.hid (HB1.out.trans (hb2.mono HB1.out.size))
  have HR2 := Lib.hid hr2
  clear hm ho2 hb2 hr2 HM HB1
  go_wp2_with fail
  refine (newWriter_any w2).mono ?_
  rintro x w3 ⟨rfl, hw3, hb3⟩
  obtain ⟨g, hg⟩ : ∃ g, g = w2.heap.size := ⟨_, rfl⟩
  have hr3 := HR2.out.below hb3
  have hg3 := hb3.size
  rw [← hg] at hw3 hb3 hr3 hg3 ⊢
  have HC := Lib.hid (write_any g _ ([], 0) A2 m c2 g w3 hw3 hr3 hmln HK.out hg3 (fun k hk => by rcases hk with rfl | hk; exact Nat.le_refl _; simp [Value.ownBlock] at hk) (by simp))
  have HB3 := Lib.hid (HB2.out.trans (hb3.mono (by rw [hg]; exact HB2.out.size)))
  have hg0 : w.heap.size ≤ g := by rw [hg]; exact HB2.out.size
  have HR3 := Lib.hid hr3
  clear hg hw3 hb3 hr3 HB2 HR2
  go_wp2_with fail
  refine HC.out.mono ?_
  rintro x w4 ⟨rfl, v4, hw4, hm4, hn4⟩
  have hb4 : Below g w3 w4 := hm4.below (by omega) (fun k _ hk => by rcases hk with rfl | hk; exact Nat.le_refl _; simp [Value.ownBlock] at hk)
  have hr4 := HR3.out.below hb4
  have hs4 := hb4.size
  have HB4 := Lib.hid (HB3.out.trans (hb4.mono hg0))
  obtain ⟨s, hs⟩ : ∃ s, s = m.foldl wstep ([], 0) := ⟨_, rfl⟩
  have hsl : s.1.length ≤ 1000000000 := by
    rw [hs]
    have := foldl_len m ([], 0) HK.out
    simp only [List.length_nil] at this; omega
  rw [← hs] at hw4
  have HSS := Lib.hid hs
  obtain ⟨L, e⟩ := s
  simp only at hw4 hsl
  have HW4 := Lib.hid hw4
  have HR4 := Lib.hid hr4
  clear hw4 hm4 hn4 hb4 hr4 hs HC
  by_cases he : e = 0
  · subst he
    have HP := Lib.hid (round_plain m0 HK0.out L (by rw [← HMm.out]; exact HSS.out))
    rw [← HMm.out] at HP
    have HB := Lib.hid (bytesW_any w4 g v4 L HW4.out (by omega))
    go_wp2_with fail
    refine HB.out.mono ?_
    rintro x w5 ⟨v5, rfl, ho5, hb5⟩
    obtain ⟨A5, c5, rfl, hr5, _, _⟩ := ho5.form
    have HN := Lib.hid (newReader_any A5 L c5 w5 hr5 (by omega))
    have HR5 := Lib.hid (((HR4.out.more (B' := w4.heap.size) (by omega)).below hb5).more hb5.size)
    have HB5 := Lib.hid (HB4.out.trans (hb5.mono HB4.out.size))
    clear ho5 hb5 hr5 HB
    go_wp2_with fail
    refine HN.out.mono ?_
    rintro x w6 ⟨g6, v6, rfl, hi6, hf6, hb6⟩
    have HC6 := Lib.hid (lread_any g6 v6 L A2 m c2 w5.heap.size w6 hi6 (HR5.out.below hb6) hmln hb6.size hf6 hsl)
    rw [HP.out] at HC6
    have HB6 := Lib.hid (HB5.out.trans (hb6.mono HB5.out.size))
    have HR6 := Lib.hid (HR5.out.below hb6)
    have hg6 := hf6 g6 (.inl rfl)
    have hs5 := HB5.out.size
    have hs6 := hb6.size
    clear hi6 hf6 hb6 HN
    go_wp2_with fail
    refine HC6.out.mono ?_
    rintro x w7 ⟨v7, rfl, ho7, hi7, hm7⟩
    obtain ⟨A7, c7, rfl, hr7, _, _⟩ := ho7.form
    have hb7 : Below w5.heap.size w6 w7 := hm7.below hs6 (fun k _ hk => by omega)
    have HB7 := Lib.hid (HB6.out.trans (hb7.mono hs5))
    have HR7 := Lib.hid ((HR6.out.below hb7).more (B' := w7.heap.size) (by have := hb7.size; omega))
    have HG7 := Lib.hid (hr7.more (B' := w7.heap.size) (by have := hm7.size; omega))
    have HI7 := Lib.hid hi7
    have HLen := Lib.hid (show (m0.map fun v => v.lim.norm).length = m.length by rw [HMm.out, List.length_map, List.length_map])
    clear ho7 hi7 hm7 hr7 hb7 HC6 hg6
    obtain ⟨got, hgot⟩ : ∃ got, got = (m0.map fun v => v.lim.norm) := ⟨_, rfl⟩
    rw [← hgot] at HG7 HLen ⊢
    have HGt := Lib.hid hgot
    clear hgot
    go_wp2_with fail
    go_loopw [8] (fun i wr => ∃ k : Nat, k ≤ m.length ∧ i = .int .i64 k ∧ Below w7.heap.size w7 wr) (fun i _ => m.length - (intOf i).toNat)
    case atStart => exact ⟨0, by omega, rfl, Below.refl _ _⟩
    case round =>
      obtain ⟨k, hk, rfl, hbr⟩ := hrel
      have HBr := Lib.hid hbr
      clear hbr
      by_cases hlt : k < m.length
      · obtain ⟨b, off, v, rfl, hbb, hv, h0, h1, h2, h3, h4⟩ := (HR7.out.below HBr.out).at_ hlt
        obtain ⟨b', off', x, rfl, hbb', hx', y0, y1, y2, y3, y4⟩ := (HG7.out.below HBr.out).at_ (l := got) (k := k) (by have := HLen.out; omega)
        obtain ⟨u, hu⟩ : ∃ u, m0[k]? = some u := ⟨_, List.getElem?_eq_getElem (by have := hlt; rw [HMm.out, List.length_map] at this; exact this)⟩
        have hvu : v = u.lim := by rw [HMm.out, List.getElem?_map, hu] at hv; injection hv with hv; exact hv.symm
        have hxu : x = u.lim.norm := by rw [HGt.out, List.getElem?_map, hu] at hx'; injection hx' with hx'; exact hx'.symm
        have hqu : v.kind = u.kind := by rw [hvu]; rfl
        have hkb := v.kind.toNat_lt
        have hkg : k < got.length := by have := HLen.out; omega
        clear hv hx' hu
        rcases (by omega : v.kind.toNat % 4 = 0 ∨ v.kind.toNat % 4 = 1 ∨ v.kind.toNat % 4 = 2 ∨ v.kind.toNat % 4 = 3) with hq | hq | hq | hq <;> rw [hqu] at hq
        · have hx : x = ⟨v.kind, v.n, false, ⟨#[]⟩, v.most⟩ := by rw [hxu, hvu]; exact norm0 u hq
          have hq2 := hq
          rw [← hqu] at hq2
          have t1 : decide ((v.kind.toNat : Int) % 4 ≤ 1) = true := by simp; omega
          have t2 : ((v.kind.toNat : Int) % 4 == 2) = false := by simp; omega
          have t3 : ((v.kind.toNat : Int) % 4 == 3) = false := by simp; omega
          rw [hx] at y0 y1 y2 y3
          simp only at y0 y1 y2 y3
          clear y4 hxu hvu hq hq2 hx hqu x u
          go_wp2_with fail
          simp only [List.append_eq, List.cons_append, List.nil_append]
          go_quiet (fail)
          go_wp2
          go_roundw
          case rel => exact ⟨k + 1, by omega, by go_num, below_drewN HBr.out _⟩
          case measure => simp [intOf] <;> omega
        · have hx : x = ⟨v.kind, v.n, false, ⟨#[]⟩, v.most⟩ := by rw [hxu, hvu]; exact norm1 u hq
          have hq2 := hq
          rw [← hqu] at hq2
          have t1 : decide ((v.kind.toNat : Int) % 4 ≤ 1) = true := by simp; omega
          have t2 : ((v.kind.toNat : Int) % 4 == 2) = false := by simp; omega
          have t3 : ((v.kind.toNat : Int) % 4 == 3) = false := by simp; omega
          rw [hx] at y0 y1 y2 y3
          simp only at y0 y1 y2 y3
          clear y4 hxu hvu hq hq2 hx hqu x u
          go_wp2_with fail
          simp only [List.append_eq, List.cons_append, List.nil_append]
          go_quiet (fail)
          go_wp2
          go_roundw
          case rel => exact ⟨k + 1, by omega, by go_num, below_drewN HBr.out _⟩
          case measure => simp [intOf] <;> omega
        · have hx : x = ⟨v.kind, 0, v.is, ⟨#[]⟩, v.most⟩ := by rw [hxu, hvu]; exact norm2 u hq
          have hq2 := hq
          rw [← hqu] at hq2
          have t1 : decide ((v.kind.toNat : Int) % 4 ≤ 1) = false := by simp; omega
          have t2 : ((v.kind.toNat : Int) % 4 == 2) = true := by simp; omega
          have t3 : ((v.kind.toNat : Int) % 4 == 3) = false := by simp; omega
          rw [hx] at y0 y1 y2 y3
          simp only at y0 y1 y2 y3
          clear y4 hxu hvu hq hq2 hx hqu x u
          go_wp2_with fail
          simp only [List.append_eq, List.cons_append, List.nil_append]
          go_quiet (fail)
          go_wp2
          go_roundw
          case rel => exact ⟨k + 1, by omega, by go_num, below_drewN HBr.out _⟩
          case measure => simp [intOf] <;> omega
        · have hx : x = ⟨v.kind, 0, false, v.s, v.most⟩ := by rw [hxu, hvu]; exact norm3 u hq
          have hq2 := hq
          rw [← hqu] at hq2
          have t1 : decide ((v.kind.toNat : Int) % 4 ≤ 1) = false := by simp; omega
          have t2 : ((v.kind.toNat : Int) % 4 == 2) = false := by simp; omega
          have t3 : ((v.kind.toNat : Int) % 4 == 3) = true := by simp; omega
          rw [hx] at y0 y1 y2 y3
          simp only at y0 y1 y2 y3
          clear y4 hxu hvu hq hq2 hx hqu x u
          go_wp2_with fail
          simp only [List.append_eq, List.cons_append, List.nil_append]
          go_quiet (fail)
          go_wp2
          go_roundw
          case rel => exact ⟨k + 1, by omega, by go_num, below_drewN HBr.out _⟩
          case measure => simp [intOf] <;> omega
      · have hng : ¬ k < m.length := hlt
        have hi7 : IsR wr g6 v6 L L.length 0 := HI7.out.mod (Mod.of_below HBr.out) (fun k hk hf => by have := HI7.out.foot_lt k hk; omega)
        have HI := Lib.hid hi7
        have HB8 := Lib.hid (HB7.out.trans (HBr.out.mono HB7.out.size))
        clear hi7
        go_wp2_with fail
        refine (known_any wr).mono ?_
        rintro x w8 ⟨rfl, hb8⟩
        have hi8 : IsR w8 g6 v6 L L.length 0 := HI.out.mod (Mod.of_below hb8) (fun k hk hf => by have := HI.out.foot_lt k hk; omega)
        have HCl := Lib.hid (closeR_any w8 g6 v6 L L.length 0 hi8 (by omega))
        rw [if_neg (by omega), if_neg (by omega)] at HCl
        have HI8 := Lib.hid hi8
        have HB9 := Lib.hid (HB8.out.trans (hb8.mono HB8.out.size))
        clear hb8 hi8
        go_wp2_with fail
        refine HCl.out.mono ?_
        rintro x w9 ⟨rfl, n, rfl⟩
        have HRs := Lib.hid (restR_any (w8.drewN n) g6 v6 L L.length 0 (HI8.out.mod (S := fun _ => False) ((Mod.refl w8 _).drewN n) (fun _ _ h => h)) (by omega))
        rw [show (L.length : Int) - (L.length : Int) = 0 by omega] at HRs
        go_wp2_with fail
        refine HRs.out.mono ?_
        rintro x w10 ⟨rfl, n2, rfl⟩
        go_wp2_with fail
        go_ret
        exact ⟨rfl, by first | exact below_drewN (below_drewN HB9.out _) _ | exact below_drewN HB9.out _ | exact HB9.out⟩
  · have HB := Lib.hid (bytesW_err w4 g v4 L e HW4.out he)
    have he1 : ((e : Int) != 0) = true := by simp; omega
    clear he
    go_wp2_with fail
    refine HB.out.mono ?_
    rintro x w5 ⟨rfl, hb5⟩
    have HB5 := Lib.hid (HB4.out.trans (hb5.mono HB4.out.size))
    clear hb5 HB
    go_wp2_with fail
    refine (known_any w5).mono ?_
    rintro x w8 ⟨rfl, hb8⟩
    have HB8 := Lib.hid (HB5.out.trans (hb8.mono HB5.out.size))
    clear hb8
    go_wp2_with fail
    go_ret
    exact ⟨rfl, HB8.out⟩
end Go.Proofs.Ytfjigooahdfbpaa
