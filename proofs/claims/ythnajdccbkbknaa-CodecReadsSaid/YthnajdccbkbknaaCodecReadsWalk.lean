/- The walk of the statement CodecReads. -/
import Derived.Test.YthnajdccbkbknaaRefRead
set_option linter.unusedVariables false
namespace Go.Proofs.Ythnajdccbkbknaa
open Go.RowKit

theorem rd_zeros (b : List UInt8) (a f : Nat) (hf : f ≠ 0) (t : List V) : ∀ out, t.foldl (rdstep b) (out, a, f) = (out ++ t.map V.zero, a, f) := by
  induction t with
  | nil => intro out; simp
  | cons v t ih =>
    intro out
    have h : rdstep b (out, a, f) v = (out ++ [v.zero], a, f) := by
      unfold rdstep; simp only; rw [if_pos hf, rat1 _ _ _ hf, rerr1 _ hf]
    rw [List.foldl_cons, h, ih]
    simp
theorem stops_eq {b : List UInt8} {l : List V} {k a f : Nat} {out : List V} (h : Stops b l k a f out) : l.foldl (rdstep b) ([], 0, 0) = (out ++ (l.drop k).map V.zero, a, f) := by
  obtain ⟨h1, h2, h3, h4⟩ := h
  rcases h4 with ⟨rfl, rfl⟩ | ⟨hf, v, hv, h5⟩
  · rw [List.take_length] at h1; rw [h1]; simp
  · have hk : k < l.length := by
      rcases Nat.lt_or_ge k l.length with h | h
      · exact h
      · rw [List.getElem?_eq_none h] at hv; cases hv
    have hd : l.drop k = v :: l.drop (k + 1) := by
      rw [List.drop_eq_getElem_cons hk]
      rw [List.getElem?_eq_getElem hk] at hv
      injection hv with hv; rw [hv]
    have hl : l = l.take k ++ v :: l.drop (k + 1) := by rw [← hd, List.take_append_drop]
    have hs : rdstep b (out, a, 0) v = (out ++ [v.zero], a, f) := by
      unfold rdstep; simp only
      rw [rat0, rerr0, h5, if_pos hf, one_err v _ (by rw [h5]; exact hf)]; simp
    conv => lhs; rw [hl]
    rw [List.foldl_append, h1, List.foldl_cons, hs, rd_zeros b a f hf, hd]
    simp
theorem stops_len {b : List UInt8} {l : List V} {k a f : Nat} {out : List V} (h : Stops b l k a f out) (hok : ∀ v ∈ l, V.Ok v) (hb : b.length ≤ 1000000000) : out.length = k := by
  have h1 := (reads_ok b hb (l.take k) ([], 0, 0) (fun v hv => hok v (List.mem_of_mem_take hv)) (by simp)).2
  rw [h.1] at h1
  simp only [List.length_nil, Nat.zero_add, List.length_take] at h1
  have := h.2.2.1; omega

theorem failedR_any (w : World) (g : Nat) (v : Value) (l : List UInt8) (at_ e : Nat) (h : IsR w g v l at_ e) :
    Calls Try.prog 27 #[.pointer (some ⟨g, 0, none⟩)] w fun r w' => r = .returned (.tuple #[.int .i64 ((if e ≠ 0 then at_ else 0 : Nat) : Int), .int .i64 (e : Int)]) ∧ ∃ n, w' = w.drewN n := by
  by_cases he : e = 0
  · subst he
    rw [if_neg (by omega)]
    exact (failedR_ok w g v l at_ h).mono fun r w' h => ⟨h.1, 0, h.2.symm⟩
  · rw [if_pos he]
    exact failedR_err w g v l at_ e h he

set_option maxHeartbeats 4000000 in
set_option maxRecDepth 100000 in
theorem codecReads_walk (A : Option Addr) (b : List UInt8) (c : Nat) (B : Option Addr) (l : List V) (d : Nat) (w : World) (hr : RB w w.heap.size A b) (hl : b.length ≤ c) (hc : c ≤ maxLen) (hq : RV w w.heap.size B l) (hm : l.length ≤ d) (hd : d ≤ maxLen) (hok : ∀ v ∈ l, V.Ok v) :
    Calls Try.prog 6 #[.slice A b.length c, .slice B l.length d] w fun r w' => r = .returned (.bool true) ∧ Below w.heap.size w w' := by
  unfold maxLen at hc hd
  have HS := Lib.hid (short_any B l d w.drew hq (by omega) hok)
  have HK := Lib.hid (short_ok hok)
  have hln := short_len l
  obtain ⟨m, em⟩ : ∃ m, m = shortL l := ⟨_, rfl⟩
  rw [← em] at HS HK hln
  have hbm := hr.take 1000
  obtain ⟨x, ex⟩ : ∃ x, x = b.take 1000 := ⟨_, rfl⟩
  have hxl : x.length ≤ 1000 := by rw [ex, List.length_take]; omega
  have hlen : (min (b.length : Int) 1000).toNat = x.length := by rw [ex, List.length_take]; omega
  have hxc : x.length ≤ c := by rw [ex, List.length_take]; omega
  rw [← ex] at hbm
  have HL := Lib.hid hlen
  have HX := Lib.hid hbm
  have hq0 : RV w.drew w.heap.size B l := hq
  have hsi : min (b.length : Int) 1000 ≤ (c : Int) := by omega
  have hsi0 : (0 : Int) ≤ min (b.length : Int) 1000 := by omega
  clear em hok hq hr hbm ex hlen
  go_enter Try.func6, Try.ntmps6
  go_wp2_with fail
  go_region_held3 (fun _ => True) (trivial) (first | (go_at_call 18; refine HS.out.mono ?_; rintro x1 w1 ⟨v1, rfl, ho1, hb1⟩))
  all_goals
    rw [HL.out]
    obtain ⟨A1, c1, rfl, hr1, _, _⟩ := ho1.form
    have hb1' : Below w.heap.size w w1 := (Below.drew (Below.refl w.heap.size w)).trans hb1
    have HX1 := Lib.hid ((HX.out.below hb1').more (B' := w1.heap.size) hb1'.size)
    have HN := Lib.hid (newReader_any A x c w1 HX1.out (by omega))
    have HR1 := Lib.hid hr1
    have HB1 := Lib.hid hb1'
    clear ho1 hb1 hb1' hr1 HS hq0
    try go_wp2_with fail
    refine HN.out.mono ?_
    rintro y w2 ⟨g, v2, rfl, hi2, hf2, hb2⟩
    have HC2 := Lib.hid (lread_any g v2 x A1 m c1 w1.heap.size w2 hi2 (HR1.out.below hb2) hln hb2.size hf2 (by omega))
    have HX2 := Lib.hid (HX1.out.below hb2)
    have HB2 := Lib.hid (HB1.out.trans (hb2.mono HB1.out.size))
    have hg2 := hf2 g (.inl rfl)
    have hs1 := HB1.out.size
    have hs2 := hb2.size
    have HR2 := Lib.hid (HR1.out.below hb2)
    clear hi2 hf2 hb2 HN
    obtain ⟨st, es⟩ : ∃ st, st = m.foldl (rdstep x) ([], 0, 0) := ⟨_, rfl⟩
    have hrok := reads_ok x (by omega) m ([], 0, 0) HK.out (by simp)
    rw [← es] at HC2 hrok
    have HE := Lib.hid es
    obtain ⟨got, at_, e⟩ := st
    simp only [List.length_nil, Nat.zero_add] at HC2 hrok
    have HOk := Lib.hid hrok.1
    have hgl : got.length ≤ 40 := by rw [hrok.2]; exact hln
    clear hrok es
    go_wp2_with fail
    refine HC2.out.mono ?_
    rintro y w3 ⟨v3, rfl, ho3, hi3, hm3⟩
    obtain ⟨A3, c3, rfl, hr3, _, _⟩ := ho3.form
    have hb3 : Below w1.heap.size w2 w3 := hm3.below hs2 (fun k _ hk => by omega)
    have HX3 := Lib.hid ((HX2.out.below hb3).more (B' := w3.heap.size) (by have := hb3.size; omega))
    have HG3 := Lib.hid hr3
    have HB3 := Lib.hid (HB2.out.trans (hb3.mono hs1))
    have hal := hi3.2.2
    have HI3 := Lib.hid hi3
    have HM3 := Lib.hid ((HR2.out.below hb3).more (B' := w3.heap.size) (by have := hb3.size; omega))
    have HRd := Lib.hid (refRead_any A x c A1 m c1 w3 HX3.out HM3.out hxl hxc hln)
    clear ho3 hr3 hi3 hm3 hb3 hg2 HC2 HX2 HR2
    go_wp2_with fail
    refine HRd.out.mono ?_
    rintro y w4 ⟨k, a, f, out, v4, hst, rfl, ho4, hb4⟩
    obtain ⟨A4, c4, rfl, hr4, _, _⟩ := ho4.form
    have hlen := stops_len hst HK.out (by omega)
    have heq := stops_eq hst
    rw [← HE.out] at heq
    injection heq with hgot heq
    injection heq with hat hee
    subst hat
    subst hee
    have HGot := Lib.hid hgot
    have HOut := Lib.hid hlen
    have hkm := hst.2.2.1
    have HI4 := Lib.hid (HI3.out.mod (Mod.of_below hb4) (fun k hk hf => by have := HI3.out.foot_lt k hk; omega) : IsR w4 g v2 x at_ e)
    have HG4 := Lib.hid ((HG3.out.more (B' := w3.heap.size) (by omega)).below hb4)
    have HM4 := Lib.hid (HM3.out.below hb4)
    have HO4 := Lib.hid hr4
    have hb4s := hb4.size
    have HB4 := Lib.hid (HB3.out.trans (hb4.mono HB3.out.size))
    clear hst hlen hgot ho4 hb4 hr4 HRd HG3 HI3 HM3 HE
    obtain ⟨rest, hrest⟩ : ∃ rest : Int, rest = (x.length : Int) - (at_ : Int) := ⟨_, rfl⟩
    rw [← hrest]
    have HRe := Lib.hid hrest
    clear hrest
    obtain ⟨p, hp⟩ : ∃ p, p = (if e ≠ 0 then at_ else 0) := ⟨_, rfl⟩
    rw [← hp]
    have hFd : Calls Try.prog 27 #[.pointer (some ⟨g, 0, none⟩)] w4 fun r w' => r = .returned (.tuple #[.int .i64 (p : Int), .int .i64 (e : Int)]) ∧ ∃ n, w' = w4.drewN n := by
      by_cases he : e = 0
      · subst he
        rw [if_neg (by omega)] at hp
        subst hp
        exact (failedR_ok w4 g v2 x at_ HI4.out).mono fun r w' h => ⟨h.1, 0, h.2.symm⟩
      · rw [if_pos he] at hp
        subst hp
        exact failedR_err w4 g v2 x p e HI4.out he
    have HFd := Lib.hid hFd
    have HPp := Lib.hid hp
    clear hFd hp
    go_wp2_with fail
    refine HFd.out.mono ?_
    rintro y w5 ⟨rfl, n5, rfl⟩
    have hb5 : Below w4.heap.size w4 (w4.drewN n5) := below_drewN (Below.refl _ _) n5
    obtain ⟨W, hW⟩ : ∃ W, W = w4.drewN n5 := ⟨_, rfl⟩
    rw [← hW] at hb5 ⊢
    have HI5 := Lib.hid (HI4.out.mod (Mod.of_below hb5) (fun k hk hf => by have := HI4.out.foot_lt k hk; omega) : IsR W g v2 x at_ e)
    have HG5 := Lib.hid (((HG4.out.more (B' := w4.heap.size) hb4s).below hb5).more hb5.size)
    have HM5 := Lib.hid (((HM4.out.more (B' := w4.heap.size) hb4s).below hb5).more hb5.size)
    have HO5 := Lib.hid ((HO4.out.below hb5).more hb5.size)
    have HB5 := Lib.hid (HB4.out.trans (hb5.mono HB4.out.size))
    have HRt := Lib.hid (restR_any W g v2 x at_ e HI5.out (by omega))
    rw [← HRe.out] at HRt
    clear hW hb5 HFd HI4 HG4 HM4 HO4
    go_wp2_with fail
    refine HRt.out.mono ?_
    rintro y w6 ⟨rfl, n6, rfl⟩
    have hb6 : Below W.heap.size W (W.drewN n6) := below_drewN (Below.refl _ _) n6
    obtain ⟨w7, hW7⟩ : ∃ w7, w7 = W.drewN n6 := ⟨_, rfl⟩
    rw [← hW7] at hb6 ⊢
    have HI7 := Lib.hid (HI5.out.mod (Mod.of_below hb6) (fun k hk hf => by have := HI5.out.foot_lt k hk; omega) : IsR w7 g v2 x at_ e)
    have HG7 := Lib.hid ((HG5.out.below hb6).more hb6.size)
    have HM7 := Lib.hid ((HM5.out.below hb6).more hb6.size)
    have HO7 := Lib.hid ((HO5.out.below hb6).more hb6.size)
    have HB7 := Lib.hid (HB5.out.trans (hb6.mono HB5.out.size))
    clear hW7 hb6 HRt HI5 HG5 HM5 HO5
    go_wp2_with fail
    go_loopw [13] (fun i wr => ∃ j : Nat, j ≤ got.length ∧ i = .int .i64 j ∧ Below w7.heap.size w7 wr) (fun i _ => got.length - (intOf i).toNat)
    case atStart => exact ⟨0, by omega, rfl, Below.refl _ _⟩
    case round =>
      obtain ⟨j, hj, rfl, hbr⟩ := hrel
      have HBr := Lib.hid hbr
      have hbrs := hbr.size
      clear hbr
      have hgl : got.length = m.length := by
        have h1 := HGot.out; have h2 := HOut.out
        rw [h1, List.length_append, List.length_map, List.length_drop, h2]; omega
      by_cases hlt : j < got.length
      · have hjm : j < m.length := by omega
        obtain ⟨bm, om, v, rfl, hbm, hv, h0, h1, h2, h3, h4⟩ := (HM7.out.below HBr.out).at_ hjm
        obtain ⟨bg, og, y, rfl, hbg, hy, y0, y1, y2, y3, y4⟩ := (HG7.out.below HBr.out).at_ hlt
        have HV := Lib.hid hv
        have HYy := Lib.hid hy
        have HGL := Lib.hid hgl
        have hbmr : bm < wr.heap.size := by omega
        have hbgr : bg < wr.heap.size := by omega
        have a0 : ∀ o, (wr.alloc o).cell? ⟨bm, om + j * 5, none⟩ = some (.int .u8 (v.kind.toNat : Int)) := fun o => (World.cell?_alloc_lt wr o _ hbmr).trans h0
        have a4 : ∀ o, (wr.alloc o).cell? ⟨bm, om + j * 5 + 4, none⟩ = some (.int .i64 v.most) := fun o => (World.cell?_alloc_lt wr o _ hbmr).trans h4
        by_cases hjk : j < k
        · obtain ⟨bo, oo, z, rfl, hbo, hz, z0, z1, z2, z3, z4⟩ := (HO7.out.below HBr.out).at_ (l := out) (k := j) (by have := HOut.out; omega)
          have hyz : y = z := by
            rw [HGot.out, List.getElem?_append_left (by have := HOut.out; omega), hz] at hy
            injection hy with hy; exact hy.symm
          subst hyz
          have hjo : j < out.length := by have := HOut.out; omega
          have hbor : bo < wr.heap.size := by omega
          have b0 : ∀ o, (wr.alloc o).cell? ⟨bg, og + j * 5, none⟩ = some (.int .u8 (y.kind.toNat : Int)) := fun o => (World.cell?_alloc_lt wr o _ hbgr).trans y0
          have b1 : ∀ o, (wr.alloc o).cell? ⟨bg, og + j * 5 + 1, none⟩ = some (.int .i64 y.n) := fun o => (World.cell?_alloc_lt wr o _ hbgr).trans y1
          have b2 : ∀ o, (wr.alloc o).cell? ⟨bg, og + j * 5 + 2, none⟩ = some (.bool y.is) := fun o => (World.cell?_alloc_lt wr o _ hbgr).trans y2
          have b3 : ∀ o, (wr.alloc o).cell? ⟨bg, og + j * 5 + 3, none⟩ = some (.string y.s) := fun o => (World.cell?_alloc_lt wr o _ hbgr).trans y3
          have b4 : ∀ o, (wr.alloc o).cell? ⟨bg, og + j * 5 + 4, none⟩ = some (.int .i64 y.most) := fun o => (World.cell?_alloc_lt wr o _ hbgr).trans y4
          clear y0 y1 y2 y3 y4
          clear hv hy hz hgl
          go_wp2_with fail
          go_region
          go_wp2_with fail
          go_quiet (fail)
          go_wp2
          go_roundw
          case rel => exact ⟨j + 1, by omega, by go_num, below_drewN (HBr.out.alloc hbrs _) _⟩
          case measure => simp [intOf] <;> omega
        · have hyz : y = v.zero := by
            rw [HGot.out, List.getElem?_append_right (by have := HOut.out; omega), HOut.out, List.getElem?_map, List.getElem?_drop, show k + (j - k) = j by omega, hv] at hy
            injection hy with hy; exact hy.symm
          subst hyz
          have hjo : ¬ j < out.length := by have := HOut.out; omega
          simp only [V.zero] at y0 y1 y2 y3 y4
          have b0 : ∀ o, (wr.alloc o).cell? ⟨bg, og + j * 5, none⟩ = some (.int .u8 (v.kind.toNat : Int)) := fun o => (World.cell?_alloc_lt wr o _ hbgr).trans y0
          have b1 : ∀ o, (wr.alloc o).cell? ⟨bg, og + j * 5 + 1, none⟩ = some (.int .i64 0) := fun o => (World.cell?_alloc_lt wr o _ hbgr).trans y1
          have b2 : ∀ o, (wr.alloc o).cell? ⟨bg, og + j * 5 + 2, none⟩ = some (.bool false) := fun o => (World.cell?_alloc_lt wr o _ hbgr).trans y2
          have b3 : ∀ o, (wr.alloc o).cell? ⟨bg, og + j * 5 + 3, none⟩ = some (.string ⟨#[]⟩) := fun o => (World.cell?_alloc_lt wr o _ hbgr).trans y3
          have b4 : ∀ o, (wr.alloc o).cell? ⟨bg, og + j * 5 + 4, none⟩ = some (.int .i64 v.most) := fun o => (World.cell?_alloc_lt wr o _ hbgr).trans y4
          clear y0 y1 y2 y3 y4
          clear hv hy hgl
          go_wp2_with fail
          go_region
          go_wp2_with fail
          go_quiet (fail)
          go_wp2
          go_roundw
          case rel => exact ⟨j + 1, by omega, by go_num, below_drewN (HBr.out.alloc hbrs _) _⟩
          case measure => simp [intOf] <;> omega
      · have HI8 := Lib.hid (HI7.out.mod (Mod.of_below HBr.out) (fun k hk hf => by have := HI7.out.foot_lt k hk; omega) : IsR wr g v2 x at_ e)
        have HB8 := Lib.hid (HB7.out.trans (HBr.out.mono HB7.out.size))
        have HCl := Lib.hid (closeR_any wr g v2 x at_ e HI8.out (by omega))
        obtain ⟨q, hq⟩ : ∃ q, q = (if e ≠ 0 then e else if at_ < x.length then 5 else 0) := ⟨_, rfl⟩
        rw [← hq] at HCl
        have HQq := Lib.hid hq
        have hal8 := HI8.out.2.2
        clear hq hgl hj
        go_wp2_with fail
        refine HCl.out.mono ?_
        rintro y w9 ⟨rfl, n9, rfl⟩
        have hb9 : Below wr.heap.size wr (wr.drewN n9) := below_drewN (Below.refl _ _) n9
        obtain ⟨w9, hW9⟩ : ∃ w9, w9 = wr.drewN n9 := ⟨_, rfl⟩
        rw [← hW9] at hb9 ⊢
        have HI9 := Lib.hid (HI8.out.mod (Mod.of_below hb9) (fun k hk hf => by have := HI8.out.foot_lt k hk; omega) : IsR w9 g v2 x at_ e)
        have HFl := Lib.hid (failedR_any w9 g v2 x at_ e HI9.out)
        rw [← HPp.out] at HFl
        have HB9 := Lib.hid (HB8.out.trans (hb9.mono HB8.out.size))
        clear hW9 hb9 HCl HI8
        go_wp2_with fail
        refine HFl.out.mono ?_
        rintro y w10 ⟨rfl, n10, rfl⟩
        have hb10 : Below w9.heap.size w9 (w9.drewN n10) := below_drewN (Below.refl _ _) n10
        obtain ⟨w10, hW10⟩ : ∃ w10, w10 = w9.drewN n10 := ⟨_, rfl⟩
        rw [← hW10] at hb10 ⊢
        have HB10 := Lib.hid (HB9.out.trans (hb10.mono HB9.out.size))
        clear hW10 hb10 HFl HI9
        have hp1 := HPp.out
        have hq1 := HQq.out
        have hr1 := HRe.out
        by_cases he : e = 0
        · subst he
          rw [if_neg (by omega)] at hp1 hq1
          subst hp1
          by_cases hat : at_ < x.length
          · rw [if_pos hat] at hq1
            subst hq1
            have hr2 : (0 : Int) < rest := by omega
            have hr3 := Lib.hid hr1
            clear hr1
            go_wp2_with fail
            refine (known_any w10).mono ?_
            rintro y w11 ⟨rfl, hb11⟩
            have HB11 := Lib.hid (HB10.out.trans (hb11.mono HB10.out.size))
            clear hb11
            go_wp2_with fail
            go_ret
            exact ⟨rfl, HB11.out⟩
          · rw [if_neg hat] at hq1
            subst hq1
            have hr2 : rest = 0 := by omega
            subst hr2
            clear hr1
            go_wp2_with fail
            refine (known_any w10).mono ?_
            rintro y w11 ⟨rfl, hb11⟩
            have HB11 := Lib.hid (HB10.out.trans (hb11.mono HB10.out.size))
            clear hb11
            go_wp2_with fail
            go_ret
            exact ⟨rfl, HB11.out⟩
        · rw [if_pos he] at hq1
          subst hq1
          have he1 : ((q : Int) == 0) = false := by simp; omega
          clear he hp1 hr1
          go_wp2_with fail
          refine (known_any w10).mono ?_
          rintro y w11 ⟨rfl, hb11⟩
          have HB11 := Lib.hid (HB10.out.trans (hb11.mono HB10.out.size))
          clear hb11
          go_wp2_with fail
          go_ret
          exact ⟨rfl, HB11.out⟩
end Go.Proofs.Ythnajdccbkbknaa
