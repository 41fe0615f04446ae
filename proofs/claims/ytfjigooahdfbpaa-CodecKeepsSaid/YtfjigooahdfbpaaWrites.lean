/- The walk of the statement CodecWrites. -/
import Derived.Test.YtfjigooahdfbpaaRefs
import Derived.Test.YtfjigooahdfbpaaNumLaws
set_option linter.unusedVariables false
namespace Go.Proofs.Ytfjigooahdfbpaa
open Go.RowKit

theorem hbb6_trans {a b c : World} (h : Below a.heap.size a b) (k : Below b.heap.size b c) : Below a.heap.size a c := h.trans (k.mono h.size)

theorem V.cut_ok {v : V} (h : v.Ok) : v.cut.Ok := ⟨h.n0, h.n1, h.m0, h.m1, by simp only [V.cut, ByteArray.size_extract]; have := h.s1; omega⟩
theorem short_ok {l : List V} (h : ∀ v ∈ l, V.Ok v) : ∀ v ∈ shortL l, V.Ok v := fun v hv => by
  obtain ⟨x, hx, rfl⟩ := List.mem_map.1 (List.mem_of_mem_take hv)
  exact V.cut_ok (h x hx)
theorem short_len (l : List V) : (shortL l).length ≤ 40 := by rw [shortL, List.length_take]; omega

theorem foldl_len (l : List V) : ∀ s : List UInt8 × Nat, (∀ v ∈ l, V.Ok v) → (l.foldl wstep s).1.length ≤ s.1.length + l.length * 16777300 := by
  induction l with
  | nil => intro s _; simp
  | cons v r ih =>
    intro s h
    have h1 := ih (wstep s v) (fun x hx => h x (List.mem_cons_of_mem _ hx))
    have h2 := wstep_le s v (h v (List.mem_cons_self ..))
    simp only [List.foldl_cons, List.length_cons]; omega

set_option maxHeartbeats 2000000 in
set_option maxRecDepth 100000 in
theorem codecWrites_walk (A : Option Addr) (l : List V) (c : Nat) (w : World) (hr : RV w w.heap.size A l) (hl : l.length ≤ c) (hc : c ≤ maxLen) (hok : ∀ v ∈ l, V.Ok v) :
    Calls Try.prog 5 #[.slice A l.length c] w fun r w' => r = .returned (.bool true) ∧ Below w.heap.size w w' := by
  have HS := Lib.hid (short_any A l c w hr (by unfold maxLen at hc; omega) hok)
  have HK := Lib.hid (short_ok hok)
  have hln := short_len l
  obtain ⟨m, hm⟩ : ∃ m, m = shortL l := ⟨_, rfl⟩
  rw [← hm] at HS HK hln
  clear hm hr hok
  go_enter Try.func5, Try.ntmps5
  go_wp2_with fail
  refine HS.out.mono ?_
  rintro x w1 ⟨v1, rfl, ho1, hb1⟩
  obtain ⟨A1, c1, rfl, hr1, _, _⟩ := ho1.form
  have HB1 := Lib.hid hb1
  have HR1 := Lib.hid hr1
  clear ho1 hb1 hr1 HS
  go_wp2_with fail
  refine (newWriter_any w1).mono ?_
  rintro x w2 ⟨rfl, hw2, hb2⟩
  obtain ⟨g, hg⟩ : ∃ g, g = w1.heap.size := ⟨_, rfl⟩
  rw [← hg] at hw2 hb2 ⊢
  have HG := Lib.hid hg
  have HW2 := Lib.hid hw2
  have HB2 := Lib.hid hb2
  clear hg hw2 hb2
  go_wp2_with fail
  obtain ⟨g2, hg2⟩ : ∃ g2, g2 = w2.heap.size := ⟨_, rfl⟩
  have hsz2 : (w2.alloc (.cells #[.slice none 0 0, .int .i64 0] 41)).heap.size = g2 + 1 := by rw [hg2]; simp
  have hgg : g < g2 := by rw [hg2]; exact HW2.out.1.lt
  have ha2 : Below g w2 (w2.alloc (.cells #[.slice none 0 0, .int .i64 0] 41)) := (below_alloc w2 _).mono (by omega)
  have hwg : IsW (w2.alloc (.cells #[.slice none 0 0, .int .i64 0] 41)) g (.slice none 0 0) [] 0 := ⟨HW2.out.1.alloc _, OB.nil _ _ _⟩
  have hwz : IsW (w2.alloc (.cells #[.slice none 0 0, .int .i64 0] 41)) g2 (.slice none 0 0) [] 0 := ⟨by rw [hg2]; exact Blk.new _ _ _, OB.nil _ _ _⟩
  have hnil : ∀ (h k : Nat), wfoot h (.slice none 0 0) k → k = h := by rintro h k (rfl | hk); rfl; simp [Value.ownBlock] at hk
  have hr2 : RV (w2.alloc (.cells #[.slice none 0 0, .int .i64 0] 41)) g A1 m := by
    have h := HR1.out; rw [← HG.out] at h; exact (h.below HB2.out).below ha2
  have hb02 : Below w.heap.size w (w2.alloc (.cells #[.slice none 0 0, .int .i64 0] 41)) := HB1.out.trans ((HB2.out.trans ha2).mono (by rw [HG.out]; exact HB1.out.size))
  have hg0 : w.heap.size ≤ g := by rw [HG.out]; exact HB1.out.size
  rw [← hg2]
  obtain ⟨W2, hW2⟩ : ∃ W2, W2 = w2.alloc (.cells #[.slice none 0 0, .int .i64 0] 41) := ⟨_, rfl⟩
  rw [← hW2] at hsz2 ha2 hwg hwz hr2 hb02 ⊢
  clear hW2 hg2 ha2
  have HC := Lib.hid (write_any g _ ([], 0) A1 m c1 g W2 hwg hr2 hln HK.out (by omega) (fun k hk => by rw [hnil g k hk]; exact Nat.le_refl _) (by simp))
  have HWZ := Lib.hid hwz
  have HR2 := Lib.hid hr2
  have HB02 := Lib.hid hb02
  have HNIL := Lib.hid hnil
  clear hwg hwz hr2 hb02 hnil
  refine HC.out.mono ?_
  rintro x w3 ⟨rfl, v3, hw3, hm3, hn3⟩
  have hb3 : Below g W2 w3 := hm3.below (by omega) (fun k _ hk => by rw [HNIL.out g k hk]; exact Nat.le_refl _)
  have hz3 : IsW w3 g2 (.slice none 0 0) [] 0 := HWZ.out.mod hm3 (fun k hk hf => by have := HNIL.out g2 k hk; have := HNIL.out g k hf; omega)
  have hr3 := HR2.out.below hb3
  have HC3 := Lib.hid (write_any g2 _ ([], 0) A1 m c1 g w3 hz3 hr3 hln HK.out (by have := hb3.size; omega) (fun k hk => by rw [HNIL.out g2 k hk]; omega) (by simp))
  have hv3 : ∀ k, v3.ownBlock = some k → g2 < k := fun k hk => by
    rcases hn3 with e | ⟨j, e, hj⟩ <;> rw [hk] at e
    · simp [Value.ownBlock] at e
    · injection e with e; omega
  have hs3 := hb3.size
  have HW3 := Lib.hid hw3
  have HV3 := Lib.hid hv3
  have HB3 := Lib.hid (HB02.out.trans (hb3.mono hg0))
  have HR3 := Lib.hid hr3
  clear hw3 hm3 hn3 hb3 hz3 hr3 hv3 HC
  go_wp2_with fail
  refine HC3.out.mono ?_
  rintro x w4 ⟨rfl, v4, hz4, hm4, hn4⟩
  have hb4 : Below g w3 w4 := hm4.below (by omega) (fun k _ hk => by rw [HNIL.out g2 k hk]; omega)
  have hw4 : IsW w4 g v3 _ _ := HW3.out.mod hm4 (fun k hk hf => by
    have h1 := HNIL.out g2 k hf
    rcases hk with rfl | hk
    · omega
    · have := HV3.out k hk; omega)
  have hr4 := HR3.out.below hb4
  have hs4 := hb4.size
  have HB4 := Lib.hid (HB3.out.trans (hb4.mono hg0))
  obtain ⟨s, hs⟩ : ∃ s, s = m.foldl wstep ([], 0) := ⟨_, rfl⟩
  have hsl : s.1.length ≤ 140737488355328 := by
    rw [hs]
    have := foldl_len m ([], 0) HK.out
    simp only [List.length_nil] at this; omega
  rw [← hs] at hw4 hz4
  have HSS := Lib.hid hs
  obtain ⟨L, e⟩ := s
  simp only at hw4 hz4 hsl
  have HW4 := Lib.hid hw4
  have HZ4 := Lib.hid hz4
  have HR4 := Lib.hid hr4
  clear hw4 hz4 hm4 hn4 hb4 hr4 hs HC3
  by_cases he : e = 0
  · subst he
    have HB := Lib.hid (bytesW_any w4 g v3 L HW4.out hsl)
    go_wp2_with fail
    refine HB.out.mono ?_
    rintro x w5 ⟨v5, rfl, ho5, hb5⟩
    obtain ⟨A5, c5, rfl, hr5, _, _⟩ := ho5.form
    have hw5 : IsW w5 g v3 L 0 := HW4.out.mod (Mod.of_below hb5) (fun k hk hf => by have := HW4.out.foot_lt k hk; omega)
    have hz5 : IsW w5 g2 v4 L 0 := HZ4.out.mod (Mod.of_below hb5) (fun k hk hf => by have := HZ4.out.foot_lt k hk; omega)
    have HR5 := Lib.hid hr5
    have HBb5 := Lib.hid hb5
    have HW5 := Lib.hid hw5
    have HZB := Lib.hid (bytesW_any w5 g2 v4 L hz5 hsl)
    clear ho5 hb5 hr5 hw5 hz5
    go_wp2_with fail
    refine HZB.out.mono ?_
    rintro x w6 ⟨v6, rfl, ho6, hb6⟩
    obtain ⟨A6, c6, rfl, hr6, _, _⟩ := ho6.form
    have hw6 : IsW w6 g v3 L 0 := HW5.out.mod (Mod.of_below hb6) (fun k hk hf => by have := HW5.out.foot_lt k hk; omega)
    have HR6 := Lib.hid hr6
    have HW6 := Lib.hid hw6
    have HBb6 := Lib.hid hb6
    have hrw : RV w6 w6.heap.size A1 m := ((HR4.out.more (B' := w4.heap.size) (by omega)).below (HBb5.out) |>.more (HBb5.out.size) |>.below hb6).more hb6.size
    have HC6 := Lib.hid (refWrite_any A1 m c1 w6 hrw hln HK.out)
    clear ho6 hb6 hr6 hw6 hrw HZB HB
    go_wp2_with fail
    refine HC6.out.mono ?_
    intro x w7 hres
    rcases hres with ⟨_, ⟨v7, rfl, ho7⟩, hb7⟩ | ⟨hbad, _⟩
    · rw [← HSS.out] at ho7
      simp only at ho7
      obtain ⟨A7, c7, rfl, hr7, _, _⟩ := ho7.form
      have hs5 := str_later HR5.out L.length c5 rfl w7 (hbb6_trans HBb6.out hb7)
      have hs6 := str_later HR6.out L.length c6 rfl w7 hb7
      have hs7 := str_later hr7 L.length c7 rfl w7 (Below.refl _ _)
      have hw7 : IsW w7 g v3 L 0 := HW6.out.mod (Mod.of_below hb7) (fun k hk hf => by have := HW6.out.foot_lt k hk; omega)
      have s4 := HB4.out.size
      have s5 := HBb5.out.size
      have s6 := HBb6.out.size
      have s7 := hb7.size
      have HB7 := Lib.hid (HB4.out.trans ((HBb5.out.trans ((HBb6.out.trans (hb7.mono s6)).mono s5)).mono s4))
      have HW7 := Lib.hid hw7
      clear ho7 hb7 hr7 hw7
      go_wp2_with fail
      refine (known_any w7).mono ?_
      rintro x w8 ⟨rfl, hb8⟩
      have hw8 : IsW w8 g v3 L 0 := HW7.out.mod (Mod.of_below hb8) (fun k hk hf => by have := HW7.out.foot_lt k hk; omega)
      have HL := Lib.hid (lenW_any w8 g v3 L 0 hw8)
      have HB8 := Lib.hid (HB7.out.trans (hb8.mono HB7.out.size))
      clear hb8 hw8
      go_wp2_with (go_at_call 23; refine HL.out.mono ?_; rintro x w9 ⟨rfl, rfl⟩)
      go_ret
      exact ⟨rfl, HB8.out⟩
    · exact absurd (by rw [← HSS.out]) hbad
  · have HB := Lib.hid (bytesW_err w4 g v3 L e HW4.out he)
    have he1 : ((e : Int) != 0) = true := by simp; omega
    have he2 := Lib.hid he
    clear he
    go_wp2_with fail
    refine HB.out.mono ?_
    rintro x w5 ⟨rfl, hb5⟩
    have hz5 : IsW w5 g2 v4 L e := HZ4.out.mod (Mod.of_below hb5) (fun k hk hf => by have := HZ4.out.foot_lt k hk; omega)
    have HBb5 := Lib.hid hb5
    have HZB := Lib.hid (bytesW_err w5 g2 v4 L e hz5 he2.out)
    clear hb5 hz5
    go_wp2_with fail
    refine HZB.out.mono ?_
    rintro x w6 ⟨rfl, hb6⟩
    have HBb6 := Lib.hid hb6
    have hrw : RV w6 w6.heap.size A1 m := ((HR4.out.more (B' := w4.heap.size) (by omega)).below (HBb5.out) |>.more (HBb5.out.size) |>.below hb6).more hb6.size
    have HC6 := Lib.hid (refWrite_any A1 m c1 w6 hrw hln HK.out)
    clear hb6 hrw HZB HB
    go_wp2_with fail
    refine HC6.out.mono ?_
    intro x w7 hres
    rcases hres with ⟨hbad, _⟩ | ⟨_, rfl, hb7⟩
    · exact absurd (by rw [← HSS.out] at hbad; exact hbad) he2.out
    · rw [← HSS.out]
      simp only
      have hs0 := str_later (B := 0) (w := w7) (A := none) (l := []) RB.nil 0 0 rfl w7 (Below.refl _ _)
      have s4 := HB4.out.size
      have s5 := HBb5.out.size
      have s6 := HBb6.out.size
      have HB7 := Lib.hid (HB4.out.trans ((HBb5.out.trans ((HBb6.out.trans (hb7.mono s6)).mono s5)).mono s4))
      clear hb7
      go_wp2_with fail
      refine (known_any w7).mono ?_
      rintro x w8 ⟨rfl, hb8⟩
      have HB8 := Lib.hid (HB7.out.trans (hb8.mono HB7.out.size))
      clear hb8
      go_wp2_with fail
      go_ret
      exact ⟨rfl, HB8.out⟩
end Go.Proofs.Ytfjigooahdfbpaa
