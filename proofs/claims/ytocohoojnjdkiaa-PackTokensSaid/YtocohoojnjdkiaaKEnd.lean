/- pack: the writer's endRun, literal, match. -/
import Derived.Test.YtocohoojnjdkiaaKWr
import Derived.Test.YtocohoojnjdkiaaKBound
import Derived.Deep.RegionHeld3
set_option linter.unusedVariables false
namespace Go.Proofs.Ytocohoojnjdkiaa
open Go.RowKit

set_option maxHeartbeats 4000000 in
set_option maxRecDepth 100000 in
theorem endRun_any (w : World) (h base : Nat) (pk run : List UInt8) (v u : Value) (H : WR w h base pk run v u) (hl : pk.length ≤ 10000000) (hr : run.length ≤ 128) :
    Calls Try.prog 35 #[.pointer (some ⟨h, 0, none⟩)] w fun e w' => e = .returned (.tuple #[]) ∧ (∃ v' u', WR w' h base (pk ++ encs (flush run)) [] v' u') ∧ Below base w w' := by
  obtain ⟨A, cap, hu, hrb, hrc, _⟩ := H.run.form
  have hb0 : base ≤ w.heap.size := by have := H.blk.lt; have := H.le; omega
  by_cases h0 : run.length = 0
  · obtain rfl : run = [] := List.eq_nil_of_length_eq_zero h0
    have c1 : w.cell? ⟨h, 1, none⟩ = some (.slice A 0 cap) := by have := H.cell1; rw [hu] at this; exact this
    have HH := Lib.hid H
    clear H hrb hu
    go_enter Try.func35, Try.ntmps35
    go_wp2
    refine bodyPost_ret (results_none rfl _ _ _) rfl ?_
    exact ⟨rfl, ⟨v, u, by simpa [flush_nil, encs_nil] using HH.out⟩, Below.refl _ _⟩
  · have hn1 : 1 ≤ run.length := by omega
    obtain ⟨b, off, rfl, hbz, _⟩ := hrb (by omega)
    rename_i off0
    have hoff : off = 0 := by
      rcases H.run.2 with ⟨h1, _⟩ | ⟨g', cap', cur, h1, _⟩
      · rw [hu] at h1; cases h1
      · rw [hu] at h1; cases h1; rfl
    subst hoff
    have hw8 := u8_len hn1 hr
    have hw64 : IntKind.i64.wrap ((run.length : Int) - 1) = (run.length : Int) - 1 := by rw [IntKind.wrap_i64]; omega
    have HFL := Lib.hid (flush_pos (run := run) hn1)
    obtain ⟨cc, hcc⟩ : ∃ cc, UInt8.ofNat (run.length - 1) = cc := ⟨_, rfl⟩
    rw [hcc] at hw8
    have HCC := Lib.hid hcc
    have H1 : WR ((w.alloc (.cells #[.int .u8 (cc.toNat : Int)] 5)).drew) h base pk run v u := (H.alloc _).drew
    have hb1 : RB ((w.alloc (.cells #[.int .u8 (cc.toNat : Int)] 5)).drew) (w.heap.size + 1) (some ⟨w.heap.size, 0, none⟩) [cc] := by
      intro _
      refine ⟨_, _, rfl, by omega, fun j c' hj => ?_⟩
      match j, hj with
      | 0, hj => simp at hj; subst hj; exact World.cell?_alloc_at _ _ _ _ rfl
    obtain ⟨v1, W1, ha1, ho1, hg1⟩ := run_app bslK ((w.alloc (.cells #[.int .u8 (cc.toNat : Int)] 5)).drew) 22 base v pk H1.pk (w.heap.size + 1) (some ⟨w.heap.size, 0, none⟩) [cc] 1 hb1 (by simp; omega) (by simp; omega)
    obtain ⟨A1, cap1, hv1, _, _, _⟩ := ho1.form
    obtain ⟨N1, hN1⟩ : ∃ N1, (pk ++ [cc]).length = N1 := ⟨_, rfl⟩
    rw [hN1] at hv1
    subst hv1
    have H2 : WR (W1.setCell ⟨h, 0, none⟩ (.slice A1 N1 cap1)) h base (pk ++ [cc]) run (.slice A1 N1 cap1) u := H1.grew ho1 hg1
    have hB2 : Below base w (W1.setCell ⟨h, 0, none⟩ (.slice A1 N1 cap1)) := H1.bgrew hg1 (((Below.refl base w).alloc hb0 _).drew)
    have hlt := H.blk.lt
    rw [hu] at H
    have c0 : w.cell? ⟨h, 0, none⟩ = some v := H.cell0
    have c1 : w.cell? ⟨h, 1, none⟩ = some (.slice (some ⟨b, 0, none⟩) run.length cap) := H.cell1
    have s1 : ((w.alloc (.cells #[.int .u8 (cc.toNat : Int)] 5)).drew).cell? ⟨h, 1, none⟩ = some (.slice (some ⟨b, 0, none⟩) run.length cap) := by rw [← hu]; exact H1.cell1
    have s2 : W1.cell? ⟨h, 1, none⟩ = some (.slice (some ⟨b, 0, none⟩) run.length cap) := by rw [← hu]; exact (H1.gb hg1).cell 1
    have s3 : (W1.setCell ⟨h, 0, none⟩ (.slice A1 N1 cap1)).cell? ⟨h, 1, none⟩ = some (.slice (some ⟨b, 0, none⟩) run.length cap) := by rw [← hu]; exact H2.cell1
    have k0 : W1.cell? ⟨h, 0, none⟩ = some v := (H1.gb hg1).cell 0
    have z0 : W1.frozen? ⟨h, 0, none⟩ = false := (H1.gb hg1).frozen 0
    have cS : ∀ W : World, W.cell? ⟨h, 1, none⟩ = some (.slice (some ⟨b, 0, none⟩) run.length cap) → W.cell? ⟨h, 1, none⟩ = some (.slice (some ⟨b, 0, none⟩) run.length cap) := fun W h => h
    replace ha1 : (Builtin.append_ #[22, 22] 22 #[v, .slice (some ⟨w.heap.size, 0, none⟩) 1 1]).run Try.prog ((w.alloc (.cells #[.int .u8 (cc.toNat : Int)] 5)).drew) = .ok (.slice A1 N1 cap1) W1 := ha1
    have HH2 := Lib.hid H2
    have HB2 := Lib.hid hB2
    have HHU := Lib.hid hu
    have gn : ¬ (run.length : Int) = 0 := by omega
    clear H H1 H2 hB2 hb1 ho1 hg1 hu hrb hcc
    obtain ⟨n, hn⟩ : ∃ n, run.length = n := ⟨_, rfl⟩
    rw [hn] at c1 s1 s2 s3 cS hw8 hw64 gn hr hrc hn1 h0 HHU
    have HN := Lib.hid hn
    clear hn
    go_enter Try.func35, Try.ntmps35
    go_upto_region 1 with fail
    refine wp_region_held_drew (S := fun W => W.cell? ⟨h, 1, none⟩ = some (.slice (some ⟨b, 0, none⟩) n cap)) (by kernel_rfl) (c1) (fun hHeld => ?_)
    refine wpAnyH_take (i := 0) (v := ?_) (ops_atL rfl) (by kernel_rfl) (by kernel_rfl) (by kernel_rfl) (fun _ _ _ h => h) (Or.inl ⟨by rfl, ?_⟩) hHeld ?_
    rotate_left
    · (intro W hSW; go_simp; try with_reducible rfl)
    try simp only [Act.put, List.setIfInBounds_toArray, List.set_cons_zero, List.set_cons_succ]
    refine wpAnyH_take (i := 1) (v := ?_) (ops_atL rfl) (by kernel_rfl) (by kernel_rfl) (by kernel_rfl) (fun _ _ _ h => h) (Or.inl ⟨by rfl, ?_⟩) hHeld ?_
    rotate_left
    · (intro W hSW; go_simp; try with_reducible rfl)
    try simp only [Act.put, List.setIfInBounds_toArray, List.set_cons_zero, List.set_cons_succ]
    refine wpAnyH_take (i := 2) (v := ?_) (ops_atL rfl) (by kernel_rfl) (by kernel_rfl) (by kernel_rfl) (fun _ _ _ h => h) (Or.inl ⟨by rfl, ?_⟩) hHeld ?_
    rotate_left
    · (intro W hSW; go_simp; try with_reducible rfl)
    try simp only [Act.put, List.setIfInBounds_toArray, List.set_cons_zero, List.set_cons_succ]
    refine wpAnyH_take (i := 3) (v := ?_) (ops_atL rfl) (by kernel_rfl) (by kernel_rfl) (by kernel_rfl) (fun _ _ _ h => h) (Or.inl ⟨by rfl, ?_⟩) hHeld ?_
    rotate_left
    · (intro W hSW; go_simp; try with_reducible rfl)
    try simp only [Act.put, List.setIfInBounds_toArray, List.set_cons_zero, List.set_cons_succ]
    refine wpAnyH_take (i := 5) (v := ?_) (ops_atL rfl) (by kernel_rfl) (by kernel_rfl) (by kernel_rfl) (fun _ _ _ h => h) (Or.inl ⟨by rfl, ?_⟩) hHeld ?_
    rotate_left
    · (intro W hSW; go_simp; try with_reducible rfl)
    try simp only [Act.put, List.setIfInBounds_toArray, List.set_cons_zero, List.set_cons_succ]
    refine wpAnyH_take (i := 6) (v := ?_) (ops_atL rfl) (by kernel_rfl) (by kernel_rfl) (by kernel_rfl) (fun _ _ _ h => h) (Or.inl ⟨by rfl, ?_⟩) hHeld ?_
    rotate_left
    · (intro W hSW; go_simp; try with_reducible rfl)
    try simp only [Act.put, List.setIfInBounds_toArray, List.set_cons_zero, List.set_cons_succ]
    refine wpAnyH_take (i := 7) (v := ?_) (ops_atL rfl) (by kernel_rfl) (by kernel_rfl) (by kernel_rfl) (fun _ _ _ h => h) (Or.inl ⟨by rfl, ?_⟩) hHeld ?_
    rotate_left
    · (intro W hSW; go_simp; try with_reducible rfl)
    try simp only [Act.put, List.setIfInBounds_toArray, List.set_cons_zero, List.set_cons_succ]
    refine wpAnyH_take (i := 8) (v := ?_) (ops_atL rfl) (by kernel_rfl) (by kernel_rfl) (by kernel_rfl) (fun _ _ _ h => h) (Or.inl ⟨by rfl, ?_⟩) hHeld ?_
    rotate_left
    · (intro W hSW; go_simp; try with_reducible rfl)
    try simp only [Act.put, List.setIfInBounds_toArray, List.set_cons_zero, List.set_cons_succ]
    refine wpAnyH_take (i := 9) (v := ?_) (ops_atL rfl) (by kernel_rfl) (by kernel_rfl) (by kernel_rfl) (fun _ _ _ h => h) (Or.inl ⟨by rfl, ?_⟩) hHeld ?_
    rotate_left
    · (intro W hSW; go_simp; try with_reducible rfl)
    try simp only [Act.put, List.setIfInBounds_toArray, List.set_cons_zero, List.set_cons_succ]
    refine wpAnyH_take (i := 10) (v := ?_) (ops_atL rfl) (by kernel_rfl) (by kernel_rfl) (by kernel_rfl) (fun _ _ _ h => h) (Or.inl ⟨by rfl, ?_⟩) hHeld ?_
    rotate_left
    · (intro W hSW; go_simp; try with_reducible rfl)
    try simp only [Act.put, List.setIfInBounds_toArray, List.set_cons_zero, List.set_cons_succ]
    refine wpAnyH_take (i := 11) (v := ?_) (ops_atL rfl) (by kernel_rfl) (by kernel_rfl) (by kernel_rfl) (fun _ _ _ h => h) (Or.inl ⟨by rfl, ?_⟩) hHeld ?_
    rotate_left
    · (intro W hSW; go_simp; try with_reducible rfl)
    try simp only [Act.put, List.setIfInBounds_toArray, List.set_cons_zero, List.set_cons_succ]
    refine wpAnyH_ready (rs := [4, 12]) (by kernel_rfl) (by simp) ?_
    refine AllReadyH.cons (ops_atL rfl) (fun K hK => ?_) (AllReadyH.cons (ops_atL rfl) (fun K hK => ?_) AllReadyH.nil)
    focus
      go_simp
      refine hK.out _ _ (c1) (fun hHeld => ?_)
      clear hK K
      try simp only [Act.put, List.setIfInBounds_toArray, List.set_cons_zero, List.set_cons_succ]
      refine wpAnyH_ready (rs := [12]) (by kernel_rfl) (by simp) ?_
      refine AllReadyH.cons (ops_atL rfl) (fun K hK => ?_) AllReadyH.nil
      go_simp
      refine hK.out _ _ (s1) (fun hHeld => ?_)
      clear hK K
      try simp only [Act.put, List.setIfInBounds_toArray, List.set_cons_zero, List.set_cons_succ]
      refine wpAnyH_ready (rs := [13]) (by kernel_rfl) (by simp) ?_
      refine AllReadyH.cons (ops_atL rfl) (fun K hK => ?_) AllReadyH.nil
      refine if_app (.tmp 12) (.tmp 20) rfl rfl rfl rfl ha1 ?_
      refine hK.out _ _ (s2) (fun hHeld => ?_)
      clear hK K
      try simp only [Act.put, List.setIfInBounds_toArray, List.set_cons_zero, List.set_cons_succ]
      refine wpAnyH_take (i := 14) (v := ?_) (ops_atL rfl) (by kernel_rfl) (by kernel_rfl) (by kernel_rfl) (fun _ _ _ h => h) (Or.inl ⟨by rfl, ?_⟩) hHeld ?_
      rotate_left
      · (intro W hSW; go_simp; try with_reducible rfl)
      try simp only [Act.put, List.setIfInBounds_toArray, List.set_cons_zero, List.set_cons_succ]
      refine wpAnyH_take (i := 15) (v := ?_) (ops_atL rfl) (by kernel_rfl) (by kernel_rfl) (by kernel_rfl) (fun _ _ _ h => h) (Or.inl ⟨by rfl, ?_⟩) hHeld ?_
      rotate_left
      · (intro W hSW; go_simp; try with_reducible rfl)
      try simp only [Act.put, List.setIfInBounds_toArray, List.set_cons_zero, List.set_cons_succ]
      refine wpAnyH_ready (rs := [16]) (by kernel_rfl) (by simp) ?_
      refine AllReadyH.cons (ops_atL rfl) (fun K hK => ?_) AllReadyH.nil
      go_simp
      refine hK.out _ _ (s3) (fun hHeld => ?_)
      clear hK K
      try simp only [Act.put, List.setIfInBounds_toArray, List.set_cons_zero, List.set_cons_succ]
      refine wpAnyH_done (by kernel_rfl) ?_ _
    rotate_left
    focus
      go_simp
      refine hK.out _ _ (s1) (fun hHeld => ?_)
      clear hK K
      try simp only [Act.put, List.setIfInBounds_toArray, List.set_cons_zero, List.set_cons_succ]
      refine wpAnyH_ready (rs := [4]) (by kernel_rfl) (by simp) ?_
      refine AllReadyH.cons (ops_atL rfl) (fun K hK => ?_) AllReadyH.nil
      go_simp
      refine hK.out _ _ (s1) (fun hHeld => ?_)
      clear hK K
      try simp only [Act.put, List.setIfInBounds_toArray, List.set_cons_zero, List.set_cons_succ]
      refine wpAnyH_ready (rs := [13]) (by kernel_rfl) (by simp) ?_
      refine AllReadyH.cons (ops_atL rfl) (fun K hK => ?_) AllReadyH.nil
      refine if_app (.tmp 12) (.tmp 20) rfl rfl rfl rfl ha1 ?_
      refine hK.out _ _ (s2) (fun hHeld => ?_)
      clear hK K
      try simp only [Act.put, List.setIfInBounds_toArray, List.set_cons_zero, List.set_cons_succ]
      refine wpAnyH_take (i := 14) (v := ?_) (ops_atL rfl) (by kernel_rfl) (by kernel_rfl) (by kernel_rfl) (fun _ _ _ h => h) (Or.inl ⟨by rfl, ?_⟩) hHeld ?_
      rotate_left
      · (intro W hSW; go_simp; try with_reducible rfl)
      try simp only [Act.put, List.setIfInBounds_toArray, List.set_cons_zero, List.set_cons_succ]
      refine wpAnyH_take (i := 15) (v := ?_) (ops_atL rfl) (by kernel_rfl) (by kernel_rfl) (by kernel_rfl) (fun _ _ _ h => h) (Or.inl ⟨by rfl, ?_⟩) hHeld ?_
      rotate_left
      · (intro W hSW; go_simp; try with_reducible rfl)
      try simp only [Act.put, List.setIfInBounds_toArray, List.set_cons_zero, List.set_cons_succ]
      refine wpAnyH_ready (rs := [16]) (by kernel_rfl) (by simp) ?_
      refine AllReadyH.cons (ops_atL rfl) (fun K hK => ?_) AllReadyH.nil
      go_simp
      refine hK.out _ _ (s3) (fun hHeld => ?_)
      clear hK K
      try simp only [Act.put, List.setIfInBounds_toArray, List.set_cons_zero, List.set_cons_succ]
      refine wpAnyH_done (by kernel_rfl) ?_ _
    rotate_left
    all_goals
      obtain ⟨W2, hWe⟩ : ∃ W2, W2 = W1.setCell ⟨h, 0, none⟩ (.slice A1 N1 cap1) := ⟨_, rfl⟩
      rw [← hWe] at HH2 HB2 ⊢
      clear hWe k0 z0 c0 c1 s1 s2 s3 cS ha1 hw8 hw64
      have HU2 : WR W2.drew h base (pk ++ [cc]) run (.slice A1 N1 cap1) (.slice (some ⟨b, 0, none⟩) n cap) := by have := HH2.out.drew; rwa [HHU.out] at this
      obtain ⟨A9, cap9, hu9, hrb9, _, _⟩ := HU2.run.form
      rw [HN.out] at hu9
      cases hu9
      obtain ⟨v3, W3, ha3, ho3, hg3⟩ := run_app bslK W2.drew 22 base (.slice A1 N1 cap1) (pk ++ [cc]) HU2.pk _ (some ⟨b, 0, none⟩) run cap hrb9 (by simp; have := HN.out; omega) (by have := HU2.blk.lt; have := HU2.le; omega)
      rw [HN.out] at ha3
      obtain ⟨A3, cap3, hv3, _, _, _⟩ := ho3.form
      obtain ⟨N3, hN3⟩ : ∃ N3, (pk ++ [cc] ++ run).length = N3 := ⟨_, rfl⟩
      rw [hN3] at hv3
      subst hv3
      have H4 := HU2.grew ho3 hg3
      have hB4 := HU2.bgrew hg3 HB2.out.drew
      have c0 : W2.cell? ⟨h, 0, none⟩ = some (.slice A1 N1 cap1) := HU2.cell0
      have c1 : W2.cell? ⟨h, 1, none⟩ = some (.slice (some ⟨b, 0, none⟩) n cap) := HU2.cell1
      have s2 : W3.cell? ⟨h, 1, none⟩ = some (.slice (some ⟨b, 0, none⟩) n cap) := (HU2.gb hg3).cell 1
      have s3 : (W3.setCell ⟨h, 0, none⟩ (.slice A3 N3 cap3)).cell? ⟨h, 1, none⟩ = some (.slice (some ⟨b, 0, none⟩) n cap) := H4.cell1
      have k0 : W3.cell? ⟨h, 0, none⟩ = some (.slice A1 N1 cap1) := (HU2.gb hg3).cell 0
      have z0 : W3.frozen? ⟨h, 0, none⟩ = false := (HU2.gb hg3).frozen 0
      have cS : ∀ W : World, W.cell? ⟨h, 1, none⟩ = some (.slice (some ⟨b, 0, none⟩) n cap) → W.cell? ⟨h, 1, none⟩ = some (.slice (some ⟨b, 0, none⟩) n cap) := fun W h => h
      have HH4 := Lib.hid H4
      have HB4 := Lib.hid hB4
      clear H4 hB4 HU2 ho3 hg3 hrb9
      go_upto_region 2 with fail
      refine wp_region_held_drew (S := fun W => W.cell? ⟨h, 1, none⟩ = some (.slice (some ⟨b, 0, none⟩) n cap)) (by kernel_rfl) (c1) (fun hHeld => ?_)
      refine wpAnyH_take (i := 0) (v := ?_) (ops_atL rfl) (by kernel_rfl) (by kernel_rfl) (by kernel_rfl) (fun _ _ _ h => h) (Or.inl ⟨by rfl, ?_⟩) hHeld ?_
      rotate_left
      · (intro W hSW; go_simp; try with_reducible rfl)
      try simp only [Act.put, List.setIfInBounds_toArray, List.set_cons_zero, List.set_cons_succ]
      refine wpAnyH_take (i := 1) (v := ?_) (ops_atL rfl) (by kernel_rfl) (by kernel_rfl) (by kernel_rfl) (fun _ _ _ h => h) (Or.inl ⟨by rfl, ?_⟩) hHeld ?_
      rotate_left
      · (intro W hSW; go_simp; try with_reducible rfl)
      try simp only [Act.put, List.setIfInBounds_toArray, List.set_cons_zero, List.set_cons_succ]
      refine wpAnyH_take (i := 2) (v := ?_) (ops_atL rfl) (by kernel_rfl) (by kernel_rfl) (by kernel_rfl) (fun _ _ _ h => h) (Or.inl ⟨by rfl, ?_⟩) hHeld ?_
      rotate_left
      · (intro W hSW; go_simp; try with_reducible rfl)
      try simp only [Act.put, List.setIfInBounds_toArray, List.set_cons_zero, List.set_cons_succ]
      refine wpAnyH_take (i := 3) (v := ?_) (ops_atL rfl) (by kernel_rfl) (by kernel_rfl) (by kernel_rfl) (fun _ _ _ h => h) (Or.inl ⟨by rfl, ?_⟩) hHeld ?_
      rotate_left
      · (intro W hSW; go_simp; try with_reducible rfl)
      try simp only [Act.put, List.setIfInBounds_toArray, List.set_cons_zero, List.set_cons_succ]
      refine wpAnyH_take (i := 5) (v := ?_) (ops_atL rfl) (by kernel_rfl) (by kernel_rfl) (by kernel_rfl) (fun _ _ _ h => h) (Or.inl ⟨by rfl, ?_⟩) hHeld ?_
      rotate_left
      · (intro W hSW; go_simp; try with_reducible rfl)
      try simp only [Act.put, List.setIfInBounds_toArray, List.set_cons_zero, List.set_cons_succ]
      refine wpAnyH_take (i := 6) (v := ?_) (ops_atL rfl) (by kernel_rfl) (by kernel_rfl) (by kernel_rfl) (fun _ _ _ h => h) (Or.inl ⟨by rfl, ?_⟩) hHeld ?_
      rotate_left
      · (intro W hSW; go_simp; try with_reducible rfl)
      try simp only [Act.put, List.setIfInBounds_toArray, List.set_cons_zero, List.set_cons_succ]
      refine wpAnyH_take (i := 7) (v := ?_) (ops_atL rfl) (by kernel_rfl) (by kernel_rfl) (by kernel_rfl) (fun _ _ _ h => h) (Or.inl ⟨by rfl, ?_⟩) hHeld ?_
      rotate_left
      · (intro W hSW; go_simp; try with_reducible rfl)
      try simp only [Act.put, List.setIfInBounds_toArray, List.set_cons_zero, List.set_cons_succ]
      refine wpAnyH_take (i := 8) (v := ?_) (ops_atL rfl) (by kernel_rfl) (by kernel_rfl) (by kernel_rfl) (fun _ _ _ h => h) (Or.inl ⟨by rfl, ?_⟩) hHeld ?_
      rotate_left
      · (intro W hSW; go_simp; try with_reducible rfl)
      try simp only [Act.put, List.setIfInBounds_toArray, List.set_cons_zero, List.set_cons_succ]
      refine wpAnyH_ready (rs := [4]) (by kernel_rfl) (by simp) ?_
      refine AllReadyH.cons (ops_atL rfl) (fun K hK => ?_) AllReadyH.nil
      go_simp
      refine hK.out _ _ (c1) (fun hHeld => ?_)
      clear hK K
      try simp only [Act.put, List.setIfInBounds_toArray, List.set_cons_zero, List.set_cons_succ]
      refine wpAnyH_ready (rs := [9]) (by kernel_rfl) (by simp) ?_
      refine AllReadyH.cons (ops_atL rfl) (fun K hK => ?_) AllReadyH.nil
      refine if_app (.tmp 28) (.tmp 32) rfl rfl rfl rfl ha3 ?_
      refine hK.out _ _ (s2) (fun hHeld => ?_)
      clear hK K
      try simp only [Act.put, List.setIfInBounds_toArray, List.set_cons_zero, List.set_cons_succ]
      refine wpAnyH_take (i := 10) (v := ?_) (ops_atL rfl) (by kernel_rfl) (by kernel_rfl) (by kernel_rfl) (fun _ _ _ h => h) (Or.inl ⟨by rfl, ?_⟩) hHeld ?_
      rotate_left
      · (intro W hSW; go_simp; try with_reducible rfl)
      try simp only [Act.put, List.setIfInBounds_toArray, List.set_cons_zero, List.set_cons_succ]
      refine wpAnyH_take (i := 11) (v := ?_) (ops_atL rfl) (by kernel_rfl) (by kernel_rfl) (by kernel_rfl) (fun _ _ _ h => h) (Or.inl ⟨by rfl, ?_⟩) hHeld ?_
      rotate_left
      · (intro W hSW; go_simp; try with_reducible rfl)
      try simp only [Act.put, List.setIfInBounds_toArray, List.set_cons_zero, List.set_cons_succ]
      refine wpAnyH_ready (rs := [12]) (by kernel_rfl) (by simp) ?_
      refine AllReadyH.cons (ops_atL rfl) (fun K hK => ?_) AllReadyH.nil
      go_simp
      refine hK.out _ _ (s3) (fun hHeld => ?_)
      clear hK K
      try simp only [Act.put, List.setIfInBounds_toArray, List.set_cons_zero, List.set_cons_succ]
      refine wpAnyH_done (by kernel_rfl) ?_ _
      obtain ⟨W4, hWe⟩ : ∃ W4, W4 = W3.setCell ⟨h, 0, none⟩ (.slice A3 N3 cap3) := ⟨_, rfl⟩
      rw [← hWe] at HH4 HB4 ⊢
      clear hWe k0 z0 c0 c1 s2 s3 cS ha3
      have c1 : W4.cell? ⟨h, 1, none⟩ = some (.slice (some ⟨b, 0, none⟩) n cap) := HH4.out.cell1
      have z1 : W4.frozen? ⟨h, 1, none⟩ = false := HH4.out.blk.frozen 1
      go_wp2
      refine bodyPost_end (results_none rfl _ _ _) rfl ?_
      have hf := HH4.out.cut rfl
      have e : pk ++ encs (flush run) = pk ++ [cc] ++ run := by rw [HFL.out, encs_cons, encs_nil, List.append_nil, List.append_assoc, ← HCC.out]; rfl
      rw [e]
      exact ⟨rfl, ⟨_, _, hf⟩, Below.setCell (p := ⟨h, 1, none⟩) HB4.out HH4.out.le _⟩
/-- What a literal leaves. -/
def LitQ (W : World) (h base : Nat) (pk run : List UInt8) (cc : UInt8) : Prop := (run.length + 1 = 128 ∧ ∃ v' u', WR W h base (pk ++ encs [.lit (run ++ [cc])]) [] v' u') ∨ (run.length + 1 ≠ 128 ∧ ∃ v' u', WR W h base pk (run ++ [cc]) v' u')
set_option maxHeartbeats 4000000 in
set_option maxRecDepth 100000 in
theorem literal_any (w : World) (h base : Nat) (pk run : List UInt8) (v u : Value) (cc : UInt8) (H : WR w h base pk run v u) (hl : pk.length ≤ 9000000) (hr : run.length ≤ 127) :
    Calls Try.prog 32 #[.pointer (some ⟨h, 0, none⟩), .int .u8 (cc.toNat : Int)] w fun e w' => e = .returned (.tuple #[]) ∧
      LitQ w' h base pk run cc ∧ Below base w w' := by
  have hb0 : base ≤ w.heap.size := by have := H.blk.lt; have := H.le; omega
  have H1 : WR (w.alloc (.cells #[.int .u8 (cc.toNat : Int)] 5)) h base pk run v u := H.alloc _
  have hb1 : RB (w.alloc (.cells #[.int .u8 (cc.toNat : Int)] 5)) (w.heap.size + 1) (some ⟨w.heap.size, 0, none⟩) [cc] := by
    intro _
    refine ⟨_, _, rfl, by omega, fun j c' hj => ?_⟩
    match j, hj with
    | 0, hj => simp at hj; subst hj; exact World.cell?_alloc_at _ _ _ _ rfl
  obtain ⟨u1, W1, ha1, ho1, hg1⟩ := run_app bslK (w.alloc (.cells #[.int .u8 (cc.toNat : Int)] 5)) 22 base u run H1.run (w.heap.size + 1) (some ⟨w.heap.size, 0, none⟩) [cc] 1 hb1 (by simp; omega) (by simp; omega)
  obtain ⟨A1, cap1, hu1, _, _, _⟩ := ho1.form
  obtain ⟨N1, hN1⟩ : ∃ N1, (run ++ [cc]).length = N1 := ⟨_, rfl⟩
  have hN2 : N1 = run.length + 1 := by rw [← hN1]; simp
  rw [hN1] at hu1
  subst hu1
  have H2 := H1.grewr ho1 hg1
  have hB2 := H1.bgrewr hg1 ((Below.refl base w).alloc hb0 _)
  have c1 : w.cell? ⟨h, 1, none⟩ = some u := H.cell1
  have k1 : W1.cell? ⟨h, 1, none⟩ = some u := (H1.gbr hg1).cell 1
  have z1 : W1.frozen? ⟨h, 1, none⟩ = false := (H1.gbr hg1).frozen 1
  have hlt := H.blk.lt
  have HB0 := Lib.hid hb0
  have HH2 := Lib.hid H2
  have HB2 := Lib.hid hB2
  have HN2 := Lib.hid hN2
  replace ha1 : (Builtin.append_ #[22, 22] 22 #[u, .slice (some ⟨w.heap.size, 0, none⟩) 1 1]).run Try.prog (w.alloc (.cells #[.int .u8 (cc.toNat : Int)] 5)) = .ok (.slice A1 N1 cap1) W1 := ha1
  clear H H1 H2 hB2 hb1 ho1 hg1 hN1 hN2
  obtain ⟨W2, hWe⟩ : ∃ W2, W2 = W1.setCell ⟨h, 1, none⟩ (.slice A1 N1 cap1) := ⟨_, rfl⟩
  rw [← hWe] at HH2 HB2
  have HWe := Lib.hid hWe
  clear hWe
  by_cases h128 : N1 = 128
  · subst h128
    go_enter Try.func32, Try.ntmps32
    go_upto_region 1 with (at_builtin; refine wpList_append_of rfl (.tmp 8) (.tmp 10) _ _ rfl rfl rfl ha1 ?_)
    rw [← HWe.out]
    clear k1 z1 ha1
    have c2 : W2.cell? ⟨h, 1, none⟩ = some (.slice A1 128 cap1) := HH2.out.cell1
    go_wp2_with (go_at_call 35; refine (endRun_any _ h base pk (run ++ [cc]) _ _ HH2.out (by omega) (by have := HN2.out; simp; omega)).mono ?_; rintro e V ⟨rfl, he, hb3⟩; have HE := Lib.hid he; have HB3 := Lib.hid hb3; clear he hb3)
    refine bodyPost_end (results_none rfl _ _ _) rfl ?_
    refine ⟨rfl, ?_, HB2.out.trans HB3.out⟩
    refine .inl ⟨HN2.out.symm, ?_⟩
    have h1 := HE.out
    rwa [flush_pos (by simp)] at h1
  · have hn : ¬ (N1 : Int) = 128 := by omega
    go_enter Try.func32, Try.ntmps32
    go_upto_region 1 with (at_builtin; refine wpList_append_of rfl (.tmp 8) (.tmp 10) _ _ rfl rfl rfl ha1 ?_)
    rw [← HWe.out]
    clear k1 z1 ha1
    have c2 : W2.cell? ⟨h, 1, none⟩ = some (.slice A1 N1 cap1) := HH2.out.cell1
    go_wp2
    refine bodyPost_end (results_none rfl _ _ _) rfl ?_
    refine ⟨rfl, ?_, HB2.out⟩
    exact .inr ⟨by rw [← HN2.out]; exact h128, _, _, HH2.out⟩
set_option maxHeartbeats 4000000 in
set_option maxRecDepth 100000 in
theorem match_any (w : World) (h base : Nat) (pk run : List UInt8) (v u : Value) (d n : Nat) (H : WR w h base pk run v u) (hl : pk.length ≤ 9000000) (hr : run.length ≤ 127) (hm : (Tok.mch d n).ok) :
    Calls Try.prog 33 #[.pointer (some ⟨h, 0, none⟩), .int .i64 (d : Int), .int .i64 (n : Int)] w fun e w' => e = .returned (.tuple #[]) ∧
      (∃ v' u', WR w' h base (pk ++ encs (flush run ++ [.mch d n])) [] v' u') ∧ Below base w w' := by
  obtain ⟨hd1, hd2, hn1, hn2⟩ := hm
  have HH := Lib.hid H
  have hb0 : base ≤ w.heap.size := by have := H.blk.lt; have := H.le; omega
  have HB0 := Lib.hid hb0
  clear H hb0
  have w1 : IntKind.i64.wrap (128 + (n : Int)) = 128 + (n : Int) := by rw [IntKind.wrap_i64]; omega
  have w2 : IntKind.i64.wrap (128 + (n : Int) - 4) = 124 + (n : Int) := by rw [IntKind.wrap_i64]; omega
  have w3 : IntKind.i64.wrap ((d : Int) - 1) = (d : Int) - 1 := by rw [IntKind.wrap_i64]; omega
  have u1 : IntKind.u8.wrap (124 + (n : Int)) = ((UInt8.ofNat (124 + n)).toNat : Int) := by rw [ofNat_toNat (by omega), IntWalk.u8_in _ ⟨by omega, by omega⟩]; omega
  have u2 : IntKind.u8.wrap (((d : Int) - 1) / 256) = ((UInt8.ofNat ((d - 1) / 256)).toNat : Int) := by rw [ofNat_toNat (by omega), IntWalk.u8_in _ ⟨by omega, by omega⟩]; omega
  have u3 : IntKind.u8.wrap ((d : Int) - 1) = ((UInt8.ofNat (d - 1)).toNat : Int) := by rw [ofNat_mod]; unfold IntKind.wrap; simp [IntKind.bits, IntKind.signed]; omega
  obtain ⟨xa, hxa⟩ : ∃ xa, UInt8.ofNat (124 + n) = xa := ⟨_, rfl⟩
  obtain ⟨xb, hxb⟩ : ∃ xb, UInt8.ofNat ((d - 1) / 256) = xb := ⟨_, rfl⟩
  obtain ⟨xc, hxc⟩ : ∃ xc, UInt8.ofNat (d - 1) = xc := ⟨_, rfl⟩
  rw [hxa] at u1
  rw [hxb] at u2
  rw [hxc] at u3
  have HENC : Hid (encs (flush run ++ [.mch d n]) = encs (flush run) ++ [xa, xb, xc]) := Lib.hid (by rw [encs_app, encs_cons, encs_nil, List.append_nil, ← hxa, ← hxb, ← hxc]; rfl)
  clear hxa hxb hxc
  go_enter Try.func33, Try.ntmps33
  go_upto_region 1 with (go_at_call 35; refine (endRun_any _ h base pk run _ _ HH.out (by omega) (by omega)).mono ?_; rintro e V ⟨rfl, he, hb3⟩; have HE := Lib.hid he; have HB3 := Lib.hid hb3; clear he hb3)
  obtain ⟨v2, w2', H2⟩ := HE.out
  have hlt := H2.blk.lt
  have c0 : V.cell? ⟨h, 0, none⟩ = some v2 := H2.cell0
  have H3 : WR (V.alloc (.cells #[.int .u8 (xa.toNat : Int), .int .u8 (xb.toNat : Int), .int .u8 (xc.toNat : Int)] 5)) h base (pk ++ encs (flush run)) [] v2 w2' := H2.alloc _
  have hb1 : RB (V.alloc (.cells #[.int .u8 (xa.toNat : Int), .int .u8 (xb.toNat : Int), .int .u8 (xc.toNat : Int)] 5)) (V.heap.size + 1) (some ⟨V.heap.size, 0, none⟩) [xa, xb, xc] := by
    intro _
    refine ⟨_, _, rfl, by omega, fun j c' hj => ?_⟩
    match j, hj with
    | 0, hj => simp at hj; subst hj; exact World.cell?_alloc_at _ _ _ _ rfl
    | 1, hj => simp at hj; subst hj; exact World.cell?_alloc_at _ _ _ _ rfl
    | 2, hj => simp at hj; subst hj; exact World.cell?_alloc_at _ _ _ _ rfl
  have hfl : (encs (flush run)).length ≤ 129 := by
    by_cases h0 : run.length = 0
    · obtain rfl : run = [] := List.eq_nil_of_length_eq_zero h0
      simp [flush_nil, encs_nil]
    · rw [flush_pos (by omega), encs_cons, encs_nil]; simp [Tok.enc]; omega
  obtain ⟨v3, W1, ha1, ho1, hg1⟩ := run_app bslK (V.alloc (.cells #[.int .u8 (xa.toNat : Int), .int .u8 (xb.toNat : Int), .int .u8 (xc.toNat : Int)] 5)) 22 base v2 (pk ++ encs (flush run)) H3.pk (V.heap.size + 1) (some ⟨V.heap.size, 0, none⟩) [xa, xb, xc] 3 hb1 (by simp; omega) (by have := HB0.out; have := HB3.out.size; simp; omega)
  obtain ⟨A1, cap1, hv1, _, _, _⟩ := ho1.form
  obtain ⟨N1, hN1⟩ : ∃ N1, (pk ++ encs (flush run) ++ [xa, xb, xc]).length = N1 := ⟨_, rfl⟩
  rw [hN1] at hv1
  subst hv1
  have H4 := H3.grew ho1 hg1
  have hB4 := H3.bgrew hg1 ((HB3.out).alloc (by have := HB0.out; have := HB3.out.size; omega) _)
  have k1 : W1.cell? ⟨h, 0, none⟩ = some v2 := (H3.gb hg1).cell 0
  have z1 : W1.frozen? ⟨h, 0, none⟩ = false := (H3.gb hg1).frozen 0
  have HH4 := Lib.hid H4
  have HB4 := Lib.hid hB4
  replace ha1 : (Builtin.append_ #[22, 22] 22 #[v2, .slice (some ⟨V.heap.size, 0, none⟩) 3 3]).run Try.prog (V.alloc (.cells #[.int .u8 (xa.toNat : Int), .int .u8 (xb.toNat : Int), .int .u8 (xc.toNat : Int)] 5)) = .ok (.slice A1 N1 cap1) W1 := ha1
  clear H2 H3 H4 hB4 hb1 ho1 hg1 hN1 hfl
  go_wp2_with (at_builtin; refine wpList_append_of rfl (.tmp 12) (.tmp 24) _ _ rfl rfl rfl ha1 ?_)
  refine bodyPost_end (results_none rfl _ _ _) rfl ?_
  have hf := HH4.out
  rw [List.append_assoc, ← HENC.out] at hf
  exact ⟨rfl, ⟨_, _, hf⟩, HB4.out⟩
end Go.Proofs.Ytocohoojnjdkiaa
