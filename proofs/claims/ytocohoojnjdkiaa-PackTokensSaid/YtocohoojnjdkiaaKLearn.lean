/- pack: the finder's learn. -/
import Derived.Test.YtocohoojnjdkiaaKFr
set_option linter.unusedVariables false
namespace Go.Proofs.Ytocohoojnjdkiaa
open Go.RowKit

set_option maxHeartbeats 4000000 in
set_option maxRecDepth 100000 in
theorem learn_any (g r : Nat) (A : Option Addr) (c : Nat) (t : List UInt8) (w : World) (from_ to : Nat) (hft : from_ ≤ to) (hto : to ≤ 4000000) (hF : FD w g r A c t (min from_ (t.length - 3))) :
    Calls Try.prog 34 #[.pointer (some ⟨g, 0, none⟩), .int .i64 (from_ : Int), .int .i64 (to : Int)] w fun e w' => e = .returned (.tuple #[]) ∧ FD w' g r A c t (min to (t.length - 3)) ∧ Mod w w' (fun k => k = g ∨ k = r) := by
  have hsm : t.length ≤ 4000000 := by obtain ⟨B, f, h1, _⟩ := hF; exact h1.small
  obtain ⟨n, hn⟩ : ∃ n, t.length = n := ⟨_, rfl⟩
  have hlt := hF.lt
  rw [hn] at hsm
  have HN := Lib.hid hn
  have HF := Lib.hid hF
  clear hn hF
  have w1 : IntKind.i64.wrap ((n : Int) - 4) = (n : Int) - 4 := by rw [IntKind.wrap_i64]; omega
  have w2 : IntKind.i64.wrap ((n : Int) - 4 + 1) = (n : Int) - 3 := by rw [IntKind.wrap_i64]; omega
  go_enter Try.func34, Try.ntmps34
  go_wp2
  go_loopw [6] (fun i wr => ∃ k : Nat, i = .int .i64 (k : Int) ∧ from_ ≤ k ∧ k ≤ to ∧ (from_ < k → k ≤ n - 3) ∧ FD wr g r A c t (min k (n - 3)) ∧ Mod w wr (fun k => k = g ∨ k = r)) (fun i _ => to - (intOf i).toNat)
  case atStart => exact ⟨from_, rfl, Nat.le_refl _, hft, fun h => by omega, by have := HF.out; rwa [HN.out] at this, Mod.refl _ _⟩
  case round =>
    obtain ⟨k, rfl, hfk, hkt, hkn, hF, hM⟩ := hrel
    have HM := Lib.hid hM
    have HKN := Lib.hid hkn
    have HW := Lib.hid hF
    obtain ⟨B, f, hR, hL⟩ := hF
    have c0 : wr.cell? ⟨g, 0, none⟩ = some (.slice A n c) := by have := hR.cell0; rwa [HN.out] at this
    have HR := Lib.hid hR
    have HL := Lib.hid hL
    clear hM hkn hR hL
    by_cases hk : k < to ∧ k < n - 3
    · obtain ⟨hk1, hk2⟩ := hk
      have g1 : (k : Int) < (to : Int) := by omega
      have g2 : (k : Int) < (n : Int) - 3 := by omega
      have hg0 : (0 : Int) ≤ (k : Int) := by omega
      have w3 : IntKind.i64.wrap ((k : Int) - 4096) = (k : Int) - 4096 := by rw [IntKind.wrap_i64]; omega
      have w4 : IntKind.i64.wrap ((k : Int) + 1) = (k : Int) + 1 := by rw [IntKind.wrap_i64]; omega
      have HKm := Lib.hid (show min k (n - 3) = k by omega)
      have HLa : Hid (Lrn t k f B) := Lib.hid (by have := HL.out; rwa [HKm.out] at this)
      have hrm : Int.tmod (k : Int) 4096 = (k : Int) % 4096 := Int.tmod_eq_emod_of_nonneg hg0
      have hr1 : (0 : Int) ≤ (k : Int) % 4096 := by omega
      have hr2 : (k : Int) % 4096 < 4096 := by omega
      have hr3 : ((k : Int) % 4096).toNat = k % 4096 := by omega
      have hmin : (to : Int) ≤ (n : Int) - 3 ∨ ((n : Int) - 3 ≤ (to : Int) ∧ ¬ (to : Int) ≤ (n : Int) - 3) := by omega
      rcases hmin with hmin | ⟨hmin, hmin2⟩
      · by_cases h4 : k < 4096
        · have g4 : ¬ (k : Int) ≥ 4096 := by omega
          have HFR : Hid (FR wr g r A c t B f ∧ (∀ s : List UInt8, s.length = 4 → Lst t (k + 1 - 4096) k s (f s)) ∧ Mod wr wr (fun k => k = g ∨ k = r)) := Lib.hid ⟨HR.out, HLa.out.same h4, Mod.refl _ _⟩
          go_upto_region 5 with fail
          go_region_held3 (fun _ => True) (exact trivial) (first | (go_at_call 43; refine ((HFR.out.1.drew).latest k (by rw [HN.out]; omega)).mono ?_; rintro e V ⟨rfl, hb2⟩; have HV := Lib.hid ((HFR.out.1.drew).below hb2); have HVM := Lib.hid (HFR.out.2.2.drew.trans (Mod.of_new hb2 _) (fun i _ hi => hi)); have cB := HV.out.cellB (i := k % 4096) (Nat.mod_lt _ (by decide)); have zB := HV.out.frozen (2 + k % 4096); clear hb2))
          have HR6 := Lib.hid (HV.out.set_ (i := k % 4096) (Nat.mod_lt _ (by decide)) (encO (f (st t k))))
          have HM6 := Lib.hid (HVM.out.setCell (p := ⟨g, 2 + k % 4096, none⟩) (fun _ => .inl rfl) (.int .i64 (encO (f (st t k)))))
          obtain ⟨W6, hWe⟩ : ∃ W6, W6 = V.setCell ⟨g, 2 + k % 4096, none⟩ (.int .i64 (encO (f (st t k)))) := ⟨_, rfl⟩
          rw [← hWe] at HR6 HM6 ⊢
          clear hWe cB zB
          have HZ := Lib.hid (HFR.out.2.1)
          clear HFR HV HVM
          have hS6 : W6.cell? ⟨g, 1, none⟩ = some (.map (some r)) := HR6.out.cell1
          have c6 : ∀ W : World, W.cell? ⟨g, 1, none⟩ = some (.map (some r)) → W.cell? ⟨g, 1, none⟩ = some (.map (some r)) := fun W h => h
          go_upto_region 6 with fail
          go_region_held3 (fun W => W.cell? ⟨g, 1, none⟩ = some (.map (some r))) (first | assumption | exact HR6.out.drew.cell1) (first | (go_at_call 45; refine ((HR6.out.drew).startAt k (by rw [HN.out]; omega)).mono ?_; rintro e V ⟨rfl, hb2⟩; have HV := Lib.hid ((HR6.out.drew).below hb2); have HVM := Lib.hid (HM6.out.drew.trans (Mod.of_new hb2 _) (fun i _ hi => hi)); have hs7 := HV.out.cell1; obtain ⟨o, ho, hp⟩ := HV.out.put k k; have HP := Lib.hid hp; have hs8 := hp.cell1; clear hb2 hp))
          have HM7 := Lib.hid (HVM.out.trans (HV.out.modr o (fun j => j = g ∨ j = r) (.inr rfl)) (fun i _ hi => hi))
          obtain ⟨W7, hWe⟩ : ∃ W7, W7 = ChangeMaps.setBlock V r o := ⟨_, rfl⟩
          rw [← hWe] at HP HM7 ⊢
          clear hWe hs8 ho hs7
          go_wp2
          go_roundw
          case rel => exact ⟨k + 1, by go_num, by omega, by omega, fun _ => by omega, ⟨_, _, HP.out, by rw [show min (k + 1) (n - 3) = k + 1 by omega]; exact HLa.out.step (by rw [HN.out]; exact hk2) HZ.out⟩, HM.out.trans HM7.out (fun i _ hi => hi)⟩
          case measure => simp [intOf] <;> omega
        · have g4 : (k : Int) ≥ 4096 := by omega
          have w5 : IntKind.i64.wrap ((k : Int) - 4096) = ((k - 4096 : Nat) : Int) := by rw [IntKind.wrap_i64]; omega
          clear w3
          by_cases hn : f (st t (k - 4096)) = some (k - 4096)
          · have e5 : encO (f (st t (k - 4096))) = ((k - 4096 : Nat) : Int) := by rw [hn]; rfl
            have HCUT := Lib.hid (HLa.out.cut (by omega) hn)
            rw [hn] at e5
            have HNN := Lib.hid hn
            clear hn
            go_upto_region 4 with (go_at_call 43; refine ((HR.out).latest (k - 4096) (by rw [HN.out]; omega)).mono ?_; rintro e V3 ⟨rfl, hb2⟩; rw [HNN.out]; have HR3 := Lib.hid (HR.out.below hb2); have HM3 := Lib.hid (Mod.of_new hb2 (fun k => k = g ∨ k = r)); clear hb2)
            have hS4 : V3.cell? ⟨g, 1, none⟩ = some (.map (some r)) := HR3.out.cell1
            have c4 : ∀ W : World, W.cell? ⟨g, 1, none⟩ = some (.map (some r)) → W.cell? ⟨g, 1, none⟩ = some (.map (some r)) := fun W h => h
            go_region_held3 (fun W => W.cell? ⟨g, 1, none⟩ = some (.map (some r))) (first | assumption | exact HR3.out.drew.cell1) (first | (go_at_call 45; refine ((HR3.out.drew).startAt (k - 4096) (by rw [HN.out]; omega)).mono ?_; rintro e V ⟨rfl, hb2⟩; have HV := Lib.hid ((HR3.out.drew).below hb2); have HVM := Lib.hid (HM3.out.drew.trans (Mod.of_new hb2 _) (fun i _ hi => hi)); have hs7 := HV.out.cell1; obtain ⟨o, ho, hp⟩ := HV.out.del (k - 4096); have HP := Lib.hid hp; have hs8 := hp.cell1; clear hb2 hp))
            have HM5 := Lib.hid (HVM.out.trans (HV.out.modr o (fun j => j = g ∨ j = r) (.inr rfl)) (fun i _ hi => hi))
            obtain ⟨W5, hWe⟩ : ∃ W5, W5 = ChangeMaps.setBlock V r o := ⟨_, rfl⟩
            rw [← hWe] at HP HM5 ⊢
            clear hWe hs8 ho hs7 hS4 c4
            have HFR : Hid (FR W5 g r A c t B (fun x => if x = st t (k - 4096) then none else f x) ∧ (∀ s : List UInt8, s.length = 4 → Lst t (k + 1 - 4096) k s ((fun x => if x = st t (k - 4096) then none else f x) s)) ∧ Mod wr W5 (fun k => k = g ∨ k = r)) := Lib.hid ⟨HP.out, HCUT.out, HM5.out⟩
            obtain ⟨f1, hf1⟩ : ∃ f1, (fun x => if x = st t (k - 4096) then none else f x) = f1 := ⟨_, rfl⟩
            rw [hf1] at HFR
            clear hf1 HP HM5 HV HVM HCUT
            go_upto_region 5 with fail
            go_region_held3 (fun _ => True) (exact trivial) (first | (go_at_call 43; refine ((HFR.out.1.drew).latest k (by rw [HN.out]; omega)).mono ?_; rintro e V ⟨rfl, hb2⟩; have HV := Lib.hid ((HFR.out.1.drew).below hb2); have HVM := Lib.hid (HFR.out.2.2.drew.trans (Mod.of_new hb2 _) (fun i _ hi => hi)); have cB := HV.out.cellB (i := k % 4096) (Nat.mod_lt _ (by decide)); have zB := HV.out.frozen (2 + k % 4096); clear hb2))
            have HR6 := Lib.hid (HV.out.set_ (i := k % 4096) (Nat.mod_lt _ (by decide)) (encO (f1 (st t k))))
            have HM6 := Lib.hid (HVM.out.setCell (p := ⟨g, 2 + k % 4096, none⟩) (fun _ => .inl rfl) (.int .i64 (encO (f1 (st t k)))))
            obtain ⟨W6, hWe⟩ : ∃ W6, W6 = V.setCell ⟨g, 2 + k % 4096, none⟩ (.int .i64 (encO (f1 (st t k)))) := ⟨_, rfl⟩
            rw [← hWe] at HR6 HM6 ⊢
            clear hWe cB zB
            have HZ := Lib.hid (HFR.out.2.1)
            clear HFR HV HVM
            have hS6 : W6.cell? ⟨g, 1, none⟩ = some (.map (some r)) := HR6.out.cell1
            have c6 : ∀ W : World, W.cell? ⟨g, 1, none⟩ = some (.map (some r)) → W.cell? ⟨g, 1, none⟩ = some (.map (some r)) := fun W h => h
            go_upto_region 6 with fail
            go_region_held3 (fun W => W.cell? ⟨g, 1, none⟩ = some (.map (some r))) (first | assumption | exact HR6.out.drew.cell1) (first | (go_at_call 45; refine ((HR6.out.drew).startAt k (by rw [HN.out]; omega)).mono ?_; rintro e V ⟨rfl, hb2⟩; have HV := Lib.hid ((HR6.out.drew).below hb2); have HVM := Lib.hid (HM6.out.drew.trans (Mod.of_new hb2 _) (fun i _ hi => hi)); have hs7 := HV.out.cell1; obtain ⟨o, ho, hp⟩ := HV.out.put k k; have HP := Lib.hid hp; have hs8 := hp.cell1; clear hb2 hp))
            have HM7 := Lib.hid (HVM.out.trans (HV.out.modr o (fun j => j = g ∨ j = r) (.inr rfl)) (fun i _ hi => hi))
            obtain ⟨W7, hWe⟩ : ∃ W7, W7 = ChangeMaps.setBlock V r o := ⟨_, rfl⟩
            rw [← hWe] at HP HM7 ⊢
            clear hWe hs8 ho hs7
            go_wp2
            go_roundw
            case rel => exact ⟨k + 1, by go_num, by omega, by omega, fun _ => by omega, ⟨_, _, HP.out, by rw [show min (k + 1) (n - 3) = k + 1 by omega]; exact HLa.out.step (by rw [HN.out]; exact hk2) HZ.out⟩, HM.out.trans HM7.out (fun i _ hi => hi)⟩
            case measure => simp [intOf] <;> omega
          · have e5 : ¬ encO (f (st t (k - 4096))) = ((k - 4096 : Nat) : Int) := by
              intro h
              apply hn
              cases hf : f (st t (k - 4096)) with
              | none => rw [hf] at h; simp only [encO] at h; omega
              | some q => rw [hf] at h; simp only [encO] at h; congr 1; omega
            have HNO := Lib.hid (HLa.out.no (by omega) hn)
            clear hn
            go_upto_region 5 with (go_at_call 43; refine ((HR.out).latest (k - 4096) (by rw [HN.out]; omega)).mono ?_; rintro e V3 ⟨rfl, hb2⟩; have HFR : Hid (FR V3 g r A c t B f ∧ (∀ s : List UInt8, s.length = 4 → Lst t (k + 1 - 4096) k s (f s)) ∧ Mod wr V3 (fun k => k = g ∨ k = r)) := Lib.hid ⟨HR.out.below hb2, HNO.out, Mod.of_new hb2 _⟩; clear hb2)
            go_region_held3 (fun _ => True) (exact trivial) (first | (go_at_call 43; refine ((HFR.out.1.drew).latest k (by rw [HN.out]; omega)).mono ?_; rintro e V ⟨rfl, hb2⟩; have HV := Lib.hid ((HFR.out.1.drew).below hb2); have HVM := Lib.hid (HFR.out.2.2.drew.trans (Mod.of_new hb2 _) (fun i _ hi => hi)); have cB := HV.out.cellB (i := k % 4096) (Nat.mod_lt _ (by decide)); have zB := HV.out.frozen (2 + k % 4096); clear hb2))
            have HR6 := Lib.hid (HV.out.set_ (i := k % 4096) (Nat.mod_lt _ (by decide)) (encO (f (st t k))))
            have HM6 := Lib.hid (HVM.out.setCell (p := ⟨g, 2 + k % 4096, none⟩) (fun _ => .inl rfl) (.int .i64 (encO (f (st t k)))))
            obtain ⟨W6, hWe⟩ : ∃ W6, W6 = V.setCell ⟨g, 2 + k % 4096, none⟩ (.int .i64 (encO (f (st t k)))) := ⟨_, rfl⟩
            rw [← hWe] at HR6 HM6 ⊢
            clear hWe cB zB
            have HZ := Lib.hid (HFR.out.2.1)
            clear HFR HV HVM
            have hS6 : W6.cell? ⟨g, 1, none⟩ = some (.map (some r)) := HR6.out.cell1
            have c6 : ∀ W : World, W.cell? ⟨g, 1, none⟩ = some (.map (some r)) → W.cell? ⟨g, 1, none⟩ = some (.map (some r)) := fun W h => h
            go_upto_region 6 with fail
            go_region_held3 (fun W => W.cell? ⟨g, 1, none⟩ = some (.map (some r))) (first | assumption | exact HR6.out.drew.cell1) (first | (go_at_call 45; refine ((HR6.out.drew).startAt k (by rw [HN.out]; omega)).mono ?_; rintro e V ⟨rfl, hb2⟩; have HV := Lib.hid ((HR6.out.drew).below hb2); have HVM := Lib.hid (HM6.out.drew.trans (Mod.of_new hb2 _) (fun i _ hi => hi)); have hs7 := HV.out.cell1; obtain ⟨o, ho, hp⟩ := HV.out.put k k; have HP := Lib.hid hp; have hs8 := hp.cell1; clear hb2 hp))
            have HM7 := Lib.hid (HVM.out.trans (HV.out.modr o (fun j => j = g ∨ j = r) (.inr rfl)) (fun i _ hi => hi))
            obtain ⟨W7, hWe⟩ : ∃ W7, W7 = ChangeMaps.setBlock V r o := ⟨_, rfl⟩
            rw [← hWe] at HP HM7 ⊢
            clear hWe hs8 ho hs7
            go_wp2
            go_roundw
            case rel => exact ⟨k + 1, by go_num, by omega, by omega, fun _ => by omega, ⟨_, _, HP.out, by rw [show min (k + 1) (n - 3) = k + 1 by omega]; exact HLa.out.step (by rw [HN.out]; exact hk2) HZ.out⟩, HM.out.trans HM7.out (fun i _ hi => hi)⟩
            case measure => simp [intOf] <;> omega
      · by_cases h4 : k < 4096
        · have g4 : ¬ (k : Int) ≥ 4096 := by omega
          have HFR : Hid (FR wr g r A c t B f ∧ (∀ s : List UInt8, s.length = 4 → Lst t (k + 1 - 4096) k s (f s)) ∧ Mod wr wr (fun k => k = g ∨ k = r)) := Lib.hid ⟨HR.out, HLa.out.same h4, Mod.refl _ _⟩
          go_upto_region 5 with fail
          go_region_held3 (fun _ => True) (exact trivial) (first | (go_at_call 43; refine ((HFR.out.1.drew).latest k (by rw [HN.out]; omega)).mono ?_; rintro e V ⟨rfl, hb2⟩; have HV := Lib.hid ((HFR.out.1.drew).below hb2); have HVM := Lib.hid (HFR.out.2.2.drew.trans (Mod.of_new hb2 _) (fun i _ hi => hi)); have cB := HV.out.cellB (i := k % 4096) (Nat.mod_lt _ (by decide)); have zB := HV.out.frozen (2 + k % 4096); clear hb2))
          have HR6 := Lib.hid (HV.out.set_ (i := k % 4096) (Nat.mod_lt _ (by decide)) (encO (f (st t k))))
          have HM6 := Lib.hid (HVM.out.setCell (p := ⟨g, 2 + k % 4096, none⟩) (fun _ => .inl rfl) (.int .i64 (encO (f (st t k)))))
          obtain ⟨W6, hWe⟩ : ∃ W6, W6 = V.setCell ⟨g, 2 + k % 4096, none⟩ (.int .i64 (encO (f (st t k)))) := ⟨_, rfl⟩
          rw [← hWe] at HR6 HM6 ⊢
          clear hWe cB zB
          have HZ := Lib.hid (HFR.out.2.1)
          clear HFR HV HVM
          have hS6 : W6.cell? ⟨g, 1, none⟩ = some (.map (some r)) := HR6.out.cell1
          have c6 : ∀ W : World, W.cell? ⟨g, 1, none⟩ = some (.map (some r)) → W.cell? ⟨g, 1, none⟩ = some (.map (some r)) := fun W h => h
          go_upto_region 6 with fail
          go_region_held3 (fun W => W.cell? ⟨g, 1, none⟩ = some (.map (some r))) (first | assumption | exact HR6.out.drew.cell1) (first | (go_at_call 45; refine ((HR6.out.drew).startAt k (by rw [HN.out]; omega)).mono ?_; rintro e V ⟨rfl, hb2⟩; have HV := Lib.hid ((HR6.out.drew).below hb2); have HVM := Lib.hid (HM6.out.drew.trans (Mod.of_new hb2 _) (fun i _ hi => hi)); have hs7 := HV.out.cell1; obtain ⟨o, ho, hp⟩ := HV.out.put k k; have HP := Lib.hid hp; have hs8 := hp.cell1; clear hb2 hp))
          have HM7 := Lib.hid (HVM.out.trans (HV.out.modr o (fun j => j = g ∨ j = r) (.inr rfl)) (fun i _ hi => hi))
          obtain ⟨W7, hWe⟩ : ∃ W7, W7 = ChangeMaps.setBlock V r o := ⟨_, rfl⟩
          rw [← hWe] at HP HM7 ⊢
          clear hWe hs8 ho hs7
          go_wp2
          go_roundw
          case rel => exact ⟨k + 1, by go_num, by omega, by omega, fun _ => by omega, ⟨_, _, HP.out, by rw [show min (k + 1) (n - 3) = k + 1 by omega]; exact HLa.out.step (by rw [HN.out]; exact hk2) HZ.out⟩, HM.out.trans HM7.out (fun i _ hi => hi)⟩
          case measure => simp [intOf] <;> omega
        · have g4 : (k : Int) ≥ 4096 := by omega
          have w5 : IntKind.i64.wrap ((k : Int) - 4096) = ((k - 4096 : Nat) : Int) := by rw [IntKind.wrap_i64]; omega
          clear w3
          by_cases hn : f (st t (k - 4096)) = some (k - 4096)
          · have e5 : encO (f (st t (k - 4096))) = ((k - 4096 : Nat) : Int) := by rw [hn]; rfl
            have HCUT := Lib.hid (HLa.out.cut (by omega) hn)
            rw [hn] at e5
            have HNN := Lib.hid hn
            clear hn
            go_upto_region 4 with (go_at_call 43; refine ((HR.out).latest (k - 4096) (by rw [HN.out]; omega)).mono ?_; rintro e V3 ⟨rfl, hb2⟩; rw [HNN.out]; have HR3 := Lib.hid (HR.out.below hb2); have HM3 := Lib.hid (Mod.of_new hb2 (fun k => k = g ∨ k = r)); clear hb2)
            have hS4 : V3.cell? ⟨g, 1, none⟩ = some (.map (some r)) := HR3.out.cell1
            have c4 : ∀ W : World, W.cell? ⟨g, 1, none⟩ = some (.map (some r)) → W.cell? ⟨g, 1, none⟩ = some (.map (some r)) := fun W h => h
            go_region_held3 (fun W => W.cell? ⟨g, 1, none⟩ = some (.map (some r))) (first | assumption | exact HR3.out.drew.cell1) (first | (go_at_call 45; refine ((HR3.out.drew).startAt (k - 4096) (by rw [HN.out]; omega)).mono ?_; rintro e V ⟨rfl, hb2⟩; have HV := Lib.hid ((HR3.out.drew).below hb2); have HVM := Lib.hid (HM3.out.drew.trans (Mod.of_new hb2 _) (fun i _ hi => hi)); have hs7 := HV.out.cell1; obtain ⟨o, ho, hp⟩ := HV.out.del (k - 4096); have HP := Lib.hid hp; have hs8 := hp.cell1; clear hb2 hp))
            have HM5 := Lib.hid (HVM.out.trans (HV.out.modr o (fun j => j = g ∨ j = r) (.inr rfl)) (fun i _ hi => hi))
            obtain ⟨W5, hWe⟩ : ∃ W5, W5 = ChangeMaps.setBlock V r o := ⟨_, rfl⟩
            rw [← hWe] at HP HM5 ⊢
            clear hWe hs8 ho hs7 hS4 c4
            have HFR : Hid (FR W5 g r A c t B (fun x => if x = st t (k - 4096) then none else f x) ∧ (∀ s : List UInt8, s.length = 4 → Lst t (k + 1 - 4096) k s ((fun x => if x = st t (k - 4096) then none else f x) s)) ∧ Mod wr W5 (fun k => k = g ∨ k = r)) := Lib.hid ⟨HP.out, HCUT.out, HM5.out⟩
            obtain ⟨f1, hf1⟩ : ∃ f1, (fun x => if x = st t (k - 4096) then none else f x) = f1 := ⟨_, rfl⟩
            rw [hf1] at HFR
            clear hf1 HP HM5 HV HVM HCUT
            go_upto_region 5 with fail
            go_region_held3 (fun _ => True) (exact trivial) (first | (go_at_call 43; refine ((HFR.out.1.drew).latest k (by rw [HN.out]; omega)).mono ?_; rintro e V ⟨rfl, hb2⟩; have HV := Lib.hid ((HFR.out.1.drew).below hb2); have HVM := Lib.hid (HFR.out.2.2.drew.trans (Mod.of_new hb2 _) (fun i _ hi => hi)); have cB := HV.out.cellB (i := k % 4096) (Nat.mod_lt _ (by decide)); have zB := HV.out.frozen (2 + k % 4096); clear hb2))
            have HR6 := Lib.hid (HV.out.set_ (i := k % 4096) (Nat.mod_lt _ (by decide)) (encO (f1 (st t k))))
            have HM6 := Lib.hid (HVM.out.setCell (p := ⟨g, 2 + k % 4096, none⟩) (fun _ => .inl rfl) (.int .i64 (encO (f1 (st t k)))))
            obtain ⟨W6, hWe⟩ : ∃ W6, W6 = V.setCell ⟨g, 2 + k % 4096, none⟩ (.int .i64 (encO (f1 (st t k)))) := ⟨_, rfl⟩
            rw [← hWe] at HR6 HM6 ⊢
            clear hWe cB zB
            have HZ := Lib.hid (HFR.out.2.1)
            clear HFR HV HVM
            have hS6 : W6.cell? ⟨g, 1, none⟩ = some (.map (some r)) := HR6.out.cell1
            have c6 : ∀ W : World, W.cell? ⟨g, 1, none⟩ = some (.map (some r)) → W.cell? ⟨g, 1, none⟩ = some (.map (some r)) := fun W h => h
            go_upto_region 6 with fail
            go_region_held3 (fun W => W.cell? ⟨g, 1, none⟩ = some (.map (some r))) (first | assumption | exact HR6.out.drew.cell1) (first | (go_at_call 45; refine ((HR6.out.drew).startAt k (by rw [HN.out]; omega)).mono ?_; rintro e V ⟨rfl, hb2⟩; have HV := Lib.hid ((HR6.out.drew).below hb2); have HVM := Lib.hid (HM6.out.drew.trans (Mod.of_new hb2 _) (fun i _ hi => hi)); have hs7 := HV.out.cell1; obtain ⟨o, ho, hp⟩ := HV.out.put k k; have HP := Lib.hid hp; have hs8 := hp.cell1; clear hb2 hp))
            have HM7 := Lib.hid (HVM.out.trans (HV.out.modr o (fun j => j = g ∨ j = r) (.inr rfl)) (fun i _ hi => hi))
            obtain ⟨W7, hWe⟩ : ∃ W7, W7 = ChangeMaps.setBlock V r o := ⟨_, rfl⟩
            rw [← hWe] at HP HM7 ⊢
            clear hWe hs8 ho hs7
            go_wp2
            go_roundw
            case rel => exact ⟨k + 1, by go_num, by omega, by omega, fun _ => by omega, ⟨_, _, HP.out, by rw [show min (k + 1) (n - 3) = k + 1 by omega]; exact HLa.out.step (by rw [HN.out]; exact hk2) HZ.out⟩, HM.out.trans HM7.out (fun i _ hi => hi)⟩
            case measure => simp [intOf] <;> omega
          · have e5 : ¬ encO (f (st t (k - 4096))) = ((k - 4096 : Nat) : Int) := by
              intro h
              apply hn
              cases hf : f (st t (k - 4096)) with
              | none => rw [hf] at h; simp only [encO] at h; omega
              | some q => rw [hf] at h; simp only [encO] at h; congr 1; omega
            have HNO := Lib.hid (HLa.out.no (by omega) hn)
            clear hn
            go_upto_region 5 with (go_at_call 43; refine ((HR.out).latest (k - 4096) (by rw [HN.out]; omega)).mono ?_; rintro e V3 ⟨rfl, hb2⟩; have HFR : Hid (FR V3 g r A c t B f ∧ (∀ s : List UInt8, s.length = 4 → Lst t (k + 1 - 4096) k s (f s)) ∧ Mod wr V3 (fun k => k = g ∨ k = r)) := Lib.hid ⟨HR.out.below hb2, HNO.out, Mod.of_new hb2 _⟩; clear hb2)
            go_region_held3 (fun _ => True) (exact trivial) (first | (go_at_call 43; refine ((HFR.out.1.drew).latest k (by rw [HN.out]; omega)).mono ?_; rintro e V ⟨rfl, hb2⟩; have HV := Lib.hid ((HFR.out.1.drew).below hb2); have HVM := Lib.hid (HFR.out.2.2.drew.trans (Mod.of_new hb2 _) (fun i _ hi => hi)); have cB := HV.out.cellB (i := k % 4096) (Nat.mod_lt _ (by decide)); have zB := HV.out.frozen (2 + k % 4096); clear hb2))
            have HR6 := Lib.hid (HV.out.set_ (i := k % 4096) (Nat.mod_lt _ (by decide)) (encO (f (st t k))))
            have HM6 := Lib.hid (HVM.out.setCell (p := ⟨g, 2 + k % 4096, none⟩) (fun _ => .inl rfl) (.int .i64 (encO (f (st t k)))))
            obtain ⟨W6, hWe⟩ : ∃ W6, W6 = V.setCell ⟨g, 2 + k % 4096, none⟩ (.int .i64 (encO (f (st t k)))) := ⟨_, rfl⟩
            rw [← hWe] at HR6 HM6 ⊢
            clear hWe cB zB
            have HZ := Lib.hid (HFR.out.2.1)
            clear HFR HV HVM
            have hS6 : W6.cell? ⟨g, 1, none⟩ = some (.map (some r)) := HR6.out.cell1
            have c6 : ∀ W : World, W.cell? ⟨g, 1, none⟩ = some (.map (some r)) → W.cell? ⟨g, 1, none⟩ = some (.map (some r)) := fun W h => h
            go_upto_region 6 with fail
            go_region_held3 (fun W => W.cell? ⟨g, 1, none⟩ = some (.map (some r))) (first | assumption | exact HR6.out.drew.cell1) (first | (go_at_call 45; refine ((HR6.out.drew).startAt k (by rw [HN.out]; omega)).mono ?_; rintro e V ⟨rfl, hb2⟩; have HV := Lib.hid ((HR6.out.drew).below hb2); have HVM := Lib.hid (HM6.out.drew.trans (Mod.of_new hb2 _) (fun i _ hi => hi)); have hs7 := HV.out.cell1; obtain ⟨o, ho, hp⟩ := HV.out.put k k; have HP := Lib.hid hp; have hs8 := hp.cell1; clear hb2 hp))
            have HM7 := Lib.hid (HVM.out.trans (HV.out.modr o (fun j => j = g ∨ j = r) (.inr rfl)) (fun i _ hi => hi))
            obtain ⟨W7, hWe⟩ : ∃ W7, W7 = ChangeMaps.setBlock V r o := ⟨_, rfl⟩
            rw [← hWe] at HP HM7 ⊢
            clear hWe hs8 ho hs7
            go_wp2
            go_roundw
            case rel => exact ⟨k + 1, by go_num, by omega, by omega, fun _ => by omega, ⟨_, _, HP.out, by rw [show min (k + 1) (n - 3) = k + 1 by omega]; exact HLa.out.step (by rw [HN.out]; exact hk2) HZ.out⟩, HM.out.trans HM7.out (fun i _ hi => hi)⟩
            case measure => simp [intOf] <;> omega
    · have g2 : (to : Int) ≤ (n : Int) - 3 ∨ ((n : Int) - 3 ≤ (to : Int) ∧ ¬ (to : Int) ≤ (n : Int) - 3) := by omega
      rcases g2 with g2 | ⟨g2, g3⟩
      · have g1 : ¬ (k : Int) < (to : Int) := by omega
        go_wp2
        refine bodyPost_end (results_none rfl _ _ _) rfl ?_
        refine ⟨rfl, ?_, HM.out⟩
        have h := HW.out
        rw [HN.out]
        rwa [show min to (n - 3) = min k (n - 3) by omega]
      · have g1 : ¬ (k : Int) < (n : Int) - 3 := by omega
        go_wp2
        refine bodyPost_end (results_none rfl _ _ _) rfl ?_
        refine ⟨rfl, ?_, HM.out⟩
        have h := HW.out
        rw [HN.out]
        rwa [show min to (n - 3) = min k (n - 3) by omega]
end Go.Proofs.Ytocohoojnjdkiaa
