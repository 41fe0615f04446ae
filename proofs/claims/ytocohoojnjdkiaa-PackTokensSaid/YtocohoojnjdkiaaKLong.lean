/- pack: the finder's longest. -/
import Derived.Test.YtocohoojnjdkiaaKLearn
set_option linter.unusedVariables false
namespace Go.Proofs.Ytocohoojnjdkiaa
open Go.RowKit

theorem matF_com {t : List UInt8} {at_ q : Nat} (hq : q < at_) : matF t at_ (at_ - q) = com t q at_ (min 131 (t.length - at_)) := by
  rw [com_eq]; unfold matF; rw [show at_ - (at_ - q) = q by omega]
theorem matF_stop {t : List UInt8} {at_ q m : Nat} (hq : q < at_) (hb : byt t (q + m) ≠ byt t (at_ + m)) : matF t at_ (at_ - q) ≤ m := by
  obtain ⟨h1, h2, h3⟩ := comF_is t (min 131 (t.length - at_)) q at_
  have e : matF t at_ (at_ - q) = comF t q at_ (min 131 (t.length - at_)) := by unfold matF; rw [show at_ - (at_ - q) = q by omega]
  rw [e]
  rcases Nat.lt_or_ge m (comF t q at_ (min 131 (t.length - at_))) with hl | hl
  · exact absurd (h2 m hl) hb
  · exact hl
set_option maxHeartbeats 4000000 in
set_option maxRecDepth 100000 in
theorem longest_any (g r : Nat) (A : Option Addr) (c : Nat) (t : List UInt8) (w : World) (at_ : Nat) (ha : at_ < t.length) (hF : FD w g r A c t (min at_ (t.length - 3))) :
    Calls Try.prog 31 #[.pointer (some ⟨g, 0, none⟩), .int .i64 (at_ : Int)] w fun e w' => ∃ d m : Nat, e = .returned (.tuple #[.int .i64 (d : Int), .int .i64 (m : Int)]) ∧ Found t at_ m d ∧ Below w.heap.size w w' := by
  obtain ⟨B, f, hR, hL⟩ := hF
  have hsm := hR.small
  have hg := hR.lt
  have hcell := hR.cell0
  have HR := Lib.hid hR
  have HT := Lib.hid hR.txt
  have HL := Lib.hid hL
  clear hR hL
  obtain ⟨n, hn⟩ : ∃ n, t.length = n := ⟨_, rfl⟩
  rw [hn] at hsm ha hcell
  have HN := Lib.hid hn
  clear hn
  have w1 : IntKind.i64.wrap ((n : Int) - (at_ : Int)) = (n : Int) - (at_ : Int) := by rw [IntKind.wrap_i64]; omega
  by_cases h4 : n < at_ + 4
  · have h1 : (n : Int) - (at_ : Int) < 4 := by omega
    have h2 : ¬ (131 : Int) ≤ (n : Int) - (at_ : Int) := by omega
    go_enter Try.func31, Try.ntmps31
    go_wp2
    refine bodyPost_ret (results_tmp2' rfl _ _ _) rfl ?_
    exact ⟨0, 0, rfl, found_short (by rw [HN.out]; exact h4), Below.refl _ _⟩
  · have HL2 : Hid (Lrn t at_ f B) := Lib.hid (by have := HL.out; rwa [HN.out, show min at_ (n - 3) = at_ by omega] at this)
    have HA4 : Hid (at_ + 4 ≤ t.length) := Lib.hid (by rw [HN.out]; omega)
    obtain ⟨M, hM⟩ : ∃ M, M = min 131 (n - at_) := ⟨_, rfl⟩
    have hM4 : 4 ≤ M := by omega
    have hMn : at_ + M ≤ n := by omega
    have hMi : (M : Int) = 131 ∧ (131 : Int) ≤ (n : Int) - (at_ : Int) ∨ (M : Int) = (n : Int) - (at_ : Int) ∧ ¬ (131 : Int) ≤ (n : Int) - (at_ : Int) := by omega
    have HM : Hid (M = min 131 (t.length - at_)) := Lib.hid (by rw [HN.out]; exact hM)
    clear hM
    have h4i : ¬ (M : Int) < 4 := by omega
    obtain ⟨b, off, rfl, hb, hc⟩ := rb_byt HT.out (i := 0) (by rw [HN.out]; omega)
    have HC := Lib.hid hc
    clear hc
    have hS0 : Below w.heap.size w w := Below.refl _ _
    have c0 : ∀ W, Below w.heap.size w W → W.cell? ⟨g, 0, none⟩ = some (.slice (some ⟨b, off, none⟩) n c) := fun W h => (h.cell (p := ⟨g, 0, none⟩) hg).trans hcell
    rcases hMi with ⟨hMe, h2⟩ | ⟨hMe, h2⟩
    · have hM4i : ¬ (131 : Int) < 4 := by omega
      go_enter Try.func31, Try.ntmps31
      go_wp2_with (go_at_call 43; refine (HR.out.latest at_ HA4.out).mono ?_; rintro e V0 ⟨rfl, hb2⟩; have HB0 := Lib.hid hb2; clear hb2)
      go_loopw [4, 5, 7] (fun dd nn pl wr => ∃ (D d m : Nat) (o : Option Nat), dd = .int .i64 (d : Int) ∧ nn = .int .i64 (m : Int) ∧ pl = .int .i64 (encO o) ∧ Chain t at_ D o m d ∧ D ≤ 4096 ∧ m ≤ M ∧ Below w.heap.size w wr) (fun _ _ pl _ => (intOf pl + 4098).toNat)
      case atStart => exact ⟨0, 0, 0, _, rfl, rfl, rfl, Chain.start HL2.out, by omega, by omega, HB0.out⟩
      case round =>
        obtain ⟨D, d, m, o, rfl, rfl, rfl, hCh, hD, hm, hW⟩ := hrel
        have HCh := Lib.hid hCh
        have HW := Lib.hid hW
        clear hCh hW HB0
        by_cases hmM : m < M
        · have g1 : (m : Int) < (131 : Int) := by omega
          cases o with
          | none =>
            have e0 : encO none = -4097 := rfl
            have w2 : IntKind.i64.wrap ((at_ : Int) - -4097) = (at_ : Int) + 4097 := by rw [IntKind.wrap_i64]; omega
            have g2 : ¬ (at_ : Int) + 4097 ≤ 4096 := by omega
            rw [e0]
            go_wp2
            refine bodyPost_ret (results_tmp2' rfl _ _ _) rfl ?_
            exact ⟨d, m, rfl, found_of_best (HCh.out.ends HA4.out hD (fun q h => by cases h)), HW.out⟩
          | some q =>
            have e0 : encO (some q) = (q : Int) := rfl
            rw [e0]
            have hqa := (HCh.out.gap HA4.out).2.1
            have w2 : IntKind.i64.wrap ((at_ : Int) - (q : Int)) = (at_ : Int) - (q : Int) := by rw [IntKind.wrap_i64]; omega
            by_cases hq : at_ ≤ q + 4096
            · have g2 : (at_ : Int) - (q : Int) ≤ 4096 := by omega
              obtain ⟨o2, hB2, hL2⟩ := HL2.out.prev q hqa hq
              have hcB := HR.out.cellB (i := q % 4096) (Nat.mod_lt _ (by decide))
              rw [hB2] at hcB
              have hlt2 : encO o2 < (q : Int) ∧ -4097 ≤ encO o2 := by
                cases o2 with
                | none => simp [encO]; omega
                | some x => have := hL2.2.1; simp only [encO]; omega
              have HL3 := Lib.hid hL2
              clear hB2 hL2
              have hS1 := HW.out
              have cB : wr.cell? ⟨g, 2 + q % 4096, none⟩ = some (.int .i64 (encO o2)) := (hS1.cell (p := ⟨g, 2 + q % 4096, none⟩) hg).trans hcB
              have hxx := (hS1.cell (p := ⟨b, off + (q + m), none⟩) hb).trans (HC.out (q + m) (by rw [HN.out]; omega))
              have c1 : ∀ W, Below w.heap.size w W → W.cell? ⟨b, off + (q + m), none⟩ = some (.int .u8 (byt t (q + m) : Int)) := fun W h => (h.cell (p := ⟨b, off + (q + m), none⟩) hb).trans (HC.out (q + m) (by rw [HN.out]; omega))
              have c2 : ∀ W, Below w.heap.size w W → W.cell? ⟨b, off + (at_ + m), none⟩ = some (.int .u8 (byt t (at_ + m) : Int)) := fun W h => (h.cell (p := ⟨b, off + (at_ + m), none⟩) hb).trans (HC.out (at_ + m) (by rw [HN.out]; omega))
              clear hxx
              have w3 : IntKind.i64.wrap ((q : Int) + (m : Int)) = (q : Int) + (m : Int) := by rw [IntKind.wrap_i64]; omega
              have w4 : IntKind.i64.wrap ((at_ : Int) + (m : Int)) = (at_ : Int) + (m : Int) := by rw [IntKind.wrap_i64]; omega
              have p1 : (0 : Int) ≤ (q : Int) + (m : Int) := by omega
              have p2 : (0 : Int) ≤ (at_ : Int) + (m : Int) := by omega
              have p3 : (q : Int) + (m : Int) < (n : Int) := by omega
              have p4 : (at_ : Int) + (m : Int) < (n : Int) := by omega
              have n1 : ((q : Int) + (m : Int)).toNat = q + m := by omega
              have n2 : ((at_ : Int) + (m : Int)).toNat = at_ + m := by omega
              have hq0 : (0 : Int) ≤ (q : Int) := by omega
              have hrm : Int.tmod (q : Int) 4096 = (q : Int) % 4096 := Int.tmod_eq_emod_of_nonneg hq0
              have hr1 : (0 : Int) ≤ (q : Int) % 4096 := by omega
              have hr2 : (q : Int) % 4096 < 4096 := by omega
              have hr3 : ((q : Int) % 4096).toNat = q % 4096 := by omega
              obtain ⟨x, hx⟩ : ∃ x, byt t (q + m) = x := ⟨_, rfl⟩
              obtain ⟨y, hy⟩ : ∃ y, byt t (at_ + m) = y := ⟨_, rfl⟩
              rw [hx] at c1
              rw [hy] at c2
              have HXY := Lib.hid (And.intro hx hy)
              clear hx hy
              by_cases hxy : x = y
              · subst hxy
                have hcm : com t q at_ M = matF t at_ (at_ - q) := by rw [matF_com hqa, HM.out]
                have HCOM : Hid (∀ W, Below w.heap.size w W → Calls Try.prog 44 #[.pointer (some ⟨g, 0, none⟩), .int .i64 (q : Int), .int .i64 (at_ : Int), .int .i64 (131 : Int)] W fun e w' => e = .returned (.int .i64 (matF t at_ (at_ - q) : Int)) ∧ Below W.heap.size W w') := Lib.hid fun W h => by
                  rw [← hcm, show (131 : Int) = (M : Int) by omega]
                  exact common_any g _ t c W (Nat.lt_of_lt_of_le hg h.size) (by rw [HN.out]; exact c0 W h) ((HT.out.below h).more h.size) (by rw [HN.out]; exact hsm) q at_ M (by rw [HN.out]; omega) (by rw [HN.out]; omega)
                have hle : matF t at_ (at_ - q) ≤ M := by have := matF_le t at_ (at_ - q); rw [HM.out]; exact this
                obtain ⟨z, hz⟩ : ∃ z, matF t at_ (at_ - q) = z := ⟨_, rfl⟩
                rw [hz] at HCOM hle
                have HZ := Lib.hid hz
                clear hz hcm
                by_cases hzm : m < z
                · have g5 : (z : Int) > (m : Int) := by omega
                  go_upto_region 7 with fail
                  go_region_held3 (fun W => Below w.heap.size w W) (first | assumption | exact Below.drew (by assumption)) (fail)
                  clear c1 c2
                  go_upto_region 6 with (go_at_call 44; refine (HCOM.out _ (by assumption)).mono ?_; rintro e V ⟨rfl, hb2⟩; have hb1 : Below w.heap.size w V := Below.trans (by assumption) (hb2.mono (Below.size (by assumption))); have cB2 : V.cell? ⟨g, 2 + q % 4096, none⟩ = some (.int .i64 (encO o2)) := (hb1.cell (p := ⟨g, 2 + q % 4096, none⟩) hg).trans hcB; clear hb2)
                  go_wp2
                  go_roundw
                  case rel => exact ⟨at_ - q, at_ - q, z, o2, by go_num, rfl, rfl, by have h := HCh.out.take HA4.out HL3.out (by rw [HZ.out]; exact hzm); rwa [HZ.out] at h, by omega, hle, hb1⟩
                  case measure => simp [intOf] <;> omega
                · have g5 : ¬ (z : Int) > (m : Int) := by omega
                  go_upto_region 7 with fail
                  go_region_held3 (fun W => Below w.heap.size w W) (first | assumption | exact Below.drew (by assumption)) (fail)
                  clear c1 c2
                  go_upto_region 6 with (go_at_call 44; refine (HCOM.out _ (by assumption)).mono ?_; rintro e V ⟨rfl, hb2⟩; have hb1 : Below w.heap.size w V := Below.trans (by assumption) (hb2.mono (Below.size (by assumption))); have cB2 : V.cell? ⟨g, 2 + q % 4096, none⟩ = some (.int .i64 (encO o2)) := (hb1.cell (p := ⟨g, 2 + q % 4096, none⟩) hg).trans hcB; clear hb2)
                  go_wp2
                  go_roundw
                  case rel => exact ⟨at_ - q, d, m, o2, rfl, rfl, rfl, HCh.out.pass HA4.out HL3.out (by rw [HZ.out]; omega), by omega, hm, hb1⟩
                  case measure => simp [intOf] <;> omega
              · have hxy1 : ¬ (x : Int) = (y : Int) := by omega
                go_upto_region 7 with fail
                go_region_held3 (fun W => Below w.heap.size w W) (first | assumption | exact Below.drew (by assumption)) (fail)
                clear c1 c2
                have cB2 : wr.drew.cell? ⟨g, 2 + q % 4096, none⟩ = some (.int .i64 (encO o2)) := cB
                go_upto_region 6 with fail
                go_wp2
                go_roundw
                case rel => exact ⟨at_ - q, d, m, o2, rfl, rfl, rfl, HCh.out.pass HA4.out HL3.out (matF_stop hqa (by rw [HXY.out.1, HXY.out.2]; exact hxy)), by omega, hm, hS1.drew⟩
                case measure => simp [intOf] <;> omega
            · have g2 : ¬ (at_ : Int) - (q : Int) ≤ 4096 := by omega
              go_wp2
              refine bodyPost_ret (results_tmp2' rfl _ _ _) rfl ?_
              exact ⟨d, m, rfl, found_of_best (HCh.out.ends HA4.out hD (fun q' h => by cases h; omega)), HW.out⟩
        · have g1 : ¬ (m : Int) < (131 : Int) := by omega
          go_wp2
          refine bodyPost_ret (results_tmp2' rfl _ _ _) rfl ?_
          exact ⟨d, m, rfl, found_of_best (HCh.out.full hD (by have := HM.out; omega)), HW.out⟩
    · have hM4i : ¬ ((n : Int) - (at_ : Int)) < 4 := by omega
      go_enter Try.func31, Try.ntmps31
      go_wp2_with (go_at_call 43; refine (HR.out.latest at_ HA4.out).mono ?_; rintro e V0 ⟨rfl, hb2⟩; have HB0 := Lib.hid hb2; clear hb2)
      go_loopw [4, 5, 7] (fun dd nn pl wr => ∃ (D d m : Nat) (o : Option Nat), dd = .int .i64 (d : Int) ∧ nn = .int .i64 (m : Int) ∧ pl = .int .i64 (encO o) ∧ Chain t at_ D o m d ∧ D ≤ 4096 ∧ m ≤ M ∧ Below w.heap.size w wr) (fun _ _ pl _ => (intOf pl + 4098).toNat)
      case atStart => exact ⟨0, 0, 0, _, rfl, rfl, rfl, Chain.start HL2.out, by omega, by omega, HB0.out⟩
      case round =>
        obtain ⟨D, d, m, o, rfl, rfl, rfl, hCh, hD, hm, hW⟩ := hrel
        have HCh := Lib.hid hCh
        have HW := Lib.hid hW
        clear hCh hW HB0
        by_cases hmM : m < M
        · have g1 : (m : Int) < ((n : Int) - (at_ : Int)) := by omega
          cases o with
          | none =>
            have e0 : encO none = -4097 := rfl
            have w2 : IntKind.i64.wrap ((at_ : Int) - -4097) = (at_ : Int) + 4097 := by rw [IntKind.wrap_i64]; omega
            have g2 : ¬ (at_ : Int) + 4097 ≤ 4096 := by omega
            rw [e0]
            go_wp2
            refine bodyPost_ret (results_tmp2' rfl _ _ _) rfl ?_
            exact ⟨d, m, rfl, found_of_best (HCh.out.ends HA4.out hD (fun q h => by cases h)), HW.out⟩
          | some q =>
            have e0 : encO (some q) = (q : Int) := rfl
            rw [e0]
            have hqa := (HCh.out.gap HA4.out).2.1
            have w2 : IntKind.i64.wrap ((at_ : Int) - (q : Int)) = (at_ : Int) - (q : Int) := by rw [IntKind.wrap_i64]; omega
            by_cases hq : at_ ≤ q + 4096
            · have g2 : (at_ : Int) - (q : Int) ≤ 4096 := by omega
              obtain ⟨o2, hB2, hL2⟩ := HL2.out.prev q hqa hq
              have hcB := HR.out.cellB (i := q % 4096) (Nat.mod_lt _ (by decide))
              rw [hB2] at hcB
              have hlt2 : encO o2 < (q : Int) ∧ -4097 ≤ encO o2 := by
                cases o2 with
                | none => simp [encO]; omega
                | some x => have := hL2.2.1; simp only [encO]; omega
              have HL3 := Lib.hid hL2
              clear hB2 hL2
              have hS1 := HW.out
              have cB : wr.cell? ⟨g, 2 + q % 4096, none⟩ = some (.int .i64 (encO o2)) := (hS1.cell (p := ⟨g, 2 + q % 4096, none⟩) hg).trans hcB
              have hxx := (hS1.cell (p := ⟨b, off + (q + m), none⟩) hb).trans (HC.out (q + m) (by rw [HN.out]; omega))
              have c1 : ∀ W, Below w.heap.size w W → W.cell? ⟨b, off + (q + m), none⟩ = some (.int .u8 (byt t (q + m) : Int)) := fun W h => (h.cell (p := ⟨b, off + (q + m), none⟩) hb).trans (HC.out (q + m) (by rw [HN.out]; omega))
              have c2 : ∀ W, Below w.heap.size w W → W.cell? ⟨b, off + (at_ + m), none⟩ = some (.int .u8 (byt t (at_ + m) : Int)) := fun W h => (h.cell (p := ⟨b, off + (at_ + m), none⟩) hb).trans (HC.out (at_ + m) (by rw [HN.out]; omega))
              clear hxx
              have w3 : IntKind.i64.wrap ((q : Int) + (m : Int)) = (q : Int) + (m : Int) := by rw [IntKind.wrap_i64]; omega
              have w4 : IntKind.i64.wrap ((at_ : Int) + (m : Int)) = (at_ : Int) + (m : Int) := by rw [IntKind.wrap_i64]; omega
              have p1 : (0 : Int) ≤ (q : Int) + (m : Int) := by omega
              have p2 : (0 : Int) ≤ (at_ : Int) + (m : Int) := by omega
              have p3 : (q : Int) + (m : Int) < (n : Int) := by omega
              have p4 : (at_ : Int) + (m : Int) < (n : Int) := by omega
              have n1 : ((q : Int) + (m : Int)).toNat = q + m := by omega
              have n2 : ((at_ : Int) + (m : Int)).toNat = at_ + m := by omega
              have hq0 : (0 : Int) ≤ (q : Int) := by omega
              have hrm : Int.tmod (q : Int) 4096 = (q : Int) % 4096 := Int.tmod_eq_emod_of_nonneg hq0
              have hr1 : (0 : Int) ≤ (q : Int) % 4096 := by omega
              have hr2 : (q : Int) % 4096 < 4096 := by omega
              have hr3 : ((q : Int) % 4096).toNat = q % 4096 := by omega
              obtain ⟨x, hx⟩ : ∃ x, byt t (q + m) = x := ⟨_, rfl⟩
              obtain ⟨y, hy⟩ : ∃ y, byt t (at_ + m) = y := ⟨_, rfl⟩
              rw [hx] at c1
              rw [hy] at c2
              have HXY := Lib.hid (And.intro hx hy)
              clear hx hy
              by_cases hxy : x = y
              · subst hxy
                have hcm : com t q at_ M = matF t at_ (at_ - q) := by rw [matF_com hqa, HM.out]
                have HCOM : Hid (∀ W, Below w.heap.size w W → Calls Try.prog 44 #[.pointer (some ⟨g, 0, none⟩), .int .i64 (q : Int), .int .i64 (at_ : Int), .int .i64 ((n : Int) - (at_ : Int))] W fun e w' => e = .returned (.int .i64 (matF t at_ (at_ - q) : Int)) ∧ Below W.heap.size W w') := Lib.hid fun W h => by
                  rw [← hcm, show ((n : Int) - (at_ : Int)) = (M : Int) by omega]
                  exact common_any g _ t c W (Nat.lt_of_lt_of_le hg h.size) (by rw [HN.out]; exact c0 W h) ((HT.out.below h).more h.size) (by rw [HN.out]; exact hsm) q at_ M (by rw [HN.out]; omega) (by rw [HN.out]; omega)
                have hle : matF t at_ (at_ - q) ≤ M := by have := matF_le t at_ (at_ - q); rw [HM.out]; exact this
                obtain ⟨z, hz⟩ : ∃ z, matF t at_ (at_ - q) = z := ⟨_, rfl⟩
                rw [hz] at HCOM hle
                have HZ := Lib.hid hz
                clear hz hcm
                by_cases hzm : m < z
                · have g5 : (z : Int) > (m : Int) := by omega
                  go_upto_region 7 with fail
                  go_region_held3 (fun W => Below w.heap.size w W) (first | assumption | exact Below.drew (by assumption)) (fail)
                  clear c1 c2
                  go_upto_region 6 with (go_at_call 44; refine (HCOM.out _ (by assumption)).mono ?_; rintro e V ⟨rfl, hb2⟩; have hb1 : Below w.heap.size w V := Below.trans (by assumption) (hb2.mono (Below.size (by assumption))); have cB2 : V.cell? ⟨g, 2 + q % 4096, none⟩ = some (.int .i64 (encO o2)) := (hb1.cell (p := ⟨g, 2 + q % 4096, none⟩) hg).trans hcB; clear hb2)
                  go_wp2
                  go_roundw
                  case rel => exact ⟨at_ - q, at_ - q, z, o2, by go_num, rfl, rfl, by have h := HCh.out.take HA4.out HL3.out (by rw [HZ.out]; exact hzm); rwa [HZ.out] at h, by omega, hle, hb1⟩
                  case measure => simp [intOf] <;> omega
                · have g5 : ¬ (z : Int) > (m : Int) := by omega
                  go_upto_region 7 with fail
                  go_region_held3 (fun W => Below w.heap.size w W) (first | assumption | exact Below.drew (by assumption)) (fail)
                  clear c1 c2
                  go_upto_region 6 with (go_at_call 44; refine (HCOM.out _ (by assumption)).mono ?_; rintro e V ⟨rfl, hb2⟩; have hb1 : Below w.heap.size w V := Below.trans (by assumption) (hb2.mono (Below.size (by assumption))); have cB2 : V.cell? ⟨g, 2 + q % 4096, none⟩ = some (.int .i64 (encO o2)) := (hb1.cell (p := ⟨g, 2 + q % 4096, none⟩) hg).trans hcB; clear hb2)
                  go_wp2
                  go_roundw
                  case rel => exact ⟨at_ - q, d, m, o2, rfl, rfl, rfl, HCh.out.pass HA4.out HL3.out (by rw [HZ.out]; omega), by omega, hm, hb1⟩
                  case measure => simp [intOf] <;> omega
              · have hxy1 : ¬ (x : Int) = (y : Int) := by omega
                go_upto_region 7 with fail
                go_region_held3 (fun W => Below w.heap.size w W) (first | assumption | exact Below.drew (by assumption)) (fail)
                clear c1 c2
                have cB2 : wr.drew.cell? ⟨g, 2 + q % 4096, none⟩ = some (.int .i64 (encO o2)) := cB
                go_upto_region 6 with fail
                go_wp2
                go_roundw
                case rel => exact ⟨at_ - q, d, m, o2, rfl, rfl, rfl, HCh.out.pass HA4.out HL3.out (matF_stop hqa (by rw [HXY.out.1, HXY.out.2]; exact hxy)), by omega, hm, hS1.drew⟩
                case measure => simp [intOf] <;> omega
            · have g2 : ¬ (at_ : Int) - (q : Int) ≤ 4096 := by omega
              go_wp2
              refine bodyPost_ret (results_tmp2' rfl _ _ _) rfl ?_
              exact ⟨d, m, rfl, found_of_best (HCh.out.ends HA4.out hD (fun q' h => by cases h; omega)), HW.out⟩
        · have g1 : ¬ (m : Int) < ((n : Int) - (at_ : Int)) := by omega
          go_wp2
          refine bodyPost_ret (results_tmp2' rfl _ _ _) rfl ?_
          exact ⟨d, m, rfl, found_of_best (HCh.out.full hD (by have := HM.out; omega)), HW.out⟩
end Go.Proofs.Ytocohoojnjdkiaa
