/- The walks of the statements CodecNil, CodecParses and CodecNumbers. -/
import Derived.Test.YtfjigooahdfbpaaKnown
import Derived.Deep.RegionHeld3
import Derived.OpenShut
set_option linter.unusedVariables false
namespace Go.Proofs.Ytfjigooahdfbpaa
open Go.RowKit

/-- 'string(b)' of bytes below a block number, in every later world. -/
theorem str_later {w : World} {B : Nat} {A : Option Addr} {l : List UInt8} (hr : RB w B A l) (n c : Nat) (hn : n = l.length) :
    ∀ W, Below B w W → (convert 22 9 (.slice A n c)).run Try.prog W = .ok (.string ⟨l.toArray⟩) W := fun W hW => by
  subst hn
  exact run_str bsl 9 Try.underlying9 (hr.below hW) c

/-- The examples hold in every later world, and what was there stays. -/
theorem known_in {B : Nat} (w W : World) (hB : B ≤ w.heap.size) (hW : Below B w W) : Calls Try.prog 13 #[] W fun r w' => r = .returned (.bool true) ∧ Below B w w' :=
  (known_any W).mono fun _ _ ⟨h1, h2⟩ => ⟨h1, hW.trans (h2.mono (Nat.le_trans hB hW.size))⟩

set_option maxHeartbeats 1000000 in
set_option maxRecDepth 100000 in
theorem codecParses_walk (A : Option Addr) (l : List UInt8) (cap : Nat) (w : World) (hr : RB w w.heap.size A l) (hl : l.length ≤ cap) (hc : cap ≤ maxLen) :
    Calls Try.prog 4 #[.slice A l.length cap] w fun r w' => r = .returned (.bool true) ∧ Below w.heap.size w w' := by
  unfold maxLen at hc
  have hm := hr.take 100
  obtain ⟨m, em⟩ : ∃ m, m = l.take 100 := ⟨_, rfl⟩
  have hml : m.length ≤ 100 := by rw [em, List.length_take]; omega
  have hlen : (min (l.length : Int) 100).toNat = m.length := by rw [em, List.length_take]; omega
  have hmc : m.length ≤ cap := by rw [em, List.length_take]; omega
  rw [← em] at hm
  have HL := Lib.hid hlen
  have HP := Lib.hid (codecParse_any A m cap _ w hm (by omega))
  have HQ := Lib.hid (refParse_any A m cap _ w hm (by omega))
  have HM := Lib.hid hm
  clear hlen em hm hr
  rcases grp_cases m 9 with ⟨e, he, hg⟩ | ⟨n, s, hg, hs0, hs9, hsl, hen⟩
  · rw [hg] at HP HQ
    clear hg
    go_enter Try.func4, Try.ntmps4
    go_wp2_with fail
    rw [HL.out]
    have h1 : ((e : Int) == 0) = false := by rcases he with rfl | rfl <;> rfl
    have h2 : ((e : Int) != 0) = true := by rcases he with rfl | rfl <;> rfl
    clear he
    refine HP.out.mono ?_
    rintro x w1 ⟨rfl, rfl⟩
    go_wp2_with fail
    refine HQ.out.mono ?_
    rintro x w1 ⟨rfl, rfl⟩
    go_wp2_with fail
    refine (known_any _).mono ?_
    rintro x w1 ⟨rfl, hb⟩
    have HB := Lib.hid hb
    clear hb
    go_wp2
    go_ret
    exact ⟨rfl, HB.out⟩
  · have hn9 := grp9_lt m
    rw [hg] at HP HQ hn9
    clear hg
    have HN := Lib.hid hen
    have HA := Lib.hid (append_any none [] 0 (n : Int) w RB.nil (by simp) (by omega) (by omega))
    simp only [List.nil_append, Int.toNat_natCast, List.length_nil] at HA
    clear hen
    go_enter Try.func4, Try.ntmps4
    go_wp2_with fail
    rw [HL.out]
    refine HP.out.mono ?_
    rintro x w1 ⟨rfl, rfl⟩
    go_wp2_with fail
    refine HQ.out.mono ?_
    rintro x w1 ⟨rfl, rfl⟩
    go_wp2_with fail
    refine HA.out.mono ?_
    rintro x w1 ⟨v1, rfl, ho1, hb1⟩
    obtain ⟨A1, cap1, rfl, hr1, _, _⟩ := ho1.form
    have hs1 := str_later hr1 (enc n).length cap1 rfl
    have hs2 := str_later ((HM.out.below hb1).more (B' := w1.heap.size) hb1.size |>.take s) s cap (by rw [List.length_take]; omega)
    rw [← HN.out] at hs2
    have hsi : (s : Int) ≤ (cap : Int) := by omega
    have hsi0 : (0 : Int) ≤ (s : Int) := by omega
    have HB1 := Lib.hid hb1
    have hS : Below w1.heap.size w1 w1 := Below.refl _ _
    clear hb1 ho1 hr1
    go_wp2_with fail
    go_region_held3 (fun W => Below w1.heap.size w1 W) (first | assumption | (exact Below.drew (by assumption))) (first | (go_at_call 13; refine (known_in _ _ (Nat.le_refl _) (by assumption)).mono ?_; rintro x w2 ⟨rfl, hb2⟩))
    go_wp2
    go_ret
    exact ⟨rfl, HB1.out.trans (Below.mono (by assumption) HB1.out.size)⟩

set_option maxHeartbeats 1000000 in
set_option maxRecDepth 100000 in
theorem codecNumbers_neg (A B : Option Addr) (l m : List UInt8) (c d : Nat) (n : Int) (w : World) (hr : RB w w.heap.size A l) (hq : RB w w.heap.size B m) (hl : l.length ≤ c) (hc : c ≤ maxLen) (hm : m.length ≤ d) (hd : d ≤ maxLen) (h0 : n < 0) :
    Calls Try.prog 3 #[.int .i64 n, .slice A l.length c, .slice B m.length d] w fun r w' => r = .returned (.bool true) ∧ Below w.heap.size w w' := by
  unfold maxLen at hc hd
  have h1 : (0 : Int) ≤ (l.length : Int) := by omega
  have h2 : (l.length : Int) ≤ (c : Int) := by omega
  have h3 : (m.length : Int) ≤ (d : Int) := by omega
  go_enter Try.func3, Try.ntmps3
  go_wp2_with fail
  go_quiet (fail)
  go_wp2_with fail
  refine (append_neg _ n _ h0).mono ?_
  rintro x w1 ⟨rfl, rfl⟩
  go_wp2_with fail
  refine (known_in w _ (Nat.le_refl _) (below_drewN (Below.refl _ _) _)).mono ?_
  rintro x w2 ⟨rfl, hb⟩
  have HB := Lib.hid hb
  clear hb
  go_wp2_with (go_at_call 14; refine (size_neg n _ h0).mono ?_; rintro x w3 ⟨rfl, rfl⟩)
  go_ret
  exact ⟨rfl, HB.out⟩

theorem below_cells {B : Nat} {w w' : World} (h : Below B w w') : ∀ p : Addr, p.block < B → w'.cell? p = w.cell? p := fun _ hp => h.cell hp

set_option maxHeartbeats 1000000 in
set_option maxRecDepth 100000 in
theorem codecNumbers_pos (A B : Option Addr) (l m : List UInt8) (c d : Nat) (n : Nat) (w : World) (hr : RB w w.heap.size A l) (hq : RB w w.heap.size B m) (hl : l.length ≤ c) (hc : c ≤ maxLen) (hm : m.length ≤ d) (hd : d ≤ maxLen) (hn : n ≤ 9223372036854775807) :
    Calls Try.prog 3 #[.int .i64 (n : Int), .slice A l.length c, .slice B m.length d] w fun r w' => r = .returned (.bool true) ∧ Below w.heap.size w w' := by
  unfold maxLen at hc hd
  have hx := hr.take 100
  have hy := hq.take 100
  obtain ⟨x, ex⟩ : ∃ x, x = l.take 100 := ⟨_, rfl⟩
  obtain ⟨y, ey⟩ : ∃ y, y = m.take 100 := ⟨_, rfl⟩
  have hxl : x.length ≤ 100 := by rw [ex, List.length_take]; omega
  have hyl : y.length ≤ 100 := by rw [ey, List.length_take]; omega
  have hlx : (min (l.length : Int) 100).toNat = x.length := by rw [ex, List.length_take]; omega
  have hly : (min (m.length : Int) 100).toNat = y.length := by rw [ey, List.length_take]; omega
  rw [← ex] at hx
  rw [← ey] at hy
  have h1 : (0 : Int) ≤ (l.length : Int) := by omega
  have h2 : (l.length : Int) ≤ (c : Int) := by omega
  have h3 : (m.length : Int) ≤ (d : Int) := by omega
  have HLX := Lib.hid hlx
  have HLY := Lib.hid hly
  have HX := Lib.hid hx
  have HY := Lib.hid hy
  have hen := enc_len9 (n := n) (by omega)
  have hep := enc_pos n
  have HG := Lib.hid (grp_enc n y 9 hen (by omega))
  obtain ⟨E, hE⟩ : ∃ E, E = enc n := ⟨_, rfl⟩
  rw [← hE] at hen hep HG
  clear hlx hly ex ey hx hy hr hq
  go_enter Try.func3, Try.ntmps3
  go_wp2_with fail
  go_quiet (fail)
  go_wp2_with fail
  rw [HLX.out, HLY.out]
  have HE := Lib.hid hE
  clear hE
  refine (append_any A x c (n : Int) (w.drewN nq) HX.out (by omega) (by omega) (by omega)).mono ?_
  rintro z w1 ⟨v1, rfl, ho1, hb1⟩
  rw [Int.toNat_natCast, ← HE.out] at ho1
  obtain ⟨Y, hY⟩ : ∃ Y, Y = x ++ E := ⟨_, rfl⟩
  rw [← hY] at ho1
  have HYY := Lib.hid hY
  clear hY
  obtain ⟨A1, c1, rfl, hr1, _, _⟩ := ho1.form
  have b1 : Below w.heap.size w w1 := (below_drewN (Below.refl w.heap.size w) _).trans hb1
  have HB1 := Lib.hid b1
  have HR1 := Lib.hid hr1
  clear ho1 hb1 b1 hr1
  go_wp2_with fail
  refine (natural_any n _ (by omega)).mono ?_
  rintro z w2 ⟨v2, rfl, ho2, hb2⟩
  rw [← HE.out] at ho2
  obtain ⟨A2, c2, rfl, hr2, _, _⟩ := ho2.form
  have HB2 := Lib.hid hb2
  have HR2 := Lib.hid hr2
  have HO0 := Lib.hid (show OB 5 (w2.alloc (.cells #[] 5)) w2.heap.size (.slice (some ⟨w2.heap.size, 0, none⟩) 0 0) [] from World.ownsRow_made w2 #[] 0 (Nat.le_refl _) (by unfold maxLen; omega) rfl)
  have HRE := Lib.hid (hr2.below (below_alloc w2 (.cells #[] 5)))
  have HYE := Lib.hid (((HY.out.below HB1.out).more HB1.out.size).below HB2.out |>.more HB2.out.size)
  have HLE := Lib.hid (show ([] : List UInt8).length + E.length ≤ 140737488355328 by simp; omega)
  clear ho2 hb2 hr2
  go_wp2_with (at_builtin; refine wpList_app bsl rfl (.tmp 50) (.tmp 51) rfl w2.heap.size _ [] rfl HO0.out w2.heap.size A2 E c2 rfl HRE.out HLE.out (below_alloc _ _).size ?_)
  intro v3 w3 ho3 hg3
  have hb3 := (below_alloc w2 (.cells #[] 5)).trans (hg3.below (below_alloc _ _).size (by intro k hk; simp [Value.ownBlock] at hk; omega))
  obtain ⟨A3, c3, rfl, _⟩ := ho3.form
  have HO3 := Lib.hid ho3
  have HB3 := Lib.hid hb3
  have HY3 := Lib.hid ((((HY.out.below HB1.out).more HB1.out.size).below HB2.out |>.more HB2.out.size).below hb3)
  have HL3 := Lib.hid (show E.length + y.length ≤ 140737488355328 by omega)
  clear ho3 hg3 hb3 HO0 HRE HYE HLE
  go_wp2_with (at_builtin; refine wpList_app bsl rfl (.tmp 52) (.tmp 53) rfl w2.heap.size _ E rfl HO3.out w2.heap.size B y d rfl HY3.out HL3.out HB3.out.size ?_)
  intro v4 w4 ho4 hg4
  have hb4 := HB3.out.trans (hg4.below HB3.out.size (fun k hk => (HO3.out.lt k hk).1))
  obtain ⟨Z, hZ⟩ : ∃ Z, Z = E ++ y := ⟨_, rfl⟩
  have hZl : Z.length ≤ 1000 := by rw [hZ, List.length_append]; omega
  rw [← hZ] at ho4 HG
  obtain ⟨A4, c4, rfl, hr4, _, _⟩ := ho4.form
  have HP := Lib.hid (codecParse_any A4 Z c4 _ w4 hr4 (by omega))
  rw [HG.out] at HP
  have HB4 := Lib.hid hb4
  clear ho4 hg4 hb4 hr4 hZ
  go_wp2_with fail
  refine HP.out.mono ?_
  rintro z w5 ⟨rfl, rfl⟩
  have b14 : Below w1.heap.size w1 w4 := HB2.out.trans (HB4.out.mono HB2.out.size)
  have b04 : Below w.heap.size w w4 := HB1.out.trans (b14.mono HB1.out.size)
  have HS := Lib.hid b04
  have s1 := HB1.out.size
  have s2 := HB2.out.size
  have s4 := HB4.out.size
  go_wp2_with fail
  refine (known_any w4).mono ?_
  rintro z w6 ⟨rfl, hb6⟩
  have hs1 := str_later HR1.out Y.length c1 rfl w6 (b14.trans (hb6.mono (by omega)))
  have hs2 := str_later HX.out x.length c rfl w6 (b04.trans (hb6.mono (by omega)))
  have hs3 := str_later HR2.out E.length c2 rfl w6 (HB4.out.trans (hb6.mono (by omega)))
  have HB6 := Lib.hid (b04.trans (hb6.mono (by omega)))
  clear hb6 b14 b04
  have hcat : ByteArray.mk x.toArray ++ ByteArray.mk E.toArray = ByteArray.mk Y.toArray := by
    rw [HYY.out]; apply ByteArray.ext; simp
  have HSz : Hid (∀ W : World, Calls Try.prog 14 #[.int .i64 (n : Int)] W fun e w' => e = .returned (.int .i64 (E.length : Int)) ∧ W = w') := Lib.hid (fun W => by rw [HE.out]; simpa using size_any (n : Int) W (by omega) (by omega))
  go_wp2_with (go_at_call 14; refine (HSz.out _).mono ?_; rintro z w7 ⟨rfl, rfl⟩)
  go_ret
  exact ⟨rfl, HB6.out⟩

theorem codecNumbers_walk (n : Int) (A : Option Addr) (l : List UInt8) (c : Nat) (B : Option Addr) (m : List UInt8) (d : Nat) (w : World) (hn : (Lit.int .i64 n).wf = true) (hr : RB w w.heap.size A l) (hl : l.length ≤ c) (hc : c ≤ maxLen) (hq : RB w w.heap.size B m) (hm : m.length ≤ d) (hd : d ≤ maxLen) :
    Calls Try.prog 3 #[.int .i64 n, .slice A l.length c, .slice B m.length d] w fun r w' => r = .returned (.bool true) ∧ Below w.heap.size w w' := by
  by_cases h : n < 0
  · exact codecNumbers_neg A B l m c d n w hr hq hl hc hm hd h
  · obtain ⟨k, rfl⟩ := Int.eq_ofNat_of_zero_le (show 0 ≤ n by omega)
    have hb := bounds_i64 hn
    exact codecNumbers_pos A B l m c d k w hr hq hl hc hm hd (by omega)

/- CodecNil -/
theorem failedR_nil (w : World) : Calls Try.prog 27 #[.pointer none] w fun e w' => e = .returned (.tuple #[.int .i64 0, .int .i64 1]) ∧ w = w' := by
  go_enter Try.func27, Try.ntmps27
  go_wp2
  go_ret2
  exact ⟨rfl, rfl⟩
theorem restR_nil (w : World) : Calls Try.prog 28 #[.pointer none] w fun e w' => e = .returned (.int .i64 0) ∧ w = w' := by
  go_enter Try.func28, Try.ntmps28
  go_wp2
  go_ret
  exact ⟨rfl, rfl⟩
theorem closeR_nil (w : World) : Calls Try.prog 29 #[.pointer none] w fun e w' => e = .returned (.int .i64 1) ∧ w = w' := by
  go_enter Try.func29, Try.ntmps29
  go_wp2_with (go_at_call 27; refine (failedR_nil _).mono ?_; rintro e w' ⟨rfl, rfl⟩)
  go_ret
  exact ⟨rfl, rfl⟩
theorem readInt_nil (w : World) (f : Value) : Calls Try.prog 48 #[.pointer none, f] w fun e w' => e = .returned (.int .i64 0) ∧ w = w' := by
  go_enter Try.func48, Try.ntmps48
  go_wp2
  go_ret
  exact ⟨rfl, rfl⟩
theorem readBool_nil (w : World) (f : Value) : Calls Try.prog 55 #[.pointer none, f] w fun e w' => e = .returned (.bool false) ∧ w = w' := by
  go_enter Try.func55, Try.ntmps55
  go_wp2
  go_ret
  exact ⟨rfl, rfl⟩
theorem readStr_nil (w : World) (f : Value) : Calls Try.prog 57 #[.pointer none, f] w fun e w' => e = .returned (.string ByteArray.empty) ∧ w = w' := by
  go_enter Try.func57, Try.ntmps57
  go_wp2
  go_ret
  exact ⟨rfl, rfl⟩
theorem mkf (fn : Fn) (first cap : Array Value) (w : World) : (Instr.makeFunc fn first cap).run Try.prog w = .ok (.func fn first cap) w := rfl
theorem numberR_nil (w : World) (n : Int) : Calls Try.prog 37 #[.pointer none, .int .i64 n] w fun e w' => e = .returned (.int .i64 0) ∧ Below w.heap.size w w' := by
  have hmf := mkf
  go_enter Try.func37, Try.ntmps37
  go_wp2_with (go_at_call 48; refine (readInt_nil _ _).mono ?_; rintro e w' ⟨rfl, rfl⟩)
  go_ret
  exact ⟨rfl, below_alloc _ _⟩
theorem textR_nil (w : World) (n : Int) : Calls Try.prog 39 #[.pointer none, .int .i64 n] w fun e w' => e = .returned (.string ByteArray.empty) ∧ Below w.heap.size w w' := by
  have hmf := mkf
  go_enter Try.func39, Try.ntmps39
  go_wp2_with (go_at_call 57; refine (readStr_nil _ _).mono ?_; rintro e w' ⟨rfl, rfl⟩)
  go_ret
  exact ⟨rfl, below_alloc _ _⟩
theorem signedR_nil (w : World) : Calls Try.prog 32 #[.pointer none] w fun e w' => e = .returned (.int .i64 0) ∧ w = w' := by
  have hmf := mkf
  go_enter Try.func32, Try.ntmps32
  go_wp2_with (go_at_call 48; refine (readInt_nil _ _).mono ?_; rintro e w' ⟨rfl, rfl⟩)
  go_ret
  exact ⟨rfl, rfl⟩
theorem flagR_nil (w : World) : Calls Try.prog 38 #[.pointer none] w fun e w' => e = .returned (.bool false) ∧ w = w' := by
  have hmf := mkf
  go_enter Try.func38, Try.ntmps38
  go_wp2_with (go_at_call 55; refine (readBool_nil _ _).mono ?_; rintro e w' ⟨rfl, rfl⟩)
  go_ret
  exact ⟨rfl, rfl⟩
set_option maxHeartbeats 1000000 in
set_option maxRecDepth 100000 in
theorem codecNil_walk (n : Int) (s : ByteArray) (w : World) (hn : (Lit.int .i64 n).wf = true) (hs : s.size ≤ maxLen) :
    Calls Try.prog 11 #[.int .i64 n, .string s] w fun r w' => r = .returned (.bool true) ∧ Below w.heap.size w w' := by
  unfold maxLen at hs
  have hs2 : (0 : Int) ≤ (s.size : Int) := by omega
  go_enter Try.func11, Try.ntmps11
  go_wp2_with fail
  obtain ⟨u, hu⟩ : ∃ u, u = s.extract 0 (min (s.size : Int) 100).toNat := ⟨_, rfl⟩
  have hus : u.size ≤ 9223372036854775807 := by rw [hu, ByteArray.size_extract]; omega
  rw [← hu]
  clear hu
  refine (number_nil w n).mono ?_
  rintro x w1 ⟨rfl, rfl⟩
  go_wp2_with fail
  refine (signedW_nil w n).mono ?_
  rintro x w1 ⟨rfl, rfl⟩
  go_wp2_with fail
  refine (flagW_nil w true).mono ?_
  rintro x w1 ⟨rfl, rfl⟩
  go_wp2_with fail
  refine (textW_nil w u hus).mono ?_
  rintro x w1 ⟨rfl, rfl⟩
  go_wp2_with fail
  refine (bytes_nil w).mono ?_
  rintro x w1 ⟨rfl, rfl⟩
  go_wp2_with fail
  refine (failedR_nil w).mono ?_
  rintro x w1 ⟨rfl, rfl⟩
  go_wp2_with fail
  refine (known_any w).mono ?_
  rintro x w1 ⟨rfl, hb⟩
  have HB := Lib.hid hb
  clear hb
  go_wp2_with fail
  refine (len_nil w1).mono ?_
  rintro x w2 ⟨rfl, rfl⟩
  go_wp2_with fail
  refine (numberR_nil w1 n).mono ?_
  rintro x w2 ⟨rfl, hb2⟩
  have HB2 := Lib.hid hb2
  clear hb2
  go_wp2_with fail
  refine (signedR_nil w2).mono ?_
  rintro x w3 ⟨rfl, rfl⟩
  go_wp2_with fail
  refine (flagR_nil w2).mono ?_
  rintro x w3 ⟨rfl, rfl⟩
  go_wp2_with fail
  refine (textR_nil w2 n).mono ?_
  rintro x w3 ⟨rfl, hb3⟩
  have HB3 := Lib.hid hb3
  clear hb3
  go_wp2_with fail
  refine (restR_nil w3).mono ?_
  rintro x w4 ⟨rfl, rfl⟩
  go_wp2_with fail
  refine (closeR_nil w3).mono ?_
  rintro x w4 ⟨rfl, rfl⟩
  go_wp2
  go_ret
  exact ⟨rfl, HB.out.trans ((HB2.out.trans (HB3.out.mono HB2.out.size)).mono HB.out.size)⟩
end Go.Proofs.Ytfjigooahdfbpaa
