/- pack: bytes of more than MaxBytes; the walk of PackLimits. -/
import Derived.Test.YtocohoojnjdkiaaKRepW
import Derived.Test.YtocohoojnjdkiaaQList
set_option linter.unusedVariables false
namespace Go.Proofs.Ytocohoojnjdkiaa
open Go.RowKit

set_option maxHeartbeats 1000000 in
set_option maxRecDepth 100000 in
theorem packWith_long (w : World) (D : Option Addr) (n dc : Nat) (A : Option Addr) (m c : Nat) (hn : 1048576 < n ∨ 1048576 < m) :
    Calls Try.prog 14 #[.slice D n dc, .slice A m c] w fun e w' => e = .returned (.tuple #[.slice none 0 0, .int .i64 5]) ∧ w' = w := by
  by_cases h1 : 1048576 < n
  · have g1 : (n : Int) > 1048576 := by omega
    go_enter Try.func14, Try.ntmps14
    go_wp2
    refine bodyPost_ret (results_tmp2' rfl _ _ _) rfl ?_
    exact ⟨rfl, rfl⟩
  · have g1 : ¬ (n : Int) > 1048576 := by omega
    have g2 : (m : Int) > 1048576 := by omega
    go_enter Try.func14, Try.ntmps14
    go_wp2
    refine bodyPost_ret (results_tmp2' rfl _ _ _) rfl ?_
    exact ⟨rfl, rfl⟩
set_option maxHeartbeats 1000000 in
set_option maxRecDepth 100000 in
theorem pack_long (w : World) (A : Option Addr) (m c : Nat) (hn : 1048576 < m) :
    Calls Try.prog 15 #[.slice A m c] w fun e w' => e = .returned (.tuple #[.slice none 0 0, .int .i64 5]) ∧ w' = w := by
  have HU := Lib.hid (packWith_long w none 0 0 A m c (.inr hn))
  clear hn
  go_enter Try.func15, Try.ntmps15
  go_wp2_with (go_at_call 14; refine HU.out.mono ?_; rintro e V ⟨rfl, hv⟩; subst V)
  refine bodyPost_ret (results_tmp2' rfl _ _ _) rfl ?_
  exact ⟨rfl, rfl⟩
/-- A value of one cell as an element. -/
abbrev One := {v : Value // v.oneCell' = true}
def encOne (x : One) : List Value := [x.1]
theorem encOne_ok : EncK encOne 1 where
  len _ := rfl
  one x u hu := by simp [encOne] at hu; subst hu; exact x.2
  pos := Nat.zero_lt_one
theorem bsT_ok : TypK Try.prog 52 22 1 24 := ⟨Try.underlying52, by
  obtain ⟨i, hi, hz, hs, hb⟩ := info_parts (P := Try.prog) (e := 22) (z := .slice none 0 0) (size := 1) (bytes := 24) (by kernel_rfl)
  exact ⟨i, _, hi, hz, hs, hb, rfl⟩⟩
theorem slv (A : Option Addr) (n c : Nat) : (Value.slice A n c).oneCell' = true := rfl
set_option maxHeartbeats 4000000 in
set_option maxRecDepth 100000 in
theorem packList_two (w : World) (g : Nat) (A : Option Addr) (n c : Nat) (hn : 1048576 < n) (hg : g < w.heap.size) (h0 : w.cell? ⟨g, 0, none⟩ = some (.slice none 0 0)) (h1 : w.cell? ⟨g, 1, none⟩ = some (.slice A n c)) :
    Calls Try.prog 27 #[.slice (some ⟨g, 0, none⟩) 2 2] w fun e w' => e = .returned (.tuple #[.slice none 0 0, .int .i64 5]) ∧ Below w.heap.size w w' := by
  have HL : Hid (∀ W, Calls Try.prog 14 #[.slice none 0 0, .slice A n c] W fun e w' => e = .returned (.tuple #[.slice none 0 0, .int .i64 5]) ∧ w' = W) := Lib.hid fun W => packWith_long W none 0 0 A n c (.inr hn)
  have HP : Hid (∀ W, Calls Try.prog 14 #[.slice none 0 0, .slice none 0 0] W fun e w' => ∃ v, e = .returned (.tuple #[v, .int .i64 0]) ∧ OB 5 w' W.heap.size v (packF [] []) ∧ Below W.heap.size W w') := Lib.hid fun W => packWith_any W none [] 0 none [] 0 RB.nil RB.nil (by simp) (by simp) (by simp)
  obtain ⟨i, z, hi, hz, hs, hbts, _⟩ := bsT_ok.i
  have C0 := Lib.hid (fun W (h : Below w.heap.size w W) => (h.cell (p := ⟨g, 0, none⟩) hg).trans h0)
  have C1 := Lib.hid (fun W (h : Below w.heap.size w W) => (h.cell (p := ⟨g, 1, none⟩) hg).trans h1)
  clear h0 h1 hn
  go_enter Try.func27, Try.ntmps27
  go_wp2_with (at_make; refine wpList_make_own _ rfl _ _ 52 rfl w.heap.size 22 i z 1 Try.underlying52 hi hz hs .i64 .i64 _ 2 rfl rfl rfl (by rw [hbts]; omega) (by unfold maxLen; omega) (Nat.le_refl _) ?_; intro W0 ho hgr; have HO0 : Hid (OQ encOne 1 22 W0 w.heap.size _ []) := Lib.hid ho; have HB0 := Lib.hid ((Below.refl w.heap.size w).grown hgr (Nat.le_refl _) (fun _ h => by cases h)); clear ho hgr)
  clear hi hz hs hbts
  go_loopw [4, 5, 15] (fun pv bv i wr => bv = .slice none 0 0 ∧ Below w.heap.size w wr ∧ ((i = .int .i64 0 ∧ OQ encOne 1 22 wr w.heap.size pv ([] : List One)) ∨ i = .int .i64 1)) (fun _ _ i _ => 2 - (intOf i).toNat)
  case atStart => exact ⟨rfl, HB0.out, .inl ⟨rfl, HO0.out⟩⟩
  case round =>
    obtain ⟨rfl, hb, hi⟩ := hrel
    have c0 := C0.out _ hb
    have c1 := C1.out _ hb
    have HB := Lib.hid hb
    clear hb
    rcases hi with ⟨rfl, ho⟩ | rfl
    · have HO := Lib.hid ho
      clear ho
      go_wp2_with (first
        | (go_at_call 14; refine (HP.out _).mono ?_; rintro e V ⟨v, rfl, ho1, hb1⟩; obtain ⟨vA, vc, hv, _, _, _⟩ := ho1.form; subst hv; have HO1 := Lib.hid (HO.out.under hb1); have HB1 := Lib.hid (HB.out.trans (hb1.mono HB.out.size)); clear ho1 hb1)
        | (at_builtin; refine wpList_pushQ encOne_ok bsT_ok rfl (.tmp 28) (.tmp 30) rfl w.heap.size _ [] rfl ⟨_, slv _ _ _⟩ _ rfl HO1.out rfl ?_ ?_ ?_ ?_; (focus (simp [maxLen])); (focus (simp)); (focus (exact HB1.out.size)); intro v3 W3 ho3 hg3; have HG3 := Lib.hid (HB1.out.trans (hg3.below (B := w.heap.size) HB1.out.size (fun i hi => (HO1.out.lt i hi).1))); clear ho3 hg3))
      go_roundw
      case rel => exact ⟨rfl, HG3.out, .inr rfl⟩
      case measure => simp [intOf]
    · go_wp2_with (go_at_call 14; refine (HL.out _).mono ?_; rintro e V ⟨rfl, hv⟩; subst V)
      refine bodyPost_ret (results_tmp2' rfl _ _ _) rfl ?_
      exact ⟨rfl, HB.out⟩
theorem made_zeros (n : Nat) : (madeCells (Value.int .u8 0).cells (n * 1)).toList = (List.replicate n (0 : UInt8)).map bv := by
  rw [Nat.mul_one, show (Value.int .u8 0).cells = #[Value.int .u8 0] from rfl, toList_madeCells_one, List.map_replicate]
  rfl
set_option maxHeartbeats 4000000 in
set_option maxRecDepth 100000 in
theorem packLimits_walk (a1 : Int) (W : World) (w1 : (Lit.int .u8 a1).wf = true) :
    Calls Try.prog 12 #[.int .u8 a1] W fun e W' => e = .returned (.bool true) ∧ Below W.heap.size W W' := by
  have hbd := wf_u8 w1
  obtain ⟨a, rfl⟩ : ∃ a : Nat, a1 = (a : Int) := ⟨a1.toNat, by omega⟩
  clear w1
  have hconv : IntKind.i64.wrap (a : Int) = (a : Int) := by rw [IntKind.wrap_i64]; omega
  obtain ⟨n, hn⟩ : ∃ n, 1048577 + a = n := ⟨_, rfl⟩
  have hadd : IntKind.i64.wrap (1048577 + (a : Int)) = (n : Int) := by rw [IntKind.wrap_i64]; omega
  obtain ⟨K, hK⟩ : ∃ K : Nat, K = 1048576 := ⟨_, rfl⟩
  have hKi : (1048576 : Int) = (K : Int) := by omega
  have hKn : K < n := by omega
  have hn2 : n ≤ 2000000 := by omega
  obtain ⟨i, hi, hz, hs, hbts⟩ := bslK.parts
  have HLP : Hid (∀ V A c, Calls Try.prog 15 #[.slice A n c] V fun e w' => e = .returned (.tuple #[.slice none 0 0, .int .i64 5]) ∧ w' = V) := Lib.hid fun V A c => pack_long V A n c (by omega)
  have HLW : Hid (∀ V A c, Calls Try.prog 14 #[.slice A n c, .slice none 0 0] V fun e w' => e = .returned (.tuple #[.slice none 0 0, .int .i64 5]) ∧ w' = V) := Lib.hid fun V A c => packWith_long V A n c none 0 0 (.inl (by omega))
  have HLU : Hid (∀ V A c, Calls Try.prog 19 #[.slice A n c, .slice none 0 0, .int .i64 5] V fun e w' => e = .returned (.tuple #[.slice none 0 0, .int .i64 0, .int .i64 5]) ∧ w' = V) := Lib.hid fun V A c => unpackWith_long V A n c none 0 0 5 (by omega) (by omega)
  have HLL : Hid (∀ (V : World) g A c, g < V.heap.size → V.cell? ⟨g, 0, none⟩ = some (.slice none 0 0) → V.cell? ⟨g, 1, none⟩ = some (.slice A n c) → Calls Try.prog 27 #[.slice (some ⟨g, 0, none⟩) 2 2] V fun e w' => e = .returned (.tuple #[.slice none 0 0, .int .i64 5]) ∧ Below V.heap.size V w') := Lib.hid fun V g A c h1 h2 h3 => packList_two V g A n c (by omega) h1 h2 h3
  obtain ⟨z, hzd⟩ : ∃ z : List UInt8, List.replicate K 0 = z := ⟨_, rfl⟩
  have hzl : z.length = K := by rw [← hzd]; simp
  have HZT : Hid ((List.replicate n (0 : UInt8)).take K = z) := Lib.hid (by rw [List.take_replicate, ← hzd, show min K n = K by omega])
  have hzp : (packF [] z).length ≤ 1 + 1 + 3 * ((K + 130) / 131) + 4 := by rw [← hzd]; exact zeros_pack K (by omega)
  have hup : unpackF [] (packF [] z) ((K : Nat) : Int) = .ok z := by
    rw [← hzl]; exact unpack_pack (by simp) (Nat.le_refl _) (by omega)
  obtain ⟨p, hp⟩ : ∃ p, packF [] z = p := ⟨_, rfl⟩
  have HPK : Hid (∀ V Aa ca, RB V V.heap.size Aa z → Calls Try.prog 15 #[.slice Aa K ca] V fun e w' => ∃ v, e = .returned (.tuple #[v, .int .i64 0]) ∧ OB 5 w' V.heap.size v p ∧ Below V.heap.size V w') := Lib.hid fun V Aa ca h => by
    rw [← hp, ← hzl]; exact pack_all V Aa z ca h (by omega)
  rw [hp] at hzp hup
  obtain ⟨np, hnp⟩ : ∃ n, p.length = n := ⟨_, rfl⟩
  rw [hnp] at hzp
  have hnp3 : (np : Int) < 30000 := by omega
  have HUC : Hid (∀ V Ap cp, RB V V.heap.size Ap p → np ≤ cp → Calls Try.prog 21 #[.slice Ap np cp, .int .i64 (K : Int)] V fun e w' => ∃ v a y, e = .returned (.tuple #[v, .int .i64 a, .int .i64 y]) ∧ UnpQ w' (unpackF [] p (K : Int)) v a y ∧ Below V.heap.size V w') := Lib.hid fun V Ap cp h hc => by
    have := unpack_all V Ap p cp (K : Int) h (by omega) (by omega)
    rwa [hnp] at this
  have HUP := Lib.hid hup
  have HNP := Lib.hid hnp
  have HZL := Lib.hid hzl
  have HKI := Lib.hid hKi
  have HN2 := Lib.hid (And.intro hKn hn2)
  have HBT := Lib.hid hbts
  clear hzd hp hnp hzp hup hzl hn hK hbd hbts
  clear hKi hKn hn2
  go_enter Try.func12, Try.ntmps12
  go_upto_region 2 with (at_make; refine wpList_make_full _ rfl _ _ 22 rfl W.heap.size 5 i (.int .u8 0) 1 Try.underlying22 hi hz hs .i64 .i64 _ _ n rfl rfl rfl rfl (by rw [HBT.out]; have := HN2.out.2; omega) (by unfold maxLen; have := HN2.out.2; omega) (Nat.le_refl _) ?_; intro W0 ho hgr; rw [made_zeros] at ho; have HO0 : Hid (OB 5 W0 W.heap.size (.slice (some ⟨W.heap.size, 0, none⟩) n n) (List.replicate n 0)) := Lib.hid (by unfold OB; rw [List.length_replicate]; exact ho); have HB0 := Lib.hid ((Below.refl W.heap.size W).grown hgr (Nat.le_refl _) (fun _ h => by cases h)); clear ho hgr)
  have HR0 : Hid (RB W0 W0.heap.size (some ⟨W.heap.size, 0, none⟩) (List.replicate n 0)) := Lib.hid (by obtain ⟨A3, c3, he, hr3, _⟩ := HO0.out.form; rw [List.length_replicate] at he; cases he; exact hr3)
  clear hconv hadd hi hz hs
  go_upto_region 3 with (go_at_call 15; refine (HLP.out _ _ _).mono ?_; rintro e V ⟨rfl, hv⟩; subst V)
  go_upto_region 4 with (go_at_call 14; refine (HLW.out _ _ _).mono ?_; rintro e V ⟨rfl, hv⟩; subst V)
  go_upto_region 5 with (go_at_call 19; refine (HLU.out _ _ _).mono ?_; rintro e V ⟨rfl, hv⟩; subst V)
  go_upto_region 6 with (go_at_call 27; refine (HLL.out _ _ (some ⟨W.heap.size, 0, none⟩) n ?_ ?_ ?_).mono ?_; (focus (simp)); (focus (exact (Blk.new _ _ _).cell 0)); (focus (exact (Blk.new _ _ _).cell 1)); rintro e V1 ⟨rfl, hb1⟩; have hba := ((Below.refl W0.heap.size W0).alloc (Nat.le_refl _) _).trans (hb1.mono (by simp)); have HRK := Lib.hid (show RB V1 V1.heap.size (some ⟨W.heap.size, 0, none⟩) z from by have := ((HR0.out.below hba).more hba.size).take K; rwa [HZT.out] at this); have HB1 := Lib.hid (HB0.out.trans (hba.mono HB0.out.size)); clear hb1 hba)
  have hsl : ∀ V, (Instr.slice 22 (.slice (some ⟨W.heap.size, 0, none⟩) n n) none (some (.int .i64 1048576)) none).run Try.prog V = .ok (.slice (some ⟨W.heap.size, 0, none⟩) K n) V := fun V => by
    rw [HKI.out]; exact slice_to bslK.u size8 _ n n K (by have := HN2.out.1; omega) V
  go_upto_region 7 with (go_at_call 15; refine (HPK.out _ _ n HRK.out).mono ?_; rintro e V2 ⟨v2, rfl, ho2, hb2⟩; obtain ⟨Ap, cp, hv2, hrp, hcp, _⟩ := ho2.form; rw [HNP.out] at hv2 hcp; subst hv2; have HRP := Lib.hid hrp; have HB2 := Lib.hid (HB1.out.trans (hb2.mono HB1.out.size)); clear ho2 hb2 hrp)
  clear hsl
  have hKi := HKI.out
  go_upto_region 8 with (go_at_call 21; (try rw [hKi]); refine (HUC.out _ Ap cp HRP.out hcp).mono ?_; rintro e V3 ⟨v3, a3, y3, rfl, hq3, hb3⟩; rw [HUP.out] at hq3; obtain ⟨⟨A3, c3, hv3, hr3, hc3⟩, ha3, hy3⟩ := hq3; subst ha3; subst hy3; rw [HZL.out] at hv3 hc3; subst hv3; have HB3 := Lib.hid (HB2.out.trans (hb3.mono HB2.out.size)); clear hb3 hr3)
  go_wp2_with (go_at_call 16; refine (known_any _).mono ?_; rintro e V4 ⟨rfl, hb4⟩; have HB4 := Lib.hid (HB3.out.trans (hb4.mono HB3.out.size)); clear hb4)
  go_ret
  exact ⟨rfl, HB4.out⟩
end Go.Proofs.Ytocohoojnjdkiaa
