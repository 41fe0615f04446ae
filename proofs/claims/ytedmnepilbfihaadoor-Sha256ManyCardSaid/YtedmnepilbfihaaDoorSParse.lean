/- The walks of the reference's digit and Parse, and of sha256.Parse. -/
import Derived.Test.YtedmnepilbfihaaDoorSNib
import Derived.Test.YtedmnepilbfihaaDoorSRSum
import Derived.Test.YtedmnepilbfihaaDoorShelf
import Derived.OwnWalk
set_option linter.unusedVariables false
namespace Go.Proofs.YtedmnepilbfihaaDoor
open Go.RowKit

theorem hexS_lit : hexS = ⟨#[48, 49, 50, 51, 52, 53, 54, 55, 56, 57, 97, 98, 99, 100, 101, 102]⟩ := rfl

set_option maxRecDepth 100000 in
theorem digit_any (c : UInt8) (w : World) : Calls Tryd.prog 43 #[bv c] w fun e w' => e = .returned (.int .i64 (nib c)) ∧ w = w' := by
  go_enter Tryd.func43, Tryd.ntmps43
  go_wp2
  go_loop [3] (fun i => ∃ k : Nat, i = .int .i64 (k : Int) ∧ k ≤ 16 ∧ nib c = digFrom c (16 - k) k) (fun i => 16 - (intOf i).toNat)
  case atStart => exact ⟨0, rfl, by omega, rfl⟩
  case round =>
    obtain ⟨k, rfl, hk, hn⟩ := hrel
    have HN := Lib.hid hn
    clear hn
    by_cases hk2 : (k : Int) < 16
    · have hx := hex_index Tryd.prog 9 Tryd.underlying9 .i64 k (by omega)
      rw [hexS_lit] at hx
      by_cases he : hexD k = c
      · have hb : (((hexD k).toNat : Int) == (c.toNat : Int)) = true := by rw [he]; simp
        go_wp2
        go_ret
        refine ⟨?_, rfl⟩
        rw [HN.out, show 16 - k = (16 - (k + 1)) + 1 by omega, digFrom, if_pos (by simpa using he)]
        rfl
      · have hb : (((hexD k).toNat : Int) == (c.toNat : Int)) = false := by
          rw [beq_eq_false_iff_ne]; intro e; exact he (UInt8.toNat_inj.1 (by omega))
        go_wp2
        go_round
        case rel =>
          refine ⟨k + 1, rfl, by omega, ?_⟩
          rw [HN.out, show 16 - k = (16 - (k + 1)) + 1 by omega, digFrom, if_neg (by simpa using he)]
        case measure => simp [intOf] <;> omega
    · have hk3 : k = 16 := by omega
      subst hk3
      go_wp2
      go_ret
      exact ⟨by rw [HN.out]; rfl, rfl⟩

theorem results_mid3 {P : Program} {fn : Func} {p q r : Tmp} {ty : TypeId} (h : fn.results = #[.cell p ty, .tmp q, .tmp r]) (tmps : Array Value) (w : World) (g : Nat) (cs : List Value) (d : TypeDesc)
    (hp : tmps.getD p undef = .pointer (some ⟨g, 0, none⟩)) (hg : Arr w g 0 cs) (hu : P.underlying ty = some d) (hd : d.isRow = true) (hi : (P.info? ty).map (·.size) = some cs.length) :
    (results fn tmps).run P w = .ok (.tuple #[.agg cs.toArray, tmps.getD q undef, tmps.getD r undef]) w := by
  have hp' : tmps[p]?.getD undef = .pointer (some ⟨g, 0, none⟩) := by simpa using hp
  simp [results, h, hp', asAddr, run_loadVar_mid w g 0 ty cs d hg.1 hu hd hi]

theorem parse_setup (w : World) (z0 z : Array Value) (h0 : z0 = zero32.toArray) (hz : z = zero32.toArray) (s t : TypeId) :
    Arr ((w.alloc (.cells z0 s)).alloc (.cells z t)) w.heap.size 0 zero32 ∧ Arr ((w.alloc (.cells z0 s)).alloc (.cells z t)) (w.heap.size + 1) 0 ((zs 32).map bv) ∧ Below w.heap.size w ((w.alloc (.cells z0 s)).alloc (.cells z t)) := by
  subst h0 hz
  have e1 : (w.alloc (Obj.cells zero32.toArray s)).heap.size = w.heap.size + 1 := by simp
  refine ⟨(Arr.new w _ _).alloc _, ?_, (below_alloc0 _ _ (Nat.le_refl _)).alloc (by simp) _⟩
  rw [← e1, zero32_bv]; exact Arr.new _ zero32 t
theorem info32r : (Tryd.prog.info? 24).map (·.size) = some 32 := by kernel_rfl
theorem bad_here (s : List UInt8) (k M : Nat) (hk : k < M) (h : badP s = badFrom s (M - k) k) (hn : nib (s.getD k 0) < 0) : badP s = some k := by
  rw [h, show M - k = (M - (k + 1)) + 1 by omega, badFrom, if_pos hn]
theorem bad_next (s : List UInt8) (k M : Nat) (hk : k < M) (h : badP s = badFrom s (M - k) k) (hn : ¬ nib (s.getD k 0) < 0) : badP s = badFrom s (M - (k + 1)) (k + 1) := by
  rw [h, show M - k = (M - (k + 1)) + 1 by omega, badFrom, if_neg hn]
theorem parseR_bad (s : List UInt8) (k : Nat) (h : badP s = some k) : parseR s = (zs 32, k, 6) := by unfold parseR; rw [h]
theorem parseR_short (s : List UInt8) (h : badP s = none) (h1 : s.length < 64) : parseR s = (zs 32, s.length, 4) := by unfold parseR; rw [h]; exact if_pos h1
theorem parseR_long (s : List UInt8) (h : badP s = none) (h1 : 64 < s.length) : parseR s = (zs 32, 64, 5) := by
  unfold parseR; rw [h]
  show (if s.length < 64 then _ else _) = _
  rw [if_neg (by omega), if_pos h1]
theorem parseR_ok (s : List UInt8) (h : badP s = none) (h1 : s.length = 64) : parseR s = (accP s 64, 0, 0) := by
  unfold parseR; rw [h]
  show (if s.length < 64 then _ else _) = _
  rw [if_neg (by omega), if_neg (by omega)]

theorem push_add (x : UInt8) (j : Nat) (hj : j < 16) : (x.toNat : Int) * 16 % 256 + (j : Int) = ((pushN x j).toNat : Int) := by
  unfold pushN
  rw [UInt8.toNat_ofNat']
  have := x.toNat_lt
  omega

set_option maxHeartbeats 1000000 in
set_option maxRecDepth 100000 in
theorem refParse_any (S : ByteArray) (w : World) (hS : S.size ≤ 200) :
    Calls Tryd.prog 28 #[.string S] w fun e w' => e = .returned (.tuple #[.agg ((parseR S.data.toList).1.map bv).toArray, .int .i64 ((parseR S.data.toList).2.1 : Int), .int .i64 ((parseR S.data.toList).2.2 : Int)]) ∧ Below w.heap.size w w' := by
  obtain ⟨s, es⟩ : ∃ s, s = S.data.toList := ⟨_, rfl⟩
  have hsl : s.length = S.size := by rw [es]; simp
  rw [← es]
  have HI32 : Hid (∀ l : List UInt8, l.length = 32 → (Tryd.prog.info? 24).map (·.size) = some (l.map bv).toArray.size) := Lib.hid fun l hl => by rw [info32r, List.size_toArray, List.length_map, hl]
  have HI33 : Hid (∀ l : List UInt8, l.length = 32 → (Tryd.prog.info? 24).map (·.size) = some (l.map bv).length) := Lib.hid fun l hl => by rw [info32r, List.length_map, hl]
  have HZ : Hid ((zs 32).map bv = zero32) := Lib.hid zero32_bv
  have HSL := Lib.hid hsl
  have HES := Lib.hid es
  clear hsl es
  go_enter Tryd.func28, Tryd.ntmps28
  go_wp2
  refine cwp_gen (fun V => Arr V w.heap.size 0 zero32 ∧ Arr V (w.heap.size + 1) 0 ((zs 32).map bv) ∧ Below w.heap.size w V) (parse_setup w _ _ rfl rfl _ _) ?_
  rintro V ⟨a0, a1, aB⟩
  have A0 := Lib.hid a0
  have A1 := Lib.hid a1
  have AB := Lib.hid aB
  clear a0 a1 aB
  go_loopw [6] (fun i wr => ∃ k : Nat, i = .int .i64 (k : Int) ∧ k ≤ min S.size 64 ∧ badP s = badFrom s (min S.size 64 - k) k ∧ Arr wr w.heap.size 0 zero32 ∧ Arr wr (w.heap.size + 1) 0 ((accP s k).map bv) ∧ Below w.heap.size w wr) (fun i _ => 64 - (intOf i).toNat)
  case atStart => exact ⟨0, rfl, by omega, by unfold badP; rw [HSL.out]; rfl, A0.out, A1.out, AB.out⟩
  case round =>
    obtain ⟨k, rfl, hk, hbad, r0, r1, rB⟩ := hrel
    have R0 := Lib.hid r0
    have R1 := Lib.hid r1
    have RB := Lib.hid rB
    have HBAD := Lib.hid hbad
    by_cases hlt : k < min S.size 64
    · have h1 : (k : Int) < (S.size : Int) := by omega
      have h2 : (k : Int) < 64 := by omega
      have h3 : k < S.size := by omega
      obtain ⟨c, hc⟩ : ∃ c, c = s.getD k 0 := ⟨_, rfl⟩
      have hix : ∀ W, (Instr.index 9 (.string S) (.int .i64 (k : Int))).run Tryd.prog W = .ok (bv c) W := fun W => by
        rw [run_index_string W 9 S .i64 k Tryd.underlying9, dif_pos ⟨by omega, h1⟩]
        rw [hc, HES.out, List.getD_eq_getElem?_getD, List.getElem?_eq_getElem (by simpa using h3)]
        rfl
      have HC := Lib.hid hc
      by_cases hneg : nib c < 0
      · have hn : nib c = -1 := by
          rcases nib_spec c with h | ⟨j, h, _⟩
          · exact h
          · omega
        have HD : Hid (∀ W, Calls Tryd.prog 43 #[bv c] W fun e w' => e = .returned (.int .i64 (-1)) ∧ W = w') := Lib.hid fun W => by rw [← hn]; exact digit_any c W
        have HP := Lib.hid (parseR_bad s k (bad_here s k _ hlt hbad (by rw [← hc]; exact hneg)))
        clear r0 r1 rB hbad hc hn
        go_wp2_with (first
          | (go_at_call 43; refine (HD.out _).mono ?_; rintro e w' ⟨rfl, rfl⟩)
          | (refine wpList_store_mid (by rfl) 24 (.tmp 2) (.tmp 24) (by rfl) w.heap.size 0 zero32.toArray (by rfl) (by rfl) (R0.out.thereA zero32 rfl) (by rw [← zero32_bv]; exact HI32.out _ (by simp [zs])) (all_oneCell_toArray (by rw [← zero32_bv]; exact bvs_oneCell _)) ?_))
        refine bodyPost_ret (results_mid3 rfl _ _ w.heap.size zero32 _ rfl (R0.out.sets _ rfl) Tryd.underlying24 rfl (by rw [← zero32_bv]; exact HI33.out _ (by simp [zs]))) rfl ?_
        refine ⟨?_, below_setCells _ (Nat.le_refl _) _ _ _ RB.out⟩
        rw [HP.out, zero32_bv]
        rfl
      · obtain ⟨j, hj, hj16, _⟩ := (nib_spec c).resolve_left (by omega)
        have HD : Hid (∀ W, Calls Tryd.prog 43 #[bv c] W fun e w' => e = .returned (.int .i64 (j : Int)) ∧ W = w') := Lib.hid fun W => by rw [← hj]; exact digit_any c W
        have HB2 := Lib.hid (bad_next s k _ hlt hbad (by rw [← hc]; exact hneg))
        obtain ⟨x, hx⟩ : ∃ x, x = (accP s k).getD (k / 2) 0 := ⟨_, rfl⟩
        have hk2 : k / 2 < (accP s k).length := by rw [accP_length]; omega
        have hl32 : ((accP s k).map bv).length = 32 := by rw [List.length_map, accP_length]
        have hcx := r1.cell0 (i := k / 2) (v := bv x) (by rw [hx, List.getElem?_map, List.getD_eq_getElem?_getD, List.getElem?_eq_getElem hk2]; rfl)
        have hf := r1.frozen0 (i := k / 2) (by rw [hl32]; omega)
        have HAcc : Hid (accP s (k + 1) = (accP s k).set (k / 2) (pushN x j)) := Lib.hid (by rw [accP, ← hx, ← hc, hj]; rfl)
        have HL32 := Lib.hid hl32
        have HK2 := Lib.hid hk2
        clear r0 r1 rB hbad hc hj hx hl32 hk2 hneg
        go_wp2_with (go_at_call 43; refine (HD.out _).mono ?_; rintro e w' ⟨rfl, rfl⟩)
        rw [push_add x j hj16]
        go_roundw
        case rel =>
          refine ⟨k + 1, rfl, by omega, HB2.out, R0.out.other _ (.inl (by show w.heap.size + 1 ≠ w.heap.size; omega)), ?_, RB.out.setCell (p := ⟨w.heap.size + 1, k / 2, none⟩) (by show w.heap.size ≤ w.heap.size + 1; omega) _⟩
          rw [HAcc.out, List.map_set]
          exact R1.out.set0 (i := k / 2) (by rw [HL32.out]; omega) _
        case measure => simp [intOf] <;> omega
    · have hkM : k = min S.size 64 := by omega
      have hb2 : badP s = none := by rw [hbad, hkM, Nat.sub_self]; rfl
      by_cases hsh : (S.size : Int) < 64
      · have HP := Lib.hid (parseR_short s hb2 (by rw [HSL.out]; omega))
        have hk2 : k = S.size := by omega
        have hg : ¬ (k : Int) < (S.size : Int) := by omega
        have HK := Lib.hid hk2
        clear r0 r1 rB hbad hb2 hkM hk2
        go_wp2_with (refine wpList_store_mid (by rfl) 24 (.tmp 2) (.tmp 40) (by rfl) w.heap.size 0 zero32.toArray (by rfl) (by rfl) (R0.out.thereA zero32 rfl) (by rw [← zero32_bv]; exact HI32.out _ (by simp [zs])) (all_oneCell_toArray (by rw [← zero32_bv]; exact bvs_oneCell _)) ?_)
        refine bodyPost_ret (results_mid3 rfl _ _ w.heap.size zero32 _ rfl (R0.out.sets _ rfl) Tryd.underlying24 rfl (by rw [← zero32_bv]; exact HI33.out _ (by simp [zs]))) rfl ?_
        refine ⟨?_, below_setCells _ (Nat.le_refl _) _ _ _ RB.out⟩
        rw [HP.out, zero32_bv, HSL.out]
        rfl
      · have hk2 : k = 64 := by omega
        have hg : ¬ (k : Int) < 64 := by omega
        by_cases hlo : (64 : Int) < (S.size : Int)
        · have HP := Lib.hid (parseR_long s hb2 (by rw [HSL.out]; omega))
          have hg2 : (k : Int) < (S.size : Int) := by omega
          clear r0 r1 rB hbad hb2 hkM hk2
          go_wp2_with (refine wpList_store_mid (by rfl) 24 (.tmp 2) (.tmp 46) (by rfl) w.heap.size 0 zero32.toArray (by rfl) (by rfl) (R0.out.thereA zero32 rfl) (by rw [← zero32_bv]; exact HI32.out _ (by simp [zs])) (all_oneCell_toArray (by rw [← zero32_bv]; exact bvs_oneCell _)) ?_)
          refine bodyPost_ret (results_mid3 rfl _ _ w.heap.size zero32 _ rfl (R0.out.sets _ rfl) Tryd.underlying24 rfl (by rw [← zero32_bv]; exact HI33.out _ (by simp [zs]))) rfl ?_
          refine ⟨?_, below_setCells _ (Nat.le_refl _) _ _ _ RB.out⟩
          rw [HP.out, zero32_bv]
          rfl
        · have HP := Lib.hid (parseR_ok s hb2 (by rw [HSL.out]; omega))
          have hg2 : ¬ (k : Int) < (S.size : Int) := by omega
          obtain ⟨d, hd⟩ : ∃ d, d = accP s 64 := ⟨_, rfl⟩
          rw [hk2, ← hd] at r1
          rw [← hd] at HP
          have hdl : d.length = 32 := by rw [hd]; exact accP_length _ _
          have R1' := Lib.hid r1
          have HDL := Lib.hid hdl
          have R0T := Lib.hid (r0.thereA (d.map bv) (by rw [List.length_map, hdl]; rfl))
          clear r0 r1 rB hbad hb2 hkM hk2 hd hdl
          go_wp2_with (first
            | (refine wpList_load_mid (by rfl) 24 (.tmp 5) (by rfl) (w.heap.size + 1) 0 (by rfl) (d.map bv) _ R1'.out.1 Tryd.underlying24 rfl (HI33.out _ HDL.out) ?_)
            | (refine wpList_store_mid (by rfl) 24 (.tmp 2) (.tmp 47) (by rfl) w.heap.size 0 (d.map bv).toArray (by rfl) (by rfl) R0T.out (HI32.out _ HDL.out) (all_oneCell_toArray (bvs_oneCell _)) ?_))
          refine bodyPost_ret (results_mid3 rfl _ _ w.heap.size (d.map bv) _ rfl (R0.out.sets _ (by rw [List.length_map, HDL.out]; rfl)) Tryd.underlying24 rfl (HI33.out _ HDL.out)) rfl ?_
          refine ⟨?_, below_setCells _ (Nat.le_refl _) _ _ _ RB.out⟩
          rw [HP.out]
          rfl
theorem u8_or_nat (a b : Nat) (ha : a < 256) (hb : b < 256) : bits .or .u8 (a : Int) (b : Int) = ((a ||| b : Nat) : Int) := by
  have hx : a ||| b < 2 ^ 8 := Nat.or_lt_two_pow (by omega) (by omega)
  have e : ∀ n : Nat, n < 256 → (BitVec.ofInt 8 (n : Int)).toNat = n := fun n hn => by
    rw [BitVec.ofInt_natCast, BitVec.toNat_ofNat]; exact Nat.mod_eq_of_lt (by omega)
  show IntKind.u8.wrap ((BitVec.ofInt 8 (a : Int) ||| BitVec.ofInt 8 (b : Int)).toNat : Int) = _
  rw [BitVec.toNat_or, e a ha, e b hb, IntKind.wrap_u8]
  omega
theorem push_or (x : UInt8) (j : Nat) (hj : j < 16) : bits .or .u8 ((x.toNat : Int) * 16 % 256) (j : Int) = ((pushN x j).toNat : Int) := by
  have e : (x.toNat : Int) * 16 % 256 = ((x.toNat * 16 % 256 : Nat) : Int) := by omega
  have h256 : (x.toNat * 16 % 256) ||| j < 2 ^ 8 := Nat.or_lt_two_pow (by omega) (by omega)
  rw [e, u8_or_nat (x.toNat * 16 % 256) j (by omega) (by omega), ← push_shl x j hj, UInt8.toNat_ofNat', Nat.mod_eq_of_lt h256]
theorem index_any (c : UInt8) (W : World) : Calls Tryd.prog 42 #[.string ⟨#[48, 49, 50, 51, 52, 53, 54, 55, 56, 57, 97, 98, 99, 100, 101, 102]⟩, bv c] W fun e w' => e = .returned (.int .i64 (nib c)) ∧ W = w' := by
  refine (Tryd.strings_IndexByte ⟨#[48, 49, 50, 51, 52, 53, 54, 55, 56, 57, 97, 98, 99, 100, 101, 102]⟩ (c.toNat : Int) W).mono ?_
  rintro e w' ⟨rfl, rfl⟩
  refine ⟨?_, rfl⟩
  have h : ((c.toNat : Int).toNat).toUInt8 = c := by simp
  rw [h]
  have := nib_index c
  rw [hexS_lit] at this
  rw [this]

set_option maxHeartbeats 1000000 in
set_option maxRecDepth 100000 in
theorem parse_any (S : ByteArray) (w : World) (hS : S.size ≤ 200) :
    Calls Tryd.prog 25 #[.string S] w fun e w' => e = .returned (.tuple #[.agg ((parseR S.data.toList).1.map bv).toArray, .int .i64 ((parseR S.data.toList).2.1 : Int), .int .i64 ((parseR S.data.toList).2.2 : Int)]) ∧ Below w.heap.size w w' := by
  obtain ⟨s, es⟩ : ∃ s, s = S.data.toList := ⟨_, rfl⟩
  have hsl : s.length = S.size := by rw [es]; simp
  rw [← es]
  have HI32 : Hid (∀ l : List UInt8, l.length = 32 → (Tryd.prog.info? 25).map (·.size) = some (l.map bv).toArray.size) := Lib.hid fun l hl => by rw [info32, List.size_toArray, List.length_map, hl]
  have HI33 : Hid (∀ l : List UInt8, l.length = 32 → (Tryd.prog.info? 25).map (·.size) = some (l.map bv).length) := Lib.hid fun l hl => by rw [info32, List.length_map, hl]
  have HZ : Hid ((zs 32).map bv = zero32) := Lib.hid zero32_bv
  have HSL := Lib.hid hsl
  have HES := Lib.hid es
  clear hsl es
  by_cases hsz : S.size ≤ 64
  all_goals
   first | (have hm64 : (S.size : Int) ≤ 64 := by omega) | (have hm64 : ¬ (S.size : Int) ≤ 64 := by omega)
   go_enter Tryd.func25, Tryd.ntmps25
   go_wp2
   refine cwp_gen (fun V => Arr V w.heap.size 0 zero32 ∧ Arr V (w.heap.size + 1) 0 ((zs 32).map bv) ∧ Below w.heap.size w V) (parse_setup w _ _ rfl rfl _ _) ?_
   rintro V ⟨a0, a1, aB⟩
   have A0 := Lib.hid a0
   have A1 := Lib.hid a1
   have AB := Lib.hid aB
   clear a0 a1 aB
   go_loopw [11] (fun i wr => ∃ k : Nat, i = .int .i64 (k : Int) ∧ k ≤ min S.size 64 ∧ badP s = badFrom s (min S.size 64 - k) k ∧ Arr wr w.heap.size 0 zero32 ∧ Arr wr (w.heap.size + 1) 0 ((accP s k).map bv) ∧ Below w.heap.size w wr) (fun i _ => 64 - (intOf i).toNat)
   case atStart => exact ⟨0, rfl, by omega, by unfold badP; rw [HSL.out]; rfl, A0.out, A1.out, AB.out⟩
   case round =>
     obtain ⟨k, rfl, hk, hbad, r0, r1, rB⟩ := hrel
     have R0 := Lib.hid r0
     have R1 := Lib.hid r1
     have RB := Lib.hid rB
     have HBAD := Lib.hid hbad
     by_cases hlt : k < min S.size 64
     · have h1 : (k : Int) < (S.size : Int) := by omega
       have h2 : (k : Int) < 64 := by omega
       have h3 : k < S.size := by omega
       obtain ⟨c, hc⟩ : ∃ c, c = s.getD k 0 := ⟨_, rfl⟩
       have hix : ∀ W, (Instr.index 9 (.string S) (.int .i64 (k : Int))).run Tryd.prog W = .ok (bv c) W := fun W => by
         rw [run_index_string W 9 S .i64 k Tryd.underlying9, dif_pos ⟨by omega, h1⟩]
         rw [hc, HES.out, List.getD_eq_getElem?_getD, List.getElem?_eq_getElem (by simpa using h3)]
         rfl
       have HC := Lib.hid hc
       by_cases hneg : nib c < 0
       · have hn : nib c = -1 := by
           rcases nib_spec c with h | ⟨j, h, _⟩
           · exact h
           · omega
         have HD : Hid (∀ W, Calls Tryd.prog 42 #[.string ⟨#[48, 49, 50, 51, 52, 53, 54, 55, 56, 57, 97, 98, 99, 100, 101, 102]⟩, bv c] W fun e w' => e = .returned (.int .i64 (-1)) ∧ W = w') := Lib.hid fun W => by rw [← hn]; exact index_any c W
         have HP := Lib.hid (parseR_bad s k (bad_here s k _ hlt hbad (by rw [← hc]; exact hneg)))
         clear r0 r1 rB hbad hc hn
         go_wp2_with (first
           | (go_at_call 42; refine (HD.out _).mono ?_; rintro e w' ⟨rfl, rfl⟩)
           | (refine wpList_store_mid (by rfl) 25 (.tmp 2) (.tmp 20) (by rfl) w.heap.size 0 zero32.toArray (by rfl) (by rfl) (R0.out.thereA zero32 rfl) (by rw [← zero32_bv]; exact HI32.out _ (by simp [zs])) (all_oneCell_toArray (by rw [← zero32_bv]; exact bvs_oneCell _)) ?_))
         refine bodyPost_ret (results_mid3 rfl _ _ w.heap.size zero32 _ rfl (R0.out.sets _ rfl) Tryd.underlying25 rfl (by rw [← zero32_bv]; exact HI33.out _ (by simp [zs]))) rfl ?_
         refine ⟨?_, below_setCells _ (Nat.le_refl _) _ _ _ RB.out⟩
         rw [HP.out, zero32_bv]
         rfl
       · obtain ⟨j, hj, hj16, _⟩ := (nib_spec c).resolve_left (by omega)
         have HD : Hid (∀ W, Calls Tryd.prog 42 #[.string ⟨#[48, 49, 50, 51, 52, 53, 54, 55, 56, 57, 97, 98, 99, 100, 101, 102]⟩, bv c] W fun e w' => e = .returned (.int .i64 (j : Int)) ∧ W = w') := Lib.hid fun W => by rw [← hj]; exact index_any c W
         have HB2 := Lib.hid (bad_next s k _ hlt hbad (by rw [← hc]; exact hneg))
         obtain ⟨x, hx⟩ : ∃ x, x = (accP s k).getD (k / 2) 0 := ⟨_, rfl⟩
         have hk2 : k / 2 < (accP s k).length := by rw [accP_length]; omega
         have hl32 : ((accP s k).map bv).length = 32 := by rw [List.length_map, accP_length]
         have hcx := r1.cell0 (i := k / 2) (v := bv x) (by rw [hx, List.getElem?_map, List.getD_eq_getElem?_getD, List.getElem?_eq_getElem hk2]; rfl)
         have hf := r1.frozen0 (i := k / 2) (by rw [hl32]; omega)
         have HAcc : Hid (accP s (k + 1) = (accP s k).set (k / 2) (pushN x j)) := Lib.hid (by rw [accP, ← hx, ← hc, hj]; rfl)
         have HL32 := Lib.hid hl32
         have HK2 := Lib.hid hk2
         clear r0 r1 rB hbad hc hj hx hl32 hk2 hneg
         go_wp2_with (go_at_call 42; refine (HD.out _).mono ?_; rintro e w' ⟨rfl, rfl⟩)
         try rw [push_or x j hj16]
         go_roundw
         case rel =>
           refine ⟨k + 1, rfl, by omega, HB2.out, R0.out.other _ (.inl (by show w.heap.size + 1 ≠ w.heap.size; omega)), ?_, RB.out.setCell (p := ⟨w.heap.size + 1, k / 2, none⟩) (by show w.heap.size ≤ w.heap.size + 1; omega) _⟩
           rw [HAcc.out, List.map_set]
           exact R1.out.set0 (i := k / 2) (by rw [HL32.out]; omega) _
         case measure => simp [intOf] <;> omega
     · have hkM : k = min S.size 64 := by omega
       have hb2 : badP s = none := by rw [hbad, hkM, Nat.sub_self]; rfl
       by_cases hsh : (S.size : Int) < 64
       · try (exfalso; omega)
         all_goals
          have HP := Lib.hid (parseR_short s hb2 (by rw [HSL.out]; omega))
          have hk2 : k = S.size := by omega
          first | (have hg : ¬ (k : Int) < (S.size : Int) := by omega) | (have hg : ¬ (k : Int) < 64 := by omega)
          have HK := Lib.hid hk2
          clear r0 r1 rB hbad hb2 hkM hk2
          go_wp2_with (refine wpList_store_mid (by rfl) 25 (.tmp 2) (.tmp 38) (by rfl) w.heap.size 0 zero32.toArray (by rfl) (by rfl) (R0.out.thereA zero32 rfl) (by rw [← zero32_bv]; exact HI32.out _ (by simp [zs])) (all_oneCell_toArray (by rw [← zero32_bv]; exact bvs_oneCell _)) ?_)
          refine bodyPost_ret (results_mid3 rfl _ _ w.heap.size zero32 _ rfl (R0.out.sets _ rfl) Tryd.underlying25 rfl (by rw [← zero32_bv]; exact HI33.out _ (by simp [zs]))) rfl ?_
          refine ⟨?_, below_setCells _ (Nat.le_refl _) _ _ _ RB.out⟩
          rw [HP.out, zero32_bv, HSL.out]
          rfl
       · have hk2 : k = 64 := by omega
         have hg : ¬ (k : Int) < 64 := by omega
         by_cases hlo : (64 : Int) < (S.size : Int)
         · try (exfalso; omega)
           all_goals
            have HP := Lib.hid (parseR_long s hb2 (by rw [HSL.out]; omega))
            have hg2 : (k : Int) < (S.size : Int) := by omega
            clear r0 r1 rB hbad hb2 hkM hk2
            go_wp2_with (refine wpList_store_mid (by rfl) 25 (.tmp 2) (.tmp 45) (by rfl) w.heap.size 0 zero32.toArray (by rfl) (by rfl) (R0.out.thereA zero32 rfl) (by rw [← zero32_bv]; exact HI32.out _ (by simp [zs])) (all_oneCell_toArray (by rw [← zero32_bv]; exact bvs_oneCell _)) ?_)
            refine bodyPost_ret (results_mid3 rfl _ _ w.heap.size zero32 _ rfl (R0.out.sets _ rfl) Tryd.underlying25 rfl (by rw [← zero32_bv]; exact HI33.out _ (by simp [zs]))) rfl ?_
            refine ⟨?_, below_setCells _ (Nat.le_refl _) _ _ _ RB.out⟩
            rw [HP.out, zero32_bv]
            rfl
         · try (exfalso; omega)
           all_goals
            have HP := Lib.hid (parseR_ok s hb2 (by rw [HSL.out]; omega))
            have hg2 : ¬ (k : Int) < (S.size : Int) := by omega
            obtain ⟨d, hd⟩ : ∃ d, d = accP s 64 := ⟨_, rfl⟩
            rw [hk2, ← hd] at r1
            rw [← hd] at HP
            have hdl : d.length = 32 := by rw [hd]; exact accP_length _ _
            have R1' := Lib.hid r1
            have HDL := Lib.hid hdl
            have R0T := Lib.hid (r0.thereA (d.map bv) (by rw [List.length_map, hdl]; rfl))
            clear r0 r1 rB hbad hb2 hkM hk2 hd hdl
            go_wp2_with (first
              | (refine wpList_load_mid (by rfl) 25 (.tmp 5) (by rfl) (w.heap.size + 1) 0 (by rfl) (d.map bv) _ R1'.out.1 Tryd.underlying25 rfl (HI33.out _ HDL.out) ?_)
              | (refine wpList_store_mid (by rfl) 25 (.tmp 2) (.tmp 46) (by rfl) w.heap.size 0 (d.map bv).toArray (by rfl) (by rfl) R0T.out (HI32.out _ HDL.out) (all_oneCell_toArray (bvs_oneCell _)) ?_))
            refine bodyPost_ret (results_mid3 rfl _ _ w.heap.size (d.map bv) _ rfl (R0.out.sets _ (by rw [List.length_map, HDL.out]; rfl)) Tryd.underlying25 rfl (HI33.out _ HDL.out)) rfl ?_
            refine ⟨?_, below_setCells _ (Nat.le_refl _) _ _ _ RB.out⟩
            rw [HP.out]
            rfl
end Go.Proofs.YtedmnepilbfihaaDoor
