/- pack: the reference's token. -/
import Derived.Test.YtocohoojnjdkiaaKFirst
set_option linter.unusedVariables false
namespace Go.Proofs.Ytocohoojnjdkiaa
open Go.RowKit

theorem slice_mid {P : Program} {t e : TypeId} (ht : P.underlying t = some (.slice e)) (hs : (P.info? e).map (·.size) = some 1) (b off n c m k : Nat) (h1 : m + k ≤ n) (h2 : n ≤ c ∧ 0 < k) (hi : Value) (hhi : hi = .int .i64 ((m + k : Nat) : Int)) (lo : Value) (hlo : lo = .int .i64 (m : Int)) (W : World) :
    (Instr.slice t (.slice (some ⟨b, off, none⟩) n c) (some lo) (some hi) none).run P W = .ok (.slice (some ⟨b, off + m, none⟩) k (c - m)) W := by
  subst hhi
  subst hlo
  cases hq : P.info? e with
  | none => simp [hq] at hs
  | some j =>
    have hj : j.size = 1 := by simpa [hq] using hs
    have g1 : ¬ c = m := by omega
    have g2 : (0 : Int) ≤ ((m + k : Nat) : Int) := by omega
    have g3 : m + k ≤ c := by omega
    have g4 : m ≤ m + k := by omega
    have g5 : (0 : Int) ≤ (m : Int) + (k : Int) := by omega
    have g6 : (m : Int) + (k : Int) ≤ (c : Int) := by omega
    have g7 : ((m : Int) + (k : Int)).toNat = m + k := by omega
    by_cases hm : m = 0
    · subst hm
      simp [Instr.slice, Instr.sliceBounds, Instr.sliceBound, asIntOf, run_underlying ht, sizeOf, typeInfo, hq, hj, Result.andThen, g1, Addr.add] at *
      simp [g3]
    · simp [Instr.slice, Instr.sliceBounds, Instr.sliceBound, asIntOf, run_underlying ht, sizeOf, typeInfo, hq, hj, Result.andThen, g1, g5, g6, g7, hm, Addr.add]
/-- What the reference's token answers: its literals are its own. -/
def FirstR (W : World) (base : Nat) (p : List UInt8) (x : Value) (s e : Int) : Prop := match tok1 p with
  | .error k => x = tokV none 0 0 0 0 ∧ s = 0 ∧ e = (k : Int)
  | .ok (t, k) => (∃ A c, x = tokV A t.lits.length c t.dist t.len ∧ OB 5 W base (.slice A t.lits.length c) t.lits) ∧ s = (k : Int) ∧ e = 0
set_option maxHeartbeats 4000000 in
set_option maxRecDepth 100000 in
theorem rtoken_any (w : World) (A : Option Addr) (p : List UInt8) (c at_ : Nat) (hr : RB w w.heap.size A p) (h1 : at_ < p.length) (hc : p.length ≤ c) (hl : p.length ≤ 4000000) :
    Calls Try.prog 41 #[.slice A p.length c, .int .i64 (at_ : Int)] w fun e w' => ∃ x s y, e = .returned (.tuple #[x, .int .i64 s, .int .i64 y]) ∧ FirstR w' w.heap.size (p.drop at_) x s y ∧ Below w.heap.size w w' := by
  obtain ⟨b, off, rfl, hb, hcs⟩ := rb_byt hr (i := 0) (by omega)
  have HR := Lib.hid hr
  obtain ⟨n, hn⟩ : ∃ n, p.length = n := ⟨_, rfl⟩
  rw [hn] at h1 hc hl hcs ⊢
  have HN := Lib.hid hn
  have hdl : (p.drop at_).length = n - at_ := by rw [List.length_drop, hn]
  have HDL := Lib.hid hdl
  obtain ⟨x0, hx0⟩ : ∃ x0, byt p at_ = x0 := ⟨_, rfl⟩
  have hx0l := byt_lt p at_
  rw [hx0] at hx0l
  have k0 : w.cell? ⟨b, off + at_, none⟩ = some (.int .u8 (x0 : Int)) := by have := hcs at_ (by omega); rwa [hx0] at this
  have hne : w.heap.size ≠ b := by omega
  have p1 : (at_ : Int) < (n : Int) := by omega
  have p0 : (0 : Int) ≤ (at_ : Int) := by omega
  have HX0 : Hid (byt (p.drop at_) 0 = x0) := Lib.hid (by rw [byt_drop, Nat.add_zero, hx0])
  have HCS := Lib.hid hcs
  clear hr hn hx0 hcs hdl
  have v0 : IntKind.i64.wrap (x0 : Int) = (x0 : Int) := by rw [IntKind.wrap_i64]; omega
  by_cases hx : x0 < 128
  · have hx' : (x0 : Int) < 128 := by omega
    have w1 : IntKind.i64.wrap ((x0 : Int) + 1) = (x0 : Int) + 1 := by rw [IntKind.wrap_i64]; omega
    have w2 : IntKind.i64.wrap ((at_ : Int) + 1) = (at_ : Int) + 1 := by rw [IntKind.wrap_i64]; omega
    have w3 : IntKind.i64.wrap ((at_ : Int) + 1 + ((x0 : Int) + 1)) = (at_ : Int) + 1 + ((x0 : Int) + 1) := by rw [IntKind.wrap_i64]; omega
    have w4 : IntKind.i64.wrap (1 + ((x0 : Int) + 1)) = 1 + ((x0 : Int) + 1) := by rw [IntKind.wrap_i64]; omega
    by_cases hs : n < at_ + 1 + (x0 + 1)
    · have hs' : (at_ : Int) + 1 + ((x0 : Int) + 1) > (n : Int) := by omega
      go_enter Try.func41, Try.ntmps41
      go_wp2
      refine bodyPost_ret (results_cell_tmp2 rfl _ _ w.heap.size _ _ _ _ rfl (heap_alloc_new _ _) Try.underlying46 (by kernel_rfl)) rfl ?_
      refine ⟨_, _, _, rfl, ?_, (Below.refl _ _).alloc (Nat.le_refl _) _⟩
      unfold FirstR tok1
      rw [HX0.out, HDL.out, if_pos hx, if_pos (by omega)]
      exact ⟨rfl, rfl, rfl⟩
    · have hs' : ¬ (at_ : Int) + 1 + ((x0 : Int) + 1) > (n : Int) := by omega
      have hsl : ∀ V, (Instr.slice 22 (.slice (some ⟨b, off, none⟩) n c) (some (.int .i64 ((at_ : Int) + 1))) (some (.int .i64 ((at_ : Int) + 1 + ((x0 : Int) + 1)))) none).run Try.prog V = .ok (.slice (some ⟨b, off + (at_ + 1), none⟩) (x0 + 1) (c - (at_ + 1))) V := fun V =>
        slice_mid bslK.u (by kernel_rfl) b off n c (at_ + 1) (x0 + 1) (by omega) (by omega) _ (by congr 1) _ (by congr 1) V
      have hlit : ((p.drop (at_ + 1)).take (x0 + 1)).length = x0 + 1 := by have := HN.out; simp; omega
      obtain ⟨L, hL⟩ : ∃ L, (p.drop (at_ + 1)).take (x0 + 1) = L := ⟨_, rfl⟩
      have hlr : RB w w.heap.size (some ⟨b, off + (at_ + 1), none⟩) L := by
        rw [← hL]
        refine RB.take (fun hn2 => ?_) (x0 + 1)
        obtain ⟨b', off', he, hb', hc'⟩ := HR.out (by have := HN.out; omega)
        cases he
        refine ⟨b, off + (at_ + 1), rfl, hb', fun j cc hj => ?_⟩
        rw [List.getElem?_drop] at hj
        rw [Nat.add_assoc]
        exact hc' _ cc hj
      rw [hL] at hlit
      have HLI := Lib.hid hlit
      have HLR := Lib.hid hlr
      have HL := Lib.hid hL
      have e0 : (w.alloc (.cells #[.slice none 0 0, .int .i64 0, .int .i64 0] 46)).heap.size = w.heap.size + 1 := by simp
      have ho : OB 5 ((w.alloc (.cells #[.slice none 0 0, .int .i64 0, .int .i64 0] 46)).alloc (.cells #[] 5)) w.heap.size (.slice (some ⟨w.heap.size + 1, 0, none⟩) 0 0) [] :=
        ⟨rfl, .inr ⟨w.heap.size + 1, 0, #[], rfl, by omega, by rw [← e0]; exact heap_alloc_new _ _, Nat.le_refl _, Nat.zero_le _, rfl, rfl⟩⟩
      have hbw : Below w.heap.size w ((w.alloc (.cells #[.slice none 0 0, .int .i64 0, .int .i64 0] 46)).alloc (.cells #[] 5)) := ((Below.refl _ _).alloc (Nat.le_refl _) _).alloc (by simp) _
      have HO := Lib.hid ho
      have HBW := Lib.hid hbw
      have hblk : Blk ((w.alloc (.cells #[.slice none 0 0, .int .i64 0, .int .i64 0] 46)).alloc (.cells #[] 5)) w.heap.size 46 #[.slice none 0 0, .int .i64 0, .int .i64 0] := (Blk.new w _ _).alloc _
      have HBLK := Lib.hid hblk
      clear ho hbw hlr hlit hL hblk e0
      go_enter Try.func41, Try.ntmps41
      go_wp2_with (at_builtin; refine wpList_app bslK rfl (.tmp 28) (.tmp 36) rfl w.heap.size _ [] ?_ HO.out w.heap.size (some ⟨b, off + (at_ + 1), none⟩) L (c - (at_ + 1)) ?_ ?_ ?_ ?_ ?_; (focus rfl); (focus (rw [HLI.out]; rfl)); (focus (exact HLR.out.below HBW.out)); (focus (rw [HLI.out]; simp; omega)); (focus (exact HBW.out.size)); intro v1 W1 ho1 hg1; obtain ⟨A1, c1, hv1, hr1, hc1, _⟩ := ho1.form; subst hv1; have HO1 := Lib.hid ho1; have hbk := HBLK.out.mod hg1.mod (fun e => HO.out.ne_blk HBLK.out (by decide) e); have HBK := Lib.hid hbk; have HB1 := Lib.hid (HBW.out.trans (hg1.below HBW.out.size (fun k hk => (HO.out.lt k hk).1))); have d0 : W1.cell? ⟨w.heap.size, 0, none⟩ = some (.slice none 0 0) := hbk.cell 0; have d1 : W1.cell? ⟨w.heap.size, 1, none⟩ = some (.int .i64 0) := hbk.cell 1; have d2 : W1.cell? ⟨w.heap.size, 2, none⟩ = some (.int .i64 0) := hbk.cell 2; have z0 := hbk.frozen 0; have z1 := hbk.frozen 1; have z2 := hbk.frozen 2; clear ho1 hg1 hr1 hc1 hbk)
      have hb3 := ((HBK.out.set_ 0 (.slice A1 L.length c1)).set_ 1 (.int .i64 0)).set_ 2 (.int .i64 0)
      have hmo := (((Mod.refl W1 (fun k => k = w.heap.size)).setCell (p := ⟨w.heap.size, 0, none⟩) (fun _ => rfl) (.slice A1 L.length c1)).setCell (p := ⟨w.heap.size, 1, none⟩) (fun _ => rfl) (.int .i64 0)).setCell (p := ⟨w.heap.size, 2, none⟩) (fun _ => rfl) (.int .i64 0)
      have hof := HO1.out.mod hmo (fun k hk e => (HO1.out.ne_blk HBK.out (by decide)) (e ▸ hk))
      refine bodyPost_ret (results_cell_tmp2 rfl _ _ w.heap.size _ _ _ _ rfl hb3 Try.underlying46 (by kernel_rfl)) rfl ?_
      refine ⟨_, _, _, rfl, ?_, ((HB1.out.setCell (p := ⟨w.heap.size, 0, none⟩) (Nat.le_refl _) _).setCell (p := ⟨w.heap.size, 1, none⟩) (Nat.le_refl _) _).setCell (p := ⟨w.heap.size, 2, none⟩) (Nat.le_refl _) _⟩
      unfold FirstR tok1
      rw [HX0.out, HDL.out, if_pos hx, if_neg (by omega), List.drop_drop, HL.out]
      exact ⟨⟨_, _, rfl, hof⟩, by omega, rfl⟩
  · have hx' : ¬ (x0 : Int) < 128 := by omega
    have w1 : IntKind.i64.wrap ((at_ : Int) + 3) = (at_ : Int) + 3 := by rw [IntKind.wrap_i64]; omega
    by_cases h3 : n < at_ + 3
    · have h3' : (at_ : Int) + 3 > (n : Int) := by omega
      go_enter Try.func41, Try.ntmps41
      go_wp2
      refine bodyPost_ret (results_cell_tmp2 rfl _ _ w.heap.size _ _ _ _ rfl (heap_alloc_new _ _) Try.underlying46 (by kernel_rfl)) rfl ?_
      refine ⟨_, _, _, rfl, ?_, (Below.refl _ _).alloc (Nat.le_refl _) _⟩
      unfold FirstR tok1
      rw [HX0.out, HDL.out, if_neg hx, if_pos (by omega)]
      exact ⟨rfl, rfl, rfl⟩
    · have h3' : ¬ (at_ : Int) + 3 > (n : Int) := by omega
      obtain ⟨x1, hx1⟩ : ∃ x1, byt p (at_ + 1) = x1 := ⟨_, rfl⟩
      obtain ⟨x2, hx2⟩ : ∃ x2, byt p (at_ + 2) = x2 := ⟨_, rfl⟩
      have hx1l := byt_lt p (at_ + 1)
      have hx2l := byt_lt p (at_ + 2)
      rw [hx1] at hx1l
      rw [hx2] at hx2l
      have k1 : w.cell? ⟨b, off + (at_ + 1), none⟩ = some (.int .u8 (x1 : Int)) := by have := HCS.out (at_ + 1) (by omega); rwa [hx1] at this
      have k2 : w.cell? ⟨b, off + (at_ + 2), none⟩ = some (.int .u8 (x2 : Int)) := by have := HCS.out (at_ + 2) (by omega); rwa [hx2] at this
      have HX12 : Hid (byt (p.drop at_) 1 = x1 ∧ byt (p.drop at_) 2 = x2) := Lib.hid ⟨by rw [byt_drop, hx1], by rw [byt_drop, hx2]⟩
      clear hx1 hx2
      have v1 : IntKind.i64.wrap (x1 : Int) = (x1 : Int) := by rw [IntKind.wrap_i64]; omega
      have v2 : IntKind.i64.wrap (x2 : Int) = (x2 : Int) := by rw [IntKind.wrap_i64]; omega
      have c1' : ∀ W, Below w.heap.size w W → W.cell? ⟨b, off + (at_ + 1), none⟩ = some (.int .u8 (x1 : Int)) := fun W h => (h.cell (p := ⟨b, off + (at_ + 1), none⟩) hb).trans k1
      have c2' : ∀ W, Below w.heap.size w W → W.cell? ⟨b, off + (at_ + 2), none⟩ = some (.int .u8 (x2 : Int)) := fun W h => (h.cell (p := ⟨b, off + (at_ + 2), none⟩) hb).trans k2
      have e1 : IntKind.i64.wrap ((x1 : Int) * 256) = (x1 : Int) * 256 := by rw [IntKind.wrap_i64]; omega
      have e2 : IntKind.i64.wrap ((x1 : Int) * 256 + (x2 : Int)) = (x1 : Int) * 256 + (x2 : Int) := by rw [IntKind.wrap_i64]; omega
      have e3 : IntKind.i64.wrap ((x1 : Int) * 256 + (x2 : Int) + 1) = (x1 : Int) * 256 + (x2 : Int) + 1 := by rw [IntKind.wrap_i64]; omega
      have e4 : IntKind.i64.wrap ((x0 : Int) - 128) = (x0 : Int) - 128 := by rw [IntKind.wrap_i64]; omega
      have e5 : IntKind.i64.wrap ((x0 : Int) - 128 + 4) = (x0 : Int) - 124 := by rw [IntKind.wrap_i64]; omega
      have a1 : IntKind.i64.wrap ((at_ : Int) + 1) = (at_ : Int) + 1 := by rw [IntKind.wrap_i64]; omega
      have a2 : IntKind.i64.wrap ((at_ : Int) + 2) = (at_ : Int) + 2 := by rw [IntKind.wrap_i64]; omega
      have q1 : (at_ : Int) + 1 < (n : Int) := by omega
      have q2 : (at_ : Int) + 2 < (n : Int) := by omega
      have q3 : (0 : Int) ≤ (at_ : Int) + 1 := by omega
      have q4 : (0 : Int) ≤ (at_ : Int) + 2 := by omega
      have n1 : ((at_ : Int) + 1).toNat = at_ + 1 := by omega
      have n2 : ((at_ : Int) + 2).toNat = at_ + 2 := by omega
      have hS0 : Below w.heap.size w (w.alloc (.cells #[.slice none 0 0, .int .i64 0, .int .i64 0] 46)) := (Below.refl _ _).alloc (Nat.le_refl _) _
      by_cases hd : 4096 < x1 * 256 + x2 + 1
      · have hd' : (x1 : Int) * 256 + (x2 : Int) + 1 > 4096 := by omega
        go_enter Try.func41, Try.ntmps41
        go_upto_region 8 with fail
        go_region_held3 (fun W => Below w.heap.size w W) (first | assumption | exact Below.drew (by assumption)) (fail)
        clear c1' c2'
        go_wp2
        refine bodyPost_ret (results_cell_tmp2 rfl _ _ w.heap.size _ _ _ _ rfl (heap_alloc_new _ _) Try.underlying46 (by kernel_rfl)) rfl ?_
        refine ⟨_, _, _, rfl, ?_, ((Below.refl _ _).alloc (Nat.le_refl _) _).drew⟩
        unfold FirstR tok1
        rw [HX0.out, HDL.out, HX12.out.1, HX12.out.2, if_neg hx, if_neg (by omega), if_pos hd]
        exact ⟨rfl, rfl, rfl⟩
      · have hd' : ¬ (x1 : Int) * 256 + (x2 : Int) + 1 > 4096 := by omega
        go_enter Try.func41, Try.ntmps41
        go_upto_region 8 with fail
        go_region_held3 (fun W => Below w.heap.size w W) (first | assumption | exact Below.drew (by assumption)) (fail)
        clear c1' c2'
        go_wp2
        refine bodyPost_ret (results_cell_tmp2 rfl _ _ w.heap.size _ _ _ _ rfl (heap_alloc_new _ _) Try.underlying46 (by kernel_rfl)) rfl ?_
        refine ⟨_, _, _, rfl, ?_, ((Below.refl _ _).alloc (Nat.le_refl _) _).drew⟩
        unfold FirstR tok1
        rw [HX0.out, HDL.out, HX12.out.1, HX12.out.2, if_neg hx, if_neg (by omega), if_neg hd]
        refine ⟨⟨none, 0, ?_, OB.nil _ _ _⟩, rfl, rfl⟩
        show tokV none 0 0 ((x1 : Int) * 256 + (x2 : Int) + 1) ((x0 : Int) - 124) = tokV none 0 0 ((x1 * 256 + x2 + 1 : Nat) : Int) ((x0 - 124 : Nat) : Int)
        congr 1 <;> omega
end Go.Proofs.Ytocohoojnjdkiaa
