/- instr: the walk of the reference's DecodeAll. -/
import Derived.Test.YtajkccigmiegkaaDoorIDecP
import Derived.Deep.Cut
set_option linter.unusedVariables false
namespace Go.Proofs.YtajkccigmiegkaaDoor
open Go.RowKit

/-- What a round keeps: the list so far, what lies below. -/
def SD (w : World) (t : TypeId) (v : Value) (q : List Q4) (W : World) : Prop := OQ encQ 4 t W w.heap.size v q ∧ Below w.heap.size w W
theorem SD.under {w W W' : World} {t : TypeId} {v : Value} {q : List Q4} (h : SD w t v q W) (hb : Below W.heap.size W W') : SD w t v q W' := ⟨h.1.under hb, h.2.trans (hb.mono h.2.size)⟩
theorem SD.drew {w W : World} {t : TypeId} {v : Value} {q : List Q4} (h : SD w t v q W) : SD w t v q W.drew := ⟨h.1, h.2.drew⟩
theorem SD.alloc {w W : World} {t : TypeId} {v : Value} {q : List Q4} (h : SD w t v q W) (o : Obj) : SD w t v q (W.alloc o) := h.under (below_alloc0 W o)
/-- A store of an instruction into a block above. -/
theorem below_set4 {B g : Nat} {a w : World} (h : Below B a w) (hg : B ≤ g) (u0 u1 u2 u3 : Value) :
    Below B a ((((w.setCell ⟨g, 0, none⟩ u0).setCell ⟨g, 1, none⟩ u1).setCell ⟨g, 2, none⟩ u2).setCell ⟨g, 3, none⟩ u3) :=
  (((h.setCell (p := ⟨g, 0, none⟩) hg u0).setCell (p := ⟨g, 1, none⟩) hg u1).setCell (p := ⟨g, 2, none⟩) hg u2).setCell (p := ⟨g, 3, none⟩) hg u3
set_option maxHeartbeats 4000000 in
set_option maxRecDepth 100000 in
theorem rdecodeAll_any (A : Option Addr) (l : List UInt8) (c : Nat) (w : World) (hr : RB w w.heap.size A l) (hl : l.length ≤ 200) :
    Calls Tryd.prog 34 #[.slice A l.length c] w fun e w' => ∃ v q x y, e = .returned (.tuple #[v, .int .i64 x, .int .i64 y]) ∧ OQ encQ 4 23 w' w.heap.size v q ∧ DR l q x y ∧ Below w.heap.size w w' := by
  have HR := Lib.hid hr
  obtain ⟨n, hn⟩ : ∃ n, l.length = n := ⟨_, rfl⟩
  rw [hn] at hl
  rw [hn]
  have HN := Lib.hid hn
  clear hr hn
  go_enter Tryd.func34, Tryd.ntmps34
  go_wp2
  go_loopw [5, 6] (fun v i wr => ∃ j m : Nat, m = 4 * j ∧ m ≤ n ∧ i = .int .i64 (m : Int) ∧ (∀ i, i < j → dE l i = 0) ∧ SD w 23 v (dL l j) wr) (fun _ i _ => n + 1 - (intOf i).toNat)
  case atStart => exact ⟨0, 0, rfl, by omega, rfl, fun i h => by omega, OQ.nil _ _, Below.refl _ _⟩
  case round =>
    obtain ⟨j, m, hm, hmn, rfl, hz, hS⟩ := hrel
    have HM := Lib.hid hm
    have HZ := Lib.hid hz
    clear hm hz
    by_cases h4 : m + 4 ≤ n
    · have h1 : (m : Int) + 4 ≤ (n : Int) := by omega
      obtain ⟨b, off, rfl, hb, hc⟩ := rb_byt HR.out (i := m) (by rw [HN.out]; omega)
      have HCC := Lib.hid hc
      clear hc
      have hbz : b < wr.heap.size := Nat.lt_of_lt_of_le hb hS.2.size
      have f : ∀ k, k < 4 → wr.cell? ⟨b, off + (m + k), none⟩ = some (.int .u8 (byt l (m + k) : Int)) := fun k hk => (hS.2.cell (p := ⟨b, off + (m + k), none⟩) hb).trans (HCC.out (m + k) (by rw [HN.out]; omega))
      have f0 := f 0 (by omega)
      have f1 := f 1 (by omega)
      have f2 := f 2 (by omega)
      have f3 := f 3 (by omega)
      clear f
      rw [Nat.add_zero] at f0
      have hd := dE_or l j
      have HD : Hid (∀ W, Calls Tryd.prog 29 #[byV (byt l m) (byt l (m + 1)) (byt l (m + 2)) (byt l (m + 3))] W fun e w' => e = .returned (.tuple #[dV l j, .int .i64 (dE l j)]) ∧ Below W.heap.size W w') := Lib.hid fun W => by
        rw [HM.out]; exact rdecode_any _ _ _ _ W (byt_lt _ _) (byt_lt _ _) (byt_lt _ _) (byt_lt _ _)
      have wr1 : IntKind.i64.wrap ((m : Int) + 1) = (m : Int) + 1 := by rw [IntKind.wrap_i64]; omega
      have wr2 : IntKind.i64.wrap ((m : Int) + 2) = (m : Int) + 2 := by rw [IntKind.wrap_i64]; omega
      have wr3 : IntKind.i64.wrap ((m : Int) + 3) = (m : Int) + 3 := by rw [IntKind.wrap_i64]; omega
      have g0 : (m : Int) < (n : Int) := by omega
      have g1 : (m : Int) + 1 < (n : Int) := by omega
      have g2 : (m : Int) + 2 < (n : Int) := by omega
      have g3 : (m : Int) + 3 < (n : Int) := by omega
      have p1 : (0 : Int) ≤ (m : Int) + 1 := by omega
      have p2 : (0 : Int) ≤ (m : Int) + 2 := by omega
      have p3 : (0 : Int) ≤ (m : Int) + 3 := by omega
      have n1 : ((m : Int) + 1).toNat = m + 1 := by omega
      have n2 : ((m : Int) + 2).toNat = m + 2 := by omega
      have n3 : ((m : Int) + 3).toNat = m + 3 := by omega
      have HS := Lib.hid hS
      have hS0 : Below wr.heap.size wr wr := Below.refl _ _
      have e0 : ∀ W, Below wr.heap.size wr W → W.cell? ⟨b, off + m, none⟩ = some (.int .u8 (byt l m : Int)) := fun W h => (h.cell (p := ⟨b, off + m, none⟩) hbz).trans f0
      have e1 : ∀ W, Below wr.heap.size wr W → W.cell? ⟨b, off + (m + 1), none⟩ = some (.int .u8 (byt l (m + 1) : Int)) := fun W h => (h.cell (p := ⟨b, off + (m + 1), none⟩) hbz).trans f1
      have e2 : ∀ W, Below wr.heap.size wr W → W.cell? ⟨b, off + (m + 2), none⟩ = some (.int .u8 (byt l (m + 2) : Int)) := fun W h => (h.cell (p := ⟨b, off + (m + 2), none⟩) hbz).trans f2
      have e3 : ∀ W, Below wr.heap.size wr W → W.cell? ⟨b, off + (m + 3), none⟩ = some (.int .u8 (byt l (m + 3) : Int)) := fun W h => (h.cell (p := ⟨b, off + (m + 3), none⟩) hbz).trans f3
      clear f0 f1 f2 f3 hS hb hbz
      rcases hd with ⟨d1, d2⟩ | ⟨d1, d2⟩
      · rw [d1, d2] at HD
        have HD1 := Lib.hid d1
        obtain ⟨q, hq⟩ : ∃ q, dQ l j = q := ⟨_, rfl⟩
        rw [hq] at HD
        have HQQ := Lib.hid hq
        clear d1 d2 hq
        replace HD : Hid (∀ W, Calls Tryd.prog 29 #[byV (byt l m) (byt l (m + 1)) (byt l (m + 2)) (byt l (m + 3))] W fun e w' => e = .returned (.tuple #[inV q.o q.a q.b q.c, .int .i64 0]) ∧ Below W.heap.size W w') := HD
        go_upto_region 5 with fail
        go_region_held3 (fun W => Below wr.heap.size wr W) (first | (exact below_set4 hb1 (Nat.le_refl _) _ _ _ _) | assumption | (exact Below.drew (by assumption)) | (refine Below.alloc (by assumption) ?_ _; exact Nat.le_refl _) | (refine Below.alloc (by assumption) ?_ _; exact Below.size (by assumption))) ((first
          | (go_at_call 29; refine (HD.out _).mono ?_; rintro e V ⟨rfl, hb2⟩; have hb1 : Below wr.heap.size wr V := Below.trans (by assumption) (hb2.mono (by simp)); try (have hk : Blk V wr.heap.size 23 #[.int .i64 0, .int .i64 0, .int .i64 0, .int .i64 0] := (hb2.block wr.heap.size (by simp)).trans (heap_alloc_new _ _); have k0 : V.cell? ⟨wr.heap.size, 0, none⟩ = some (.int .i64 0) := hk.cell 0; have k1 : V.cell? ⟨wr.heap.size, 1, none⟩ = some (.int .i64 0) := hk.cell 1; have k2 : V.cell? ⟨wr.heap.size, 2, none⟩ = some (.int .i64 0) := hk.cell 2; have k3 : V.cell? ⟨wr.heap.size, 3, none⟩ = some (.int .i64 0) := hk.cell 3; have z0 := hk.frozen 0; have z1 := hk.frozen 1; have z2 := hk.frozen 2; have z3 := hk.frozen 3))))
        · have hblk := Blk.new V 23 #[.int .i64 q.o, .int .i64 q.a, .int .i64 q.b, .int .i64 q.c]
          have hbW : Below wr.heap.size wr (V.alloc (.cells #[.int .i64 q.o, .int .i64 q.a, .int .i64 q.b, .int .i64 q.c] 23)) := hb1.alloc hb1.size _
          obtain ⟨W, hWe⟩ : ∃ W, W = V.alloc (.cells #[.int .i64 q.o, .int .i64 q.a, .int .i64 q.b, .int .i64 q.c] 23) := ⟨_, rfl⟩
          obtain ⟨G, hGe⟩ : ∃ G, G = V.heap.size := ⟨_, rfl⟩
          rw [← hWe] at hblk hbW ⊢
          rw [← hGe] at hblk ⊢
          clear hWe hGe hb1 e0 e1 e2 e3
          have c0 : W.cell? ⟨G, 0, none⟩ = some (.int .i64 q.o) := hblk.cell 0
          have c1 : W.cell? ⟨G, 1, none⟩ = some (.int .i64 q.a) := hblk.cell 1
          have c2 : W.cell? ⟨G, 2, none⟩ = some (.int .i64 q.b) := hblk.cell 2
          have c3 : W.cell? ⟨G, 3, none⟩ = some (.int .i64 q.c) := hblk.cell 3
          have HOW := Lib.hid (HS.out.1.under hbW)
          have HBW := Lib.hid (HS.out.2.trans (hbW.mono HS.out.2.size))
          clear hblk hbW hS0
          go_wp2_with (at_builtin; refine wpList_pushQG encQ_ok refT_ok rfl (.tmp 44) (.tmp 46) rfl w.heap.size _ (dL l j) rfl q _ rfl HOW.out _ rfl ?_ ?_ ?_ ?_ ?_; (focus (first | rfl | simp)); (focus (rw [dL_len]; have := HM.out; unfold maxLen; omega)); (focus (rw [dL_len]; have := HM.out; omega)); (focus (exact HBW.out.size)); intro v3 W3 ho3 hg3; have HO3 := Lib.hid ho3; have HG3 := Lib.hid (HBW.out.trans (hg3.below (B := w.heap.size) HBW.out.size (fun i hi => (HOW.out.lt i hi).1))); clear ho3 hg3)
          go_roundw
          case rel =>
            refine ⟨j + 1, m + 4, by have := HM.out; omega, h4, by go_num, fun i hi => ?_, ?_, HG3.out⟩
            · by_cases e : i = j
              · subst e; exact HD1.out
              · exact HZ.out i (by omega)
            · rw [dL_succ, HQQ.out]; exact HO3.out
          case measure => simp [intOf] <;> omega
        · have hblk : Blk ((((V.setCell ⟨wr.heap.size, 0, none⟩ (.int .i64 q.o)).setCell ⟨wr.heap.size, 1, none⟩ (.int .i64 q.a)).setCell ⟨wr.heap.size, 2, none⟩ (.int .i64 q.b)).setCell ⟨wr.heap.size, 3, none⟩ (.int .i64 q.c)) wr.heap.size 23 #[.int .i64 q.o, .int .i64 q.a, .int .i64 q.b, .int .i64 q.c] := ((((hk.set_ 0 _).set_ 1 _).set_ 2 _).set_ 3 _)
          have hbW := below_set4 hb1 (Nat.le_refl _) (.int .i64 q.o) (.int .i64 q.a) (.int .i64 q.b) (.int .i64 q.c)
          obtain ⟨W, hWe⟩ : ∃ W, W = ((((V.setCell ⟨wr.heap.size, 0, none⟩ (.int .i64 q.o)).setCell ⟨wr.heap.size, 1, none⟩ (.int .i64 q.a)).setCell ⟨wr.heap.size, 2, none⟩ (.int .i64 q.b)).setCell ⟨wr.heap.size, 3, none⟩ (.int .i64 q.c)) := ⟨_, rfl⟩
          clear k0 k1 k2 k3 z0 z1 z2 z3 hk
          obtain ⟨G, hGe⟩ : ∃ G, G = wr.heap.size := ⟨_, rfl⟩
          rw [← hWe] at hblk hbW ⊢
          rw [← hGe] at hblk ⊢
          clear hWe hGe hb1 e0 e1 e2 e3
          have c0 : W.cell? ⟨G, 0, none⟩ = some (.int .i64 q.o) := hblk.cell 0
          have c1 : W.cell? ⟨G, 1, none⟩ = some (.int .i64 q.a) := hblk.cell 1
          have c2 : W.cell? ⟨G, 2, none⟩ = some (.int .i64 q.b) := hblk.cell 2
          have c3 : W.cell? ⟨G, 3, none⟩ = some (.int .i64 q.c) := hblk.cell 3
          have HOW := Lib.hid (HS.out.1.under hbW)
          have HBW := Lib.hid (HS.out.2.trans (hbW.mono HS.out.2.size))
          clear hblk hbW hS0
          go_wp2_with (at_builtin; refine wpList_pushQG encQ_ok refT_ok rfl (.tmp 44) (.tmp 46) rfl w.heap.size _ (dL l j) rfl q _ rfl HOW.out _ rfl ?_ ?_ ?_ ?_ ?_; (focus (first | rfl | simp)); (focus (rw [dL_len]; have := HM.out; unfold maxLen; omega)); (focus (rw [dL_len]; have := HM.out; omega)); (focus (exact HBW.out.size)); intro v3 W3 ho3 hg3; have HO3 := Lib.hid ho3; have HG3 := Lib.hid (HBW.out.trans (hg3.below (B := w.heap.size) HBW.out.size (fun i hi => (HOW.out.lt i hi).1))); clear ho3 hg3)
          go_roundw
          case rel =>
            refine ⟨j + 1, m + 4, by have := HM.out; omega, h4, by go_num, fun i hi => ?_, ?_, HG3.out⟩
            · by_cases e : i = j
              · subst e; exact HD1.out
              · exact HZ.out i (by omega)
            · rw [dL_succ, HQQ.out]; exact HO3.out
          case measure => simp [intOf] <;> omega
      · rw [d1, d2] at HD
        have HD1 := Lib.hid d1
        clear d1 d2
        go_upto_region 5 with fail
        go_region_held3 (fun W => Below wr.heap.size wr W) (first | (exact below_set4 hb1 (Nat.le_refl _) _ _ _ _) | assumption | (exact Below.drew (by assumption)) | (refine Below.alloc (by assumption) ?_ _; exact Nat.le_refl _) | (refine Below.alloc (by assumption) ?_ _; exact Below.size (by assumption))) ((first
          | (go_at_call 29; refine (HD.out _).mono ?_; rintro e V ⟨rfl, hb2⟩; have hb1 : Below wr.heap.size wr V := Below.trans (by assumption) (hb2.mono (by simp)); try (have hk : Blk V wr.heap.size 23 #[.int .i64 0, .int .i64 0, .int .i64 0, .int .i64 0] := (hb2.block wr.heap.size (by simp)).trans (heap_alloc_new _ _); have k0 : V.cell? ⟨wr.heap.size, 0, none⟩ = some (.int .i64 0) := hk.cell 0; have k1 : V.cell? ⟨wr.heap.size, 1, none⟩ = some (.int .i64 0) := hk.cell 1; have k2 : V.cell? ⟨wr.heap.size, 2, none⟩ = some (.int .i64 0) := hk.cell 2; have k3 : V.cell? ⟨wr.heap.size, 3, none⟩ = some (.int .i64 0) := hk.cell 3; have z0 := hk.frozen 0; have z1 := hk.frozen 1; have z2 := hk.frozen 2; have z3 := hk.frozen 3))))
        all_goals
          go_wp2_with fail
          go_ret3
        · exact ⟨_, [], (m : Int), 24, rfl, OQ.nil _ _, .inl ⟨j, by have := HM.out; have := HN.out; omega, HZ.out, HD1.out, rfl, by have := HM.out; omega, rfl⟩, HS.out.2.trans ((hb1.alloc hb1.size _).mono HS.out.2.size)⟩
        · exact ⟨_, [], (m : Int), 24, rfl, OQ.nil _ _, .inl ⟨j, by have := HM.out; have := HN.out; omega, HZ.out, HD1.out, rfl, by have := HM.out; omega, rfl⟩, HS.out.2.trans ((below_set4 hb1 (Nat.le_refl _) _ _ _ _).mono HS.out.2.size)⟩
    · have h1 : ¬ (m : Int) + 4 ≤ (n : Int) := by omega
      have hq : (n : Int) / 4 = (j : Int) := by have := HM.out; omega
      by_cases h5 : m < n
      · have h2 : ¬ (n : Int) % 4 = 0 := by have := HM.out; omega
        have w4 : IntKind.i64.wrap ((j : Int) * 4) = (m : Int) := by rw [IntKind.wrap_i64]; have := HM.out; omega
        go_wp2
        go_ret3
        exact ⟨_, [], (m : Int), 28, rfl, OQ.nil _ _, .inr ⟨j, by have := HM.out; have := HN.out; omega, by have := HM.out; have := HN.out; omega, HZ.out, .inl ⟨by have := HM.out; have := HN.out; omega, rfl, by have := HM.out; omega, rfl⟩⟩, hS.2⟩
      · have h2 : (n : Int) % 4 = 0 := by have := HM.out; omega
        go_wp2
        go_ret3
        exact ⟨_, dL l j, 0, 0, rfl, hS.1, .inr ⟨j, by have := HM.out; have := HN.out; omega, by have := HM.out; have := HN.out; omega, HZ.out, .inr ⟨by have := HM.out; have := HN.out; omega, rfl, rfl, rfl⟩⟩, hS.2⟩
end Go.Proofs.YtajkccigmiegkaaDoor
