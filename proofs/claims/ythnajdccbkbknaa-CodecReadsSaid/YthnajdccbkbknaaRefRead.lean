/- The walk of the reference's Read. -/
import Derived.Test.YthnajdccbkbknaaOne
import Derived.Test.YthnajdccbkbknaaCanonical
set_option linter.unusedVariables false
namespace Go.Proofs.Ythnajdccbkbknaa
open Go.RowKit

theorem one_any (A : Option Addr) (b : List UInt8) (c B : Nat) (v : V) (w : World) (hr : RB w B A b) (hB : B ≤ w.heap.size) (hl : b.length ≤ 1000000) (hbc : b.length ≤ c) :
    Calls Try.prog 31 #[.slice A b.length c, .agg v.cells.toArray] w (OnePost v b w) := by
  rcases (by omega : v.kind.toNat % 4 = 0 ∨ v.kind.toNat % 4 = 1 ∨ v.kind.toNat % 4 = 2 ∨ v.kind.toNat % 4 = 3) with hq | hq | hq | hq
  · exact one_k0 A b c B v w hr hB hl hq
  · exact one_k1 A b c B v w hr hB hl hbc hq
  · exact one_k2 A b c B v w hr hB hl hbc hq
  · exact one_k3 A b c B v w hr hB hl hbc hq

theorem one_size (v : V) (b : List UInt8) : (one v b).2.1 ≤ b.length := by
  rcases (by omega : v.kind.toNat % 4 = 0 ∨ v.kind.toNat % 4 = 1 ∨ v.kind.toNat % 4 = 2 ∨ v.kind.toNat % 4 = 3) with hq | hq | hq | hq
  · rw [one0 v b hq]; exact pNum_size _ _
  · rw [one1 v b hq]; exact pSig_size _
  · rw [one2 v b hq]; exact pFlag_size _
  · rw [one3 v b hq]; exact pText_size _ _
theorem one_err (v : V) (b : List UInt8) (h : (one v b).2.2 ≠ 0) : (one v b).1 = v.zero := by
  rcases (by omega : v.kind.toNat % 4 = 0 ∨ v.kind.toNat % 4 = 1 ∨ v.kind.toNat % 4 = 2 ∨ v.kind.toNat % 4 = 3) with hq | hq | hq | hq
  · rw [one0 v b hq] at h ⊢; simp only at h ⊢; rw [pNum_err _ _ h]; rfl
  · rw [one1 v b hq] at h ⊢; simp only at h ⊢; rw [pSig_err _ h]; rfl
  · rw [one2 v b hq] at h ⊢; simp only at h ⊢; rw [pFlag_err _ h]; rfl
  · rw [one3 v b hq] at h ⊢; simp only at h ⊢; rw [pText_err _ _ h]; rfl

theorem results_tmp4 {fn : Func} {t u v x : Tmp} (h : fn.results = #[.tmp t, .tmp u, .tmp v, .tmp x]) (tmps : Array Value) (P : Program) (w : World) :
    (results fn tmps).run P w = .ok (.tuple #[tmps.getD t undef, tmps.getD u undef, tmps.getD v undef, tmps.getD x undef]) w := by
  simp [results, h]
/-- A store of a value into a block above. -/
theorem below_set5 {B g : Nat} {a w : World} (h : Below B a w) (hg : B ≤ g) (u0 u1 u2 u3 u4 : Value) :
    Below B a (((((w.setCell ⟨g, 0, none⟩ u0).setCell ⟨g, 1, none⟩ u1).setCell ⟨g, 2, none⟩ u2).setCell ⟨g, 3, none⟩ u3).setCell ⟨g, 4, none⟩ u4) :=
  ((((h.setCell (p := ⟨g, 0, none⟩) hg u0).setCell (p := ⟨g, 1, none⟩) hg u1).setCell (p := ⟨g, 2, none⟩) hg u2).setCell (p := ⟨g, 3, none⟩) hg u3).setCell (p := ⟨g, 4, none⟩) hg u4
macro "keep5 " h:ident : tactic => `(tactic| exact below_set5 $h (Nat.le_refl _) _ _ _ _ _)

/-- How far the reference reads: k values, to a; the error f. -/
def Stops (b : List UInt8) (l : List V) (k a f : Nat) (out : List V) : Prop :=
  (l.take k).foldl (rdstep b) ([], 0, 0) = (out, a, 0) ∧ a ≤ b.length ∧ k ≤ l.length ∧ ((k = l.length ∧ f = 0) ∨ (f ≠ 0 ∧ ∃ v, l[k]? = some v ∧ (one v (b.drop a)).2.2 = f))

/-- What the reference's Read returns. -/
def ReadPost (b : List UInt8) (l : List V) (w : World) (e : Ending) (w' : World) : Prop :=
  ∃ k a f out v', Stops b l k a f out ∧ e = .returned (.tuple #[v', .int .i64 ((if f ≠ 0 then a else 0 : Nat) : Int), .int .i64 (f : Int), .int .i64 ((b.length : Int) - (a : Int))]) ∧ OV w' w.heap.size v' out ∧ Below w.heap.size w w'

set_option maxHeartbeats 4000000 in
set_option maxRecDepth 100000 in
theorem refRead_any (A : Option Addr) (b : List UInt8) (c : Nat) (A1 : Option Addr) (l : List V) (d : Nat) (w : World) (hr : RB w w.heap.size A b) (hq : RV w w.heap.size A1 l) (hl : b.length ≤ 1000) (hbc : b.length ≤ c) (hln : l.length ≤ 40) :
    Calls Try.prog 26 #[.slice A b.length c, .slice A1 l.length d] w (ReadPost b l w) := by
  go_enter Try.func26, Try.ntmps26
  go_wp2
  go_loopw [4, 5, 8] (fun u a0 i wr => ∃ (k a : Nat) (out : List V), k ≤ l.length ∧ a ≤ b.length ∧ i = .int .i64 k ∧ a0 = .int .i64 a ∧ (l.take k).foldl (rdstep b) ([], 0, 0) = (out, a, 0) ∧ out.length = k ∧
    OV wr w.heap.size u out ∧ Below w.heap.size w wr) (fun _ _ i _ => l.length - (intOf i).toNat)
  case atStart => exact ⟨0, 0, [], by omega, by omega, rfl, rfl, rfl, rfl, OV.nil _ _, Below.refl _ _⟩
  case round =>
    obtain ⟨k, a, out, hk, hab, rfl, rfl, hfold, hol, ho, hb⟩ := hrel
    have HR := Lib.hid (hr.below hb)
    have HF := Lib.hid hfold
    have HO := Lib.hid ho
    have HB := Lib.hid hb
    have HOL := Lib.hid hol
    have HQ := Lib.hid (hq.below hb)
    clear hr hq hfold hol ho hb
    have hbs := HB.out.size
    by_cases hlt : k < l.length
    · obtain ⟨bk, off, v, rfl, hbb, hv, h0, h1, h2, h3, h4⟩ := HQ.out.at_ hlt
      have HV := Lib.hid hv
      obtain ⟨A', c', hr', hc1, hc2, hsl⟩ := slice_from HR.out (k := a) (cap := c) hab hbc
      obtain ⟨D, hD⟩ : ∃ D, D = b.drop a := ⟨_, rfl⟩
      rw [← hD] at hr' hc1 hsl
      have hDl : D.length ≤ 1000000 := by rw [hD, List.length_drop]; omega
      have HOne : Hid (∀ W, Below wr.heap.size wr W → Calls Try.prog 31 #[.slice A' D.length c', .agg v.cells.toArray] W fun e w' =>
          e = .returned (.tuple #[.agg (one v D).1.cells.toArray, .int .i64 ((one v D).2.1 : Int), .int .i64 ((one v D).2.2 : Int)]) ∧ Below wr.heap.size wr w' ∧ (wr.heap.size < W.heap.size → ∀ cs, Blk W wr.heap.size 56 cs → Blk w' wr.heap.size 56 cs)) :=
        Lib.hid (fun W hW => (one_any A' D c' wr.heap.size v W ((hr'.more hbs).below hW) hW.size hDl hc1).mono (fun e w' h => ⟨h.1, hW.trans (h.2.mono hW.size), fun hlt cs hb => (h.2.block _ hlt).trans hb⟩))
      have HD := Lib.hid hD
      obtain ⟨y, hy⟩ : ∃ y, y = one v D := ⟨_, rfl⟩
      rw [← hy] at HOne
      have HY := Lib.hid hy
      obtain ⟨x, s, f⟩ := y
      unfold V.cells at HOne
      simp only at HOne
      clear hv hD hr' hy
      have hbr : bk < wr.heap.size := by omega
      have a0 : ∀ W, Below wr.heap.size wr W → W.cell? ⟨bk, off + k * 5, none⟩ = some (.int .u8 (v.kind.toNat : Int)) := fun W hW => (hW.cell hbr).trans h0
      have a1 : ∀ W, Below wr.heap.size wr W → W.cell? ⟨bk, off + k * 5 + 1, none⟩ = some (.int .i64 v.n) := fun W hW => (hW.cell hbr).trans h1
      have a2 : ∀ W, Below wr.heap.size wr W → W.cell? ⟨bk, off + k * 5 + 2, none⟩ = some (.bool v.is) := fun W hW => (hW.cell hbr).trans h2
      have a3 : ∀ W, Below wr.heap.size wr W → W.cell? ⟨bk, off + k * 5 + 3, none⟩ = some (.string v.s) := fun W hW => (hW.cell hbr).trans h3
      have a4 : ∀ W, Below wr.heap.size wr W → W.cell? ⟨bk, off + k * 5 + 4, none⟩ = some (.int .i64 v.most) := fun W hW => (hW.cell hbr).trans h4
      have hS : Below wr.heap.size wr wr := Below.refl _ _
      clear h0 h1 h2 h3 h4
      go_wp2_with fail
      go_region_held3 (fun W => Below wr.heap.size wr W) (first | (keep5 hb1) | assumption | (exact Below.drew (by assumption)) | (refine Below.alloc (by assumption) ?_ _; exact Nat.le_refl _) | (refine Below.alloc (by assumption) ?_ _; exact Below.size (by assumption))) (first | (go_at_call 31; refine (HOne.out _ (by assumption)).mono ?_; rintro x1 w1 ⟨rfl, hb1, hk1⟩; try (have hbk := hk1 (by simp) _ (Blk.new _ _ _); have c0 : w1.cell? ⟨wr.heap.size, 0, none⟩ = some (.int .u8 0) := hbk.cell 0; have c1 : w1.cell? ⟨wr.heap.size, 1, none⟩ = some (.int .i64 0) := hbk.cell 1; have c2 : w1.cell? ⟨wr.heap.size, 2, none⟩ = some (.bool false) := hbk.cell 2; have c3 : w1.cell? ⟨wr.heap.size, 3, none⟩ = some (.string ⟨#[]⟩) := hbk.cell 3; have c4 : w1.cell? ⟨wr.heap.size, 4, none⟩ = some (.int .i64 0) := hbk.cell 4; have f0 := hbk.frozen 0; have f1 := hbk.frozen 1; have f2 := hbk.frozen 2; have f3 := hbk.frozen 3; have f4 := hbk.frozen 4)))
      · have hblk : Blk (w1.alloc (.cells #[.int .u8 (x.kind.toNat : Int), .int .i64 x.n, .bool x.is, .string x.s, .int .i64 x.most] 56)) w1.heap.size 56 #[.int .u8 (x.kind.toNat : Int), .int .i64 x.n, .bool x.is, .string x.s, .int .i64 x.most] := Blk.new w1 _ _
        have hbW : Below wr.heap.size wr (w1.alloc (.cells #[.int .u8 (x.kind.toNat : Int), .int .i64 x.n, .bool x.is, .string x.s, .int .i64 x.most] 56)) := hb1.alloc hb1.size _
        have hG : wr.heap.size ≤ w1.heap.size := hb1.size
        have h0' := hb1
        obtain ⟨W, hWe⟩ : ∃ W, W = w1.alloc (.cells #[.int .u8 (x.kind.toNat : Int), .int .i64 x.n, .bool x.is, .string x.s, .int .i64 x.most] 56) := ⟨_, rfl⟩
        rw [← hWe] at hblk hbW ⊢
        obtain ⟨G, hGe⟩ : ∃ G, G = w1.heap.size := ⟨_, rfl⟩
        rw [← hGe] at hblk hG ⊢
        clear hWe hk1 hb1
        clear HOne a0 a1 a2 a3 a4 hS h0' 
        have c0 : W.cell? ⟨G, 0, none⟩ = some (.int .u8 (x.kind.toNat : Int)) := hblk.cell 0
        have c1 : W.cell? ⟨G, 1, none⟩ = some (.int .i64 x.n) := hblk.cell 1
        have c2 : W.cell? ⟨G, 2, none⟩ = some (.bool x.is) := hblk.cell 2
        have c3 : W.cell? ⟨G, 3, none⟩ = some (.string x.s) := hblk.cell 3
        have c4 : W.cell? ⟨G, 4, none⟩ = some (.int .i64 x.most) := hblk.cell 4
        have hm : Mod wr W (fun k => wr.heap.size ≤ k) := Mod.of_below hbW
        have HOW := Lib.hid (HO.out.mod hm (fun k hk h => by have := (HO.out.lt k hk).2; omega))
        have HBW := Lib.hid hbW
        have hWs := hbW.size
        have hsz := one_size v D
        rw [← HY.out] at hsz
        simp only at hsz
        have hsa : a + s ≤ b.length := by have h := hsz; rw [HD.out, List.length_drop] at h; omega
        have HOl := Lib.hid hsz
        have hol40 : out.length + 1 ≤ 1000000 := by have := HOL.out; omega
        clear hm hbW hblk hsz hGe
        by_cases hf : f = 0
        · subst hf
          go_wp2_with (at_builtin; refine wpList_pushV rfl (.tmp 39) (.tmp 41) rfl w.heap.size _ out rfl _ (x : V) rfl HOW.out _ rfl rfl hol40 (Nat.le_trans hbs hWs) ?_)
          intro v1 w3 ho3 hg3
          have hb3 : Below w.heap.size W w3 := hg3.below (Nat.le_trans hbs hWs) (fun k hk => (HOW.out.lt k hk).1)
          have HO3 := Lib.hid ho3
          have HB3 := Lib.hid ((HB.out.trans (HBW.out.mono hbs)).trans hb3)
          clear ho3 hg3 hb3 c0 c1 c2 c3 c4
          go_wp2
          go_roundw
          case rel =>
            refine ⟨k + 1, a + s, out ++ [x], by omega, by omega, by go_num, by go_num, ?_, ?_, HO3.out, HB3.out⟩
            · rw [take_step HV.out, List.foldl_append, HF.out, List.foldl_cons, List.foldl_nil]
              unfold rdstep
              simp only
              rw [← HD.out, ← HY.out, rat0, rerr0]
              simp
            · rw [List.length_append, HOL.out]; rfl
          case measure => simp [intOf] <;> omega
        · have hf1 : ((f : Int) != 0) = true := by simp; omega
          have HFn := Lib.hid hf
          clear hf
          go_wp2_with fail
          refine bodyPost_ret (results_tmp4 rfl _ _ _) rfl ?_
          refine ⟨k, a, f, out, u4, ⟨HF.out, hab, hk, .inr ⟨HFn.out, v, HV.out, ?_⟩⟩, ?_, ?_, HB.out.trans (HBW.out.mono hbs)⟩
          · rw [← HD.out, ← HY.out]
          · rw [if_pos HFn.out]; rfl
          · exact HOW.out
      · have hblk := ((((hbk.set_ 0 (.int .u8 (x.kind.toNat : Int))).set_ 1 (.int .i64 x.n)).set_ 2 (.bool x.is)).set_ 3 (.string x.s)).set_ 4 (.int .i64 x.most)
        have hbW := below_set5 hb1 (Nat.le_refl _) (.int .u8 (x.kind.toNat : Int)) (.int .i64 x.n) (.bool x.is) (.string x.s) (.int .i64 x.most)
        have hG : wr.heap.size ≤ wr.heap.size := Nat.le_refl _
        have h0' := hb1
        obtain ⟨W, hWe⟩ : ∃ W, W = (((((w1.setCell ⟨wr.heap.size, 0, none⟩ (.int .u8 (x.kind.toNat : Int))).setCell ⟨wr.heap.size, 1, none⟩ (.int .i64 x.n)).setCell ⟨wr.heap.size, 2, none⟩ (.bool x.is)).setCell ⟨wr.heap.size, 3, none⟩ (.string x.s)).setCell ⟨wr.heap.size, 4, none⟩ (.int .i64 x.most)) := ⟨_, rfl⟩
        rw [← hWe] at hblk hbW ⊢
        obtain ⟨G, hGe⟩ : ∃ G, G = wr.heap.size := ⟨_, rfl⟩
        rw [← hGe] at hblk ⊢
        replace hblk : Blk W G 56 #[.int .u8 (x.kind.toNat : Int), .int .i64 x.n, .bool x.is, .string x.s, .int .i64 x.most] := hblk
        clear hWe hk1 hb1 hbk c0 c1 c2 c3 c4 f0 f1 f2 f3 f4
        clear HOne a0 a1 a2 a3 a4 hS h0' 
        have c0 : W.cell? ⟨G, 0, none⟩ = some (.int .u8 (x.kind.toNat : Int)) := hblk.cell 0
        have c1 : W.cell? ⟨G, 1, none⟩ = some (.int .i64 x.n) := hblk.cell 1
        have c2 : W.cell? ⟨G, 2, none⟩ = some (.bool x.is) := hblk.cell 2
        have c3 : W.cell? ⟨G, 3, none⟩ = some (.string x.s) := hblk.cell 3
        have c4 : W.cell? ⟨G, 4, none⟩ = some (.int .i64 x.most) := hblk.cell 4
        have hm : Mod wr W (fun k => wr.heap.size ≤ k) := Mod.of_below hbW
        have HOW := Lib.hid (HO.out.mod hm (fun k hk h => by have := (HO.out.lt k hk).2; omega))
        have HBW := Lib.hid hbW
        have hWs := hbW.size
        have hsz := one_size v D
        rw [← HY.out] at hsz
        simp only at hsz
        have hsa : a + s ≤ b.length := by have h := hsz; rw [HD.out, List.length_drop] at h; omega
        have HOl := Lib.hid hsz
        have hol40 : out.length + 1 ≤ 1000000 := by have := HOL.out; omega
        clear hm hbW hblk hsz hGe
        by_cases hf : f = 0
        · subst hf
          go_wp2_with (at_builtin; refine wpList_pushV rfl (.tmp 39) (.tmp 41) rfl w.heap.size _ out rfl _ (x : V) rfl HOW.out _ rfl rfl hol40 (Nat.le_trans hbs hWs) ?_)
          intro v1 w3 ho3 hg3
          have hb3 : Below w.heap.size W w3 := hg3.below (Nat.le_trans hbs hWs) (fun k hk => (HOW.out.lt k hk).1)
          have HO3 := Lib.hid ho3
          have HB3 := Lib.hid ((HB.out.trans (HBW.out.mono hbs)).trans hb3)
          clear ho3 hg3 hb3 c0 c1 c2 c3 c4
          go_wp2
          go_roundw
          case rel =>
            refine ⟨k + 1, a + s, out ++ [x], by omega, by omega, by go_num, by go_num, ?_, ?_, HO3.out, HB3.out⟩
            · rw [take_step HV.out, List.foldl_append, HF.out, List.foldl_cons, List.foldl_nil]
              unfold rdstep
              simp only
              rw [← HD.out, ← HY.out, rat0, rerr0]
              simp
            · rw [List.length_append, HOL.out]; rfl
          case measure => simp [intOf] <;> omega
        · have hf1 : ((f : Int) != 0) = true := by simp; omega
          have HFn := Lib.hid hf
          clear hf
          go_wp2_with fail
          refine bodyPost_ret (results_tmp4 rfl _ _ _) rfl ?_
          refine ⟨k, a, f, out, u4, ⟨HF.out, hab, hk, .inr ⟨HFn.out, v, HV.out, ?_⟩⟩, ?_, ?_, HB.out.trans (HBW.out.mono hbs)⟩
          · rw [← HD.out, ← HY.out]
          · rw [if_pos HFn.out]; rfl
          · exact HOW.out
    · have hend : k = l.length := by omega
      have HE := Lib.hid hend
      clear hend
      go_wp2_with fail
      refine bodyPost_ret (results_tmp4 rfl _ _ _) rfl ?_
      refine ⟨k, a, 0, out, u4, ⟨HF.out, hab, hk, .inl ⟨HE.out, rfl⟩⟩, ?_, HO.out, HB.out⟩
      rfl
end Go.Proofs.Ythnajdccbkbknaa
