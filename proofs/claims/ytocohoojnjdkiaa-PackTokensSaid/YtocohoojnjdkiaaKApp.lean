/- pack: a token's check and appendTo. -/
import Derived.Test.YtocohoojnjdkiaaKFirst
set_option linter.unusedVariables false
namespace Go.Proofs.Ytocohoojnjdkiaa
open Go.RowKit

set_option maxHeartbeats 1000000 in
set_option maxRecDepth 100000 in
theorem check_any (w : World) (A : Option Addr) (n c d l before most : Nat) (hn : n ≤ 4000000) (hd : d ≤ 4000000) (hl : l ≤ 4000000) (hb : before ≤ 4000000) (hm : most ≤ 4000000) :
    Calls Try.prog 39 #[tokV A n c (d : Int) (l : Int), .int .i64 (before : Int), .int .i64 (most : Int)] w fun e w' => e = .returned (.int .i64 ((if before < d then 2 else if most < before + (n + l) then 5 else 0 : Nat) : Int)) ∧ Below w.heap.size w w' := by
  unfold tokV
  have w1 : IntKind.i64.wrap ((before : Int) + (n : Int)) = (before : Int) + (n : Int) := by rw [IntKind.wrap_i64]; omega
  have w2 : IntKind.i64.wrap ((before : Int) + (n : Int) + (l : Int)) = (before : Int) + (n : Int) + (l : Int) := by rw [IntKind.wrap_i64]; omega
  have hbel : ∀ o, Below w.heap.size w (w.alloc o) := fun o => (Below.refl _ _).alloc (Nat.le_refl _) o
  by_cases h1 : before < d
  · have g1 : (d : Int) > (before : Int) := by omega
    rw [if_pos h1]
    go_enter Try.func39, Try.ntmps39
    go_wp2
    go_ret
    exact ⟨rfl, hbel _⟩
  · have g1 : ¬ (d : Int) > (before : Int) := by omega
    rw [if_neg h1]
    by_cases h2 : most < before + (n + l)
    · have g2 : (before : Int) + (n : Int) + (l : Int) > (most : Int) := by omega
      rw [if_pos h2]
      go_enter Try.func39, Try.ntmps39
      go_wp2
      go_ret
      exact ⟨rfl, hbel _⟩
    · have g2 : ¬ (before : Int) + (n : Int) + (l : Int) > (most : Int) := by omega
      rw [if_neg h2]
      go_enter Try.func39, Try.ntmps39
      go_wp2
      go_ret
      exact ⟨rfl, hbel _⟩
theorem copyF_succ (d : Nat) : ∀ (n : Nat) (text : List UInt8), copyF text d (n + 1) = copyF text d n ++ [(copyF text d n).getD ((copyF text d n).length - d) 0] := by
  intro n
  induction n with
  | zero => intro text; rfl
  | succ n ih =>
    intro text
    rw [show copyF text d (n + 1 + 1) = copyF (text ++ [text.getD (text.length - d) 0]) d (n + 1) from rfl, ih]
    rfl
set_option maxHeartbeats 4000000 in
set_option maxRecDepth 100000 in
theorem appendTo_any (w : World) (t : Tok) (A : Option Addr) (c base : Nat) (v : Value) (text : List UInt8) (ho : OB 5 w base v text) (hbs : base ≤ w.heap.size) (hr : RB w w.heap.size A t.lits) (ht : text.length ≤ 4000000) (hl : t.lits.length ≤ 4000000) (hn : t.len ≤ 4000000) (hd : t.dist ≤ text.length) (hk : 0 < t.len → 1 ≤ t.dist) :
    Calls Try.prog 40 #[tokV A t.lits.length c (t.dist : Int) (t.len : Int), v] w fun e w' => ∃ v', e = .returned v' ∧ OB 5 w' base v' (t.app text) ∧ Below base w w' := by
  have happ : t.app text = copyF (text ++ t.lits) t.dist t.len := by cases t <;> simp [Tok.app, Tok.lits, Tok.dist, Tok.len, copyF]
  rw [happ]
  clear happ
  unfold tokV
  obtain ⟨L, hL⟩ : ∃ L, t.lits = L := ⟨_, rfl⟩
  obtain ⟨d, hdd⟩ : ∃ d, t.dist = d := ⟨_, rfl⟩
  obtain ⟨k, hkk⟩ : ∃ k, t.len = k := ⟨_, rfl⟩
  rw [hL] at hr hl ⊢
  rw [hdd] at hd hk ⊢
  rw [hkk] at hn hk ⊢
  clear hL hdd hkk
  obtain ⟨n, hn2⟩ : ∃ n, L.length = n := ⟨_, rfl⟩
  have HN := Lib.hid hn2
  rw [hn2] at hl ⊢
  obtain ⟨tA, tc, hv, _, _, _⟩ := ho.form
  obtain ⟨N, hN⟩ : ∃ N, text.length = N := ⟨_, rfl⟩
  have HTN := Lib.hid hN
  rw [hN] at hv ht hd
  subst hv
  have HO := Lib.hid ho
  have HR := Lib.hid hr
  have HBS := Lib.hid hbs
  have HO1a := Lib.hid (fun o : Obj => ho.alloc o)
  have HR1a := Lib.hid (fun o : Obj => hr.below ((Below.refl w.heap.size w).alloc (Nat.le_refl _) o))
  have HLEN : Hid (text.length + L.length ≤ 140737488355328) := Lib.hid (by rw [hN, hn2]; omega)
  have HBS1 := Lib.hid (fun o : Obj => (show base ≤ (w.alloc o).heap.size by simp; omega))
  have HLC := Lib.hid (show Value.slice A n c = .slice A L.length c by rw [hn2])
  clear ho hr hn2 hN hbs
  go_enter Try.func40, Try.ntmps40
  go_upto_region 2 with (at_builtin; refine wpList_app bslK rfl (.tmp 5) (.tmp 7) rfl base (Value.slice tA N tc) text ?_ ?_ w.heap.size A L c ?_ ?_ ?_ ?_ ?_; (focus rfl); (focus (exact HO1a.out _)); (focus (rw [HN.out]; rfl)); (focus (exact HR1a.out _)); (focus (exact HLEN.out)); (focus (exact HBS1.out _)); intro v1 W1 ho1 hg1; have HO1 := Lib.hid ho1; have HG1 := Lib.hid hg1; clear ho1 hg1)
  have HK1 := Lib.hid ((Blk.new w 45 #[.slice A n c, .int .i64 (d : Int), .int .i64 (k : Int)]).mod HG1.out.mod (fun e => (HO1a.out _).ne_blk (Blk.new w 45 #[.slice A n c, .int .i64 (d : Int), .int .i64 (k : Int)]) (by decide) e))
  have HB1 := Lib.hid (((Below.refl base w).alloc HBS.out _).trans (HG1.out.below (HBS1.out _) (fun j hj => (HO.out.lt j hj).1)))
  have d2 : W1.cell? ⟨w.heap.size, 2, none⟩ = some (.int .i64 (k : Int)) := HK1.out.cell 2
  go_wp2
  have hmono := copyF_len d
  go_loopw [1, 11] (fun tv i wr => ∃ j : Nat, i = .int .i64 (j : Int) ∧ j ≤ k ∧ OB 5 wr base tv (copyF (text ++ L) d j) ∧ Blk wr w.heap.size 45 #[.slice A n c, .int .i64 (d : Int), .int .i64 (k : Int)] ∧ Below base w wr) (fun _ i _ => k - (intOf i).toNat)
  case atStart => exact ⟨0, rfl, by omega, HO1.out, HK1.out, HB1.out⟩
  case round =>
    obtain ⟨j, rfl, hj, hoj, hkj, hbj⟩ := hrel
    obtain ⟨uA, uc, hu, hrb, _, _⟩ := hoj.form
    have hlenj : (copyF (text ++ L) d j).length = N + n + j := by rw [hmono, List.length_append, HTN.out, HN.out]
    rw [hlenj] at hu
    subst hu
    have d1 : wr.cell? ⟨w.heap.size, 1, none⟩ = some (.int .i64 (d : Int)) := hkj.cell 1
    have HOJ := Lib.hid hoj
    have HKJ := Lib.hid hkj
    have HBJ := Lib.hid hbj
    have HLJ := Lib.hid hlenj
    clear hoj hkj hbj hlenj hmono
    by_cases h1 : j < k
    · have g1 : (j : Int) < (k : Int) := by omega
      have hd1 := hk (by omega)
      obtain ⟨ub, uoff, rfl, hub, hcs⟩ := rb_byt hrb (i := 0) (by rw [HLJ.out]; omega)
      have hcell := hcs (N + n + j - d) (by rw [HLJ.out]; omega)
      obtain ⟨cc, hcc⟩ : ∃ cc, (copyF (text ++ L) d j).getD (N + n + j - d) 0 = cc := ⟨_, rfl⟩
      have hcell2 : wr.cell? ⟨ub, uoff + (N + n + j - d), none⟩ = some (.int .u8 (cc.toNat : Int)) := by rw [hcell, ← hcc]; rfl
      have HCC : Hid (copyF (text ++ L) d (j + 1) = copyF (text ++ L) d j ++ [cc]) := Lib.hid (by rw [copyF_succ, HLJ.out, hcc])
      clear hcs hcell hcc hrb
      have w1 : IntKind.i64.wrap (((N + n + j : Nat) : Int) - (d : Int)) = ((N + n + j - d : Nat) : Int) := by rw [IntKind.wrap_i64]; omega
      have w2 : IntKind.i64.wrap ((N : Int) + (n : Int) + (j : Int) - (d : Int)) = ((N + n + j - d : Nat) : Int) := by rw [IntKind.wrap_i64]; omega
      have w3 : IntKind.i64.wrap ((j : Int) + 1) = (j : Int) + 1 := by rw [IntKind.wrap_i64]; omega
      have p1 : ((N + n + j - d : Nat) : Int) < (N : Int) + (n : Int) + (j : Int) := by omega
      have p2 : N + n + j - d < N + n + j := by omega
      go_wp2_with (at_builtin; refine wpList_push bslK (by rfl) (.tmp 13) (.tmp 22) (by rfl) base _ _ (by rfl) _ cc rfl HOJ.out (by rfl) (by rw [HLJ.out]; omega) (Nat.le_trans HBS.out HBJ.out.size) ?_; intro v2 W2 ho2 hg2; have HO2 := Lib.hid ho2; have HK2 := Lib.hid (HKJ.out.mod hg2.mod (fun e => HOJ.out.ne_blk HKJ.out (by decide) e)); have HB2 := Lib.hid (HBJ.out.trans (hg2.below (Nat.le_trans HBS.out HBJ.out.size) (fun j hj => (HOJ.out.lt j hj).1))); clear ho2 hg2)
      go_roundw
      case rel => exact ⟨j + 1, by go_num, by omega, by rw [HCC.out]; exact HO2.out, HK2.out, HB2.out⟩
      case measure => simp [intOf] <;> omega
    · have g1 : ¬ (j : Int) < (k : Int) := by omega
      go_wp2
      go_ret
      have hjk : j = k := by omega
      subst hjk
      exact ⟨_, rfl, HOJ.out, HBJ.out⟩
end Go.Proofs.Ytocohoojnjdkiaa
