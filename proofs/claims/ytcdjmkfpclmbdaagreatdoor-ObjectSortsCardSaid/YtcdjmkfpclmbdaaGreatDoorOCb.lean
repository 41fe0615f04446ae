/- The walks of codec.Writer's methods, and of slices.Clone at []byte. The walks of codec.Writer.Bytes and of the examples that every statement of the layer checks first. The walks of the reference's Signed, Text and Write. -/
import Derived.Test.YtcdjmkfpclmbdaaGreatDoorOCa
import Derived.WalkSpells
import Derived.Deep.QuietTactic
import Derived.BigQuiet
set_option linter.unusedVariables false
namespace Go.Proofs.YtcdjmkfpclmbdaaGreatDoor.Cod
open Go.RowKit

/-- Block g is a Writer that has written l, with the error e; v is its slice. -/
def IsW (w : World) (g : Nat) (v : Value) (l : List UInt8) (e : Nat) : Prop := Blk w g 115 #[v, .int .i64 (e : Int)] ∧ OB 5 w 0 v l

/-- The blocks of a Writer. -/
def wfoot (g : Nat) (v : Value) (k : Nat) : Prop := k = g ∨ v.ownBlock = some k

theorem IsW.mod {w w' : World} {g : Nat} {v : Value} {l : List UInt8} {e : Nat} {S : Nat → Prop} (h : IsW w g v l e) (hm : Mod w w' S) (hS : ∀ k, wfoot g v k → ¬ S k) : IsW w' g v l e :=
  ⟨h.1.mod hm (hS g (.inl rfl)), h.2.mod hm fun k hk => hS k (.inr hk)⟩
theorem IsW.ne {w : World} {g : Nat} {v : Value} {l : List UInt8} {e : Nat} (h : IsW w g v l e) : v.ownBlock ≠ some g := h.2.ne_blk h.1 (by decide)
theorem IsW.foot_lt {w : World} {g : Nat} {v : Value} {l : List UInt8} {e : Nat} (h : IsW w g v l e) : ∀ k, wfoot g v k → k < w.heap.size := by
  rintro k (rfl | hk)
  · exact h.1.lt
  · exact (h.2.lt k hk).2

theorem newWriter_any (w : World) : Calls Tryz.prog 55 #[] w fun e w' => e = .returned (.pointer (some ⟨w.heap.size, 0, none⟩)) ∧ IsW w' w.heap.size (.slice none 0 0) [] 0 ∧ Below w.heap.size w w' := by
  go_enter Tryz.func55, Tryz.ntmps55
  go_wp2
  go_ret
  exact ⟨rfl, ⟨Blk.new _ _ _, OB.nil _ _ _⟩, below_alloc _ _⟩

theorem open_nil (w : World) : Calls Tryz.prog 89 #[.pointer none] w fun e w' => e = .returned (.bool false) ∧ w = w' := by
  go_enter Tryz.func89, Tryz.ntmps89
  go_wp2
  go_ret
  exact ⟨rfl, rfl⟩

theorem open_any (w : World) (g : Nat) (v : Value) (l : List UInt8) (e : Nat) (h : IsW w g v l e) :
    Calls Tryz.prog 89 #[.pointer (some ⟨g, 0, none⟩)] w fun r w' => r = .returned (.bool (decide (e = 0))) ∧ w = w' := by
  have hc : w.cell? ⟨g, 1, none⟩ = some (.int .i64 (e : Int)) := h.1.cell 1
  by_cases h0 : e = 0
  · subst h0
    go_enter Tryz.func89, Tryz.ntmps89
    go_wp2
    go_ret
    exact ⟨rfl, rfl⟩
  · have h1 : ((e : Int) == 0) = false := by simp; omega
    have h2 := Lib.hid h0
    clear h0
    go_enter Tryz.func89, Tryz.ntmps89
    go_wp2
    go_ret
    exact ⟨by rw [show decide (e = 0) = false by simpa using h2.out]; rfl, rfl⟩

theorem fail_nil (w : World) (x : Int) : Calls Tryz.prog 87 #[.pointer none, .int .i64 x] w fun e w' => e = .returned (.tuple #[]) ∧ w = w' := by
  go_enter Tryz.func87, Tryz.ntmps87
  go_wp2_with (go_at_call 89; refine (open_nil _).mono ?_; rintro e w' ⟨rfl, rfl⟩)
  go_end0
  exact ⟨rfl, rfl⟩

/-- The first error is kept. -/
def errOf (e x : Nat) : Nat := if e = 0 then x else e

theorem fail_any (w : World) (g : Nat) (v : Value) (l : List UInt8) (e x : Nat) (h : IsW w g v l e) :
    Calls Tryz.prog 87 #[.pointer (some ⟨g, 0, none⟩), .int .i64 (x : Int)] w fun r w' => r = .returned (.tuple #[]) ∧ IsW w' g v l (errOf e x) ∧ Mod w w' (· = g) := by
  have hc : w.cell? ⟨g, 1, none⟩ = some (.int .i64 (e : Int)) := h.1.cell 1
  have hf : w.frozen? ⟨g, 1, none⟩ = false := h.1.frozen 1
  by_cases h0 : e = 0
  · subst h0
    have H := Lib.hid h
    have HO := Lib.hid (open_any w g v l 0 h)
    clear h
    go_enter Tryz.func87, Tryz.ntmps87
    go_wp2_with (go_at_call 89; refine HO.out.mono ?_; rintro e w' ⟨rfl, rfl⟩)
    go_end0
    refine ⟨rfl, ⟨?_, ?_⟩, (Mod.refl w (· = g)).setCell (p := ⟨g, 1, none⟩) (fun _ => rfl) _⟩
    · have := H.out.1.set_ 1 (.int .i64 (x : Int)); simpa [errOf] using this
    · exact H.out.2.mod ((Mod.refl w (· = g)).setCell (p := ⟨g, 1, none⟩) (fun _ => rfl) _) fun k hk => fun e => H.out.ne (by rw [hk, e])
  · have h2 := Lib.hid h0
    have H := Lib.hid h
    have HO := Lib.hid (open_any w g v l e h)
    have hd : decide (e = 0) = false := by simpa using h0
    rw [hd] at HO
    clear h hd h0
    go_enter Tryz.func87, Tryz.ntmps87
    go_wp2_with (go_at_call 89; refine HO.out.mono ?_; rintro e w' ⟨rfl, rfl⟩)
    go_end0
    exact ⟨rfl, by rw [errOf, if_neg h2.out]; exact H.out, Mod.refl _ _⟩

theorem naturalW_nil (w : World) (x : Int) : Calls Tryz.prog 88 #[.pointer none, .int .u64 x] w fun e w' => e = .returned (.tuple #[]) ∧ w = w' := by
  go_enter Tryz.func88, Tryz.ntmps88
  go_wp2_with (go_at_call 89; refine (open_nil _).mono ?_; rintro e w' ⟨rfl, rfl⟩)
  go_end0
  exact ⟨rfl, rfl⟩

/-- What a Writer has written when a value with the encoding m has been written. -/
def wput (l : List UInt8) (e : Nat) (m : List UInt8) : List UInt8 := if e = 0 then l ++ m else l

/-- What a method of a Writer leaves. -/
def WPost (w : World) (g : Nat) (v : Value) (l : List UInt8) (e : Nat) (r : Ending) (w' : World) : Prop :=
  r = .returned (.tuple #[]) ∧ ∃ v', IsW w' g v' l e ∧ Mod w w' (wfoot g v) ∧ Newer w v v'

theorem naturalW_any (w : World) (g : Nat) (v : Value) (l : List UInt8) (e n : Nat) (h : IsW w g v l e) (hn : n < 18446744073709551616) (hl : l.length + 20 ≤ 140737488355328) :
    Calls Tryz.prog 88 #[.pointer (some ⟨g, 0, none⟩), .int .u64 (n : Int)] w fun r w' => WPost w g v (wput l e (enc n)) e r w' := by
  by_cases h0 : e = 0
  · subst h0
    have hc : w.cell? ⟨g, 0, none⟩ = some v := h.1.cell 0
    have H := Lib.hid h
    have HO := Lib.hid (open_any w g v l 0 h)
    have HA := Lib.hid (appendNatural_any 0 v l n w h.2 hn hl (Nat.zero_le _))
    clear h
    go_enter Tryz.func88, Tryz.ntmps88
    go_wp2_with (go_at_call 89; refine HO.out.mono ?_; rintro e w' ⟨rfl, rfl⟩)
    go_wp2_with fail
    refine HA.out.mono ?_
    rintro e w1 ⟨v1, rfl, ho1, hg1⟩
    obtain ⟨A1, cap1, rfl, _⟩ := ho1.form
    have hb1 := H.out.1.mod hg1.mod (fun hk => H.out.ne hk)
    have hc1 : w1.cell? ⟨g, 0, none⟩ = some v := hb1.cell 0
    have hf1 : w1.frozen? ⟨g, 0, none⟩ = false := hb1.frozen 0
    have hne1 : (Value.slice A1 (l ++ enc n).length cap1).ownBlock ≠ some g := ho1.ne_blk hb1 (by decide)
    have HB := Lib.hid hb1
    have HG := Lib.hid hg1
    have HO1 := Lib.hid ho1
    have HN := Lib.hid hne1
    clear hb1 hg1 ho1 hne1
    go_wp2
    go_end0
    have hm := HG.out.mod
    refine ⟨rfl, _, ⟨?_, ?_⟩, (hm.mono (T := wfoot g v) fun k _ hk => .inr hk).setCell (p := ⟨g, 0, none⟩) (fun _ => .inl rfl) _, HG.out.newer⟩
    · have := HB.out.set_ 0 (.slice A1 (l ++ enc n).length cap1); simpa using this
    · rw [wput, if_pos rfl]
      exact HO1.out.mod ((Mod.refl w1 (· = g)).setCell (p := ⟨g, 0, none⟩) (fun _ => rfl) _) fun k hk e => HN.out (by rw [hk, e])
  · have h2 := Lib.hid h0
    have H := Lib.hid h
    have HO := Lib.hid (open_any w g v l e h)
    have hd : decide (e = 0) = false := by simpa using h0
    rw [hd] at HO
    clear h hd h0
    go_enter Tryz.func88, Tryz.ntmps88
    go_wp2_with (go_at_call 89; refine HO.out.mono ?_; rintro e w' ⟨rfl, rfl⟩)
    go_end0
    exact ⟨rfl, v, by rw [wput, if_neg h2.out]; exact H.out, Mod.refl _ _, .inl rfl⟩

theorem number_nil (w : World) (x : Int) : Calls Tryz.prog 56 #[.pointer none, .int .i64 x] w fun e w' => e = .returned (.tuple #[]) ∧ w = w' := by
  by_cases h : x < 0
  all_goals
    go_enter Tryz.func56, Tryz.ntmps56
    go_wp2_with (first | (go_at_call 87; refine (fail_nil _ _).mono ?_; rintro e w' ⟨rfl, rfl⟩) | (go_at_call 88; refine (naturalW_nil _ _).mono ?_; rintro e w' ⟨rfl, rfl⟩))
    first | go_end0 | refine bodyPost_ret (results_none rfl _ _ _) rfl ?_
    exact ⟨rfl, rfl⟩
theorem textW_nil (w : World) (s : ByteArray) (hs : s.size ≤ 9223372036854775807) : Calls Tryz.prog 57 #[.pointer none, .string s] w fun e w' => e = .returned (.tuple #[]) ∧ w = w' := by
  by_cases h : (16777216 : Int) < (s.size : Int)
  all_goals
    go_enter Tryz.func57, Tryz.ntmps57
    go_wp2_with (first | (go_at_call 87; refine (fail_nil _ _).mono ?_; rintro e w' ⟨rfl, rfl⟩) | (go_at_call 88; refine (naturalW_nil _ _).mono ?_; rintro e w' ⟨rfl, rfl⟩) | (go_at_call 89; refine (open_nil _).mono ?_; rintro e w' ⟨rfl, rfl⟩))
    first | go_end0 | refine bodyPost_ret (results_none rfl _ _ _) rfl ?_
    exact ⟨rfl, rfl⟩
theorem bytes_nil (w : World) : Calls Tryz.prog 58 #[.pointer none] w fun e w' => e = .returned (.tuple #[.slice none 0 0, .int .i64 1]) ∧ w = w' := by
  go_enter Tryz.func58, Tryz.ntmps58
  go_wp2
  go_ret2
  exact ⟨rfl, rfl⟩

theorem numberW_any (w : World) (g : Nat) (v : Value) (l : List UInt8) (e : Nat) (n : Int) (h : IsW w g v l e) (hn : n ≤ 9223372036854775807) (hl : l.length + 20 ≤ 140737488355328) :
    Calls Tryz.prog 56 #[.pointer (some ⟨g, 0, none⟩), .int .i64 n] w fun r w' => WPost w g v (if n < 0 then l else wput l e (enc n.toNat)) (if n < 0 then errOf e 2 else e) r w' := by
  by_cases h0 : n < 0
  · rw [if_pos h0, if_pos h0]
    have H := Lib.hid (fail_any w g v l e 2 h)
    clear h
    go_enter Tryz.func56, Tryz.ntmps56
    go_wp2_with (go_at_call 87; refine H.out.mono ?_; rintro e w' ⟨rfl, hp, hm⟩; have HP := Lib.hid hp; have HM := Lib.hid hm; clear hp hm)
    first | go_end0 | refine bodyPost_ret (results_none rfl _ _ _) rfl ?_
    exact ⟨rfl, v, HP.out, HM.out.mono fun k _ hk => .inl hk, .inl rfl⟩
  · rw [if_neg h0, if_neg h0]
    obtain ⟨k, rfl⟩ := Int.eq_ofNat_of_zero_le (show 0 ≤ n by omega)
    rw [Int.toNat_natCast]
    have H := Lib.hid (naturalW_any w g v l e k h (by omega) hl)
    clear h
    go_enter Tryz.func56, Tryz.ntmps56
    go_wp2_with (go_at_call 88; refine H.out.mono ?_; rintro e w' ⟨rfl, hp⟩; have HP := Lib.hid hp; clear hp)
    first | go_end0 | refine bodyPost_ret (results_none rfl _ _ _) rfl ?_
    exact ⟨rfl, HP.out⟩

/-- The natural number that stands for a signed one. -/
def zig (n : Int) : Nat := if n < 0 then 2 * (-n - 1).toNat + 1 else 2 * n.toNat
theorem zig_neg {n : Int} (h : n < 0) : ((zig n : Nat) : Int) = 2 * (-n - 1) + 1 := by unfold zig; rw [if_pos h]; omega
theorem zig_pos {n : Int} (h : ¬ n < 0) : ((zig n : Nat) : Int) = 2 * n := by unfold zig; rw [if_neg h]; omega
theorem xor_m1 (n : Int) (h1 : -9223372036854775808 ≤ n) (h2 : n ≤ 9223372036854775807) : bits .xor .i64 (-1) n = -n - 1 := by
  show IntKind.i64.wrap ((BitVec.ofInt 64 (-1) ^^^ BitVec.ofInt 64 n).toNat : Int) = _
  have e : BitVec.ofInt 64 (-1) = BitVec.allOnes 64 := by decide
  rw [e, BitVec.allOnes_xor, BitVec.toNat_not, BitVec.toNat_ofInt, IntKind.wrap_i64]
  simp only [Nat.reducePow]
  omega

theorem wraps_neg (n : Int) (h : n < 0) (h' : -9223372036854775808 ≤ n) : IntKind.u64.wrap (IntKind.u64.wrap (2 * IntKind.u64.wrap (-n - 1)) + 1) = 2 * (-n - 1) + 1 := by
  rw [IntKind.wrap_u64, IntKind.wrap_u64, IntKind.wrap_u64]; omega

set_option maxHeartbeats 400000 in
theorem clone_any (A : Option Addr) (l : List UInt8) (c : Nat) (w : World) (hr : RB w w.heap.size A l) (hl : l.length ≤ 140737488355328) :
    Calls Tryz.prog 90 #[.slice A l.length c] w fun e w' => ∃ v', e = .returned v' ∧ OB 5 w' w.heap.size v' l ∧ Below w.heap.size w w' := by
  rcases A with _ | A
  · have h0 : l = [] := by
      rcases Nat.eq_zero_or_pos l.length with h | h
      · exact List.eq_nil_of_length_eq_zero h
      · obtain ⟨_, _, h, _⟩ := hr h
        cases h
    subst h0
    have hq : ∀ W : World, (binOp .eql 53 (.slice none 0 c) (.slice none 0 0)).run Tryz.prog W = .ok (.bool true) W := fun W => Lib.run_eql_slice_nil W _ _ _ _ _ _ _ bsl.u
    go_enter Tryz.func90, Tryz.ntmps90
    go_wp2
    go_ret
    exact ⟨_, rfl, OB.nil _ _ _, Below.refl _ _⟩
  · have HR := Lib.hid hr
    have hq : ∀ W : World, (binOp .eql 53 (.slice (some A) l.length c) (.slice none 0 0)).run Tryz.prog W = .ok (.bool false) W := fun W => Lib.run_eql_slice_nil W _ _ _ _ _ _ _ bsl.u
    have HO := Lib.hid (show OB 5 (w.alloc (.cells #[] 5)) w.heap.size (.slice (some ⟨w.heap.size, 0, none⟩) 0 0) [] from World.ownsRow_made w #[] 0 (Nat.le_refl _) (by unfold maxLen; omega) rfl)
    have HR2 := Lib.hid (hr.below (below_alloc w (.cells #[] 5)))
    clear hr
    go_enter Tryz.func90, Tryz.ntmps90
    go_wp2_with (at_builtin; go_loud (refine wpList_app bsl rfl (.tmp 5) (.tmp 6) rfl w.heap.size _ [] rfl HO.out w.heap.size (some A) l c rfl HR2.out (by simpa using hl) (below_alloc _ _).size ?_))
    intro v1 w1 ho1 hg1
    have HO1 := Lib.hid ho1
    have HG1 := Lib.hid hg1
    clear ho1 hg1
    go_wp2
    go_ret
    exact ⟨v1, rfl, by simpa using HO1.out, (below_alloc w _).trans (HG1.out.below (below_alloc w _).size (by intro k hk; simp [Value.ownBlock] at hk; omega))⟩

theorem textW_any (w : World) (g : Nat) (v : Value) (l : List UInt8) (e : Nat) (s : ByteArray) (h : IsW w g v l e) (hs : s.size ≤ 9223372036854775807) (hl : l.length + 16777300 ≤ 140737488355328) :
    Calls Tryz.prog 57 #[.pointer (some ⟨g, 0, none⟩), .string s] w fun r w' => WPost w g v (if 16777216 < s.size then l else wput l e (enc s.size ++ s.data.toList)) (if 16777216 < s.size then errOf e 5 else e) r w' := by
  by_cases h0 : 16777216 < s.size
  · rw [if_pos h0, if_pos h0]
    have h0' : (16777216 : Int) < (s.size : Int) := by omega
    have H := Lib.hid (fail_any w g v l e 5 h)
    clear h
    go_enter Tryz.func57, Tryz.ntmps57
    go_wp2_with (go_at_call 87; refine H.out.mono ?_; rintro e w' ⟨rfl, hp, hm⟩; have HP := Lib.hid hp; have HM := Lib.hid hm; clear hp hm)
    first | go_end0 | refine bodyPost_ret (results_none rfl _ _ _) rfl ?_
    exact ⟨rfl, v, HP.out, HM.out.mono fun k _ hk => .inl hk, .inl rfl⟩
  · rw [if_neg h0, if_neg h0]
    have h0' : ¬ (16777216 : Int) < (s.size : Int) := by omega
    have H := Lib.hid (naturalW_any w g v l e s.size h (by omega) (by omega))
    clear h
    go_enter Tryz.func57, Tryz.ntmps57
    go_wp2_with (go_at_call 88; refine H.out.mono ?_; rintro e1 w1 ⟨rfl, v1, hp, hm, hn⟩; have HP := Lib.hid hp; have HM := Lib.hid hm; have HN := Lib.hid hn; clear hp hm hn)
    by_cases he : e = 0
    · subst he
      have HO := Lib.hid (open_any w1 g v1 _ 0 HP.out)
      have hc : w1.cell? ⟨g, 0, none⟩ = some v1 := HP.out.1.cell 0
      have hf : w1.frozen? ⟨g, 0, none⟩ = false := HP.out.1.frozen 0
      have hl1 : (wput l 0 (enc s.size)).length + s.size ≤ 140737488355328 := by
        have := enc_len10 (n := s.size) (by omega)
        rw [wput, if_pos rfl, List.length_append]; omega
      have HL := Lib.hid hl1
      clear hl1
      go_wp2_with (first
        | (go_at_call 89; refine HO.out.mono ?_; rintro e w' ⟨rfl, rfl⟩)
        | (at_builtin; go_loud (refine wpList_app_str bsl rfl (.tmp 20) (.tmp 21) _ Tryz.underlying9 rfl 0 v1 _ rfl HP.out.2 s rfl HL.out (Nat.zero_le _) ?_)))
      intro v2 w2 ho2 hg2
      obtain ⟨A2, cap2, rfl, _⟩ := ho2.form
      have hb2 := HP.out.1.mod hg2.mod (fun hk => HP.out.ne hk)
      have hc2 : w2.cell? ⟨g, 0, none⟩ = some v1 := hb2.cell 0
      have hf2 : w2.frozen? ⟨g, 0, none⟩ = false := hb2.frozen 0
      have hne2 := ho2.ne_blk hb2 (by decide)
      have HB := Lib.hid hb2
      have HG2 := Lib.hid hg2
      have HO2 := Lib.hid ho2
      have HN2 := Lib.hid hne2
      clear hb2 hg2 ho2 hne2 hc hf
      go_wp2
      first | go_end0 | refine bodyPost_ret (results_none rfl _ _ _) rfl ?_
      have hm := HG2.out.mod
      have hm1 : Mod w w2 (wfoot g v) := HM.out.trans hm fun k hk hv => by
        rcases HN.out with e | ⟨j, e, hj⟩ <;> rw [e] at hv
        · exact .inr hv
        · injection hv with hv; omega
      have hnw : Newer w1 v1 (.slice A2 (wput l 0 (enc s.size) ++ s.data.toList).length cap2) := HG2.out.newer
      refine ⟨rfl, _, ⟨?_, ?_⟩, hm1.setCell (p := ⟨g, 0, none⟩) (fun _ => .inl rfl) _, HN.out.trans hnw HM.out.size⟩
      · have := HB.out.set_ 0 (.slice A2 (wput l 0 (enc s.size) ++ s.data.toList).length cap2); simpa using this
      · have e : wput l 0 (enc s.size ++ s.data.toList) = wput l 0 (enc s.size) ++ s.data.toList := by simp [wput]
        rw [e]
        exact HO2.out.mod ((Mod.refl w2 (· = g)).setCell (p := ⟨g, 0, none⟩) (fun _ => rfl) _) fun k hk e => HN2.out (by rw [hk, e])
    · have HO := Lib.hid (open_any w1 g v1 _ e HP.out)
      rw [show decide (e = 0) = false by simpa using he] at HO
      have h2 := Lib.hid he
      clear he
      go_wp2_with (go_at_call 89; refine HO.out.mono ?_; rintro e w' ⟨rfl, rfl⟩)
      first | go_end0 | refine bodyPost_ret (results_none rfl _ _ _) rfl ?_
      exact ⟨rfl, v1, by have := HP.out; unfold wput at this ⊢; rw [if_neg h2.out] at this ⊢; exact this, HM.out, HN.out⟩
end Go.Proofs.YtcdjmkfpclmbdaaGreatDoor.Cod

namespace Go.Proofs.YtcdjmkfpclmbdaaGreatDoor.Cod
open Go.RowKit

set_option maxHeartbeats 400000 in
theorem bytesW_any (w : World) (g : Nat) (v : Value) (l : List UInt8) (h : IsW w g v l 0) (hl : l.length ≤ 140737488355328) :
    Calls Tryz.prog 58 #[.pointer (some ⟨g, 0, none⟩)] w fun r w' => ∃ v', r = .returned (.tuple #[v', .int .i64 0]) ∧ OB 5 w' w.heap.size v' l ∧ Below w.heap.size w w' := by
  obtain ⟨A, cap, rfl, hr, _, _⟩ := h.2.form
  have hc0 : w.cell? ⟨g, 0, none⟩ = some (.slice A l.length cap) := h.1.cell 0
  have hc1 : w.cell? ⟨g, 1, none⟩ = some (.int .i64 ((0 : Nat) : Int)) := h.1.cell 1
  have HC := Lib.hid (clone_any A l cap w hr hl)
  clear h hr
  go_enter Tryz.func58, Tryz.ntmps58
  go_wp2_with (go_at_call 90; refine HC.out.mono ?_; rintro e w' ⟨v', rfl, ho, hb⟩; have HO := Lib.hid ho; have HB := Lib.hid hb; clear ho hb)
  go_ret2
  exact ⟨_, rfl, HO.out, HB.out⟩

set_option maxHeartbeats 400000 in
theorem bytesW_err (w : World) (g : Nat) (v : Value) (l : List UInt8) (e : Nat) (h : IsW w g v l e) (he : e ≠ 0) :
    Calls Tryz.prog 58 #[.pointer (some ⟨g, 0, none⟩)] w fun r w' => r = .returned (.tuple #[.slice none 0 0, .int .i64 (e : Int)]) ∧ Below w.heap.size w w' := by
  have hc1 : w.cell? ⟨g, 1, none⟩ = some (.int .i64 (e : Int)) := h.1.cell 1
  have hne : ((e : Int) != 0) = true := by simp; omega
  clear h he
  go_enter Tryz.func58, Tryz.ntmps58
  go_wp2
  go_quiet (fail)
  go_wp2
  go_ret2
  exact ⟨rfl, ⟨rfl, rfl, rfl, Nat.le_refl _, fun _ _ => rfl⟩⟩

theorem RB.lit (W : World) (e : TypeId) (l : List UInt8) : RB (W.alloc (.cells (l.map bv).toArray e)) (W.heap.size + 1) (some ⟨W.heap.size, 0, none⟩) l := fun _ =>
  ⟨_, _, rfl, by omega, fun j c hj => by rw [World.cell?_alloc_at _ _ _ _ rfl, Nat.zero_add]; simp [hj]⟩

theorem newer_ge {w : World} {v v' : Value} {B : Nat} (h : Newer w v v') (hv : ∀ k, v.ownBlock = some k → B ≤ k) (hB : B ≤ w.heap.size := by exact Nat.le_refl _) : ∀ k, v'.ownBlock = some k → B ≤ k := by
  intro k hk
  rcases h with e | ⟨j, e, hj⟩
  · exact hv k (by rw [← e]; exact hk)
  · rw [e] at hk; injection hk with hk; omega

theorem enc300 : enc 300 = [172, 2] := by rw [enc_high (by omega), enc_low (by omega)]; rfl
theorem enc1 : enc 1 = [1] := by rw [enc_low (by omega)]; rfl
theorem enc2 : enc 2 = [2] := by rw [enc_low (by omega)]; rfl

end Go.Proofs.YtcdjmkfpclmbdaaGreatDoor.Cod

namespace Go.Proofs.YtcdjmkfpclmbdaaGreatDoor.Cod
open Go.RowKit

theorem natural_int (n : Int) (w : World) (h0 : 0 ≤ n) (h1 : n < 18446744073709551616) :
    Calls Tryz.prog 60 #[.int .u64 n] w fun e w' => ∃ v', e = .returned v' ∧ OB 5 w' w.heap.size v' (enc n.toNat) ∧ Below w.heap.size w w' := by
  obtain ⟨k, rfl⟩ := Int.eq_ofNat_of_zero_le h0
  rw [Int.toNat_natCast]
  exact natural_any k w (by omega)

theorem str_at {s : ByteArray} {k : Nat} (h : k < s.size) : s.data.toList[k]? = some s[k] := by
  have : k < s.data.toList.length := by simpa using h
  rw [List.getElem?_eq_getElem this]; rfl

end Go.Proofs.YtcdjmkfpclmbdaaGreatDoor.Cod
