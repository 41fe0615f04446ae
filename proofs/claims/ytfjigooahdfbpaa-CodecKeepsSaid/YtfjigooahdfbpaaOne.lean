/- The walks of the reference's Unsigned and One. -/
import Derived.Test.YtfjigooahdfbpaaRound
import Derived.Laws.Rows
set_option linter.unusedVariables false
namespace Go.Proofs.Ytfjigooahdfbpaa
open Go.RowKit

theorem refUnsigned_any (n : Nat) (w : World) (h : n < 18446744073709551616) :
    Calls Try.prog 47 #[.int .u64 (n : Int)] w fun e w' => e = .returned (.int .i64 (unzig n)) ∧ w = w' := by
  by_cases h2 : n % 2 = 0
  · have HZ := Lib.hid (unzig_even h2)
    have t0 : ((n : Int) % 2 == 0) = true := by simp; omega
    go_enter Try.func47, Try.ntmps47
    go_wp2
    go_ret
    refine ⟨ret_int ?_, rfl⟩
    rw [HZ.out]
    try omega
  · have HZ := Lib.hid (unzig_odd h2)
    have t0 : ((n : Int) % 2 == 0) = false := by simp; omega
    go_enter Try.func47, Try.ntmps47
    go_wp2
    go_ret
    refine ⟨ret_int ?_, rfl⟩
    rw [HZ.out]
    try omega

/-- What One returns. -/
def OnePost (v : V) (b : List UInt8) (w : World) (e : Ending) (w' : World) : Prop :=
  e = .returned (.tuple #[.agg (one v b).1.cells.toArray, .int .i64 ((one v b).2.1 : Int), .int .i64 ((one v b).2.2 : Int)]) ∧ Below w.heap.size w w'

theorem below3 (w : World) (a b c : Obj) : Below w.heap.size w (((w.alloc a).alloc b).alloc c) := by
  refine (((Below.refl _ w).alloc (Nat.le_refl _) _).alloc ?_ _).alloc ?_ _ <;> simp <;> omega
theorem results_row_tmp2 {P : Program} {fn : Func} {p u x : Tmp} {ty : TypeId} (h : fn.results = #[.cell p ty, .tmp u, .tmp x]) (tmps : Array Value) (w : World) (g : Nat) (t : TypeId) (cs : Array Value) (d : TypeDesc)
    (hp : tmps.getD p undef = .pointer (some ⟨g, 0, none⟩)) (hg : Blk w g t cs)
    (hu : P.underlying ty = some d) (hd : (match d with | .struct _ | .array _ _ => true | _ => false) = true) (hi : (P.info? ty).map (·.size) = some cs.size) :
    (results fn tmps).run P w = .ok (.tuple #[.agg cs, tmps.getD u undef, tmps.getD x undef]) w := by
  have hp' : tmps[p]?.getD undef = .pointer (some ⟨g, 0, none⟩) := by simpa using hp
  simp [results, h, hp', asAddr, run_loadVar_row w g t ty cs _ d hg hu hd hi]
theorem blk_mid (w : World) (a c : Obj) (t : TypeId) (cs : Array Value) : Blk (((w.alloc a).alloc (.cells cs t)).alloc c) (w.heap.size + 1) t cs := by
  have h := (Blk.new (w.alloc a) t cs).alloc c
  have e : (w.alloc a).heap.size = w.heap.size + 1 := by simp
  rw [e] at h; exact h

set_option maxHeartbeats 2000000 in
set_option maxRecDepth 100000 in
theorem one_k0 (A : Option Addr) (b : List UInt8) (c B : Nat) (v : V) (w : World) (hr : RB w B A b) (hB : B ≤ w.heap.size) (hl : b.length ≤ 1000000) (hk : v.kind.toNat % 4 = 0) :
    Calls Try.prog 31 #[.slice A b.length c, .agg v.cells.toArray] w (OnePost v b w) := by
  have t0 : ((v.kind.toNat : Int) % 4 == 0) = true := by simp; omega
  have hkb := v.kind.toNat_lt
  have HQ := Lib.hid (one0 v b hk)
  have HP : Hid (∀ W, Below w.heap.size w W → Calls Try.prog 17 #[.slice A b.length c] W fun e w' =>
      e = .returned (.tuple #[.int .i64 ((grp b 9).1 : Int), .int .i64 ((grp b 9).2.1 : Int), .int .i64 ((grp b 9).2.2 : Int)]) ∧ W = w') :=
    Lib.hid (fun W hW => refParse_any A b c B W (hr.below (hW.mono hB)) (by omega))
  unfold V.cells
  obtain ⟨q, hq⟩ : ∃ q, q = grp b 9 := ⟨_, rfl⟩
  have hp : pNum v.most b = if q.2.2 ≠ 0 then (0, 0, q.2.2) else if v.most < (q.1 : Int) then (0, 0, 2) else ((q.1 : Int), q.2.1, 0) := by rw [hq]; rfl
  have hz := grp_zero_err b 9
  have h9 := grp9_lt b
  rw [← hq] at HP hz h9
  clear hk hq hr
  obtain ⟨n, s, e⟩ := q
  simp only at HP hp hz h9
  rw [hp] at HQ
  clear hp
  by_cases he : e = 0
  · subst he
    simp only [ne_eq, not_true_eq_false, if_false] at HQ
    clear hz
    by_cases hm : v.most < (n : Int)
    · rw [if_pos hm] at HQ
      have hm1 : ¬ (n : Int) ≤ v.most := by omega
      go_enter Try.func31, Try.ntmps31
      go_wp2_with fail
      refine (HP.out _ (below3 _ _ _ _)).mono ?_
      rintro x w1 ⟨rfl, rfl⟩
      go_wp2_with fail
      refine bodyPost_ret (results_row_tmp2 rfl _ _ (w.heap.size + 1) 56 _ _ rfl (blk_mid w _ _ _ _) Try.underlying56 rfl (by kernel_rfl)) rfl ?_
      refine ⟨?_, below3 _ _ _ _⟩
      rw [HQ.out]; rfl
    · rw [if_neg hm] at HQ
      have hm1 : (n : Int) ≤ v.most := by omega
      go_enter Try.func31, Try.ntmps31
      go_wp2_with fail
      refine (HP.out _ (below3 _ _ _ _)).mono ?_
      rintro x w1 ⟨rfl, rfl⟩
      go_wp2_with fail
      refine bodyPost_ret (results_row_tmp2 rfl _ _ (w.heap.size + 1) 56 _ _ rfl (blk_mid w _ _ _ _) Try.underlying56 rfl (by kernel_rfl)) rfl ?_
      refine ⟨?_, below3 _ _ _ _⟩
      rw [HQ.out]; rfl
  · obtain ⟨rfl, rfl⟩ := hz he
    rw [if_pos he] at HQ
    have he1 : ((e : Int) == 0) = false := by simp; omega
    clear he hz
    go_enter Try.func31, Try.ntmps31
    go_wp2_with fail
    refine (HP.out _ (below3 _ _ _ _)).mono ?_
    rintro x w1 ⟨rfl, rfl⟩
    go_wp2_with fail
    refine bodyPost_ret (results_row_tmp2 rfl _ _ (w.heap.size + 1) 56 _ _ rfl (blk_mid w _ _ _ _) Try.underlying56 rfl (by kernel_rfl)) rfl ?_
    refine ⟨?_, below3 _ _ _ _⟩
    rw [HQ.out]; rfl

set_option maxHeartbeats 2000000 in
set_option maxRecDepth 100000 in
theorem one_k1 (A : Option Addr) (b : List UInt8) (c B : Nat) (v : V) (w : World) (hr : RB w B A b) (hB : B ≤ w.heap.size) (hl : b.length ≤ 1000000) (hbc : b.length ≤ c) (hk : v.kind.toNat % 4 = 1) :
    Calls Try.prog 31 #[.slice A b.length c, .agg v.cells.toArray] w (OnePost v b w) := by
  have t0 : ((v.kind.toNat : Int) % 4 == 0) = false := by simp; omega
  have t1 : ((v.kind.toNat : Int) % 4 == 1) = true := by simp; omega
  have hkb := v.kind.toNat_lt
  have HQ := Lib.hid (one1 v b hk)
  have HP : Hid (∀ W, Below w.heap.size w W → Calls Try.prog 43 #[.slice A b.length c, .int .i64 10] W fun e w' =>
      e = .returned (.tuple #[.int .u64 ((grp b 10).1 : Int), .int .i64 ((grp b 10).2.1 : Int), .int .i64 ((grp b 10).2.2 : Int)]) ∧ W = w') :=
    Lib.hid (fun W hW => groups_any A b c 10 B W (hr.below (hW.mono hB)) (by omega) (by omega))
  unfold V.cells
  obtain ⟨q, hq⟩ : ∃ q, q = grp b 10 := ⟨_, rfl⟩
  have hp : pSig b = (unzig q.1, q.2.1, q.2.2) := by rw [hq]; rfl
  have h10 := grp10_lt b
  rw [← hq] at HP h10
  clear hk hq hr
  obtain ⟨n, s, e⟩ := q
  simp only at HP hp h10
  rw [hp] at HQ
  clear hp
  have HU := Lib.hid (fun W => refUnsigned_any n W h10)
  clear h10
  go_enter Try.func31, Try.ntmps31
  go_wp2_with fail
  refine (HP.out _ (below3 _ _ _ _)).mono ?_
  rintro x w1 ⟨rfl, rfl⟩
  go_wp2_with (go_at_call 47; refine (HU.out _).mono ?_; rintro x w2 ⟨rfl, rfl⟩)
  refine bodyPost_ret (results_row_tmp2 rfl _ _ (w.heap.size + 1) 56 _ _ rfl (blk_mid w _ _ _ _) Try.underlying56 rfl (by kernel_rfl)) rfl ?_
  exact ⟨by rw [HQ.out]; rfl, below3 _ _ _ _⟩

set_option maxHeartbeats 2000000 in
set_option maxRecDepth 100000 in
theorem one_k2 (A : Option Addr) (b : List UInt8) (c B : Nat) (v : V) (w : World) (hr : RB w B A b) (hB : B ≤ w.heap.size) (hl : b.length ≤ 1000000) (hbc : b.length ≤ c) (hk : v.kind.toNat % 4 = 2) :
    Calls Try.prog 31 #[.slice A b.length c, .agg v.cells.toArray] w (OnePost v b w) := by
  have t0 : ((v.kind.toNat : Int) % 4 == 0) = false := by simp; omega
  have t1 : ((v.kind.toNat : Int) % 4 == 1) = false := by simp; omega
  have t2 : ((v.kind.toNat : Int) % 4 == 2) = true := by simp; omega
  have hkb := v.kind.toNat_lt
  have HQ := Lib.hid (one2 v b hk)
  unfold V.cells
  clear hk
  cases b with
  | nil =>
    go_enter Try.func31, Try.ntmps31
    go_wp2_with fail
    refine bodyPost_ret (results_row_tmp2 rfl _ _ (w.heap.size + 1) 56 _ _ rfl (blk_mid w _ _ _ _) Try.underlying56 rfl (by kernel_rfl)) rfl ?_
    exact ⟨by rw [HQ.out]; rfl, below3 _ _ _ _⟩
  | cons x r =>
    obtain ⟨g, off, rfl, hgb, hcell⟩ := hr (by simp)
    have hc := hcell 0 x rfl
    rw [Nat.add_zero] at hc
    obtain ⟨n, hn⟩ : ∃ n, n = (x :: r).length := ⟨_, rfl⟩
    have hn0 : 0 < n := by rw [hn]; simp
    rw [← hn] at hl hbc ⊢
    have hne : ((n : Int) == 0) = false := by simp; omega
    have hx256 := x.toNat_lt
    have hgl : g < w.heap.size := by omega
    have hc3 : ∀ a b c, (((w.alloc a).alloc b).alloc c).cell? ⟨g, off, none⟩ = some (.int .u8 (x.toNat : Int)) := fun a b c => ((below3 w a b c).cell hgl).trans hc
    have hP := show pFlag (x :: r) = if 1 < x.toNat then (false, 0, 3) else (decide (x.toNat = 1), 1, 0) from rfl
    rw [hP] at HQ
    clear hn hr hcell hP hc
    by_cases h1 : (1 : Int) < (x.toNat : Int)
    · rw [if_pos (by omega)] at HQ
      go_enter Try.func31, Try.ntmps31
      go_wp2_with fail
      refine bodyPost_ret (results_row_tmp2 rfl _ _ (w.heap.size + 1) 56 _ _ rfl (blk_mid w _ _ _ _) Try.underlying56 rfl (by kernel_rfl)) rfl ?_
      exact ⟨by rw [HQ.out]; rfl, below3 _ _ _ _⟩
    · rw [if_neg (by omega)] at HQ
      by_cases h2 : (x.toNat : Int) = 1
      · have h3 : ((x.toNat : Int) == 1) = true := by simp [h2]
        have h4 : decide (x.toNat = 1) = true := by simp; omega
        rw [h4] at HQ
        clear h2 h4
        go_enter Try.func31, Try.ntmps31
        go_wp2_with fail
        refine bodyPost_ret (results_row_tmp2 rfl _ _ (w.heap.size + 1) 56 _ _ rfl (blk_mid w _ _ _ _) Try.underlying56 rfl (by kernel_rfl)) rfl ?_
        exact ⟨by rw [HQ.out]; rfl, below3 _ _ _ _⟩
      · have h3 : ((x.toNat : Int) == 1) = false := by simpa using h2
        have h4 : decide (x.toNat = 1) = false := by simp; omega
        rw [h4] at HQ
        clear h2 h4
        go_enter Try.func31, Try.ntmps31
        go_wp2_with fail
        refine bodyPost_ret (results_row_tmp2 rfl _ _ (w.heap.size + 1) 56 _ _ rfl (blk_mid w _ _ _ _) Try.underlying56 rfl (by kernel_rfl)) rfl ?_
        exact ⟨by rw [HQ.out]; rfl, below3 _ _ _ _⟩

set_option maxHeartbeats 2000000 in
set_option maxRecDepth 100000 in
theorem one_k3 (A : Option Addr) (b : List UInt8) (c B : Nat) (v : V) (w : World) (hr : RB w B A b) (hB : B ≤ w.heap.size) (hl : b.length ≤ 1000000) (hbc : b.length ≤ c) (hk : v.kind.toNat % 4 = 3) :
    Calls Try.prog 31 #[.slice A b.length c, .agg v.cells.toArray] w (OnePost v b w) := by
  have t0 : ((v.kind.toNat : Int) % 4 == 0) = false := by simp; omega
  have t1 : ((v.kind.toNat : Int) % 4 == 1) = false := by simp; omega
  have t2 : ((v.kind.toNat : Int) % 4 == 2) = false := by simp; omega
  have hkb := v.kind.toNat_lt
  have HQ := Lib.hid (one3 v b hk)
  have HP : Hid (∀ W, Below w.heap.size w W → Calls Try.prog 17 #[.slice A b.length c] W fun e w' =>
      e = .returned (.tuple #[.int .i64 ((grp b 9).1 : Int), .int .i64 ((grp b 9).2.1 : Int), .int .i64 ((grp b 9).2.2 : Int)]) ∧ W = w') :=
    Lib.hid (fun W hW => refParse_any A b c B W (hr.below (hW.mono hB)) (by omega))
  unfold V.cells
  obtain ⟨q, hq⟩ : ∃ q, q = grp b 9 := ⟨_, rfl⟩
  have hp : pText v.most b = if q.2.2 ≠ 0 then ([], 0, q.2.2)
    else if v.most < (q.1 : Int) ∨ 16777216 < q.1 then ([], 0, 5)
    else if b.length - q.2.1 < q.1 then ([], 0, 28)
    else ((b.drop q.2.1).take q.1, q.2.1 + q.1, 0) := by rw [hq]; rfl
  have h9 := grp9_lt b
  have hsz := grp_size b 9
  rw [← hq] at HP h9 hsz
  have HR := Lib.hid hr
  clear hk hq hr
  obtain ⟨n, s, e⟩ := q
  simp only at HP hp h9 hsz
  rw [hp] at HQ
  clear hp
  by_cases he : e = 0
  · subst he
    simp only [ne_eq, not_true_eq_false, if_false] at HQ
    by_cases hm : v.most < (n : Int)
    · rw [if_pos (.inl hm)] at HQ
      go_enter Try.func31, Try.ntmps31
      go_wp2_with fail
      refine (HP.out _ (below3 _ _ _ _)).mono ?_
      rintro x w1 ⟨rfl, rfl⟩
      go_wp2_with fail
      refine bodyPost_ret (results_row_tmp2 rfl _ _ (w.heap.size + 1) 56 _ _ rfl (blk_mid w _ _ _ _) Try.underlying56 rfl (by kernel_rfl)) rfl ?_
      exact ⟨by rw [HQ.out]; rfl, below3 _ _ _ _⟩
    · by_cases hx : (16777216 : Int) < (n : Int)
      · rw [if_pos (.inr (by omega))] at HQ
        go_enter Try.func31, Try.ntmps31
        go_wp2_with fail
        refine (HP.out _ (below3 _ _ _ _)).mono ?_
        rintro x w1 ⟨rfl, rfl⟩
        go_wp2_with fail
        refine bodyPost_ret (results_row_tmp2 rfl _ _ (w.heap.size + 1) 56 _ _ rfl (blk_mid w _ _ _ _) Try.underlying56 rfl (by kernel_rfl)) rfl ?_
        exact ⟨by rw [HQ.out]; rfl, below3 _ _ _ _⟩
      · rw [if_neg (by omega)] at HQ
        by_cases hs : (b.length : Int) - (s : Int) < (n : Int)
        · rw [if_pos (by omega)] at HQ
          go_enter Try.func31, Try.ntmps31
          go_wp2_with fail
          refine (HP.out _ (below3 _ _ _ _)).mono ?_
          rintro x w1 ⟨rfl, rfl⟩
          go_wp2_with fail
          refine bodyPost_ret (results_row_tmp2 rfl _ _ (w.heap.size + 1) 56 _ _ rfl (blk_mid w _ _ _ _) Try.underlying56 rfl (by kernel_rfl)) rfl ?_
          exact ⟨by rw [HQ.out]; rfl, below3 _ _ _ _⟩
        · rw [if_neg (by omega)] at HQ
          obtain ⟨A', c', hr', hsl⟩ := slice_mid HR.out (k := s) (n := n) (cap := c) (by omega) hbc
          obtain ⟨m, hm'⟩ : ∃ m, m = (b.drop s).take n := ⟨_, rfl⟩
          rw [← hm'] at hr' hsl HQ
          have hst3 : ∀ x y z, (convert 22 9 (.slice A' m.length c')).run Try.prog (((w.alloc x).alloc y).alloc z) = .ok (.string ⟨m.toArray⟩) (((w.alloc x).alloc y).alloc z) :=
            fun x y z => str_later (hr'.more hB) m.length c' rfl _ (below3 w x y z)
          clear hm' hr'
          go_enter Try.func31, Try.ntmps31
          go_wp2_with fail
          refine (HP.out _ (below3 _ _ _ _)).mono ?_
          rintro x w1 ⟨rfl, rfl⟩
          go_wp2_with fail
          refine bodyPost_ret (results_row_tmp2 rfl _ _ (w.heap.size + 1) 56 _ _ rfl (blk_mid w _ _ _ _) Try.underlying56 rfl (by kernel_rfl)) rfl ?_
          exact ⟨by rw [HQ.out]; rfl, below3 _ _ _ _⟩
  · rw [if_pos he] at HQ
    have he1 : ((e : Int) != 0) = true := by simp; omega
    clear he
    go_enter Try.func31, Try.ntmps31
    go_wp2_with fail
    refine (HP.out _ (below3 _ _ _ _)).mono ?_
    rintro x w1 ⟨rfl, rfl⟩
    go_wp2_with fail
    refine bodyPost_ret (results_row_tmp2 rfl _ _ (w.heap.size + 1) 56 _ _ rfl (blk_mid w _ _ _ _) Try.underlying56 rfl (by kernel_rfl)) rfl ?_
    exact ⟨by rw [HQ.out]; rfl, below3 _ _ _ _⟩
end Go.Proofs.Ytfjigooahdfbpaa
