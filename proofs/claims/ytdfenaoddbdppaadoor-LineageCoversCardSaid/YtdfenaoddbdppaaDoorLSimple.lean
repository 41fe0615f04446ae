/- lineage: the walks of Parse, Valid, Depth, Last. -/
import Derived.Test.YtdfenaoddbdppaaDoorLList
set_option linter.unusedVariables false
namespace Go.Proofs.YtdfenaoddbdppaaDoor
open Go.RowKit

/-- What list returns, cell for cell, with the fresh block that its caller lays for it. -/
theorem list_nine (S : ByteArray) (hS : S.size ≤ 1000000) : ∃ a b c d e f g i : Nat, listV (parseL S.data.toList).1 = listN a b c d e f g i (parseL S.data.toList).1.length ∧
    ∀ w, Calls Tryd.prog 49 #[.string S] w fun r w' => r = .returned (.tuple #[.agg #[iv a, iv b, iv c, iv d, iv e, iv f, iv g, iv i, iv (parseL S.data.toList).1.length], .bool (validB S.data.toList)]) ∧ Below w.heap.size w w' := by
  obtain ⟨a, b, c, d, e, f, g, i, h⟩ := nine (parseL_len8 S.data.toList)
  refine ⟨a, b, c, d, e, f, g, i, h, fun w => ?_⟩
  have := list_any S w hS
  rw [h] at this
  exact this

/-- Of the result that a text begins with: nothing where it is no name. -/
def goodS (S : ByteArray) (e : Nat) : ByteArray := if e = 0 then S else ⟨#[]⟩
set_option maxHeartbeats 1000000 in
set_option maxRecDepth 100000 in
theorem parse_any (S : ByteArray) (w : World) (hS : S.size ≤ 1000000) (R : List Nat × Nat × Nat) (hR : R = parseL S.data.toList) :
    Calls Tryd.prog 15 #[.string S] w fun e w' => e = .returned (.tuple #[.string (goodS S R.2.2), .int .i64 (R.2.1 : Int), .int .i64 (R.2.2 : Int)]) ∧ Below w.heap.size w w' := by
  have hl : R.1.length ≤ 8 := by rw [hR]; exact parseL_len8 _
  have h0 : R.2.2 = 0 → R.2.1 = 0 := by rw [hR]; exact fun h => (parseL_text h).1
  have HP := Lib.hid fun W => read_any S W hS R hR
  obtain ⟨o, x, e⟩ := R
  clear hR
  obtain ⟨c0, c1, c2, c3, c4, c5, c6, c7, h9⟩ := nine hl
  simp only [h9] at HP
  clear h9 hl
  by_cases he : e = 0
  · subst he
    obtain rfl : x = 0 := h0 rfl
    clear h0
    go_enter Tryd.func15, Tryd.ntmps15
    go_wp2_with (go_at_call 48; refine (HP.out _).mono ?_; rintro r W1 ⟨rfl, hb1⟩; have HB := Lib.hid hb1; clear hb1)
    refine bodyPost_ret (results_tmp3' rfl _ _ _) rfl ?_
    exact ⟨rfl, HB.out.alloc HB.out.size _⟩
  · have ge : ((e : Int) == 0) = false := by simp; omega
    have HG : Hid (goodS S e = ⟨#[]⟩) := Lib.hid (by unfold goodS; rw [if_neg he])
    simp only [HG.out]
    clear he h0
    go_enter Tryd.func15, Tryd.ntmps15
    go_wp2_with (go_at_call 48; refine (HP.out _).mono ?_; rintro r W1 ⟨rfl, hb1⟩; have HB := Lib.hid hb1; clear hb1)
    refine bodyPost_ret (results_tmp3' rfl _ _ _) rfl ?_
    exact ⟨rfl, HB.out.alloc HB.out.size _⟩

set_option maxHeartbeats 1000000 in
set_option maxRecDepth 100000 in
theorem valid_any (S : ByteArray) (w : World) (hS : S.size ≤ 1000000) :
    Calls Tryd.prog 18 #[.string S] w fun e w' => e = .returned (.bool (validB S.data.toList)) ∧ Below w.heap.size w w' := by
  obtain ⟨c0, c1, c2, c3, c4, c5, c6, c7, h9, hp⟩ := list_nine S hS
  have HP := Lib.hid hp
  clear h9 hp
  go_enter Tryd.func18, Tryd.ntmps18
  go_wp2_with (go_at_call 49; refine (HP.out _).mono ?_; rintro r W1 ⟨rfl, hb1⟩; have HB := Lib.hid hb1; clear hb1)
  go_ret
  exact ⟨rfl, HB.out.alloc HB.out.size _⟩

set_option maxHeartbeats 1000000 in
set_option maxRecDepth 100000 in
theorem depth_any (S : ByteArray) (w : World) (hS : S.size ≤ 1000000) :
    Calls Tryd.prog 24 #[.string S] w fun e w' => e = .returned (iv (parseL S.data.toList).1.length) ∧ Below w.heap.size w w' := by
  obtain ⟨c0, c1, c2, c3, c4, c5, c6, c7, h9, hp⟩ := list_nine S hS
  obtain ⟨n, hn⟩ : ∃ n, n = (parseL S.data.toList).1.length := ⟨_, rfl⟩
  rw [← hn] at hp ⊢
  have HP := Lib.hid hp
  clear h9 hp hn
  go_enter Tryd.func24, Tryd.ntmps24
  go_wp2_with (go_at_call 49; refine (HP.out _).mono ?_; rintro r W1 ⟨rfl, hb1⟩; have HB := Lib.hid hb1; clear hb1)
  go_ret
  exact ⟨rfl, HB.out.alloc HB.out.size _⟩

/-- The last ordinal, or 0. -/
def lastN (l : List Nat) : Nat := l.getLast?.getD 0
set_option maxHeartbeats 1000000 in
set_option maxRecDepth 100000 in
theorem last_any (S : ByteArray) (w : World) (hS : S.size ≤ 1000000) :
    Calls Tryd.prog 25 #[.string S] w fun e w' => e = .returned (iv (lastN (parseL S.data.toList).1)) ∧ Below w.heap.size w w' := by
  obtain ⟨c0, c1, c2, c3, c4, c5, c6, c7, h9, hp⟩ := list_nine S hS
  have hl := parseL_len8 S.data.toList
  obtain ⟨l, hl2⟩ : ∃ l, l = (parseL S.data.toList).1 := ⟨_, rfl⟩
  rw [← hl2] at hp h9 hl ⊢
  clear hl2
  rcases List.eq_nil_or_concat l with rfl | ⟨q, x, rfl⟩
  · have HP := Lib.hid hp
    clear h9 hp hl
    simp only [List.length_nil] at HP
    go_enter Tryd.func25, Tryd.ntmps25
    go_wp2_with (go_at_call 49; refine (HP.out _).mono ?_; rintro r W1 ⟨rfl, hb1⟩; have HB := Lib.hid hb1; clear hb1)
    go_ret
    exact ⟨rfl, HB.out.alloc HB.out.size _⟩
  · have e1 : (q.concat x).length = q.length + 1 := by simp
    have e2 : lastN (q.concat x) = x := by unfold lastN; simp
    have hx : (listN c0 c1 c2 c3 c4 c5 c6 c7 (q.concat x).length)[q.length]? = some (iv x) := by
      rw [← h9]; exact listV_at (by simp)
    rw [e1] at hx hp hl
    rw [e2]
    obtain ⟨k, hk⟩ : ∃ k, k = q.length := ⟨_, rfl⟩
    rw [← hk] at hx hp hl
    have HP := Lib.hid hp
    have hx1 : ([Value.int .i64 (c0 : Int), Value.int .i64 (c1 : Int), Value.int .i64 (c2 : Int), Value.int .i64 (c3 : Int), Value.int .i64 (c4 : Int), Value.int .i64 (c5 : Int), Value.int .i64 (c6 : Int), Value.int .i64 (c7 : Int), Value.int .i64 ((k : Int) + 1)])[k]? = some (Value.int .i64 (x : Int)) := hx
    clear h9 hp hk e1 e2 hx
    have g0 : ((k : Int) + 1 == 0) = false := by simp; omega
    have g8 : (k : Int) < 8 := by omega
    go_enter Tryd.func25, Tryd.ntmps25
    go_wp2_with (go_at_call 49; refine (HP.out _).mono ?_; rintro r W1 ⟨rfl, hb1⟩; have HB := Lib.hid hb1; clear hb1)
    go_ret
    exact ⟨rfl, HB.out.alloc HB.out.size _⟩
end Go.Proofs.YtdfenaoddbdppaaDoor
