/- The walks of codec.Writer.Bytes and of the examples that every statement of the layer checks first. -/
import Derived.Test.YtfjigooahdfbpaaWriter
import Derived.Test.YtfjigooahdfbpaaParse
set_option linter.unusedVariables false
namespace Go.Proofs.Ytfjigooahdfbpaa
open Go.RowKit

set_option maxHeartbeats 400000 in
theorem bytesW_any (w : World) (g : Nat) (v : Value) (l : List UInt8) (h : IsW w g v l 0) (hl : l.length ≤ 140737488355328) :
    Calls Try.prog 21 #[.pointer (some ⟨g, 0, none⟩)] w fun r w' => ∃ v', r = .returned (.tuple #[v', .int .i64 0]) ∧ OB 5 w' w.heap.size v' l ∧ Below w.heap.size w w' := by
  obtain ⟨A, cap, rfl, hr, _, _⟩ := h.2.form
  have hc0 : w.cell? ⟨g, 0, none⟩ = some (.slice A l.length cap) := h.1.cell 0
  have hc1 : w.cell? ⟨g, 1, none⟩ = some (.int .i64 ((0 : Nat) : Int)) := h.1.cell 1
  have HC := Lib.hid (clone_any A l cap w hr hl)
  clear h hr
  go_enter Try.func21, Try.ntmps21
  go_wp2_with (go_at_call 44; refine HC.out.mono ?_; rintro e w' ⟨v', rfl, ho, hb⟩; have HO := Lib.hid ho; have HB := Lib.hid hb; clear ho hb)
  go_ret2
  exact ⟨_, rfl, HO.out, HB.out⟩

set_option maxHeartbeats 400000 in
theorem bytesW_err (w : World) (g : Nat) (v : Value) (l : List UInt8) (e : Nat) (h : IsW w g v l e) (he : e ≠ 0) :
    Calls Try.prog 21 #[.pointer (some ⟨g, 0, none⟩)] w fun r w' => r = .returned (.tuple #[.slice none 0 0, .int .i64 (e : Int)]) ∧ Below w.heap.size w w' := by
  have hc1 : w.cell? ⟨g, 1, none⟩ = some (.int .i64 (e : Int)) := h.1.cell 1
  have hne : ((e : Int) != 0) = true := by simp; omega
  clear h he
  go_enter Try.func21, Try.ntmps21
  go_wp2
  go_quiet (fail)
  go_wp2
  go_ret2
  exact ⟨rfl, ⟨rfl, rfl, rfl, Nat.le_refl _, fun _ _ => rfl⟩⟩

theorem RB.lit (W : World) (e : TypeId) (l : List UInt8) : RB (W.alloc (.cells (l.map bv).toArray e)) (W.heap.size + 1) (some ⟨W.heap.size, 0, none⟩) l := fun _ =>
  ⟨_, _, rfl, by omega, fun j c hj => by rw [World.cell?_alloc_at _ _ _ _ rfl, Nat.zero_add]; simp [hj]⟩

theorem newer_ge {w : World} {v v' : Value} {B : Nat} (h : Newer w v v') (hv : ∀ k, v.ownBlock = some k → B ≤ k) (hB : B ≤ w.heap.size := by exact Nat.le_refl _) : ∀ k, v'.ownBlock = some k → B ≤ k := by
  intro k hk
  rcases h with e | ⟨j, e, hj⟩
  · exact hv k (by rw [← e]; exact hk)
  · rw [e] at hk; injection hk with hk; omega

theorem enc300 : enc 300 = [172, 2] := by rw [enc_high (by omega), enc_low (by omega)]; rfl
theorem enc1 : enc 1 = [1] := by rw [enc_low (by omega)]; rfl
theorem enc2 : enc 2 = [2] := by rw [enc_low (by omega)]; rfl

set_option maxHeartbeats 1000000 in
set_option maxRecDepth 100000 in
theorem known_any (w : World) : Calls Try.prog 13 #[] w fun r w' => r = .returned (.bool true) ∧ Below w.heap.size w w' := by
  go_enter Try.func13, Try.ntmps13
  go_wp2_with fail
  refine (newWriter_any w).mono ?_
  rintro e w1 ⟨rfl, hw1, hb1⟩
  obtain ⟨g, hg⟩ : ∃ g, g = w.heap.size := ⟨_, rfl⟩
  rw [← hg] at hw1 ⊢
  have H1 := Lib.hid (numberW_any w1 g _ _ _ 300 hw1 (by omega) (by simp))
  simp only [show ¬ ((300 : Int) < 0) by omega, if_false, show (300 : Int).toNat = 300 from rfl, enc300] at H1
  have HG := Lib.hid hg
  have HB1 := Lib.hid hb1
  clear hw1 hg hb1
  go_wp2_with fail
  refine H1.out.mono ?_
  rintro e w2 ⟨rfl, v2, hw2, hm2, hn2⟩
  have H2 := Lib.hid (signedW_any w2 g _ _ _ (-1) hw2 (by omega) (by omega) (by simp [wput]))
  simp only [show zig (-1) = 1 from rfl, enc1] at H2
  clear hw2
  go_wp2_with fail
  refine H2.out.mono ?_
  rintro e w3 ⟨rfl, v3, hw3, hm3, hn3⟩
  have H3 := Lib.hid (textW_any w3 g _ _ _ ⟨#[97, 98]⟩ hw3 (by decide) (by simp [wput]))
  simp only [show (ByteArray.mk #[97, 98]).size = 2 from rfl, show ¬ ((16777216 : Nat) < 2) by omega, if_false, enc2, show (ByteArray.mk #[97, 98]).data.toList = [97, 98] from rfl] at H3
  clear hw3
  go_wp2_with fail
  refine H3.out.mono ?_
  rintro e w4 ⟨rfl, v4, hw4, hm4, hn4⟩
  have H4 := Lib.hid (bytesW_any w4 g _ _ hw4 (by simp [wput]))
  simp only [wput, if_true, List.nil_append, List.cons_append] at H4
  clear hw4
  go_wp2_with fail
  refine H4.out.mono ?_
  rintro e w5 ⟨v5, rfl, ho5, hb5⟩
  obtain ⟨A5, cap5, rfl, hr5, _, _⟩ := ho5.form
  have HM2 := Lib.hid hm2
  have HM3 := Lib.hid hm3
  have HM4 := Lib.hid hm4
  have HN2 := Lib.hid hn2
  have HN3 := Lib.hid hn3
  have HB5 := Lib.hid hb5
  have HR5 := Lib.hid hr5
  clear hm2 hm3 hm4 hn2 hn3 hn4 hb5 hr5 ho5
  go_wp2_with fail
  have H6 : Hid (Calls Try.prog 16 #[.slice (some ⟨w5.heap.size, 0, none⟩) 2 2] (w5.alloc (.cells #[.int .u8 128, .int .u8 0] 5)) fun e w' => e = .returned (.tuple #[.int .i64 0, .int .i64 0, .int .i64 3]) ∧ w5.alloc (.cells #[.int .u8 128, .int .u8 0] 5) = w') :=
    Lib.hid (by have h := codecParse_any (some ⟨w5.heap.size, 0, none⟩) [128, 0] 2 _ _ (RB.lit w5 5 [128, 0]) (by decide); rw [show grp [128, 0] 9 = (0, 0, 3) by decide] at h; exact h)
  refine H6.out.mono ?_
  rintro e w6 ⟨rfl, rfl⟩
  go_wp2_with fail
  have H7 : Hid (Calls Try.prog 16 #[.slice (some ⟨w5.heap.size + 1, 0, none⟩) 1 1] ((w5.alloc (.cells #[.int .u8 128, .int .u8 0] 5)).alloc (.cells #[.int .u8 128] 5)) fun e w' => e = .returned (.tuple #[.int .i64 0, .int .i64 0, .int .i64 28]) ∧ (w5.alloc (.cells #[.int .u8 128, .int .u8 0] 5)).alloc (.cells #[.int .u8 128] 5) = w') :=
    Lib.hid (by
      have hr := RB.lit (w5.alloc (.cells #[.int .u8 128, .int .u8 0] 5)) 5 [128]
      rw [show (w5.alloc (.cells #[.int .u8 128, .int .u8 0] 5)).heap.size = w5.heap.size + 1 by simp] at hr
      have h := codecParse_any (some ⟨w5.heap.size + 1, 0, none⟩) [128] 1 _ _ hr (by decide); rw [show grp [128] 9 = (0, 0, 28) by decide] at h; exact h)
  refine H7.out.mono ?_
  rintro e w7 ⟨rfl, rfl⟩
  have hr7 := (HR5.out.keep (w' := (w5.alloc (.cells #[.int .u8 128, .int .u8 0] 5)).alloc (.cells #[.int .u8 128] 5)) fun p hp => by
    rw [World.cell?_alloc_lt _ _ _ (by simp; omega), World.cell?_alloc_lt _ _ _ hp])
  have hstr : (convert 22 9 (.slice A5 6 cap5)).run Try.prog ((w5.alloc (.cells #[.int .u8 128, .int .u8 0] 5)).alloc (.cells #[.int .u8 128] 5)) = .ok (.string ⟨#[172, 2, 1, 2, 97, 98]⟩) ((w5.alloc (.cells #[.int .u8 128, .int .u8 0] 5)).alloc (.cells #[.int .u8 128] 5)) :=
    run_str bsl 9 Try.underlying9 hr7 cap5
  clear H1 H2 H3 H4 H6 H7 hr7
  go_wp2
  go_ret
  refine ⟨rfl, ?_⟩
  have hg := HG.out
  have b1 := HB1.out
  have hnil : ∀ k, (Value.slice none 0 0).ownBlock = some k → w1.heap.size ≤ k := by intro k hk; simp [Value.ownBlock] at hk
  have f2 := newer_ge HN2.out hnil
  have f3 := newer_ge (HN2.out.trans HN3.out HM2.out.size) hnil
  have s1 := b1.size
  have b2 : Below w.heap.size w w2 := b1.trans (HM2.out.below s1 fun k _ hk => by rcases hk with rfl | hk; omega; have := hnil k hk; omega)
  have b3 : Below w.heap.size w w3 := b2.trans (HM3.out.below b2.size fun k _ hk => by rcases hk with rfl | hk; omega; have := f2 k hk; omega)
  have b4 : Below w.heap.size w w4 := b3.trans (HM4.out.below b3.size fun k _ hk => by rcases hk with rfl | hk; omega; have := f3 k hk; omega)
  have b5 : Below w.heap.size w w5 := b4.trans (HB5.out.mono b4.size)
  exact (b5.alloc b5.size _).alloc (by simp; have := b5.size; omega) _
end Go.Proofs.Ytfjigooahdfbpaa
