/- pack: Pack; the law's known. -/
import Derived.Test.YtocohoojnjdkiaaKPack
import Derived.Test.YtocohoojnjdkiaaKUnp
import Derived.Lib.SlBytesConst
set_option linter.unusedVariables false
namespace Go.Proofs.Ytocohoojnjdkiaa
open Go.RowKit

set_option maxHeartbeats 1000000 in
set_option maxRecDepth 100000 in
theorem pack_all (w : World) (A : Option Addr) (b : List UInt8) (c : Nat) (hb : RB w w.heap.size A b) (hl : b.length ≤ 1048576) :
    Calls Try.prog 15 #[.slice A b.length c] w fun e w' => ∃ v, e = .returned (.tuple #[v, .int .i64 0]) ∧ OB 5 w' w.heap.size v (packF [] b) ∧ Below w.heap.size w w' := by
  have HU := Lib.hid (packWith_any w none [] 0 A b c RB.nil hb (by simp) (by simp) hl)
  obtain ⟨n, hn⟩ : ∃ n, b.length = n := ⟨_, rfl⟩
  rw [hn] at HU ⊢
  clear hn hb hl
  go_enter Try.func15, Try.ntmps15
  go_wp2_with (go_at_call 14; refine HU.out.mono ?_; rintro e V ⟨v, rfl, ho, hb⟩; have HO := Lib.hid ho; have HB := Lib.hid hb; clear ho hb)
  refine bodyPost_ret (results_tmp2' rfl _ _ _) rfl ?_
  exact ⟨_, rfl, HO.out, HB.out⟩
theorem known1 : packF [] [97, 98, 99, 100] = [3, 97, 98, 99, 100] := by kernel_rfl
theorem known2 : packF [] [97, 98, 97, 98, 97, 98, 97, 98] = [1, 97, 98, 130, 0, 1] := by kernel_rfl
theorem known3 : unpackF [] [128, 0, 0] 100 = .error (0, 2) := by kernel_rfl
theorem rb_lit {w : World} {t : TypeId} {fr : Nat × Nat} (l : List UInt8) : RB (w.alloc (.cells (l.map bv).toArray t fr)) (w.heap.size + 1) (some ⟨w.heap.size, 0, none⟩) l := by
  intro _
  refine ⟨_, _, rfl, by omega, fun j c hj => ?_⟩
  have : (w.alloc (.cells (l.map bv).toArray t fr)).heap[w.heap.size]? = some (.cells (l.map bv).toArray t fr) := heap_alloc_new _ _
  unfold World.cell?
  rw [this]
  simp [hj]
set_option maxHeartbeats 4000000 in
set_option maxRecDepth 100000 in
theorem known_any (w : World) : Calls Try.prog 16 #[] w fun e w' => e = .returned (.bool true) ∧ Below w.heap.size w w' := by
  have P1 : Hid (∀ W, Calls Try.prog 15 #[.slice (some ⟨W.heap.size, 0, none⟩) 4 4] (W.alloc (.cells #[.int .u8 97, .int .u8 98, .int .u8 99, .int .u8 100] 5 (4, 5))) fun e w' => ∃ v, e = .returned (.tuple #[v, .int .i64 0]) ∧ OB 5 w' (W.heap.size + 1) v [3, 97, 98, 99, 100] ∧ Below W.heap.size W w') := Lib.hid fun W => by
    have h := pack_all (W.alloc (.cells #[.int .u8 97, .int .u8 98, .int .u8 99, .int .u8 100] 5 (4, 5))) (some ⟨W.heap.size, 0, none⟩) [97, 98, 99, 100] 4 ((rb_lit (t := 5) (fr := (4, 5)) [97, 98, 99, 100]).more (by simp)) (by simp)
    rw [known1] at h
    refine h.mono ?_
    rintro e V ⟨v, rfl, ho, hb⟩
    exact ⟨v, rfl, by simpa using ho, ((Below.refl _ _).alloc (Nat.le_refl _) _).trans (hb.mono (by simp))⟩
  have P2 : Hid (∀ W, Calls Try.prog 15 #[.slice (some ⟨W.heap.size, 0, none⟩) 8 8] (W.alloc (.cells #[.int .u8 97, .int .u8 98, .int .u8 97, .int .u8 98, .int .u8 97, .int .u8 98, .int .u8 97, .int .u8 98] 5 (8, 9))) fun e w' => ∃ v, e = .returned (.tuple #[v, .int .i64 0]) ∧ OB 5 w' (W.heap.size + 1) v [1, 97, 98, 130, 0, 1] ∧ Below W.heap.size W w') := Lib.hid fun W => by
    have h := pack_all (W.alloc (.cells #[.int .u8 97, .int .u8 98, .int .u8 97, .int .u8 98, .int .u8 97, .int .u8 98, .int .u8 97, .int .u8 98] 5 (8, 9))) (some ⟨W.heap.size, 0, none⟩) [97, 98, 97, 98, 97, 98, 97, 98] 8 ((rb_lit (t := 5) (fr := (8, 9)) [97, 98, 97, 98, 97, 98, 97, 98]).more (by simp)) (by simp)
    rw [known2] at h
    refine h.mono ?_
    rintro e V ⟨v, rfl, ho, hb⟩
    exact ⟨v, rfl, by simpa using ho, ((Below.refl _ _).alloc (Nat.le_refl _) _).trans (hb.mono (by simp))⟩
  have P3 : Hid (∀ W, Calls Try.prog 21 #[.slice (some ⟨W.heap.size, 0, none⟩) 3 3, .int .i64 100] (W.alloc (.cells #[.int .u8 128, .int .u8 0, .int .u8 0] 5)) fun e w' => e = .returned (.tuple #[.slice none 0 0, .int .i64 0, .int .i64 2]) ∧ Below W.heap.size W w') := Lib.hid fun W => by
    have h := unpack_all (W.alloc (.cells #[.int .u8 128, .int .u8 0, .int .u8 0] 5)) (some ⟨W.heap.size, 0, none⟩) [128, 0, 0] 3 100 ((rb_lit (t := 5) (fr := (0, 0)) [128, 0, 0]).more (by simp)) (by simp) (by simp)
    rw [known3] at h
    refine h.mono ?_
    rintro e V ⟨v, a, y, rfl, ⟨rfl, rfl, rfl⟩, hb⟩
    exact ⟨rfl, ((Below.refl _ _).alloc (Nat.le_refl _) _).trans (hb.mono (by simp))⟩
  have hc1 := Lib.run_convert_bytes_const (P := Try.prog) w 22 5 #[.int .u8 97, .int .u8 98, .int .u8 99, .int .u8 100] 4 4 bslK.u bslK.b
  have hc2 : ∀ W, _ := fun W => Lib.run_convert_bytes_const (P := Try.prog) W 22 5 #[.int .u8 97, .int .u8 98, .int .u8 97, .int .u8 98, .int .u8 97, .int .u8 98, .int .u8 97, .int .u8 98] 8 8 bslK.u bslK.b
  go_enter Try.func16, Try.ntmps16
  go_upto_region 2 with (go_at_call 15; refine (P1.out _).mono ?_; rintro e V1 ⟨v1, rfl, ho1, hb1⟩; obtain ⟨A1, c1, hv1, hr1, _, _⟩ := ho1.form; subst hv1; have HR1 := Lib.hid hr1; have HB1 := Lib.hid hb1; clear ho1 hb1 hr1)
  go_upto_region 3 with (go_at_call 15; refine (P2.out _).mono ?_; rintro e V2 ⟨v2, rfl, ho2, hb2⟩; obtain ⟨A2, c2, hv2, hr2, _, _⟩ := ho2.form; subst hv2; have HR2 := Lib.hid hr2; have HB2 := Lib.hid hb2; clear ho2 hb2 hr2)
  go_upto_region 4 with (go_at_call 21; refine (P3.out _).mono ?_; rintro e V3 ⟨rfl, hb3⟩; have HB3 := Lib.hid hb3; clear hb3)
  have e1 : (convert 22 9 (.slice A1 5 c1)).run Try.prog V3 = .ok (.string ⟨#[3, 97, 98, 99, 100]⟩) V3 := run_str bslK 9 Try.underlying9 ((HR1.out.below HB2.out).below (HB3.out.mono HB2.out.size)) c1
  have e2 : (convert 22 9 (.slice A2 6 c2)).run Try.prog V3 = .ok (.string ⟨#[1, 97, 98, 130, 0, 1]⟩) V3 := run_str bslK 9 Try.underlying9 (HR2.out.below HB3.out) c2
  go_wp2
  go_ret
  exact ⟨rfl, HB1.out.trans ((HB2.out.trans (HB3.out.mono HB2.out.size)).mono HB1.out.size)⟩
end Go.Proofs.Ytocohoojnjdkiaa
