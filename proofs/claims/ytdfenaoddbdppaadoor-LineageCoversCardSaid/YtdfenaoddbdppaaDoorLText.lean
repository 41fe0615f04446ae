/- lineage: the walk of the reference's Text. -/
import Derived.Test.YtdfenaoddbdppaaDoorLDig
import Derived.Test.YtdfenaoddbdppaaDoorLInt
set_option linter.unusedVariables false
namespace Go.Proofs.YtdfenaoddbdppaaDoor
open Go.RowKit

/-- The text of the first k ordinals. -/
def textK (l : List Nat) : Nat → List UInt8
  | 0 => []
  | k + 1 => textK l k ++ (if k = 0 then [] else [46]) ++ dec (l.getD k 0)
def textS (l : List Nat) : List UInt8 := textK l l.length
theorem textK_len (l : List Nat) (hs : ∀ x ∈ l, x ≤ 999999) (k : Nat) (hk : k ≤ l.length) : (textK l k).length ≤ 31 * k := by
  induction k with
  | zero => simp [textK]
  | succ k ih =>
    have h1 := ih (by omega)
    have h2 : (dec (l.getD k 0)).length ≤ 30 := dec_len6 (by
      rw [List.getD_eq_getElem?_getD, List.getElem?_eq_getElem (show k < l.length by omega)]
      exact hs _ (List.getElem_mem _))
    rw [textK, List.length_append, List.length_append]
    have h3 : (if k = 0 then ([] : List UInt8) else [46]).length ≤ 1 := by split <;> simp
    omega

set_option maxHeartbeats 1000000 in
set_option maxRecDepth 100000 in
theorem refText_any (A : Option Addr) (l : List Nat) (c B : Nat) (w : World) (hr : RI w B A l) (hB : B ≤ w.heap.size) (hl : l.length ≤ 100) (hs : ∀ x ∈ l, x ≤ 999999) :
    Calls Tryd.prog 20 #[.slice A l.length c] w fun e w' => e = .returned (.string ⟨(textS l).toArray⟩) ∧ Below w.heap.size w w' := by
  have HR := Lib.hid (fun W (hb : Below w.heap.size w W) => hr.below (hb.mono hB))
  have HS := Lib.hid hs
  clear hr hs
  go_enter Tryd.func20, Tryd.ntmps20
  go_wp2
  go_loopw [3, 4] (fun u i wr => ∃ (k : Nat) (s : ByteArray), k ≤ l.length ∧ u = .string s ∧ s = ⟨(textK l k).toArray⟩ ∧ i = .int .i64 (k : Int) ∧ Below w.heap.size w wr) (fun _ i _ => l.length - (intOf i).toNat)
  case atStart => exact ⟨0, ⟨#[]⟩, by omega, rfl, rfl, rfl, Below.refl _ _⟩
  case round =>
    obtain ⟨k, s, hk, rfl, hse, rfl, hb⟩ := hrel
    have HB := Lib.hid hb
    have hsl : s.size ≤ 31 * k := by
      rw [hse]; show (textK l k).toArray.size ≤ _; rw [List.size_toArray]; exact textK_len l HS.out k hk
    have HE := Lib.hid hse
    clear hb hse
    by_cases hlt : k < l.length
    · have h1 : (k : Int) < (l.length : Int) := by omega
      obtain ⟨b, off, x, rfl, hbb, hx, c0⟩ := (HR.out wr HB.out).at_ hlt
      have hx6 := HS.out x (List.mem_of_getElem? hx)
      have hgd : l.getD k 0 = x := by rw [List.getD_eq_getElem?_getD, hx]; rfl
      obtain ⟨D, hD⟩ : ∃ D : ByteArray, D = ⟨(dec x).toArray⟩ := ⟨_, rfl⟩
      have hDs : D.size ≤ 30 := by rw [hD]; show (dec x).toArray.size ≤ _; rw [List.size_toArray]; exact dec_len6 hx6
      have HD : Hid (∀ W, Calls Tryd.prog 51 #[.int .i64 (x : Int)] W fun e w' => e = .returned (.string D) ∧ Below W.heap.size W w') := Lib.hid fun W => by rw [hD]; exact digits_any x W hx6
      obtain ⟨T, hT⟩ : ∃ T : ByteArray, T = ⟨(textK l (k + 1)).toArray⟩ := ⟨_, rfl⟩
      by_cases h0 : k = 0
      · have g0 : ¬ (0 : Int) < (k : Int) := by omega
        have z1 : ¬ 9223372036854775807 < s.size + D.size := by omega
        have z2 : s ++ D = T := by
          rw [hT, HE.out, hD, textK, if_pos h0, hgd]; apply ByteArray.ext; apply Array.ext'; simp
        have HT := Lib.hid hT
        clear hx hgd hD hT h0
        go_wp2_with (go_at_call 51; refine (HD.out _).mono ?_; rintro e W1 ⟨rfl, hb1⟩; have HB1 := Lib.hid (HB.out.trans (hb1.mono HB.out.size)); clear hb1)
        go_roundw
        case rel => exact ⟨k + 1, T, by omega, rfl, HT.out, by go_num, HB1.out⟩
        case measure => simp [intOf] <;> omega
      · have g0 : (0 : Int) < (k : Int) := by omega
        obtain ⟨U, hU⟩ : ∃ U : ByteArray, U = s ++ ⟨#[46]⟩ := ⟨_, rfl⟩
        have hUs : U.size = s.size + 1 := by rw [hU, ByteArray.size_append]; rfl
        have z0 : ¬ 9223372036854775807 < s.size + 1 := by omega
        have z1 : ¬ 9223372036854775807 < U.size + D.size := by omega
        have z2 : U ++ D = T := by
          rw [hT, hU, HE.out, hD, textK, if_neg h0, hgd]; apply ByteArray.ext; apply Array.ext'; simp
        have z3 : s ++ ⟨#[46]⟩ = U := hU.symm
        have HT := Lib.hid hT
        clear hx hgd hD hT h0 hU hUs
        go_wp2_with (go_at_call 51; refine (HD.out _).mono ?_; rintro e W1 ⟨rfl, hb1⟩; have HB1 := Lib.hid (HB.out.trans (hb1.mono HB.out.size)); clear hb1)
        go_roundw
        case rel => exact ⟨k + 1, T, by omega, rfl, HT.out, by go_num, HB1.out⟩
        case measure => simp [intOf] <;> omega
    · have h1 : ¬ (k : Int) < (l.length : Int) := by omega
      have hkl : k = l.length := by omega
      have HT : Hid (s = ⟨(textS l).toArray⟩) := Lib.hid (by rw [HE.out, hkl]; rfl)
      clear hkl
      go_wp2
      go_ret
      exact ⟨by rw [← HT.out]; rfl, HB.out⟩
end Go.Proofs.YtdfenaoddbdppaaDoor
