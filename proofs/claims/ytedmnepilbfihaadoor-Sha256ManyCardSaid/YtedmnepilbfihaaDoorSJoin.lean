/- What Join's text is; the walk of sha256.Join. -/
import Derived.Test.YtedmnepilbfihaaDoorSStr
import Derived.Test.YtedmnepilbfihaaDoorSBld
set_option linter.unusedVariables false
namespace Go.Proofs.YtedmnepilbfihaaDoor
open Go.RowKit

def beb (n j : Nat) : UInt8 := UInt8.ofNat (n / 2 ^ (24 - 8 * j))
def be4 (n : Nat) : List UInt8 := [beb n 0, beb n 1, beb n 2, beb n 3]
def partS (s : ByteArray) : List UInt8 := be4 s.size ++ s.data.toList
def preS (tag : UInt8) (l : List ByteArray) (k : Nat) : List UInt8 := tag :: UInt8.ofNat l.length :: (l.take k).flatMap partS
def joinS (tag : UInt8) (l : List ByteArray) : List UInt8 := tag :: UInt8.ofNat l.length :: l.flatMap partS
theorem partS_length (s : ByteArray) : (partS s).length = s.size + 4 := by
  unfold partS be4; simp
theorem preS_step {tag : UInt8} {l : List ByteArray} {k : Nat} {s : ByteArray} (h : l[k]? = some s) : preS tag l (k + 1) = preS tag l k ++ partS s := by
  unfold preS
  rw [take_step h, List.flatMap_append]
  simp
theorem preS_all (tag : UInt8) (l : List ByteArray) : preS tag l l.length = joinS tag l := by unfold preS joinS; rw [List.take_length]
theorem preS_le (tag : UInt8) (l : List ByteArray) (hs : ∀ s ∈ l, s.size ≤ 100) (k : Nat) (hk : k ≤ l.length) : (preS tag l k).length ≤ 2 + 104 * k := by
  induction k with
  | zero => simp [preS]
  | succ k ih =>
    have e : l[k]? = some (l[k]'(by omega)) := List.getElem?_eq_getElem _
    rw [preS_step e, List.length_append, partS_length]
    have := ih (by omega)
    have := hs _ (List.mem_of_getElem? e)
    omega
theorem be4_step (n j : Nat) (hj : j < 4) : (be4 n).take (j + 1) = (be4 n).take j ++ [beb n j] := take_step (by
  match j, hj with
  | 0, _ => rfl
  | 1, _ => rfl
  | 2, _ => rfl
  | 3, _ => rfl)
theorem beb_eq (n j : Nat) : (n : Int) / 2 ^ (24 - 8 * j) % 256 = ((beb n j).toNat : Int) := by
  unfold beb
  rw [UInt8.toNat_ofNat', Int.natCast_emod, Int.natCast_ediv, Int.natCast_pow]
  rfl
theorem u8_len (n : Nat) : (n : Int) % 256 = ((UInt8.ofNat n).toNat : Int) := by
  rw [UInt8.toNat_ofNat', Int.natCast_emod]; rfl

set_option maxHeartbeats 1000000 in
set_option maxRecDepth 100000 in
theorem join_long (tag : UInt8) (A : Option Addr) (l : List ByteArray) (c : Nat) (w : World) (hl : 255 < l.length) :
    Calls Tryd.prog 19 #[bv tag, .slice A l.length c] w fun e w' => e = .returned (.tuple #[.string ⟨#[]⟩, .int .i64 9]) ∧ w = w' := by
  have h1 : (255 : Int) < (l.length : Int) := by omega
  go_enter Tryd.func19, Tryd.ntmps19
  go_wp2
  go_ret2
  exact ⟨rfl, rfl⟩

set_option maxHeartbeats 1000000 in
set_option maxRecDepth 100000 in
theorem join_any (tag : UInt8) (A : Option Addr) (l : List ByteArray) (c B : Nat) (w : World) (hr : RT w B A l) (hB : B ≤ w.heap.size) (hl : l.length ≤ 255) (hs : ∀ s ∈ l, s.size ≤ 100) :
    Calls Tryd.prog 19 #[bv tag, .slice A l.length c] w fun e w' => e = .returned (.tuple #[.string ⟨(joinS tag l).toArray⟩, .int .i64 0]) ∧ Below w.heap.size w w' := by
  have h1 : ¬ (255 : Int) < (l.length : Int) := by omega
  have h2 : Value.int .u8 (l.length : Int) = bv (UInt8.ofNat l.length) := by
    show Value.int .u8 _ = Value.int .u8 _
    rw [← u8_len, Int.emod_eq_of_lt (by omega) (by omega)]
  have HW1 : Hid (Calls Tryd.prog 39 #[.pointer (some ⟨w.heap.size, 0, none⟩), bv tag] (w.alloc (.cells #[.pointer none, .slice none 0 0] 73)) fun e w' => e = .returned .nilIface ∧ BS w.heap.size w.heap.size [tag] w' ∧ Below w.heap.size (w.alloc (.cells #[.pointer none, .slice none 0 0] 73)) w') :=
    Lib.hid (writeByte_any w.heap.size w.heap.size [] tag _ (Lib.fresh_isBuilder _ _ w) (by simp) (by simp))
  have HW2 : Hid (∀ W, BS w.heap.size w.heap.size [tag] W → w.heap.size ≤ W.heap.size → Calls Tryd.prog 39 #[.pointer (some ⟨w.heap.size, 0, none⟩), .int .u8 (l.length : Int)] W fun e w' => e = .returned .nilIface ∧ BS w.heap.size w.heap.size (preS tag l 0) w' ∧ Below w.heap.size W w') :=
    Lib.hid fun W h hW => by rw [h2]; exact writeByte_any w.heap.size w.heap.size [tag] _ W h (by simp) hW
  have HR := Lib.hid (fun W (hb : Below w.heap.size w W) => hr.below (hb.mono hB))
  have HS := Lib.hid hs
  clear hr hs h2
  go_enter Tryd.func19, Tryd.ntmps19
  go_wp2_with (first
    | (go_at_call 39; (with_reducible refine HW1.out.mono ?_); rintro e W1 ⟨rfl, hbs1, hb1⟩; have HBS1 := Lib.hid hbs1; have HB1 := Lib.hid (((Below.refl _ w).alloc (Nat.le_refl _) _).trans hb1); clear hbs1 hb1)
    | (go_at_call 39; (with_reducible refine (HW2.out W1 HBS1.out HB1.out.size).mono ?_); rintro e W2 ⟨rfl, hbs2, hb2⟩; have HBS2 := Lib.hid hbs2; have HB2 := Lib.hid (HB1.out.trans hb2); clear hbs2 hb2))
  clear HW1 HW2
  go_loopw [21] (fun i wr => ∃ k : Nat, k ≤ l.length ∧ i = .int .i64 k ∧ BS w.heap.size w.heap.size (preS tag l k) wr ∧ Below w.heap.size w wr) (fun i _ => l.length - (intOf i).toNat)
  case atStart => exact ⟨0, by omega, rfl, HBS2.out, HB2.out⟩
  case round =>
    obtain ⟨k, hk, rfl, hbs, hb⟩ := hrel
    have HBS := Lib.hid hbs
    have HB := Lib.hid hb
    clear hbs hb HBS1 HBS2 HB1 HB2
    by_cases hlt : k < l.length
    · have h1 : (k : Int) < (l.length : Int) := by omega
      obtain ⟨b, off, s, rfl, hbb, hv, c0⟩ := (HR.out wr HB.out).at_ hlt
      have hsz := HS.out s (List.mem_of_getElem? hv)
      have HV := Lib.hid hv
      clear hv
      go_wp2
      go_loopw [9] (fun i wq => ∃ j : Nat, j ≤ 4 ∧ i = .int .i64 (24 - 8 * (j : Int)) ∧ BS w.heap.size w.heap.size (preS tag l k ++ (be4 s.size).take j) wq ∧ Below w.heap.size w wq) (fun i _ => (intOf i + 8).toNat)
      case atStart => exact ⟨0, by omega, rfl, by simpa using HBS.out, HB.out⟩
      case round =>
        obtain ⟨j, hj, rfl, hbs, hb⟩ := hrel
        have HBS2 := Lib.hid hbs
        have HB2 := Lib.hid hb
        clear hbs hb
        by_cases hj4 : j < 4
        · have g1 : (0 : Int) ≤ 24 - 8 * (j : Int) := by omega
          have g2 : min (24 - 8 * (j : Int)).toNat 64 = 24 - 8 * j := by omega
          have g3 : (s.size : Int) / 2 ^ (24 - 8 * j) % 256 = ((beb s.size j).toNat : Int) := beb_eq _ _
          have hle := preS_le tag l HS.out k hk
          have HW : Hid (Calls Tryd.prog 39 #[.pointer (some ⟨w.heap.size, 0, none⟩), bv (beb s.size j)] wr fun e w' => e = .returned .nilIface ∧ BS w.heap.size w.heap.size (preS tag l k ++ (be4 s.size).take (j + 1)) w' ∧ Below w.heap.size wr w') := Lib.hid (by
            rw [be4_step _ _ hj4, ← List.append_assoc]
            exact writeByte_any w.heap.size w.heap.size _ _ _ HBS2.out (by rw [List.length_append, List.length_take]; omega) HB2.out.size)
          go_wp2_with (go_at_call 39; (with_reducible refine HW.out.mono ?_); rintro e W1 ⟨rfl, hbs1, hb1⟩; have HBS1 := Lib.hid hbs1; have HB1 := Lib.hid (HB2.out.trans hb1); clear hbs1 hb1)
          go_roundw
          case rel => exact ⟨j + 1, by omega, by go_num, HBS1.out, HB1.out⟩
          case measure => simp [intOf] <;> omega
        · have hj4' : j = 4 := by omega
          subst hj4'
          have hle := preS_le tag l HS.out k hk
          have HW : Hid (Calls Tryd.prog 40 #[.pointer (some ⟨w.heap.size, 0, none⟩), .string s] wr fun e w' => e = .returned (.tuple #[.int .i64 (s.size : Int), .nilIface]) ∧ BS w.heap.size w.heap.size (preS tag l (k + 1)) w' ∧ Below w.heap.size wr w') := Lib.hid (by
            have e : preS tag l (k + 1) = preS tag l k ++ (be4 s.size).take 4 ++ s.data.toList := by rw [preS_step HV.out, List.append_assoc]; rfl
            rw [e]
            exact writeString_any w.heap.size w.heap.size _ s _ HBS2.out (by rw [List.length_append, List.length_take]; omega) HB2.out.size)
          go_wp2_with (go_at_call 40; (with_reducible refine HW.out.mono ?_); rintro e W1 ⟨rfl, hbs1, hb1⟩; have HBS1 := Lib.hid hbs1; have HB1 := Lib.hid (HB2.out.trans hb1); clear hbs1 hb1)
          go_roundw
          case rel => exact ⟨k + 1, by omega, by go_num, HBS1.out, HB1.out⟩
          case measure => simp [intOf] <;> omega
    · have h1 : ¬ (k : Int) < (l.length : Int) := by omega
      have hkl : k = l.length := by omega
      have HW : Hid (Calls Tryd.prog 41 #[.pointer (some ⟨w.heap.size, 0, none⟩)] wr fun e w' => e = .returned (.string ⟨(joinS tag l).toArray⟩) ∧ Below w.heap.size wr w') := Lib.hid (by
        have h := HBS.out
        rw [hkl, preS_all] at h
        exact builderString_any w.heap.size w.heap.size _ _ h HB.out.size)
      clear hkl
      go_wp2_with (go_at_call 41; (with_reducible refine HW.out.mono ?_); rintro e W1 ⟨rfl, hb1⟩; have HB1 := Lib.hid (HB.out.trans hb1); clear hb1)
      go_ret2
      exact ⟨rfl, HB1.out⟩
end Go.Proofs.YtedmnepilbfihaaDoor
