/- The texts of digests, read. Plain lemmas, no program. -/
import Derived.Test.YtedmnepilbfihaaDoorSCmp
import Derived.Test.YtedmnepilbfihaaDoorSSum
set_option linter.unusedVariables false
namespace Go.Proofs.YtedmnepilbfihaaDoor
open Go.RowKit

def digFrom (c : UInt8) : Nat → Nat → Int
  | 0, _ => -1
  | n + 1, k => if hexD k == c then (k : Int) else digFrom c n (k + 1)
def nib (c : UInt8) : Int := digFrom c 16 0
theorem nib_fin : ∀ n : Fin 256, Lib.indexByte hexS.data.toList (UInt8.ofNat n.1) = nib (UInt8.ofNat n.1) := by decide +kernel
theorem nib_index (c : UInt8) : Lib.indexByte hexS.data.toList c = nib c := by
  have := nib_fin ⟨c.toNat, c.toNat_lt⟩
  simpa using this
theorem digFrom_spec (c : UInt8) : ∀ n k, digFrom c n k = -1 ∨ ∃ j : Nat, digFrom c n k = (j : Int) ∧ k ≤ j ∧ j < k + n ∧ hexD j = c
  | 0, _ => .inl rfl
  | n + 1, k => by
    rw [digFrom]
    by_cases h : (hexD k == c) = true
    · rw [if_pos h]; exact .inr ⟨k, rfl, Nat.le_refl _, by omega, by simpa using h⟩
    · rw [if_neg h]
      rcases digFrom_spec c n (k + 1) with h1 | ⟨j, h1, h2, h3, h4⟩
      · exact .inl h1
      · exact .inr ⟨j, h1, by omega, by omega, h4⟩
theorem nib_spec (c : UInt8) : nib c = -1 ∨ ∃ j : Nat, nib c = (j : Int) ∧ j < 16 ∧ hexD j = c := by
  rcases digFrom_spec c 16 0 with h | ⟨j, h1, _, h3, h4⟩
  · exact .inl h
  · exact .inr ⟨j, h1, by omega, h4⟩
theorem nib_hex {n : Nat} (h : n < 16) : nib (hexD n) = (n : Int) := by
  have : ∀ n : Fin 16, nib (hexD n.1) = (n.1 : Int) := by decide
  exact this ⟨n, h⟩

def pushN (x : UInt8) (v : Nat) : UInt8 := UInt8.ofNat (x.toNat * 16 + v)
def accP (s : List UInt8) : Nat → List UInt8
  | 0 => zs 32
  | k + 1 => (accP s k).set (k / 2) (pushN ((accP s k).getD (k / 2) 0) (nib (s.getD k 0)).toNat)
theorem accP_length (s : List UInt8) (k : Nat) : (accP s k).length = 32 := by
  induction k with
  | zero => simp [accP, zs]
  | succ k ih => rw [accP, List.length_set, ih]
def badFrom (s : List UInt8) : Nat → Nat → Option Nat
  | 0, _ => none
  | n + 1, k => if nib (s.getD k 0) < 0 then some k else badFrom s n (k + 1)
def badP (s : List UInt8) : Option Nat := badFrom s (min s.length 64) 0
def parseR (s : List UInt8) : List UInt8 × Nat × Nat :=
  match badP s with
  | some i => (zs 32, i, 6)
  | none => if s.length < 64 then (zs 32, s.length, 4) else if 64 < s.length then (zs 32, 64, 5) else (accP s 64, 0, 0)
theorem parseR_length (s : List UInt8) : (parseR s).1.length = 32 := by
  have hz : (zs 32).length = 32 := by simp [zs]
  have ha : (accP s 64).length = 32 := accP_length s 64
  unfold parseR
  generalize accP s 64 = a at ha ⊢
  split
  · exact hz
  · split
    · exact hz
    · split
      · exact hz
      · exact ha
theorem badFrom_none (s : List UInt8) : ∀ n k, badFrom s n k = none → ∀ i, k ≤ i → i < k + n → 0 ≤ nib (s.getD i 0)
  | 0, k, _, i, h1, h2 => by omega
  | n + 1, k, h, i, h1, h2 => by
    rw [badFrom] at h
    by_cases h3 : nib (s.getD k 0) < 0
    · rw [if_pos h3] at h; cases h
    · rw [if_neg h3] at h
      by_cases e : i = k
      · subst e; omega
      · exact badFrom_none s n (k + 1) h i (by omega) (by omega)
theorem badFrom_good (s : List UInt8) : ∀ n k, (∀ i, k ≤ i → i < k + n → 0 ≤ nib (s.getD i 0)) → badFrom s n k = none
  | 0, _, _ => rfl
  | n + 1, k, h => by
    rw [badFrom, if_neg (by have := h k (Nat.le_refl _) (by omega); omega)]
    exact badFrom_good s n (k + 1) fun i h1 h2 => h i (by omega) (by omega)

def byteP (s : List UInt8) (j : Nat) : UInt8 := UInt8.ofNat (16 * (nib (s.getD (2 * j) 0)).toNat + (nib (s.getD (2 * j + 1) 0)).toNat)
def bytesP (s : List UInt8) (j : Nat) : List UInt8 := (List.range j).map (byteP s)
theorem bytesP_length (s : List UInt8) (j : Nat) : (bytesP s j).length = j := by simp [bytesP]
theorem bytesP_succ (s : List UInt8) (j : Nat) : bytesP s (j + 1) = bytesP s j ++ [byteP s j] := by unfold bytesP; rw [List.range_succ, List.map_append]; rfl
theorem zs_cons (n : Nat) : zs (n + 1) = 0 :: zs n := rfl
theorem nib_small (c : UInt8) : (nib c).toNat < 16 := by
  rcases nib_spec c with h | ⟨j, h, hj, _⟩
  · rw [h]; decide
  · rw [h]; simpa using hj
theorem accP_even (s : List UInt8) : ∀ j, j ≤ 32 → accP s (2 * j) = bytesP s j ++ zs (32 - j)
  | 0, _ => rfl
  | j + 1, h => by
    have ih := accP_even s j (by omega)
    have hl := bytesP_length s j
    rw [show 2 * (j + 1) = 2 * j + 1 + 1 by omega, accP, accP, ih, show 2 * j / 2 = j by omega, show (2 * j + 1) / 2 = j by omega]
    rw [show 32 - j = (32 - (j + 1)) + 1 by omega, zs_cons]
    rw [bytesP_succ]
    have g1 : (bytesP s j ++ 0 :: zs (32 - (j + 1))).getD j 0 = 0 := by
      rw [List.getD_eq_getElem?_getD, List.getElem?_append_right (by omega), hl, Nat.sub_self]; rfl
    have s1 : ∀ x y : UInt8, (bytesP s j ++ y :: zs (32 - (j + 1))).set j x = bytesP s j ++ x :: zs (32 - (j + 1)) := fun x y => by
      rw [List.set_append_right _ _ (by omega), hl, Nat.sub_self]; rfl
    rw [g1, s1, s1]
    have g2 : ∀ x : UInt8, (bytesP s j ++ x :: zs (32 - (j + 1))).getD j 0 = x := fun x => by
      rw [List.getD_eq_getElem?_getD, List.getElem?_append_right (by omega), hl, Nat.sub_self]; rfl
    rw [g2, List.append_assoc]
    congr 1
    show _ :: _ = byteP s j :: _
    congr 1
    unfold pushN byteP
    have h1 := nib_small (s.getD (2 * j) 0)
    have h2 := nib_small (s.getD (2 * j + 1) 0)
    have e0 : (0 : UInt8).toNat = 0 := rfl
    rw [e0, Nat.zero_mul, Nat.zero_add, UInt8.toNat_ofNat', Nat.mod_eq_of_lt (by omega), Nat.mul_comm]
theorem hexOf_append (a b : List UInt8) : hexOf (a ++ b) = hexOf a ++ hexOf b := by simp [hexOf]
theorem hexOf_bytes (s : List UInt8) (hs : s.length = 64) (hg : ∀ i, i < 64 → 0 ≤ nib (s.getD i 0)) : ∀ j, j ≤ 32 → hexOf (bytesP s j) = s.take (2 * j)
  | 0, _ => rfl
  | j + 1, h => by
    rw [bytesP_succ, hexOf_append, hexOf_bytes s hs hg j (by omega)]
    obtain ⟨a, ha, ha16, hac⟩ := (nib_spec (s.getD (2 * j) 0)).resolve_left (by have := hg (2 * j) (by omega); omega)
    obtain ⟨b, hb, hb16, hbc⟩ := (nib_spec (s.getD (2 * j + 1) 0)).resolve_left (by have := hg (2 * j + 1) (by omega); omega)
    have e : hexOf [byteP s j] = [s.getD (2 * j) 0, s.getD (2 * j + 1) 0] := by
      unfold byteP
      rw [ha, hb]
      show [hexD _, hexD _] = _
      rw [UInt8.toNat_ofNat', Int.toNat_natCast, Int.toNat_natCast, Nat.mod_eq_of_lt (by omega), show (16 * a + b) / 16 = a by omega, show (16 * a + b) % 16 = b by omega, hac, hbc]
    rw [e, show 2 * (j + 1) = 2 * j + 1 + 1 by omega, List.take_add_one, List.take_add_one, List.append_assoc]
    congr 1
    rw [List.getD_eq_getElem?_getD, List.getD_eq_getElem?_getD, List.getElem?_eq_getElem (show 2 * j < s.length by omega), List.getElem?_eq_getElem (show 2 * j + 1 < s.length by omega)]
    rfl
theorem hexOf_acc (s : List UInt8) (hs : s.length = 64) (hb : badP s = none) : hexOf (accP s 64) = s := by
  have hg : ∀ i, i < 64 → 0 ≤ nib (s.getD i 0) := fun i hi => by
    unfold badP at hb
    exact badFrom_none s _ 0 hb i (by omega) (by omega)
  have h := accP_even s 32 (Nat.le_refl _)
  rw [show 2 * 32 = 64 from rfl] at h
  rw [h, show zs (32 - 32) = [] from rfl, List.append_nil, hexOf_bytes s hs hg 32 (Nat.le_refl _)]
  exact List.take_of_length_le (by omega)
theorem hexOf_mem (d : List UInt8) : ∀ c ∈ hexOf d, 0 ≤ nib c := by
  intro c hc
  unfold hexOf at hc
  rw [List.mem_flatMap] at hc
  obtain ⟨a, _, h⟩ := hc
  rcases List.mem_cons.1 h with rfl | h
  · rw [nib_hex (hi_lt a)]; omega
  · rcases List.mem_cons.1 h with rfl | h
    · rw [nib_hex (lo_lt a)]; omega
    · cases h
theorem parse_hex (d : List UInt8) (hd : d.length = 32) : parseR (hexOf d) = (d, 0, 0) := by
  have hl : (hexOf d).length = 64 := by rw [hexOf_length, hd]
  have hb : badP (hexOf d) = none := by
    unfold badP
    refine badFrom_good _ _ _ fun i _ hi => ?_
    have hi' : i < (hexOf d).length := by omega
    rw [List.getD_eq_getElem?_getD, List.getElem?_eq_getElem hi']
    exact hexOf_mem d _ (List.getElem_mem hi')
  unfold parseR
  rw [hb]
  show (if (hexOf d).length < 64 then _ else _) = _
  rw [if_neg (by omega), if_neg (by omega), (hex_same _ _).1 (hexOf_acc _ hl hb)]
theorem parse_back (s : List UInt8) (h : (parseR s).2.2 = 0) : hexOf (parseR s).1 = s := by
  unfold parseR at h ⊢
  split at h
  · cases h
  · rename_i hb
    split at h
    · cases h
    · rename_i h1
      rw [if_neg h1]
      split at h
      · cases h
      · rename_i h2
        rw [if_neg h2]
        clear h
        have hl : s.length = 64 := by omega
        have hh := hexOf_acc s hl hb
        generalize accP s 64 = a at hh ⊢
        exact hh
theorem push_shl (x : UInt8) (v : Nat) (hv : v < 16) : (UInt8.ofNat (((x.toNat * 16) % 256) ||| v)) = pushN x v := by
  have h : (x.toNat * 16) % 256 = 2 ^ 4 * (x.toNat % 16) := by omega
  rw [h, ← Nat.two_pow_add_eq_or_of_lt (by omega)]
  unfold pushN
  apply UInt8.toNat_inj.1
  rw [UInt8.toNat_ofNat', UInt8.toNat_ofNat']; omega
end Go.Proofs.YtedmnepilbfihaaDoor
