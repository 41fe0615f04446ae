/- lineage: the walk of Child. -/
import Derived.Test.YtdfenaoddbdppaaDoorLNames
set_option linter.unusedVariables false
namespace Go.Proofs.YtdfenaoddbdppaaDoor
open Go.RowKit

theorem run_appFull {P : Program} {t e : TypeId} (hP : IntSlice P t e) (w : World) (ty : TypeId) (g : Nat) (o : List Int) (hc : ∀ j s, o[j]? = some s → w.cell? ⟨g, j, none⟩ = some (zv s)) (x : Int) (hd : o.length ≤ 100) :
    ∃ A cap w', (Builtin.append_ #[t, t] ty #[.slice (some ⟨g, 0, none⟩) o.length o.length, .slice (some ⟨w.heap.size, 0, none⟩) 1 1]).run P (w.alloc (.cells #[zv x] e)) = .ok (.slice A (o ++ [x]).length cap) w' ∧ RZ w' w'.heap.size A (o ++ [x]) ∧ Below w.heap.size w w' := by
  obtain ⟨i, hi, hz, hs, hb⟩ := hP.parts
  have hc' : ∀ j v, (o.map zv)[j]? = some v → (w.alloc (.cells #[zv x] e)).cell? ((⟨g, 0, none⟩ : Addr).add j) = some v := by
    intro j v hj
    rw [List.getElem?_map, Option.map_eq_some_iff] at hj
    obtain ⟨s, hs', rfl⟩ := hj
    rw [Addr.add_lit, Nat.zero_add]
    have h1 := hc j s hs'
    exact (World.cell?_of_block (Below.heap_alloc w _ g (cell_lt h1))).trans h1
  have h := run_append_grow (P := P) (w := w.alloc (.cells #[zv x] e)) t ty e i (.int .i64 0) hP.u hi hz ⟨g, 0, none⟩ o.length o.length (o.map zv) (by rw [hs]; simp) hc' ⟨w.heap.size, 0, none⟩ 1 1 [zv x] (by rw [hs]; rfl)
    (fun j u hu => by
      match j, hu with
      | 0, hu =>
        simp at hu; subst hu
        rw [Addr.add_lit, World.cell?_alloc_at _ _ _ _ rfl]; rfl) (by omega) (by omega) (by rw [hb]; exact growslice_fits (by omega) (by omega))
  refine ⟨_, _, _, by rw [List.length_append]; exact h, ?_, ?_⟩
  · intro _
    refine ⟨_, 0, rfl, by simp, fun j s hj => ?_⟩
    rw [World.cell?_alloc_at _ _ _ _ (by simp)]
    have : ((o ++ [x]).map zv)[j]? = some (zv s) := by rw [List.getElem?_map, hj]; rfl
    rw [List.map_append] at this
    have hj2 := (List.getElem?_eq_some_iff.1 this).1
    rw [Nat.zero_add, Array.getElem?_append_left (by simpa using hj2)]
    simpa using this
  · exact (((Below.refl _ w).alloc (Nat.le_refl _) _).drew).alloc (by simp) _

/-- The name of a child, or the number of the first error. -/
def childL (s : List UInt8) (n : Int) : ByteArray × Nat := if validB s then (if isO n then mkL ((parseL s).1.map Int.ofNat ++ [n]) else (⟨#[]⟩, 2)) else (⟨#[]⟩, 12)

set_option maxHeartbeats 2000000 in
set_option maxRecDepth 100000 in
theorem child_any (S : ByteArray) (n : Int) (w : World) (hS : S.size ≤ 1000000) (hP : Pow w) :
    Calls Tryd.prog 22 #[.string S, .int .i64 n] w fun e w' => e = .returned (.tuple #[.string (childL S.data.toList n).1, .int .i64 ((childL S.data.toList n).2 : Int)]) ∧ Below w.heap.size w w' := by
  obtain ⟨o, ho⟩ : ∃ o, o = (parseL S.data.toList).1 := ⟨_, rfl⟩
  obtain ⟨c0, c1, c2, c3, c4, c5, c6, c7, h9, hl, hf⟩ := list_first S hS o ho
  have o8 : o.length ≤ 8 := by rw [ho]; exact parseL_len8 _
  have HP := Lib.hid hl
  have HPW := Lib.hid (fun W (hb : Below w.heap.size w W) => hP.below hb hP.lt)
  unfold childL
  rw [← ho]
  by_cases hv : validB S.data.toList = true
  · rw [hv] at HP
    rw [if_pos hv]
    have HIO : Hid (∀ W, Calls Tryd.prog 43 #[.int .i64 n] W fun e w' => e = .returned (.bool (isO n)) ∧ W = w') := Lib.hid fun W => isOrdinal_any n W
    by_cases hn : isO n = true
    · rw [if_pos hn]
      rw [hn] at HIO
      obtain ⟨L, hL⟩ : ∃ L, L = o.map Int.ofNat ++ [n] := ⟨_, rfl⟩
      rw [← hL]
      obtain ⟨M, hM⟩ : ∃ M, M = mkL L := ⟨_, rfl⟩
      rw [← hM]
      have bx : (o.length : Int) ≤ 8 := by omega
      have HMK : Hid (∀ A cap W, RZ W W.heap.size A L → Pow W → Calls Tryd.prog 12 #[.slice A L.length cap] W fun e w' => e = .returned (.tuple #[.string M.1, .int .i64 (M.2 : Int)]) ∧ Below W.heap.size W w') := Lib.hid fun A cap W hr hp => by
        rw [hM]; exact make_any A _ cap W.heap.size W hr (Nat.le_refl _) hp
      have HAP : Hid (∀ W1 : World, ∃ A cap w', (Builtin.append_ #[22, 22] 22 #[.slice (some ⟨W1.heap.size, 0, none⟩) o.length o.length, .slice (some ⟨W1.heap.size + 1, 0, none⟩) 1 1]).run Tryd.prog ((W1.alloc (.cells #[iv c0, iv c1, iv c2, iv c3, iv c4, iv c5, iv c6, iv c7, iv o.length] 85)).alloc (.cells #[.int .i64 n] 3)) = .ok (.slice A L.length cap) w' ∧ RZ w' w'.heap.size A L ∧ Below W1.heap.size W1 w') := Lib.hid fun W1 => by
        have ha : Arr (W1.alloc (.cells #[iv c0, iv c1, iv c2, iv c3, iv c4, iv c5, iv c6, iv c7, iv o.length] 85)) W1.heap.size 0 (listV o) := by rw [h9]; exact Arr.new W1 _ _
        obtain ⟨A, cap, w', h1, h2, h3⟩ := run_appFull isl (W1.alloc (.cells #[iv c0, iv c1, iv c2, iv c3, iv c4, iv c5, iv c6, iv c7, iv o.length] 85)) 22 W1.heap.size (o.map Int.ofNat) (fun j s hj => by
          rw [List.getElem?_map, Option.map_eq_some_iff] at hj
          obtain ⟨x, hx, rfl⟩ := hj
          exact ha.cell0 (listV_at hx)) n (by rw [List.length_map]; omega)
        rw [List.length_map, ← hL] at h1
        rw [← hL] at h2
        exact ⟨A, cap, w', by simpa using h1, h2, ((Below.refl _ W1).alloc (Nat.le_refl _) _).trans (h3.mono (by simp))⟩
      clear hl hf h9 hv hM hn ho hL
      go_enter Tryd.func22, Tryd.ntmps22
      go_wp2_with (first
        | (go_at_call 49; refine (HP.out _).mono ?_; rintro r W1 ⟨rfl, hb1⟩; have HB := Lib.hid hb1; clear hb1)
        | (go_at_call 43; refine (HIO.out _).mono ?_; rintro r W2 ⟨rfl, rfl⟩)
        | (obtain ⟨A, cap, W3, hrun, hz, hb3⟩ := HAP.out W1; refine wpList_append_of (by rfl) (.tmp 25) (.tmp 27) 22 22 (by rfl) (by rfl) (by rfl) hrun ?_; have HZ := Lib.hid hz; have HB3 := Lib.hid (HB.out.trans (hb3.mono HB.out.size)); clear hrun hz hb3)
        | (go_at_call 12; refine (HMK.out _ _ _ HZ.out (HPW.out _ HB3.out)).mono ?_; rintro r W4 ⟨rfl, hb4⟩; have HB4 := Lib.hid (HB3.out.trans (hb4.mono HB3.out.size)); clear hb4))
      refine bodyPost_ret (results_tmp2' rfl _ _ _) rfl ?_
      exact ⟨rfl, HB4.out⟩
    · have hn2 : isO n = false := by simpa using hn
      rw [if_neg hn]
      rw [hn2] at HIO
      clear hl hf h9 hv hn hn2 ho
      go_enter Tryd.func22, Tryd.ntmps22
      go_wp2_with (first
        | (go_at_call 49; refine (HP.out _).mono ?_; rintro r W1 ⟨rfl, hb1⟩; have HB := Lib.hid hb1; clear hb1)
        | (go_at_call 43; refine (HIO.out _).mono ?_; rintro r W2 ⟨rfl, rfl⟩))
      refine bodyPost_ret (results_tmp2' rfl _ _ _) rfl ?_
      exact ⟨rfl, HB.out.alloc HB.out.size _⟩
  · have hv2 : validB S.data.toList = false := by simpa using hv
    rw [if_neg hv]
    rw [hv2] at HP
    clear hl hf h9 hv hv2 ho
    go_enter Tryd.func22, Tryd.ntmps22
    go_wp2_with (go_at_call 49; refine (HP.out _).mono ?_; rintro r W1 ⟨rfl, hb1⟩; have HB := Lib.hid hb1; clear hb1)
    refine bodyPost_ret (results_tmp2' rfl _ _ _) rfl ?_
    exact ⟨rfl, HB.out.alloc HB.out.size _⟩
end Go.Proofs.YtdfenaoddbdppaaDoor
