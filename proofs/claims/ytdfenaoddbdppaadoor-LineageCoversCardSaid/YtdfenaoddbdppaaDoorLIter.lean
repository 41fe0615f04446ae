/- lineage: the iterator of parts: which parts it yields. -/
import Derived.Test.YtdfenaoddbdppaaDoorLRange
set_option linter.unusedVariables false
namespace Go.Proofs.YtdfenaoddbdppaaDoor
open Go.RowKit
attribute [local go_sem] Oper.semAt_some

/-- The parts from an offset on: offset, ordinal, error. -/
def partsF (s : List UInt8) : Nat → Nat → Nat → List (Nat × Nat × Nat)
  | 0, _, _ => []
  | f + 1, at_, count =>
    ((partP s at_ count).1, (partP s at_ count).2.1, (partP s at_ count).2.2.1) ::
      (if (partP s at_ count).2.2.1 = 0 then
        (match s.drop (partP s at_ count).2.2.2 with
        | [] => []
        | c :: _ => if c = 46 then partsF s f ((partP s at_ count).2.2.2 + 1) (count + 1) else [((partP s at_ count).2.2.2, 0, 6)])
      else [])
def partsL (s : List UInt8) : List (Nat × Nat × Nat) := match s with
  | [] => []
  | _ => partsF s 9 0 0
section
variable {s : List UInt8} {f at_ a n e b count : Nat} {c : UInt8} {r : List UInt8}
theorem partsF_err (h : partP s at_ count = (a, n, e, b)) (he : e ≠ 0) : partsF s (f + 1) at_ count = [(a, n, e)] := by
  rw [partsF, h]; exact congrArg _ (if_neg he)
theorem partsF_end (h : partP s at_ count = (a, n, 0, b)) (hb : s.drop b = []) : partsF s (f + 1) at_ count = [(a, n, 0)] := by
  rw [partsF, h]; show _ :: (if 0 = 0 then _ else _) = _; rw [if_pos rfl, hb]
theorem partsF_bad (h : partP s at_ count = (a, n, 0, b)) (hb : s.drop b = c :: r) (hc : ¬ c = 46) : partsF s (f + 1) at_ count = [(a, n, 0), (b, 0, 6)] := by
  rw [partsF, h]; show _ :: (if 0 = 0 then _ else _) = _; rw [if_pos rfl, hb]; exact congrArg _ (if_neg hc)
theorem partsF_go (h : partP s at_ count = (a, n, 0, b)) (hb : s.drop b = c :: r) (hc : c = 46) : partsF s (f + 1) at_ count = (a, n, 0) :: partsF s f (b + 1) (count + 1) := by
  rw [partsF, h]; show _ :: (if 0 = 0 then _ else _) = _; rw [if_pos rfl, hb]; exact congrArg _ (if_pos hc)
end
theorem dig_le : ∀ (l : List UInt8) (k n : Nat) {n' k' : Nat}, dig l k n = some (n', k') → k' ≤ k + l.length
  | [], k, n, n', k', h => by rw [dig] at h; cases h; simp
  | c :: r, k, n, n', k', h => by
    rw [dig] at h
    split at h
    · split at h
      · cases h
      · have := dig_le r _ _ h; simp; omega
    · cases h; omega
theorem partP_end {s : List UInt8} {at_ count a n e b : Nat} (h : partP s at_ count = (a, n, e, b)) (ha : at_ ≤ s.length) : b ≤ s.length := by
  unfold partP at h
  split at h
  · cases h; exact ha
  · split at h
    · cases h; exact ha
    · rename_i c r hd
      split at h
      · split at h
        · cases h; exact ha
        · cases hg : dig (c :: r) 0 0 with
          | none => rw [hg] at h; cases h; exact ha
          | some p =>
            obtain ⟨n', k'⟩ := p
            rw [hg] at h; cases h
            have h1 := dig_le _ _ _ hg
            have h2 := congrArg List.length hd
            rw [List.length_drop] at h2
            omega
      · cases h; exact ha
/-- A part as a value. -/
def encP (x : Nat × Nat × Nat) : Value := .agg #[.int .i64 (x.1 : Int), .int .i64 (x.2.1 : Int), .int .i64 (x.2.2 : Int)]
theorem abides_below {β : Type} {J : β → World → Prop} {B : Nat} (h : AbidesFrom B J) {x : β} {W W' : World} (hj : J x W) (hb : Below W.heap.size W W') : J x W' :=
  h x W W' none hj ⟨hb.os, hb.tape, hb.output, hb.size, fun k hk _ => hb.block k hk⟩ (fun r e => by cases e)

set_option maxHeartbeats 2000000 in
set_option maxRecDepth 100000 in
theorem iter_any (S : ByteArray) (hS : S.size ≤ 1000000) (Bs b k : Nat) (hBs : b + k ≤ Bs) (w : World) (hw : w.cell? ⟨Bs, 0, none⟩ = some (.string S)) :
    Yields Tryd.prog 79 #[.pointer (some ⟨Bs, 0, none⟩)] encP b k (partsL S.data.toList) w := by
  intro l J Jx W hW hJ hJx hY h0
  have hs : W.cell? ⟨Bs, 0, none⟩ = some (.string S) := (hW.cell (p := ⟨Bs, 0, none⟩) (cell_lt hw)).trans hw
  have hBW : Bs < W.heap.size := cell_lt hs
  clear hw hW
  refine callsIn_of_wp Tryd.func79 rfl trivial ?_ rfl
  simp only [Tryd.ntmps79, List.size_toArray, List.length_cons, List.length_nil, Nat.reduceAdd, Nat.reduceSub, Array.replicate_succ, Array.replicate_zero, List.push_toArray, List.append_toArray, List.nil_append, List.cons_append]
  by_cases hz : S.size = 0
  · have hd : S.data.toList = [] := List.eq_nil_of_length_eq_zero (by simpa using hz)
    have hSe : S = ⟨#[]⟩ := by apply ByteArray.ext; apply Array.ext'; simpa using hd
    rw [hd] at hY ⊢
    subst hSe
    gi_wp2
    refine bodyPost_ret (results_none rfl _ _ _) rfl ?_
    exact ⟨⟨_, rfl⟩, .inl h0⟩
  · have hq : partsL S.data.toList = partsF S.data.toList 9 0 0 := by
      cases hq : S.data.toList with
      | nil => exact absurd (by simpa using congrArg List.length hq) hz
      | cons a b => rfl
    have hSe : S.toList.isEmpty = false := by
      rw [ByteArray.toList_eq]
      cases hq : S.data.toList with
      | nil => exact absurd (by simpa using congrArg List.length hq) hz
      | cons a b => rfl
    rw [hq] at hY ⊢
    clear hq
    obtain ⟨xs, hxs⟩ : ∃ xs, xs = partsF S.data.toList 9 0 0 := ⟨_, rfl⟩
    rw [← hxs] at hY ⊢
    have HX := Lib.hid hxs
    have HY := Lib.hid hY
    have HJ := Lib.hid hJ
    have HJ0 := Lib.hid h0
    clear hxs hY hJ h0 hJx
    gi_wp2
    gi_loopw [3, 9] (fun u i wr => ∃ (at_ c f : Nat) (pre : List (Nat × Nat × Nat)), u = .int .i64 (at_ : Int) ∧ i = .int .i64 (c : Int) ∧ at_ ≤ S.size ∧ f + c = 9 ∧ 0 < f ∧ Hid (xs = pre ++ partsF S.data.toList f at_ c) ∧ Hid (J pre wr) ∧ wr.cell? ⟨Bs, 0, none⟩ = some (.string S)) (fun _ i _ => 9 - (intOf i).toNat)
    case atStart => exact ⟨0, 0, 9, [], rfl, rfl, by omega, rfl, by omega, Lib.hid HX.out, HJ0, hs⟩
    case round =>
      clear hs HX HJ0
      obtain ⟨at_, c, f, pre, rfl, rfl, ha, hf, hf0, HXS, HJP, hs⟩ := hrel
      obtain ⟨a, n, e, en, hr⟩ : ∃ a n e en, partP S.data.toList at_ c = (a, n, e, en) := ⟨_, _, _, _, rfl⟩
      obtain ⟨f', rfl⟩ : ∃ f', f = f' + 1 := ⟨f - 1, by omega⟩
      obtain ⟨E, hE⟩ : ∃ E : Int, E = (e : Int) := ⟨_, rfl⟩
      have HP : Hid (∀ W, Calls Tryd.prog 80 #[.string S, .int .i64 (at_ : Int), .int .i64 (c : Int)] W fun r w' => r = .returned (.tuple #[.agg #[.int .i64 (a : Int), .int .i64 (n : Int), .int .i64 E], .int .i64 (en : Int)]) ∧ Below W.heap.size W w') :=
        Lib.hid fun W => by rw [hE]; exact partAt_any S at_ c W ha hS (by omega) (a, n, e, en) hr.symm
      have hen : en ≤ S.size := by have := partP_end hr (by simpa using ha); simpa using this
      have hc9 : (c : Int) < 9 := by omega
      have hBr : Bs < wr.heap.size := cell_lt hs
      have HYL : Hid ((pre ++ [(a, n, e)]) <+: xs → ∀ W1, Below wr.heap.size wr W1 → YieldAt Fence.wide 2 Tryd.prog l #[.agg #[.int .i64 (a : Int), .int .i64 (n : Int), .int .i64 E]] (W1.alloc (.cells #[.int .i64 (a : Int), .int .i64 (n : Int), .int .i64 E] 105)) fun r W' =>
          (r = .returned (.bool true) ∧ J (pre ++ [(a, n, e)]) W' ∧ W'.cell? ⟨W1.heap.size, 2, none⟩ = some (.int .i64 E) ∧ W'.cell? ⟨Bs, 0, none⟩ = some (.string S)) ∨ (r = .returned (.bool false) ∧ Jx (pre ++ [(a, n, e)]) W')) := by
        rw [hE]; refine Lib.hid fun hpx W1 hb => (HY.out pre (a, n, e) _ hpx (abides_below HJ.out HJP.out (hb.alloc hb.size _))).mono ?_
        rintro r W' (⟨rfl, hj, hk⟩ | ⟨rfl, hj⟩)
        · refine .inl ⟨rfl, hj, hk.2 _ _ (by show ¬ (b ≤ W1.heap.size ∧ W1.heap.size < b + k); have := hb.size; omega) ?_, hk.2 _ _ (by show ¬ (b ≤ Bs ∧ Bs < b + k); omega) ?_⟩
          · rw [World.cell?_alloc_at _ _ _ _ rfl]; rfl
          · exact ((hb.alloc hb.size _).cell (p := ⟨Bs, 0, none⟩) hBr).trans hs
        · exact .inr ⟨rfl, hj⟩
      by_cases he : e = 0
      · obtain rfl : E = 0 := by rw [hE, he]; rfl
        clear hE
        subst he
        by_cases hl : en = S.size
        · have hx := HXS.out
          rw [partsF_end hr (List.drop_eq_nil_of_le (by simp; omega))] at hx
          have HYM := Lib.hid (HYL.out (by rw [hx]; exact List.prefix_refl _))
          have HXX := Lib.hid hx
          have gl : ((en : Int) == (S.size : Int)) = true := by simp; omega
          clear hx hr HXS HYL
          gi_wp2_with (refine ⟨trivial, ?_⟩; gi_at_call 80; refine ((callsIn_wide (n := 2)).2 (HP.out _)).mono ?_; rintro r W1 ⟨rfl, hb1⟩; obtain ⟨fn, tmps, assign, body, hy, hR⟩ := HYM.out _ hb1)
          refine hR.mono ?_
          rintro r W2 (⟨rfl, hj, hce, hcs⟩ | ⟨rfl, hj⟩)
          · gi_wp2
            refine bodyPost_ret (results_none rfl _ _ _) rfl ?_
            exact ⟨⟨_, rfl⟩, .inl (by rw [HXX.out]; exact hj)⟩
          · gi_wp2
            refine bodyPost_ret (results_none rfl _ _ _) rfl ?_
            exact ⟨⟨_, rfl⟩, .inr ⟨_, by rw [HXX.out]; exact List.prefix_refl _, hj⟩⟩
        · have gl : ((en : Int) == (S.size : Int)) = false := by simp; omega
          have hlt : en < S.size := by omega
          obtain ⟨d, hd⟩ : ∃ d, d = S.data.toList[en]'(by simpa using hlt) := ⟨_, rfl⟩
          have hix : ∀ W, (Instr.index 9 (.string S) (.int .i64 (en : Int))).run Tryd.prog W = .ok (bv d) W := fun W => by
            rw [run_index_string W 9 S .i64 en Tryd.underlying9, dif_pos ⟨by omega, by omega⟩]
            rw [hd]; rfl
          have hdrop : S.data.toList.drop en = d :: S.data.toList.drop (en + 1) := by rw [hd, List.drop_eq_getElem_cons]
          clear hd
          by_cases h46 : d = 46
          · have q46 : ((d.toNat : Int) == 46) = true := by rw [h46]; decide
            have hx := HXS.out
            rw [partsF_go hr hdrop h46] at hx
            have HYM := Lib.hid (HYL.out (by rw [hx]; exact ⟨partsF S.data.toList f' (en + 1) (c + 1), by simp⟩))
            have HXX := Lib.hid hx
            have hf2 : 0 < f' := by
              apply Nat.pos_of_ne_zero
              intro h0
              have hc8 : c = 8 := by omega
              rw [hc8] at hr
              unfold partP at hr
              rw [if_pos rfl] at hr
              cases hr
            clear hx hr HXS HYL h46 hdrop
            gi_wp2_with (refine ⟨trivial, ?_⟩; gi_at_call 80; refine ((callsIn_wide (n := 2)).2 (HP.out _)).mono ?_; rintro r W1 ⟨rfl, hb1⟩; obtain ⟨fn, tmps, assign, body, hy, hR⟩ := HYM.out _ hb1)
            refine hR.mono ?_
            rintro r W2 (⟨rfl, hj, hce, hcs⟩ | ⟨rfl, hj⟩)
            · have HJN := Lib.hid hj
              clear hj
              gi_wp2
              go_roundw
              case rel => exact ⟨en + 1, c + 1, f', pre ++ [(a, n, 0)], by go_num, by go_num, by omega, by omega, hf2, Lib.hid (by rw [HXX.out]; simp), HJN, hcs⟩
              case measure => simp [intOf] <;> omega
            · gi_wp2
              refine bodyPost_ret (results_none rfl _ _ _) rfl ?_
              exact ⟨⟨_, rfl⟩, .inr ⟨_, ⟨partsF S.data.toList f' (en + 1) (c + 1), by rw [HXX.out]; simp⟩, hj⟩⟩
          · have q46 : ((d.toNat : Int) == 46) = false := by
              rw [beq_eq_false_iff_ne]; intro e; exact h46 (UInt8.toNat_inj.1 (by rw [show d.toNat = 46 by omega]; rfl))
            have hx := HXS.out
            rw [partsF_bad hr hdrop h46] at hx
            have HYM := Lib.hid (HYL.out (by rw [hx]; exact ⟨[(en, 0, 6)], by simp⟩))
            have HXX := Lib.hid hx
            have HY2 : Hid (∀ W2, J (pre ++ [(a, n, 0)]) W2 → YieldAt Fence.wide 2 Tryd.prog l #[.agg #[.int .i64 (en : Int), .int .i64 0, .int .i64 6]] W2 fun r W' =>
                (r = .returned (.bool true) ∧ J xs W') ∨ (r = .returned (.bool false) ∧ Jx xs W')) := by
              refine Lib.hid fun W2 hj => (HY.out (pre ++ [(a, n, 0)]) (en, 0, 6) W2 (by rw [hx]; simp) hj).mono ?_
              have e1 : pre ++ [(a, n, 0)] ++ [(en, 0, 6)] = xs := by rw [hx]; simp
              rw [e1]
              rintro r W' (⟨rfl, hj, _⟩ | ⟨rfl, hj⟩)
              · exact .inl ⟨rfl, hj⟩
              · exact .inr ⟨rfl, hj⟩
            clear hx hr HXS HYL h46 hdrop
            gi_wp2_with (refine ⟨trivial, ?_⟩; gi_at_call 80; refine ((callsIn_wide (n := 2)).2 (HP.out _)).mono ?_; rintro r W1 ⟨rfl, hb1⟩; obtain ⟨fn, tmps, assign, body, hy, hR⟩ := HYM.out _ hb1)
            refine hR.mono ?_
            rintro r W2 (⟨rfl, hj, hce, hcs⟩ | ⟨rfl, hj⟩)
            · obtain ⟨fn2, tmps2, assign2, body2, hy2, hR2⟩ := HY2.out _ hj
              clear hj
              gi_wp2
              refine hR2.mono ?_
              rintro r W3 (⟨rfl, hj⟩ | ⟨rfl, hj⟩)
              · gi_wp2
                refine bodyPost_ret (results_none rfl _ _ _) rfl ?_
                exact ⟨⟨_, rfl⟩, .inl hj⟩
              · gi_wp2
                refine bodyPost_ret (results_none rfl _ _ _) rfl ?_
                exact ⟨⟨_, rfl⟩, .inr ⟨_, List.prefix_refl _, hj⟩⟩
            · gi_wp2
              refine bodyPost_ret (results_none rfl _ _ _) rfl ?_
              exact ⟨⟨_, rfl⟩, .inr ⟨_, ⟨[(en, 0, 6)], by rw [HXX.out]; simp⟩, hj⟩⟩
      · have hx := HXS.out
        rw [partsF_err hr he] at hx
        have HYM := Lib.hid (HYL.out (by rw [hx]; exact List.prefix_refl _))
        have HXX := Lib.hid hx
        have ge : (E == 0) = false := by simp; omega
        clear hx hr hE HXS HYL he
        gi_wp2_with (refine ⟨trivial, ?_⟩; gi_at_call 80; refine ((callsIn_wide (n := 2)).2 (HP.out _)).mono ?_; rintro r W1 ⟨rfl, hb1⟩; obtain ⟨fn, tmps, assign, body, hy, hR⟩ := HYM.out _ hb1)
        refine hR.mono ?_
        rintro r W2 (⟨rfl, hj, hce, hcs⟩ | ⟨rfl, hj⟩)
        · gi_wp2
          refine bodyPost_ret (results_none rfl _ _ _) rfl ?_
          exact ⟨⟨_, rfl⟩, .inl (by rw [HXX.out]; exact hj)⟩
        · gi_wp2
          refine bodyPost_ret (results_none rfl _ _ _) rfl ?_
          exact ⟨⟨_, rfl⟩, .inr ⟨_, by rw [HXX.out]; exact List.prefix_refl _, hj⟩⟩
end Go.Proofs.YtdfenaoddbdppaaDoor
