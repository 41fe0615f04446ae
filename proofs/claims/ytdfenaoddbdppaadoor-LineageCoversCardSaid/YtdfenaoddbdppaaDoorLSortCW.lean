/- lineage: what Sort asks of the function that compares: its contract in every world that the sort passes through, and that it orders. lineage: the walk of Sort. -/
import Derived.Test.YtdfenaoddbdppaaDoorLDAll
import Derived.Test.YtdfenaoddbdppaaDoorLOrder
import Derived.Shelf.SlSortCmp.NoneTotal
import Derived.Lib.QuietBelow
import Derived.Test.YtdfenaoddbdppaaDoorLSortMM
import Derived.Test.YtdfenaoddbdppaaDoorShelf2
import Derived.Test.YtdfenaoddbdppaaDoorLRSort
import Derived.Lib.OwnBridge
set_option linter.unusedVariables false
namespace Go.Proofs.YtdfenaoddbdppaaDoor
open Go.RowKit Go.Shelf Go.Lib Go.Sort

/-- A name as an element, and how two are compared. -/
abbrev Nm : Type := { S : ByteArray // S.size ≤ 1000000 }
instance : Inhabited Nm := ⟨⟨⟨#[]⟩, by decide⟩⟩
def encN (x : Nm) : Value := .string x.1
def cmpN (x y : Nm) : Int := compareB x.1.data.toList y.1.data.toList
theorem encN_one : OneCell encN := fun _ => rfl

set_option maxRecDepth 100000 in
theorem closure_any (S T : ByteArray) (w : World) (hS : S.size ≤ 1000000) (hT : T.size ≤ 1000000) :
    Calls Tryd.prog 58 #[.string S, .string T] w fun e w' => e = .returned (.int .i64 (compareB S.data.toList T.data.toList)) ∧ D.Below w.heap.size w w' := by
  have HC := Lib.hid fun W => D.compare_any S T W hS hT
  go_enter Tryd.func58, Tryd.ntmps58
  go_wp2_with (go_at_call 31; refine (HC.out _).mono ?_; rintro e W1 ⟨rfl, hb⟩)
  go_ret
  exact ⟨rfl, hb⟩
theorem grown_of {w w' : World} (h : D.Below w.heap.size w w') : ∃ q os, w' = grow (w.drewN q) os := by
  obtain ⟨p, hp⟩ := regrown_of_below h.toBelow
  have hd : w.drawn ≤ p.d := by have := h.drawn; rw [hp] at this; exact this
  refine ⟨p.d - w.drawn, p.os, ?_⟩
  rw [hp]
  have : redrawn w p.d = w.drewN (p.d - w.drawn) := by
    unfold redrawn World.drewN
    rw [Nat.add_sub_cancel' hd]
  rw [this]
theorem cmp_lays (blk off size : Nat) (w : World) : CmpLays1 Tryd.prog 58 #[] encN cmpN blk off size w := fun m os dk _ x y =>
  (closure_any x.1 y.1 _ x.2 y.2).mono fun e w' h => ⟨h.1, grown_of h.2⟩

theorem lt_iff (x y : Nm) : ltOf cmpN x y = true ↔ cmpN x y < 0 := by unfold ltOf; simp
theorem cmp_swo : SWO (ltOf cmpN) where
  irrefl x := by
    have h : cmpN x x = 0 := (cmpB_zero _ _).2 rfl
    unfold ltOf; rw [h]; rfl
  trans x y z h1 h2 := by
    rw [lt_iff] at *
    unfold cmpN at *
    have h3 := cmpB_trans (Int.le_of_lt h1) (Int.le_of_lt h2)
    rcases Int.lt_or_eq_of_le h3 with h | h
    · exact h
    · have e := (cmpB_zero _ _).1 h
      rw [e] at h1
      have := cmpB_neg y.1.data.toList z.1.data.toList
      omega
  ntrans x y z h1 h2 := by
    have h1' : ¬ cmpN x y < 0 := fun h => by rw [(lt_iff x y).2 h] at h1; cases h1
    have h2' : ¬ cmpN y z < 0 := fun h => by rw [(lt_iff y z).2 h] at h2; cases h2
    have h3 : ¬ cmpN x z < 0 := by
      unfold cmpN at *
      have n1 := cmpB_neg x.1.data.toList y.1.data.toList
      have n2 := cmpB_neg y.1.data.toList z.1.data.toList
      have n3 := cmpB_neg x.1.data.toList z.1.data.toList
      have := cmpB_trans (s := z.1.data.toList) (t := y.1.data.toList) (u := x.1.data.toList) (by omega) (by omega)
      omega
    cases h : ltOf cmpN x z with
    | false => rfl
    | true => exact absurd ((lt_iff x z).1 h) h3
theorem cmp_total (x y : Nm) (h1 : ltOf cmpN x y = false) (h2 : ltOf cmpN y x = false) : x = y := by
  have h1' : ¬ cmpN x y < 0 := fun h => by rw [(lt_iff x y).2 h] at h1; cases h1
  have h2' : ¬ cmpN y x < 0 := fun h => by rw [(lt_iff y x).2 h] at h2; cases h2
  unfold cmpN at *
  have n1 := cmpB_neg x.1.data.toList y.1.data.toList
  have e := (cmpB_zero x.1.data.toList y.1.data.toList).1 (by omega)
  apply Subtype.ext
  apply ByteArray.ext
  apply Array.ext'
  exact e
end Go.Proofs.YtdfenaoddbdppaaDoor

namespace Go.Proofs.YtdfenaoddbdppaaDoor
open Go.RowKit Go.Shelf Go.Lib Go.Sort

/-- A list of names as elements. -/
def nmL (l : List ByteArray) (h : ∀ s ∈ l, s.size ≤ 1000000) : List Nm := l.attach.map fun x => ⟨x.1, h x.1 x.2⟩
theorem nmL_val (l : List ByteArray) (h : ∀ s ∈ l, s.size ≤ 1000000) : (nmL l h).map (·.1) = l := by
  unfold nmL
  rw [List.map_map]
  show l.attach.map (fun x => x.1) = l
  simp
theorem nmL_enc (l : List ByteArray) (h : ∀ s ∈ l, s.size ≤ 1000000) : (nmL l h).map encN = l.map sv := by
  conv => rhs; rw [← nmL_val l h]
  rw [List.map_map]; rfl
theorem encN_eq (t : TypeId) (hu : Tryd.prog.underlying t = some .string) : EqlAt Tryd.prog t encN (fun x y => decide (x = y)) :=
  ⟨fun x y w => by
    have := (EqlAt.string Tryd.prog t).1 x.1 y.1 w
    unfold encN
    rw [this]
    show Result.ok (Value.bool ((x.1.toList == y.1.toList))) w = Result.ok (Value.bool ((decide (x = y)))) w
    rw [str_beq]
    have : decide (x.1 = y.1) = decide (x = y) := by
      by_cases e : x = y
      · subst e; simp
      · rw [decide_eq_false e, decide_eq_false (fun h => e (Subtype.ext h))]
    rw [this], fun op a b x y w => GuardAt.string Tryd.prog t op a b x.1 y.1 w⟩
theorem encN_ne (t : TypeId) (hu : Tryd.prog.underlying t = some .string) : NeqAt Tryd.prog t encN (fun x y => decide (x = y)) :=
  ⟨fun x y w => by
    have := (NeqAt.string Tryd.prog t).1 x.1 y.1 w
    unfold encN
    rw [this]
    show Result.ok (Value.bool (!(x.1.toList == y.1.toList))) w = Result.ok (Value.bool (!(decide (x = y)))) w
    rw [str_beq]
    have : decide (x.1 = y.1) = decide (x = y) := by
      by_cases e : x = y
      · subst e; simp
      · rw [decide_eq_false e, decide_eq_false (fun h => e (Subtype.ext h))]
    rw [this], fun op a b x y w => GuardAt.string Tryd.prog t op a b x.1 y.1 w⟩

theorem clone_any (b off c : Nat) (l : List ByteArray) (w : World) (hr : ∀ j s, l[j]? = some s → w.cell? ⟨b, off + j, none⟩ = some (sv s)) (hl : l.length ≤ 1000000) :
    Calls Tryd.prog 56 #[.slice (some ⟨b, off, none⟩) l.length c] w fun e w' => ∃ v', e = .returned v' ∧ OT 23 w' w.heap.size v' l ∧ v' ≠ .slice none 0 0 ∧ Below w.heap.size w w' := by
  obtain ⟨i, hi, hz, hs, hb⟩ := tnl.parts
  refine (AnyE.slices_Clone Tryd.layN_clone i (.string ⟨#[]⟩) 1 16 hi hz hs hb rfl (by decide) Tryd.sizeOf23 b off l.length c (l.map sv) w (by simp) (by unfold maxLen; omega) (by omega) (fun j u hu => ?_) (svs_oneCell l)).mono fun e w' h => h
  rw [List.getElem?_map, Option.map_eq_some_iff] at hu
  obtain ⟨s, hs', rfl⟩ := hu
  exact hr j s hs'
theorem grow_below (W : World) (os : Array Obj) : Below W.heap.size W (grow W os) := below_regrown W W.drawn os
/-- slices.SortFunc over a slice of the call's own. -/
theorem sortF_any (base : Nat) (v : Value) (l : List ByteArray) (w : World) (h : ∀ s ∈ l, s.size ≤ 1000000) (ho : OT 23 w base v l) (hv : v ≠ .slice none 0 0) (hll : l.length ≤ 1000000) :
    Calls Tryd.prog 57 #[v, .func (.func 58) #[] #[]] w fun e w' => e = .returned (.tuple #[]) ∧ OT 23 w' base v (((nmL l h).mergeSort fun x y => !(ltOf cmpN) y x).map (·.1)) ∧ Below base w w' := by
  have ho' : w.ownsRow base 23 1 v l.length ((nmL l h).map encN) := by rw [nmL_enc]; exact ho
  obtain ⟨g, cap, rfl, hb, hg, hn, hm, hs, hH⟩ := holds_of_ownsRow ho' hv
  have eg : ∀ args w, (callFunc 58 args).run Tryd.prog w = .ok (.enter 58 args) w := enters_of Tryd.func58 (by kernel_rfl) rfl
  have hc := Any.slices_SortFunc_total Tryd.layN_sort encN encN_one cmpN cmp_swo 58 #[] g 0 cap (nmL l h).toArray w eg (cmp_lays g 0 _ w) hH hg (by simp; omega) cmp_total
  have hsz : (nmL l h).toArray.size = l.length := by simpa using hs
  rw [hsz] at hc
  refine hc.mono ?_
  rintro e w' ⟨he, n, os, rfl⟩
  refine ⟨he, ?_, ?_⟩
  · have hperm := (List.mergeSort_perm (nmL l h) fun x y => !(ltOf cmpN) y x)
    have hlen : ((nmL l h).mergeSort fun x y => !(ltOf cmpN) y x).length = l.length := by rw [hperm.length_eq]; exact hs
    have h1 := ownsRow_putRow (q := n) (k := l.length) (ys := (nmL l h).mergeSort fun x y => !(ltOf cmpN) y x) ho' hlen (Nat.le_refl _)
    rw [List.take_of_length_le (by rw [hlen]; exact Nat.le_refl _)] at h1
    obtain ⟨ys, hys⟩ : ∃ ys, ys = (nmL l h).mergeSort fun x y => !(ltOf cmpN) y x := ⟨_, rfl⟩
    rw [← hys] at h1 hlen
    show OT _ (sortWorld encN w g 0 n ((nmL l h).mergeSort fun x y => !(ltOf cmpN) y x).toArray os) _ _ _
    rw [← hys]
    have h2 : OT 23 (putRow encN (Sort.ahead w n) g 0 ys.toArray) base (.slice (some ⟨g, 0, none⟩) l.length cap) (ys.map (·.1)) := by
      unfold OT
      rw [List.length_map, hlen, List.map_map]
      exact h1
    exact h2.below (grow_below _ os) (Nat.le_refl _)
  · have h2 : Below base w (putRow encN (Sort.ahead w n) g 0 ((nmL l h).mergeSort fun x y => !(ltOf cmpN) y x).toArray) := below_putRow (Below.refl base w) hb
    exact h2.trans ((grow_below _ os).mono (Nat.le_trans (Nat.le_trans hb (Nat.le_of_lt hg)) h2.size))

/-- slices.Compact over a slice of the call's own. -/
theorem compactF_any (base : Nat) (v : Value) (zs : List Nm) (w : World) (ho : OT 23 w base v (zs.map (·.1))) (hv : v ≠ .slice none 0 0) (hll : zs.length ≤ 1000000) :
    Calls Tryd.prog 59 #[v] w fun e w' => ∃ v', e = .returned v' ∧ OT 23 w' base v' ((compactUpTo zs.toArray zs.length).map (·.1)) ∧ Below base w w' := by
  have ho' : w.ownsRow base 23 1 v zs.length (zs.map encN) := by
    have := ho
    unfold OT at this
    rw [List.length_map, List.map_map] at this
    exact this
  obtain ⟨g, cap, rfl, hb, hg, hn, hm, hs, hH⟩ := holds_of_ownsRow ho' hv
  have hc := AnyE.slices_Compact Tryd.layN_compact encN encN_one (encN_eq _ Tryd.underlying23) (encN_ne _ Tryd.underlying23) ⟨⟨#[]⟩, by decide⟩ Tryd.zeroValue23 g 0 cap zs.toArray w hH (by simp; omega) (by simpa using hn)
  have hsz : zs.toArray.size = zs.length := by simp
  rw [hsz] at hc
  refine hc.mono ?_
  rintro e w' ⟨he, q, rfl⟩
  obtain ⟨ys, hys⟩ : ∃ ys, ys = compactUpTo zs.toArray zs.length := ⟨_, rfl⟩
  rw [← hys] at he ⊢
  have hyl : ys.length ≤ zs.length := by
    rw [hys]; unfold compactUpTo
    rw [List.length_map]
    have := List.length_filter_le (keeps zs.toArray) (List.range zs.length)
    simpa using this
  refine ⟨_, he, ?_, below_putRow (Below.refl base w) hb⟩
  have h1 := ownsRow_putRow (q := q) (k := ys.length) (ys := ys ++ List.replicate (zs.length - ys.length) ⟨⟨#[]⟩, by decide⟩) ho' (by simp; omega) hyl
  rw [List.take_left] at h1
  unfold OT
  rw [List.length_map, List.map_map]
  exact h1

/-- What is kept of an ascending row with doubles: the same members, ascending without doubles. -/
theorem compact_asc (zs : List Nm) (hz : zs.Pairwise fun x y => ¬ ltB y.1 x.1) : ∀ m, m ≤ zs.length → ((compactUpTo zs.toArray m).map (·.1)).Pairwise ltB ∧ (∀ s, s ∈ (compactUpTo zs.toArray m).map (·.1) ↔ ∃ j, j < m ∧ ∃ h : j < zs.length, s = (zs[j]'h).1)
  | 0, _ => by simp [compactUpTo]
  | m + 1, hm => by
    obtain ⟨ih1, ih2⟩ := compact_asc zs hz m (by omega)
    have hget : ∀ j (h : j < zs.length), zs.toArray[j]! = zs[j]'h := fun j h => by rw [getElem!_pos _ _ (by simpa using h)]; simp
    rw [compactUpTo_succ, List.map_append]
    by_cases hk : keeps zs.toArray m = true
    · rw [if_pos hk, hget m (by omega)]
      refine ⟨List.pairwise_append.2 ⟨ih1, by simp, fun a ha b hb => ?_⟩, fun s => ?_⟩
      · simp at hb; subst hb
        obtain ⟨j, hj, hjl, rfl⟩ := (ih2 a).1 ha
        have h0 : ¬ m = 0 := by omega
        have hne : zs[m]'(by omega) ≠ zs[m - 1]'(by omega) := by
          unfold keeps at hk
          rw [decide_eq_true_iff, hget m (by omega), hget (m - 1) (by omega)] at hk
          exact hk.resolve_left h0
        have hp := List.pairwise_iff_getElem.1 hz
        have h1 : ¬ ltB (zs[m]'(by omega)).1 (zs[m - 1]'(by omega)).1 := hp (m - 1) m (by omega) (by omega) (by omega)
        have h2 : ltB (zs[m - 1]'(by omega)).1 (zs[m]'(by omega)).1 := by
          rcases ltB_total _ _ h1 with e | e
          · exact absurd (Subtype.ext e) hne
          · exact e
        by_cases hj1 : j = m - 1
        · subst hj1; exact h2
        · have h3 : ¬ ltB (zs[m - 1]'(by omega)).1 (zs[j]'hjl).1 := hp j (m - 1) hjl (by omega) (by omega)
          rcases ltB_total _ _ h3 with e | e
          · rw [← e]; exact h2
          · exact ltB_trans e h2
      · rw [List.mem_append, ih2]
        constructor
        · rintro (⟨j, hj, h, e⟩ | h)
          · exact ⟨j, by omega, h, e⟩
          · simp at h; exact ⟨m, by omega, by omega, h⟩
        · rintro ⟨j, hj, h, e⟩
          by_cases hjm : j = m
          · subst hjm; right; simp [e]
          · exact .inl ⟨j, by omega, h, e⟩
    · rw [if_neg hk, List.map_nil, List.append_nil]
      refine ⟨ih1, fun s => ?_⟩
      rw [ih2]
      constructor
      · rintro ⟨j, hj, h, e⟩; exact ⟨j, by omega, h, e⟩
      · rintro ⟨j, hj, h, e⟩
        by_cases hjm : j = m
        · subst hjm
          unfold keeps at hk
          rw [decide_eq_true_iff] at hk
          have h0 : ¬ j = 0 := fun h => hk (.inl h)
          have he : zs.toArray[j]! = zs.toArray[j - 1]! := Classical.not_not.1 fun h => hk (.inr h)
          rw [hget j h, hget (j - 1) (by omega)] at he
          exact ⟨j - 1, by omega, by omega, by rw [e, he]⟩
        · exact ⟨j, by omega, h, e⟩
theorem sorted_compact (l : List ByteArray) (h : ∀ s ∈ l, s.size ≤ 1000000) (zs : List Nm) (hz : zs = (nmL l h).mergeSort fun x y => !(ltOf cmpN) y x) : (compactUpTo zs.toArray zs.length).map (·.1) = sortS l := by
  have hp : zs.Pairwise fun x y => ¬ ltB y.1 x.1 := by
    rw [hz]
    refine (List.pairwise_mergeSort (fun a b c h1 h2 => ?_) (fun a b => ?_) _).imp ?_
    · simp only [Bool.not_eq_true'] at *
      exact cmp_swo.ntrans _ _ _ h2 h1
    · cases h1 : ltOf cmpN b a with
      | false => simp
      | true =>
        have : ltOf cmpN a b = false := by
          cases h2 : ltOf cmpN a b with
          | false => rfl
          | true => have := cmp_swo.trans _ _ _ h1 h2; rw [cmp_swo.irrefl] at this; cases this
        simp [this]
    · intro a b h1 h2
      have : ltOf cmpN b a = true := (lt_iff b a).2 h2
      rw [this] at h1; cases h1
  obtain ⟨h1, h2⟩ := compact_asc zs hp zs.length (Nat.le_refl _)
  refine sortS_unique h1 fun s => ?_
  rw [h2]
  have hperm : zs.Perm (nmL l h) := by rw [hz]; exact List.mergeSort_perm _ _
  have hm : s ∈ l ↔ ∃ x ∈ zs, x.1 = s := by
    conv => lhs; rw [← nmL_val l h]
    rw [List.mem_map]
    constructor
    · rintro ⟨x, hx, e⟩; exact ⟨x, hperm.mem_iff.2 hx, e⟩
    · rintro ⟨x, hx, e⟩; exact ⟨x, hperm.mem_iff.1 hx, e⟩
  rw [hm]
  constructor
  · rintro ⟨j, hj, hl, e⟩; exact ⟨_, List.getElem_mem hl, e.symm⟩
  · rintro ⟨x, hx, e⟩
    obtain ⟨j, hj, rfl⟩ := List.getElem_of_mem hx
    exact ⟨j, hj, hj, e.symm⟩

set_option maxRecDepth 100000 in
theorem compact_nil (w : World) : Calls Tryd.prog 59 #[.slice none 0 0] w fun e w' => e = .returned (.slice none 0 0) ∧ Below w.heap.size w w' := by
  go_enter Tryd.func59, Tryd.ntmps59
  go_wp2
  go_ret
  exact ⟨rfl, Below.refl _ _⟩

set_option maxHeartbeats 2000000 in
set_option maxRecDepth 100000 in
theorem sort_any (A : Option Addr) (l : List ByteArray) (c B : Nat) (w : World) (hr : RT w B A l) (hA : A = none ∨ ∃ b off, A = some ⟨b, off, none⟩) (hB : B ≤ w.heap.size) (hl : ∀ s ∈ l, s.size ≤ 1000000) (hll : l.length ≤ 1000000) :
    Calls Tryd.prog 35 #[.slice A l.length c] w fun e w' => ∃ v, e = .returned v ∧ OT 23 w' w.heap.size v (sortS l) ∧ Below w.heap.size w w' := by
  rcases hA with rfl | ⟨b, off, rfl⟩
  · have hl0 : l = [] := by
      cases l with
      | nil => rfl
      | cons a t => obtain ⟨b, off, h, _⟩ := hr (by simp); cases h
    subst hl0
    have H1 : Hid (∀ W, Calls Tryd.prog 56 #[.slice none 0 c] W fun e w' => e = .returned (.slice none 0 0) ∧ W = w') := Lib.hid fun W => (AnyE.slices_Clone_nil Tryd.layN_clone 0 c W).mono fun e w' h => ⟨h.1, h.2.symm⟩
    have H2 : Hid (∀ W fv, Calls Tryd.prog 57 #[.slice none 0 0, fv] W fun e w' => e = .returned (.tuple #[]) ∧ W = w') := Lib.hid fun W fv => (AnyF.slices_SortFunc_none (P := Tryd.prog) (ρ := Tryd.layN_sort_ren) { Tryd.layN_sort with } none 0 fv W).mono fun e w' h => ⟨h.1, h.2.symm⟩
    have H3 := Lib.hid compact_nil
    clear hr hl hll
    go_enter Tryd.func35, Tryd.ntmps35
    go_wp2_with (first
      | (go_at_call 56; refine (H1.out _).mono ?_; rintro e W1 ⟨rfl, rfl⟩)
      | (go_at_call 57; refine (H2.out _ _).mono ?_; rintro e W2 ⟨rfl, rfl⟩)
      | (go_at_call 59; refine (H3.out _).mono ?_; rintro e W3 ⟨rfl, hb⟩; have HB := Lib.hid hb; clear hb))
    go_ret
    exact ⟨_, rfl, OT.nil _ _ _, HB.out⟩
  · obtain ⟨zs, hzs⟩ : ∃ zs, zs = (nmL l hl).mergeSort fun x y => !(ltOf cmpN) y x := ⟨_, rfl⟩
    have hzl : zs.length ≤ 1000000 := by
      rw [hzs, (List.mergeSort_perm _ _).length_eq, ← List.length_map (f := fun x : Nm => x.1), nmL_val]; exact hll
    have hsc := sorted_compact l hl zs hzs
    have H1 := Lib.hid (clone_any b off c l w (fun j s hj => hr.cellT hj) hll)
    have H2 : Hid (∀ v W, OT 23 W w.heap.size v l → v ≠ .slice none 0 0 → Calls Tryd.prog 57 #[v, .func (.func 58) #[] #[]] W fun e w' => e = .returned (.tuple #[]) ∧ OT 23 w' w.heap.size v (zs.map (·.1)) ∧ Below w.heap.size W w') := Lib.hid fun v W h1 h2 => by rw [hzs]; exact sortF_any w.heap.size v l W hl h1 h2 hll
    have H3 : Hid (∀ v W, OT 23 W w.heap.size v (zs.map (·.1)) → v ≠ .slice none 0 0 → Calls Tryd.prog 59 #[v] W fun e w' => ∃ v', e = .returned v' ∧ OT 23 w' w.heap.size v' (sortS l) ∧ Below w.heap.size W w') := Lib.hid fun v W h1 h2 => by rw [← hsc]; exact compactF_any w.heap.size v zs W h1 h2 hzl
    clear hsc hzl hzs hr hl hll
    go_enter Tryd.func35, Tryd.ntmps35
    go_wp2_with (first
      | (go_at_call 56; refine H1.out.mono ?_; rintro e W1 ⟨v1, rfl, ho1, hv1, hb1⟩; have HO1 := Lib.hid ho1; have HV := Lib.hid hv1; have HB1 := Lib.hid hb1; clear ho1 hv1 hb1)
      | (go_at_call 57; refine (H2.out _ _ HO1.out HV.out).mono ?_; rintro e W2 ⟨rfl, ho2, hb2⟩; have HO2 := Lib.hid ho2; have HB2 := Lib.hid (HB1.out.trans hb2); clear ho2 hb2)
      | (go_at_call 59; refine (H3.out _ _ HO2.out HV.out).mono ?_; rintro e W3 ⟨v3, rfl, ho3, hb3⟩; have HO3 := Lib.hid ho3; have HB3 := Lib.hid (HB2.out.trans hb3); clear ho3 hb3))
    go_ret
    exact ⟨_, rfl, HO3.out, HB3.out⟩
end Go.Proofs.YtdfenaoddbdppaaDoor
