/- lineage: the walks of parts and read. lineage: a text of a name and its ordinals: each gives the other. Plain lemmas, no program. lineage: the walks of list, Parse, Valid, Depth, Last. lineage: the walks of Parse, Valid, Depth, Last. -/
import Derived.Test.YtcdjmkfpclmbdaaGreatDoorOLc
import Derived.Test.YtcdjmkfpclmbdaaGreatDoorOLb
import Derived.Shelf.Abstract
set_option linter.unusedVariables false
namespace Go.Proofs.YtcdjmkfpclmbdaaGreatDoor
open Go.RowKit
attribute [local go_sem] Oper.semAt_some

/-! ### What the parts say -/
theorem partsF_room {s : List UInt8} : ∀ (f at_ c : Nat) (pre : List (Nat × Nat × Nat)) (x : Nat × Nat × Nat), c ≤ 8 → (pre ++ [x]) <+: partsF s f at_ c → x.2.2 = 0 → c + pre.length ≤ 7
  | 0, _, _, pre, x, _, h, _ => by
    have := h.length_le
    simp [partsF] at this
  | f + 1, at_, c, pre, x, hc, h, hx => by
    obtain ⟨a, n, e, en, hp⟩ : ∃ a n e en, partP s at_ c = (a, n, e, en) := ⟨_, _, _, _, rfl⟩
    have h8 : e = 0 → c ≠ 8 := by
      rintro rfl rfl
      unfold partP at hp
      rw [if_pos rfl] at hp
      cases hp
    cases pre with
    | nil =>
      have : x = (a, n, e) := by
        rw [partsF, hp] at h
        have := (List.cons_prefix_cons.1 h).1
        exact this
      rw [this] at hx
      have := h8 hx
      simp; omega
    | cons y pre =>
      by_cases he : e = 0
      · subst he
        have h8' := h8 rfl
        cases hd : s.drop en with
        | nil =>
          rw [partsF_end hp hd] at h
          have := h.length_le
          simp at this
        | cons d r =>
          by_cases h46 : d = 46
          · rw [partsF_go hp hd h46, List.cons_append, List.cons_prefix_cons] at h
            have := partsF_room f (en + 1) (c + 1) pre x (by omega) h.2 hx
            simp; omega
          · rw [partsF_bad hp hd h46, List.cons_append, List.cons_prefix_cons] at h
            have h2 := h.2
            cases pre with
            | nil =>
              have := (List.cons_prefix_cons.1 h2).1
              rw [this] at hx; cases hx
            | cons z pre =>
              have := h2.length_le
              simp at this
      · rw [partsF_err hp he] at h
        have := h.length_le
        simp at this
theorem partsF_bad_at {s : List UInt8} : ∀ (f at_ : Nat) (out : List Nat) (pre : List (Nat × Nat × Nat)) (x : Nat × Nat × Nat), (pre ++ [x]) <+: partsF s f at_ out.length → x.2.2 ≠ 0 → (∀ y ∈ pre, y.2.2 = 0) → parseF s f at_ out = ([], x.1, x.2.2)
  | 0, _, _, pre, x, h, _, _ => by
    have := h.length_le
    simp [partsF] at this
  | f + 1, at_, out, pre, x, h, hx, hpre => by
    obtain ⟨a, n, e, en, hp⟩ : ∃ a n e en, partP s at_ out.length = (a, n, e, en) := ⟨_, _, _, _, rfl⟩
    cases pre with
    | nil =>
      have : x = (a, n, e) := by
        rw [partsF, hp] at h
        exact (List.cons_prefix_cons.1 h).1
      rw [this] at hx ⊢
      exact parseF_err hp hx
    | cons y pre =>
      by_cases he : e = 0
      · subst he
        cases hd : s.drop en with
        | nil =>
          rw [partsF_end hp hd] at h
          have := h.length_le
          simp at this
        | cons d r =>
          by_cases h46 : d = 46
          · rw [partsF_go hp hd h46, List.cons_append, List.cons_prefix_cons] at h
            rw [parseF_go hp hd h46]
            exact partsF_bad_at f (en + 1) (out ++ [n]) pre x (by simpa using h.2) hx (fun z hz => hpre z (by simp [hz]))
          · rw [partsF_bad hp hd h46, List.cons_append, List.cons_prefix_cons] at h
            have h2 := h.2
            cases pre with
            | nil =>
              have := (List.cons_prefix_cons.1 h2).1
              rw [this, parseF_bad hp hd h46]
            | cons z pre =>
              have := h2.length_le
              simp at this
      · rw [partsF_err hp he] at h
        have := h.length_le
        simp at this
theorem partsF_all {s : List UInt8} : ∀ (f at_ : Nat) (out : List Nat), out.length + f = 9 → 0 < f → (∀ y ∈ partsF s f at_ out.length, y.2.2 = 0) → parseF s f at_ out = (out ++ (partsF s f at_ out.length).map (·.2.1), 0, 0)
  | 0, _, _, _, h, _ => absurd h (by omega)
  | f + 1, at_, out, hf, _, h => by
    obtain ⟨a, n, e, en, hp⟩ : ∃ a n e en, partP s at_ out.length = (a, n, e, en) := ⟨_, _, _, _, rfl⟩
    have he : e = 0 := by
      have := h (a, n, e) (by rw [partsF, hp]; simp)
      exact this
    subst he
    have h8 : out.length ≠ 8 := by
      intro h8
      unfold partP at hp
      rw [if_pos h8] at hp
      cases hp
    cases hd : s.drop en with
    | nil => rw [parseF_end hp hd, partsF_end hp hd]; rfl
    | cons d r =>
      by_cases h46 : d = 46
      · rw [partsF_go hp hd h46] at h ⊢
        rw [parseF_go hp hd h46, partsF_all f (en + 1) (out ++ [n]) (by simp; omega) (by omega) (by simpa using fun y hy => h y (by simp [hy]))]
        simp
      · rw [partsF_bad hp hd h46] at h
        have := h (en, 0, 6) (by simp)
        cases this
theorem partsL_room {s : List UInt8} {pre : List (Nat × Nat × Nat)} {x : Nat × Nat × Nat} (h : (pre ++ [x]) <+: partsL s) (hx : x.2.2 = 0) : pre.length ≤ 7 := by
  cases s with
  | nil => have := h.length_le; simp [partsL] at this
  | cons a r => have := partsF_room 9 0 0 pre x (by omega) h hx; omega
theorem partsF_len {s : List UInt8} : ∀ (f at_ c : Nat) (pre : List (Nat × Nat × Nat)) (x : Nat × Nat × Nat), c ≤ 8 → (pre ++ [x]) <+: partsF s f at_ c → c + pre.length ≤ 8
  | 0, _, _, pre, x, _, h => by
    have := h.length_le
    simp [partsF] at this
  | f + 1, at_, c, pre, x, hc, h => by
    obtain ⟨a, n, e, en, hp⟩ : ∃ a n e en, partP s at_ c = (a, n, e, en) := ⟨_, _, _, _, rfl⟩
    have h8 : e = 0 → c ≠ 8 := by
      rintro rfl rfl
      unfold partP at hp
      rw [if_pos rfl] at hp
      cases hp
    cases pre with
    | nil => simpa using hc
    | cons y pre =>
      by_cases he : e = 0
      · subst he
        have h8' := h8 rfl
        cases hd : s.drop en with
        | nil =>
          rw [partsF_end hp hd] at h
          have := h.length_le
          simp at this
        | cons d r =>
          by_cases h46 : d = 46
          · rw [partsF_go hp hd h46, List.cons_append, List.cons_prefix_cons] at h
            have := partsF_len f (en + 1) (c + 1) pre x (by omega) h.2
            simp; omega
          · rw [partsF_bad hp hd h46] at h
            have := h.length_le
            simp only [List.length_append, List.length_cons, List.length_nil] at this
            simp only [List.length_cons]
            omega
      · rw [partsF_err hp he] at h
        have := h.length_le
        simp at this
theorem partsL_len {s : List UInt8} {pre : List (Nat × Nat × Nat)} {x : Nat × Nat × Nat} (h : (pre ++ [x]) <+: partsL s) : pre.length ≤ 8 := by
  cases s with
  | nil => have := h.length_le; simp [partsL] at this
  | cons a r => have := partsF_len 9 0 0 pre x (by omega) h; omega
theorem partsL_bad {s : List UInt8} {pre : List (Nat × Nat × Nat)} {x : Nat × Nat × Nat} (h : (pre ++ [x]) <+: partsL s) (hx : x.2.2 ≠ 0) (hp : ∀ y ∈ pre, y.2.2 = 0) : parseL s = ([], x.1, x.2.2) := by
  cases s with
  | nil => have := h.length_le; simp [partsL] at this
  | cons a r => exact partsF_bad_at 9 0 [] pre x h hx hp
theorem partsL_all {s : List UInt8} (h : ∀ y ∈ partsL s, y.2.2 = 0) : parseL s = ((partsL s).map (·.2.1), 0, 0) := by
  cases s with
  | nil => rfl
  | cons a r => exact partsF_all 9 0 [] rfl (by omega) h

theorem partsL_short {s : List UInt8} (h : ∀ y ∈ partsL s, y.2.2 = 0) : (partsL s).length ≤ 8 := by
  rcases List.eq_nil_or_concat (partsL s) with e | ⟨q, x, e⟩
  · rw [e]; simp
  · have hx : x.2.2 = 0 := h x (by rw [e]; simp)
    rw [List.concat_eq_append] at e
    have := partsL_room (s := s) (pre := q) (x := x) (by rw [e]; exact List.prefix_refl _) hx
    rw [e]; simp; omega

/-! ### The walks -/
theorem Arr.kept {W W' : World} {g o : Nat} {cs : List Value} {row : Option Nat} (h : Arr W g o cs) (hg : W.grownBy W' row) (hr : ∀ r, row = some r → ∃ ob : Obj, W.heap[r]? = some ob ∧ ob.isCells = false) : Arr W' g o cs :=
  ⟨fun j v hv => cell_kept (h.1 j v hv) hg hr, fun j hj => by
    obtain ⟨h1, h2⟩ := h.2 j hj
    obtain ⟨u, hu⟩ := Option.isSome_iff_exists.1 h1
    exact ⟨by rw [cell_kept hu hg hr]; rfl, (frozen_kept hu hg hr).trans h2⟩⟩
theorem parts_any (S : ByteArray) (w : World) :
    Calls Tryz.prog 127 #[.string S] w fun e w' => e = .returned (.func (.func 142) #[] #[.pointer (some ⟨w.heap.size, 0, none⟩)]) ∧ w' = w.alloc (.cells #[.string S] 9) := by
  go_enter Tryz.func127, Tryz.ntmps127
  go_wp2
  go_ret
  exact ⟨rfl, rfl⟩
theorem run_loadVar_int {P : Program} {w : World} {b : Nat} {ty : TypeId} {k : IntKind} {v : Value} (hu : P.underlying ty = some (.int k)) (hc : w.cell? ⟨b, 0, none⟩ = some v) : (loadVar ty ⟨b, 0, none⟩).run P w = .ok v w := by
  have hagg : (isAgg ty).run P w = .ok false w := by
    unfold isAgg
    rw [Sem.run_bind, run_underlying hu w]
    rfl
  simp [loadVar, Sem.run_bind, hagg, hc]
theorem results_cell3 {P : Program} {fn : Func} {p q r : Tmp} {ty ty2 ty3 : TypeId} {k2 k3 : IntKind} (h : fn.results = #[.cell p ty, .cell q ty2, .cell r ty3]) (tmps : Array Value) (w : World) (g : Nat) (cs : List Value) (d : TypeDesc) (u v : Value)
    (hp : tmps.getD p undef = .pointer (some ⟨g, 0, none⟩)) (hq : tmps.getD q undef = .pointer (some ⟨g + 1, 0, none⟩)) (hr : tmps.getD r undef = .pointer (some ⟨g + 2, 0, none⟩))
    (hg : Arr w g 0 cs) (h1 : w.cell? ⟨g + 1, 0, none⟩ = some u) (h2 : w.cell? ⟨g + 2, 0, none⟩ = some v) (hu : P.underlying ty = some d) (hd : d.isRow = true) (hi : (P.info? ty).map (·.size) = some cs.length) (hu2 : P.underlying ty2 = some (.int k2)) (hu3 : P.underlying ty3 = some (.int k3)) :
    (results fn tmps).run P w = .ok (.tuple #[.agg cs.toArray, u, v]) w := by
  have hp' : tmps[p]?.getD undef = .pointer (some ⟨g, 0, none⟩) := by simpa using hp
  have hq' : tmps[q]?.getD undef = .pointer (some ⟨g + 1, 0, none⟩) := by simpa using hq
  have hr' : tmps[r]?.getD undef = .pointer (some ⟨g + 2, 0, none⟩) := by simpa using hr
  simp [results, h, hp', hq', hr', asAddr, run_loadVar_mid w g 0 ty cs d hg.1 hu hd hi, run_loadVar_int hu2 h1, run_loadVar_int hu3 h2]

/-- The three result variables of read, in blocks b, b + 1, b + 2. -/
def RV (w : World) (b : Nat) (o : List Nat) (x y : Nat) : Prop := Arr w b 0 (listV o) ∧ Arr w (b + 1) 0 [iv x] ∧ Arr w (b + 2) 0 [iv y]
theorem RV.kept {W W' : World} {b : Nat} {o : List Nat} {x y : Nat} {row : Option Nat} (h : RV W b o x y) (hg : W.grownBy W' row) (hr : ∀ r, row = some r → ∃ ob : Obj, W.heap[r]? = some ob ∧ ob.isCells = false) : RV W' b o x y :=
  ⟨h.1.kept hg hr, h.2.1.kept hg hr, h.2.2.kept hg hr⟩
theorem inwp_gen {F : Fence} {n : Nat} {P : Program} {c : Code} {Q : Exit → Act → World → Prop} {a : Act} {V : World} (R : World → Prop) (h0 : R V) (h : ∀ W, R W → c.wpIn F n P Q a W) : c.wpIn F n P Q a V := h V h0
def RVn (w : World) (S : ByteArray) (V : World) : Prop := RV V w.heap.size [] 0 0 ∧ V.cell? ⟨w.heap.size + 3, 0, none⟩ = some (.string S) ∧ Below w.heap.size w V ∧ V.heap.size = w.heap.size + 4
theorem anyH_gen {P : Program} {md : Region.Mode} {ops : Array Oper} {Q : Exit → Act → World → Prop} {S : World → Prop} {fuel : Nat} {l : Array Bool} {a : Act} {V : World} (R : World → Prop) (h0 : R V) (h : ∀ W, R W → wpAnyH P md ops Q S fuel l a W) : wpAnyH P md ops Q S fuel l a V := h V h0
theorem keeps_setCells {A : World} (b : Nat) : ∀ (vs : List Value) (o : Nat) {w : World}, KeepsOthers A w → KeepsOthers A (w.setCells b o vs)
  | [], _, _, h => h
  | v :: r, o, w, h => keeps_setCells b r (o + 1) (h.trans (KeepsOthers.setCell w ⟨b, o, none⟩ v))
theorem rv_new (w : World) (S : ByteArray) (z : Array Value) (hz : z = (listV []).toArray) (s t u v : TypeId) :
    RVn w S ((((w.alloc (.cells z s)).alloc (.cells #[.int .i64 0] t)).alloc (.cells #[.int .i64 0] u)).alloc (.cells #[.string S] v)) := by
  subst hz
  have e1 : (w.alloc (Obj.cells (listV []).toArray s)).heap.size = w.heap.size + 1 := by simp
  have e2 : ((w.alloc (Obj.cells (listV []).toArray s)).alloc (Obj.cells #[Value.int .i64 0] t)).heap.size = w.heap.size + 2 := by simp
  have e3 : (((w.alloc (Obj.cells (listV []).toArray s)).alloc (Obj.cells #[Value.int .i64 0] t)).alloc (Obj.cells #[Value.int .i64 0] u)).heap.size = w.heap.size + 3 := by simp
  refine ⟨⟨(((Arr.new w _ _).alloc _).alloc _).alloc _, ?_, ?_⟩, ?_, (((((Below.refl _ w).alloc (Nat.le_refl _) _).alloc (by simp) _).alloc (by simp; omega) _).alloc (by simp; omega) _), by simp⟩
  · rw [← e1]; exact (((Arr.new _ [iv 0] t).alloc _).alloc _)
  · rw [← e2]; exact ((Arr.new _ [iv 0] u).alloc _)
  · rw [← e3, World.cell?_alloc_at _ _ _ _ rfl]; rfl
theorem listV_len2 {o p : List Nat} (h : o.length ≤ 8) (h' : p.length ≤ 8) : (listV o).length = (listV p).length := by rw [listV_length h, listV_length h']
theorem listV_one (o : List Nat) : ∀ v ∈ listV o, v.oneCell' = true := by
  intro v hv
  unfold listV at hv
  rcases List.mem_append.1 hv with hv | hv
  · rcases List.mem_append.1 hv with hv | hv
    · exact ivs_oneCell o v hv
    · rw [List.eq_of_mem_replicate hv]; rfl
  · simp at hv; rw [hv]; rfl
theorem listV_push {o : List Nat} (h : o.length ≤ 7) (x : Nat) : ((listV o).set o.length (iv x)).set 8 (iv (o.length + 1)) = listV (o ++ [x]) := by
  unfold listV
  obtain ⟨m, hm⟩ : ∃ m, 8 - o.length = m + 1 := ⟨7 - o.length, by omega⟩
  have h2 : 8 - (o ++ [x]).length = m := by simp; omega
  rw [hm, h2]
  simp only [List.replicate_succ, List.append_assoc, List.cons_append, List.map_append, List.map_cons, List.map_nil, List.nil_append, List.length_append, List.length_cons, List.length_nil]
  rw [List.set_append_right _ _ (by simp), List.length_map, Nat.sub_self, List.set_cons_zero, List.set_append_right _ _ (by simp; omega), List.length_map]
  have e8 : 8 - o.length = m + 1 := hm
  rw [e8, List.set_cons_succ, List.set_append_right _ _ (by simp), List.length_replicate, Nat.sub_self]
  rfl

/-- Between two rounds, and behind a round that has returned. -/
def IR (w : World) (pre : List (Nat × Nat × Nat)) (W : World) : Prop := (∀ y ∈ pre, y.2.2 = 0) ∧ RV W w.heap.size (pre.map fun y => y.2.1) 0 0 ∧ Below w.heap.size w W
def IxR (w : World) (pre : List (Nat × Nat × Nat)) (W : World) : Prop := ∃ q x, pre = q ++ [x] ∧ (∀ y ∈ q, y.2.2 = 0) ∧ x.2.2 ≠ 0 ∧ RV W w.heap.size [] x.1 x.2.2 ∧ Below w.heap.size w W
theorem ir_own {w : World} {B : Nat} (hB : w.heap.size ≤ B) : OwnFrom B (IR w) :=
  fun s X Y row hs hg hr => ⟨hs.1, hs.2.1.kept hg (fun r e => (hr r e).2), hs.2.2.grown hg hs.2.2.size (fun k e => by have := (hr k e).1; omega)⟩
theorem ixr_own {w : World} {B : Nat} (hB : w.heap.size ≤ B) : OwnFrom B (IxR w) :=
  fun s X Y row hs hg hr => by
    obtain ⟨q, x, h1, h2, h3, h4, h5⟩ := hs
    exact ⟨q, x, h1, h2, h3, h4.kept hg (fun r e => (hr r e).2), h5.grown hg h5.size (fun k e => by have := (hr k e).1; omega)⟩

set_option maxHeartbeats 2000000 in
set_option maxRecDepth 100000 in
theorem read_any (S : ByteArray) (w : World) (hS : S.size ≤ 1000000) (R : List Nat × Nat × Nat) (hR : R = parseL S.data.toList) :
    Calls Tryz.prog 106 #[.string S] w fun e w' => e = .returned (.tuple #[.agg (listV R.1).toArray, .int .i64 (R.2.1 : Int), .int .i64 (R.2.2 : Int)]) ∧ Below w.heap.size w w' := by
  refine (callsIn_wide (n := 4)).1 ?_
  refine callsIn_of_wp_marks Tryz.func106 rfl trivial ?_ rfl
  simp only [Tryz.ntmps106, List.size_toArray, List.length_cons, List.length_nil, Nat.reduceAdd, Nat.reduceSub, Array.replicate_succ, Array.replicate_zero, List.push_toArray, List.append_toArray, List.nil_append, List.cons_append]
  have HR := Lib.hid hR
  clear hR
  gi_wp2_with (refine ⟨trivial, ?_⟩; gi_at_call 127; refine ((callsIn_wide (n := 3)).2 (parts_any S _)).mono ?_; rintro r W1 ⟨rfl, rfl⟩)
  refine inwp_gen (RVn w S) (rv_new w S _ (by rfl) _ _ _ _) ?_
  rintro V ⟨hV, hVs, hVb, hVz⟩
  refine wpIn_upto (b := w.heap.size) (k := 3) (gf := 142) (lb := #[.pointer (some ⟨w.heap.size + 3, 0, none⟩)]) (enc := encP) (xs := partsL S.data.toList) rfl (enters_of Tryz.func142 (by kernel_rfl) rfl) (by omega) (iter_any S hS (w.heap.size + 3) w.heap.size 3 (Nat.le_refl _) V hVs) rfl
    (IR w) (IxR w) (ir_own (by omega)) (ixr_own (by omega))
    ⟨by simp, hV, hVb⟩
    (fun (x : Nat × Nat × Nat) G => { tmps := #[.string S, undef, .pointer (some ⟨w.heap.size, 0, none⟩), .pointer (some ⟨w.heap.size + 1, 0, none⟩), .pointer (some ⟨w.heap.size + 1 + 1, 0, none⟩), .pointer (some ⟨G, 0, none⟩), .string S, .func (.func 142) #[] #[.pointer (some ⟨w.heap.size + 1 + 1 + 1, 0, none⟩)], encP x, undef, undef, undef, undef, undef, undef, undef, undef, undef, undef, undef, undef, undef, undef, undef, undef, undef, undef, undef], defers := [] })
    (fun x => .cells #[.int .i64 (x.1 : Int), .int .i64 (x.2.1 : Int), .int .i64 (x.2.2 : Int)] 163)
    ?assign ?body ?done ?stop
  case assign =>
    intro l x W K hK
    simp only [encP] at hK ⊢
    gi_wp2
    exact hK
  case body =>
    rintro l G pre ⟨a, n, e⟩ W hpx hG hGo ⟨hpre, hRV, hB⟩
    simp only [encP]
    have cG0 : W.cell? ⟨G, 0, none⟩ = some (.int .i64 (a : Int)) := by unfold World.cell?; rw [hGo]; rfl
    have cG1 : W.cell? ⟨G, 1, none⟩ = some (.int .i64 (n : Int)) := by unfold World.cell?; rw [hGo]; rfl
    have cG2 : W.cell? ⟨G, 2, none⟩ = some (.int .i64 (e : Int)) := by unfold World.cell?; rw [hGo]; rfl
    have HPX := Lib.hid hpx
    have HPRE := Lib.hid hpre
    have HRV := Lib.hid hRV
    have HB := Lib.hid hB
    clear hpx hpre hRV hB hGo
    by_cases he : e = 0
    · subst he
      obtain ⟨o, ho⟩ : ∃ o, o = pre.map fun y => y.2.1 := ⟨_, rfl⟩
      have hk : o.length ≤ 7 := by rw [ho, List.length_map]; exact partsL_room HPX.out rfl
      have HRO := Lib.hid HRV.out
      rw [← ho] at HRO
      have HO := Lib.hid ho
      clear ho
      have h8 : (o.length : Int) < 8 := by omega
      have hne : ¬ o.length = 8 := by omega
      have c8 := HRO.out.1.cell0 (listV_depth (o := o) (by omega))
      have f8 := HRO.out.1.frozen0 (i := 8) (by rw [listV_length (by omega)]; omega)
      have ck : ∃ v, W.cell? ⟨w.heap.size, o.length, none⟩ = some v := ⟨_, HRO.out.1.cell0 (List.getElem?_eq_getElem (i := o.length) (by rw [listV_length (by omega)]; omega))⟩
      obtain ⟨v, ck⟩ := ck
      have fk := HRO.out.1.frozen0 (i := o.length) (by rw [listV_length (by omega)]; omega)
      simp only [Int.natCast_zero] at cG2
      gi_wp2
      have hA := HRO.out.1
      have h1 := (hA.set0 (i := o.length) (by rw [listV_length (by omega)]; omega) (iv n)).set0 (i := 8) (by rw [List.length_set, listV_length (by omega)]; omega) (iv (o.length + 1))
      rw [listV_push hk] at h1
      refine ⟨(KeepsOthers.setCell _ _ _).trans (KeepsOthers.setCell _ _ _), ((KpB.refl w.heap.size 3 W).setCell (q := ⟨w.heap.size, o.length, none⟩) ⟨Nat.le_refl _, by show w.heap.size < w.heap.size + 3; omega⟩ _).setCell (q := ⟨w.heap.size, 8, none⟩) ⟨Nat.le_refl _, by show w.heap.size < w.heap.size + 3; omega⟩ _, ?_, ⟨?_, ?_, ?_⟩, (HB.out.setCell (p := ⟨w.heap.size, o.length, none⟩) (Nat.le_refl _) _).setCell (p := ⟨w.heap.size, 8, none⟩) (Nat.le_refl _) _⟩
      · intro y hy
        rcases List.mem_append.1 hy with hy | hy
        · exact HPRE.out y hy
        · simp at hy; rw [hy]
      · rw [List.map_append, ← HO.out]; exact h1
      · exact (HRO.out.2.1.other _ (.inl (by show w.heap.size ≠ w.heap.size + 1; omega))).other _ (.inl (by show w.heap.size ≠ w.heap.size + 1; omega))
      · exact (HRO.out.2.2.other _ (.inl (by show w.heap.size ≠ w.heap.size + 2; omega))).other _ (.inl (by show w.heap.size ≠ w.heap.size + 2; omega))
    · have ge : ((e : Int) == 0) = false := by simp; omega
      have HE := Lib.hid he
      have HLEN : Hid (pre.length ≤ 8) := Lib.hid (by have := partsL_len HPX.out; omega)
      clear he
      gi_wp2
      refine region_round_held (S := fun V => V.rangeAt G 0 (part3 a n e)) (by kernel_rfl) (by kernel_rfl) (by rintro ⟨_, _, h⟩; exact h) (range3 cG0 cG1 cG2) (fun hHeld => ?_)
      refine wpAnyH_take (i := 0) (v := ?_) (ops_atL rfl) (by kernel_rfl) (by kernel_rfl) (by kernel_rfl) (fun _ _ _ h => h) (Or.inl ⟨by rfl, ?_⟩) hHeld ?_
      rotate_left
      · (intro W hSW; go_simp; try with_reducible rfl)
      try simp only [Act.put, List.setIfInBounds_toArray, List.set_cons_zero, List.set_cons_succ]
      refine wpAnyH_take (i := 1) (v := ?_) (ops_atL rfl) (by kernel_rfl) (by kernel_rfl) (by kernel_rfl) (fun _ _ _ h => h) (Or.inl ⟨by rfl, ?_⟩) hHeld ?_
      rotate_left
      · (intro W hSW; go_simp; try with_reducible rfl)
      try simp only [Act.put, List.setIfInBounds_toArray, List.set_cons_zero, List.set_cons_succ]
      refine wpAnyH_take (i := 2) (v := ?_) (ops_atL rfl) (by kernel_rfl) (by kernel_rfl) (by kernel_rfl) (fun _ _ _ h => h) (Or.inl ⟨by rfl, ?_⟩) hHeld ?_
      rotate_left
      · (intro W hSW; have c0 : W.cell? ⟨G, 0, none⟩ = some (.int .i64 (a : Int)) := hSW 0 _ rfl; go_simp; try with_reducible rfl)
      try simp only [Act.put, List.setIfInBounds_toArray, List.set_cons_zero, List.set_cons_succ]
      refine wpAnyH_take (i := 3) (v := ?_) (ops_atL rfl) (by kernel_rfl) (by kernel_rfl) (by kernel_rfl) (fun _ _ _ h => h) (Or.inl ⟨by rfl, ?_⟩) hHeld ?_
      rotate_left
      · (intro W hSW; go_simp; try with_reducible rfl)
      try simp only [Act.put, List.setIfInBounds_toArray, List.set_cons_zero, List.set_cons_succ]
      refine wpAnyH_take (i := 4) (v := ?_) (ops_atL rfl) (by kernel_rfl) (by kernel_rfl) (by kernel_rfl) (fun _ _ _ h => h) (Or.inl ⟨by rfl, ?_⟩) hHeld ?_
      rotate_left
      · (intro W hSW; have c2 : W.cell? ⟨G, 2, none⟩ = some (.int .i64 (e : Int)) := hSW 2 _ rfl; go_simp; try with_reducible rfl)
      try simp only [Act.put, List.setIfInBounds_toArray, List.set_cons_zero, List.set_cons_succ]
      refine wpAnyH_ready (rs := [5]) (by kernel_rfl) (by simp) ?_
      refine AllReadyH.cons (ops_atL rfl) (fun K hK => ?_) AllReadyH.nil
      rw [if_pos (by rfl)]
      refine wp_store_mid 99 (.tmp 2) (.tmp 12) rfl w.heap.size 0 (listV []).toArray rfl rfl ?th (by kernel_rfl) (all_oneCell_toArray (listV_one [])) ?_
      case th => exact HRV.out.1.drew.thereA (listV []) (listV_len2 (by simp) (by rw [List.length_map]; exact HLEN.out))
      have hS5 : (W.drew.setCells w.heap.size 0 (listV [])).rangeAt G 0 (part3 a n e) := World.rangeAt_setCells_apart hHeld _ _ _ (.inl (by omega))
      refine hK.out _ _ hS5 (fun _ => ?_)
      clear hK K hHeld
      try simp only [Act.put, List.setIfInBounds_toArray, List.set_cons_zero, List.set_cons_succ]
      refine anyH_gen (fun V => RV V w.heap.size [] 0 0 ∧ Below w.heap.size w V ∧ KeepsOthers W V ∧ V.rangeAt G 0 (part3 a n e)) ⟨⟨HRV.out.1.drew.sets (listV []) (listV_len2 (by simp) (by rw [List.length_map]; exact HLEN.out)), HRV.out.2.1.drew.sets_other _ _ _ (.inl (by omega)), HRV.out.2.2.drew.sets_other _ _ _ (.inl (by omega))⟩, below_setCells _ (Nat.le_refl _) _ _ _ HB.out.drew, keeps_setCells _ _ _ (KeepsOthers.drew W), hS5⟩ ?_
      rintro X ⟨hXR, hXB, hXK, hHeld⟩
      have d1 : X.cell? ⟨w.heap.size + 1, 0, none⟩ = some (.int .i64 0) := hXR.2.1.cell0 (i := 0) rfl
      have g1 := hXR.2.1.frozen0 (i := 0) (by simp)
      have d2 : X.cell? ⟨w.heap.size + 1 + 1, 0, none⟩ = some (.int .i64 0) := hXR.2.2.cell0 (i := 0) rfl
      have g2 : X.frozen? ⟨w.heap.size + 1 + 1, 0, none⟩ = false := hXR.2.2.frozen0 (i := 0) (by simp)
      refine wpAnyH_ready (rs := [6]) (by kernel_rfl) (by simp) ?_
      refine AllReadyH.cons (ops_atL rfl) (fun K hK => ?_) AllReadyH.nil
      go_simp
      have hS6 : (X.setCell ⟨w.heap.size + 1, 0, none⟩ (.int .i64 (a : Int))).rangeAt G 0 (part3 a n e) := fun j v hv => by
        rw [World.cell?_setCell_other _ _ _ _ (by intro e; injection e with e1 _; omega)]; exact hHeld j v hv
      refine hK.out _ _ hS6 (fun _ => ?_)
      clear hK K
      try simp only [Act.put, List.setIfInBounds_toArray, List.set_cons_zero, List.set_cons_succ]
      refine wpAnyH_ready (rs := [7]) (by kernel_rfl) (by simp) ?_
      refine AllReadyH.cons (ops_atL rfl) (fun K hK => ?_) AllReadyH.nil
      go_simp
      refine hK.out _ _ (fun j v hv => by
        rw [World.cell?_setCell_other _ _ _ _ (by intro e; injection e with e1 _; omega)]; exact hS6 j v hv) (fun _ => ?_)
      clear hK K
      try simp only [Act.put, List.setIfInBounds_toArray, List.set_cons_zero, List.set_cons_succ]
      refine wpAnyH_done (by kernel_rfl) ?_ _
      gi_wp2
      have h1 := hXR.1
      have h2 := hXR.2.1.set0 (i := 0) (by simp) (iv a)
      have h3 := (hXR.2.2.other (p := ⟨w.heap.size + 1, 0, none⟩) (iv a) (.inl (by show w.heap.size + 1 ≠ w.heap.size + 2; omega))).set0 (i := 0) (by simp) (iv e)
      refine ⟨(hXK.trans (KeepsOthers.setCell _ _ _)).trans (KeepsOthers.setCell _ _ _), pre, (a, n, e), rfl, HPRE.out, HE.out, ⟨?_, ?_, ?_⟩, (hXB.setCell (p := ⟨w.heap.size + 1, 0, none⟩) (by show w.heap.size ≤ w.heap.size + 1; omega) _).setCell (p := ⟨w.heap.size + 1 + 1, 0, none⟩) (by show w.heap.size ≤ w.heap.size + 1 + 1; omega) _⟩
      · exact (h1.other _ (.inl (by show w.heap.size + 1 ≠ w.heap.size; omega))).other _ (.inl (by show w.heap.size + 1 + 1 ≠ w.heap.size; omega))
      · exact h2.other _ (.inl (by show w.heap.size + 1 + 1 ≠ w.heap.size + 1; omega))
      · exact h3
  case done =>
    rintro D W hD ⟨hall, hRV, hB⟩ hK
    obtain ⟨o, ho⟩ : ∃ o, o = (partsL S.data.toList).map fun y => y.2.1 := ⟨_, rfl⟩
    have hRo : R = (o, 0, 0) := by rw [HR.out, ho]; exact partsL_all hall
    rw [← ho] at hRV
    have HLEN : Hid (o.length ≤ 8) := Lib.hid (by rw [ho, List.length_map]; exact partsL_short hall)
    have hDw : w.heap.size ≤ D := by omega
    have HRV := Lib.hid hRV
    have HB := Lib.hid hB
    have HK := Lib.hid hK
    have HL : Hid (W.rangeAt w.heap.size 0 (listV o)) := Lib.hid hRV.1.1
    have HT : Hid (W.there w.heap.size 0 (listV o).toArray.size) := Lib.hid (hRV.1.thereA (listV o) rfl)
    have HI : Hid ((Tryz.prog.info? 99).map (·.size) = some (listV o).length) := Lib.hid (by rw [listV_length HLEN.out]; kernel_rfl)
    have HIA : Hid ((Tryz.prog.info? 99).map (·.size) = some (listV o).toArray.size) := Lib.hid (by rw [List.size_toArray, listV_length HLEN.out]; kernel_rfl)
    have HO1 : Hid ((listV o).toArray.all Value.oneCell' = true) := Lib.hid (all_oneCell_toArray (listV_one o))
    obtain ⟨W2, hW2⟩ : ∃ W2, W2 = W.setCells w.heap.size 0 (listV o) := ⟨_, rfl⟩
    have hR2 : RV W2 w.heap.size o 0 0 := by rw [hW2]; exact ⟨hRV.1.sets (listV o) rfl, hRV.2.1.sets_other _ _ _ (.inl (by omega)), hRV.2.2.sets_other _ _ _ (.inl (by omega))⟩
    have hB2 : Below w.heap.size w W2 := by rw [hW2]; exact below_setCells _ (Nat.le_refl _) _ _ _ hB
    have hK2 : W2.heap[D]? = some (.deferred (some [])) := by rw [hW2]; exact (keeps_setCells _ _ _ (KeepsOthers.refl W)).same D _ hK rfl
    have d1 : W2.cell? ⟨w.heap.size + 1, 0, none⟩ = some (.int .i64 0) := hR2.2.1.cell0 (i := 0) rfl
    have g1 := hR2.2.1.frozen0 (i := 0) (by simp)
    have d2 : W2.cell? ⟨w.heap.size + 1 + 1, 0, none⟩ = some (.int .i64 0) := hR2.2.2.cell0 (i := 0) rfl
    have g2 : W2.frozen? ⟨w.heap.size + 1 + 1, 0, none⟩ = false := hR2.2.2.frozen0 (i := 0) (by simp)
    have HW := Lib.hid hW2
    have HR2 := Lib.hid hR2
    have HB2 := Lib.hid hB2
    have HK2 := Lib.hid hK2
    clear hRV hB hK hall ho hW2 hR2 hB2 hK2 hV hVs hVb hVz
    rename_i K1 hK1
    refine hK1 _ _ (wpIn_wide.2 ?_)
    clear hK1
    go_wp2_with (first
      | (refine wpList_load_mid (by rfl) 99 (.tmp 2) (by rfl) w.heap.size 0 (by rfl) (listV o) _ HL.out Tryz.underlying99 rfl HI.out ?_)
      | (refine wpList_store_mid (by rfl) 99 (.tmp 2) (.tmp 27) (by rfl) w.heap.size 0 (listV o).toArray (by rfl) (by rfl) HT.out HIA.out HO1.out ?_; rw [← HW.out]))
    have hR3 : RV ((W2.setCell ⟨w.heap.size + 1, 0, none⟩ (.int .i64 0)).setCell ⟨w.heap.size + 1 + 1, 0, none⟩ (.int .i64 0)) w.heap.size o 0 0 :=
      ⟨(HR2.out.1.other _ (.inl (by show w.heap.size + 1 ≠ w.heap.size; omega))).other _ (.inl (by show w.heap.size + 1 + 1 ≠ w.heap.size; omega)), (HR2.out.2.1.set0 (i := 0) (by simp) (iv 0)).other _ (.inl (by show w.heap.size + 1 + 1 ≠ w.heap.size + 1; omega)),
        (HR2.out.2.2.other (p := ⟨w.heap.size + 1, 0, none⟩) (iv 0) (.inl (by show w.heap.size + 1 ≠ w.heap.size + 2; omega))).set0 (i := 0) (by simp) (iv 0)⟩
    have hK3 := ((KeepsOthers.setCell W2 ⟨w.heap.size + 1, 0, none⟩ (.int .i64 0)).trans (KeepsOthers.setCell _ ⟨w.heap.size + 1 + 1, 0, none⟩ (.int .i64 0))).same D _ HK2.out rfl
    have hB3 := (HB2.out.setCell (p := ⟨w.heap.size + 1, 0, none⟩) (by show w.heap.size ≤ w.heap.size + 1; omega) (.int .i64 0)).setCell (p := ⟨w.heap.size + 1 + 1, 0, none⟩) (by show w.heap.size ≤ w.heap.size + 1 + 1; omega) (.int .i64 0)
    refine ⟨by simp, .inl ⟨_, _, rfl, run_takeDeferred hK3, ?_⟩⟩
    have hR4 := hR3.kept (grownBy_putObj' _ D (.deferred none)) (fun r e => by cases e; exact ⟨_, hK3, rfl⟩)
    have hB4 := hB3.grown (grownBy_putObj' _ D (.deferred none)) hB3.size (fun k e => by cases e; exact hDw)
    refine ⟨_, results_cell3 rfl _ _ w.heap.size (listV o) _ (iv 0) (iv 0) rfl rfl rfl hR4.1 (hR4.2.1.cell0 (i := 0) rfl) (hR4.2.2.cell0 (i := 0) rfl) Tryz.underlying99 rfl HI.out Tryz.underlying3 Tryz.underlying46, ?_, hB4⟩
    rw [hRo]
  case stop =>
    rintro D pre W hD hpx ⟨q, x, rfl, hq, hx, hRV, hB⟩ hK
    have hR := HR.out.trans (partsL_bad hpx hx hq)
    gi_wp2
    refine ⟨by simp, .inl ⟨_, _, rfl, run_takeDeferred hK, ?_⟩⟩
    have hR4 := hRV.kept (grownBy_putObj' _ D (.deferred none)) (fun r e => by cases e; exact ⟨_, hK, rfl⟩)
    have hB4 := hB.grown (grownBy_putObj' _ D (.deferred none)) hB.size (fun k e => by cases e; omega)
    refine ⟨_, results_cell3 rfl _ _ w.heap.size (listV []) _ (iv x.1) (iv x.2.2) rfl rfl rfl hR4.1 (hR4.2.1.cell0 (i := 0) rfl) (hR4.2.2.cell0 (i := 0) rfl) Tryz.underlying99 rfl (by kernel_rfl) Tryz.underlying3 Tryz.underlying46, ?_, hB4⟩
    rw [hR]
end Go.Proofs.YtcdjmkfpclmbdaaGreatDoor

namespace Go.Proofs.YtcdjmkfpclmbdaaGreatDoor
open Go.RowKit

def stepD (m : Nat) (d : UInt8) : Nat := 10 * m + (d.toNat - 48)
/-- It does not go on with a digit. -/
def Stop (t : List UInt8) : Prop := ∀ c r, t = c :: r → isD c = false
theorem dig_spec : ∀ (r : List UInt8) (k n n' k' : Nat), k ≤ 6 → dig r k n = some (n', k') →
    ∃ ds t, r = ds ++ t ∧ (∀ d ∈ ds, isD d = true) ∧ k' = k + ds.length ∧ k' ≤ 6 ∧ n' = ds.foldl stepD n ∧ Stop t
  | [], k, n, n', k', hk, h => by
    rw [dig] at h; cases h
    exact ⟨[], [], rfl, by simp, by simp, hk, rfl, fun c r h => by cases h⟩
  | c :: r, k, n, n', k', hk, h => by
    rw [dig] at h
    by_cases hc : isD c = true
    · rw [if_pos hc] at h
      by_cases h6 : k = 6
      · rw [if_pos h6] at h; cases h
      · rw [if_neg h6] at h
        obtain ⟨ds, t, h1, h2, h3, h4, h5, h7⟩ := dig_spec r (k + 1) _ n' k' (by omega) h
        refine ⟨c :: ds, t, by rw [h1]; rfl, ?_, by simp; omega, h4, h5, h7⟩
        intro d hd
        rcases List.mem_cons.1 hd with rfl | hd
        · exact hc
        · exact h2 d hd
    · rw [if_neg hc] at h
      cases h
      refine ⟨[], c :: r, rfl, by simp, by simp, hk, rfl, ?_⟩
      intro c' r' e
      cases e
      simpa using hc
theorem dig_run : ∀ (ds : List UInt8) (k n : Nat) (t : List UInt8), (∀ d ∈ ds, isD d = true) → k + ds.length ≤ 6 → Stop t → dig (ds ++ t) k n = some (ds.foldl stepD n, k + ds.length)
  | [], k, n, t, _, _, ht => by
    cases t with
    | nil => rw [List.nil_append, dig]; simp
    | cons c r => rw [List.nil_append, dig, if_neg (by rw [ht c r rfl]; decide)]; simp
  | d :: ds, k, n, t, hd, hk, ht => by
    have h6 : ¬ k = 6 := by simp at hk; omega
    rw [List.cons_append, dig, if_pos (hd d (by simp)), if_neg h6, dig_run ds (k + 1) _ t (fun x hx => hd x (by simp [hx])) (by simp at hk; omega) ht]
    simp [stepD]; omega
theorem dec_digits (n : Nat) : ∀ d ∈ dec n, isD d = true := by
  induction n using Nat.strongRecOn with
  | _ n ih =>
    have last : ∀ m, m < 10 → isD (UInt8.ofNat (48 + m)) = true := by
      intro m hm
      simp only [isD, UInt8.toNat_ofNat', Bool.and_eq_true, decide_eq_true_eq]
      omega
    by_cases h : n < 10
    · rw [dec_small h]
      intro d hd
      rw [List.mem_singleton.1 hd]; exact last n h
    · rw [dec_big h]
      intro d hd
      rcases List.mem_append.1 hd with hd | hd
      · exact ih (n / 10) (by omega) d hd
      · rw [List.mem_singleton.1 hd]; exact last _ (by omega)
theorem dec_val (n : Nat) : (dec n).foldl stepD 0 = n := by
  induction n using Nat.strongRecOn with
  | _ n ih =>
    by_cases h : n < 10
    · rw [dec_small h]
      show 10 * 0 + ((UInt8.ofNat (48 + n)).toNat - 48) = n
      rw [UInt8.toNat_ofNat']; omega
    · rw [dec_big h, List.foldl_append, ih (n / 10) (by omega)]
      show 10 * (n / 10) + ((UInt8.ofNat (48 + n % 10)).toNat - 48) = n
      rw [UInt8.toNat_ofNat']; omega
theorem dec_len10 : ∀ (k n : Nat), n < 10 ^ (k + 1) → (dec n).length ≤ k + 1
  | 0, n, h => by rw [dec_small (by simpa using h)]; simp
  | k + 1, n, h => by
    by_cases hs : n < 10
    · rw [dec_small hs]; simp
    · rw [dec_big hs, List.length_append]
      have h1 : n / 10 < 10 ^ (k + 1) := by
        rw [Nat.pow_succ] at h
        exact Nat.div_lt_of_lt_mul (by rw [Nat.mul_comm]; exact h)
      have := dec_len10 k (n / 10) h1
      simp; omega
theorem dec_l6 {n : Nat} (h : n ≤ 999999) : (dec n).length ≤ 6 := dec_len10 5 n (by simp only [Nat.reducePow, Nat.reduceAdd]; omega)
theorem dec_ne (n : Nat) : dec n ≠ [] := by
  by_cases h : n < 10
  · rw [dec_small h]; simp
  · rw [dec_big h]; simp
theorem dec_head (n : Nat) (hn : 1 ≤ n) : ∃ c r, dec n = c :: r ∧ c ≠ 48 := by
  induction n using Nat.strongRecOn with
  | _ n ih =>
    by_cases h : n < 10
    · refine ⟨_, _, dec_small h, fun e => ?_⟩
      have := congrArg UInt8.toNat e
      rw [UInt8.toNat_ofNat', show (48 : UInt8).toNat = 48 from rfl] at this
      omega
    · obtain ⟨c, r, hc, hne⟩ := ih (n / 10) (by omega) (by omega)
      exact ⟨c, r ++ [UInt8.ofNat (48 + n % 10)], by rw [dec_big h, hc]; rfl, hne⟩
theorem fold_ge : ∀ (ds : List UInt8) (n : Nat), n ≤ ds.foldl stepD n
  | [], n => Nat.le_refl _
  | d :: ds, n => Nat.le_trans (by show n ≤ 10 * n + _; omega) (fold_ge ds (stepD n d))
theorem fold_lt : ∀ (ds : List UInt8) (n k : Nat), (∀ d ∈ ds, isD d = true) → n < 10 ^ k → ds.foldl stepD n < 10 ^ (k + ds.length)
  | [], n, k, _, h => h
  | d :: ds, n, k, hd, h => by
    have h1 : stepD n d < 10 ^ (k + 1) := pow_step h (by have := hd d (by simp); simp [isD] at this; omega)
    have := fold_lt ds _ (k + 1) (fun x hx => hd x (by simp [hx])) h1
    rw [List.length_cons, show k + (ds.length + 1) = k + 1 + ds.length by omega]
    exact this
theorem dec_of : ∀ (ds : List UInt8) (c : UInt8), (∀ d ∈ c :: ds.reverse, isD d = true) → c ≠ 48 → dec ((c :: ds.reverse).foldl stepD 0) = c :: ds.reverse
  | [], c, hd, hc => by
    have := hd c (by simp)
    simp only [isD, Bool.and_eq_true, decide_eq_true_eq] at this
    show dec (10 * 0 + (c.toNat - 48)) = [c]
    rw [dec_small (by omega)]
    congr 1
    rw [← UInt8.toNat_inj, UInt8.toNat_ofNat']
    omega
  | d :: ds, c, hd, hc => by
    have ih := dec_of ds c (fun x hx => hd x (by simp at hx ⊢; rcases hx with h | h; exact .inl h; exact .inr (.inl h))) hc
    have hdd := hd d (by simp)
    simp only [isD, Bool.and_eq_true, decide_eq_true_eq] at hdd
    rw [List.reverse_cons, ← List.cons_append, List.foldl_append]
    obtain ⟨v, hv⟩ : ∃ v, v = (c :: ds.reverse).foldl stepD 0 := ⟨_, rfl⟩
    rw [← hv] at ih ⊢
    have hv1 : 1 ≤ v := by
      have hcc := hd c (by simp)
      simp only [isD, Bool.and_eq_true, decide_eq_true_eq] at hcc
      have hc48 : c.toNat ≠ 48 := fun e => hc (UInt8.toNat_inj.1 (by rw [e]; rfl))
      rw [hv, List.foldl_cons]
      refine Nat.le_trans ?_ (fold_ge _ _)
      show 1 ≤ 10 * 0 + (c.toNat - 48)
      omega
    show dec (10 * v + (d.toNat - 48)) = _
    rw [dec_big (by omega), show (10 * v + (d.toNat - 48)) / 10 = v by omega, ih]
    congr 2
    rw [← UInt8.toNat_inj, UInt8.toNat_ofNat']
    omega
theorem dec_of' {ds r : List UInt8} {c : UInt8} (e : ds = c :: r) (hd : ∀ d ∈ ds, isD d = true) (hc : c ≠ 48) : dec (ds.foldl stepD 0) = ds := by
  subst e
  have := dec_of r.reverse c (by simpa using hd) hc
  simpa using this

/-! ### One part -/
theorem partP_text {s : List UInt8} {at_ count a n en : Nat} (h : partP s at_ count = (a, n, 0, en)) : count ≠ 8 ∧ s.drop at_ = dec n ++ s.drop en ∧ Stop (s.drop en) ∧ 1 ≤ n ∧ n ≤ 999999 := by
  unfold partP at h
  by_cases h8 : count = 8
  · rw [if_pos h8] at h; cases h
  · rw [if_neg h8] at h
    cases hd : s.drop at_ with
    | nil => rw [hd] at h; cases h
    | cons c r =>
      rw [hd] at h
      simp only at h
      by_cases hc : isD c = true
      · rw [if_pos hc] at h
        by_cases h48 : c = 48
        · rw [if_pos h48] at h; cases h
        · rw [if_neg h48] at h
          cases hg : dig (c :: r) 0 0 with
          | none => rw [hg] at h; cases h
          | some p =>
            obtain ⟨n', k'⟩ := p
            rw [hg] at h
            cases h
            obtain ⟨ds, t, h1, h2, h3, h4, h5, h7⟩ := dig_spec (c :: r) 0 0 n k' (by omega) hg
            have hdr : s.drop (at_ + k') = t := by
              rw [← List.drop_drop, hd, h1, h3, Nat.zero_add, List.drop_left]
            cases ds with
            | nil =>
              have := h7 c r (by simpa using h1.symm)
              rw [hc] at this; cases this
            | cons d ds' =>
              have hcd : c = d := by
                have := congrArg List.head? h1
                simpa using this
              subst hcd
              have hdec := dec_of' rfl h2 h48
              rw [← h5] at hdec
              refine ⟨h8, by rw [hdr, hdec, h1], by rw [hdr]; exact h7, ?_, ?_⟩
              · apply Nat.pos_of_ne_zero
                intro h0
                rw [h0, dec_small (by omega)] at hdec
                have : UInt8.ofNat (48 + 0) = c := by
                  have := congrArg List.head? hdec
                  simpa using this
                exact h48 (by rw [← this]; rfl)
              · have := fold_lt (c :: ds') 0 0 h2 (by decide)
                rw [← h5, ← h3] at this
                have h10 : 10 ^ k' ≤ 10 ^ 6 := Nat.pow_le_pow_right (by decide) h4
                simp only [Nat.reducePow] at h10
                omega
      · rw [if_neg hc] at h; cases h
theorem partP_dec {s t : List UInt8} {at_ count n : Nat} (h8 : count ≠ 8) (hd : s.drop at_ = dec n ++ t) (ht : Stop t) (h1 : 1 ≤ n) (h2 : n ≤ 999999) : partP s at_ count = (at_, n, 0, at_ + (dec n).length) := by
  obtain ⟨c, r, hc, hne⟩ := dec_head n h1
  have hg := dig_run (dec n) 0 0 t (dec_digits n) (by have := dec_l6 h2; omega) ht
  rw [dec_val, Nat.zero_add] at hg
  have hcd : isD c = true := dec_digits n c (by rw [hc]; simp)
  unfold partP
  rw [if_neg h8, hd]
  rw [hc] at hg ⊢
  simp only [List.cons_append] at hg ⊢
  rw [if_pos hcd, if_neg hne, hg]

/-! ### The whole -/
/-- The text of ordinals, from the left. -/
def tx : List Nat → List UInt8
  | [] => []
  | a :: r => dec a ++ (match r with | [] => [] | _ :: _ => 46 :: tx r)
theorem tx_one (a : Nat) : tx [a] = dec a := by simp [tx]
theorem tx_cons (a b : Nat) (r : List Nat) : tx (a :: b :: r) = dec a ++ 46 :: tx (b :: r) := by rw [tx]
theorem tx_snoc : ∀ (l : List Nat) (x : Nat), l ≠ [] → tx (l ++ [x]) = tx l ++ 46 :: dec x
  | [], _, h => absurd rfl h
  | [a], x, _ => by simp [tx]
  | a :: b :: r, x, _ => by
    rw [List.cons_append, List.cons_append, tx_cons, tx_cons, ← List.cons_append, tx_snoc (b :: r) x (by simp)]
    simp
theorem textK_take : ∀ (k : Nat) (l : List Nat), k ≤ l.length → textK l k = tx (l.take k)
  | 0, l, _ => by simp [textK, tx]
  | k + 1, l, h => by
    have hk : k < l.length := by omega
    have e1 : l.take (k + 1) = l.take k ++ [l.getD k 0] := by
      rw [List.take_add_one, List.getD_eq_getElem?_getD, List.getElem?_eq_getElem hk]; rfl
    rw [textK, textK_take k l (by omega), e1]
    cases k with
    | zero => simp [tx]
    | succ k =>
      rw [tx_snoc _ _ (fun e => by have := congrArg List.length e; rw [List.length_take, List.length_nil] at this; omega), if_neg (by omega)]
      simp
theorem textS_tx (l : List Nat) : textS l = tx l := by
  unfold textS
  rw [textK_take _ _ (Nat.le_refl _), List.take_length]
/-- What was read is the text of what it gave. -/
theorem parseF_text {s : List UInt8} : ∀ (f at_ : Nat) (out l : List Nat) (x : Nat), out.length + f = 9 → parseF s f at_ out = (l, x, 0) → 0 < f → x = 0 ∧ ∃ r, r ≠ [] ∧ l = out ++ r ∧ s.drop at_ = tx r ∧ (∀ y ∈ r, 1 ≤ y ∧ y ≤ 999999) ∧ l.length ≤ 8
  | 0, _, _, _, _, _, _, h => absurd h (by omega)
  | f + 1, at_, out, l, x, hf, h, _ => by
    obtain ⟨a, n, e, en, hp⟩ : ∃ a n e en, partP s at_ out.length = (a, n, e, en) := ⟨_, _, _, _, rfl⟩
    by_cases he : e = 0
    · subst he
      obtain ⟨h8, hd, hst, h1, h2⟩ := partP_text hp
      cases hdr : s.drop en with
      | nil =>
        rw [parseF_end hp hdr] at h
        cases h
        refine ⟨rfl, [n], by simp, rfl, ?_, ?_, by simp; omega⟩
        · rw [hd, hdr, tx_one]; simp
        · intro y hy; simp at hy; rw [hy]; exact ⟨h1, h2⟩
      | cons c r =>
        by_cases h46 : c = 46
        · rw [parseF_go hp hdr h46] at h
          have hf0 : 0 < f := by omega
          obtain ⟨hx, r2, hr, hl, htx, hy, hlen⟩ := parseF_text f (en + 1) (out ++ [n]) l x (by simp; omega) h hf0
          refine ⟨hx, n :: r2, by simp, by rw [hl]; simp, ?_, ?_, hlen⟩
          · cases r2 with
            | nil => exact absurd rfl hr
            | cons b r3 =>
              rw [tx_cons, ← htx, hd, hdr, h46]
              congr 2
              have : s.drop (en + 1) = (s.drop en).drop 1 := by rw [List.drop_drop]
              rw [this, hdr]; rfl
          · intro y hyy
            rcases List.mem_cons.1 hyy with rfl | hyy
            · exact ⟨h1, h2⟩
            · exact hy y hyy
        · rw [parseF_bad hp hdr h46] at h
          cases h
    · rw [parseF_err hp he] at h
      cases h
      exact absurd rfl he
theorem parseF_of {s : List UInt8} : ∀ (r : List Nat) (f at_ : Nat) (out : List Nat), r ≠ [] → out.length + f = 9 → out.length + r.length ≤ 8 → (∀ y ∈ r, 1 ≤ y ∧ y ≤ 999999) → s.drop at_ = tx r → parseF s f at_ out = (out ++ r, 0, 0)
  | [], _, _, _, h, _, _, _, _ => absurd rfl h
  | a :: r, 0, _, _, _, h, h2, _, _ => by simp at h2; omega
  | a :: r, f + 1, at_, out, _, hf, hl, hy, hd => by
    have h8 : out.length ≠ 8 := by simp at hl; omega
    have ha := hy a (by simp)
    cases r with
    | nil =>
      rw [tx_one] at hd
      have hp := partP_dec (t := []) h8 (by rw [hd]; simp) (fun c r e => by cases e) ha.1 ha.2
      exact parseF_end hp (by rw [← List.drop_drop, hd, List.drop_length])
    | cons b r =>
      rw [tx_cons] at hd
      have hp := partP_dec h8 hd (fun c r e => by cases e; rfl) ha.1 ha.2
      have hdr : s.drop (at_ + (dec a).length) = 46 :: tx (b :: r) := by rw [← List.drop_drop, hd, List.drop_left]
      rw [parseF_go hp hdr rfl, parseF_of (b :: r) f _ (out ++ [a]) (by simp) (by simp; omega) (by simp at hl ⊢; omega) (fun y h => hy y (by simp [h])) (by rw [← List.drop_drop, hdr]; rfl)]
      simp
def Good (l : List Nat) : Prop := l.length ≤ 8 ∧ ∀ x ∈ l, 1 ≤ x ∧ x ≤ 999999
theorem parseL_cons {s : List UInt8} (h : s ≠ []) : parseL s = parseF s 9 0 [] := by
  cases s with
  | nil => exact absurd rfl h
  | cons a r => rfl
theorem parseL_text {s : List UInt8} (h : (parseL s).2.2 = 0) : (parseL s).2.1 = 0 ∧ Good (parseL s).1 ∧ tx (parseL s).1 = s := by
  by_cases hs : s = []
  · subst hs; exact ⟨rfl, ⟨by simp [parseL], by simp [parseL]⟩, rfl⟩
  · rw [parseL_cons hs] at h ⊢
    obtain ⟨l, x, e0, e⟩ : ∃ l x e0, parseF s 9 0 [] = (l, x, e0) := ⟨_, _, _, rfl⟩
    rw [e] at h
    obtain rfl : e0 = 0 := h
    obtain ⟨hx, r, hr, hl, htx, hy, hlen⟩ := parseF_text 9 0 [] l x rfl e (by omega)
    rw [e]
    rw [List.nil_append] at hl
    subst hl
    exact ⟨hx, ⟨hlen, hy⟩, by rw [← htx]; rfl⟩
theorem parseF_none {s : List UInt8} : ∀ (f at_ : Nat) (out : List Nat), (parseF s f at_ out).2.2 ≠ 0 → (parseF s f at_ out).1 = []
  | 0, _, _, h => absurd rfl h
  | f + 1, at_, out, h => by
    rw [parseF] at h ⊢
    split
    · rename_i h0
      rw [if_pos h0] at h
      split
      · rename_i hd; rw [hd] at h; exact absurd rfl h
      · rename_i c r hd
        rw [hd] at h
        simp only at h
        split
        · rename_i h46; rw [if_pos h46] at h; exact parseF_none f _ _ h
        · rfl
    · rfl
theorem parseL_none {s : List UInt8} (h : (parseL s).2.2 ≠ 0) : (parseL s).1 = [] := by
  by_cases hs : s = []
  · subst hs; exact absurd rfl h
  · rw [parseL_cons hs] at h ⊢; exact parseF_none _ _ _ h
theorem parseL_len8 (s : List UInt8) : (parseL s).1.length ≤ 8 := by
  by_cases h : (parseL s).2.2 = 0
  · exact (parseL_text h).2.1.1
  · rw [parseL_none h]; simp
theorem parseL_num (s : List UInt8) : ∀ x ∈ (parseL s).1, 1 ≤ x ∧ x ≤ 999999 := by
  by_cases h : (parseL s).2.2 = 0
  · exact (parseL_text h).2.1.2
  · rw [parseL_none h]; simp
theorem tx_ne {l : List Nat} (h : l ≠ []) : tx l ≠ [] := by
  cases l with
  | nil => exact absurd rfl h
  | cons a r => intro e; exact dec_ne a (List.append_eq_nil_iff.1 (show dec a ++ _ = [] from e)).1
theorem parseL_tx {l : List Nat} (h : Good l) : parseL (tx l) = (l, 0, 0) := by
  by_cases hl : l = []
  · subst hl; rfl
  · rw [parseL_cons (tx_ne hl), parseF_of l 9 0 [] hl rfl (by simpa using h.1) h.2 rfl]; rfl
end Go.Proofs.YtcdjmkfpclmbdaaGreatDoor

namespace Go.Proofs.YtcdjmkfpclmbdaaGreatDoor
open Go.RowKit

/-- The nine cells as numbers. -/
theorem nine {o : List Nat} (h : o.length ≤ 8) : ∃ a b c d e f g i : Nat, listV o = [iv a, iv b, iv c, iv d, iv e, iv f, iv g, iv i, iv o.length] := by
  have key : ∀ l : List Nat, l.length = 8 → ∃ a b c d e f g i : Nat, l = [a, b, c, d, e, f, g, i] := by
    intro l h
    match l, h with
    | [a, b, c, d, e, f, g, i], _ => exact ⟨a, b, c, d, e, f, g, i, rfl⟩
  obtain ⟨a, b, c, d, e, f, g, i, hk⟩ := key (o ++ List.replicate (8 - o.length) 0) (by simp; omega)
  refine ⟨a, b, c, d, e, f, g, i, ?_⟩
  have := congrArg (List.map iv) hk
  rw [List.map_append, List.map_replicate] at this
  unfold listV
  rw [show (Value.int .i64 0) = iv 0 from rfl, this]
  rfl

def listN (a b c d e f g i n : Nat) : List Value := [iv a, iv b, iv c, iv d, iv e, iv f, iv g, iv i, iv n]
theorem listN_one (a b c d e f g i n : Nat) : ∀ v ∈ listN a b c d e f g i n, v.oneCell' = true := by
  intro v hv
  simp only [listN, List.mem_cons, List.not_mem_nil, or_false] at hv
  rcases hv with rfl | rfl | rfl | rfl | rfl | rfl | rfl | rfl | rfl <;> rfl

set_option maxHeartbeats 1000000 in
set_option maxRecDepth 100000 in
theorem list_any (S : ByteArray) (w : World) (hS : S.size ≤ 1000000) :
    Calls Tryz.prog 73 #[.string S] w fun e w' => e = .returned (.tuple #[.agg (listV (parseL S.data.toList).1).toArray, .bool (validB S.data.toList)]) ∧ Below w.heap.size w w' := by
  obtain ⟨R, hR⟩ : ∃ R, R = parseL S.data.toList := ⟨_, rfl⟩
  have hv : validB S.data.toList = (R.2.2 == 0) := by rw [hR]; rfl
  have hl : R.1.length ≤ 8 := by rw [hR]; exact parseL_len8 _
  rw [hv, ← hR]
  have HP := Lib.hid fun W => read_any S W hS R hR
  obtain ⟨o, x, e⟩ := R
  clear hR hv
  obtain ⟨c0, c1, c2, c3, c4, c5, c6, c7, h9⟩ := nine hl
  simp only [h9] at HP ⊢
  clear h9 hl
  go_enter Tryz.func73, Tryz.ntmps73
  have HI9 : Hid ((Tryz.prog.info? 99).map (·.size) = some (listN c0 c1 c2 c3 c4 c5 c6 c7 o.length).toArray.size) := Lib.hid (by kernel_rfl)
  have HO9 : Hid ((listN c0 c1 c2 c3 c4 c5 c6 c7 o.length).toArray.all Value.oneCell' = true) := Lib.hid (all_oneCell_toArray (listN_one _ _ _ _ _ _ _ _ _))
  go_wp2_with (first
    | (go_at_call 106; refine (HP.out _).mono ?_; rintro r W1 ⟨rfl, hb1⟩; have HA : Hid (∀ c t, Arr (W1.alloc (.cells c t)) w.heap.size 0 (listN 0 0 0 0 0 0 0 0 0)) := Lib.hid (fun c t => ((Arr.new w (listN 0 0 0 0 0 0 0 0 0) _).below hb1 (by simp)).alloc (.cells c t)); have HB : Hid (Below w.heap.size w W1) := Lib.hid (((Below.refl _ w).alloc (Nat.le_refl _) _).trans (hb1.mono (by simp))); clear hb1)
    | (refine wpList_store_mid (by rfl) 99 (.tmp 2) (.tmp 13) (by rfl) w.heap.size 0 (listN c0 c1 c2 c3 c4 c5 c6 c7 o.length).toArray (by rfl) (by rfl) ((HA.out _ _).thereA (listN c0 c1 c2 c3 c4 c5 c6 c7 o.length) rfl) HI9.out HO9.out ?_))
  refine bodyPost_ret (results_row2 rfl _ _ w.heap.size (listN c0 c1 c2 c3 c4 c5 c6 c7 o.length) _ rfl ((HA.out _ _).sets (listN c0 c1 c2 c3 c4 c5 c6 c7 o.length) rfl).1 Tryz.underlying99 rfl (by kernel_rfl)) rfl ?_
  refine ⟨?_, below_setCells _ (Nat.le_refl _) _ _ _ (HB.out.alloc HB.out.size _)⟩
  rw [show ((e : Int) == 0) = (e == 0) from by rw [Bool.eq_iff_iff]; simp]
  rfl
end Go.Proofs.YtcdjmkfpclmbdaaGreatDoor

namespace Go.Proofs.YtcdjmkfpclmbdaaGreatDoor
open Go.RowKit

/-- What list returns, cell for cell, with the fresh block that its caller lays for it. -/
theorem list_nine (S : ByteArray) (hS : S.size ≤ 1000000) : ∃ a b c d e f g i : Nat, listV (parseL S.data.toList).1 = listN a b c d e f g i (parseL S.data.toList).1.length ∧
    ∀ w, Calls Tryz.prog 73 #[.string S] w fun r w' => r = .returned (.tuple #[.agg #[iv a, iv b, iv c, iv d, iv e, iv f, iv g, iv i, iv (parseL S.data.toList).1.length], .bool (validB S.data.toList)]) ∧ Below w.heap.size w w' := by
  obtain ⟨a, b, c, d, e, f, g, i, h⟩ := nine (parseL_len8 S.data.toList)
  refine ⟨a, b, c, d, e, f, g, i, h, fun w => ?_⟩
  have := list_any S w hS
  rw [h] at this
  exact this

/-- Of the result that a text begins with: nothing where it is no name. -/
def goodS (S : ByteArray) (e : Nat) : ByteArray := if e = 0 then S else ⟨#[]⟩
set_option maxHeartbeats 1000000 in
set_option maxRecDepth 100000 in
theorem valid_any (S : ByteArray) (w : World) (hS : S.size ≤ 1000000) :
    Calls Tryz.prog 84 #[.string S] w fun e w' => e = .returned (.bool (validB S.data.toList)) ∧ Below w.heap.size w w' := by
  obtain ⟨c0, c1, c2, c3, c4, c5, c6, c7, h9, hp⟩ := list_nine S hS
  have HP := Lib.hid hp
  clear h9 hp
  go_enter Tryz.func84, Tryz.ntmps84
  go_wp2_with (go_at_call 73; refine (HP.out _).mono ?_; rintro r W1 ⟨rfl, hb1⟩; have HB := Lib.hid hb1; clear hb1)
  go_ret
  exact ⟨rfl, HB.out.alloc HB.out.size _⟩

/-- The last ordinal, or 0. -/
def lastN (l : List Nat) : Nat := l.getLast?.getD 0
end Go.Proofs.YtcdjmkfpclmbdaaGreatDoor
