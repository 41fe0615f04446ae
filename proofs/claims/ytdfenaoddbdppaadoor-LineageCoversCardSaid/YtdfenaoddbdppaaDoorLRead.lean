/- lineage: the walks of parts and read. -/
import Derived.Test.YtdfenaoddbdppaaDoorLIter
import Derived.Test.YtdfenaoddbdppaaDoorLShared
import Derived.Test.YtdfenaoddbdppaaDoorLDig
import Derived.Shelf.Abstract
set_option linter.unusedVariables false
namespace Go.Proofs.YtdfenaoddbdppaaDoor
open Go.RowKit
attribute [local go_sem] Oper.semAt_some

/-! ### What the parts say -/
theorem partsF_room {s : List UInt8} : ∀ (f at_ c : Nat) (pre : List (Nat × Nat × Nat)) (x : Nat × Nat × Nat), c ≤ 8 → (pre ++ [x]) <+: partsF s f at_ c → x.2.2 = 0 → c + pre.length ≤ 7
  | 0, _, _, pre, x, _, h, _ => by
    have := h.length_le
    simp [partsF] at this
  | f + 1, at_, c, pre, x, hc, h, hx => by
    obtain ⟨a, n, e, en, hp⟩ : ∃ a n e en, partP s at_ c = (a, n, e, en) := ⟨_, _, _, _, rfl⟩
    have h8 : e = 0 → c ≠ 8 := by
      rintro rfl rfl
      unfold partP at hp
      rw [if_pos rfl] at hp
      cases hp
    cases pre with
    | nil =>
      have : x = (a, n, e) := by
        rw [partsF, hp] at h
        have := (List.cons_prefix_cons.1 h).1
        exact this
      rw [this] at hx
      have := h8 hx
      simp; omega
    | cons y pre =>
      by_cases he : e = 0
      · subst he
        have h8' := h8 rfl
        cases hd : s.drop en with
        | nil =>
          rw [partsF_end hp hd] at h
          have := h.length_le
          simp at this
        | cons d r =>
          by_cases h46 : d = 46
          · rw [partsF_go hp hd h46, List.cons_append, List.cons_prefix_cons] at h
            have := partsF_room f (en + 1) (c + 1) pre x (by omega) h.2 hx
            simp; omega
          · rw [partsF_bad hp hd h46, List.cons_append, List.cons_prefix_cons] at h
            have h2 := h.2
            cases pre with
            | nil =>
              have := (List.cons_prefix_cons.1 h2).1
              rw [this] at hx; cases hx
            | cons z pre =>
              have := h2.length_le
              simp at this
      · rw [partsF_err hp he] at h
        have := h.length_le
        simp at this
theorem partsF_bad_at {s : List UInt8} : ∀ (f at_ : Nat) (out : List Nat) (pre : List (Nat × Nat × Nat)) (x : Nat × Nat × Nat), (pre ++ [x]) <+: partsF s f at_ out.length → x.2.2 ≠ 0 → (∀ y ∈ pre, y.2.2 = 0) → parseF s f at_ out = ([], x.1, x.2.2)
  | 0, _, _, pre, x, h, _, _ => by
    have := h.length_le
    simp [partsF] at this
  | f + 1, at_, out, pre, x, h, hx, hpre => by
    obtain ⟨a, n, e, en, hp⟩ : ∃ a n e en, partP s at_ out.length = (a, n, e, en) := ⟨_, _, _, _, rfl⟩
    cases pre with
    | nil =>
      have : x = (a, n, e) := by
        rw [partsF, hp] at h
        exact (List.cons_prefix_cons.1 h).1
      rw [this] at hx ⊢
      exact parseF_err hp hx
    | cons y pre =>
      by_cases he : e = 0
      · subst he
        cases hd : s.drop en with
        | nil =>
          rw [partsF_end hp hd] at h
          have := h.length_le
          simp at this
        | cons d r =>
          by_cases h46 : d = 46
          · rw [partsF_go hp hd h46, List.cons_append, List.cons_prefix_cons] at h
            rw [parseF_go hp hd h46]
            exact partsF_bad_at f (en + 1) (out ++ [n]) pre x (by simpa using h.2) hx (fun z hz => hpre z (by simp [hz]))
          · rw [partsF_bad hp hd h46, List.cons_append, List.cons_prefix_cons] at h
            have h2 := h.2
            cases pre with
            | nil =>
              have := (List.cons_prefix_cons.1 h2).1
              rw [this, parseF_bad hp hd h46]
            | cons z pre =>
              have := h2.length_le
              simp at this
      · rw [partsF_err hp he] at h
        have := h.length_le
        simp at this
theorem partsF_all {s : List UInt8} : ∀ (f at_ : Nat) (out : List Nat), out.length + f = 9 → 0 < f → (∀ y ∈ partsF s f at_ out.length, y.2.2 = 0) → parseF s f at_ out = (out ++ (partsF s f at_ out.length).map (·.2.1), 0, 0)
  | 0, _, _, _, h, _ => absurd h (by omega)
  | f + 1, at_, out, hf, _, h => by
    obtain ⟨a, n, e, en, hp⟩ : ∃ a n e en, partP s at_ out.length = (a, n, e, en) := ⟨_, _, _, _, rfl⟩
    have he : e = 0 := by
      have := h (a, n, e) (by rw [partsF, hp]; simp)
      exact this
    subst he
    have h8 : out.length ≠ 8 := by
      intro h8
      unfold partP at hp
      rw [if_pos h8] at hp
      cases hp
    cases hd : s.drop en with
    | nil => rw [parseF_end hp hd, partsF_end hp hd]; rfl
    | cons d r =>
      by_cases h46 : d = 46
      · rw [partsF_go hp hd h46] at h ⊢
        rw [parseF_go hp hd h46, partsF_all f (en + 1) (out ++ [n]) (by simp; omega) (by omega) (by simpa using fun y hy => h y (by simp [hy]))]
        simp
      · rw [partsF_bad hp hd h46] at h
        have := h (en, 0, 6) (by simp)
        cases this
theorem partsL_room {s : List UInt8} {pre : List (Nat × Nat × Nat)} {x : Nat × Nat × Nat} (h : (pre ++ [x]) <+: partsL s) (hx : x.2.2 = 0) : pre.length ≤ 7 := by
  cases s with
  | nil => have := h.length_le; simp [partsL] at this
  | cons a r => have := partsF_room 9 0 0 pre x (by omega) h hx; omega
theorem partsF_len {s : List UInt8} : ∀ (f at_ c : Nat) (pre : List (Nat × Nat × Nat)) (x : Nat × Nat × Nat), c ≤ 8 → (pre ++ [x]) <+: partsF s f at_ c → c + pre.length ≤ 8
  | 0, _, _, pre, x, _, h => by
    have := h.length_le
    simp [partsF] at this
  | f + 1, at_, c, pre, x, hc, h => by
    obtain ⟨a, n, e, en, hp⟩ : ∃ a n e en, partP s at_ c = (a, n, e, en) := ⟨_, _, _, _, rfl⟩
    have h8 : e = 0 → c ≠ 8 := by
      rintro rfl rfl
      unfold partP at hp
      rw [if_pos rfl] at hp
      cases hp
    cases pre with
    | nil => simpa using hc
    | cons y pre =>
      by_cases he : e = 0
      · subst he
        have h8' := h8 rfl
        cases hd : s.drop en with
        | nil =>
          rw [partsF_end hp hd] at h
          have := h.length_le
          simp at this
        | cons d r =>
          by_cases h46 : d = 46
          · rw [partsF_go hp hd h46, List.cons_append, List.cons_prefix_cons] at h
            have := partsF_len f (en + 1) (c + 1) pre x (by omega) h.2
            simp; omega
          · rw [partsF_bad hp hd h46] at h
            have := h.length_le
            simp only [List.length_append, List.length_cons, List.length_nil] at this
            simp only [List.length_cons]
            omega
      · rw [partsF_err hp he] at h
        have := h.length_le
        simp at this
theorem partsL_len {s : List UInt8} {pre : List (Nat × Nat × Nat)} {x : Nat × Nat × Nat} (h : (pre ++ [x]) <+: partsL s) : pre.length ≤ 8 := by
  cases s with
  | nil => have := h.length_le; simp [partsL] at this
  | cons a r => have := partsF_len 9 0 0 pre x (by omega) h; omega
theorem partsL_bad {s : List UInt8} {pre : List (Nat × Nat × Nat)} {x : Nat × Nat × Nat} (h : (pre ++ [x]) <+: partsL s) (hx : x.2.2 ≠ 0) (hp : ∀ y ∈ pre, y.2.2 = 0) : parseL s = ([], x.1, x.2.2) := by
  cases s with
  | nil => have := h.length_le; simp [partsL] at this
  | cons a r => exact partsF_bad_at 9 0 [] pre x h hx hp
theorem partsL_all {s : List UInt8} (h : ∀ y ∈ partsL s, y.2.2 = 0) : parseL s = ((partsL s).map (·.2.1), 0, 0) := by
  cases s with
  | nil => rfl
  | cons a r => exact partsF_all 9 0 [] rfl (by omega) h

theorem partsL_short {s : List UInt8} (h : ∀ y ∈ partsL s, y.2.2 = 0) : (partsL s).length ≤ 8 := by
  rcases List.eq_nil_or_concat (partsL s) with e | ⟨q, x, e⟩
  · rw [e]; simp
  · have hx : x.2.2 = 0 := h x (by rw [e]; simp)
    rw [List.concat_eq_append] at e
    have := partsL_room (s := s) (pre := q) (x := x) (by rw [e]; exact List.prefix_refl _) hx
    rw [e]; simp; omega

/-! ### The walks -/
theorem Arr.kept {W W' : World} {g o : Nat} {cs : List Value} {row : Option Nat} (h : Arr W g o cs) (hg : W.grownBy W' row) (hr : ∀ r, row = some r → ∃ ob : Obj, W.heap[r]? = some ob ∧ ob.isCells = false) : Arr W' g o cs :=
  ⟨fun j v hv => cell_kept (h.1 j v hv) hg hr, fun j hj => by
    obtain ⟨h1, h2⟩ := h.2 j hj
    obtain ⟨u, hu⟩ := Option.isSome_iff_exists.1 h1
    exact ⟨by rw [cell_kept hu hg hr]; rfl, (frozen_kept hu hg hr).trans h2⟩⟩
theorem parts_any (S : ByteArray) (w : World) :
    Calls Tryd.prog 67 #[.string S] w fun e w' => e = .returned (.func (.func 79) #[] #[.pointer (some ⟨w.heap.size, 0, none⟩)]) ∧ w' = w.alloc (.cells #[.string S] 9) := by
  go_enter Tryd.func67, Tryd.ntmps67
  go_wp2
  go_ret
  exact ⟨rfl, rfl⟩
theorem run_loadVar_int {P : Program} {w : World} {b : Nat} {ty : TypeId} {k : IntKind} {v : Value} (hu : P.underlying ty = some (.int k)) (hc : w.cell? ⟨b, 0, none⟩ = some v) : (loadVar ty ⟨b, 0, none⟩).run P w = .ok v w := by
  have hagg : (isAgg ty).run P w = .ok false w := by
    unfold isAgg
    rw [Sem.run_bind, run_underlying hu w]
    rfl
  simp [loadVar, Sem.run_bind, hagg, hc]
theorem results_cell3 {P : Program} {fn : Func} {p q r : Tmp} {ty ty2 ty3 : TypeId} {k2 k3 : IntKind} (h : fn.results = #[.cell p ty, .cell q ty2, .cell r ty3]) (tmps : Array Value) (w : World) (g : Nat) (cs : List Value) (d : TypeDesc) (u v : Value)
    (hp : tmps.getD p undef = .pointer (some ⟨g, 0, none⟩)) (hq : tmps.getD q undef = .pointer (some ⟨g + 1, 0, none⟩)) (hr : tmps.getD r undef = .pointer (some ⟨g + 2, 0, none⟩))
    (hg : Arr w g 0 cs) (h1 : w.cell? ⟨g + 1, 0, none⟩ = some u) (h2 : w.cell? ⟨g + 2, 0, none⟩ = some v) (hu : P.underlying ty = some d) (hd : d.isRow = true) (hi : (P.info? ty).map (·.size) = some cs.length) (hu2 : P.underlying ty2 = some (.int k2)) (hu3 : P.underlying ty3 = some (.int k3)) :
    (results fn tmps).run P w = .ok (.tuple #[.agg cs.toArray, u, v]) w := by
  have hp' : tmps[p]?.getD undef = .pointer (some ⟨g, 0, none⟩) := by simpa using hp
  have hq' : tmps[q]?.getD undef = .pointer (some ⟨g + 1, 0, none⟩) := by simpa using hq
  have hr' : tmps[r]?.getD undef = .pointer (some ⟨g + 2, 0, none⟩) := by simpa using hr
  simp [results, h, hp', hq', hr', asAddr, run_loadVar_mid w g 0 ty cs d hg.1 hu hd hi, run_loadVar_int hu2 h1, run_loadVar_int hu3 h2]

/-- The three result variables of read, in blocks b, b + 1, b + 2. -/
def RV (w : World) (b : Nat) (o : List Nat) (x y : Nat) : Prop := Arr w b 0 (listV o) ∧ Arr w (b + 1) 0 [iv x] ∧ Arr w (b + 2) 0 [iv y]
theorem RV.kept {W W' : World} {b : Nat} {o : List Nat} {x y : Nat} {row : Option Nat} (h : RV W b o x y) (hg : W.grownBy W' row) (hr : ∀ r, row = some r → ∃ ob : Obj, W.heap[r]? = some ob ∧ ob.isCells = false) : RV W' b o x y :=
  ⟨h.1.kept hg hr, h.2.1.kept hg hr, h.2.2.kept hg hr⟩
theorem inwp_gen {F : Fence} {n : Nat} {P : Program} {c : Code} {Q : Exit → Act → World → Prop} {a : Act} {V : World} (R : World → Prop) (h0 : R V) (h : ∀ W, R W → c.wpIn F n P Q a W) : c.wpIn F n P Q a V := h V h0
def RVn (w : World) (S : ByteArray) (V : World) : Prop := RV V w.heap.size [] 0 0 ∧ V.cell? ⟨w.heap.size + 3, 0, none⟩ = some (.string S) ∧ Below w.heap.size w V ∧ V.heap.size = w.heap.size + 4
theorem anyH_gen {P : Program} {md : Region.Mode} {ops : Array Oper} {Q : Exit → Act → World → Prop} {S : World → Prop} {fuel : Nat} {l : Array Bool} {a : Act} {V : World} (R : World → Prop) (h0 : R V) (h : ∀ W, R W → wpAnyH P md ops Q S fuel l a W) : wpAnyH P md ops Q S fuel l a V := h V h0
theorem keeps_setCells {A : World} (b : Nat) : ∀ (vs : List Value) (o : Nat) {w : World}, KeepsOthers A w → KeepsOthers A (w.setCells b o vs)
  | [], _, _, h => h
  | v :: r, o, w, h => keeps_setCells b r (o + 1) (h.trans (KeepsOthers.setCell w ⟨b, o, none⟩ v))
theorem rv_new (w : World) (S : ByteArray) (z : Array Value) (hz : z = (listV []).toArray) (s t u v : TypeId) :
    RVn w S ((((w.alloc (.cells z s)).alloc (.cells #[.int .i64 0] t)).alloc (.cells #[.int .i64 0] u)).alloc (.cells #[.string S] v)) := by
  subst hz
  have e1 : (w.alloc (Obj.cells (listV []).toArray s)).heap.size = w.heap.size + 1 := by simp
  have e2 : ((w.alloc (Obj.cells (listV []).toArray s)).alloc (Obj.cells #[Value.int .i64 0] t)).heap.size = w.heap.size + 2 := by simp
  have e3 : (((w.alloc (Obj.cells (listV []).toArray s)).alloc (Obj.cells #[Value.int .i64 0] t)).alloc (Obj.cells #[Value.int .i64 0] u)).heap.size = w.heap.size + 3 := by simp
  refine ⟨⟨(((Arr.new w _ _).alloc _).alloc _).alloc _, ?_, ?_⟩, ?_, (((((Below.refl _ w).alloc (Nat.le_refl _) _).alloc (by simp) _).alloc (by simp; omega) _).alloc (by simp; omega) _), by simp⟩
  · rw [← e1]; exact (((Arr.new _ [iv 0] t).alloc _).alloc _)
  · rw [← e2]; exact ((Arr.new _ [iv 0] u).alloc _)
  · rw [← e3, World.cell?_alloc_at _ _ _ _ rfl]; rfl
theorem listV_len2 {o p : List Nat} (h : o.length ≤ 8) (h' : p.length ≤ 8) : (listV o).length = (listV p).length := by rw [listV_length h, listV_length h']
theorem listV_one (o : List Nat) : ∀ v ∈ listV o, v.oneCell' = true := by
  intro v hv
  unfold listV at hv
  rcases List.mem_append.1 hv with hv | hv
  · rcases List.mem_append.1 hv with hv | hv
    · exact ivs_oneCell o v hv
    · rw [List.eq_of_mem_replicate hv]; rfl
  · simp at hv; rw [hv]; rfl
theorem listV_push {o : List Nat} (h : o.length ≤ 7) (x : Nat) : ((listV o).set o.length (iv x)).set 8 (iv (o.length + 1)) = listV (o ++ [x]) := by
  unfold listV
  obtain ⟨m, hm⟩ : ∃ m, 8 - o.length = m + 1 := ⟨7 - o.length, by omega⟩
  have h2 : 8 - (o ++ [x]).length = m := by simp; omega
  rw [hm, h2]
  simp only [List.replicate_succ, List.append_assoc, List.cons_append, List.map_append, List.map_cons, List.map_nil, List.nil_append, List.length_append, List.length_cons, List.length_nil]
  rw [List.set_append_right _ _ (by simp), List.length_map, Nat.sub_self, List.set_cons_zero, List.set_append_right _ _ (by simp; omega), List.length_map]
  have e8 : 8 - o.length = m + 1 := hm
  rw [e8, List.set_cons_succ, List.set_append_right _ _ (by simp), List.length_replicate, Nat.sub_self]
  rfl

/-- Between two rounds, and behind a round that has returned. -/
def IR (w : World) (pre : List (Nat × Nat × Nat)) (W : World) : Prop := (∀ y ∈ pre, y.2.2 = 0) ∧ RV W w.heap.size (pre.map fun y => y.2.1) 0 0 ∧ Below w.heap.size w W
def IxR (w : World) (pre : List (Nat × Nat × Nat)) (W : World) : Prop := ∃ q x, pre = q ++ [x] ∧ (∀ y ∈ q, y.2.2 = 0) ∧ x.2.2 ≠ 0 ∧ RV W w.heap.size [] x.1 x.2.2 ∧ Below w.heap.size w W
theorem ir_own {w : World} {B : Nat} (hB : w.heap.size ≤ B) : OwnFrom B (IR w) :=
  fun s X Y row hs hg hr => ⟨hs.1, hs.2.1.kept hg (fun r e => (hr r e).2), hs.2.2.grown hg hs.2.2.size (fun k e => by have := (hr k e).1; omega)⟩
theorem ixr_own {w : World} {B : Nat} (hB : w.heap.size ≤ B) : OwnFrom B (IxR w) :=
  fun s X Y row hs hg hr => by
    obtain ⟨q, x, h1, h2, h3, h4, h5⟩ := hs
    exact ⟨q, x, h1, h2, h3, h4.kept hg (fun r e => (hr r e).2), h5.grown hg h5.size (fun k e => by have := (hr k e).1; omega)⟩

set_option maxHeartbeats 2000000 in
set_option maxRecDepth 100000 in
theorem read_any (S : ByteArray) (w : World) (hS : S.size ≤ 1000000) (R : List Nat × Nat × Nat) (hR : R = parseL S.data.toList) :
    Calls Tryd.prog 48 #[.string S] w fun e w' => e = .returned (.tuple #[.agg (listV R.1).toArray, .int .i64 (R.2.1 : Int), .int .i64 (R.2.2 : Int)]) ∧ Below w.heap.size w w' := by
  refine (callsIn_wide (n := 4)).1 ?_
  refine callsIn_of_wp_marks Tryd.func48 rfl trivial ?_ rfl
  simp only [Tryd.ntmps48, List.size_toArray, List.length_cons, List.length_nil, Nat.reduceAdd, Nat.reduceSub, Array.replicate_succ, Array.replicate_zero, List.push_toArray, List.append_toArray, List.nil_append, List.cons_append]
  have HR := Lib.hid hR
  clear hR
  gi_wp2_with (refine ⟨trivial, ?_⟩; gi_at_call 67; refine ((callsIn_wide (n := 3)).2 (parts_any S _)).mono ?_; rintro r W1 ⟨rfl, rfl⟩)
  refine inwp_gen (RVn w S) (rv_new w S _ (by rfl) _ _ _ _) ?_
  rintro V ⟨hV, hVs, hVb, hVz⟩
  refine wpIn_upto (b := w.heap.size) (k := 3) (gf := 79) (lb := #[.pointer (some ⟨w.heap.size + 3, 0, none⟩)]) (enc := encP) (xs := partsL S.data.toList) rfl (enters_of Tryd.func79 (by kernel_rfl) rfl) (by omega) (iter_any S hS (w.heap.size + 3) w.heap.size 3 (Nat.le_refl _) V hVs) rfl
    (IR w) (IxR w) (ir_own (by omega)) (ixr_own (by omega))
    ⟨by simp, hV, hVb⟩
    (fun (x : Nat × Nat × Nat) G => { tmps := #[.string S, undef, .pointer (some ⟨w.heap.size, 0, none⟩), .pointer (some ⟨w.heap.size + 1, 0, none⟩), .pointer (some ⟨w.heap.size + 1 + 1, 0, none⟩), .pointer (some ⟨G, 0, none⟩), .string S, .func (.func 79) #[] #[.pointer (some ⟨w.heap.size + 1 + 1 + 1, 0, none⟩)], encP x, undef, undef, undef, undef, undef, undef, undef, undef, undef, undef, undef, undef, undef, undef, undef, undef, undef, undef, undef], defers := [] })
    (fun x => .cells #[.int .i64 (x.1 : Int), .int .i64 (x.2.1 : Int), .int .i64 (x.2.2 : Int)] 105)
    ?assign ?body ?done ?stop
  case assign =>
    intro l x W K hK
    simp only [encP] at hK ⊢
    gi_wp2
    exact hK
  case body =>
    rintro l G pre ⟨a, n, e⟩ W hpx hG hGo ⟨hpre, hRV, hB⟩
    simp only [encP]
    have cG0 : W.cell? ⟨G, 0, none⟩ = some (.int .i64 (a : Int)) := by unfold World.cell?; rw [hGo]; rfl
    have cG1 : W.cell? ⟨G, 1, none⟩ = some (.int .i64 (n : Int)) := by unfold World.cell?; rw [hGo]; rfl
    have cG2 : W.cell? ⟨G, 2, none⟩ = some (.int .i64 (e : Int)) := by unfold World.cell?; rw [hGo]; rfl
    have HPX := Lib.hid hpx
    have HPRE := Lib.hid hpre
    have HRV := Lib.hid hRV
    have HB := Lib.hid hB
    clear hpx hpre hRV hB hGo
    by_cases he : e = 0
    · subst he
      obtain ⟨o, ho⟩ : ∃ o, o = pre.map fun y => y.2.1 := ⟨_, rfl⟩
      have hk : o.length ≤ 7 := by rw [ho, List.length_map]; exact partsL_room HPX.out rfl
      have HRO := Lib.hid HRV.out
      rw [← ho] at HRO
      have HO := Lib.hid ho
      clear ho
      have h8 : (o.length : Int) < 8 := by omega
      have hne : ¬ o.length = 8 := by omega
      have c8 := HRO.out.1.cell0 (listV_depth (o := o) (by omega))
      have f8 := HRO.out.1.frozen0 (i := 8) (by rw [listV_length (by omega)]; omega)
      have ck : ∃ v, W.cell? ⟨w.heap.size, o.length, none⟩ = some v := ⟨_, HRO.out.1.cell0 (List.getElem?_eq_getElem (i := o.length) (by rw [listV_length (by omega)]; omega))⟩
      obtain ⟨v, ck⟩ := ck
      have fk := HRO.out.1.frozen0 (i := o.length) (by rw [listV_length (by omega)]; omega)
      simp only [Int.natCast_zero] at cG2
      gi_wp2
      have hA := HRO.out.1
      have h1 := (hA.set0 (i := o.length) (by rw [listV_length (by omega)]; omega) (iv n)).set0 (i := 8) (by rw [List.length_set, listV_length (by omega)]; omega) (iv (o.length + 1))
      rw [listV_push hk] at h1
      refine ⟨(KeepsOthers.setCell _ _ _).trans (KeepsOthers.setCell _ _ _), ((KpB.refl w.heap.size 3 W).setCell (q := ⟨w.heap.size, o.length, none⟩) ⟨Nat.le_refl _, by show w.heap.size < w.heap.size + 3; omega⟩ _).setCell (q := ⟨w.heap.size, 8, none⟩) ⟨Nat.le_refl _, by show w.heap.size < w.heap.size + 3; omega⟩ _, ?_, ⟨?_, ?_, ?_⟩, (HB.out.setCell (p := ⟨w.heap.size, o.length, none⟩) (Nat.le_refl _) _).setCell (p := ⟨w.heap.size, 8, none⟩) (Nat.le_refl _) _⟩
      · intro y hy
        rcases List.mem_append.1 hy with hy | hy
        · exact HPRE.out y hy
        · simp at hy; rw [hy]
      · rw [List.map_append, ← HO.out]; exact h1
      · exact (HRO.out.2.1.other _ (.inl (by show w.heap.size ≠ w.heap.size + 1; omega))).other _ (.inl (by show w.heap.size ≠ w.heap.size + 1; omega))
      · exact (HRO.out.2.2.other _ (.inl (by show w.heap.size ≠ w.heap.size + 2; omega))).other _ (.inl (by show w.heap.size ≠ w.heap.size + 2; omega))
    · have ge : ((e : Int) == 0) = false := by simp; omega
      have HE := Lib.hid he
      have HLEN : Hid (pre.length ≤ 8) := Lib.hid (by have := partsL_len HPX.out; omega)
      clear he
      gi_wp2
      refine region_round_held (S := fun V => V.rangeAt G 0 (part3 a n e)) (by kernel_rfl) (by kernel_rfl) (by rintro ⟨_, _, h⟩; exact h) (range3 cG0 cG1 cG2) (fun hHeld => ?_)
      refine wpAnyH_take (i := 0) (v := ?_) (ops_atL rfl) (by kernel_rfl) (by kernel_rfl) (by kernel_rfl) (fun _ _ _ h => h) (Or.inl ⟨by rfl, ?_⟩) hHeld ?_
      rotate_left
      · (intro W hSW; go_simp; try with_reducible rfl)
      try simp only [Act.put, List.setIfInBounds_toArray, List.set_cons_zero, List.set_cons_succ]
      refine wpAnyH_take (i := 1) (v := ?_) (ops_atL rfl) (by kernel_rfl) (by kernel_rfl) (by kernel_rfl) (fun _ _ _ h => h) (Or.inl ⟨by rfl, ?_⟩) hHeld ?_
      rotate_left
      · (intro W hSW; go_simp; try with_reducible rfl)
      try simp only [Act.put, List.setIfInBounds_toArray, List.set_cons_zero, List.set_cons_succ]
      refine wpAnyH_take (i := 2) (v := ?_) (ops_atL rfl) (by kernel_rfl) (by kernel_rfl) (by kernel_rfl) (fun _ _ _ h => h) (Or.inl ⟨by rfl, ?_⟩) hHeld ?_
      rotate_left
      · (intro W hSW; have c0 : W.cell? ⟨G, 0, none⟩ = some (.int .i64 (a : Int)) := hSW 0 _ rfl; go_simp; try with_reducible rfl)
      try simp only [Act.put, List.setIfInBounds_toArray, List.set_cons_zero, List.set_cons_succ]
      refine wpAnyH_take (i := 3) (v := ?_) (ops_atL rfl) (by kernel_rfl) (by kernel_rfl) (by kernel_rfl) (fun _ _ _ h => h) (Or.inl ⟨by rfl, ?_⟩) hHeld ?_
      rotate_left
      · (intro W hSW; go_simp; try with_reducible rfl)
      try simp only [Act.put, List.setIfInBounds_toArray, List.set_cons_zero, List.set_cons_succ]
      refine wpAnyH_take (i := 4) (v := ?_) (ops_atL rfl) (by kernel_rfl) (by kernel_rfl) (by kernel_rfl) (fun _ _ _ h => h) (Or.inl ⟨by rfl, ?_⟩) hHeld ?_
      rotate_left
      · (intro W hSW; have c2 : W.cell? ⟨G, 2, none⟩ = some (.int .i64 (e : Int)) := hSW 2 _ rfl; go_simp; try with_reducible rfl)
      try simp only [Act.put, List.setIfInBounds_toArray, List.set_cons_zero, List.set_cons_succ]
      refine wpAnyH_ready (rs := [5]) (by kernel_rfl) (by simp) ?_
      refine AllReadyH.cons (ops_atL rfl) (fun K hK => ?_) AllReadyH.nil
      rw [if_pos (by rfl)]
      refine wp_store_mid 85 (.tmp 2) (.tmp 12) rfl w.heap.size 0 (listV []).toArray rfl rfl ?th (by kernel_rfl) (all_oneCell_toArray (listV_one [])) ?_
      case th => exact HRV.out.1.drew.thereA (listV []) (listV_len2 (by simp) (by rw [List.length_map]; exact HLEN.out))
      have hS5 : (W.drew.setCells w.heap.size 0 (listV [])).rangeAt G 0 (part3 a n e) := World.rangeAt_setCells_apart hHeld _ _ _ (.inl (by omega))
      refine hK.out _ _ hS5 (fun _ => ?_)
      clear hK K hHeld
      try simp only [Act.put, List.setIfInBounds_toArray, List.set_cons_zero, List.set_cons_succ]
      refine anyH_gen (fun V => RV V w.heap.size [] 0 0 ∧ Below w.heap.size w V ∧ KeepsOthers W V ∧ V.rangeAt G 0 (part3 a n e)) ⟨⟨HRV.out.1.drew.sets (listV []) (listV_len2 (by simp) (by rw [List.length_map]; exact HLEN.out)), HRV.out.2.1.drew.sets_other _ _ _ (.inl (by omega)), HRV.out.2.2.drew.sets_other _ _ _ (.inl (by omega))⟩, below_setCells _ (Nat.le_refl _) _ _ _ HB.out.drew, keeps_setCells _ _ _ (KeepsOthers.drew W), hS5⟩ ?_
      rintro X ⟨hXR, hXB, hXK, hHeld⟩
      have d1 : X.cell? ⟨w.heap.size + 1, 0, none⟩ = some (.int .i64 0) := hXR.2.1.cell0 (i := 0) rfl
      have g1 := hXR.2.1.frozen0 (i := 0) (by simp)
      have d2 : X.cell? ⟨w.heap.size + 1 + 1, 0, none⟩ = some (.int .i64 0) := hXR.2.2.cell0 (i := 0) rfl
      have g2 : X.frozen? ⟨w.heap.size + 1 + 1, 0, none⟩ = false := hXR.2.2.frozen0 (i := 0) (by simp)
      refine wpAnyH_ready (rs := [6]) (by kernel_rfl) (by simp) ?_
      refine AllReadyH.cons (ops_atL rfl) (fun K hK => ?_) AllReadyH.nil
      go_simp
      have hS6 : (X.setCell ⟨w.heap.size + 1, 0, none⟩ (.int .i64 (a : Int))).rangeAt G 0 (part3 a n e) := fun j v hv => by
        rw [World.cell?_setCell_other _ _ _ _ (by intro e; injection e with e1 _; omega)]; exact hHeld j v hv
      refine hK.out _ _ hS6 (fun _ => ?_)
      clear hK K
      try simp only [Act.put, List.setIfInBounds_toArray, List.set_cons_zero, List.set_cons_succ]
      refine wpAnyH_ready (rs := [7]) (by kernel_rfl) (by simp) ?_
      refine AllReadyH.cons (ops_atL rfl) (fun K hK => ?_) AllReadyH.nil
      go_simp
      refine hK.out _ _ (fun j v hv => by
        rw [World.cell?_setCell_other _ _ _ _ (by intro e; injection e with e1 _; omega)]; exact hS6 j v hv) (fun _ => ?_)
      clear hK K
      try simp only [Act.put, List.setIfInBounds_toArray, List.set_cons_zero, List.set_cons_succ]
      refine wpAnyH_done (by kernel_rfl) ?_ _
      gi_wp2
      have h1 := hXR.1
      have h2 := hXR.2.1.set0 (i := 0) (by simp) (iv a)
      have h3 := (hXR.2.2.other (p := ⟨w.heap.size + 1, 0, none⟩) (iv a) (.inl (by show w.heap.size + 1 ≠ w.heap.size + 2; omega))).set0 (i := 0) (by simp) (iv e)
      refine ⟨(hXK.trans (KeepsOthers.setCell _ _ _)).trans (KeepsOthers.setCell _ _ _), pre, (a, n, e), rfl, HPRE.out, HE.out, ⟨?_, ?_, ?_⟩, (hXB.setCell (p := ⟨w.heap.size + 1, 0, none⟩) (by show w.heap.size ≤ w.heap.size + 1; omega) _).setCell (p := ⟨w.heap.size + 1 + 1, 0, none⟩) (by show w.heap.size ≤ w.heap.size + 1 + 1; omega) _⟩
      · exact (h1.other _ (.inl (by show w.heap.size + 1 ≠ w.heap.size; omega))).other _ (.inl (by show w.heap.size + 1 + 1 ≠ w.heap.size; omega))
      · exact h2.other _ (.inl (by show w.heap.size + 1 + 1 ≠ w.heap.size + 1; omega))
      · exact h3
  case done =>
    rintro D W hD ⟨hall, hRV, hB⟩ hK
    obtain ⟨o, ho⟩ : ∃ o, o = (partsL S.data.toList).map fun y => y.2.1 := ⟨_, rfl⟩
    have hRo : R = (o, 0, 0) := by rw [HR.out, ho]; exact partsL_all hall
    rw [← ho] at hRV
    have HLEN : Hid (o.length ≤ 8) := Lib.hid (by rw [ho, List.length_map]; exact partsL_short hall)
    have hDw : w.heap.size ≤ D := by omega
    have HRV := Lib.hid hRV
    have HB := Lib.hid hB
    have HK := Lib.hid hK
    have HL : Hid (W.rangeAt w.heap.size 0 (listV o)) := Lib.hid hRV.1.1
    have HT : Hid (W.there w.heap.size 0 (listV o).toArray.size) := Lib.hid (hRV.1.thereA (listV o) rfl)
    have HI : Hid ((Tryd.prog.info? 85).map (·.size) = some (listV o).length) := Lib.hid (by rw [listV_length HLEN.out]; kernel_rfl)
    have HIA : Hid ((Tryd.prog.info? 85).map (·.size) = some (listV o).toArray.size) := Lib.hid (by rw [List.size_toArray, listV_length HLEN.out]; kernel_rfl)
    have HO1 : Hid ((listV o).toArray.all Value.oneCell' = true) := Lib.hid (all_oneCell_toArray (listV_one o))
    obtain ⟨W2, hW2⟩ : ∃ W2, W2 = W.setCells w.heap.size 0 (listV o) := ⟨_, rfl⟩
    have hR2 : RV W2 w.heap.size o 0 0 := by rw [hW2]; exact ⟨hRV.1.sets (listV o) rfl, hRV.2.1.sets_other _ _ _ (.inl (by omega)), hRV.2.2.sets_other _ _ _ (.inl (by omega))⟩
    have hB2 : Below w.heap.size w W2 := by rw [hW2]; exact below_setCells _ (Nat.le_refl _) _ _ _ hB
    have hK2 : W2.heap[D]? = some (.deferred (some [])) := by rw [hW2]; exact (keeps_setCells _ _ _ (KeepsOthers.refl W)).same D _ hK rfl
    have d1 : W2.cell? ⟨w.heap.size + 1, 0, none⟩ = some (.int .i64 0) := hR2.2.1.cell0 (i := 0) rfl
    have g1 := hR2.2.1.frozen0 (i := 0) (by simp)
    have d2 : W2.cell? ⟨w.heap.size + 1 + 1, 0, none⟩ = some (.int .i64 0) := hR2.2.2.cell0 (i := 0) rfl
    have g2 : W2.frozen? ⟨w.heap.size + 1 + 1, 0, none⟩ = false := hR2.2.2.frozen0 (i := 0) (by simp)
    have HW := Lib.hid hW2
    have HR2 := Lib.hid hR2
    have HB2 := Lib.hid hB2
    have HK2 := Lib.hid hK2
    clear hRV hB hK hall ho hW2 hR2 hB2 hK2 hV hVs hVb hVz
    rename_i K1 hK1
    refine hK1 _ _ (wpIn_wide.2 ?_)
    clear hK1
    go_wp2_with (first
      | (refine wpList_load_mid (by rfl) 85 (.tmp 2) (by rfl) w.heap.size 0 (by rfl) (listV o) _ HL.out Tryd.underlying85 rfl HI.out ?_)
      | (refine wpList_store_mid (by rfl) 85 (.tmp 2) (.tmp 27) (by rfl) w.heap.size 0 (listV o).toArray (by rfl) (by rfl) HT.out HIA.out HO1.out ?_; rw [← HW.out]))
    have hR3 : RV ((W2.setCell ⟨w.heap.size + 1, 0, none⟩ (.int .i64 0)).setCell ⟨w.heap.size + 1 + 1, 0, none⟩ (.int .i64 0)) w.heap.size o 0 0 :=
      ⟨(HR2.out.1.other _ (.inl (by show w.heap.size + 1 ≠ w.heap.size; omega))).other _ (.inl (by show w.heap.size + 1 + 1 ≠ w.heap.size; omega)), (HR2.out.2.1.set0 (i := 0) (by simp) (iv 0)).other _ (.inl (by show w.heap.size + 1 + 1 ≠ w.heap.size + 1; omega)),
        (HR2.out.2.2.other (p := ⟨w.heap.size + 1, 0, none⟩) (iv 0) (.inl (by show w.heap.size + 1 ≠ w.heap.size + 2; omega))).set0 (i := 0) (by simp) (iv 0)⟩
    have hK3 := ((KeepsOthers.setCell W2 ⟨w.heap.size + 1, 0, none⟩ (.int .i64 0)).trans (KeepsOthers.setCell _ ⟨w.heap.size + 1 + 1, 0, none⟩ (.int .i64 0))).same D _ HK2.out rfl
    have hB3 := (HB2.out.setCell (p := ⟨w.heap.size + 1, 0, none⟩) (by show w.heap.size ≤ w.heap.size + 1; omega) (.int .i64 0)).setCell (p := ⟨w.heap.size + 1 + 1, 0, none⟩) (by show w.heap.size ≤ w.heap.size + 1 + 1; omega) (.int .i64 0)
    refine ⟨by simp, .inl ⟨_, _, rfl, run_takeDeferred hK3, ?_⟩⟩
    have hR4 := hR3.kept (grownBy_putObj' _ D (.deferred none)) (fun r e => by cases e; exact ⟨_, hK3, rfl⟩)
    have hB4 := hB3.grown (grownBy_putObj' _ D (.deferred none)) hB3.size (fun k e => by cases e; exact hDw)
    refine ⟨_, results_cell3 rfl _ _ w.heap.size (listV o) _ (iv 0) (iv 0) rfl rfl rfl hR4.1 (hR4.2.1.cell0 (i := 0) rfl) (hR4.2.2.cell0 (i := 0) rfl) Tryd.underlying85 rfl HI.out Tryd.underlying3 Tryd.underlying24, ?_, hB4⟩
    rw [hRo]
  case stop =>
    rintro D pre W hD hpx ⟨q, x, rfl, hq, hx, hRV, hB⟩ hK
    have hR := HR.out.trans (partsL_bad hpx hx hq)
    gi_wp2
    refine ⟨by simp, .inl ⟨_, _, rfl, run_takeDeferred hK, ?_⟩⟩
    have hR4 := hRV.kept (grownBy_putObj' _ D (.deferred none)) (fun r e => by cases e; exact ⟨_, hK, rfl⟩)
    have hB4 := hB.grown (grownBy_putObj' _ D (.deferred none)) hB.size (fun k e => by cases e; omega)
    refine ⟨_, results_cell3 rfl _ _ w.heap.size (listV []) _ (iv x.1) (iv x.2.2) rfl rfl rfl hR4.1 (hR4.2.1.cell0 (i := 0) rfl) (hR4.2.2.cell0 (i := 0) rfl) Tryd.underlying85 rfl (by kernel_rfl) Tryd.underlying3 Tryd.underlying24, ?_, hB4⟩
    rw [hR]
end Go.Proofs.YtdfenaoddbdppaaDoor
