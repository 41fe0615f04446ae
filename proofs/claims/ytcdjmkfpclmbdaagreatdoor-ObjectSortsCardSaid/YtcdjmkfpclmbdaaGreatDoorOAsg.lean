/- A drawn region 'x, y, .. := f(a), f(b), ..': k loads, k calls, k blocks, k stores, in whatever order: by an invariant. -/
import Derived.Test.YtcdjmkfpclmbdaaGreatDoorORead
import Derived.Deep.RegionWith
set_option linter.unusedVariables false
namespace Go.Proofs.YtcdjmkfpclmbdaaGreatDoor
open Go.RowKit

theorem filt_lt {α : Type} (p q : α → Bool) : ∀ (xs : List α) (i : α), i ∈ xs → p i = true → q i = false → (∀ x ∈ xs, q x = true → p x = true) → (xs.filter q).length < (xs.filter p).length
  | x :: xs, i, hi, hp, hq, h => by
    have hle : ∀ ys : List α, (∀ x ∈ ys, q x = true → p x = true) → (ys.filter q).length ≤ (ys.filter p).length := by
      intro ys
      induction ys with
      | nil => intro _; exact Nat.le_refl _
      | cons y ys ih =>
        intro hy
        have := ih (fun z hz => hy z (List.mem_cons_of_mem _ hz))
        cases hqy : q y
        · cases hpy : p y <;> simp [hqy, hpy] <;> omega
        · simp [hqy, hy y List.mem_cons_self hqy]; omega
    have hr : ∀ z ∈ xs, q z = true → p z = true := fun z hz => h z (List.mem_cons_of_mem _ hz)
    rcases List.mem_cons.1 hi with rfl | hm
    · have := hle xs hr
      simp [hp, hq]; omega
    · have := filt_lt p q xs i hm hp hq hr
      cases hqy : q x
      · cases hpy : p x <;> simp [hqy, hpy] <;> omega
      · simp [hqy, h x List.mem_cons_self hqy]; omega

section
variable {P : Program} {md : Region.Mode} {ops : Array Oper} {Q : Exit → Act → World → Prop}
theorem wpAny_inv (Inv : Array Bool → Act → World → Prop) (hsz : ∀ l a w, Inv l a w → l.size = ops.size)
    (hd : ∀ l a w, Inv l a w → Region.ready md ops l = [] → Q .normal a w)
    (hs : ∀ l a w i, Inv l a w → i ∈ Region.ready md ops l → wpOp P ops Q i (fun a' w' => Inv (l.setIfInBounds i true) a' w') a w) :
    ∀ (fuel : Nat) (l : Array Bool) (a : Act) (w : World), Inv l a w → ((List.range ops.size).filter (fun i => !l.getD i true)).length ≤ fuel → wpAny P md ops Q fuel l a w
  | 0, l, a, w, h, hf => by
    have hr : Region.ready md ops l = [] := by
      have h0 := List.eq_nil_of_length_eq_zero (Nat.le_zero.1 hf)
      rw [List.filter_eq_nil_iff] at h0
      unfold Region.ready
      rw [List.filter_eq_nil_iff]
      intro i hi hc
      rw [Bool.and_eq_true] at hc
      exact h0 i hi hc.1
    exact ⟨hr, hd l a w h hr⟩
  | fuel + 1, l, a, w, h, hf => by
    refine ⟨hd l a w h, fun i hi => wpOp_mono (fun a' w' h' => ?_) (hs l a w i h hi)⟩
    refine wpAny_inv Inv hsz hd hs fuel _ a' w' h' ?_
    have h1 := (mem_ready.1 hi)
    have hlt : i < ops.size := by
      obtain ⟨_, o, ho, _⟩ := h1
      exact (Array.getElem?_eq_some_iff.1 ho).1
    have hl : i < l.size := by rw [hsz l a w h]; exact hlt
    have := filt_lt (fun i => !l.getD i true) (fun j => !(l.setIfInBounds i true).getD j true) (List.range ops.size) i (List.mem_range.2 hlt) (by simp only [h1.1, Bool.not_false]) (by simp [hl]) (fun x _ hx => by
      by_cases hxi : i = x
      · subst hxi; simp [hl] at hx
      · rwa [getD_set_ne true hxi] at hx)
    omega

/-- All are listed when none is ready. -/
theorem all_listed (l : Array Bool) (hl : l.size = ops.size) (hw : (List.range ops.size).all (fun i => (ops[i]?).all fun o => o.after.all fun e => !Region.binds md e || decide (e.on < i)) = true)
    (hr : Region.ready md ops l = []) : ∀ i, i < ops.size → l.getD i false = true := by
  intro i
  induction i using Nat.strongRecOn with
  | _ i ih =>
    intro hi
    cases hc : l.getD i false with
    | true => rfl
    | false =>
      have hil : i < l.size := by omega
      have : i ∈ Region.ready md ops l := by
        refine mem_ready.2 ⟨?_, ops[i], Array.getElem?_eq_getElem hi, fun e he hb => ?_⟩
        · simp [hil] at hc ⊢; exact hc
        · have h1 := List.all_eq_true.1 hw i (List.mem_range.2 hi)
          rw [Array.getElem?_eq_getElem hi] at h1
          simp only [Option.all_some] at h1
          have h2 := (Array.all_eq_true_iff_forall_mem.1 h1) e he
          rw [hb] at h2
          have h3 : e.on < i := by simpa using h2
          exact ih e.on h3 (by omega)
      rw [hr] at this; cases this

theorem dep {l : Array Bool} {i k : Nat} {o : Oper} (hi : i ∈ Region.ready md ops l) (ho : ops[i]? = some o) (hk : (o.after.any fun e => Region.binds md e && e.on == k) = true) : l.getD k false = true := by
  obtain ⟨_, o', ho', hall⟩ := mem_ready.1 hi
  rw [ho] at ho'
  obtain rfl := Option.some.inj ho'
  obtain ⟨e, he, hb⟩ := Array.any_eq_true'.1 hk
  rw [Bool.and_eq_true] at hb
  have := hall e he hb.1
  rwa [eq_of_beq hb.2] at this

theorem wpOp_go {i : Nat} {o : Oper} {K : Act → World → Prop} {a : Act} {w : World} (ho : ops[i]? = some o) (hg : o.guard = none) (h : o.wp P a w K Q) : wpOp P ops Q i K a w := by
  refine wpOp_step ho (fun K' hK => ?_)
  have hw : Region.wanted o (yielded ops a.tmps) = true := by unfold Region.wanted; rw [hg]
  rw [if_pos hw]
  exact Oper.wp_mono hK h
end

/-! ### Slots of an act -/
def upd (σ : Nat → Value) (s : Nat) (v : Value) : Nat → Value := fun i => if i = s then v else σ i
theorem upd_same (σ : Nat → Value) (s : Nat) (v : Value) : upd σ s v s = v := if_pos rfl
theorem upd_ne (σ : Nat → Value) {s i : Nat} (v : Value) (h : i ≠ s) : upd σ s v i = σ i := if_neg h
def puts (a : Act) : List Nat → (Nat → Value) → Act
  | [], _ => a
  | s :: L, σ => (puts a L σ).put (some s) (σ s)
theorem puts_congr (a : Act) {σ τ : Nat → Value} : ∀ (L : List Nat), (∀ s ∈ L, σ s = τ s) → puts a L σ = puts a L τ
  | [], _ => rfl
  | s :: L, h => by rw [puts, puts, puts_congr a L (fun x hx => h x (List.mem_cons_of_mem _ hx)), h s List.mem_cons_self]
theorem put_put (a : Act) (s : Nat) (u v : Value) : (a.put (some s) u).put (some s) v = a.put (some s) v := by
  simp [Act.put]
theorem puts_put (a : Act) (σ : Nat → Value) (s : Nat) (v : Value) : ∀ (L : List Nat), s ∈ L → L.Nodup → (puts a L σ).put (some s) v = puts a L (upd σ s v)
  | x :: L, hm, hn => by
    rw [List.nodup_cons] at hn
    by_cases hx : s = x
    · subst hx
      rw [puts, puts, put_put, upd_same, puts_congr a (σ := σ) (τ := upd σ s v) L (fun y hy => (upd_ne σ v (fun e => hn.1 (by rw [← e]; exact hy))).symm)]
    · have hm' : s ∈ L := (List.mem_cons.1 hm).resolve_left hx
      rw [puts, puts, Act.put_comm _ _ _ (fun d hd => by cases hd; intro e; exact hx (Option.some.inj e)), puts_put a σ s v L hm' hn.2, upd_ne σ v (Ne.symm hx)]
theorem puts_size (a : Act) (σ : Nat → Value) : ∀ (L : List Nat), (puts a L σ).tmps.size = a.tmps.size
  | [] => rfl
  | s :: L => by rw [puts]; simp [Act.put, puts_size a σ L]
theorem eval_put_same (a : Act) (s : Nat) (v : Value) (h : s < a.tmps.size) : (a.put (some s) v).eval (.tmp s) = v := by
  simp [Act.put, Act.eval, h]
theorem puts_in (a : Act) (σ : Nat → Value) (s : Nat) (h : s < a.tmps.size) : ∀ (L : List Nat), s ∈ L → (puts a L σ).eval (.tmp s) = σ s
  | x :: L, hm => by
    rw [puts]
    by_cases hx : s = x
    · subst hx; exact eval_put_same _ _ _ (by rw [puts_size]; exact h)
    · rw [Act.eval_put (fun d hd => by cases hd; intro e; exact hx (Operand.tmp.inj e))]
      exact puts_in a σ s h L ((List.mem_cons.1 hm).resolve_left hx)
theorem puts_out (a : Act) (σ : Nat → Value) (s : Nat) : ∀ (L : List Nat), s ∉ L → (puts a L σ).eval (.tmp s) = a.eval (.tmp s)
  | [], _ => rfl
  | x :: L, hm => by
    rw [puts, Act.eval_put (fun d hd => by cases hd; intro e; exact hm (by rw [Operand.tmp.inj e]; exact List.mem_cons_self))]
    exact puts_out a σ s L (fun h => hm (List.mem_cons_of_mem _ h))
theorem puts_self (a : Act) : ∀ (L : List Nat), (∀ s ∈ L, s < a.tmps.size) → puts a L (fun s => a.eval (.tmp s)) = a
  | [], _ => rfl
  | s :: L, h => by
    rw [puts, puts_self a L (fun x hx => h x (List.mem_cons_of_mem _ hx))]
    have hs := h s List.mem_cons_self
    have e : a.tmps.setIfInBounds s (a.eval (.tmp s)) = a.tmps := by
      apply Array.ext
      · simp
      · intro i h1 h2
        rw [Array.getElem_setIfInBounds]
        split
        · next he => subst he; simp [Act.eval, h2]
        · rfl
    show { a with tmps := _ } = a
    rw [e]

/-! ### The invariant of 'x, y, .. := f(a), f(b), ..' -/
theorem flag_set {l : Array Bool} {i m : Nat} (hi : i < l.size) : (l.setIfInBounds i true).getD m false = true ↔ m = i ∨ l.getD m false = true := by
  by_cases h : i = m
  · subst h; simp [hi]
  · rw [getD_set_ne false h]; simp [Ne.symm h]

/-- The slots: k variables from d on, 2 k temporaries from t on. -/
def asgL (d t k : Nat) : List Nat := List.range' d k ++ List.range' t (2 * k)
theorem asgL_mem {d t k s : Nat} : s ∈ asgL d t k ↔ (d ≤ s ∧ s < d + k) ∨ (t ≤ s ∧ s < t + 2 * k) := by
  unfold asgL; simp [List.mem_range'_1]
theorem asgL_nodup {d t k : Nat} (h : d + k ≤ t) : (asgL d t k).Nodup := by
  unfold asgL
  rw [List.nodup_append]
  refine ⟨List.nodup_range', List.nodup_range', fun a ha b hb => ?_⟩
  rw [List.mem_range'_1] at ha hb
  omega

structure AsgInv (V0 : World) (a0 : Act) (k d t : Nat) (B : Nat → Nat) (S T : TypeId) (src res : Nat → Array Value) (l : Array Bool) (a : Act) (V : World) : Prop where
  size : l.size = 4 * k
  box : ∀ j, j < k → Blk V (B j) S (src j)
  bel : Below V0.heap.size V0 V
  ord : ∀ j, j < k → l.getD (3 * k + j) false = true → l.getD (2 * k + j) false = true
  act : ∃ σ, a = puts a0 (asgL d t k) σ ∧
    (∀ j, j < k → l.getD (2 * j) false = true → σ (t + 2 * j) = .agg (src j)) ∧
    (∀ j, j < k → l.getD (2 * j + 1) false = true → σ (t + 2 * j + 1) = .agg (res j)) ∧
    (∀ j, j < k → l.getD (2 * k + j) false = true → ∃ g cs, σ (d + j) = .pointer (some ⟨g, 0, none⟩) ∧ V0.heap.size ≤ g ∧ Blk V g T cs ∧ cs.size = (res j).size ∧ (l.getD (3 * k + j) false = true → cs = res j)) ∧
    (∀ j j', j < k → j' < k → j ≠ j' → l.getD (2 * k + j) false = true → l.getD (2 * k + j') false = true → σ (d + j) ≠ σ (d + j'))

theorem Blk.set_ne {w : World} {g g' : Nat} {t : TypeId} {cs : Array Value} (h : Blk w g t cs) (hne : g' ≠ g) (vs : List Value) : Blk (w.setCells g' 0 vs) g t cs :=
  (heap_setCells g' g (Ne.symm hne) vs 0 w).trans h
theorem Blk.sets {g : Nat} {t : TypeId} : ∀ (vs : List Value) (o : Nat) (w : World) (cs : Array Value), Blk w g t cs → ∃ cs', Blk (w.setCells g o vs) g t cs' ∧ cs'.size = cs.size
  | [], _, _, cs, h => ⟨cs, h, rfl⟩
  | v :: r, o, w, cs, h => by
    obtain ⟨cs', h1, h2⟩ := Blk.sets r (o + 1) (w.setCell ⟨g, o, none⟩ v) _ (h.set_ o v)
    exact ⟨cs', h1, by rw [h2, Array.size_setIfInBounds]⟩
theorem Blk.set_eq {w : World} {g : Nat} {t : TypeId} {cs vs : Array Value} (h : Blk w g t cs) (hs : cs.size = vs.size) : Blk (w.setCells g 0 vs.toList) g t vs := by
  obtain ⟨cs', h1, h2⟩ := Blk.sets vs.toList 0 w cs h
  have e : cs' = vs := by
    apply Array.ext (by omega)
    intro i hi1 hi2
    have h3 := World.cell?_setCells_in g vs.toList 0 w (fun j hj => by rw [h.cell, Nat.zero_add, Array.getElem?_eq_getElem (by rw [hs]; simpa using hj)]; rfl) i (by simpa using hi2)
    rw [h1.cell, Nat.zero_add, Array.getElem?_eq_getElem hi1] at h3
    simpa using Option.some.inj h3
  subst e; exact h1

section
variable {P : Program} {ops : Array Oper} {Q : Exit → Act → World → Prop}
set_option maxHeartbeats 1000000 in
theorem asg_step (V0 : World) (a0 : Act) (k d t p : Nat) (B : Nat → Nat) (S T : TypeId) (dS : TypeDesc) (src res : Nat → Array Value) (z : Array Value)
    (hn : ops.size = 4 * k) (hp : p + k ≤ d) (hdt : d + k ≤ t) (hts : t + 2 * k ≤ a0.tmps.size)
    (hB : ∀ j, j < k → a0.eval (.tmp (p + j)) = .pointer (some ⟨B j, 0, none⟩)) (hBl : ∀ j, j < k → B j < V0.heap.size)
    (hS : P.underlying S = some dS) (hSr : dS.isRow = true) (hSi : ∀ j, j < k → (P.info? S).map (·.size) = some (src j).size)
    (hTi : ∀ j, j < k → (P.info? T).map (·.size) = some (res j).size) (hT1 : ∀ j, j < k → (res j).all (·.oneCell') = true) (hz : ∀ j, j < k → z.size = (res j).size)
    (hL : ∀ j, j < k → ∃ o, ops[2 * j]? = some o ∧ o.guard = none ∧ o.dst = some (t + 2 * j) ∧ o.op = .load S (.tmp (p + j)))
    (hC : ∀ j, j < k → ∃ o, ops[2 * j + 1]? = some o ∧ o.guard = none ∧ (o.after.any fun e => Region.binds .any e && e.on == 2 * j) = true ∧
      ∀ a V K, a.eval (.tmp (t + 2 * j)) = .agg (src j) → (∀ V', Below V.heap.size V V' → K (a.put (some (t + 2 * j + 1)) (.agg (res j))) V') → o.wp P a V K Q)
    (hA : ∀ j, j < k → ∃ o, ops[2 * k + j]? = some o ∧ o.guard = none ∧ ∀ a V K, K (a.put (some (d + j)) (.pointer (some ⟨V.heap.size, 0, none⟩))) (V.alloc (.cells z T)) → o.wp P a V K Q)
    (hR : ∀ j, j < k → ∃ o, ops[3 * k + j]? = some o ∧ o.guard = none ∧ o.dst = none ∧ o.op = .store T (.tmp (d + j)) (.tmp (t + 2 * j + 1)) ∧
      (o.after.any fun e => Region.binds .any e && e.on == 2 * j + 1) = true ∧ (o.after.any fun e => Region.binds .any e && e.on == 2 * k + j) = true)
    (l : Array Bool) (a : Act) (V : World) (i : Nat) (h : AsgInv V0 a0 k d t B S T src res l a V) (hi : i ∈ Region.ready .any ops l) :
    wpOp P ops Q i (fun a' V' => AsgInv V0 a0 k d t B S T src res (l.setIfInBounds i true) a' V') a V := by
  obtain ⟨hl, hbox, hbel, hord, σ, rfl, h1, h2, h3, h4⟩ := h
  have hil : i < ops.size := by
    obtain ⟨_, o, ho, _⟩ := mem_ready.1 hi
    exact (Array.getElem?_eq_some_iff.1 ho).1
  have hi' : i < l.size := by omega
  have hnd := asgL_nodup (k := k) hdt
  have ev : ∀ s, s ∈ asgL d t k → (puts a0 (asgL d t k) σ).eval (.tmp s) = σ s := fun s hs => puts_in a0 σ s (by rw [asgL_mem] at hs; omega) _ hs
  have hfl : ∀ m, (l.setIfInBounds i true).getD m false = true ↔ m = i ∨ l.getD m false = true := fun m => flag_set hi'
  by_cases c1 : i < 2 * k
  · by_cases c2 : i % 2 = 0
    · -- a load
      obtain ⟨j, rfl⟩ : ∃ j, i = 2 * j := ⟨i / 2, by omega⟩
      have hj : j < k := by omega
      obtain ⟨o, ho, hg, hd, hop⟩ := hL j hj
      have hm : t + 2 * j ∈ asgL d t k := asgL_mem.2 (.inr (by omega))
      refine wpOp_go ho hg (wp_load_mid S (.tmp (p + j)) hop (B j) 0 ?_ (src j).toList dS (hbox j hj).range hS hSr (by rw [hSi j hj]; simp) ?_)
      · rw [puts_out a0 σ _ _ (fun hc => by rw [asgL_mem] at hc; omega)]; exact hB j hj
      · rw [hd, puts_put a0 σ _ _ _ hm hnd]
        refine ⟨by simpa using hl, hbox, hbel, fun j' hj' hf => (hfl _).2 (.inr (hord j' hj' (((hfl _).1 hf).resolve_left (by omega)))), _, rfl, fun j' hj' hf => ?_, fun j' hj' hf => ?_, fun j' hj' hf => ?_, fun j1 j2 hj1 hj2 hne hf1 hf2 => ?_⟩
        · by_cases e : j' = j
          · subst e; rw [upd_same, Array.toArray_toList]
          · rw [upd_ne _ _ (by omega)]; exact h1 j' hj' (((hfl _).1 hf).resolve_left (by omega))
        · rw [upd_ne _ _ (by omega)]; exact h2 j' hj' (((hfl _).1 hf).resolve_left (by omega))
        · rw [upd_ne _ _ (by omega)]
          obtain ⟨g, cs, q1, q2, q3, q4, q5⟩ := h3 j' hj' (((hfl _).1 hf).resolve_left (by omega))
          exact ⟨g, cs, q1, q2, q3, q4, fun hr => q5 (((hfl _).1 hr).resolve_left (by omega))⟩
        · rw [upd_ne _ _ (by omega), upd_ne _ _ (by omega)]
          exact h4 j1 j2 hj1 hj2 hne (((hfl _).1 hf1).resolve_left (by omega)) (((hfl _).1 hf2).resolve_left (by omega))
    · -- a call
      obtain ⟨j, rfl⟩ : ∃ j, i = 2 * j + 1 := ⟨i / 2, by omega⟩
      have hj : j < k := by omega
      obtain ⟨o, ho, hg, hdep, hcall⟩ := hC j hj
      have hm : t + 2 * j + 1 ∈ asgL d t k := asgL_mem.2 (.inr (by omega))
      refine wpOp_go ho hg (hcall _ _ _ ?_ (fun V' hb => ?_))
      · rw [ev _ (asgL_mem.2 (.inr (by omega)))]; exact h1 j hj (dep hi ho hdep)
      · rw [puts_put a0 σ _ _ _ hm hnd]
        refine ⟨by simpa using hl, fun j hj => (hbox j hj).under hb, hbel.trans (hb.mono hbel.size), fun j' hj' hf => (hfl _).2 (.inr (hord j' hj' (((hfl _).1 hf).resolve_left (by omega)))), _, rfl, fun j' hj' hf => ?_, fun j' hj' hf => ?_, fun j' hj' hf => ?_, fun j1 j2 hj1 hj2 hne hf1 hf2 => ?_⟩
        · rw [upd_ne _ _ (by omega)]; exact h1 j' hj' (((hfl _).1 hf).resolve_left (by omega))
        · by_cases e : j' = j
          · subst e; rw [upd_same]
          · rw [upd_ne _ _ (by omega)]; exact h2 j' hj' (((hfl _).1 hf).resolve_left (by omega))
        · rw [upd_ne _ _ (by omega)]
          obtain ⟨g, cs, q1, q2, q3, q4, q5⟩ := h3 j' hj' (((hfl _).1 hf).resolve_left (by omega))
          exact ⟨g, cs, q1, q2, q3.under hb, q4, fun hr => q5 (((hfl _).1 hr).resolve_left (by omega))⟩
        · rw [upd_ne _ _ (by omega), upd_ne _ _ (by omega)]
          exact h4 j1 j2 hj1 hj2 hne (((hfl _).1 hf1).resolve_left (by omega)) (((hfl _).1 hf2).resolve_left (by omega))
  · by_cases c3 : i < 3 * k
    · -- a block
      obtain ⟨j, rfl⟩ : ∃ j, i = 2 * k + j := ⟨i - 2 * k, by omega⟩
      have hj : j < k := by omega
      obtain ⟨o, ho, hg, hal⟩ := hA j hj
      have hm : d + j ∈ asgL d t k := asgL_mem.2 (.inl (by omega))
      have hun : l.getD (2 * k + j) true = false := (mem_ready.1 hi).1
      refine wpOp_go ho hg (hal _ _ _ ?_)
      rw [puts_put a0 σ _ _ _ hm hnd]
      refine ⟨by simpa using hl, fun j hj => (hbox j hj).alloc _, hbel.alloc hbel.size _, fun j' hj' hf => (hfl _).2 (.inr (hord j' hj' (((hfl _).1 hf).resolve_left (by omega)))), _, rfl, fun j' hj' hf => ?_, fun j' hj' hf => ?_, fun j' hj' hf => ?_, fun j1 j2 hj1 hj2 hne hf1 hf2 => ?_⟩
      · rw [upd_ne _ _ (by omega)]; exact h1 j' hj' (((hfl _).1 hf).resolve_left (by omega))
      · rw [upd_ne _ _ (by omega)]; exact h2 j' hj' (((hfl _).1 hf).resolve_left (by omega))
      · by_cases e : j' = j
        · subst e
          refine ⟨V.heap.size, z, upd_same _ _ _, hbel.size, Blk.new _ _ _, hz j' hj', fun hr => ?_⟩
          exfalso
          have h5 := hord j' hj' (((hfl _).1 hr).resolve_left (by omega))
          have h6 : (2 * k + j') < l.size := by omega
          simp [h6] at hun h5
          rw [hun] at h5; cases h5
        · rw [upd_ne _ _ (by omega)]
          obtain ⟨g, cs, q1, q2, q3, q4, q5⟩ := h3 j' hj' (((hfl _).1 hf).resolve_left (by omega))
          exact ⟨g, cs, q1, q2, q3.alloc _, q4, fun hr => q5 (((hfl _).1 hr).resolve_left (by omega))⟩
      · have key : ∀ jj, jj < k → jj ≠ j → l.getD (2 * k + jj) false = true → σ (d + jj) ≠ .pointer (some ⟨V.heap.size, 0, none⟩) := fun jj hjj hne hf => by
          obtain ⟨g, cs, q1, q2, q3, _, _⟩ := h3 jj hjj hf
          rw [q1]
          intro hc
          have hlt := q3.lt
          injection hc with hc; injection hc with hc; injection hc with hc
          omega
        by_cases e1 : j1 = j
        · subst e1
          rw [upd_same, upd_ne _ _ (by omega)]
          exact Ne.symm (key j2 hj2 (Ne.symm hne) (((hfl _).1 hf2).resolve_left (by omega)))
        · by_cases e2 : j2 = j
          · subst e2
            rw [upd_same, upd_ne _ _ (by omega)]
            exact key j1 hj1 e1 (((hfl _).1 hf1).resolve_left (by omega))
          · rw [upd_ne _ _ (by omega), upd_ne _ _ (by omega)]
            exact h4 j1 j2 hj1 hj2 hne (((hfl _).1 hf1).resolve_left (by omega)) (((hfl _).1 hf2).resolve_left (by omega))
    · -- a store
      obtain ⟨j, rfl⟩ : ∃ j, i = 3 * k + j := ⟨i - 3 * k, by omega⟩
      have hj : j < k := by omega
      obtain ⟨o, ho, hg, hd, hop, hd1, hd2⟩ := hR j hj
      have f1 := dep hi ho hd1
      have f2 := dep hi ho hd2
      obtain ⟨g, cs, q1, q2, q3, q4, q5⟩ := h3 j hj f2
      refine wpOp_go ho hg (wp_store_mid T (.tmp (d + j)) (.tmp (t + 2 * j + 1)) hop g 0 (res j) ?_ ?_ (by rw [← q4]; exact q3.there) (hTi j hj) (hT1 j hj) ?_)
      · rw [ev _ (asgL_mem.2 (.inl (by omega)))]; exact q1
      · rw [ev _ (asgL_mem.2 (.inr (by omega)))]; exact h2 j hj f1
      · rw [hd]
        show AsgInv _ _ _ _ _ _ _ _ _ _ _ (puts a0 (asgL d t k) σ) _
        refine ⟨by simpa using hl, fun j' hj' => (hbox j' hj').set_ne (by have := hBl j' hj'; omega) _, below_setCells _ q2 _ _ _ hbel, fun j' hj' hf => (hfl _).2 (.inr (((hfl _).1 hf).elim (fun he => (show j' = j by omega) ▸ f2) (hord j' hj'))), σ, rfl, fun j' hj' hf => ?_, fun j' hj' hf => ?_, fun j' hj' hf => ?_, fun j1 j2 hj1 hj2 hne hf1 hf2 => ?_⟩
        · exact h1 j' hj' (((hfl _).1 hf).resolve_left (by omega))
        · exact h2 j' hj' (((hfl _).1 hf).resolve_left (by omega))
        · have hf' := ((hfl _).1 hf).resolve_left (show ¬ 2 * k + j' = 3 * k + j by omega)
          by_cases e : j' = j
          · subst e
            exact ⟨g, res j', q1, q2, q3.set_eq q4, rfl, fun _ => rfl⟩
          · obtain ⟨g', cs', r1, r2, r3, r4, r5⟩ := h3 j' hj' hf'
            have hne : g ≠ g' := fun hc => h4 j' j hj' hj e hf' f2 (by rw [r1, q1, hc])
            exact ⟨g', cs', r1, r2, r3.set_ne hne _, r4, fun hr => r5 (((hfl _).1 hr).resolve_left (by omega))⟩
        · exact h4 j1 j2 hj1 hj2 hne (((hfl _).1 hf1).resolve_left (by omega)) (((hfl _).1 hf2).resolve_left (by omega))

theorem count_le (f : Nat → Bool) (n : Nat) : ((List.range n).filter f).length ≤ n := by
  have := List.length_filter_le f (List.range n)
  simpa using this

set_option maxHeartbeats 1000000 in
/-- The law. -/
theorem asg_region (id : Nat) (V0 : World) (a0 : Act) (k d t p : Nat) (B : Nat → Nat) (S T : TypeId) (dS : TypeDesc) (src res : Nat → Array Value) (z : Array Value)
    (hm : P.follows .mixedOrders = true) (hn : ops.size = 4 * k) (hp : p + k ≤ d) (hdt : d + k ≤ t) (hts : t + 2 * k ≤ a0.tmps.size)
    (hw : (List.range ops.size).all (fun i => (ops[i]?).all fun o => o.after.all fun e => !Region.binds .any e || decide (e.on < i)) = true)
    (hB : ∀ j, j < k → a0.eval (.tmp (p + j)) = .pointer (some ⟨B j, 0, none⟩)) (hX : ∀ j, j < k → Blk V0 (B j) S (src j))
    (hS : P.underlying S = some dS) (hSr : dS.isRow = true) (hSi : ∀ j, j < k → (P.info? S).map (·.size) = some (src j).size)
    (hTi : ∀ j, j < k → (P.info? T).map (·.size) = some (res j).size) (hT1 : ∀ j, j < k → (res j).all (·.oneCell') = true) (hz : ∀ j, j < k → z.size = (res j).size)
    (hL : ∀ j, j < k → ∃ o, ops[2 * j]? = some o ∧ o.guard = none ∧ o.dst = some (t + 2 * j) ∧ o.op = .load S (.tmp (p + j)))
    (hC : ∀ j, j < k → ∃ o, ops[2 * j + 1]? = some o ∧ o.guard = none ∧ (o.after.any fun e => Region.binds .any e && e.on == 2 * j) = true ∧
      ∀ a V K, a.eval (.tmp (t + 2 * j)) = .agg (src j) → (∀ V', Below V.heap.size V V' → K (a.put (some (t + 2 * j + 1)) (.agg (res j))) V') → o.wp P a V K Q)
    (hA : ∀ j, j < k → ∃ o, ops[2 * k + j]? = some o ∧ o.guard = none ∧ ∀ a V K, K (a.put (some (d + j)) (.pointer (some ⟨V.heap.size, 0, none⟩))) (V.alloc (.cells z T)) → o.wp P a V K Q)
    (hR : ∀ j, j < k → ∃ o, ops[3 * k + j]? = some o ∧ o.guard = none ∧ o.dst = none ∧ o.op = .store T (.tmp (d + j)) (.tmp (t + 2 * j + 1)) ∧
      (o.after.any fun e => Region.binds .any e && e.on == 2 * j + 1) = true ∧ (o.after.any fun e => Region.binds .any e && e.on == 2 * k + j) = true)
    (hQ : ∀ (σ : Nat → Value) (V : World), Below V0.heap.size V0 V → (∀ j, j < k → σ (t + 2 * j) = .agg (src j)) → (∀ j, j < k → σ (t + 2 * j + 1) = .agg (res j)) →
      (∀ j, j < k → ∃ g, σ (d + j) = .pointer (some ⟨g, 0, none⟩) ∧ V0.heap.size ≤ g ∧ Blk V g T (res j)) → (∀ j j', j < k → j' < k → j ≠ j' → σ (d + j) ≠ σ (d + j')) → Q .normal (puts a0 (asgL d t k) σ) V) :
    (Code.region id ops true).wp P Q a0 V0 := by
  refine wp_region_any hm ?_
  have hBl : ∀ j, j < k → B j < V0.heap.size := fun j hj => (hX j hj).lt
  refine wpAny_inv (AsgInv V0 a0 k d t B S T src res) (fun l a w h => by rw [h.size, hn]) (fun l a w h hr => ?_)
    (fun l a w i h hi => asg_step V0 a0 k d t p B S T dS src res z hn hp hdt hts hB hBl hS hSr hSi hTi hT1 hz hL hC hA hR l a w i h hi) _ _ _ _ ?_ (count_le _ _)
  · obtain ⟨hl, hbox, hbel, hord, σ, rfl, h1, h2, h3, h4⟩ := h
    have hall := all_listed (md := .any) (ops := ops) l (by omega) hw hr
    refine hQ σ w hbel (fun j hj => h1 j hj (hall _ (by omega))) (fun j hj => h2 j hj (hall _ (by omega))) (fun j hj => ?_) (fun j j' hj hj' hne => h4 j j' hj hj' hne (hall _ (by omega)) (hall _ (by omega)))
    obtain ⟨g, cs, q1, q2, q3, _, q5⟩ := h3 j hj (hall _ (by omega))
    have := q5 (hall _ (by omega))
    subst this
    exact ⟨g, q1, q2, q3⟩
  · have hno : ∀ m, (Array.replicate ops.size false).getD m false = true → False := fun m h => by
      by_cases hm : m < ops.size <;> simp [hm] at h
    refine ⟨by simp [hn], fun j hj => (hX j hj).drew, (Below.refl _ V0).drew, fun j _ h => (hno _ h).elim, fun s => a0.eval (.tmp s), ?_, fun j _ h => (hno _ h).elim, fun j _ h => (hno _ h).elim, fun j _ h => (hno _ h).elim, fun j _ _ _ _ h => (hno _ h).elim⟩
    rw [puts_self a0 _ (fun s hs => by rw [asgL_mem] at hs; omega)]
end

def two {α : Type} (a b : α) : Nat → α | 0 => a | _ => b
def three {α : Type} (a b c : α) : Nat → α | 0 => a | 1 => b | _ => c
theorem below2 {p : Nat → Prop} (h0 : p 0) (h1 : p 1) : ∀ j, j < 2 → p j
  | 0, _ => h0
  | 1, _ => h1
  | j + 2, h => absurd h (by omega)
theorem below3 {p : Nat → Prop} (h0 : p 0) (h1 : p 1) (h2 : p 2) : ∀ j, j < 3 → p j
  | 0, _ => h0
  | 1, _ => h1
  | 2, _ => h2
  | j + 3, h => absurd h (by omega)
end Go.Proofs.YtcdjmkfpclmbdaaGreatDoor
