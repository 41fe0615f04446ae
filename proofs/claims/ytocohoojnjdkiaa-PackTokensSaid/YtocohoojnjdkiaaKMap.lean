/- pack: a map from four bytes to places, that the call has made. No program. -/
import Derived.Test.YtocohoojnjdkiaaKSpec
import Derived.Maps.OwnSet
import Derived.WideKeyPair
import Derived.DeepKeys4
set_option linter.unusedVariables false
namespace Go.Proofs.Ytocohoojnjdkiaa
open Go.RowKit

/-- Bytes as a key. -/
def kv (s : List UInt8) : Value := .agg (s.map bv).toArray
theorem kv_inj {s t : List UInt8} (h : kv s = kv t) : s = t := by
  unfold kv at h
  injection h with h
  have h2 : s.map bv = t.map bv := by have := congrArg Array.toList h; simpa using this
  clear h
  induction s generalizing t with
  | nil => cases t with | nil => rfl | cons a r => cases h2
  | cons a s ih =>
    cases t with
    | nil => cases h2
    | cons b r =>
      simp only [List.map_cons, List.cons.injEq, Value.int.injEq, true_and] at h2
      rw [ih h2.2, UInt8.toNat_inj.1 (by omega : a.toNat = b.toNat)]
theorem keyOf_four {P : Program} {k e : TypeId} {q : IntKind} (A : WideMaps.ArrKey P k e 4) (he : P.underlying e = some (.int q)) (hsz : ∃ m, P.types.size = m + 1) {a b c d : Int}
    (wa : (Lit.int q a).wf = true) (wb : (Lit.int q b).wf = true) (wc : (Lit.int q c).wf = true) (wd : (Lit.int q d).wf = true) :
    keyOf P k (.agg #[.int q a, .int q b, .int q c, .int q d]) = some (.string (keyBytes [.int q a, .int q b, .int q c, .int q d])) := by
  have hkt := A.keyType hsz
  obtain ⟨m, hm⟩ := hsz
  unfold keyOf
  simp only [A.hu]
  rw [if_pos (by simp [hkt, Value.formed, A.hu, A.size]), hm]
  unfold Program.keyLits
  simp only [A.hu, Value.cells]
  rw [if_pos (by rw [A.size]; rfl), show List.range 4 = [0, 1, 2, 3] from rfl, List.mapM_cons, List.mapM_cons, List.mapM_cons, List.mapM_cons, List.mapM_nil]
  simp [A.one, Program.keyLits, he, wa, wb, wc, wd]
/-- What is known of the map's types. -/
structure KM (P : Program) (T k E : TypeId) : Prop where
  K : Maps.Keyed P k
  ht : P.underlying T = some (.map k E)
  hz : ∀ w, (zeroValue E).run P w = .ok (.int .i64 0) w
  hk : ∀ s : List UInt8, s.length = 4 → ∃ l, keyOf P k (kv s) = some l
theorem bv_wf (c : UInt8) : (Lit.int .u8 (c.toNat : Int)).wf = true := by
  have := c.toNat_lt
  simp [Lit.wf, IntKind.min, IntKind.max, IntKind.bits, IntKind.signed]
  omega
theorem KM.mk' {P : Program} {T k E e : TypeId} (A : WideMaps.ArrKey P k e 4) (he : P.underlying e = some (.int .u8)) (hsz : ∃ m, P.types.size = m + 1) (ht : P.underlying T = some (.map k E)) (hz : ∀ w, (zeroValue E).run P w = .ok (.int .i64 0) w) : KM P T k E where
  K := Maps.Keyed.of_law A.law
  ht := ht
  hz := hz
  hk s hs := by
    match s, hs with
    | [a, b, c, d], _ => exact ⟨_, keyOf_four A he hsz (bv_wf a) (bv_wf b) (bv_wf c) (bv_wf d)⟩
/-- Block r is a map that holds f. -/
structure SM (w : World) (r : Nat) (f : List UInt8 → Option Nat) : Prop where
  ex : ∃ es clock, w.heap[r]? = some (.map es clock) ∧ (∀ e ∈ es.toList, ∃ s v, s.length = 4 ∧ e.key = kv s ∧ e.val = .int .i64 (v : Nat) ∧ f s = some v) ∧
    (∀ s v, s.length = 4 → f s = some v → ∃ e ∈ es.toList, e.key = kv s ∧ e.val = .int .i64 (v : Nat)) ∧ es.toList.Pairwise (fun a b => a.key ≠ b.key)
section
variable {P : Program} {T k E : TypeId} {w w' : World} {r : Nat} {f : List UInt8 → Option Nat}
theorem SM.lt (h : SM w r f) : r < w.heap.size := by
  obtain ⟨es, clock, hb, _⟩ := h.ex
  exact (Array.getElem?_eq_some_iff.1 hb).1
theorem SM.new (w : World) : SM (w.alloc (.map #[] 0)) w.heap.size (fun _ => none) :=
  ⟨#[], 0, (MapKept.heap_alloc w _).1, by simp, by simp, by simp⟩
theorem SM.keep (h : SM w r f) (hb : w'.heap[r]? = w.heap[r]?) : SM w' r f := by
  obtain ⟨es, clock, h1, h2⟩ := h.ex
  exact ⟨es, clock, hb.trans h1, h2⟩
theorem SM.alloc (h : SM w r f) (o : Obj) : SM (w.alloc o) r f := h.keep (Below.heap_alloc w o r h.lt)
theorem SM.drew (h : SM w r f) : SM w.drew r f := h.keep rfl
theorem SM.set_ (h : SM w r f) {a : Addr} (ha : r ≠ a.block) (u : Value) : SM (w.setCell a u) r f := h.keep (Below.heap_setCell w a u r ha)
theorem SM.keys (hK : KM P T k E) {es : Array MapEntry} (h : ∀ e ∈ es.toList, ∃ s v, s.length = 4 ∧ e.key = kv s ∧ e.val = .int .i64 (v : Nat) ∧ f s = some v) : ∀ e ∈ es.toList, ∃ l, keyOf P k e.key = some l := by
  intro e he
  obtain ⟨s, v, h1, h2, _⟩ := h e he
  obtain ⟨l, hl⟩ := hK.hk s h1
  exact ⟨l, by rw [h2]; exact hl⟩
/-- 'v, is := m[k]'. -/
theorem SM.look (h : SM w r f) (hK : KM P T k E) {s : List UInt8} (hs : s.length = 4) : (Instr.lookup T (.map (some r)) (kv s) true).run P w = .ok (.tuple #[.int .i64 (((f s).getD 0 : Nat) : Int), .bool (f s).isSome]) w := by
  obtain ⟨es, clock, hb, h1, h2, h3⟩ := h.ex
  obtain ⟨l, hl⟩ := hK.hk s hs
  rcases hK.K.find w hl es.toList (SM.keys hK h1) with ⟨g1, g2⟩ | ⟨j, e0, g1, g2, g3⟩
  · have hf : f s = none := by
      cases hf : f s with
      | none => rfl
      | some v => obtain ⟨e, he, hk, _⟩ := h2 s v hs hf; exact absurd hk (g2 e he)
    rw [hf]
    simp [Instr.lookup, run_underlying hK.ht, MapKept.run_getObj_map hb, hK.K.check w _ hl, g1, hK.hz, Result.andThen]
  · obtain ⟨s', v, a1, a2, a3, a4⟩ := h1 e0 (List.mem_of_getElem? g2)
    have : s' = s := kv_inj (a2.symm.trans g3)
    subst this
    rw [a4]
    simp [Instr.lookup, run_underlying hK.ht, MapKept.run_getObj_map hb, hK.K.check w _ hl, g1, a3, Result.andThen]
/-- 'm[k] = v'. -/
theorem SM.put (h : SM w r f) (hK : KM P T k E) {s : List UInt8} (hs : s.length = 4) (v : Nat) : ∃ o, (Instr.mapUpdate T (.map (some r)) (kv s) (.int .i64 (v : Int))).run P w = .ok () (ChangeMaps.setBlock w r o) ∧ SM (ChangeMaps.setBlock w r o) r (fun x => if x = s then some v else f x) := by
  obtain ⟨es, clock, hb, h1, h2, h3⟩ := h.ex
  obtain ⟨l, hl⟩ := hK.hk s hs
  rcases hK.K.find w hl es.toList (SM.keys hK h1) with ⟨g1, g2⟩ | ⟨j, e0, g1, g2, g3⟩
  · refine ⟨.map (es.push ⟨kv s, .int .i64 (v : Int), clock⟩) (clock + 1), by simp [Instr.mapUpdate, run_underlying hK.ht, MapKept.run_getObj_map hb, hK.K.check w false hl, g1, MapKept.run_setObj_map _ hb, Result.andThen, ChangeMaps.setBlock], ⟨_, _, ChangeMaps.heap_setBlock_same hb _, ?_, ?_, ?_⟩⟩
    · intro e he
      rw [Array.toList_push, List.mem_append, List.mem_singleton] at he
      rcases he with he | rfl
      · obtain ⟨s', v', a1, a2, a3, a4⟩ := h1 e he
        refine ⟨s', v', a1, a2, a3, ?_⟩
        rw [if_neg]
        · exact a4
        · rintro rfl; exact g2 e he a2
      · exact ⟨s, v, hs, rfl, rfl, by rw [if_pos rfl]⟩
    · intro s' v' hs' hf
      rw [Array.toList_push]
      by_cases e : s' = s
      · subst e
        rw [if_pos rfl] at hf
        injection hf with hf; subst hf
        exact ⟨_, List.mem_append_right _ (List.mem_singleton_self _), rfl, rfl⟩
      · rw [if_neg e] at hf
        obtain ⟨x, hx, b1, b2⟩ := h2 s' v' hs' hf
        exact ⟨x, List.mem_append_left _ hx, b1, b2⟩
    · rw [Array.toList_push, List.pairwise_append]
      refine ⟨h3, List.pairwise_singleton _ _, fun a ha b hb => ?_⟩
      rw [List.mem_singleton] at hb; subst hb
      exact g2 a ha
  · have hj : es[j]? = some e0 := by simpa using g2
    have hlist : (es.modify j (fun e' => { e' with key := kv s, val := .int .i64 (v : Int) })).toList = es.toList.set j { e0 with key := kv s, val := .int .i64 (v : Int) } := by rw [Array.toList_modify, ChangeMaps.modify_eq_set _ _ _ _ g2]
    refine ⟨.map (es.modify j (fun e' => { e' with key := kv s, val := .int .i64 (v : Int) })) clock, by simp [Instr.mapUpdate, run_underlying hK.ht, MapKept.run_getObj_map hb, hK.K.check w false hl, g1, hj, g3, hK.K.stays w hl, MapKept.run_setObj_map _ hb, Result.andThen, ChangeMaps.setBlock], ⟨_, _, ChangeMaps.heap_setBlock_same hb _, ?_, ?_, ?_⟩⟩
    · have hne : ∀ (i : Nat) (x : MapEntry), es.toList[i]? = some x → i ≠ j → x.key ≠ kv s := by
        intro i x hi hij
        rw [← g3]
        rcases Nat.lt_or_gt_of_ne hij with hlt | hlt
        · obtain ⟨a1, a2⟩ := List.getElem?_eq_some_iff.1 hi
          obtain ⟨b1, b2⟩ := List.getElem?_eq_some_iff.1 g2
          rw [← a2, ← b2]
          exact List.pairwise_iff_getElem.1 h3 i j a1 b1 hlt
        · obtain ⟨a1, a2⟩ := List.getElem?_eq_some_iff.1 hi
          obtain ⟨b1, b2⟩ := List.getElem?_eq_some_iff.1 g2
          rw [← a2, ← b2]
          exact (List.pairwise_iff_getElem.1 h3 j i b1 a1 hlt).symm
      intro e he
      rw [hlist] at he
      obtain ⟨i, hi, ex⟩ := List.getElem_of_mem he
      rw [List.getElem_set] at ex
      split at ex
      · subst ex; exact ⟨s, v, hs, rfl, rfl, by rw [if_pos rfl]⟩
      · rename_i hij
        have hi' : i < es.toList.length := by simpa using hi
        have hie : es.toList[i]? = some e := by rw [List.getElem?_eq_getElem hi', ex]
        obtain ⟨s', v', a1, a2, a3, a4⟩ := h1 e (List.mem_of_getElem? hie)
        refine ⟨s', v', a1, a2, a3, ?_⟩
        rw [if_neg]
        · exact a4
        · rintro rfl; exact hne i e hie (fun e1 => hij e1.symm) a2
    · intro s' v' hs' hf
      rw [hlist]
      have hjl : j < es.toList.length := (List.getElem?_eq_some_iff.1 g2).1
      by_cases e : s' = s
      · subst e
        rw [if_pos rfl] at hf
        injection hf with hf; subst hf
        exact ⟨{ key := kv s', val := .int .i64 (v : Int), born := e0.born }, List.mem_iff_getElem.2 ⟨j, by simpa using hjl, by simp⟩, rfl, rfl⟩
      · rw [if_neg e] at hf
        obtain ⟨x, hx, b1, b2⟩ := h2 s' v' hs' hf
        obtain ⟨i, hi, ex⟩ := List.getElem_of_mem hx
        have hij : j ≠ i := by
          rintro rfl
          obtain ⟨c1, c2⟩ := List.getElem?_eq_some_iff.1 g2
          rw [c2] at ex; subst ex
          exact e (kv_inj (b1.symm.trans g3))
        exact ⟨x, List.mem_iff_getElem.2 ⟨i, by simpa using hi, by rw [List.getElem_set_ne hij]; exact ex⟩, b1, b2⟩
    · rw [hlist]
      obtain ⟨c1, c2⟩ := List.getElem?_eq_some_iff.1 g2
      have hmap : (es.toList.set j { e0 with key := kv s, val := .int .i64 (v : Int) }).map (·.key) = es.toList.map (·.key) := by
        rw [List.map_set]
        apply List.ext_getElem (by simp)
        intro i h1 h2
        rw [List.getElem_set]
        split
        · rename_i hji; subst hji; simp [c2, g3]
        · rfl
      have h3' : (es.toList.map (·.key)).Pairwise (fun a b => a ≠ b) := List.pairwise_map.2 h3
      rw [← hmap] at h3'
      exact List.pairwise_map.1 h3'
/-- 'delete(m, k)'. -/
theorem SM.del (h : SM w r f) (hK : KM P T k E) {s : List UInt8} (hs : s.length = 4) (ty : TypeId) : ∃ o, (Builtin.delete_ #[T, k] ty #[.map (some r), kv s]).run P w = .ok (.tuple #[]) (ChangeMaps.setBlock w r o) ∧ SM (ChangeMaps.setBlock w r o) r (fun x => if x = s then none else f x) := by
  obtain ⟨es, clock, hb, h1, h2, h3⟩ := h.ex
  obtain ⟨l, hl⟩ := hK.hk s hs
  rcases hK.K.find w hl es.toList (SM.keys hK h1) with ⟨g1, g2⟩ | ⟨j, e0, g1, g2, g3⟩
  · refine ⟨.map es clock, by simp [Builtin.delete_, run_underlying hK.ht, MapKept.run_getObj_map hb, hK.K.check w _ hl, g1, MapKept.run_setObj_map _ hb, Result.andThen, ChangeMaps.setBlock], ⟨_, _, ChangeMaps.heap_setBlock_same hb _, ?_, ?_, h3⟩⟩
    · intro e he
      obtain ⟨s', v', a1, a2, a3, a4⟩ := h1 e he
      refine ⟨s', v', a1, a2, a3, ?_⟩
      rw [if_neg]
      · exact a4
      · rintro rfl; exact g2 e he a2
    · intro s' v' hs' hf
      split at hf
      · cases hf
      · exact h2 s' v' hs' hf
  · have hj : es[j]? = some e0 := by simpa using g2
    have hjl : j < es.toList.length := (List.getElem?_eq_some_iff.1 g2).1
    obtain ⟨c1, c2⟩ := List.getElem?_eq_some_iff.1 g2
    have hlist : (es.eraseIdxIfInBounds j).toList = es.toList.eraseIdx j := by simp [Array.eraseIdxIfInBounds]; split <;> simp_all
    have hne : ∀ (i : Nat) (x : MapEntry), es.toList[i]? = some x → i ≠ j → x.key ≠ kv s := by
      intro i x hi hij
      rw [← g3]
      obtain ⟨a1, a2⟩ := List.getElem?_eq_some_iff.1 hi
      rcases Nat.lt_or_gt_of_ne hij with hlt | hlt
      · rw [← a2, ← c2]
        exact List.pairwise_iff_getElem.1 h3 i j a1 c1 hlt
      · rw [← a2, ← c2]
        exact (List.pairwise_iff_getElem.1 h3 j i c1 a1 hlt).symm
    refine ⟨.map (es.eraseIdxIfInBounds j) clock, by simp [Builtin.delete_, run_underlying hK.ht, MapKept.run_getObj_map hb, hK.K.check w _ hl, g1, MapKept.run_setObj_map _ hb, Result.andThen, ChangeMaps.setBlock], ⟨_, _, ChangeMaps.heap_setBlock_same hb _, ?_, ?_, ?_⟩⟩
    · intro e he
      rw [hlist] at he
      obtain ⟨i, hij, hi⟩ := List.mem_eraseIdx_iff_getElem?.1 he
      obtain ⟨s', v', a1, a2, a3, a4⟩ := h1 e (List.mem_of_getElem? hi)
      refine ⟨s', v', a1, a2, a3, ?_⟩
      rw [if_neg]
      · exact a4
      · rintro rfl; exact hne i e hi hij a2
    · intro s' v' hs' hf
      rw [hlist]
      by_cases e : s' = s
      · rw [if_pos e] at hf; cases hf
      · rw [if_neg e] at hf
        obtain ⟨x, hx, b1, b2⟩ := h2 s' v' hs' hf
        obtain ⟨i, hi, ex⟩ := List.getElem_of_mem hx
        refine ⟨x, List.mem_eraseIdx_iff_getElem?.2 ⟨i, ?_, by rw [List.getElem?_eq_getElem hi, ex]⟩, b1, b2⟩
        rintro rfl
        rw [c2] at ex; subst ex
        exact e (kv_inj (b1.symm.trans g3))
    · rw [hlist]
      exact h3.sublist (List.eraseIdx_sublist _ _)
end
end Go.Proofs.Ytocohoojnjdkiaa
