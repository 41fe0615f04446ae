/- A map from integers to functions that a call makes by a literal and asks once: the insertions and the look-up at their operations. Plain lemmas, no program. -/
import Derived.WalkKit
import Derived.Lib.Hide
import Derived.Deep.Draws
import Derived.ChangeMaps5
import Derived.OwnWalk
set_option linter.unusedVariables false
namespace Go.Proofs.YtajkccigmiegkaaDoor
open Go.RowKit Go.MapKept Go.ChangeMaps

/-- The block b holds the entries of a list. -/
def MapIs (w : World) (b : Nat) (q : IntKind) (ks : List (Int × Value)) : Prop :=
  ∃ es clock, w.heap[b]? = some (.map es clock) ∧ es.toList.map (fun e => (e.key, e.val)) = ks.map (fun p => (Value.int q p.1, p.2))

/-- What a list has for a key. -/
def look (ks : List (Int × Value)) (n : Int) : Option Value := match ks with
  | [] => none
  | p :: r => if n = p.1 then some p.2 else look r n

theorem findNow_look (q : IntKind) (n : Int) : ∀ (ks : List (Int × Value)) (l : List MapEntry) (i : Nat), l.map (fun e => (e.key, e.val)) = ks.map (fun p => (Value.int q p.1, p.2)) →
    ∃ r, Instr.findNow (.int q) (.int q n) l i = some r ∧ r.map (·.2) = look ks n
  | [], [], i, _ => ⟨none, rfl, rfl⟩
  | [], _ :: _, _, h => by simp at h
  | _ :: _, [], _, h => by simp at h
  | p :: ks, e :: l, i, h => by
    simp only [List.map_cons, List.cons.injEq, Prod.mk.injEq] at h
    obtain ⟨⟨h1, h2⟩, h3⟩ := h
    unfold look Instr.findNow
    rw [h1]
    by_cases hn : n = p.1
    · refine ⟨some (i, e.val), ?_, ?_⟩
      · simp [Instr.sameNow, hn]
      · rw [if_pos hn, ← h2]; rfl
    · obtain ⟨r, hr, hl⟩ := findNow_look q n ks l (i + 1) h3
      refine ⟨r, ?_, ?_⟩
      · have hb : (n == p.1) = false := by simp [hn]
        simp only [Instr.sameNow, if_pos, hb]
        exact hr
      · rw [if_neg hn, hl]

theorem mapIs_made (w : World) (q : IntKind) : MapIs (w.alloc (.map #[] 0)) w.heap.size q [] := ⟨#[], 0, (MapKept.heap_alloc w _).1, rfl⟩

theorem below_setBlock {w : World} {B b : Nat} (hB : B ≤ b) (o : Obj) : Below B w (setBlock w b o) := by
  refine ⟨rfl, rfl, rfl, by simp [setBlock], fun k hk => ?_⟩
  have hne : ¬ b = k := by omega
  simp [setBlock, Array.getElem?_setIfInBounds, hne]

theorem wpList_insert_fn {P : Program} {ops : Array Oper} {rest : List Oper} {o : Oper} {a : Act} {Q : Exit → Act → World → Prop} {w : World} (hg : o.guard = none) (m k x : Operand) (t : TypeId) (hop : o.op = Op.insert t m k x)
    (kt et : TypeId) (q : IntKind) (ht : P.underlying t = some (.map kt et)) (hk : P.underlying kt = some (.int q)) (b : Nat) (ks : List (Int × Value)) (hm : a.eval m = .map (some b)) (hown : MapIs w b q ks)
    (n : Int) (v : Value) (hx : a.eval k = .int q n) (hv : a.eval x = v) (hnew : look ks n = none)
    (h : ∀ w', MapIs w' b q (ks ++ [(n, v)]) → (∀ B, B ≤ b → Below B w w') → wpList P ops Q rest (a.put o.dst undef) w') : wpList P ops Q (o :: rest) a w := by
  obtain ⟨es, clock, hb, he⟩ := hown
  obtain ⟨r, h1, h2⟩ := findNow_look q n ks es.toList 0 he
  rw [hnew] at h2
  have hr : r = none := by cases r <;> simp_all
  subst hr
  have hkey : IsKey (.int q) (.int q n) := by simp [IsKey]
  refine wpList_plain hg fun K hK => ?_
  have hrun : (Instr.mapUpdate t (.map (some b)) (.int q n) v).run P w = .ok () (setBlock w b (.map (es.push ⟨.int q n, v, clock⟩) (clock + 1))) := by
    simp [Instr.mapUpdate, run_underlying ht, MapKept.run_getObj_map hb, run_checkKey hk hkey, run_findKey hk h1, MapKept.run_setObj_map _ hb, Result.andThen, setBlock]
  unfold Oper.wp
  simp [execOp, hop, hm, hx, hv, hrun, Result.andThen]
  refine hK _ _ (h _ ⟨_, _, heap_setBlock_same hb _, ?_⟩ fun B hB => below_setBlock hB _)
  simp [he]

theorem wpList_lookup_fn {P : Program} {ops : Array Oper} {rest : List Oper} {o : Oper} {a : Act} {Q : Exit → Act → World → Prop} {w : World} (hg : o.guard = none) (m k : Operand) (t : TypeId) (hop : o.op = Op.lookup t m k false)
    (kt et : TypeId) (q : IntKind) (ht : P.underlying t = some (.map kt et)) (hk : P.underlying kt = some (.int q)) (z : Value) (hz : (zeroValue et).run P w = .ok z w) (b : Nat) (ks : List (Int × Value)) (hm : a.eval m = .map (some b)) (hown : MapIs w b q ks)
    (n : Int) (hx : a.eval k = .int q n) (h : wpList P ops Q rest (a.put o.dst ((look ks n).getD z)) w) : wpList P ops Q (o :: rest) a w := by
  obtain ⟨es, clock, hb, he⟩ := hown
  obtain ⟨r, h1, h2⟩ := findNow_look q n ks es.toList 0 he
  have hkey : IsKey (.int q) (.int q n) := by simp [IsKey]
  refine wpList_plain hg fun K hK => ?_
  have hrun : (Instr.lookup t (.map (some b)) (.int q n) false).run P w = .ok ((look ks n).getD z) w := by
    rw [← h2]
    cases r with
    | none => simp [Instr.lookup, run_underlying ht, MapKept.run_getObj_map hb, run_checkKey hk hkey, run_findKey hk h1, hz, Result.andThen]
    | some p => simp [Instr.lookup, run_underlying ht, MapKept.run_getObj_map hb, run_checkKey hk hkey, run_findKey hk h1, Result.andThen]
  unfold Oper.wp
  simp [execOp, hop, hm, hx, hrun, Result.andThen]
  exact hK _ _ h
end Go.Proofs.YtajkccigmiegkaaDoor
