/- pack: a finder in memory. -/
import Derived.Test.YtocohoojnjdkiaaKLrn
set_option linter.unusedVariables false
namespace Go.Proofs.Ytocohoojnjdkiaa
open Go.RowKit

/-- Block g is a finder over the text t, its map in block r, with the places B and f. -/
structure FR (w : World) (g r : Nat) (A : Option Addr) (c : Nat) (t : List UInt8) (B : Nat → Int) (f : List UInt8 → Option Nat) : Prop where
  blk : ∃ cs, Blk w g 69 cs ∧ cs.size = 4098 ∧ cs[0]? = some (.slice A t.length c) ∧ cs[1]? = some (.map (some r)) ∧ ∀ i, i < 4096 → cs[2 + i]? = some (.int .i64 (B i))
  map : SM w r f
  text : ∃ b0, RB w b0 A t ∧ b0 ≤ g ∧ b0 ≤ r
  cap : t.length ≤ c
  small : t.length ≤ 4000000
section
variable {w w' : World} {g r c : Nat} {A : Option Addr} {t : List UInt8} {B : Nat → Int} {f f' : List UInt8 → Option Nat}
theorem FR.lt (h : FR w g r A c t B f) : g < w.heap.size := by
  obtain ⟨cs, h1, _⟩ := h.blk
  exact h1.lt
theorem FR.rlt (h : FR w g r A c t B f) : r < w.heap.size := h.map.lt
theorem FR.ne (h : FR w g r A c t B f) : g ≠ r := by
  obtain ⟨cs, h1, _⟩ := h.blk
  obtain ⟨es, cl, h2, _⟩ := h.map.ex
  rintro rfl
  unfold Blk at h1
  rw [h1] at h2
  cases h2
theorem FR.cell0 (h : FR w g r A c t B f) : w.cell? ⟨g, 0, none⟩ = some (.slice A t.length c) := by
  obtain ⟨cs, h1, _, h2, _⟩ := h.blk
  rw [h1.cell]; exact h2
theorem FR.cell1 (h : FR w g r A c t B f) : w.cell? ⟨g, 1, none⟩ = some (.map (some r)) := by
  obtain ⟨cs, h1, _, _, h2, _⟩ := h.blk
  rw [h1.cell]; exact h2
theorem FR.cellB (h : FR w g r A c t B f) {i : Nat} (hi : i < 4096) : w.cell? ⟨g, 2 + i, none⟩ = some (.int .i64 (B i)) := by
  obtain ⟨cs, h1, _, _, _, h2⟩ := h.blk
  rw [h1.cell]; exact h2 i hi
theorem FR.frozen (h : FR w g r A c t B f) (i : Nat) : w.frozen? ⟨g, i, none⟩ = false := by
  obtain ⟨cs, h1, _⟩ := h.blk
  exact h1.frozen i
theorem FR.txt (h : FR w g r A c t B f) : RB w w.heap.size A t := by
  obtain ⟨b0, h1, h2, _⟩ := h.text
  exact h1.more (by have := h.lt; omega)
theorem FR.mod {S : Nat → Prop} (h : FR w g r A c t B f) (hm : Mod w w' S) (hS : ∀ k, k ≤ g ∨ k ≤ r → ¬ S k) : FR w' g r A c t B f := by
  have hl := h.lt
  have hrl := h.rlt
  obtain ⟨⟨cs, h1, h2⟩, h3, ⟨b0, h4, h5, h6⟩, h7, h8⟩ := h
  exact ⟨⟨cs, h1.mod hm (hS g (.inl (Nat.le_refl _))), h2⟩, h3.keep (hm.block r hrl (hS r (.inr (Nat.le_refl _)))), ⟨b0, h4.mod hm (by omega) (fun k hk => hS k (.inl (by omega))), h5, h6⟩, h7, h8⟩
theorem FR.below (h : FR w g r A c t B f) (hb : Below w.heap.size w w') : FR w' g r A c t B f :=
  h.mod (Mod.of_below hb) (fun k hk => by have := h.lt; have := h.rlt; omega)
theorem FR.drew (h : FR w g r A c t B f) : FR w.drew g r A c t B f := h.below ((Below.refl _ _).drew)
/-- 'before[i] = v'. -/
theorem FR.set_ (h : FR w g r A c t B f) {i : Nat} (hi : i < 4096) (v : Int) : FR (w.setCell ⟨g, 2 + i, none⟩ (.int .i64 v)) g r A c t (fun j => if j = i then v else B j) f := by
  have hne := h.ne
  obtain ⟨⟨cs, h1, h2, h3, h4, h5⟩, h6, ⟨b0, h7, h8, h9⟩, h10, h11⟩ := h
  refine ⟨⟨_, h1.set_ (2 + i) _, by simp [h2], ?_, ?_, fun j hj => ?_⟩, h6.set_ (a := ⟨g, 2 + i, none⟩) (fun e => hne e.symm) _, ⟨b0, h7.keep fun p hp => ?_, h8, h9⟩, h10, h11⟩
  · rw [Array.getElem?_setIfInBounds_ne (by omega)]; exact h3
  · rw [Array.getElem?_setIfInBounds_ne (by omega)]; exact h4
  · by_cases e : j = i
    · subst e
      rw [Array.getElem?_setIfInBounds_self_of_lt (by omega), if_pos rfl]
    · rw [Array.getElem?_setIfInBounds_ne (by omega), if_neg e]; exact h5 j hj
  · exact World.cell?_of_block (Below.heap_setCell _ _ _ _ (by show p.block ≠ g; omega))
/-- The map's block set. -/
theorem FR.setr (h : FR w g r A c t B f) {o : Obj} (hs : SM (ChangeMaps.setBlock w r o) r f') : FR (ChangeMaps.setBlock w r o) g r A c t B f' := by
  have hne := h.ne
  obtain ⟨es, cl, hb, _⟩ := h.map.ex
  obtain ⟨⟨cs, h1, h2⟩, h6, ⟨b0, h7, h8, h9⟩, h10, h11⟩ := h
  refine ⟨⟨cs, ?_, h2⟩, hs, ⟨b0, h7.keep fun p hp => ?_, h8, h9⟩, h10, h11⟩
  · unfold Blk at h1 ⊢
    rw [ChangeMaps.heap_setBlock_other hb _ hne]; exact h1
  · exact World.cell?_of_block (ChangeMaps.heap_setBlock_other hb _ (by omega))
theorem FR.modr (h : FR w g r A c t B f) (o : Obj) (S : Nat → Prop) (hS : S r) : Mod w (ChangeMaps.setBlock w r o) S := by
  obtain ⟨es, cl, hb, _⟩ := h.map.ex
  exact ⟨rfl, rfl, rfl, by simp [ChangeMaps.setBlock], fun k hk hn => ChangeMaps.heap_setBlock_other hb _ (fun e => hn (e ▸ hS))⟩
theorem FR.del (h : FR w g r A c t B f) (q : Nat) : ∃ o, (Builtin.delete_ #[66, 82] 0 #[.map (some r), kv (st t q)]).run Try.prog w = .ok (.tuple #[]) (ChangeMaps.setBlock w r o) ∧ FR (ChangeMaps.setBlock w r o) g r A c t B (fun x => if x = st t q then none else f x) := by
  obtain ⟨o, h1, h2⟩ := h.map.del keysT (st_len t q) 0
  exact ⟨o, h1, h.setr h2⟩
theorem FR.put (h : FR w g r A c t B f) (q v : Nat) : ∃ o, (Instr.mapUpdate 66 (.map (some r)) (kv (st t q)) (.int .i64 (v : Int))).run Try.prog w = .ok () (ChangeMaps.setBlock w r o) ∧ FR (ChangeMaps.setBlock w r o) g r A c t B (fun x => if x = st t q then some v else f x) := by
  obtain ⟨o, h1, h2⟩ := h.map.put keysT (st_len t q) v
  exact ⟨o, h1, h.setr h2⟩
theorem FR.startAt (h : FR w g r A c t B f) (q : Nat) (hq : q + 4 ≤ t.length) : Calls Try.prog 45 #[.pointer (some ⟨g, 0, none⟩), .int .i64 (q : Int)] w fun e w' => e = .returned (kv (st t q)) ∧ Below w.heap.size w w' :=
  startAt_any g A t c w h.lt h.cell0 h.txt h.small h.cap q hq
theorem FR.latest (h : FR w g r A c t B f) (q : Nat) (hq : q + 4 ≤ t.length) : Calls Try.prog 43 #[.pointer (some ⟨g, 0, none⟩), .int .i64 (q : Int)] w fun e w' => e = .returned (.int .i64 (encO (f (st t q)))) ∧ Below w.heap.size w w' :=
  latest_any g r A t c f w h.lt h.cell0 h.cell1 h.map h.txt h.small h.cap q hq
end
/-- A finder that has learnt the places below p. -/
def FD (w : World) (g r : Nat) (A : Option Addr) (c : Nat) (t : List UInt8) (p : Nat) : Prop := ∃ B f, FR w g r A c t B f ∧ Lrn t p f B
theorem FD.below {w w' : World} {g r c p : Nat} {A : Option Addr} {t : List UInt8} (h : FD w g r A c t p) (hb : Below w.heap.size w w') : FD w' g r A c t p := by
  obtain ⟨B, f, h1, h2⟩ := h
  exact ⟨B, f, h1.below hb, h2⟩
theorem FD.lt {w : World} {g r c p : Nat} {A : Option Addr} {t : List UInt8} (h : FD w g r A c t p) : g < w.heap.size ∧ r < w.heap.size := by
  obtain ⟨B, f, h1, h2⟩ := h
  exact ⟨h1.lt, h1.rlt⟩
end Go.Proofs.Ytocohoojnjdkiaa
