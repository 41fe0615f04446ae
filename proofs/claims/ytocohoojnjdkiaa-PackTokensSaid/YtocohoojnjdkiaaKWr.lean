/- pack: the writer; endRun. -/
import Derived.Test.YtocohoojnjdkiaaKLast
import Derived.Test.YtocohoojnjdkiaaKBack
set_option linter.unusedVariables false
namespace Go.Proofs.Ytocohoojnjdkiaa
open Go.RowKit

theorem bslK : ByteSlice Try.prog 22 5 := ⟨Try.underlying22, Try.underlying5, by kernel_rfl⟩
theorem OB.cut0 {e : TypeId} {w : World} {base g n cap : Nat} {l : List UInt8} (h : OB e w base (.slice (some ⟨g, 0, none⟩) n cap) l) : OB e w base (.slice (some ⟨g, 0, none⟩) 0 cap) [] := by
  rcases h.2 with ⟨h1, _⟩ | ⟨g', cap', cur, h1, hb, hh, hn, hc, hs, ht⟩
  · cases h1
  · cases h1
    exact ⟨by simp, .inr ⟨g, cap, cur, rfl, hb, hh, Nat.zero_le _, hc, hs, by simp⟩⟩
/-- Block h is a writer. -/
structure WR (w : World) (h base : Nat) (pk run : List UInt8) (v u : Value) : Prop where
  blk : Blk w h 65 #[v, u]
  pk : OB 5 w base v pk
  run : OB 5 w base u run
  sep : ∀ k, v.ownBlock = some k → u.ownBlock ≠ some k
  le : base ≤ h
section
variable {w w' : World} {h base : Nat} {pk run : List UInt8} {v u : Value}
theorem WR.cell0 (H : WR w h base pk run v u) : w.cell? ⟨h, 0, none⟩ = some v := H.blk.cell 0
theorem WR.cell1 (H : WR w h base pk run v u) : w.cell? ⟨h, 1, none⟩ = some u := H.blk.cell 1
theorem WR.nev (H : WR w h base pk run v u) : v.ownBlock ≠ some h := H.pk.ne_blk H.blk (by decide)
theorem WR.neu (H : WR w h base pk run v u) : u.ownBlock ≠ some h := H.run.ne_blk H.blk (by decide)
theorem WR.mod {S : Nat → Prop} (H : WR w h base pk run v u) (hm : Mod w w' S) (hS : ∀ k, base ≤ k → k < w.heap.size → ¬ S k) : WR w' h base pk run v u :=
  ⟨H.blk.mod hm (hS _ H.le H.blk.lt), H.pk.mod hm (fun k hk => hS _ (H.pk.lt k hk).1 (H.pk.lt k hk).2), H.run.mod hm (fun k hk => hS _ (H.run.lt k hk).1 (H.run.lt k hk).2), H.sep, H.le⟩
theorem WR.drew (H : WR w h base pk run v u) : WR w.drew h base pk run v u := H.mod ((Mod.refl w (fun _ => False)).drew) (fun _ _ _ h => h)
theorem WR.alloc (H : WR w h base pk run v u) (o : Obj) : WR (w.alloc o) h base pk run v u := H.mod ((Mod.refl w (fun _ => False)).alloc o) (fun _ _ _ h => h)
theorem WR.gb {v' : Value} (H : WR w h base pk run v u) (hg : Grew w w' v v') : Blk w' h 65 #[v, u] := H.blk.mod hg.mod (fun e => H.nev e)
theorem WR.gbr {u' : Value} (H : WR w h base pk run v u) (hg : Grew w w' u u') : Blk w' h 65 #[v, u] := H.blk.mod hg.mod (fun e => H.neu e)
/-- The packed bytes have grown: the world of the append. -/
theorem WR.grew {v' : Value} {pk' : List UInt8} (H : WR w h base pk run v u) (ho : OB 5 w' base v' pk') (hg : Grew w w' v v') : WR (w'.setCell ⟨h, 0, none⟩ v') h base pk' run v' u := by
  have h1 : Blk w' h 65 #[v, u] := H.blk.mod hg.mod (fun e => H.nev e)
  have h2 : OB 5 w' base u run := H.run.mod hg.mod (fun k hk e => H.sep k e hk)
  have hm := (Mod.refl w' (fun k => k = h)).setCell (p := ⟨h, 0, none⟩) (fun _ => rfl) v'
  refine ⟨h1.set_ 0 v', ho.mod hm (fun k hk => ?_), h2.mod hm (fun k hk e => H.neu (e ▸ hk)), fun k hk hu => ?_, H.le⟩
  · rintro rfl; exact (ho.ne_blk h1 (by decide)) hk
  · rcases hg.2 with e | ⟨j, e, hj⟩
    · rw [e] at hk; exact H.sep k hk hu
    · rw [hk] at e; injection e with e; subst e; have := (H.run.lt k hu).2; omega
theorem WR.grewr {u' : Value} {run' : List UInt8} (H : WR w h base pk run v u) (ho : OB 5 w' base u' run') (hg : Grew w w' u u') : WR (w'.setCell ⟨h, 1, none⟩ u') h base pk run' v u' := by
  have h1 : Blk w' h 65 #[v, u] := H.blk.mod hg.mod (fun e => H.neu e)
  have h2 : OB 5 w' base v pk := H.pk.mod hg.mod (fun k hk e => H.sep k hk e)
  have hm := (Mod.refl w' (fun k => k = h)).setCell (p := ⟨h, 1, none⟩) (fun _ => rfl) u'
  refine ⟨h1.set_ 1 u', h2.mod hm (fun k hk e => H.nev (e ▸ hk)), ho.mod hm (fun k hk => ?_), fun k hk hu => ?_, H.le⟩
  · rintro rfl; exact (ho.ne_blk h1 (by decide)) hk
  · rcases hg.2 with e | ⟨j, e, hj⟩
    · rw [e] at hu; exact H.sep k hk hu
    · rw [hu] at e; injection e with e; subst e; have := (H.pk.lt k hk).2; omega
theorem WR.cut (H : WR w h base pk run v u) {g n cap : Nat} (hu : u = .slice (some ⟨g, 0, none⟩) n cap) : WR (w.setCell ⟨h, 1, none⟩ (.slice (some ⟨g, 0, none⟩) 0 cap)) h base pk [] v (.slice (some ⟨g, 0, none⟩) 0 cap) := by
  have hr := H.run
  have hn := H.neu
  have hs := H.sep
  rw [hu] at hr hn hs
  have hm := (Mod.refl w (fun k => k = h)).setCell (p := ⟨h, 1, none⟩) (fun _ => rfl) (.slice (some ⟨g, 0, none⟩) 0 cap)
  exact ⟨H.blk.set_ 1 _, H.pk.mod hm (fun k hk e => H.nev (e ▸ hk)), hr.cut0.mod hm (fun k hk e => hn (e ▸ hk)), hs, H.le⟩
theorem WR.bgrew {v' : Value} {w0 : World} (H : WR w h base pk run v u) (hg : Grew w w' v v') (hB : Below base w0 w) : Below base w0 (w'.setCell ⟨h, 0, none⟩ v') := by
  refine Below.setCell (hB.trans (hg.below ?_ (fun k hk => (H.pk.lt k hk).1))) H.le _
  have := H.blk.lt; have := H.le; omega
theorem WR.bgrewr {u' : Value} {w0 : World} (H : WR w h base pk run v u) (hg : Grew w w' u u') (hB : Below base w0 w) : Below base w0 (w'.setCell ⟨h, 1, none⟩ u') := by
  refine Below.setCell (hB.trans (hg.below ?_ (fun k hk => (H.run.lt k hk).1))) H.le _
  have := H.blk.lt; have := H.le; omega
end
/-- 'append' at an operation of a drawn region. -/
theorem if_app {P : Program} {o : Oper} {y : Nat → Option Bool} {a : Act} {w w' : World} {K : Act → World → Prop} {Q : Exit → Act → World → Prop} {X : Prop} {t u : TypeId} (s x : Operand) {v v' x' : Value}
    (hgd : o.guard = none) (ho : o.op = .call { callee := .builtin .append, args := #[s, x], argTypes := #[t, u] }) (hs : a.eval s = v) (hx : a.eval x = x') (hr : (Builtin.append_ #[t, u] o.type #[v, x']).run P w = .ok v' w') (h : K (a.put o.dst v') w') :
    if Region.wanted o y = true then o.wp P a w K Q else X := by
  rw [if_pos (by unfold Region.wanted; rw [hgd])]
  unfold Oper.wp execOp
  simp only [ho, resolve, invoke, builtin, Sem.run_bind, Sem.run_pure, Result.andThen_ok, List.map_toArray, List.map_cons, List.map_nil, hs, hx, hr]
  exact h
theorem u8_len {n : Nat} (h1 : 1 ≤ n) (h2 : n ≤ 128) : IntKind.u8.wrap ((n : Int) - 1) = ((UInt8.ofNat (n - 1)).toNat : Int) := by
  rw [ofNat_toNat (by omega), IntWalk.u8_in _ ⟨by omega, by omega⟩]; omega
end Go.Proofs.Ytocohoojnjdkiaa
