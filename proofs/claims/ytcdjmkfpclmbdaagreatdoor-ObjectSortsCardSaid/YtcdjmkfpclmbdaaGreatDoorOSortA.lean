/- object: names as elements of lists; slices.Clone and slices.SortFunc over them. -/
import Derived.Test.YtcdjmkfpclmbdaaGreatDoorQSort
import Derived.Test.YtcdjmkfpclmbdaaGreatDoorQAsc
import Derived.Test.YtcdjmkfpclmbdaaGreatDoorShelf2
import Derived.Test.YtcdjmkfpclmbdaaGreatDoorODCmp
import Derived.Test.YtcdjmkfpclmbdaaGreatDoorOOrdersB
set_option linter.unusedVariables false
namespace Go.Proofs.YtcdjmkfpclmbdaaGreatDoor
open Go.RowKit Go.Shelf Go.Lib Go.Sort

/-- A name as an element, and how two are compared. -/
abbrev NmS : Type := { x : Nm // x.owner.length ≤ 1000000 ∧ x.text.length ≤ 1000000 }
instance : Inhabited NmS := ⟨⟨⟨0, [], 0, 0, []⟩, by decide, by decide⟩⟩
def encS (x : NmS) : List Value := [.int .i64 x.1.kind, .string (sv x.1.owner), .int .i64 x.1.num, .int .i64 x.1.idx, .string (sv x.1.text)]
theorem encS_ok : EncK encS 5 where
  len _ := rfl
  one x u hu := by
    simp only [encS, List.mem_cons, List.not_mem_nil, or_false] at hu
    rcases hu with rfl | rfl | rfl | rfl | rfl <;> rfl
  pos := by decide
theorem infoNameZ : (Tryz.prog.info? 28).map (fun i => (i.zero, i.size, i.bytes)) = some (some (.agg #[.int .i64 0, .string ByteArray.empty, .int .i64 0, .int .i64 0, .string ByteArray.empty]), 5, 56) := by kernel_rfl
theorem nameT_ok : TypK Tryz.prog 42 28 5 56 := ⟨Tryz.underlying42, by
  obtain ⟨i, hi, hz, hs, hb⟩ := info_parts infoNameZ
  exact ⟨i, _, hi, hz, hs, hb, rfl⟩⟩
def cS (x y : NmS) : Int := ordN x.1 y.1
theorem nm_ext {x y : Nm} (h : x.kind = y.kind ∧ x.owner = y.owner ∧ x.num = y.num ∧ x.idx = y.idx ∧ x.text = y.text) : x = y := by
  obtain ⟨a, b, c, d, e⟩ := x
  obtain ⟨a', b', c', d', e'⟩ := y
  simp only at h
  obtain ⟨rfl, rfl, rfl, rfl, rfl⟩ := h
  rfl
theorem cS_ok : Cmp3 cS where
  zero x y := by
    unfold cS
    rw [ordN_zero]
    constructor
    · intro h; exact Subtype.ext (nm_ext h)
    · rintro rfl; exact ⟨rfl, rfl, rfl, rfl, rfl⟩
  neg x y := ordN_TO.neg x.1 y.1
  trans x y z := ordN_TO.trans x.1 y.1 z.1

theorem grown_of {w w' : World} (h : D.Below w.heap.size w w') : ∃ q os, w' = grow (w.drewN q) os := by
  obtain ⟨p, hp⟩ := regrown_of_below h.toBelow
  have hd : w.drawn ≤ p.d := by have := h.drawn; rw [hp] at this; exact this
  refine ⟨p.d - w.drawn, p.os, ?_⟩
  rw [hp]
  have : redrawn w p.d = w.drewN (p.d - w.drawn) := by
    unfold redrawn World.drewN
    rw [Nat.add_sub_cancel' hd]
  rw [this]
theorem cmpS_lays (blk off size : Nat) (w : World) : CmpLays Tryz.prog 51 #[] encS 5 cS blk off size w := fun m os dk _ x y => by
  have h := D.cmpO_any x.1.kind (sv x.1.owner) x.1.num x.1.idx (sv x.1.text) y.1.kind (sv y.1.owner) y.1.num y.1.idx (sv y.1.text) (sortWorldK encS 5 w blk off m dk os) (by rw [sv_size]; exact x.2.1) (by rw [sv_size]; exact y.2.1)
  simp only [sv_list] at h
  exact h.mono fun e w' h => ⟨h.1, grown_of h.2⟩
theorem ltS_iff (x y : NmS) : ltOf cS x y = true ↔ cS x y < 0 := by unfold ltOf; simp
theorem cS_swo : SWO (ltOf cS) where
  irrefl x := by
    have h : cS x x = 0 := (cS_ok.zero _ _).2 rfl
    unfold ltOf; rw [h]; rfl
  trans x y z h1 h2 := by
    rw [ltS_iff] at *
    exact ltC_trans cS_ok h1 h2
  ntrans x y z h1 h2 := by
    have h1' : ¬ cS x y < 0 := fun h => by rw [(ltS_iff x y).2 h] at h1; cases h1
    have h2' : ¬ cS y z < 0 := fun h => by rw [(ltS_iff y z).2 h] at h2; cases h2
    have h3 : ¬ cS x z < 0 := by
      have n1 := cS_ok.neg x y
      have n2 := cS_ok.neg y z
      have n3 := cS_ok.neg x z
      have := cS_ok.trans z y x (by omega) (by omega)
      omega
    cases h : ltOf cS x z with
    | false => rfl
    | true => exact absurd ((ltS_iff x z).1 h) h3
theorem cS_total (x y : NmS) (h1 : ltOf cS x y = false) (h2 : ltOf cS y x = false) : x = y := by
  have h1' : ¬ cS x y < 0 := fun h => by rw [(ltS_iff x y).2 h] at h1; cases h1
  have h2' : ¬ cS y x < 0 := fun h => by rw [(ltS_iff y x).2 h] at h2; cases h2
  have n1 := cS_ok.neg x y
  exact (cS_ok.zero x y).1 (by omega)
theorem ms_asc (l : List NmS) : (l.mergeSort fun x y => !(ltOf cS) y x).Pairwise (fun x y => cS x y ≤ 0) := by
  have h := List.pairwise_mergeSort (le := fun x y => !(ltOf cS) y x) (fun a b c h1 h2 => by
      simp only [Bool.not_eq_true'] at h1 h2 ⊢
      exact cS_swo.ntrans c b a h2 h1) (fun a b => by
      simp only [Bool.or_eq_true, Bool.not_eq_true']
      cases h1 : ltOf cS b a
      · exact .inl rfl
      · right
        cases h2 : ltOf cS a b
        · rfl
        · exact (ltC_asymm cS_ok ((ltS_iff b a).1 h1) ((ltS_iff a b).1 h2)).elim) l
  refine h.imp fun {x y} hxy => ?_
  simp only [Bool.not_eq_true'] at hxy
  have : ¬ cS y x < 0 := fun h => by rw [(ltS_iff y x).2 h] at hxy; cases hxy
  have n := cS_ok.neg x y
  omega
theorem ms_dd (l : List NmS) : ddC cS (l.mergeSort fun x y => !(ltOf cS) y x) = sortC cS l :=
  ddC_sort cS_ok (ms_asc l) fun s => (List.mergeSort_perm l _).mem_iff

/-- slices.SortFunc over a slice of the call's own. -/
theorem sortS_any (base : Nat) (v : Value) (l : List NmS) (w : World) (ho : OQ encS 5 28 w base v l) (hv : v ≠ .slice none 0 0) (hll : l.length ≤ 1000000) :
    Calls Tryz.prog 50 #[v, .func (.func 51) #[] #[]] w fun e w' => e = .returned (.tuple #[]) ∧ OQ encS 5 28 w' base v (l.mergeSort fun x y => !(ltOf cS) y x) ∧ Below base w w' := by
  obtain ⟨g, cap, rfl, hb, hg, hn, hm, hH⟩ := holdsK_of_oq encS_ok ho hv
  have eg : ∀ args w, (callFunc 51 args).run Tryz.prog w = .ok (.enter 51 args) w := enters_of Tryz.func51 (by kernel_rfl) rfl
  have aE : ∀ w, (isAgg 28).run Tryz.prog w = .ok true w := fun w => by
    simp [isAgg, run_underlying Tryz.underlying28]
  have zE : ∀ w, (Go.sizeOf 28).run Tryz.prog w = .ok 5 w := fun w => by
    obtain ⟨i, hi, hz, hs, hb⟩ := info_parts infoNameZ
    simp [Go.sizeOf, typeInfo, hi, hs]
  have hc := AnyQ.slices_SortFunc_total Tryz.layQ_sort 5 aE zE encS encS_ok.len encS_ok.one cS cS_swo 51 #[] g 0 cap l.toArray w eg (cmpS_lays g 0 _ w) hH hg (by simp; omega) cS_total
  have hsz : l.toArray.size = l.length := by simp
  rw [hsz] at hc
  refine hc.mono ?_
  rintro e w' ⟨he, n, os, rfl⟩
  have h := oq_sorted encS_ok ho (ys := l.mergeSort fun x y => !(ltOf cS) y x) (List.mergeSort_perm l _).length_eq n os
  exact ⟨he, h.1, h.2⟩
end Go.Proofs.YtcdjmkfpclmbdaaGreatDoor
