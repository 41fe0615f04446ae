/- The walks of the law's 'read' and of the reference's One and Read. -/
import Derived.Test.YtfjigooahdfbpaaRMethods
import Derived.Test.YtfjigooahdfbpaaRefs
set_option linter.unusedVariables false
namespace Go.Proofs.Ytfjigooahdfbpaa
open Go.RowKit

/-- A value with the kind and the limit of another one. -/
def V.zero (v : V) : V := ⟨v.kind, 0, false, ByteArray.empty, v.most⟩

/-- The value at the beginning of bytes that is read like another one, its length, the error. -/
def one (v : V) (b : List UInt8) : V × Nat × Nat :=
  if v.kind.toNat % 4 = 0 then ({ v.zero with n := (pNum v.most b).1 }, (pNum v.most b).2.1, (pNum v.most b).2.2)
  else if v.kind.toNat % 4 = 1 then ({ v.zero with n := (pSig b).1 }, (pSig b).2.1, (pSig b).2.2)
  else if v.kind.toNat % 4 = 2 then ({ v.zero with is := (pFlag b).1 }, (pFlag b).2.1, (pFlag b).2.2)
  else ({ v.zero with s := ⟨(pText v.most b).1.toArray⟩ }, (pText v.most b).2.1, (pText v.most b).2.2)

/-- One value read: what was read, where the Reader stands, its error. -/
def rdstep (l : List UInt8) (st : List V × Nat × Nat) (v : V) : List V × Nat × Nat :=
  (st.1 ++ [if st.2.2 ≠ 0 then v.zero else (one v (l.drop st.2.1)).1], rat st.2.1 st.2.2 (one v (l.drop st.2.1)).2.1 (one v (l.drop st.2.1)).2.2, rerr st.2.2 (one v (l.drop st.2.1)).2.2)

theorem OV.mod {w w' : World} {base : Nat} {v : Value} {l : List V} {S : Nat → Prop} (h : OV w base v l) (hm : Mod w w' S) (hS : ∀ k, v.ownBlock = some k → ¬ S k) : OV w' base v l := by
  refine ⟨h.1, ?_⟩
  rcases h.2 with h2 | ⟨g, cap, cur, rfl, hb, hh, r⟩
  · exact .inl h2
  · have hlt := Blk.lt (t := 56) hh
    exact .inr ⟨g, cap, cur, rfl, hb, (hm.block g hlt (hS g rfl)).trans hh, r⟩
theorem OV.ne_blk {t : TypeId} {w : World} {base g : Nat} {v : Value} {l : List V} {cs : Array Value} (h : OV w base v l) (hb : Blk w g t cs) (hne : 56 ≠ t) : v.ownBlock ≠ some g := by
  rcases h.2 with ⟨rfl, _⟩ | ⟨g', cap, cur, rfl, _, hh, _⟩
  · simp [Value.ownBlock]
  · intro he
    have : g' = g := by simpa [Value.ownBlock] using he
    subst this
    unfold Blk at hb; rw [hh] at hb; injection hb with hb; injection hb with _ h1; exact hne h1
theorem OB.blk {e : TypeId} {w : World} {base : Nat} {v : Value} {l : List UInt8} {k : Nat} (h : OB e w base v l) (hk : v.ownBlock = some k) : ∃ cs, Blk w k e cs := by
  rcases h.2 with ⟨rfl, _⟩ | ⟨g', cap, cur, rfl, _, hh, _⟩
  · simp [Value.ownBlock] at hk
  · have : g' = k := by simpa [Value.ownBlock] using hk
    subst this
    exact ⟨cur, hh⟩
/-- A Reader's blocks are not those of a slice of values. -/
theorem IsR.ne_ov {w : World} {g : Nat} {x : Value} {b : List UInt8} {a e : Nat} {base : Nat} {v : Value} {l : List V} (h : IsR w g x b a e) (ho : OV w base v l) : ∀ k, wfoot g x k → v.ownBlock ≠ some k := by
  rintro k (rfl | hk)
  · exact ho.ne_blk h.1 (by decide)
  · obtain ⟨cs, hb⟩ := OB.blk h.2.1 hk
    exact ho.ne_blk hb (by decide)

theorem one0 (v : V) (b : List UInt8) (h : v.kind.toNat % 4 = 0) : one v b = (⟨v.kind, (pNum v.most b).1, false, ByteArray.empty, v.most⟩, (pNum v.most b).2.1, (pNum v.most b).2.2) := by unfold one; rw [if_pos h]; rfl
theorem one1 (v : V) (b : List UInt8) (h : v.kind.toNat % 4 = 1) : one v b = (⟨v.kind, (pSig b).1, false, ByteArray.empty, v.most⟩, (pSig b).2.1, (pSig b).2.2) := by unfold one; rw [if_neg (by omega), if_pos h]; rfl
theorem one2 (v : V) (b : List UInt8) (h : v.kind.toNat % 4 = 2) : one v b = (⟨v.kind, 0, (pFlag b).1, ByteArray.empty, v.most⟩, (pFlag b).2.1, (pFlag b).2.2) := by unfold one; rw [if_neg (by omega), if_neg (by omega), if_pos h]; rfl
theorem one3 (v : V) (b : List UInt8) (h : v.kind.toNat % 4 = 3) : one v b = (⟨v.kind, 0, false, ⟨(pText v.most b).1.toArray⟩, v.most⟩, (pText v.most b).2.1, (pText v.most b).2.2) := by unfold one; rw [if_neg (by omega), if_neg (by omega), if_neg (by omega)]; rfl

set_option maxHeartbeats 2000000 in
set_option maxRecDepth 100000 in
theorem lread_any (g : Nat) (x : Value) (b : List UInt8) (A : Option Addr) (l : List V) (c B : Nat) (w : World) (h : IsR w g x b 0 0) (hr : RV w B A l) (hl : l.length ≤ 40) (hB : B ≤ w.heap.size) (hf : ∀ k, wfoot g x k → B ≤ k) (hb : b.length ≤ 1000000000) :
    Calls Try.prog 25 #[.pointer (some ⟨g, 0, none⟩), .slice A l.length c] w fun e w' => ∃ v', e = .returned v' ∧ OV w' w.heap.size v' (l.foldl (rdstep b) ([], 0, 0)).1 ∧
      IsR w' g x b (l.foldl (rdstep b) ([], 0, 0)).2.1 (l.foldl (rdstep b) ([], 0, 0)).2.2 ∧ Mod w w' (· = g) := by
  go_enter Try.func25, Try.ntmps25
  go_wp2
  go_loopw [5, 6] (fun u i wr => ∃ k : Nat, k ≤ l.length ∧ i = .int .i64 k ∧ OV wr w.heap.size u ((l.take k).foldl (rdstep b) ([], 0, 0)).1 ∧ ((l.take k).foldl (rdstep b) ([], 0, 0)).1.length = k ∧
    IsR wr g x b ((l.take k).foldl (rdstep b) ([], 0, 0)).2.1 ((l.take k).foldl (rdstep b) ([], 0, 0)).2.2 ∧ Mod w wr (· = g)) (fun _ i _ => l.length - (intOf i).toNat)
  case atStart => exact ⟨0, by omega, rfl, OV.nil _ _, rfl, h, Mod.refl _ _⟩
  case round =>
    obtain ⟨k, hk, rfl, ho, hlen, hi, hm⟩ := hrel
    have hg0 := hf g (.inl rfl)
    have hrr := hr.keep (w' := wr) fun p hp => hm.cell (by omega) (by omega)
    have HR := Lib.hid hrr
    have HF := Lib.hid hf
    obtain ⟨st, es⟩ : ∃ st, st = (l.take k).foldl (rdstep b) ([], 0, 0) := ⟨_, rfl⟩
    rw [← es] at ho hlen hi
    have HE := Lib.hid es
    obtain ⟨out, a, e⟩ := st
    simp only at ho hlen hi
    have HO := Lib.hid ho
    have HI := Lib.hid hi
    have HM := Lib.hid hm
    have hms := hm.size
    have hol : out.length ≤ 40 := by omega
    have HLn := Lib.hid hlen
    clear hr hrr hf es ho hlen hi hm h
    by_cases hlt : k < l.length
    · obtain ⟨bk, off, v, rfl, hbb, hv, h0, h1, h2, h3, h4⟩ := HR.out.at_ hlt
      have hfold : (l.take (k + 1)).foldl (rdstep b) ([], 0, 0) = rdstep b (out, a, e) v := by rw [take_step hv, List.foldl_append, List.foldl_cons, List.foldl_nil, ← HE.out]
      have HFo := Lib.hid hfold
      clear hv h1 h2 h3 hfold
      have hbr : bk < wr.heap.size := by omega
      have a0 : ∀ o, (wr.alloc o).cell? ⟨bk, off + k * 5, none⟩ = some (.int .u8 (v.kind.toNat : Int)) := fun o => (World.cell?_alloc_lt wr o _ hbr).trans h0
      have a4 : ∀ o, (wr.alloc o).cell? ⟨bk, off + k * 5 + 4, none⟩ = some (.int .i64 v.most) := fun o => (World.cell?_alloc_lt wr o _ hbr).trans h4
      rcases (by have := v.kind.toNat_lt; omega : v.kind.toNat % 4 = 0 ∨ v.kind.toNat % 4 = 1 ∨ v.kind.toNat % 4 = 2 ∨ v.kind.toNat % 4 = 3) with hq | hq | hq | hq
      · have t0 : ((v.kind.toNat : Int) % 4 == 0) = true := by simp; omega
        have HQ := Lib.hid (one0 v (b.drop a) hq)
        clear hq
        go_wp2_with fail
        go_region
        go_wp2_with fail
        have hmw : Mod wr (wr.alloc (.cells #[.int .u8 (v.kind.toNat : Int), .int .i64 0, .bool false, .string ⟨#[]⟩, .int .i64 v.most] 56)).drew (· = g) := ((Mod.refl wr _).alloc _).drew
        have hi1 : IsR (wr.alloc (.cells #[.int .u8 (v.kind.toNat : Int), .int .i64 0, .bool false, .string ⟨#[]⟩, .int .i64 v.most] 56)).drew g x b a e := HI.out.alloc _
        have hbk : Blk (wr.alloc (.cells #[.int .u8 (v.kind.toNat : Int), .int .i64 0, .bool false, .string ⟨#[]⟩, .int .i64 v.most] 56)).drew wr.heap.size 56 #[.int .u8 (v.kind.toNat : Int), .int .i64 0, .bool false, .string ⟨#[]⟩, .int .i64 v.most] := Blk.new wr _ _
        have hov : OV (wr.alloc (.cells #[.int .u8 (v.kind.toNat : Int), .int .i64 0, .bool false, .string ⟨#[]⟩, .int .i64 v.most] 56)).drew w.heap.size u5 out := HO.out.alloc _
        refine (numberR_any _ g x b a e v.most hi1 (by omega)).mono ?_
        rintro r w2 ⟨rfl, hi2, hm2⟩
        have hglt := HI.out.1.lt
        have hbk2 := hbk.mod hm2 (show ¬ wr.heap.size = g by omega)
        have hov2 := hov.mod hm2 (fun k hk e' => HI.out.ne_ov HO.out g (.inl rfl) (by rw [hk, e']))
        have hs2 : wr.heap.size + 1 ≤ w2.heap.size := by have := hm2.size; simpa using this
        have c0 : w2.cell? ⟨wr.heap.size, 0, none⟩ = some (.int .u8 (v.kind.toNat : Int)) := hbk2.cell 0
        have c1 : w2.cell? ⟨wr.heap.size, 1, none⟩ = some (.int .i64 0) := hbk2.cell 1
        have c2 : w2.cell? ⟨wr.heap.size, 2, none⟩ = some (.bool false) := hbk2.cell 2
        have c3 : w2.cell? ⟨wr.heap.size, 3, none⟩ = some (.string ⟨#[]⟩) := hbk2.cell 3
        have c4 : w2.cell? ⟨wr.heap.size, 4, none⟩ = some (.int .i64 v.most) := hbk2.cell 4
        have f0 : w2.frozen? ⟨wr.heap.size, 1, none⟩ = false := hbk2.frozen 1
        obtain ⟨y, hy⟩ : ∃ y, y = (if e ≠ 0 then 0 else (pNum v.most (b.drop a)).1) := ⟨_, rfl⟩
        rw [← hy]
        have hms2 : Mod wr (w2.setCell ⟨wr.heap.size, 1, none⟩ (.int .i64 y)) (· = g) := (hmw.trans hm2 fun _ _ h => h).setCell (p := ⟨wr.heap.size, 1, none⟩) (fun h => absurd h (by simp)) _
        have hset : Mod w2 (w2.setCell ⟨wr.heap.size, 1, none⟩ (.int .i64 y)) (· = wr.heap.size) := Mod.setCell (S := (· = wr.heap.size)) (Mod.refl w2 _) (p := ⟨wr.heap.size, 1, none⟩) (fun _ => rfl) _
        have hov3 := Lib.hid (hov2.mod hset (fun k hk e' => by have := (HO.out.lt k hk).2; omega))
        have hi3 := Lib.hid (hi2.mod hset (fun k hk e' => by have := HI.out.foot_lt k hk; omega))
        have HM3 := Lib.hid hms2
        have HSS := Lib.hid (show (w2.setCell ⟨wr.heap.size, 1, none⟩ (.int .i64 y)).heap.size = w2.heap.size by simp [World.setCell])
        have HVS := Lib.hid (show (⟨v.kind, y, false, ⟨#[]⟩, v.most⟩ : V) = (if e ≠ 0 then v.zero else (one v (b.drop a)).1) by rw [HQ.out, hy]; unfold V.zero; split <;> rfl)
        clear hmw hi1 hbk hov hi2 hm2 hbk2 hov2 hms2 hset hy
        go_wp2_with (at_builtin; refine wpList_pushV rfl (.tmp 50) (.tmp 52) rfl w.heap.size _ out rfl _ (⟨v.kind, y, false, ⟨#[]⟩, v.most⟩ : V) rfl hov3.out _ rfl HSS.out (by omega) (by rw [HSS.out]; omega) ?_)
        intro v1 w3 ho3 hg3
        have hi4 := hi3.out.mod hg3.mod (fun k hk hk2 => hi3.out.ne_ov hov3.out k hk hk2)
        have hm34 : Mod wr w3 (fun k => k = g ∨ u5.ownBlock = some k) := (HM3.out.mono (T := fun k => k = g ∨ u5.ownBlock = some k) (fun _ _ h => .inl h)).trans hg3.mod (fun _ _ h => .inr h)
        have hm4 : Mod w w3 (· = g) := HM.out.trans hm34 (fun i hi h => by
          rcases h with h | h
          · exact h
          · have := (HO.out.lt i h).1; omega)
        have HO3 := Lib.hid ho3
        have HI4 := Lib.hid hi4
        have HM4 := Lib.hid hm4
        clear ho3 hg3 hi4 hm34 hm4 c0 c1 c2 c3 c4 f0
        go_wp2
        go_roundw
        case rel =>
          refine ⟨k + 1, by omega, by go_num, ?_, ?_, ?_, HM4.out⟩
          all_goals rw [HFo.out]
          · show OV w3 w.heap.size v1 (out ++ [if e ≠ 0 then v.zero else (one v (b.drop a)).1])
            rw [← HVS.out]; exact HO3.out
          · show (out ++ [_]).length = k + 1
            have := HLn.out; simp; omega
          · show IsR w3 g x b (rat a e (one v (b.drop a)).2.1 (one v (b.drop a)).2.2) (rerr e (one v (b.drop a)).2.2)
            rw [HQ.out]; exact HI4.out
        case measure => simp [intOf] <;> omega
      · have t0 : ((v.kind.toNat : Int) % 4 == 0) = false := by simp; omega
        have t1 : ((v.kind.toNat : Int) % 4 == 1) = true := by simp; omega
        have HQ := Lib.hid (one1 v (b.drop a) hq)
        clear hq
        go_wp2_with fail
        go_region
        go_wp2_with fail
        have hmw : Mod wr (wr.alloc (.cells #[.int .u8 (v.kind.toNat : Int), .int .i64 0, .bool false, .string ⟨#[]⟩, .int .i64 v.most] 56)).drew (· = g) := ((Mod.refl wr _).alloc _).drew
        have hi1 : IsR (wr.alloc (.cells #[.int .u8 (v.kind.toNat : Int), .int .i64 0, .bool false, .string ⟨#[]⟩, .int .i64 v.most] 56)).drew g x b a e := HI.out.alloc _
        have hbk : Blk (wr.alloc (.cells #[.int .u8 (v.kind.toNat : Int), .int .i64 0, .bool false, .string ⟨#[]⟩, .int .i64 v.most] 56)).drew wr.heap.size 56 #[.int .u8 (v.kind.toNat : Int), .int .i64 0, .bool false, .string ⟨#[]⟩, .int .i64 v.most] := Blk.new wr _ _
        have hov : OV (wr.alloc (.cells #[.int .u8 (v.kind.toNat : Int), .int .i64 0, .bool false, .string ⟨#[]⟩, .int .i64 v.most] 56)).drew w.heap.size u5 out := HO.out.alloc _
        refine (signedR_any _ g x b a e hi1 (by omega)).mono ?_
        rintro r w2 ⟨rfl, hi2, hm2⟩
        have hglt := HI.out.1.lt
        have hbk2 := hbk.mod hm2 (show ¬ wr.heap.size = g by omega)
        have hov2 := hov.mod hm2 (fun k hk e' => HI.out.ne_ov HO.out g (.inl rfl) (by rw [hk, e']))
        have hs2 : wr.heap.size + 1 ≤ w2.heap.size := by have := hm2.size; simpa using this
        have c0 : w2.cell? ⟨wr.heap.size, 0, none⟩ = some (.int .u8 (v.kind.toNat : Int)) := hbk2.cell 0
        have c1 : w2.cell? ⟨wr.heap.size, 1, none⟩ = some (.int .i64 0) := hbk2.cell 1
        have c2 : w2.cell? ⟨wr.heap.size, 2, none⟩ = some (.bool false) := hbk2.cell 2
        have c3 : w2.cell? ⟨wr.heap.size, 3, none⟩ = some (.string ⟨#[]⟩) := hbk2.cell 3
        have c4 : w2.cell? ⟨wr.heap.size, 4, none⟩ = some (.int .i64 v.most) := hbk2.cell 4
        have f0 : w2.frozen? ⟨wr.heap.size, 1, none⟩ = false := hbk2.frozen 1
        obtain ⟨y, hy⟩ : ∃ y, y = (if e ≠ 0 then 0 else (pSig (b.drop a)).1) := ⟨_, rfl⟩
        rw [← hy]
        have hms2 : Mod wr (w2.setCell ⟨wr.heap.size, 1, none⟩ (.int .i64 y)) (· = g) := (hmw.trans hm2 fun _ _ h => h).setCell (p := ⟨wr.heap.size, 1, none⟩) (fun h => absurd h (by simp)) _
        have hset : Mod w2 (w2.setCell ⟨wr.heap.size, 1, none⟩ (.int .i64 y)) (· = wr.heap.size) := Mod.setCell (S := (· = wr.heap.size)) (Mod.refl w2 _) (p := ⟨wr.heap.size, 1, none⟩) (fun _ => rfl) _
        have hov3 := Lib.hid (hov2.mod hset (fun k hk e' => by have := (HO.out.lt k hk).2; omega))
        have hi3 := Lib.hid (hi2.mod hset (fun k hk e' => by have := HI.out.foot_lt k hk; omega))
        have HM3 := Lib.hid hms2
        have HSS := Lib.hid (show (w2.setCell ⟨wr.heap.size, 1, none⟩ (.int .i64 y)).heap.size = w2.heap.size by simp [World.setCell])
        have HVS := Lib.hid (show (⟨v.kind, y, false, ⟨#[]⟩, v.most⟩ : V) = (if e ≠ 0 then v.zero else (one v (b.drop a)).1) by rw [HQ.out, hy]; unfold V.zero; split <;> rfl)
        clear hmw hi1 hbk hov hi2 hm2 hbk2 hov2 hms2 hset hy
        go_wp2_with (at_builtin; refine wpList_pushV rfl (.tmp 50) (.tmp 52) rfl w.heap.size _ out rfl _ (⟨v.kind, y, false, ⟨#[]⟩, v.most⟩ : V) rfl hov3.out _ rfl HSS.out (by omega) (by rw [HSS.out]; omega) ?_)
        intro v1 w3 ho3 hg3
        have hi4 := hi3.out.mod hg3.mod (fun k hk hk2 => hi3.out.ne_ov hov3.out k hk hk2)
        have hm34 : Mod wr w3 (fun k => k = g ∨ u5.ownBlock = some k) := (HM3.out.mono (T := fun k => k = g ∨ u5.ownBlock = some k) (fun _ _ h => .inl h)).trans hg3.mod (fun _ _ h => .inr h)
        have hm4 : Mod w w3 (· = g) := HM.out.trans hm34 (fun i hi h => by
          rcases h with h | h
          · exact h
          · have := (HO.out.lt i h).1; omega)
        have HO3 := Lib.hid ho3
        have HI4 := Lib.hid hi4
        have HM4 := Lib.hid hm4
        clear ho3 hg3 hi4 hm34 hm4 c0 c1 c2 c3 c4 f0
        go_wp2
        go_roundw
        case rel =>
          refine ⟨k + 1, by omega, by go_num, ?_, ?_, ?_, HM4.out⟩
          all_goals rw [HFo.out]
          · show OV w3 w.heap.size v1 (out ++ [if e ≠ 0 then v.zero else (one v (b.drop a)).1])
            rw [← HVS.out]; exact HO3.out
          · show (out ++ [_]).length = k + 1
            have := HLn.out; simp; omega
          · show IsR w3 g x b (rat a e (one v (b.drop a)).2.1 (one v (b.drop a)).2.2) (rerr e (one v (b.drop a)).2.2)
            rw [HQ.out]; exact HI4.out
        case measure => simp [intOf] <;> omega
      · have t0 : ((v.kind.toNat : Int) % 4 == 0) = false := by simp; omega
        have t1 : ((v.kind.toNat : Int) % 4 == 1) = false := by simp; omega
        have t2 : ((v.kind.toNat : Int) % 4 == 2) = true := by simp; omega
        have HQ := Lib.hid (one2 v (b.drop a) hq)
        clear hq
        go_wp2_with fail
        go_region
        go_wp2_with fail
        have hmw : Mod wr (wr.alloc (.cells #[.int .u8 (v.kind.toNat : Int), .int .i64 0, .bool false, .string ⟨#[]⟩, .int .i64 v.most] 56)).drew (· = g) := ((Mod.refl wr _).alloc _).drew
        have hi1 : IsR (wr.alloc (.cells #[.int .u8 (v.kind.toNat : Int), .int .i64 0, .bool false, .string ⟨#[]⟩, .int .i64 v.most] 56)).drew g x b a e := HI.out.alloc _
        have hbk : Blk (wr.alloc (.cells #[.int .u8 (v.kind.toNat : Int), .int .i64 0, .bool false, .string ⟨#[]⟩, .int .i64 v.most] 56)).drew wr.heap.size 56 #[.int .u8 (v.kind.toNat : Int), .int .i64 0, .bool false, .string ⟨#[]⟩, .int .i64 v.most] := Blk.new wr _ _
        have hov : OV (wr.alloc (.cells #[.int .u8 (v.kind.toNat : Int), .int .i64 0, .bool false, .string ⟨#[]⟩, .int .i64 v.most] 56)).drew w.heap.size u5 out := HO.out.alloc _
        refine (flagR_any _ g x b a e hi1 (by omega)).mono ?_
        rintro r w2 ⟨rfl, hi2, hm2⟩
        have hglt := HI.out.1.lt
        have hbk2 := hbk.mod hm2 (show ¬ wr.heap.size = g by omega)
        have hov2 := hov.mod hm2 (fun k hk e' => HI.out.ne_ov HO.out g (.inl rfl) (by rw [hk, e']))
        have hs2 : wr.heap.size + 1 ≤ w2.heap.size := by have := hm2.size; simpa using this
        have c0 : w2.cell? ⟨wr.heap.size, 0, none⟩ = some (.int .u8 (v.kind.toNat : Int)) := hbk2.cell 0
        have c1 : w2.cell? ⟨wr.heap.size, 1, none⟩ = some (.int .i64 0) := hbk2.cell 1
        have c2 : w2.cell? ⟨wr.heap.size, 2, none⟩ = some (.bool false) := hbk2.cell 2
        have c3 : w2.cell? ⟨wr.heap.size, 3, none⟩ = some (.string ⟨#[]⟩) := hbk2.cell 3
        have c4 : w2.cell? ⟨wr.heap.size, 4, none⟩ = some (.int .i64 v.most) := hbk2.cell 4
        have f0 : w2.frozen? ⟨wr.heap.size, 2, none⟩ = false := hbk2.frozen 2
        obtain ⟨y, hy⟩ : ∃ y, y = (if e ≠ 0 then false else (pFlag (b.drop a)).1) := ⟨_, rfl⟩
        rw [← hy]
        have hms2 : Mod wr (w2.setCell ⟨wr.heap.size, 2, none⟩ (.bool y)) (· = g) := (hmw.trans hm2 fun _ _ h => h).setCell (p := ⟨wr.heap.size, 2, none⟩) (fun h => absurd h (by simp)) _
        have hset : Mod w2 (w2.setCell ⟨wr.heap.size, 2, none⟩ (.bool y)) (· = wr.heap.size) := Mod.setCell (S := (· = wr.heap.size)) (Mod.refl w2 _) (p := ⟨wr.heap.size, 2, none⟩) (fun _ => rfl) _
        have hov3 := Lib.hid (hov2.mod hset (fun k hk e' => by have := (HO.out.lt k hk).2; omega))
        have hi3 := Lib.hid (hi2.mod hset (fun k hk e' => by have := HI.out.foot_lt k hk; omega))
        have HM3 := Lib.hid hms2
        have HSS := Lib.hid (show (w2.setCell ⟨wr.heap.size, 2, none⟩ (.bool y)).heap.size = w2.heap.size by simp [World.setCell])
        have HVS := Lib.hid (show (⟨v.kind, 0, y, ⟨#[]⟩, v.most⟩ : V) = (if e ≠ 0 then v.zero else (one v (b.drop a)).1) by rw [HQ.out, hy]; unfold V.zero; split <;> rfl)
        clear hmw hi1 hbk hov hi2 hm2 hbk2 hov2 hms2 hset hy
        go_wp2_with (at_builtin; refine wpList_pushV rfl (.tmp 50) (.tmp 52) rfl w.heap.size _ out rfl _ (⟨v.kind, 0, y, ⟨#[]⟩, v.most⟩ : V) rfl hov3.out _ rfl HSS.out (by omega) (by rw [HSS.out]; omega) ?_)
        intro v1 w3 ho3 hg3
        have hi4 := hi3.out.mod hg3.mod (fun k hk hk2 => hi3.out.ne_ov hov3.out k hk hk2)
        have hm34 : Mod wr w3 (fun k => k = g ∨ u5.ownBlock = some k) := (HM3.out.mono (T := fun k => k = g ∨ u5.ownBlock = some k) (fun _ _ h => .inl h)).trans hg3.mod (fun _ _ h => .inr h)
        have hm4 : Mod w w3 (· = g) := HM.out.trans hm34 (fun i hi h => by
          rcases h with h | h
          · exact h
          · have := (HO.out.lt i h).1; omega)
        have HO3 := Lib.hid ho3
        have HI4 := Lib.hid hi4
        have HM4 := Lib.hid hm4
        clear ho3 hg3 hi4 hm34 hm4 c0 c1 c2 c3 c4 f0
        go_wp2
        go_roundw
        case rel =>
          refine ⟨k + 1, by omega, by go_num, ?_, ?_, ?_, HM4.out⟩
          all_goals rw [HFo.out]
          · show OV w3 w.heap.size v1 (out ++ [if e ≠ 0 then v.zero else (one v (b.drop a)).1])
            rw [← HVS.out]; exact HO3.out
          · show (out ++ [_]).length = k + 1
            have := HLn.out; simp; omega
          · show IsR w3 g x b (rat a e (one v (b.drop a)).2.1 (one v (b.drop a)).2.2) (rerr e (one v (b.drop a)).2.2)
            rw [HQ.out]; exact HI4.out
        case measure => simp [intOf] <;> omega
      · have t0 : ((v.kind.toNat : Int) % 4 == 0) = false := by simp; omega
        have t1 : ((v.kind.toNat : Int) % 4 == 1) = false := by simp; omega
        have t2 : ((v.kind.toNat : Int) % 4 == 2) = false := by simp; omega
        have HQ := Lib.hid (one3 v (b.drop a) hq)
        clear hq
        go_wp2_with fail
        go_region
        go_wp2_with fail
        have hmw : Mod wr (wr.alloc (.cells #[.int .u8 (v.kind.toNat : Int), .int .i64 0, .bool false, .string ⟨#[]⟩, .int .i64 v.most] 56)).drew (· = g) := ((Mod.refl wr _).alloc _).drew
        have hi1 : IsR (wr.alloc (.cells #[.int .u8 (v.kind.toNat : Int), .int .i64 0, .bool false, .string ⟨#[]⟩, .int .i64 v.most] 56)).drew g x b a e := HI.out.alloc _
        have hbk : Blk (wr.alloc (.cells #[.int .u8 (v.kind.toNat : Int), .int .i64 0, .bool false, .string ⟨#[]⟩, .int .i64 v.most] 56)).drew wr.heap.size 56 #[.int .u8 (v.kind.toNat : Int), .int .i64 0, .bool false, .string ⟨#[]⟩, .int .i64 v.most] := Blk.new wr _ _
        have hov : OV (wr.alloc (.cells #[.int .u8 (v.kind.toNat : Int), .int .i64 0, .bool false, .string ⟨#[]⟩, .int .i64 v.most] 56)).drew w.heap.size u5 out := HO.out.alloc _
        refine (textR_any _ g x b a e v.most hi1 (by omega)).mono ?_
        rintro r w2 ⟨rfl, hi2, hm2⟩
        have hglt := HI.out.1.lt
        have hbk2 := hbk.mod hm2 (show ¬ wr.heap.size = g by omega)
        have hov2 := hov.mod hm2 (fun k hk e' => HI.out.ne_ov HO.out g (.inl rfl) (by rw [hk, e']))
        have hs2 : wr.heap.size + 1 ≤ w2.heap.size := by have := hm2.size; simpa using this
        have c0 : w2.cell? ⟨wr.heap.size, 0, none⟩ = some (.int .u8 (v.kind.toNat : Int)) := hbk2.cell 0
        have c1 : w2.cell? ⟨wr.heap.size, 1, none⟩ = some (.int .i64 0) := hbk2.cell 1
        have c2 : w2.cell? ⟨wr.heap.size, 2, none⟩ = some (.bool false) := hbk2.cell 2
        have c3 : w2.cell? ⟨wr.heap.size, 3, none⟩ = some (.string ⟨#[]⟩) := hbk2.cell 3
        have c4 : w2.cell? ⟨wr.heap.size, 4, none⟩ = some (.int .i64 v.most) := hbk2.cell 4
        have f0 : w2.frozen? ⟨wr.heap.size, 3, none⟩ = false := hbk2.frozen 3
        obtain ⟨y, hy⟩ : ∃ y, y = (if e ≠ 0 then ByteArray.empty else ⟨(pText v.most (b.drop a)).1.toArray⟩) := ⟨_, rfl⟩
        rw [← hy]
        have hms2 : Mod wr (w2.setCell ⟨wr.heap.size, 3, none⟩ (.string y)) (· = g) := (hmw.trans hm2 fun _ _ h => h).setCell (p := ⟨wr.heap.size, 3, none⟩) (fun h => absurd h (by simp)) _
        have hset : Mod w2 (w2.setCell ⟨wr.heap.size, 3, none⟩ (.string y)) (· = wr.heap.size) := Mod.setCell (S := (· = wr.heap.size)) (Mod.refl w2 _) (p := ⟨wr.heap.size, 3, none⟩) (fun _ => rfl) _
        have hov3 := Lib.hid (hov2.mod hset (fun k hk e' => by have := (HO.out.lt k hk).2; omega))
        have hi3 := Lib.hid (hi2.mod hset (fun k hk e' => by have := HI.out.foot_lt k hk; omega))
        have HM3 := Lib.hid hms2
        have HSS := Lib.hid (show (w2.setCell ⟨wr.heap.size, 3, none⟩ (.string y)).heap.size = w2.heap.size by simp [World.setCell])
        have HVS := Lib.hid (show (⟨v.kind, 0, false, y, v.most⟩ : V) = (if e ≠ 0 then v.zero else (one v (b.drop a)).1) by rw [HQ.out, hy]; unfold V.zero; split <;> rfl)
        clear hmw hi1 hbk hov hi2 hm2 hbk2 hov2 hms2 hset hy
        go_wp2_with (at_builtin; refine wpList_pushV rfl (.tmp 50) (.tmp 52) rfl w.heap.size _ out rfl _ (⟨v.kind, 0, false, y, v.most⟩ : V) rfl hov3.out _ rfl HSS.out (by omega) (by rw [HSS.out]; omega) ?_)
        intro v1 w3 ho3 hg3
        have hi4 := hi3.out.mod hg3.mod (fun k hk hk2 => hi3.out.ne_ov hov3.out k hk hk2)
        have hm34 : Mod wr w3 (fun k => k = g ∨ u5.ownBlock = some k) := (HM3.out.mono (T := fun k => k = g ∨ u5.ownBlock = some k) (fun _ _ h => .inl h)).trans hg3.mod (fun _ _ h => .inr h)
        have hm4 : Mod w w3 (· = g) := HM.out.trans hm34 (fun i hi h => by
          rcases h with h | h
          · exact h
          · have := (HO.out.lt i h).1; omega)
        have HO3 := Lib.hid ho3
        have HI4 := Lib.hid hi4
        have HM4 := Lib.hid hm4
        clear ho3 hg3 hi4 hm34 hm4 c0 c1 c2 c3 c4 f0
        go_wp2
        go_roundw
        case rel =>
          refine ⟨k + 1, by omega, by go_num, ?_, ?_, ?_, HM4.out⟩
          all_goals rw [HFo.out]
          · show OV w3 w.heap.size v1 (out ++ [if e ≠ 0 then v.zero else (one v (b.drop a)).1])
            rw [← HVS.out]; exact HO3.out
          · show (out ++ [_]).length = k + 1
            have := HLn.out; simp; omega
          · show IsR w3 g x b (rat a e (one v (b.drop a)).2.1 (one v (b.drop a)).2.2) (rerr e (one v (b.drop a)).2.2)
            rw [HQ.out]; exact HI4.out
        case measure => simp [intOf] <;> omega
    · have he : l.foldl (rdstep b) ([], 0, 0) = (out, a, e) := by rw [HE.out, List.take_of_length_le (by omega)]
      have HX := Lib.hid he
      clear he
      go_wp2
      go_ret
      exact ⟨u5, rfl, by rw [HX.out]; exact HO.out, by rw [HX.out]; exact HI.out, HM.out⟩
end Go.Proofs.Ytfjigooahdfbpaa
