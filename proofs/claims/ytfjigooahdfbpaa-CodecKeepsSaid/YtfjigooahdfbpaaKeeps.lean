/- The walk of the statement CodecKeeps. -/
import Derived.Test.YtfjigooahdfbpaaOne
import Derived.Deep.RegionHeld3
set_option linter.unusedVariables false
namespace Go.Proofs.Ytfjigooahdfbpaa
open Go.RowKit

section
variable {P : Program} {t e : TypeId}
theorem step_append_of {ops : Array Oper} {o : Oper} {a : Act} {K : Act → World → Prop} {Q : Exit → Act → World → Prop} {w : World} {E : Prop} (hgd : o.guard = none) (s x : Operand) (t u : TypeId)
    (ho : o.op = .call { callee := .builtin .append, args := #[s, x], argTypes := #[t, u] }) {v x' v' : Value} {w' : World} (hs : a.eval s = v) (hx : a.eval x = x')
    (hr : (Builtin.append_ #[t, u] o.type #[v, x']).run P w = .ok v' w') (hK : K (a.put o.dst v') w') : if Region.wanted o (yielded ops a.tmps) = true then Oper.wp P o a w K Q else E := by
  have hw : Region.wanted o (yielded ops a.tmps) = true := by simp [Region.wanted, hgd]
  rw [if_pos hw]
  unfold Oper.wp execOp
  simp only [ho, resolve, invoke, builtin, Sem.run_bind, Sem.run_pure, Result.andThen_ok, List.map_toArray, List.map_cons, List.map_nil, hs, hx, hr]
  exact hK
theorem step_app {ops : Array Oper} {o : Oper} {a : Act} {K : Act → World → Prop} {Q : Exit → Act → World → Prop} {w : World} {E : Prop} (hP : ByteSlice P t e) (hgd : o.guard = none) (s x : Operand)
    (ho : o.op = .call { callee := .builtin .append, args := #[s, x], argTypes := #[t, t] }) (base : Nat) (v : Value) (l : List UInt8) (hs : a.eval s = v) (hown : OB e w base v l)
    (B : Nat) (A : Option Addr) (m : List UInt8) (c : Nat) (hx : a.eval x = .slice A m.length c) (hr : RB w B A m) (hlen : l.length + m.length ≤ 140737488355328) (hbase : base ≤ w.heap.size)
    (h : ∀ v' w', OB e w' base v' (l ++ m) → Grew w w' v v' → K (a.put o.dst v') w') : if Region.wanted o (yielded ops a.tmps) = true then Oper.wp P o a w K Q else E := by
  obtain ⟨v', w', h1, h2, h3⟩ := run_app hP w o.type base v l hown B A m c hr hlen hbase
  exact step_append_of hgd s x t t ho hs hx h1 (h v' w' h2 h3)
end

/-- An empty slice that is not nil. -/
theorem ob_empty {e : TypeId} {w : World} {base g : Nat} (hg : w.heap[g]? = some (.cells #[] e (0, 0))) (hb : base ≤ g) : OB e w base (.slice (some ⟨g, 0, none⟩) 0 0) [] :=
  ⟨by simp, .inr ⟨g, 0, #[], rfl, hb, hg, by simp, Nat.zero_le _, by simp, by simp⟩⟩

/-- The slice value v owns k bytes that may be written. -/
theorem OB.put {e : TypeId} {w : World} {base : Nat} {A : Option Addr} {n cap : Nat} {l : List UInt8} (h : OB e w base (.slice A n cap) l) {k : Nat} (hk : k < l.length) :
    ∃ g c, A = some ⟨g, 0, none⟩ ∧ n = l.length ∧ base ≤ g ∧ l[k]? = some c ∧ w.cell? ⟨g, k, none⟩ = some (bv c) ∧ w.frozen? ⟨g, k, none⟩ = false ∧ ∀ d : UInt8, OB e (w.setCell ⟨g, k, none⟩ (bv d)) base (.slice A n cap) (l.set k d) := by
  rcases h.2 with ⟨he, h0⟩ | ⟨g, cap', cur, he, hbg, hg, hnc, hcm, hcs, htake⟩
  · injection he with h1 h2 h3
    omega
  · injection he with h1 h2 h3
    subst h1 h2 h3
    have hc : cur[k]? = some (bv l[k]) := by
      have h4 : (cur.toList.take l.length)[k]? = some (bv l[k]) := by
        have h5 : cur.toList.take l.length = l.map bv := by simpa using htake
        rw [h5, List.getElem?_map, List.getElem?_eq_getElem hk]; rfl
      rw [List.getElem?_take, if_pos hk] at h4
      simpa using h4
    refine ⟨g, l[k], rfl, rfl, hbg, List.getElem?_eq_getElem hk, by rw [cell_of_row w g k cur e (0, 0) hg]; exact hc, frozen_of_row w g k cur e hg, fun d => ⟨by simp, .inr ⟨g, cap, cur.setIfInBounds k (bv d), by simp, hbg, heap_setCell_same w g k cur e (bv d) hg, by simpa using hnc, hcm, by simpa using hcs, ?_⟩⟩⟩
    have h5 : cur.toList.take l.length = l.map bv := by simpa using htake
    have h6 : (cur.setIfInBounds k (bv d)).toList.take l.length = (l.set k d).map bv := by
      rw [Array.toList_setIfInBounds, List.take_set, h5, List.map_set]
    simpa using h6

theorem below_alloc0K (w : World) (o : Obj) {B : Nat} (h : B ≤ w.heap.size) : Below B w (w.alloc o) := (Below.refl _ _).alloc h o
theorem byte_succ (c : UInt8) : ((c.toNat : Int) + 1) % 256 = ((c + 1).toNat : Int) := by
  have : (c + 1).toNat = (c.toNat + 1) % 256 := by rw [UInt8.toNat_add]; rfl
  rw [this]; omega

theorem bytesW_all (w : World) (g : Nat) (v : Value) (l : List UInt8) (e : Nat) (h : IsW w g v l e) (hl : l.length ≤ 140737488355328) :
    Calls Try.prog 21 #[.pointer (some ⟨g, 0, none⟩)] w fun r w' => ∃ v', r = .returned (.tuple #[v', .int .i64 (e : Int)]) ∧ OB 5 w' w.heap.size v' (if e = 0 then l else []) ∧ Below w.heap.size w w' := by
  by_cases he : e = 0
  · subst he; exact bytesW_any w g v l h hl
  · refine (bytesW_err w g v l e h he).mono ?_
    rintro r w' ⟨rfl, hb⟩
    rw [if_neg he]
    exact ⟨_, rfl, OB.nil _ _ _, hb⟩
theorem keeps_a {w1 w2 : World} {base : Nat} {v1 v2 : Value} {m : List V} {o : Obj} (ho : OV w1 base v1 m) (hg : Grew (w1.alloc o) w2 (.slice (some ⟨w1.heap.size, 0, none⟩) 0 0) v2) : OV w2 base v1 m :=
  World.ownsRow.kept (ho.alloc o) hg.1 (by
    cases h : v1.ownBlock with
    | none => exact .inl rfl
    | some k => exact .inr (by have := (ho.lt k h).2; simp [Value.ownBlock]; omega))
theorem keeps_b {w1 w2 : World} {base g : Nat} {v1 v2 : Value} {m : List V} (ho : OV w1 base v1 m) (hg : Grew w1 w2 (.slice (some ⟨g, 0, none⟩) 0 0) v2) (hb : g < base) : OV w2 base v1 m :=
  World.ownsRow.kept ho hg.1 (by
    cases h : v1.ownBlock with
    | none => exact .inl rfl
    | some k => exact .inr (by have := (ho.lt k h).1; simp [Value.ownBlock]; omega))
theorem Grew.undrew {w w' : World} {v v' : Value} (h : Grew w.drew w' v v') : Grew w w' v v' := ⟨⟨h.1.os, h.1.tape, h.1.output, h.1.size, h.1.block⟩, h.2⟩
theorem wrap_smallK (x : Int) (h0 : 0 ≤ x) (h1 : x < 9223372036854775808) : wrap64 x = x := by unfold wrap64; omega
theorem keeps_len {L Lb : List UInt8} {e : Nat} (h : Lb = if e = 0 then L else []) (hl : L.length ≤ 140737488355328) : Lb.length ≤ 140737488355328 := by rw [h]; split; exact hl; simp
theorem keeps_wrap {k n : Nat} (h : (k : Int) < (n : Int)) (hn : n ≤ 140737488355328) : wrap64 ((k : Int) + 1) = (k : Int) + 1 := wrap_smallK _ (by omega) (by omega)
theorem cwp_genK {P : Program} {c : Code} {a : Act} {Q : Exit → Act → World → Prop} {W : World} (R : World → Prop) (hR : R W) (h : ∀ W0, R W0 → c.wp P Q a W0) : c.wp P Q a W := h W hR
def one1V : V := ⟨1, 0, false, ByteArray.empty, 0⟩
theorem Mod.setOwn {a w : World} {S : Nat → Prop} (h : Mod a w S) {g k : Nat} (u : Value) (hS : S g) : Mod a (w.setCell ⟨g, k, none⟩ u) S := h.setCell (p := ⟨g, k, none⟩) (fun _ => hS) u

set_option maxHeartbeats 4000000 in
set_option maxRecDepth 100000 in
theorem codecKeeps_walk (B : Option Addr) (l : List V) (d : Nat) (A : Option Addr) (b : List UInt8) (c : Nat) (w : World) (hq : RV w w.heap.size B l) (hm : l.length ≤ d) (hd : d ≤ maxLen) (hok : ∀ v ∈ l, V.Ok v) (hr : RB w w.heap.size A b) (hl : b.length ≤ c) (hc : c ≤ maxLen) :
    Calls Try.prog 10 #[.slice B l.length d, .slice A b.length c] w fun r w' => r = .returned (.bool true) ∧ Below w.heap.size w w' := by
  unfold maxLen at hc hd
  have HS := Lib.hid (fun W (hb : Below w.heap.size w W) => short_any B l d W ((hq.below hb).more hb.size) (by omega) hok)
  have HK := Lib.hid (short_ok hok)
  have hln := short_len l
  obtain ⟨m, em⟩ : ∃ m, m = shortL l := ⟨_, rfl⟩
  rw [← em] at HS HK hln
  have hbm := hr.take 200
  obtain ⟨x, ex⟩ : ∃ x, x = b.take 200 := ⟨_, rfl⟩
  have hxl : x.length ≤ 200 := by rw [ex, List.length_take]; omega
  have hlen : (min (b.length : Int) 200).toNat = x.length := by rw [ex, List.length_take]; omega
  have hxc : x.length ≤ c := by rw [ex, List.length_take]; omega
  rw [← ex] at hbm
  have HX := Lib.hid hbm
  have hsi : min (b.length : Int) 200 ≤ (c : Int) := by omega
  have hsi0 : (0 : Int) ≤ min (b.length : Int) 200 := by omega
  have hxlen : ([] : List UInt8).length + x.length ≤ 140737488355328 := by simp; omega
  have HXL := Lib.hid hxl
  have HXN := Lib.hid hxlen
  clear em hok hq hr hbm ex hxl hxlen
  go_enter Try.func10, Try.ntmps10
  go_wp2_with fail
  have K0 : Below w.heap.size w w.drew := (Below.refl _ w).drew
  have K1 : ∀ o : Obj, Below w.heap.size w (w.alloc o).drew := fun o => ((Below.refl _ w).alloc (Nat.le_refl _) o).drew
  have KK0 := Lib.hid K0
  have KK1 := Lib.hid K1
  clear K0 K1
  rename_i Q' K hK
  have key : ∀ (v1 v2 : Value) (G : Nat) (w2 : World), (∃ bs, OV w2 bs v1 m) → OB 5 w2 w.heap.size v2 x → Below w.heap.size w w2 → K { tmps := #[v1, v2, undef, undef, .bool false, undef, undef, undef, undef, undef, undef, undef, undef, undef, undef, undef, undef, undef, .slice B l.length d, v1, .slice (some ⟨G, 0, none⟩) 0 0, .slice A b.length c, .slice A b.length c, .int .i64 (b.length : Int), .int .i64 (min (b.length : Int) 200), .slice A x.length c, v2, undef, undef, undef, undef, undef, undef, undef, undef, undef, undef, undef, undef, undef, undef, undef, undef, undef, undef, undef, undef, undef, undef, undef, undef, undef, undef, undef, undef, undef, undef, undef, undef, undef, undef, undef, undef, undef, undef, undef, undef, undef, undef, undef, undef, undef, undef, undef, undef, undef, undef, undef, undef, undef, undef, undef, undef, undef, undef, undef, undef, undef, undef, undef, undef, undef, undef, undef, undef, undef, undef, undef, undef, undef, undef, undef, undef, undef, undef, undef, undef, undef], defers := [] } w2 := by
    rintro v1 v2 G w2 ⟨bs, hv1⟩ hv2 hb2
    refine hK _ _ ?_
    obtain ⟨A1, c1, rfl, hr1, _, _⟩ := hv1.form
    have hlt2 := hv2.lt
    obtain ⟨A2, c2, rfl, hr2, hl2, hm2⟩ := hv2.form
    have HR1 := Lib.hid hr1
    have HO2 := Lib.hid hv2
    have HB2 := Lib.hid hb2
    have HLT := Lib.hid hlt2
    clear hv1 hv2 hb2 hr1 hr2 hlt2
    go_wp2_with fail
    refine (newWriter_any w2).mono ?_
    rintro y w3 ⟨rfl, hw3, hb3⟩
    obtain ⟨g, hg⟩ : ∃ g, g = w2.heap.size := ⟨_, rfl⟩
    rw [← hg] at hw3 hb3 ⊢
    have hnil : ∀ k, wfoot g (.slice none 0 0) k → k = g := by
      rintro k (h | h)
      · exact h
      · simp [Value.ownBlock] at h
    have hg3 : g < w3.heap.size := hw3.1.lt
    have HC := Lib.hid (write_any g _ ([], 0) A1 m c1 g w3 hw3 (by have h := HR1.out; rw [← hg] at h; exact h.below hb3) hln HK.out (by omega) (fun k hk => by rw [hnil k hk]; exact Nat.le_refl _) (by simp))
    have hO3 : OB 5 w3 w.heap.size (.slice A2 x.length c2) x := HO2.out.mod (Mod.of_below hb3) (fun k hk h => by have := (HLT.out k hk).2; omega)
    have HO3 := Lib.hid hO3
    have hgw : w.heap.size ≤ g := by rw [hg]; exact HB2.out.size
    have HB3 := Lib.hid (HB2.out.trans (hb3.mono hgw))
    have HG := Lib.hid hg
    have HNIL := Lib.hid hnil
    clear hw3 hb3 hnil hO3 hg
    go_wp2_with fail
    refine HC.out.mono ?_
    rintro y w4 ⟨rfl, v4, hw4, hm4, hn4⟩
    have hb4 : Below g w3 w4 := hm4.below (by omega) (fun k _ hk => by rw [HNIL.out k hk]; exact Nat.le_refl _)
    have hO4 : OB 5 w4 w.heap.size (.slice A2 x.length c2) x := HO3.out.mod (Mod.of_below hb4) (fun k hk h => by have := (HLT.out k hk).2; have := HG.out; omega)
    have HO4 := Lib.hid hO4
    have HB4 := Lib.hid (HB3.out.trans (hb4.mono hgw))
    obtain ⟨s, hs⟩ : ∃ s, s = m.foldl wstep ([], 0) := ⟨_, rfl⟩
    have hsl : s.1.length ≤ 140737488355328 := by
      rw [hs]
      have := foldl_len m ([], 0) HK.out
      simp only [List.length_nil] at this; omega
    rw [← hs] at hw4
    obtain ⟨L, e⟩ := s
    simp only at hw4 hsl
    have hft := hw4.foot_lt
    have HFT := Lib.hid hft
    have HW4 := Lib.hid hw4
    have HBy := Lib.hid (fun W (h : IsW W g v4 L e) => bytesW_all W g v4 L e h hsl)
    obtain ⟨Lb, eLb⟩ : ∃ q, q = (if e = 0 then L else []) := ⟨_, rfl⟩
    rw [← eLb] at HBy
    have hs4 := hb4.size
    have hLb := keeps_len eLb hsl
    have HLB := Lib.hid hLb
    clear hw4 hm4 hn4 hb4 hO4 hs hft HC eLb hsl hLb
    go_wp2_with fail
    refine (HBy.out w4 HW4.out).mono ?_
    rintro y w5 ⟨v5, rfl, ho5, hb5⟩
    have hlt5 := ho5.lt
    obtain ⟨A5, c5, rfl, hr5, _, _⟩ := ho5.form
    have hstr5 := str_later hr5 Lb.length c5 rfl w5 (Below.refl _ _)
    have hO5 : OB 5 w5 w.heap.size (.slice A2 x.length c2) x := HO4.out.mod (Mod.of_below hb5) (fun k hk h => by have := (HLT.out k hk).2; have := HG.out; omega)
    have HO5 := Lib.hid hO5
    have HX5 := Lib.hid ho5
    have HW5 : Hid (IsW w5 g v4 L e) := Lib.hid (HW4.out.mod (Mod.of_below hb5) (fun k hk h => by have := HFT.out k hk; omega))
    have hs5 := hb5.size
    have HB5 := Lib.hid (HB4.out.trans (hb5.mono (by omega)))
    have HLT5 := Lib.hid hlt5
    clear ho5 hr5 hb5 hO5 hlt5
    go_wp2
    go_loopw [9] (fun i wr => ∃ (k : Nat) (L' : List UInt8), i = .int .i64 (k : Int) ∧ k ≤ Lb.length ∧ L'.length = Lb.length ∧ OB 5 wr w4.heap.size (.slice A5 Lb.length c5) L' ∧ Mod w5 wr (fun q => (Value.slice A5 Lb.length c5).ownBlock = some q)) (fun i _ => Lb.length - (intOf i).toNat)
    case atStart => exact ⟨0, Lb, rfl, by omega, rfl, HX5.out, Mod.refl _ _⟩
    case round =>
      obtain ⟨k, L', rfl, hk, hL', ho, hm⟩ := hrel
      by_cases hk2 : (k : Int) < (Lb.length : Int)
      · obtain ⟨g5, ch, hA5, _, hbg, _, hcc, hff, hput⟩ := ho.put (k := k) (by omega)
        subst hA5
        have HM := Lib.hid hm
        have HP := Lib.hid hput
        have HL' := Lib.hid hL'
        clear ho hm hput hL'
        have hlbI := HLB.out
        go_wp2
        rw [byte_succ]
        go_roundw
        case rel => exact ⟨k + 1, L'.set k (ch + 1), rfl, by omega, by rw [List.length_set, HL'.out], HP.out _, HM.out.setOwn _ rfl⟩
        case measure => simp [intOf] <;> omega
      · obtain ⟨w6, rfl⟩ : ∃ z, z = wr := ⟨_, rfl⟩
        have hW6 : IsW w6 g v4 L e := HW5.out.mod hm (fun k hk h => by have := HFT.out k hk; have := (HLT5.out k h).1; omega)
        have hO6 : OB 5 w6 w.heap.size (.slice A2 x.length c2) x := HO5.out.mod hm (fun k hk h => by have := (HLT.out k hk).2; have := (HLT5.out k h).1; have := HG.out; omega)
        have hB6 : Below w.heap.size w w6 := HB5.out.trans (hm.below HB5.out.size (fun k _ h => by have := (HLT5.out k h).1; omega))
        have hs6 := hm.size
        have HW6 := Lib.hid hW6
        have HO6 := Lib.hid hO6
        have HB6 := Lib.hid hB6
        clear ho hm hL' hW6 hO6 hB6
        go_wp2_with fail
        refine (HBy.out w6 HW6.out).mono ?_
        rintro y w7 ⟨v7, rfl, ho7, hb7⟩
        obtain ⟨A7, c7, rfl, hr7, _, _⟩ := ho7.form
        have hs7 := hb7.size
        have HY7 := Lib.hid ho7
        have hO7 : OB 5 w7 w.heap.size (.slice A2 x.length c2) x := HO6.out.mod (Mod.of_below hb7) (fun k hk h => by have := (HLT.out k hk).2; have := HG.out; omega)
        have hB7 := HB6.out.trans (hb7.mono HB6.out.size)
        obtain ⟨Aq, cq, eq, hrb, _, _⟩ := hO7.form
        injection eq with e1 e2 e3
        subst e1
        have HN := Lib.hid (newReader_any A2 x c2 w7 hrb (by have := HXL.out; omega))
        have HO7 := Lib.hid hO7
        have HB7 := Lib.hid hB7
        have HRB := Lib.hid hrb
        clear ho7 hb7 hr7 hO7 hB7 hrb e2 e3
        go_wp2_with fail
        refine HN.out.mono ?_
        rintro y w8 ⟨g8, v8, rfl, hi8, hf8, hb8⟩
        have hs8 := hb8.size
        obtain ⟨p, ep⟩ : ∃ p, p = pSig x := ⟨_, rfl⟩
        have hO8 : OB 5 w8 w.heap.size (.slice A2 x.length c2) x := HO7.out.mod (Mod.of_below hb8) (fun k hk h => by have := (HLT.out k hk).2; have := HG.out; omega)
        obtain ⟨pn, psz, pe⟩ := p
        have HOn : Hid (Calls Try.prog 31 #[.slice A2 x.length c2, .agg #[.int .u8 1, .int .i64 0, .bool false, .string ⟨#[]⟩, .int .i64 0]] w8 fun r w' => r = .returned (.tuple #[.agg #[.int .u8 1, .int .i64 pn, .bool false, .string ⟨#[]⟩, .int .i64 0], .int .i64 (psz : Int), .int .i64 (pe : Int)]) ∧ Below w8.heap.size w8 w') := Lib.hid (by
          refine (one_k1 A2 x c2 w8.heap.size one1V w8 ((HRB.out.below hb8).more hs8) (Nat.le_refl _) (by have := HXL.out; omega) hl2 (by decide)).mono ?_
          rintro r w' ⟨h1, h2⟩
          rw [one1 one1V x (by decide), ← ep] at h1
          exact ⟨h1, h2⟩)
        have hperr : pe ≠ 0 → pn = 0 := fun h => by
          have h1 : (grp x 10).2.2 ≠ 0 := by have := congrArg (fun q : Int × Nat × Nat => q.2.2) ep; simp only [pSig] at this; omega
          have h2 := (grp_zero_err x 10 h1).1
          have h3 := congrArg (fun q : Int × Nat × Nat => q.1) ep
          simp only [pSig, h2] at h3
          rw [h3]; decide
        have HSig := Lib.hid (fun W (h : IsR W g8 v8 x 0 0) => signedR_any W g8 v8 x 0 0 h (by have := HXL.out; omega))
        simp only [List.drop_zero, ← ep, ne_eq, not_true_eq_false, if_false] at HSig
        have HI8 := Lib.hid hi8
        have HF8 := Lib.hid hf8
        have HB8 := Lib.hid (HB7.out.trans (hb8.mono HB7.out.size))
        have HY8 := Lib.hid (HY7.out.mod (Mod.of_below hb8) (fun k hk h => by have := (HY7.out.lt k hk).2; omega))
        have HO8 := Lib.hid hO8
        have HFL := Lib.hid hi8.foot_lt
        have hg8 := hf8 g8 (.inl rfl)
        have HPE := Lib.hid hperr
        clear hi8 hf8 hb8 hO8 HN ep hperr
        go_wp2_with fail
        refine HOn.out.mono ?_
        rintro y w9 ⟨rfl, hb9⟩
        have hs9 := hb9.size
        have HO9 := Lib.hid ((HO8.out.mod (Mod.of_below hb9) (fun k hk h => by have := (HLT.out k hk).2; have := HG.out; omega)).alloc (.cells #[.int .u8 1, .int .i64 pn, .bool false, .string ⟨#[]⟩, .int .i64 0] 56))
        have HY9 := Lib.hid ((HY8.out.mod (Mod.of_below hb9) (fun k hk h => by have := (HY8.out.lt k hk).2; omega)).alloc (.cells #[.int .u8 1, .int .i64 pn, .bool false, .string ⟨#[]⟩, .int .i64 0] 56))
        have HI9 := Lib.hid (((HI8.out.mod (Mod.of_below hb9) (fun k hk h => by have := HFL.out k hk; omega))).mod (Mod.of_below (below_alloc0K w9 (.cells #[.int .u8 1, .int .i64 pn, .bool false, .string ⟨#[]⟩, .int .i64 0] 56) (Nat.le_refl _))) (fun k hk h => by have := HFL.out k hk; omega))
        have HB9 := Lib.hid ((HB8.out.trans (hb9.mono HB8.out.size)).alloc (Nat.le_trans HB8.out.size hs9) (.cells #[.int .u8 1, .int .i64 pn, .bool false, .string ⟨#[]⟩, .int .i64 0] 56))
        have hlt7 : ∀ k, (Value.slice A7 Lb.length c7).ownBlock = some k → w6.heap.size ≤ k ∧ k < w7.heap.size := HY7.out.lt
        have HLT7 := Lib.hid hlt7
        clear hb9 hlt7
        go_wp2_with fail
        refine cwp_genK (fun V => OB 5 V w.heap.size (.slice A2 x.length c2) x ∧ OB 5 V w6.heap.size (.slice A7 Lb.length c7) Lb ∧ IsR V g8 v8 x 0 0 ∧ Below w.heap.size w V ∧ V.cell? ⟨w9.heap.size, 1, none⟩ = some (.int .i64 pn) ∧ w9.heap.size < V.heap.size) ⟨HO9.out, HY9.out, HI9.out, HB9.out, by rw [World.cell?_alloc_at _ _ _ _ rfl]; rfl, by simp⟩ ?_
        rintro V ⟨a1, a2, a3, a4, a5, a6⟩
        have P1 := Lib.hid a1
        have P2 := Lib.hid a2
        have P3 := Lib.hid a3
        have P4 := Lib.hid a4
        have P5 := Lib.hid a5
        clear a1 a2 a3 a4 a5 HO9 HY9 HI9 HB9
        go_loopw [16] (fun i wq => ∃ (k : Nat) (x' : List UInt8), i = .int .i64 (k : Int) ∧ k ≤ x.length ∧ x'.length = x.length ∧ OB 5 wq w.heap.size (.slice A2 x.length c2) x' ∧ Mod V wq (fun q => (Value.slice A2 x.length c2).ownBlock = some q)) (fun i _ => x.length - (intOf i).toNat)
        case atStart => exact ⟨0, x, rfl, by omega, rfl, P1.out, Mod.refl _ _⟩
        case round =>
          obtain ⟨k, x', rfl, hk, hL', ho, hm⟩ := hrel
          by_cases hk2 : (k : Int) < (x.length : Int)
          · obtain ⟨g5, ch, hA2, _, hbg, _, hcc, hff, hput⟩ := ho.put (k := k) (by omega)
            subst hA2
            have HM := Lib.hid hm
            have HP := Lib.hid hput
            have HL' := Lib.hid hL'
            clear ho hm hput hL'
            have hxlI := HXL.out
            go_wp2
            rw [byte_succ]
            go_roundw
            case rel => exact ⟨k + 1, x'.set k (ch + 1), rfl, by omega, by rw [List.length_set, HL'.out], HP.out _, HM.out.setOwn _ rfl⟩
            case measure => simp [intOf] <;> omega
          · have hown : ∀ q, (Value.slice A2 x.length c2).ownBlock = some q → w.heap.size ≤ q ∧ q < g := fun q h => by have := HLT.out q h; have := HG.out; omega
            have q2 : OB 5 wr w6.heap.size (.slice A7 Lb.length c7) Lb := P2.out.mod hm (fun q hq h => by have := (HLT7.out q hq).1; have := (hown q h).2; omega)
            have q3 : IsR wr g8 v8 x 0 0 := P3.out.mod hm (fun q hq h => by have := HF8.out q hq; have := (hown q h).2; omega)
            have q4 : Below w.heap.size w wr := P4.out.trans (hm.below P4.out.size (fun q _ h => (hown q h).1))
            have q5 : wr.cell? ⟨w9.heap.size, 1, none⟩ = some (.int .i64 pn) := (hm.cell (p := ⟨w9.heap.size, 1, none⟩) a6 (fun h => by have := (hown _ h).2; simp at this; omega)).trans P5.out
            have hsz := hm.size
            have Q2 := Lib.hid q2
            have Q4 := Lib.hid q4
            have Q5 := Lib.hid q5
            have HS9 := Lib.hid (HSig.out wr q3)
            clear q2 q3 q4 q5 ho hm hL'
            go_wp2_with fail
            refine HS9.out.mono ?_
            rintro y w10 ⟨rfl, hi10, hm10⟩
            have hs10 := hm10.size
            have r2 : OB 5 w10 w6.heap.size (.slice A7 Lb.length c7) Lb := Q2.out.mod hm10 (fun q hq h => by have := (HLT7.out q hq).2; omega)
            have r4 : Below w.heap.size w w10 := Q4.out.trans (hm10.below Q4.out.size (fun q _ h => by omega))
            have r5 : w10.cell? ⟨w9.heap.size, 1, none⟩ = some (.int .i64 pn) := (hm10.cell (p := ⟨w9.heap.size, 1, none⟩) (by show w9.heap.size < wr.heap.size; omega) (fun h => by have := HFL.out g8 (.inl rfl); simp at h; omega)).trans Q5.out
            have R2 := Lib.hid r2
            have R4 := Lib.hid r4
            have R5 := Lib.hid r5
            clear r2 r4 r5 hi10 hm10
            go_wp2_with fail
            refine (known_any w10).mono ?_
            rintro y w11 ⟨rfl, hb11⟩
            have s2 : OB 5 w11 w6.heap.size (.slice A7 Lb.length c7) Lb := R2.out.mod (Mod.of_below hb11) (fun q hq h => by have := (R2.out.lt q hq).2; omega)
            have s5 : w11.cell? ⟨w9.heap.size, 1, none⟩ = some (.int .i64 pn) := (hb11.cell (p := ⟨w9.heap.size, 1, none⟩) (by show w9.heap.size < w10.heap.size; omega)).trans R5.out
            have S4 := Lib.hid (R4.out.trans (hb11.mono R4.out.size))
            obtain ⟨Az, cz, ez, hz, _, _⟩ := s2.form
            injection ez with f1 f2 f3
            subst f1
            have hstr7 := run_str bsl 9 Try.underlying9 hz c7
            clear s2 hz hb11 f2 f3 hstr5
            by_cases hpe : pe = 0
            · subst hpe
              go_wp2
              go_ret
              exact ⟨rfl, S4.out⟩
            · have hpn := HPE.out hpe
              subst hpn
              have hpe1 : ((pe : Int) != 0) = true := by simp; omega
              have HP9 := Lib.hid hpe
              clear hpe
              go_wp2
              go_ret
              exact ⟨rfl, S4.out⟩
  go_region_held3 (fun _ => True) (trivial) (first
    | (refine step_app bsl (by rfl) (.tmp 20) (.tmp 25) (by rfl) w.heap.size (.slice (some ⟨_, 0, none⟩) 0 0) [] (by rfl) (by first | exact ob_empty (heap_alloc_new _ _) HB9.out.size | exact ob_empty ((HB1.out.block _ (by simp)).trans (heap_alloc_new _ _)) (Nat.le_refl _)) w.heap.size A x c (by rfl) (by first | exact HX.out.below HB9.out | exact (HX.out.below HB9.out).below (below_alloc0K _ _ HB9.out.size)) HXN.out (by first | exact HB9.out.size | (simp; have := HB9.out.size; omega)) ?_; intro v2 w2 ho2 hg2)
    | (go_at_call 18; refine (HS.out _ (by first | exact KK0.out | exact KK1.out _)).mono ?_; rintro x1 w1 ⟨v1, rfl, ho1, hb1⟩; have HB1 := Lib.hid hb1; have HSZ := Lib.hid (hb1.size); have HB9 := Lib.hid (Below.trans (by first | exact KK0.out | exact KK1.out _ : Below w.heap.size w _) (hb1.mono (by simp))); have HO1 := Lib.hid ho1; clear hb1 ho1))
  all_goals
    refine key _ _ _ _ ⟨_, by first | exact keeps_a HO1.out hg2.undrew | exact keeps_a HO1.out hg2 | exact keeps_b HO1.out hg2 (by simp)⟩ (by simpa using ho2) ?_
    first
      | exact HB9.out.trans (hg2.below HB9.out.size (by simp [Value.ownBlock]))
      | exact HB9.out.trans ((below_alloc0K _ _ HB9.out.size).trans (hg2.below (by simp; have := HB9.out.size; omega) (by have := HB9.out.size; simp [Value.ownBlock]; omega)))
end Go.Proofs.Ytfjigooahdfbpaa
