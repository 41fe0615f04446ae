/- pack: the walk of PackTokens. -/
import Derived.Test.YtocohoojnjdkiaaKTokC
set_option linter.unusedVariables false
namespace Go.Proofs.Ytocohoojnjdkiaa
open Go.RowKit

def lstT : Except (Nat × Nat) (List Tok) → List Tok
  | .ok l => l
  | .error _ => []
def offT : Except (Nat × Nat) (List Tok) → Int
  | .ok _ => 0
  | .error (x, _) => (x : Int)
def errT : Except (Nat × Nat) (List Tok) → Int
  | .ok _ => 0
  | .error (_, k) => (k : Int)
/-- A list of tokens in memory. -/
def TV (W : World) (A : Option Addr) (q : List TE) (L : List Tok) : Prop := RQ encT 3 W W.heap.size A q ∧ q.map (·.1) = L ∧ ∀ x ∈ q, RB W W.heap.size x.2.1 x.1.lits
theorem TV.below {W V : World} {A : Option Addr} {q : List TE} {L : List Tok} (h : TV W A q L) (hb : Below W.heap.size W V) : TV V A q L :=
  ⟨(h.1.below hb).more hb.size, h.2.1, fun x hx => ((h.2.2 x hx).below hb).more hb.size⟩
theorem tokQ_form {e : TypeId} {W : World} {base : Nat} {R : Except (Nat × Nat) (List Tok)} {v : Value} {a y : Int} (h : TokQ e W base R v a y) : a = offT R ∧ y = errT R ∧ ∃ A c q, v = .slice A (lstT R).length c ∧ TV W A q (lstT R) := by
  unfold TokQ at h
  cases R with
  | ok l =>
    obtain ⟨⟨q, ho, hq, hl⟩, ha, hy⟩ := h
    obtain ⟨A, c, hv, hr, _, _, _⟩ := ho.form encT_ok
    refine ⟨ha, hy, A, c, q, ?_, hr, hq, fun x hx => ?_⟩
    · rw [hv, show lstT (.ok l) = l from rfl, ← hq, List.length_map]
    · obtain ⟨A3, c3, he, hr3, _⟩ := (hl x hx).1.form
      cases he
      exact hr3
  | error z =>
    obtain ⟨x, k⟩ := z
    obtain ⟨hv, ha, hy⟩ := h
    exact ⟨ha, hy, none, 0, [], hv, RQ.nil, rfl, fun x hx => by cases hx⟩
theorem tokL_len (p : List UInt8) : ∀ (k at_ : Nat) (q l : List Tok), tokL p k at_ q = .ok l → l.length ≤ q.length + k := by
  intro k
  induction k with
  | zero => intro at_ q l h; injection h with h; subst h; omega
  | succ k ih =>
    intro at_ q l h
    unfold tokL at h
    by_cases h1 : p.length ≤ at_
    · rw [if_pos h1] at h; injection h with h; subst h; omega
    · rw [if_neg h1] at h
      cases ht : tok1 (p.drop at_) with
      | error e => rw [ht] at h; cases h
      | ok z =>
        obtain ⟨t, n⟩ := z
        rw [ht] at h
        have := ih _ _ _ h
        rw [List.length_append] at this
        simp at this
        omega
set_option maxHeartbeats 8000000 in
set_option maxRecDepth 100000 in
theorem packTokens_walk (A0 : Option Addr) (l0 : List UInt8) (c0 : Nat) (W : World) (r0 : RB W W.heap.size A0 l0) (s0 : l0.length ≤ c0) (m0 : c0 ≤ maxLen) :
    Calls Try.prog 6 #[.slice A0 l0.length c0] W fun e W' => e = .returned (.bool true) ∧ Below W.heap.size W W' := by
  have C0 := Lib.hid (fun V : World => cut_any A0 l0.length c0 V s0 (rb_A r0))
  rw [← take_len] at C0
  have R0 := Lib.hid (r0.take 400)
  have hk0 : (l0.take 400).length ≤ 400 := by rw [take_len]; omega
  have hs0 : (l0.take 400).length ≤ c0 := by rw [take_len]; omega
  obtain ⟨n0, hn0⟩ : ∃ n, l0.length = n := ⟨_, rfl⟩
  rw [hn0] at C0 ⊢
  obtain ⟨p, hp⟩ : ∃ p, l0.take 400 = p := ⟨_, rfl⟩
  rw [hp] at C0 R0 hk0 hs0
  clear r0 s0 hn0 hp m0
  obtain ⟨RT, hRT⟩ : ∃ R, tokS p 0 [] = R := ⟨_, rfl⟩
  have HT1 : Hid (∀ V, Below W.heap.size W V → Calls Try.prog 22 #[.slice A0 p.length c0] V fun e w' => ∃ v a y, e = .returned (.tuple #[v, .int .i64 a, .int .i64 y]) ∧ TokQ 45 w' V.heap.size RT v a y ∧ Below V.heap.size V w') := Lib.hid fun V h => by
    rw [← hRT]; exact toks_any V A0 p c0 ((R0.out.below h).more h.size) hs0 (by omega)
  have HT2 : Hid (∀ V, Below W.heap.size W V → Calls Try.prog 23 #[.slice A0 p.length c0] V fun e w' => ∃ v a y, e = .returned (.tuple #[v, .int .i64 a, .int .i64 y]) ∧ TokQ 46 w' V.heap.size RT v a y ∧ Below V.heap.size V w') := Lib.hid fun V h => by
    rw [← hRT]; exact rtoks_any V A0 p c0 ((R0.out.below h).more h.size) hs0 (by omega)
  obtain ⟨RU, hRU⟩ : ∃ R, unpackF [] p 1048576 = R := ⟨_, rfl⟩
  have HU : Hid (∀ V, Below W.heap.size W V → Calls Try.prog 20 #[.slice none 0 0, .slice A0 p.length c0, .int .i64 1048576] V fun e w' => ∃ v a y, e = .returned (.tuple #[v, .int .i64 a, .int .i64 y]) ∧ UnpQ w' RU v a y ∧ Below V.heap.size V w') := Lib.hid fun V h => by
    rw [← hRU]; exact runpack_all V none [] 0 A0 p c0 1048576 RB.nil ((R0.out.below h).more h.size) (by simp) (by simp) hs0 (by omega)
  have HCN : Hid (∀ V, Below W.heap.size W V → Calls Try.prog 24 #[.slice A0 p.length c0] V fun e w' => e = .returned (.bool (canR p RU)) ∧ Below V.heap.size V w') := Lib.hid fun V h => by
    rw [← hRU]; exact packcan_any V A0 p c0 ((R0.out.below h).more h.size) hs0 (by omega)
  have hfa := unpackF_fact p 1048576 (Nat.le_refl _)
  rw [show ((1048576 : Nat) : Int) = (1048576 : Int) from rfl, hRU] at hfa
  have HFA : Hid (∀ x e, RU = .error (x, e) → e ≠ 0) := Lib.hid hfa.2
  have E0 : Hid (∀ V, Below W.heap.size W V → (convert 22 9 (.slice A0 p.length c0)).run Try.prog V = .ok (.string ⟨p.toArray⟩) V) := Lib.hid fun V h => run_str bslK 9 Try.underlying9 (R0.out.below h) c0
  obtain ⟨np, hnp⟩ : ∃ n, p.length = n := ⟨_, rfl⟩
  rw [hnp] at C0 HT1 HT2 HU HCN E0
  have hlen : (lstT RT).length ≤ 400 := by
    rw [← hRT]
    cases h : tokS p 0 [] with
    | ok l =>
      have := tokL_len p (p.length - 0) 0 [] l h
      simp at this
      show l.length ≤ 400
      omega
    | error z => simp [lstT]
  clear hnp hk0 hs0 hRT hRU hfa
  obtain ⟨L, hL⟩ : ∃ L, lstT RT = L := ⟨_, rfl⟩
  obtain ⟨xa, hxa⟩ : ∃ s, offT RT = s := ⟨_, rfl⟩
  obtain ⟨ya, hya⟩ : ∃ s, errT RT = s := ⟨_, rfl⟩
  rw [hL] at hlen
  obtain ⟨nl, hnl⟩ : ∃ n, L.length = n := ⟨_, rfl⟩
  rw [hnl] at hlen
  have HL := Lib.hid hL
  have HXA := Lib.hid hxa
  have HYA' := Lib.hid hya
  have HNL := Lib.hid hnl
  clear hL hxa hya hnl
  have HB0 := Lib.hid (Below.refl W.heap.size W)
  go_enter Try.func6, Try.ntmps6
  go_upto_region 2 with (go_at_call 13; refine (C0.out _).mono ?_; rintro e V ⟨rfl, hv⟩; subst V)
  go_upto_region 3 with (go_at_call 22; refine (HT1.out _ HB0.out).mono ?_; rintro e V1 ⟨v1, a1, y1, rfl, hq1, hb1⟩; obtain ⟨ha1, hy1, A1, c1, q1, hv1, ht1⟩ := tokQ_form hq1; rw [HXA.out] at ha1; rw [HYA'.out] at hy1; rw [HL.out] at hv1 ht1; rw [HNL.out] at hv1; subst ha1; subst hy1; subst hv1; have HTV1 := Lib.hid ht1; have HB1 := Lib.hid hb1; clear hq1 hb1 ht1)
  go_upto_region 4 with (go_at_call 23; refine (HT2.out _ HB1.out).mono ?_; rintro e V2 ⟨v2, a2, y2, rfl, hq2, hb2⟩; obtain ⟨ha2, hy2, A2, c2, q2, hv2, ht2⟩ := tokQ_form hq2; rw [HXA.out] at ha2; rw [HYA'.out] at hy2; rw [HL.out] at hv2 ht2; rw [HNL.out] at hv2; subst ha2; subst hy2; subst hv2; have HTV1b := Lib.hid (HTV1.out.below hb2); have HTV2 := Lib.hid ht2; have HB2 := Lib.hid (HB1.out.trans (hb2.mono HB1.out.size)); clear hq2 hb2 ht2)
  go_wp2_with (go_at_call 16; refine (known_any _).mono ?_; rintro e V3 ⟨rfl, hb3⟩; have HTV1c := Lib.hid (HTV1b.out.below hb3); have HTV2c := Lib.hid (HTV2.out.below hb3); have HB3 := Lib.hid (HB2.out.trans (hb3.mono HB2.out.size)); clear hb3)
  go_loopw [9] (fun i wr => ∃ k : Nat, i = .int .i64 (k : Int) ∧ k ≤ nl ∧ Below V3.heap.size V3 wr) (fun i _ => nl - (intOf i).toNat)
  case atStart => exact ⟨0, rfl, by omega, Below.refl _ _⟩
  case round =>
    obtain ⟨k, rfl, hk, hb⟩ := hrel
    have HB := Lib.hid hb
    clear hb
    by_cases hkn : k < nl
    · have g1 : (k : Int) < (nl : Int) := by omega
      have g0 : (0 : Int) ≤ (k : Int) := by omega
      obtain ⟨hr1, hm1, hl1⟩ := HTV1c.out
      obtain ⟨hr2, hm2, hl2⟩ := HTV2c.out
      have hn1 : q1.length = nl := by rw [← HNL.out, ← hm1, List.length_map]
      have hn2 : q2.length = nl := by rw [← HNL.out, ← hm2, List.length_map]
      obtain ⟨b1, o1, x1, rfl, hb1, hx1, hg1⟩ := hr1.at_ (j := k) (by omega)
      obtain ⟨b2, o2, x2, rfl, hb2, hx2, hg2⟩ := hr2.at_ (j := k) (by omega)
      have hxx : x1.1 = x2.1 := by
        have e1 : (q1.map (·.1))[k]? = some x1.1 := by rw [List.getElem?_map, hx1]; rfl
        have e2 : (q2.map (·.1))[k]? = some x2.1 := by rw [List.getElem?_map, hx2]; rfl
        rw [hm1] at e1
        rw [hm2] at e2
        rw [e1] at e2
        injection e2
      have hr1' := hl1 x1 (List.mem_of_getElem? hx1)
      have hr2' := hl2 x2 (List.mem_of_getElem? hx2)
      obtain ⟨t, Aa, ca⟩ := x1
      obtain ⟨t', Ab, cb⟩ := x2
      obtain rfl : t = t' := hxx
      obtain ⟨s, hs⟩ : ∃ s : ByteArray, ⟨t.lits.toArray⟩ = s := ⟨_, rfl⟩
      have e1 : ∀ V, Below V3.heap.size V3 V → (convert 22 9 (.slice Aa t.lits.length ca)).run Try.prog V = .ok (.string s) V := fun V h => by
        have h2 := run_str bslK 9 Try.underlying9 (RB.below (l := t.lits) hr1' h) ca
        rwa [hs] at h2
      have e2 : ∀ V, Below V3.heap.size V3 V → (convert 22 9 (.slice Ab t.lits.length cb)).run Try.prog V = .ok (.string s) V := fun V h => by
        have h2 := run_str bslK 9 Try.underlying9 (RB.below (l := t.lits) hr2' h) cb
        rwa [hs] at h2
      have a0 : ∀ V, Below V3.heap.size V3 V → V.cell? ⟨b1, o1 + k * 3, none⟩ = some (.slice Aa t.lits.length ca) := fun V h => (h.cell (p := ⟨b1, o1 + k * 3, none⟩) hb1).trans (hg1 0 _ rfl)
      have a1 : ∀ V, Below V3.heap.size V3 V → V.cell? ⟨b1, o1 + k * 3 + 1, none⟩ = some (.int .i64 (t.dist : Int)) := fun V h => (h.cell (p := ⟨b1, o1 + k * 3 + 1, none⟩) hb1).trans (hg1 1 _ rfl)
      have a2 : ∀ V, Below V3.heap.size V3 V → V.cell? ⟨b1, o1 + k * 3 + 2, none⟩ = some (.int .i64 (t.len : Int)) := fun V h => (h.cell (p := ⟨b1, o1 + k * 3 + 2, none⟩) hb1).trans (hg1 2 _ rfl)
      have d0 : ∀ V, Below V3.heap.size V3 V → V.cell? ⟨b2, o2 + k * 3, none⟩ = some (.slice Ab t.lits.length cb) := fun V h => (h.cell (p := ⟨b2, o2 + k * 3, none⟩) hb2).trans (hg2 0 _ rfl)
      have d1 : ∀ V, Below V3.heap.size V3 V → V.cell? ⟨b2, o2 + k * 3 + 1, none⟩ = some (.int .i64 (t.dist : Int)) := fun V h => (h.cell (p := ⟨b2, o2 + k * 3 + 1, none⟩) hb2).trans (hg2 1 _ rfl)
      have d2 : ∀ V, Below V3.heap.size V3 V → V.cell? ⟨b2, o2 + k * 3 + 2, none⟩ = some (.int .i64 (t.len : Int)) := fun V h => (h.cell (p := ⟨b2, o2 + k * 3 + 2, none⟩) hb2).trans (hg2 2 _ rfl)
      have w1 : IntKind.i64.wrap ((k : Int) + 1) = (k : Int) + 1 := by rw [IntKind.wrap_i64]; omega
      clear hr1 hm1 hl1 hr2 hm2 hl2 hn1 hn2 hx1 hx2 hg1 hg2 hr1' hr2' hs hb1 hb2
      have hS0 := HB.out
      go_upto_region 9 with fail
      go_region_held3 (fun V => Below V3.heap.size V3 V) (first | assumption | exact Below.drew (by assumption)) (fail)
      clear e1 e2 a0 a1 a2 d0 d1 d2 hS0
      have HB' := Lib.hid ‹Below V3.heap.size V3 _›
      go_wp2
      go_roundw
      case rel => exact ⟨k + 1, by go_num, by omega, HB'.out⟩
      case measure => simp [intOf] <;> omega
    · have g1 : ¬ (k : Int) < (nl : Int) := by omega
      have HWr := Lib.hid (HB3.out.trans (HB.out.mono HB3.out.size))
      cases RU with
      | error z =>
        obtain ⟨x, y⟩ := z
        have hy := HFA.out x y rfl
        have hy1 : ¬ (y : Int) = 0 := by omega
        have hy2 : ((y : Int) == 0) = false := by simpa using hy1
        clear hy1 hy
        have HCN2 : Hid (∀ V, Below W.heap.size W V → Calls Try.prog 24 #[.slice A0 np c0] V fun e w' => e = .returned (.bool false) ∧ Below V.heap.size V w') := HCN
        go_upto_region 12 with (go_at_call 20; refine (HU.out _ HWr.out).mono ?_; rintro e V5 ⟨v5, a5, y5, rfl, hq5, hb5⟩; obtain ⟨hv5, ha5, hy5⟩ := hq5; subst hv5; subst ha5; subst hy5; have HB5 := Lib.hid (HWr.out.trans (hb5.mono HWr.out.size)); clear hb5)
        refine wp_region_held_drew (S := (fun V => Below V5.heap.size V5 V)) (by kernel_rfl) (Below.drew (Below.refl _ _)) (fun hHeld => ?_)
        refine wpAnyH_take (i := 0) (v := ?_) (ops_atL rfl) (by kernel_rfl) (by kernel_rfl) (by kernel_rfl) (fun _ _ _ h => h) (Or.inl ⟨by rfl, ?_⟩) hHeld ?_
        rotate_left
        · (intro W hSW; go_simp; try with_reducible rfl)
        try simp only [Act.put, List.setIfInBounds_toArray, List.set_cons_zero, List.set_cons_succ]
        refine wpAnyH_take (i := 1) (v := ?_) (ops_atL rfl) (by kernel_rfl) (by kernel_rfl) (by kernel_rfl) (fun _ _ _ h => h) (Or.inl ⟨by rfl, ?_⟩) hHeld ?_
        rotate_left
        · (intro W hSW; go_simp; try with_reducible rfl)
        try simp only [Act.put, List.setIfInBounds_toArray, List.set_cons_zero, List.set_cons_succ]
        refine wpAnyH_take (i := 2) (v := ?_) (ops_atL rfl) (by kernel_rfl) (by kernel_rfl) (by kernel_rfl) (fun _ _ _ h => h) (Or.inl ⟨by rfl, ?_⟩) hHeld ?_
        rotate_left
        · (intro W hSW; go_simp; try with_reducible rfl)
        try simp only [Act.put, List.setIfInBounds_toArray, List.set_cons_zero, List.set_cons_succ]
        refine wpAnyH_take (i := 3) (v := undef) (ops_atL rfl) (by kernel_rfl) (by kernel_rfl) (by kernel_rfl) (fun _ _ _ h => h) (Or.inr ⟨by rfl, rfl⟩) hHeld ?_
        try simp only [Act.put, List.setIfInBounds_toArray, List.set_cons_zero, List.set_cons_succ]
        refine wpAnyH_take (i := 4) (v := undef) (ops_atL rfl) (by kernel_rfl) (by kernel_rfl) (by kernel_rfl) (fun _ _ _ h => h) (Or.inr ⟨by rfl, rfl⟩) hHeld ?_
        try simp only [Act.put, List.setIfInBounds_toArray, List.set_cons_zero, List.set_cons_succ]
        refine wpAnyH_take (i := 5) (v := undef) (ops_atL rfl) (by kernel_rfl) (by kernel_rfl) (by kernel_rfl) (fun _ _ _ h => h) (Or.inr ⟨by rfl, rfl⟩) hHeld ?_
        try simp only [Act.put, List.setIfInBounds_toArray, List.set_cons_zero, List.set_cons_succ]
        refine wpAnyH_take (i := 6) (v := ?_) (ops_atL rfl) (by kernel_rfl) (by kernel_rfl) (by kernel_rfl) (fun _ _ _ h => h) (Or.inl ⟨by rfl, ?_⟩) hHeld ?_
        rotate_left
        · (intro W hSW; go_simp; try with_reducible rfl)
        try simp only [Act.put, List.setIfInBounds_toArray, List.set_cons_zero, List.set_cons_succ]
        refine wpAnyH_take (i := 7) (v := ?_) (ops_atL rfl) (by kernel_rfl) (by kernel_rfl) (by kernel_rfl) (fun _ _ _ h => h) (Or.inl ⟨by rfl, ?_⟩) hHeld ?_
        rotate_left
        · (intro W hSW; go_simp; try with_reducible rfl)
        try simp only [Act.put, List.setIfInBounds_toArray, List.set_cons_zero, List.set_cons_succ]
        refine wpAnyH_take (i := 8) (v := undef) (ops_atL rfl) (by kernel_rfl) (by kernel_rfl) (by kernel_rfl) (fun _ _ _ h => h) (Or.inr ⟨by rfl, rfl⟩) hHeld ?_
        try simp only [Act.put, List.setIfInBounds_toArray, List.set_cons_zero, List.set_cons_succ]
        refine wpAnyH_take (i := 9) (v := undef) (ops_atL rfl) (by kernel_rfl) (by kernel_rfl) (by kernel_rfl) (fun _ _ _ h => h) (Or.inr ⟨by rfl, rfl⟩) hHeld ?_
        try simp only [Act.put, List.setIfInBounds_toArray, List.set_cons_zero, List.set_cons_succ]
        refine wpAnyH_take (i := 10) (v := undef) (ops_atL rfl) (by kernel_rfl) (by kernel_rfl) (by kernel_rfl) (fun _ _ _ h => h) (Or.inr ⟨by rfl, rfl⟩) hHeld ?_
        try simp only [Act.put, List.setIfInBounds_toArray, List.set_cons_zero, List.set_cons_succ]
        refine wpAnyH_take (i := 11) (v := undef) (ops_atL rfl) (by kernel_rfl) (by kernel_rfl) (by kernel_rfl) (fun _ _ _ h => h) (Or.inr ⟨by rfl, rfl⟩) hHeld ?_
        try simp only [Act.put, List.setIfInBounds_toArray, List.set_cons_zero, List.set_cons_succ]
        refine wpAnyH_take (i := 12) (v := undef) (ops_atL rfl) (by kernel_rfl) (by kernel_rfl) (by kernel_rfl) (fun _ _ _ h => h) (Or.inr ⟨by rfl, rfl⟩) hHeld ?_
        try simp only [Act.put, List.setIfInBounds_toArray, List.set_cons_zero, List.set_cons_succ]
        refine wpAnyH_take (i := 13) (v := undef) (ops_atL rfl) (by kernel_rfl) (by kernel_rfl) (by kernel_rfl) (fun _ _ _ h => h) (Or.inr ⟨by rfl, rfl⟩) hHeld ?_
        try simp only [Act.put, List.setIfInBounds_toArray, List.set_cons_zero, List.set_cons_succ]
        refine wpAnyH_take (i := 14) (v := undef) (ops_atL rfl) (by kernel_rfl) (by kernel_rfl) (by kernel_rfl) (fun _ _ _ h => h) (Or.inr ⟨by rfl, rfl⟩) hHeld ?_
        try simp only [Act.put, List.setIfInBounds_toArray, List.set_cons_zero, List.set_cons_succ]
        refine wpAnyH_take (i := 15) (v := ?_) (ops_atL rfl) (by kernel_rfl) (by kernel_rfl) (by kernel_rfl) (fun _ _ _ h => h) (Or.inl ⟨by rfl, ?_⟩) hHeld ?_
        rotate_left
        · (intro W hSW; go_simp; try with_reducible rfl)
        try simp only [Act.put, List.setIfInBounds_toArray, List.set_cons_zero, List.set_cons_succ]
        refine wpAnyH_take (i := 16) (v := ?_) (ops_atL rfl) (by kernel_rfl) (by kernel_rfl) (by kernel_rfl) (fun _ _ _ h => h) (Or.inl ⟨by rfl, ?_⟩) hHeld ?_
        rotate_left
        · (intro W hSW; go_simp; try with_reducible rfl)
        try simp only [Act.put, List.setIfInBounds_toArray, List.set_cons_zero, List.set_cons_succ]
        refine wpAnyH_done (by kernel_rfl) ?_ _
        have HB6 := Lib.hid (HB5.out.trans (hHeld.mono HB5.out.size))
        clear hHeld
        go_wp2_with (go_at_call 24; refine (HCN2.out _ HB6.out).mono ?_; rintro e V7 ⟨rfl, hb7⟩; have HB7 := Lib.hid (HB6.out.trans (hb7.mono HB6.out.size)); clear hb7)
        go_ret
        exact ⟨rfl, HB7.out⟩
      | ok b =>
        obtain ⟨nb, hnb⟩ : ∃ n, b.length = n := ⟨_, rfl⟩
        have HNB := Lib.hid hnb
        by_cases h8 : 8000 < nb
        · have g8 : ¬ (nb : Int) ≤ 8000 := by omega
          have g9 : (nb : Int) > 8000 := by omega
          have d8 : decide ((nb : Int) ≤ 8000) = false := decide_eq_false g8
          have d9 : decide (nb ≤ 8000) = false := decide_eq_false (by omega)
          clear hnb
          go_upto_region 12 with (go_at_call 20; refine (HU.out _ HWr.out).mono ?_; rintro e V5 ⟨v5, a5, y5, rfl, hq5, hb5⟩; obtain ⟨⟨A5, c5, hv5, hr5, _⟩, ha5, hy5⟩ := hq5; subst ha5; subst hy5; rw [HNB.out] at hv5; subst hv5; have HB5 := Lib.hid (HWr.out.trans (hb5.mono HWr.out.size)); clear hb5 hr5)
          refine wp_region_held_drew (S := (fun V => Below V5.heap.size V5 V)) (by kernel_rfl) (Below.drew (Below.refl _ _)) (fun hHeld => ?_)
          refine wpAnyH_take (i := 0) (v := ?_) (ops_atL rfl) (by kernel_rfl) (by kernel_rfl) (by kernel_rfl) (fun _ _ _ h => h) (Or.inl ⟨by rfl, ?_⟩) hHeld ?_
          rotate_left
          · (intro W hSW; go_simp; try with_reducible rfl)
          try simp only [Act.put, List.setIfInBounds_toArray, List.set_cons_zero, List.set_cons_succ]
          refine wpAnyH_take (i := 1) (v := ?_) (ops_atL rfl) (by kernel_rfl) (by kernel_rfl) (by kernel_rfl) (fun _ _ _ h => h) (Or.inl ⟨by rfl, ?_⟩) hHeld ?_
          rotate_left
          · (intro W hSW; go_simp; try with_reducible rfl)
          try simp only [Act.put, List.setIfInBounds_toArray, List.set_cons_zero, List.set_cons_succ]
          refine wpAnyH_take (i := 2) (v := ?_) (ops_atL rfl) (by kernel_rfl) (by kernel_rfl) (by kernel_rfl) (fun _ _ _ h => h) (Or.inl ⟨by rfl, ?_⟩) hHeld ?_
          rotate_left
          · (intro W hSW; go_simp; try with_reducible rfl)
          try simp only [Act.put, List.setIfInBounds_toArray, List.set_cons_zero, List.set_cons_succ]
          refine wpAnyH_take (i := 3) (v := ?_) (ops_atL rfl) (by kernel_rfl) (by kernel_rfl) (by kernel_rfl) (fun _ _ _ h => h) (Or.inl ⟨by rfl, ?_⟩) hHeld ?_
          rotate_left
          · (intro W hSW; go_simp; try with_reducible rfl)
          try simp only [Act.put, List.setIfInBounds_toArray, List.set_cons_zero, List.set_cons_succ]
          refine wpAnyH_take (i := 4) (v := ?_) (ops_atL rfl) (by kernel_rfl) (by kernel_rfl) (by kernel_rfl) (fun _ _ _ h => h) (Or.inl ⟨by rfl, ?_⟩) hHeld ?_
          rotate_left
          · (intro W hSW; go_simp; try with_reducible rfl)
          try simp only [Act.put, List.setIfInBounds_toArray, List.set_cons_zero, List.set_cons_succ]
          refine wpAnyH_take (i := 5) (v := ?_) (ops_atL rfl) (by kernel_rfl) (by kernel_rfl) (by kernel_rfl) (fun _ _ _ h => h) (Or.inl ⟨by rfl, ?_⟩) hHeld ?_
          rotate_left
          · (intro W hSW; go_simp; try with_reducible rfl)
          try simp only [Act.put, List.setIfInBounds_toArray, List.set_cons_zero, List.set_cons_succ]
          refine wpAnyH_take (i := 6) (v := ?_) (ops_atL rfl) (by kernel_rfl) (by kernel_rfl) (by kernel_rfl) (fun _ _ _ h => h) (Or.inl ⟨by rfl, ?_⟩) hHeld ?_
          rotate_left
          · (intro W hSW; go_simp; try with_reducible rfl)
          try simp only [Act.put, List.setIfInBounds_toArray, List.set_cons_zero, List.set_cons_succ]
          refine wpAnyH_take (i := 7) (v := ?_) (ops_atL rfl) (by kernel_rfl) (by kernel_rfl) (by kernel_rfl) (fun _ _ _ h => h) (Or.inl ⟨by rfl, ?_⟩) hHeld ?_
          rotate_left
          · (intro W hSW; go_simp; try with_reducible rfl)
          try simp only [Act.put, List.setIfInBounds_toArray, List.set_cons_zero, List.set_cons_succ]
          refine wpAnyH_take (i := 8) (v := undef) (ops_atL rfl) (by kernel_rfl) (by kernel_rfl) (by kernel_rfl) (fun _ _ _ h => h) (Or.inr ⟨by rfl, rfl⟩) hHeld ?_
          try simp only [Act.put, List.setIfInBounds_toArray, List.set_cons_zero, List.set_cons_succ]
          refine wpAnyH_take (i := 9) (v := undef) (ops_atL rfl) (by kernel_rfl) (by kernel_rfl) (by kernel_rfl) (fun _ _ _ h => h) (Or.inr ⟨by rfl, rfl⟩) hHeld ?_
          try simp only [Act.put, List.setIfInBounds_toArray, List.set_cons_zero, List.set_cons_succ]
          refine wpAnyH_take (i := 10) (v := undef) (ops_atL rfl) (by kernel_rfl) (by kernel_rfl) (by kernel_rfl) (fun _ _ _ h => h) (Or.inr ⟨by rfl, rfl⟩) hHeld ?_
          try simp only [Act.put, List.setIfInBounds_toArray, List.set_cons_zero, List.set_cons_succ]
          refine wpAnyH_take (i := 11) (v := undef) (ops_atL rfl) (by kernel_rfl) (by kernel_rfl) (by kernel_rfl) (fun _ _ _ h => h) (Or.inr ⟨by rfl, rfl⟩) hHeld ?_
          try simp only [Act.put, List.setIfInBounds_toArray, List.set_cons_zero, List.set_cons_succ]
          refine wpAnyH_take (i := 12) (v := undef) (ops_atL rfl) (by kernel_rfl) (by kernel_rfl) (by kernel_rfl) (fun _ _ _ h => h) (Or.inr ⟨by rfl, rfl⟩) hHeld ?_
          try simp only [Act.put, List.setIfInBounds_toArray, List.set_cons_zero, List.set_cons_succ]
          refine wpAnyH_take (i := 13) (v := undef) (ops_atL rfl) (by kernel_rfl) (by kernel_rfl) (by kernel_rfl) (fun _ _ _ h => h) (Or.inr ⟨by rfl, rfl⟩) hHeld ?_
          try simp only [Act.put, List.setIfInBounds_toArray, List.set_cons_zero, List.set_cons_succ]
          refine wpAnyH_take (i := 14) (v := undef) (ops_atL rfl) (by kernel_rfl) (by kernel_rfl) (by kernel_rfl) (fun _ _ _ h => h) (Or.inr ⟨by rfl, rfl⟩) hHeld ?_
          try simp only [Act.put, List.setIfInBounds_toArray, List.set_cons_zero, List.set_cons_succ]
          refine wpAnyH_take (i := 15) (v := ?_) (ops_atL rfl) (by kernel_rfl) (by kernel_rfl) (by kernel_rfl) (fun _ _ _ h => h) (Or.inl ⟨by rfl, ?_⟩) hHeld ?_
          rotate_left
          · (intro W hSW; go_simp; try with_reducible rfl)
          try simp only [Act.put, List.setIfInBounds_toArray, List.set_cons_zero, List.set_cons_succ]
          refine wpAnyH_take (i := 16) (v := ?_) (ops_atL rfl) (by kernel_rfl) (by kernel_rfl) (by kernel_rfl) (fun _ _ _ h => h) (Or.inl ⟨by rfl, ?_⟩) hHeld ?_
          rotate_left
          · (intro W hSW; go_simp; try with_reducible rfl)
          try simp only [Act.put, List.setIfInBounds_toArray, List.set_cons_zero, List.set_cons_succ]
          refine wpAnyH_done (by kernel_rfl) ?_ _
          have HB6 := Lib.hid (HB5.out.trans (hHeld.mono HB5.out.size))
          clear hHeld
          go_wp2
          go_ret
          exact ⟨rfl, HB6.out⟩
        · have g8 : (nb : Int) ≤ 8000 := by omega
          have g9 : ¬ (nb : Int) > 8000 := by omega
          have g10 : nb ≤ 8000 := by omega
          have HCA0 : Hid (∀ V A c, RB V V.heap.size A b → Calls Try.prog 18 #[.slice none 0 0, .slice A nb c] V fun e w' => ∃ A' n' c', e = .returned (.slice A' n' c') ∧ CanQ w' V.heap.size [] b (.slice A' n' c') ∧ Below V.heap.size V w') := Lib.hid fun V A c h => by
            rw [← hnb]; exact rcan_q V none [] 0 A b c RB.nil h (by simp; omega)
          obtain ⟨pa, hpa⟩ : ∃ q, packF [] b = q := ⟨_, rfl⟩
          have HYA0 : Hid (∀ V base A n c, CanQ V base [] b (.slice A n c) → Calls Try.prog 17 #[.slice A n c] V fun e w' => ∃ A' c', e = .returned (.slice A' pa.length c') ∧ RB w' w'.heap.size A' pa ∧ Below V.heap.size V w') := Lib.hid fun V base A n c h => by
            rw [← hpa]; exact rbytes_q V base [] b A n c h (by simp) (by omega)
          obtain ⟨s1, hs1⟩ : ∃ s : ByteArray, ⟨pa.toArray⟩ = s := ⟨_, rfl⟩
          obtain ⟨s2, hs2⟩ : ∃ s : ByteArray, ⟨p.toArray⟩ = s := ⟨_, rfl⟩
          have HCN2 : Hid (∀ V, Below W.heap.size W V → Calls Try.prog 24 #[.slice A0 np c0] V fun e w' => e = .returned (.bool (s1.toList == s2.toList)) ∧ Below V.heap.size V w') := Lib.hid (by
            have h := HCN.out
            rwa [show canR p (.ok b) = ((⟨(packF [] b).toArray⟩ : ByteArray).toList == (⟨p.toArray⟩ : ByteArray).toList) from rfl, hpa, hs1, hs2] at h)
          obtain ⟨na, hna⟩ : ∃ n, pa.length = n := ⟨_, rfl⟩
          have EP : Hid (∀ V B A c, RB V B A pa → (convert 22 9 (.slice A na c)).run Try.prog V = .ok (.string s1) V) := Lib.hid fun V B A c h => by
            have h2 := run_str bslK 9 Try.underlying9 h c
            rwa [hna, hs1] at h2
          rw [hs2] at E0
          rw [hna] at HYA0
          clear hnb hpa hs1 hs2 hna
          have HYA := HYA0
          go_upto_region 12 with (go_at_call 20; refine (HU.out _ HWr.out).mono ?_; rintro e V5 ⟨v5, a5, y5, rfl, hq5, hb5⟩; obtain ⟨⟨A5, c5, hv5, hr5, _⟩, ha5, hy5⟩ := hq5; subst ha5; subst hy5; rw [HNB.out] at hv5; subst hv5; have HB5 := Lib.hid (HWr.out.trans (hb5.mono HWr.out.size)); have HR5 := Lib.hid hr5; clear hb5 hr5)
          have HCA : Hid (∀ V, Below V5.heap.size V5 V → Calls Try.prog 18 #[.slice none 0 0, .slice A5 nb c5] V fun e w' => ∃ A' n' c', e = .returned (.slice A' n' c') ∧ CanQ w' V.heap.size [] b (.slice A' n' c') ∧ Below V.heap.size V w') := Lib.hid fun V h => HCA0.out V A5 c5 ((HR5.out.below h).more h.size)
          have e0 : ∀ V, Below V5.heap.size V5 V → (convert 22 9 (.slice A0 np c0)).run Try.prog V = .ok (.string s2) V := fun V h => E0.out V (HB5.out.trans (h.mono HB5.out.size))
          refine wp_region_held_drew (S := (fun V => Below V5.heap.size V5 V)) (by kernel_rfl) (Below.drew (Below.refl _ _)) (fun hHeld => ?_)
          refine wpAnyH_take (i := 0) (v := ?_) (ops_atL rfl) (by kernel_rfl) (by kernel_rfl) (by kernel_rfl) (fun _ _ _ h => h) (Or.inl ⟨by rfl, ?_⟩) hHeld ?_
          rotate_left
          · (intro W hSW; go_simp; try with_reducible rfl)
          try simp only [Act.put, List.setIfInBounds_toArray, List.set_cons_zero, List.set_cons_succ]
          refine wpAnyH_take (i := 1) (v := ?_) (ops_atL rfl) (by kernel_rfl) (by kernel_rfl) (by kernel_rfl) (fun _ _ _ h => h) (Or.inl ⟨by rfl, ?_⟩) hHeld ?_
          rotate_left
          · (intro W hSW; go_simp; try with_reducible rfl)
          try simp only [Act.put, List.setIfInBounds_toArray, List.set_cons_zero, List.set_cons_succ]
          refine wpAnyH_take (i := 2) (v := ?_) (ops_atL rfl) (by kernel_rfl) (by kernel_rfl) (by kernel_rfl) (fun _ _ _ h => h) (Or.inl ⟨by rfl, ?_⟩) hHeld ?_
          rotate_left
          · (intro W hSW; go_simp; try with_reducible rfl)
          try simp only [Act.put, List.setIfInBounds_toArray, List.set_cons_zero, List.set_cons_succ]
          refine wpAnyH_take (i := 3) (v := ?_) (ops_atL rfl) (by kernel_rfl) (by kernel_rfl) (by kernel_rfl) (fun _ _ _ h => h) (Or.inl ⟨by rfl, ?_⟩) hHeld ?_
          rotate_left
          · (intro W hSW; go_simp; try with_reducible rfl)
          try simp only [Act.put, List.setIfInBounds_toArray, List.set_cons_zero, List.set_cons_succ]
          refine wpAnyH_take (i := 4) (v := ?_) (ops_atL rfl) (by kernel_rfl) (by kernel_rfl) (by kernel_rfl) (fun _ _ _ h => h) (Or.inl ⟨by rfl, ?_⟩) hHeld ?_
          rotate_left
          · (intro W hSW; go_simp; try with_reducible rfl)
          try simp only [Act.put, List.setIfInBounds_toArray, List.set_cons_zero, List.set_cons_succ]
          refine wpAnyH_take (i := 5) (v := ?_) (ops_atL rfl) (by kernel_rfl) (by kernel_rfl) (by kernel_rfl) (fun _ _ _ h => h) (Or.inl ⟨by rfl, ?_⟩) hHeld ?_
          rotate_left
          · (intro W hSW; go_simp; try with_reducible rfl)
          try simp only [Act.put, List.setIfInBounds_toArray, List.set_cons_zero, List.set_cons_succ]
          refine wpAnyH_take (i := 6) (v := ?_) (ops_atL rfl) (by kernel_rfl) (by kernel_rfl) (by kernel_rfl) (fun _ _ _ h => h) (Or.inl ⟨by rfl, ?_⟩) hHeld ?_
          rotate_left
          · (intro W hSW; go_simp; try with_reducible rfl)
          try simp only [Act.put, List.setIfInBounds_toArray, List.set_cons_zero, List.set_cons_succ]
          refine wpAnyH_take (i := 7) (v := ?_) (ops_atL rfl) (by kernel_rfl) (by kernel_rfl) (by kernel_rfl) (fun _ _ _ h => h) (Or.inl ⟨by rfl, ?_⟩) hHeld ?_
          rotate_left
          · (intro W hSW; go_simp; try with_reducible rfl)
          try simp only [Act.put, List.setIfInBounds_toArray, List.set_cons_zero, List.set_cons_succ]
          refine wpAnyH_take (i := 8) (v := ?_) (ops_atL rfl) (by kernel_rfl) (by kernel_rfl) (by kernel_rfl) (fun _ _ _ h => h) (Or.inl ⟨by rfl, ?_⟩) hHeld ?_
          rotate_left
          · (intro W hSW; go_simp; try with_reducible rfl)
          try simp only [Act.put, List.setIfInBounds_toArray, List.set_cons_zero, List.set_cons_succ]
          refine wpAnyH_take (i := 12) (v := ?_) (ops_atL rfl) (by kernel_rfl) (by kernel_rfl) (by kernel_rfl) (fun _ _ _ h => h) (Or.inl ⟨by rfl, ?_⟩) hHeld ?_
          rotate_left
          · (intro W hSW; go_simp; try with_reducible rfl)
          try simp only [Act.put, List.setIfInBounds_toArray, List.set_cons_zero, List.set_cons_succ]
          refine wpAnyH_take (i := 13) (v := ?_) (ops_atL rfl) (by kernel_rfl) (by kernel_rfl) (by kernel_rfl) (fun _ _ _ h => h) (Or.inl ⟨by rfl, ?_⟩) hHeld ?_
          rotate_left
          · (intro W hSW; go_simp; try with_reducible rfl)
          try simp only [Act.put, List.setIfInBounds_toArray, List.set_cons_zero, List.set_cons_succ]
          refine wpAnyH_ready (rs := [9]) (by kernel_rfl) (by simp) ?_
          refine AllReadyH.cons (ops_atL rfl) (fun K hK => ?_) AllReadyH.nil
          go_simp
          (go_at_call 18; refine (HCA.out _ hHeld).mono ?_; rintro e V6 ⟨Aa, ma, ca, rfl, hca, hb6⟩; have HCQ6 := Lib.hid hca; clear hca)
          refine hK.out _ _ (Below.trans hHeld (hb6.mono hHeld.size)) (fun hHeld => ?_)
          clear hK K
          try simp only [Act.put, List.setIfInBounds_toArray, List.set_cons_zero, List.set_cons_succ]
          refine wpAnyH_ready (rs := [10]) (by kernel_rfl) (by simp) ?_
          refine AllReadyH.cons (ops_atL rfl) (fun K hK => ?_) AllReadyH.nil
          go_simp
          (go_at_call 17; refine (HYA.out _ _ _ _ _ HCQ6.out).mono ?_; rintro e V7 ⟨Ab, cb, rfl, hrb, hb7⟩; have e5 := EP.out V7 _ Ab cb hrb; clear hrb)
          refine hK.out _ _ (Below.trans hHeld (hb7.mono hHeld.size)) (fun hHeld => ?_)
          clear hK K
          try simp only [Act.put, List.setIfInBounds_toArray, List.set_cons_zero, List.set_cons_succ]
          refine wpAnyH_ready (rs := [11]) (by kernel_rfl) (by simp) ?_
          refine AllReadyH.cons (ops_atL rfl) (fun K hK => ?_) AllReadyH.nil
          go_simp
          refine hK.out _ _ (hHeld) (fun hHeld => ?_)
          clear hK K
          try simp only [Act.put, List.setIfInBounds_toArray, List.set_cons_zero, List.set_cons_succ]
          refine wpAnyH_take (i := 14) (v := ?_) (ops_atL rfl) (by kernel_rfl) (by kernel_rfl) (by kernel_rfl) (fun _ _ _ h => h) (Or.inl ⟨by rfl, ?_⟩) hHeld ?_
          rotate_left
          · (intro W hSW; go_simp; try with_reducible rfl)
          try simp only [Act.put, List.setIfInBounds_toArray, List.set_cons_zero, List.set_cons_succ]
          refine wpAnyH_take (i := 15) (v := ?_) (ops_atL rfl) (by kernel_rfl) (by kernel_rfl) (by kernel_rfl) (fun _ _ _ h => h) (Or.inl ⟨by rfl, ?_⟩) hHeld ?_
          rotate_left
          · (intro W hSW; go_simp; try with_reducible rfl)
          try simp only [Act.put, List.setIfInBounds_toArray, List.set_cons_zero, List.set_cons_succ]
          refine wpAnyH_take (i := 16) (v := ?_) (ops_atL rfl) (by kernel_rfl) (by kernel_rfl) (by kernel_rfl) (fun _ _ _ h => h) (Or.inl ⟨by rfl, ?_⟩) hHeld ?_
          rotate_left
          · (intro W hSW; go_simp; try with_reducible rfl)
          try simp only [Act.put, List.setIfInBounds_toArray, List.set_cons_zero, List.set_cons_succ]
          refine wpAnyH_done (by kernel_rfl) ?_ _
          have HB6 := Lib.hid (HB5.out.trans (hHeld.mono HB5.out.size))
          clear hHeld e0
          go_wp2_with (go_at_call 24; refine (HCN2.out _ HB6.out).mono ?_; rintro e V9 ⟨rfl, hb9⟩; have HB9 := Lib.hid (HB6.out.trans (hb9.mono HB6.out.size)); clear hb9)
          go_ret
          exact ⟨rfl, HB9.out⟩
end Go.Proofs.Ytocohoojnjdkiaa
