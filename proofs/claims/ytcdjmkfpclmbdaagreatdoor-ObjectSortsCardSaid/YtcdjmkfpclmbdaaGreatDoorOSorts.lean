/- object: the walk of ObjectSorts (under way). -/
import Derived.Test.YtcdjmkfpclmbdaaGreatDoorORSort
import Derived.Test.YtcdjmkfpclmbdaaGreatDoorOChecks
set_option linter.unusedVariables false
namespace Go.Proofs.YtcdjmkfpclmbdaaGreatDoor
open Go.RowKit

/-- A plain name as an element. -/
def encNm (x : Nm) : List Value := [.int .i64 x.kind, .string (sv x.owner), .int .i64 x.num, .int .i64 x.idx, .string (sv x.text)]
theorem encNm_ok : EncK encNm 5 where
  len _ := rfl
  one x u hu := by
    simp only [encNm, List.mem_cons, List.not_mem_nil, or_false] at hu
    rcases hu with rfl | rfl | rfl | rfl | rfl <;> rfl
  pos := by decide
theorem flat_val (L : List NmS) : flatQ encNm (L.map (·.1)) = flatQ encS L := by
  unfold flatQ
  rw [List.flatMap_map]; rfl
def valR (x : Nm) : Value := .agg (encNm x).toArray
theorem p_info (x : Nm) : (Tryz.prog.info? 23).map (·.size) = some (encNm x).length := by
  obtain ⟨i, hi, hz, hs, hb⟩ := info_parts infoNZ
  rw [hi]; simp [hs, encNm]
set_option maxHeartbeats 2000000 in
set_option maxRecDepth 100000 in
theorem sorts_many (A : Option Addr) (n c : Nat) (w : World) (hE : Env w) (h30 : 30 < n) :
    Calls Tryz.prog 4 #[.slice A n c] w fun e w' => e = .returned (.bool true) ∧ Below w.heap.size w w' := by
  have HK : Hid (∀ W, Below w.heap.size w W → Calls Tryz.prog 7 #[] W fun e w' => e = .returned (.bool true) ∧ Below W.heap.size W w') := Lib.hid fun W hb => known_any W (hE.below hb)
  have h1 : (30 : Int) < (n : Int) := by omega
  have HB := Lib.hid (Below.refl w.heap.size w)
  clear hE
  go_enter Tryz.func4, Tryz.ntmps4
  go_wp2_with (go_at_call 7; refine (HK.out _ HB.out).mono ?_; rintro e W1 ⟨rfl, hb⟩; replace HB := Lib.hid (HB.out.trans (hb.mono HB.out.size)); clear hb)
  go_ret
  exact ⟨rfl, HB.out⟩
/-- What the first loop keeps: own's elements, the argument's. -/
def ST (w : World) (A : Option Addr) (l : List Nm) (v : Value) (o : List Nm) (W : World) : Prop := OQ encNm 5 28 W w.heap.size v o ∧ RQ encNm 5 W w.heap.size A l ∧ Below w.heap.size w W
theorem ST.next {w W W' : World} {A : Option Addr} {l o : List Nm} {v : Value} (h : ST w A l v o W) (hb : Below W.heap.size W W') : ST w A l v o W' :=
  ⟨h.1.under hb, h.2.1.below (hb.mono h.2.2.size), h.2.2.trans (hb.mono h.2.2.size)⟩
theorem ST.drew {w W : World} {A : Option Addr} {l o : List Nm} {v : Value} (h : ST w A l v o W) : ST w A l v o W.drew := ⟨h.1, h.2.1, h.2.2.drew⟩
theorem ST.range {w W : World} {bl fl i : Nat} {l o : List Nm} {v : Value} {x : Nm} (h : ST w (some ⟨bl, fl, none⟩) l v o W) (hx : l[i]? = some x) : W.rangeAt bl (fl + i * 5) (encNm x) := by
  obtain ⟨b, off, e, _, hc⟩ := h.2.1 (by have := (List.getElem?_eq_some_iff.1 hx).1; omega)
  cases e
  exact hc i x hx
theorem rq_val {W : World} {B : Nat} {A : Option Addr} {L : List NmS} (h : RQ encNm 5 W B A (L.map (·.1))) : RQ encS 5 W B A L := fun hn => by
  obtain ⟨b, off, e, hb, hc⟩ := h (by rw [List.length_map]; exact hn)
  refine ⟨b, off, e, hb, fun j x hj => hc j x.1 ?_⟩
  rw [List.getElem?_map, hj]; rfl
theorem short_val : ∀ (l : List Nm), (∀ x ∈ l, longB (sv x.owner) (sv x.text) = false) → ∃ L : List NmS, L.map (·.1) = l
  | [], _ => ⟨[], rfl⟩
  | x :: r, h => by
    obtain ⟨L, rfl⟩ := short_val r fun y hy => h y (List.mem_cons_of_mem _ hy)
    have hx := h x List.mem_cons_self
    unfold longB at hx
    simp only [Bool.or_eq_false_iff, decide_eq_false_iff_not, sv_size] at hx
    exact ⟨⟨x, by omega, by omega⟩ :: L, rfl⟩
/-- own is sorted. -/
theorem sort_own {w W : World} {A : Option Addr} {v : Value} {L : List NmS} (hs : ST w A (L.map (·.1)) v (L.map (·.1)) W) (hne : v = .slice none 0 0 ∨ L.map (·.1) ≠ []) (hl : L.length ≤ 1000000) :
    Calls Tryz.prog 19 #[v] W fun e w' => ∃ v', e = .returned v' ∧ OS w' W.heap.size v' (sortC cS L) ∧ Below W.heap.size W w' := by
  rcases hs.1.2 with ⟨rfl, h0⟩ | ⟨g, cap, cur, rfl, hb, hg, hn, hm, hsz, ht⟩
  · obtain rfl : L = [] := by
      rw [List.length_map] at h0
      exact List.eq_nil_of_length_eq_zero h0
    exact sortO_nil W
  · have hL : L ≠ [] := by
      rcases hne with h | h
      · cases h
      · intro h'; subst h'; exact h rfl
    have hr : RQ encNm 5 W W.heap.size (some ⟨g, 0, none⟩) (L.map (·.1)) := by
      obtain ⟨A', cap', hv, hr, _⟩ := OQ.form encNm_ok hs.1
      cases hv
      exact hr
    have := sortO_some g (L.map (·.1)).length cap L W (by rw [List.length_map]) hL (rq_val hr) hl
    exact this
/-- Behind the sorts: own, the argument, both results. -/
def ZZ (w : World) (Av A A1 A2 : Option Addr) (L S : List NmS) (W : World) : Prop := RQ encS 5 W W.heap.size Av L ∧ RQ encS 5 W W.heap.size A L ∧ RQ encS 5 W W.heap.size A1 S ∧ RQ encS 5 W W.heap.size A2 S ∧ Below w.heap.size w W
theorem ZZ.mk' {w W W' : World} {Av A A1 A2 : Option Addr} {L S : List NmS} {n c : Nat} (h : ST w A (L.map (·.1)) (.slice Av n c) (L.map (·.1)) W) (h1 : RQ encS 5 W W.heap.size A1 S) (h2 : RQ encS 5 W' W'.heap.size A2 S) (hb : Below W.heap.size W W') : ZZ w Av A A1 A2 L S W' := by
  obtain ⟨A', cap', hv, hr, _⟩ := OQ.form encNm_ok h.1
  cases hv
  refine ⟨(rq_val hr).below hb |>.more hb.size, ?_, (h1.below hb).more hb.size, h2, h.2.2.trans (hb.mono h.2.2.size)⟩
  have h3 := rq_val h.2.1
  exact (h3.below (hb.mono h.2.2.size)).more (Nat.le_trans h.2.2.size hb.size)
theorem ZZ.next {w W W' : World} {Av A A1 A2 : Option Addr} {L S : List NmS} (h : ZZ w Av A A1 A2 L S W) (hb : Below W.heap.size W W') : ZZ w Av A A1 A2 L S W' :=
  ⟨(h.1.below hb).more hb.size, (h.2.1.below hb).more hb.size, (h.2.2.1.below hb).more hb.size, (h.2.2.2.1.below hb).more hb.size, h.2.2.2.2.trans (hb.mono h.2.2.2.2.size)⟩
theorem ZZ.drew {w W : World} {Av A A1 A2 : Option Addr} {L S : List NmS} (h : ZZ w Av A A1 A2 L S W) : ZZ w Av A A1 A2 L S W.drew := ⟨h.1, h.2.1, h.2.2.1, h.2.2.2.1, h.2.2.2.2.drew⟩
theorem ofS_any (x : NmS) (W : World) : Calls Tryz.prog 16 #[valS x] W fun e w' => e = .returned (valS x) ∧ Below W.heap.size W w' := ofN_any x.1.kind x.1.num x.1.idx (sv x.1.owner) (sv x.1.text) W
theorem neN_same (x : NmS) (W : World) : (binOp .neq 23 (valS x) (valS x)).run Tryz.prog W = .ok (.bool false) W := neq_of (eqN_same x W)
theorem rq_range {W : World} {B b o j : Nat} {l : List NmS} {x : NmS} (h : RQ encS 5 W B (some ⟨b, o, none⟩) l) (hx : l[j]? = some x) : W.rangeAt b (o + j * 5) (encS x) := by
  obtain ⟨b', off, e, _, hc⟩ := h (by have := (List.getElem?_eq_some_iff.1 hx).1; omega)
  cases e
  exact hc j x hx
set_option maxHeartbeats 8000000 in
set_option maxRecDepth 100000 in
theorem sorts_few (A : Option Addr) (l : List Nm) (c : Nat) (w : World) (hE : Env w) (h30 : l.length ≤ 30) (hr : RQ encNm 5 w w.heap.size A l) (hz : ∀ x ∈ l, x.owner.length ≤ maxLen ∧ x.text.length ≤ maxLen) :
    Calls Tryz.prog 4 #[.slice A l.length c] w fun e w' => e = .returned (.bool true) ∧ Below w.heap.size w w' := by
  have HK : Hid (∀ W, Below w.heap.size w W → Calls Tryz.prog 7 #[] W fun e w' => e = .returned (.bool true) ∧ Below W.heap.size W w') := Lib.hid fun W hb => known_any W (hE.below hb)
  have h1 : (l.length : Int) ≤ 30 := by omega
  have h1' : ¬ 30 < (l.length : Int) := by omega
  have HS0 : Hid (ST w A l (.slice none 0 0) [] w) := Lib.hid ⟨OQ.nil _ _, hr, Below.refl _ _⟩
  have HZ := Lib.hid hz
  clear hE hr hz
  go_enter Tryz.func4, Tryz.ntmps4
  go_wp2_with (go_at_call 7; refine (HK.out _ HS0.out.2.2).mono ?_; rintro e W1 ⟨rfl, hb⟩; replace HS0 := Lib.hid (HS0.out.next hb); clear hb)
  go_loopw [3, 4] (fun v i wr => ∃ k : Nat, k ≤ l.length ∧ i = .int .i64 k ∧ ST w A l v (l.take k) wr ∧ (∀ x ∈ l.take k, longB (sv x.owner) (sv x.text) = false) ∧ (v = .slice none 0 0 ∨ l.take k ≠ [])) (fun _ i _ => l.length - (intOf i).toNat)
  case atStart => exact ⟨0, by omega, rfl, HS0.out, fun x h => by simp at h, .inl rfl⟩
  case round =>
    obtain ⟨k, hk, rfl, hS, hsh, hne⟩ := hrel
    have HS := Lib.hid hS
    have HSH := Lib.hid hsh
    have HNE := Lib.hid hne
    clear hS hsh hne HS0
    by_cases hlt : k < l.length
    · have h2 : (k : Int) < (l.length : Int) := by omega
      obtain ⟨bl, fl, x, rfl, _, hx, _⟩ := HS.out.2.1.at_ hlt
      have HX := Lib.hid hx
      have hzx := HZ.out x (List.mem_of_getElem? hx)
      have HLG := Lib.hid fun W => long_any x.kind x.num x.idx (sv x.owner) (sv x.text) W (by rw [sv_size]; exact hzx.1) (by rw [sv_size]; exact hzx.2)
      have HTO := Lib.hid fun W => to_any x.kind x.num x.idx (sv x.owner) (sv x.text) W
      clear hx hzx
      cases hlg : longB (sv x.owner) (sv x.text) with
      | true =>
        rw [hlg] at HLG
        go_wp2_with (first
          | (refine wpList_load_mid rfl 23 (.tmp 25) rfl bl (fl + k * 5) rfl [.int .i64 x.kind, .string (sv x.owner), .int .i64 x.num, .int .i64 x.idx, .string (sv x.text)] _ (HS.out.range HX.out) Tryz.underlying23 rfl (p_info x) ?_)
          | (go_at_call 8; refine (HLG.out _).mono ?_; rintro e W1 ⟨rfl, hb⟩; replace HS := Lib.hid (HS.out.next hb); clear hb))
        go_ret
        exact ⟨rfl, HS.out.2.2⟩
      | false =>
        rw [hlg] at HLG
        have HL := Lib.hid hlg
        clear hlg
        go_wp2_with (first
          | (refine wpList_load_mid rfl 23 (.tmp 25) rfl bl (fl + k * 5) rfl [.int .i64 x.kind, .string (sv x.owner), .int .i64 x.num, .int .i64 x.idx, .string (sv x.text)] _ (HS.out.range HX.out) Tryz.underlying23 rfl (p_info x) ?_)
          | (refine wpList_load_mid rfl 23 (.tmp 31) rfl bl (fl + k * 5) rfl [.int .i64 x.kind, .string (sv x.owner), .int .i64 x.num, .int .i64 x.idx, .string (sv x.text)] _ (HS.out.range HX.out) Tryz.underlying23 rfl (p_info x) ?_)
          | (go_at_call 8; refine (HLG.out _).mono ?_; rintro e W1 ⟨rfl, hb⟩; replace HS := Lib.hid (HS.out.next hb); clear hb)
          | (go_at_call 14; refine (HTO.out _).mono ?_; rintro e W1 ⟨rfl, hb⟩; replace HS := Lib.hid (HS.out.next hb); clear hb)
          | (at_builtin; refine wpList_pushQ encNm_ok nameT_ok rfl (.tmp 28) (.tmp 34) rfl w.heap.size _ (l.take k) rfl x _ rfl HS.out.1 rfl ?_ ?_ HS.out.2.2.size ?_; (focus (rw [List.length_take]; unfold maxLen; omega)); (focus (rw [List.length_take]; omega)); intro v3 W3 ho3 hg3; have hb3 := hg3.below (B := w.heap.size) HS.out.2.2.size (fun k hk => (HS.out.1.lt k hk).1); have HS3 : Hid (ST w (some ⟨bl, fl, none⟩) l v3 (l.take k ++ [x]) W3) := Lib.hid ⟨ho3, HS.out.2.1.below hb3, HS.out.2.2.trans hb3⟩; clear ho3 hg3 hb3))
        go_roundw
        case rel =>
          refine ⟨k + 1, by omega, by go_num, ?_⟩
          rw [take_stepC HX.out]
          refine ⟨HS3.out, fun y hy => ?_, .inr (by simp)⟩
          rcases List.mem_append.1 hy with h | h
          · exact HSH.out y h
          · rw [List.mem_singleton.1 h]; exact HL.out
        case measure => simp [intOf] <;> omega
    · have h2 : ¬ (k : Int) < (l.length : Int) := by omega
      have e0 : l.take k = l := List.take_of_length_le (by omega)
      have hS := HS.out
      have hsh := HSH.out
      have hne := HNE.out
      rw [e0] at hS hsh hne
      obtain ⟨L, rfl⟩ := short_val l hsh
      have hL : L.length ≤ 1000000 := by rw [List.length_map] at h30; omega
      obtain ⟨Av, cv, hv, hrv, -⟩ := hS.1.form encNm_ok
      subst hv
      have HSO : Hid (∀ W, ST w A (L.map (·.1)) (.slice Av (L.map (·.1)).length cv) (L.map (·.1)) W → Calls Tryz.prog 19 #[.slice Av (L.map (·.1)).length cv] W fun e w' => ∃ v', e = .returned v' ∧ OS w' W.heap.size v' (sortC cS L) ∧ Below W.heap.size W w') := Lib.hid fun W h => sort_own h hne hL
      have HSR : Hid (∀ W, ST w A (L.map (·.1)) (.slice Av (L.map (·.1)).length cv) (L.map (·.1)) W → Calls Tryz.prog 20 #[.slice A (L.map (·.1)).length c] W fun e w' => ∃ v, e = .returned v ∧ OQ encS 5 23 w' W.heap.size v (sortC cS L) ∧ Below W.heap.size W w') := Lib.hid fun W h => by
        rw [List.length_map]
        exact refSortN_any A L c W ((rq_val h.2.1).more h.2.2.size) hL
      obtain ⟨S, hSS⟩ : ∃ S, S = sortC cS L := ⟨_, rfl⟩
      rw [← hSS] at HSO HSR
      have hSl : S.length ≤ 1000000 := by rw [hSS]; have := sortC_length (c := cS) L; omega
      obtain ⟨P, hP⟩ : ∃ P, P = S.length := ⟨_, rfl⟩
      obtain ⟨M, hM⟩ : ∃ M, M = (L.map (·.1)).length := ⟨_, rfl⟩
      rw [← hM] at HSO HSR hS h2 h1 h1' ⊢
      have HPL := Lib.hid hP
      have HML := Lib.hid (show M = L.length by rw [hM, List.length_map])
      have HSW := Lib.hid hS
      have hMl : M ≤ 1000000 := by rw [HML.out]; exact hL
      have hPl : P ≤ 1000000 := by omega
      clear hS hsh hne e0 hSS hP hM HS HSH HNE HZ hrv hL hSl hk h30 hlt
      go_wp2_with (first
        | (go_at_call 19; refine (HSO.out _ HSW.out).mono ?_; rintro e W1 ⟨v1, rfl, ho1, hb1⟩; obtain ⟨A1, cap1, hv1, hr1, -⟩ := ho1.form encS_ok; rw [← HPL.out] at hv1; subst hv1; have HR1 := Lib.hid hr1; replace HSW := Lib.hid (HSW.out.next hb1); clear ho1 hr1 hb1)
        | (go_at_call 20; refine (HSR.out _ HSW.out).mono ?_; rintro e W2 ⟨v2, rfl, ho2, hb2⟩; obtain ⟨A2, cap2, hv2, hr2, -⟩ := ho2.form encS_ok; rw [← HPL.out] at hv2; subst hv2; have HZZ := Lib.hid (ZZ.mk' HSW.out HR1.out hr2 hb2); clear ho2 hr2 hb2))
      
      go_loopw [7] (fun i wr => ∃ k : Nat, k ≤ P ∧ i = .int .i64 k ∧ ZZ w Av A A1 A2 L S wr) (fun i _ => P - (intOf i).toNat)
      case atStart => exact ⟨0, by omega, rfl, HZZ.out⟩
      case round =>
        obtain ⟨k, hk, rfl, hZ⟩ := hrel
        clear HZZ
        by_cases hlt : k < P
        · have h3 : (k : Int) < (P : Int) := by omega
          obtain ⟨b1, o1, x, rfl, -, hx, -⟩ := hZ.2.2.1.at_ (j := k) (by rw [← HPL.out]; exact hlt)
          obtain ⟨b2, o2, x2, rfl, -, -, -⟩ := hZ.2.2.2.1.at_ (j := k) (by rw [← HPL.out]; exact hlt)
          have HX := Lib.hid hx
          have HZ2 := Lib.hid hZ
          clear hx hZ
          have r1 : ∀ V, ZZ w Av A (some ⟨b1, o1, none⟩) (some ⟨b2, o2, none⟩) L S V → V.rangeAt b1 (o1 + k * 5) (encS x) := fun V hV => rq_range hV.2.2.1 HX.out
          have r2 : ∀ V, ZZ w Av A (some ⟨b1, o1, none⟩) (some ⟨b2, o2, none⟩) L S V → V.rangeAt b2 (o2 + k * 5) (encS x) := fun V hV => rq_range hV.2.2.2.1 HX.out
          have HOF : Hid (∀ W, ZZ w Av A (some ⟨b1, o1, none⟩) (some ⟨b2, o2, none⟩) L S W → Calls Tryz.prog 16 #[valS x] W fun e w' => e = .returned (valS x) ∧ ZZ w Av A (some ⟨b1, o1, none⟩) (some ⟨b2, o2, none⟩) L S w') := Lib.hid fun W hW => (ofS_any x W).mono fun e w' h => ⟨h.1, hW.next h.2⟩
          have hq := fun V => neN_same x V
          have hg := fun V => guardN .neq (.tmp 55) (.tmp 59) x x V
          go_wp2
          refine wp_region_held_drew (S := ZZ w Av A (some ⟨b1, o1, none⟩) (some ⟨b2, o2, none⟩) L S) (by kernel_rfl) (HZ2.out.drew) (fun hHeld => ?_)
          refine wpAnyH_take (i := 0) (v := ?_) (ops_atL rfl) (by kernel_rfl) (by kernel_rfl) (by kernel_rfl) (fun _ _ _ h => h) (Or.inl ⟨by rfl, ?_⟩) hHeld ?_
          rotate_left
          · (intro W hSW; go_simp; try with_reducible rfl)
          try simp only [Act.put, List.setIfInBounds_toArray, List.set_cons_zero, List.set_cons_succ]
          refine wpAnyH_take (i := 1) (v := ?_) (ops_atL rfl) (by kernel_rfl) (by kernel_rfl) (by kernel_rfl) (fun _ _ _ h => h) (Or.inl ⟨by rfl, ?_⟩) hHeld ?_
          rotate_left
          · (intro W hSW; go_simp; try with_reducible rfl)
          try simp only [Act.put, List.setIfInBounds_toArray, List.set_cons_zero, List.set_cons_succ]
          refine wpAnyH_take (i := 2) (v := ?_) (ops_atL rfl) (by kernel_rfl) (by kernel_rfl) (by kernel_rfl) (fun _ _ _ h => h) (Or.inl ⟨by rfl, ?_⟩) hHeld ?_
          rotate_left
          · (intro W hSW; go_simp; try with_reducible rfl)
          try simp only [Act.put, List.setIfInBounds_toArray, List.set_cons_zero, List.set_cons_succ]
          refine wpAnyH_take (i := 3) (v := valS x) (ops_atL rfl) (by kernel_rfl) (by kernel_rfl) (by kernel_rfl) (fun _ _ _ h => h) (yieldsIf_load_mid (by rfl) 28 (.tmp 53) rfl b1 (o1 + k * 5) (by rfl) (encS x) _ r1 Tryz.underlying28 rfl (nm_info _)) hHeld ?_
          try simp only [Act.put, List.setIfInBounds_toArray, List.set_cons_zero, List.set_cons_succ]
          refine wpAnyH_take (i := 5) (v := ?_) (ops_atL rfl) (by kernel_rfl) (by kernel_rfl) (by kernel_rfl) (fun _ _ _ h => h) (Or.inl ⟨by rfl, ?_⟩) hHeld ?_
          rotate_left
          · (intro W hSW; go_simp; try with_reducible rfl)
          try simp only [Act.put, List.setIfInBounds_toArray, List.set_cons_zero, List.set_cons_succ]
          refine wpAnyH_take (i := 6) (v := ?_) (ops_atL rfl) (by kernel_rfl) (by kernel_rfl) (by kernel_rfl) (fun _ _ _ h => h) (Or.inl ⟨by rfl, ?_⟩) hHeld ?_
          rotate_left
          · (intro W hSW; go_simp; try with_reducible rfl)
          try simp only [Act.put, List.setIfInBounds_toArray, List.set_cons_zero, List.set_cons_succ]
          refine wpAnyH_take (i := 7) (v := ?_) (ops_atL rfl) (by kernel_rfl) (by kernel_rfl) (by kernel_rfl) (fun _ _ _ h => h) (Or.inl ⟨by rfl, ?_⟩) hHeld ?_
          rotate_left
          · (intro W hSW; go_simp; try with_reducible rfl)
          try simp only [Act.put, List.setIfInBounds_toArray, List.set_cons_zero, List.set_cons_succ]
          refine wpAnyH_take (i := 8) (v := valS x) (ops_atL rfl) (by kernel_rfl) (by kernel_rfl) (by kernel_rfl) (fun _ _ _ h => h) (yieldsIf_load_mid (by rfl) 23 (.tmp 58) rfl b2 (o2 + k * 5) (by rfl) (encS x) _ r2 Tryz.underlying23 rfl (n_info _)) hHeld ?_
          try simp only [Act.put, List.setIfInBounds_toArray, List.set_cons_zero, List.set_cons_succ]
          refine wpAnyH_ready (rs := [4]) (by kernel_rfl) (by simp) ?_
          refine AllReadyH.cons (ops_atL rfl) (fun K hK => ?_) AllReadyH.nil
          go_simp
          (go_at_call 16; refine (HOF.out _ hHeld).mono ?_; rintro e W' ⟨rfl, hb'⟩)
          refine hK.out _ _ (hb') (fun hHeld => ?_)
          clear hK K
          try simp only [Act.put, List.setIfInBounds_toArray, List.set_cons_zero, List.set_cons_succ]
          refine wpAnyH_take (i := 9) (v := ?_) (ops_atL rfl) (by kernel_rfl) (by kernel_rfl) (by kernel_rfl) (fun _ _ _ h => h) (Or.inl ⟨by rfl, ?_⟩) hHeld ?_
          rotate_left
          · (intro W hSW; go_simp; try with_reducible rfl)
          try simp only [Act.put, List.setIfInBounds_toArray, List.set_cons_zero, List.set_cons_succ]
          refine wpAnyH_done (by kernel_rfl) ?_ _
          have HH := Lib.hid hHeld
          clear hHeld r1 r2 hq hg
          go_wp2
          go_roundw
          case rel => exact ⟨k + 1, by omega, by go_num, HH.out⟩
          case measure => simp [intOf] <;> omega
        · have h3 : ¬ (k : Int) < (P : Int) := by omega
          have HZZ := Lib.hid hZ
          clear hZ
          go_wp2
          go_loopw [8] (fun i wr => ∃ k : Nat, k ≤ M ∧ i = .int .i64 k ∧ ZZ w Av A A1 A2 L S wr) (fun i _ => M - (intOf i).toNat)
          case atStart => exact ⟨0, by omega, rfl, HZZ.out⟩
          case round =>
            obtain ⟨k, hk, rfl, hZ⟩ := hrel
            clear HZZ
            by_cases hlt : k < M
            · have h3 : (k : Int) < (M : Int) := by omega
              obtain ⟨b1, o1, x, rfl, -, hx, -⟩ := hZ.1.at_ (j := k) (by rw [← HML.out]; exact hlt)
              obtain ⟨b2, o2, x2, rfl, -, -, -⟩ := hZ.2.1.at_ (j := k) (by rw [← HML.out]; exact hlt)
              have HX := Lib.hid hx
              have HZ2 := Lib.hid hZ
              clear hx hZ
              have r1 : ∀ V, ZZ w (some ⟨b1, o1, none⟩) (some ⟨b2, o2, none⟩) A1 A2 L S V → V.rangeAt b1 (o1 + k * 5) (encS x) := fun V hV => rq_range hV.1 HX.out
              have r2 : ∀ V, ZZ w (some ⟨b1, o1, none⟩) (some ⟨b2, o2, none⟩) A1 A2 L S V → V.rangeAt b2 (o2 + k * 5) (encS x) := fun V hV => rq_range hV.2.1 HX.out
              have HOF : Hid (∀ W, ZZ w (some ⟨b1, o1, none⟩) (some ⟨b2, o2, none⟩) A1 A2 L S W → Calls Tryz.prog 16 #[valS x] W fun e w' => e = .returned (valS x) ∧ ZZ w (some ⟨b1, o1, none⟩) (some ⟨b2, o2, none⟩) A1 A2 L S w') := Lib.hid fun W hW => (ofS_any x W).mono fun e w' h => ⟨h.1, hW.next h.2⟩
              have hq := fun V => neN_same x V
              have hg := fun V => guardN .neq (.tmp 71) (.tmp 75) x x V
              go_wp2
              refine wp_region_held_drew (S := ZZ w (some ⟨b1, o1, none⟩) (some ⟨b2, o2, none⟩) A1 A2 L S) (by kernel_rfl) (HZ2.out.drew) (fun hHeld => ?_)
              refine wpAnyH_take (i := 0) (v := ?_) (ops_atL rfl) (by kernel_rfl) (by kernel_rfl) (by kernel_rfl) (fun _ _ _ h => h) (Or.inl ⟨by rfl, ?_⟩) hHeld ?_
              rotate_left
              · (intro W hSW; go_simp; try with_reducible rfl)
              try simp only [Act.put, List.setIfInBounds_toArray, List.set_cons_zero, List.set_cons_succ]
              refine wpAnyH_take (i := 1) (v := ?_) (ops_atL rfl) (by kernel_rfl) (by kernel_rfl) (by kernel_rfl) (fun _ _ _ h => h) (Or.inl ⟨by rfl, ?_⟩) hHeld ?_
              rotate_left
              · (intro W hSW; go_simp; try with_reducible rfl)
              try simp only [Act.put, List.setIfInBounds_toArray, List.set_cons_zero, List.set_cons_succ]
              refine wpAnyH_take (i := 2) (v := ?_) (ops_atL rfl) (by kernel_rfl) (by kernel_rfl) (by kernel_rfl) (fun _ _ _ h => h) (Or.inl ⟨by rfl, ?_⟩) hHeld ?_
              rotate_left
              · (intro W hSW; go_simp; try with_reducible rfl)
              try simp only [Act.put, List.setIfInBounds_toArray, List.set_cons_zero, List.set_cons_succ]
              refine wpAnyH_take (i := 3) (v := valS x) (ops_atL rfl) (by kernel_rfl) (by kernel_rfl) (by kernel_rfl) (fun _ _ _ h => h) (yieldsIf_load_mid (by rfl) 28 (.tmp 69) rfl b1 (o1 + k * 5) (by rfl) (encS x) _ r1 Tryz.underlying28 rfl (nm_info _)) hHeld ?_
              try simp only [Act.put, List.setIfInBounds_toArray, List.set_cons_zero, List.set_cons_succ]
              refine wpAnyH_take (i := 5) (v := ?_) (ops_atL rfl) (by kernel_rfl) (by kernel_rfl) (by kernel_rfl) (fun _ _ _ h => h) (Or.inl ⟨by rfl, ?_⟩) hHeld ?_
              rotate_left
              · (intro W hSW; go_simp; try with_reducible rfl)
              try simp only [Act.put, List.setIfInBounds_toArray, List.set_cons_zero, List.set_cons_succ]
              refine wpAnyH_take (i := 6) (v := ?_) (ops_atL rfl) (by kernel_rfl) (by kernel_rfl) (by kernel_rfl) (fun _ _ _ h => h) (Or.inl ⟨by rfl, ?_⟩) hHeld ?_
              rotate_left
              · (intro W hSW; go_simp; try with_reducible rfl)
              try simp only [Act.put, List.setIfInBounds_toArray, List.set_cons_zero, List.set_cons_succ]
              refine wpAnyH_take (i := 7) (v := ?_) (ops_atL rfl) (by kernel_rfl) (by kernel_rfl) (by kernel_rfl) (fun _ _ _ h => h) (Or.inl ⟨by rfl, ?_⟩) hHeld ?_
              rotate_left
              · (intro W hSW; go_simp; try with_reducible rfl)
              try simp only [Act.put, List.setIfInBounds_toArray, List.set_cons_zero, List.set_cons_succ]
              refine wpAnyH_take (i := 8) (v := valS x) (ops_atL rfl) (by kernel_rfl) (by kernel_rfl) (by kernel_rfl) (fun _ _ _ h => h) (yieldsIf_load_mid (by rfl) 23 (.tmp 74) rfl b2 (o2 + k * 5) (by rfl) (encS x) _ r2 Tryz.underlying23 rfl (n_info _)) hHeld ?_
              try simp only [Act.put, List.setIfInBounds_toArray, List.set_cons_zero, List.set_cons_succ]
              refine wpAnyH_ready (rs := [4]) (by kernel_rfl) (by simp) ?_
              refine AllReadyH.cons (ops_atL rfl) (fun K hK => ?_) AllReadyH.nil
              go_simp
              (go_at_call 16; refine (HOF.out _ hHeld).mono ?_; rintro e W' ⟨rfl, hb'⟩)
              refine hK.out _ _ (hb') (fun hHeld => ?_)
              clear hK K
              try simp only [Act.put, List.setIfInBounds_toArray, List.set_cons_zero, List.set_cons_succ]
              refine wpAnyH_take (i := 9) (v := ?_) (ops_atL rfl) (by kernel_rfl) (by kernel_rfl) (by kernel_rfl) (fun _ _ _ h => h) (Or.inl ⟨by rfl, ?_⟩) hHeld ?_
              rotate_left
              · (intro W hSW; go_simp; try with_reducible rfl)
              try simp only [Act.put, List.setIfInBounds_toArray, List.set_cons_zero, List.set_cons_succ]
              refine wpAnyH_done (by kernel_rfl) ?_ _
              have HH := Lib.hid hHeld
              clear hHeld r1 r2 hq hg
              go_wp2
              go_roundw
              case rel => exact ⟨k + 1, by omega, by go_num, HH.out⟩
              case measure => simp [intOf] <;> omega
            · have h3 : ¬ (k : Int) < (M : Int) := by omega
              have HZZ := Lib.hid hZ
              clear hZ
              go_wp2
              go_ret
              exact ⟨rfl, HZZ.out.2.2.2.2⟩
end Go.Proofs.YtcdjmkfpclmbdaaGreatDoor
