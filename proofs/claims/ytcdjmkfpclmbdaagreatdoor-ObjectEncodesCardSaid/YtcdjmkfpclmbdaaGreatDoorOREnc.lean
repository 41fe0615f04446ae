/- object: the reference's Encode. -/
import Derived.Test.YtcdjmkfpclmbdaaGreatDoorOEncB
import Derived.Test.YtcdjmkfpclmbdaaGreatDoorOChecks
import Derived.Test.YtcdjmkfpclmbdaaGreatDoorORChkB
set_option linter.unusedVariables false
namespace Go.Proofs.YtcdjmkfpclmbdaaGreatDoor.Cod
open Go.RowKit
theorem take_step {α : Type} {l : List α} {k : Nat} {v : α} (h : l[k]? = some v) : l.take (k + 1) = l.take k ++ [v] := by
  rw [List.take_add_one, h]; rfl
set_option maxHeartbeats 1000000 in
set_option maxRecDepth 100000 in
theorem refText_any (s : ByteArray) (w : World) (hs : s.size ≤ 16777216) :
    Calls Tryz.prog 61 #[.string s] w fun e w' => ∃ v', e = .returned v' ∧ OB 5 w' w.heap.size v' (enc s.size ++ s.data.toList) ∧ Below w.heap.size w w' := by
  have hel := enc_len10 (n := s.size) (by omega)
  obtain ⟨E, hE⟩ : ∃ E, E = enc s.size := ⟨_, rfl⟩
  have HN := Lib.hid (natural_any s.size w (by omega))
  rw [← hE] at hel HN
  go_enter Tryz.func61, Tryz.ntmps61
  have HE := Lib.hid hE
  clear hE
  go_wp2_with fail
  refine HN.out.mono ?_
  rintro x w1 ⟨v1, rfl, ho1, hb1⟩
  have HO1 := Lib.hid ho1
  have HB1 := Lib.hid hb1
  clear ho1 hb1
  go_wp2
  go_loopw [3, 4] (fun u i wr => ∃ k : Nat, k ≤ s.size ∧ i = .int .i64 k ∧ OB 5 wr w.heap.size u (E ++ s.data.toList.take k) ∧ Below w.heap.size w wr) (fun _ i _ => s.size - (intOf i).toNat)
  case atStart => exact ⟨0, by omega, rfl, by simpa using HO1.out, HB1.out⟩
  case round =>
    obtain ⟨k, hk, rfl, ho, hb⟩ := hrel
    have HO := Lib.hid ho
    have HB := Lib.hid hb
    have hbs := hb.size
    clear ho hb
    by_cases hlt : k < s.size
    · have HC := Lib.hid (str_at hlt)
      have hlen : (E ++ s.data.toList.take k).length + 1 ≤ 140737488355328 := by simp <;> omega
      have HL := Lib.hid hlen
      clear hlen
      go_wp2_with (at_builtin; refine wpList_push bsl rfl (.tmp 15) (.tmp 19) rfl w.heap.size _ (E ++ s.data.toList.take k) rfl _ s[k] rfl HO.out rfl HL.out hbs ?_)
      intro u1 w1' ho1 hg1
      have HO1' := Lib.hid ho1
      have HG1 := Lib.hid (HB.out.trans (hg1.below hbs (fun j hj => (HO.out.lt j hj).1)))
      clear ho1 hg1
      go_wp2
      go_roundw
      case rel => exact ⟨k + 1, by omega, by go_num, by rw [take_step HC.out]; simpa using HO1'.out, HG1.out⟩
      case measure => simp [intOf] <;> omega
    · have he : E ++ s.data.toList = E ++ s.data.toList.take k := by rw [List.take_of_length_le (by simp; omega)]
      have HX := Lib.hid he
      clear he
      go_wp2
      go_ret
      exact ⟨u3, rfl, by rw [← HE.out, HX.out]; exact HO.out, HB.out⟩

end Go.Proofs.YtcdjmkfpclmbdaaGreatDoor.Cod
namespace Go.Proofs.YtcdjmkfpclmbdaaGreatDoor
open Go.RowKit

theorem catB_le (b : Bool) (x y : List UInt8) : (catB b x y).length ≤ x.length + y.length := by unfold catB; split <;> simp
/-- The state of the reference's Encode: the name's block, the bytes. -/
def RE (w : World) (cs : Array Value) (u : Value) (l : List UInt8) (V : World) : Prop := BX w cs V ∧ OB 5 V w.heap.size u l
theorem re_step {w V V' : World} {cs : Array Value} {u : Value} {l : List UInt8} (h : RE w cs u l V) (hb : Below V.heap.size V V') : RE w cs u l V' :=
  ⟨h.1.under hb, h.2.mod (Mod.of_below hb) (fun k hk => by have := h.2.lt k hk; omega)⟩
theorem re_grew {w V V' : World} {cs : Array Value} {u u' : Value} {l l' : List UInt8} (h : RE w cs u l V) (ho : OB 5 V' w.heap.size u' l') (hg : Grew V V' u u') : RE w cs u' l' V' :=
  ⟨⟨h.1.1.mod hg.mod (h.2.ne_blk h.1.1 (by decide)), h.1.2.trans (hg.below h.1.2.size (fun k hk => (h.2.lt k hk).1))⟩, ho⟩

set_option maxHeartbeats 8000000 in
set_option maxRecDepth 100000 in
theorem refEnc_core (k n i : Nat) (O T : ByteArray) (w : World) (b1 b2 b3 b4 : Bool) (Mst : Int) (L0 TO L1 EN L2 EI L3 TT L4 : List UInt8) (h20 : k ≤ 20) (hn : n ≤ 1073741824) (hi : i ≤ 1073741824)
    (hC : ∀ W, Calls Tryz.prog 59 #[nmV k O n i T] W fun e w' => e = .returned (.int .i64 0) ∧ Below W.heap.size W w')
    (hK : ∀ W, Calls Tryz.prog 60 #[.int .u64 (k : Int)] W fun e w' => ∃ v', e = .returned v' ∧ OB 5 w' W.heap.size v' L0 ∧ Below W.heap.size W w')
    (h1 : ∀ W, Calls Tryz.prog 10 #[.int .i64 (k : Int)] W fun e w' => e = .returned (.bool b1) ∧ W = w')
    (h2 : ∀ W, Calls Tryz.prog 11 #[.int .i64 (k : Int)] W fun e w' => e = .returned (.bool b2) ∧ W = w')
    (h3 : ∀ W, Calls Tryz.prog 12 #[.int .i64 (k : Int)] W fun e w' => e = .returned (.int .i64 Mst) ∧ W = w')
    (h4 : ∀ W, Calls Tryz.prog 13 #[.int .i64 (k : Int)] W fun e w' => e = .returned (.bool b4) ∧ W = w')
    (hM1 : b3 = true → (0 : Int) ≤ Mst) (hM0 : b3 = false → ¬ (0 : Int) ≤ Mst)
    (hTO : ∀ W, Calls Tryz.prog 61 #[.string O] W fun e w' => ∃ v', e = .returned v' ∧ OB 5 w' W.heap.size v' TO ∧ Below W.heap.size W w')
    (hEN : ∀ W, Calls Tryz.prog 60 #[.int .u64 (n : Int)] W fun e w' => ∃ v', e = .returned v' ∧ OB 5 w' W.heap.size v' EN ∧ Below W.heap.size W w')
    (hEI : ∀ W, Calls Tryz.prog 60 #[.int .u64 (i : Int)] W fun e w' => ∃ v', e = .returned v' ∧ OB 5 w' W.heap.size v' EI ∧ Below W.heap.size W w')
    (hTT : ∀ W, Calls Tryz.prog 61 #[.string T] W fun e w' => ∃ v', e = .returned v' ∧ OB 5 w' W.heap.size v' TT ∧ Below W.heap.size W w')
    (x1 : L1 = if b1 then L0 ++ TO else L0) (x2 : L2 = if b2 then L1 ++ EN else L1) (x3 : L3 = if b3 then L2 ++ EI else L2) (x4 : L4 = if b4 then L3 ++ TT else L3)
    (l1 : L0.length + TO.length ≤ 140737488355328) (l2 : L1.length + EN.length ≤ 140737488355328) (l3 : L2.length + EI.length ≤ 140737488355328) (l4 : L3.length + TT.length ≤ 140737488355328) :
    Calls Tryz.prog 22 #[nmV k O n i T] w fun e w' => e = .returned (.tuple #[.string (sv L4), .int .i64 0]) ∧ Below w.heap.size w w' := by
  obtain ⟨SL, hSL⟩ : ∃ x, x = sv L4 := ⟨_, rfl⟩
  rw [← hSL]
  have HSL := Lib.hid hSL
  clear hSL
  have HC := Lib.hid hC
  have HNK := Lib.hid hK
  have H1 := Lib.hid h1
  have H2 := Lib.hid h2
  have H3 := Lib.hid h3
  have H4 := Lib.hid h4
  have HTO := Lib.hid hTO
  have HEN := Lib.hid hEN
  have HEI := Lib.hid hEI
  have HTT := Lib.hid hTT
  have X1 := Lib.hid x1
  have X2 := Lib.hid x2
  have X3 := Lib.hid x3
  have X4 := Lib.hid x4
  have Q1 := Lib.hid l1
  have Q2 := Lib.hid l2
  have Q3 := Lib.hid l3
  have Q4 := Lib.hid l4
  have HMM := Lib.hid (And.intro hM1 hM0)
  have HX := Lib.hid (bx_new w (nmC k O n i T))
  have gk : (k : Int) ≤ 20 := by omega
  have gn : (n : Int) ≤ 1073741824 := by omega
  have gi : (i : Int) ≤ 1073741824 := by omega
  clear hC hK h1 h2 h3 h4 hTO hEN hEI hTT x1 x2 x3 x4 l1 l2 l3 l4 hM1 hM0 h20 hn hi
  go_enter Tryz.func22, Tryz.ntmps22
  have c0 := HX.out.1.cell 0; have c1 := HX.out.1.cell 1; have c2 := HX.out.1.cell 2; have c3 := HX.out.1.cell 3; have c4 := HX.out.1.cell 4
  go_upto_region 4 with (go_at_call 59; refine (HC.out _).mono ?_; rintro e V1 ⟨rfl, hb⟩; replace HX := Lib.hid (HX.out.under hb); clear hb c0 c1 c2 c3 c4; have c0 := HX.out.1.cell 0)
  go_cut [5] (fun s wx => RE w (nmC k O n i T) s L0 wx)
  case first =>
    go_wp2_with (go_at_call 60; refine (HNK.out _).mono ?_; rintro e V2 ⟨v2, rfl, ho2, hb⟩; have HR := Lib.hid (show RE w (nmC k O n i T) v2 L0 V2 from ⟨HX.out.under hb, ho2.base0 HX.out.2.size⟩); clear hb ho2 c0 HX)
    go_meet
    case rel => exact HR.out
  case rest =>
    have HR := Lib.hid hcut
    clear hcut HX HC HNK c0
    have c0 := HR.out.1.1.cell 0
    go_upto_if 17 with (go_at_call 10; refine (H1.out _).mono ?_; rintro e w' ⟨rfl, rfl⟩)
    go_cut [5] (fun s wx => RE w (nmC k O n i T) s L1 wx)
    case first =>
      have cj := HR.out.1.1.cell 1
      cases b1
      · have XX : Hid (L1 = L0) := Lib.hid X1.out
        go_wp2
        go_meet
        case rel => rw [XX.out]; exact HR.out
      · have XX : Hid (L1 = L0 ++ TO) := Lib.hid X1.out
        go_wp2_with (first
          | (go_at_call 61; refine (HTO.out _).mono ?_; rintro e V2 ⟨v2, rfl, ho2, hb2⟩; obtain ⟨A2, c2, rfl, hr2, _, _⟩ := ho2.form; replace HR := Lib.hid (re_step HR.out hb2); have HR2 := Lib.hid hr2; clear ho2 hb2 hr2 cj)
          | (at_builtin; refine wpList_app bslL rfl (.tmp 18) (.tmp 21) rfl w.heap.size _ L0 rfl HR.out.2 V2.heap.size A2 TO c2 rfl HR2.out Q1.out HR.out.1.2.size ?_; intro u1 V3 ho3 hg3; replace HR := Lib.hid (re_grew HR.out ho3 hg3); clear ho3 hg3))
        go_meet
        case rel => rw [XX.out]; exact HR.out
    case rest =>
      replace HR := Lib.hid hcut
      clear hcut c0 H1 X1 Q1
      have c0 := HR.out.1.1.cell 0
      go_upto_if 25 with (go_at_call 11; refine (H2.out _).mono ?_; rintro e w' ⟨rfl, rfl⟩)
      go_cut [5] (fun s wx => RE w (nmC k O n i T) s L2 wx)
      case first =>
        have cj := HR.out.1.1.cell 2
        cases b2
        · have XX : Hid (L2 = L1) := Lib.hid X2.out
          go_wp2
          go_meet
          case rel => rw [XX.out]; exact HR.out
        · have XX : Hid (L2 = L1 ++ EN) := Lib.hid X2.out
          go_wp2_with (first
            | (go_at_call 60; refine (HEN.out _).mono ?_; rintro e V2 ⟨v2, rfl, ho2, hb2⟩; obtain ⟨A2, c2, rfl, hr2, _, _⟩ := ho2.form; replace HR := Lib.hid (re_step HR.out hb2); have HR2 := Lib.hid hr2; clear ho2 hb2 hr2 cj)
            | (at_builtin; refine wpList_app bslL rfl (.tmp 26) (.tmp 30) rfl w.heap.size _ L1 rfl HR.out.2 V2.heap.size A2 EN c2 rfl HR2.out Q2.out HR.out.1.2.size ?_; intro u1 V3 ho3 hg3; replace HR := Lib.hid (re_grew HR.out ho3 hg3); clear ho3 hg3))
          go_meet
          case rel => rw [XX.out]; exact HR.out
      case rest =>
        replace HR := Lib.hid hcut
        clear hcut c0 H2 X2 Q2
        have c0 := HR.out.1.1.cell 0
        go_upto_if 35 with (go_at_call 12; refine (H3.out _).mono ?_; rintro e w' ⟨rfl, rfl⟩)
        go_cut [5] (fun s wx => RE w (nmC k O n i T) s L3 wx)
        case first =>
          have cj := HR.out.1.1.cell 3
          cases b3
          · have XX : Hid (L3 = L2) := Lib.hid X3.out
            have mm := HMM.out.2 rfl
            have mb : decide ((0 : Int) ≤ Mst) = false := decide_eq_false (by omega)
            go_wp2
            go_meet
            case rel => rw [XX.out]; exact HR.out
          · have XX : Hid (L3 = L2 ++ EI) := Lib.hid X3.out
            have mm := HMM.out.1 rfl
            have mb : decide ((0 : Int) ≤ Mst) = true := decide_eq_true (by omega)
            go_wp2_with (first
              | (go_at_call 60; refine (HEI.out _).mono ?_; rintro e V2 ⟨v2, rfl, ho2, hb2⟩; obtain ⟨A2, c2, rfl, hr2, _, _⟩ := ho2.form; replace HR := Lib.hid (re_step HR.out hb2); have HR2 := Lib.hid hr2; clear ho2 hb2 hr2 cj)
              | (at_builtin; refine wpList_app bslL rfl (.tmp 36) (.tmp 40) rfl w.heap.size _ L2 rfl HR.out.2 V2.heap.size A2 EI c2 rfl HR2.out Q3.out HR.out.1.2.size ?_; intro u1 V3 ho3 hg3; replace HR := Lib.hid (re_grew HR.out ho3 hg3); clear ho3 hg3))
            go_meet
            case rel => rw [XX.out]; exact HR.out
        case rest =>
          replace HR := Lib.hid hcut
          clear hcut c0 H3 X3 Q3
          have c0 := HR.out.1.1.cell 0
          go_upto_if 44 with (go_at_call 13; refine (H4.out _).mono ?_; rintro e w' ⟨rfl, rfl⟩)
          go_cut [5] (fun s wx => RE w (nmC k O n i T) s L4 wx)
          case first =>
            have cj := HR.out.1.1.cell 4
            cases b4
            · have XX : Hid (L4 = L3) := Lib.hid X4.out
              go_wp2
              go_meet
              case rel => rw [XX.out]; exact HR.out
            · have XX : Hid (L4 = L3 ++ TT) := Lib.hid X4.out
              go_wp2_with (first
                | (go_at_call 61; refine (HTT.out _).mono ?_; rintro e V2 ⟨v2, rfl, ho2, hb2⟩; obtain ⟨A2, c2, rfl, hr2, _, _⟩ := ho2.form; replace HR := Lib.hid (re_step HR.out hb2); have HR2 := Lib.hid hr2; clear ho2 hb2 hr2 cj)
                | (at_builtin; refine wpList_app bslL rfl (.tmp 45) (.tmp 48) rfl w.heap.size _ L3 rfl HR.out.2 V2.heap.size A2 TT c2 rfl HR2.out Q4.out HR.out.1.2.size ?_; intro u1 V3 ho3 hg3; replace HR := Lib.hid (re_grew HR.out ho3 hg3); clear ho3 hg3))
              go_meet
              case rel => rw [XX.out]; exact HR.out
          case rest =>
            replace HR := Lib.hid hcut
            clear hcut c0 H4 X4 Q4
            have ho := HR.out.2
            obtain ⟨A2, c2, hs, hr2, _, _⟩ := ho.form
            have hcv : ∀ W : World, RE w (nmC k O n i T) (.slice A2 L4.length c2) L4 W → (convert 53 9 (.slice A2 L4.length c2)).run Tryz.prog W = .ok (.string SL) W := fun W hW => by
              obtain ⟨A3, c3, e3, hr3, _, _⟩ := hW.2.form
              injection e3 with e4 _ e5
              subst e4 e5
              rw [HSL.out]
              exact run_str (l := L4) bslL 9 Tryz.underlying9 hr3 c2
            subst hs
            have hV := HR.out
            replace HR := Lib.hid hV
            clear ho hr2
            generalize hNL : L4.length = NL at hcv hV ⊢
            clear hNL
            go_wp2
            go_ret2
            exact ⟨rfl, HR.out.1.2⟩

set_option maxHeartbeats 1000000 in
set_option maxRecDepth 100000 in
theorem refEnc_bad (K n i : Int) (O T : ByteArray) (w : World) (e : Nat) (he : e ≠ 0)
    (hC : ∀ W, Calls Tryz.prog 59 #[nmV K O n i T] W fun r w' => r = .returned (.int .i64 (e : Int)) ∧ Below W.heap.size W w') :
    Calls Tryz.prog 22 #[nmV K O n i T] w fun r w' => r = .returned (.tuple #[.string ⟨#[]⟩, .int .i64 (e : Int)]) ∧ Below w.heap.size w w' := by
  have g : ((e : Int) != 0) = true := by simp; omega
  have HCK := Lib.hid hC
  have HX := Lib.hid (bx_new w (nmC K O n i T))
  clear hC he
  go_enter Tryz.func22, Tryz.ntmps22
  have c0 := HX.out.1.cell 0; have c1 := HX.out.1.cell 1; have c2 := HX.out.1.cell 2; have c3 := HX.out.1.cell 3; have c4 := HX.out.1.cell 4
  go_wp2_with (go_at_call 59; refine (HCK.out _).mono ?_; rintro e V1 ⟨rfl, hb⟩; replace HX := Lib.hid (HX.out.under hb); clear hb c0 c1 c2 c3 c4)
  go_ret2
  exact ⟨rfl, HX.out.bel⟩

set_option maxHeartbeats 1000000 in
theorem refEncode_any (K n i : Int) (O T : ByteArray) (w : World) (hO : O.size ≤ 1000000) (hT : T.size ≤ 1000000) :
    Calls Tryz.prog 22 #[nmV K O n i T] w fun e w' => e = .returned (.tuple #[.string (sv (encN ⟨K, O.data.toList, n, i, T.data.toList⟩)), .int .i64 (checkN ⟨K, O.data.toList, n, i, T.data.toList⟩ : Nat)]) ∧ Below w.heap.size w w' := by
  have hC : ∀ W, Calls Tryz.prog 59 #[nmV K O n i T] W fun r w' => r = .returned (.int .i64 (checkN ⟨K, O.data.toList, n, i, T.data.toList⟩ : Nat)) ∧ Below W.heap.size W w' := fun W => refCheck_any K n i O T W hO (by unfold maxLen; omega)
  by_cases h0 : checkN ⟨K, O.data.toList, n, i, T.data.toList⟩ = 0
  · have lO : O.data.toList.length = O.size := by simp
    have lT : T.data.toList.length = T.size := by simp
    obtain ⟨k, n', i', e, hv⟩ := check_vn h0
    simp only [Nm.mk.injEq] at e
    obtain ⟨rfl, _, rfl, rfl, _⟩ := e
    simp only at hv
    rw [encN_vn hv, h0]
    rw [h0] at hC
    have hm := most_le k
    have hn := hv.nb
    have hi := hv.ib
    have h21 : k < 21 := by have := hv.k2; omega
    have hmi := mostI_nat k h21
    have ek := Cod.enc_len10 (n := k) (by omega)
    have en := Cod.enc_len10 (n := n') (by omega)
    have ei := Cod.enc_len10 (n := i') (by omega)
    have eo := Cod.enc_len10 (n := O.size) (by omega)
    have et := Cod.enc_len10 (n := T.size) (by omega)
    have tO : (Cod.enc O.size ++ O.data.toList).length ≤ 2000000 := by rw [List.length_append]; omega
    have tT : (Cod.enc T.size ++ T.data.toList).length ≤ 2000000 := by rw [List.length_append]; omega
    have m1 := catB_le (ownN k) (Cod.enc k) (Cod.enc O.size ++ O.data.toList)
    have m2 := catB_le (numN k) (catB (ownN k) (Cod.enc k) (Cod.enc O.size ++ O.data.toList)) (Cod.enc n')
    have m3 := catB_le (idxN k) (catB (numN k) (catB (ownN k) (Cod.enc k) (Cod.enc O.size ++ O.data.toList)) (Cod.enc n')) (Cod.enc i')
    have eT : encT k O.data.toList n' i' T.data.toList = catB (txtN k) (catB (idxN k) (catB (numN k) (catB (ownN k) (Cod.enc k) (Cod.enc O.size ++ O.data.toList)) (Cod.enc n')) (Cod.enc i')) (Cod.enc T.size ++ T.data.toList) := by rw [encT_cat, lO, lT]
    rw [eT]
    exact refEnc_core k n' i' O T w (ownN k) (numN k) (idxN k) (txtN k) (mostI k) (Cod.enc k) (Cod.enc O.size ++ O.data.toList) (catB (ownN k) (Cod.enc k) (Cod.enc O.size ++ O.data.toList)) (Cod.enc n') (catB (numN k) (catB (ownN k) (Cod.enc k) (Cod.enc O.size ++ O.data.toList)) (Cod.enc n')) (Cod.enc i') (catB (idxN k) (catB (numN k) (catB (ownN k) (Cod.enc k) (Cod.enc O.size ++ O.data.toList)) (Cod.enc n')) (Cod.enc i')) (Cod.enc T.size ++ T.data.toList) _ hv.k2 hn (by omega)
      hC (fun W => Cod.natural_any k W (by omega)) (fun W => by have := owned_any k W; rwa [ownI_nat k h21] at this) (fun W => by have := numbered_any k W; rwa [numI_nat k h21] at this) (fun W => most_any k W) (fun W => by have := texted_any k W; rwa [txtI_nat k h21] at this)
      (fun h => by rw [hmi.2] at h; exact of_decide_eq_true h) (fun h => by rw [hmi.2] at h; exact of_decide_eq_false h)
      (fun W => Cod.refText_any O W (by omega)) (fun W => Cod.natural_any n' W (by omega)) (fun W => Cod.natural_any i' W (by omega)) (fun W => Cod.refText_any T W (by omega)) rfl rfl rfl rfl (by omega) (by omega) (by omega) (by omega)
  · have he : encN ⟨K, O.data.toList, n, i, T.data.toList⟩ = [] := by unfold encN; rw [if_neg h0]
    rw [he]
    exact refEnc_bad K n i O T w _ h0 hC
end Go.Proofs.YtcdjmkfpclmbdaaGreatDoor
