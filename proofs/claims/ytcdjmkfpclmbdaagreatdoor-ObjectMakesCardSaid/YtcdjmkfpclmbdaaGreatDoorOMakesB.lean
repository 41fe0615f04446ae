/- object: the walk of the law ObjectMakes, its end. -/
import Derived.Test.YtcdjmkfpclmbdaaGreatDoorOMakes
set_option linter.unusedVariables false
namespace Go.Proofs.YtcdjmkfpclmbdaaGreatDoor
open Go.RowKit

theorem ops_at {l : List Oper} {i : Nat} {o : Oper} (h : l[i]? = some o) : (List.toArray l)[i]? = some o := by rw [List.getElem?_toArray]; exact h
/-- Makes' blocks: the name, what was made, what is wanted, the birth. -/
def MZ (w : World) (g : Nat) (cs xs : Array Value) (V : World) : Prop := BX w cs V ∧ Blk V g 28 xs
theorem mz_new {w V : World} {cs xs : Array Value} (h : BX w cs V) : MZ w V.heap.size cs xs (V.alloc (.cells xs 28)) := ⟨⟨h.1.alloc _, h.2.alloc h.2.size _⟩, Blk.new _ _ _⟩
def MW (w : World) (g h : Nat) (cs xs ws : Array Value) (V : World) : Prop := MZ w g cs xs V ∧ Blk V h 23 ws ∧ w.heap.size < h ∧ g < h
theorem mw_new {w V : World} {g : Nat} {cs xs ws : Array Value} (h : MZ w g cs xs V) : MW w g V.heap.size cs xs ws (V.alloc (.cells ws 23)) :=
  ⟨⟨⟨h.1.1.alloc _, h.1.2.alloc h.1.2.size _⟩, h.2.alloc _⟩, Blk.new _ _ _, h.1.1.lt, h.2.lt⟩
theorem MW.set_ {w V : World} {g h : Nat} {cs xs ws : Array Value} (x : MW w g h cs xs ws V) (j : Nat) (u : Value) : MW w g h cs xs (ws.setIfInBounds j u) (V.setCell ⟨h, j, none⟩ u) :=
  ⟨⟨⟨x.1.1.1.far (p := ⟨h, j, none⟩) (by have := x.2.2.1; show w.heap.size ≠ h; omega) u, x.1.1.2.setCell (p := ⟨h, j, none⟩) (by have := x.2.2.1; show w.heap.size ≤ h; omega) u⟩, x.1.2.far (p := ⟨h, j, none⟩) (by have := x.2.2.2; show g ≠ h; omega) u⟩, x.2.1.set_ j u, x.2.2⟩
theorem MW.under {w V V' : World} {g h : Nat} {cs xs ws : Array Value} (x : MW w g h cs xs ws V) (hb : Below V.heap.size V V') : MW w g h cs xs ws V' := ⟨⟨x.1.1.under hb, x.1.2.under hb⟩, x.2.1.under hb, x.2.2⟩
def MB (w : World) (g h b : Nat) (cs xs ws bs : Array Value) (V : World) : Prop := MW w g h cs xs ws V ∧ Blk V b 34 bs
theorem mb_new {w V : World} {g h : Nat} {cs xs ws bs : Array Value} (x : MW w g h cs xs ws V) : MB w g h V.heap.size cs xs ws bs (V.alloc (.cells bs 34)) :=
  ⟨⟨⟨⟨x.1.1.1.alloc _, x.1.1.2.alloc x.1.1.2.size _⟩, x.1.2.alloc _⟩, x.2.1.alloc _, x.2.2⟩, Blk.new _ _ _⟩
theorem MB.under {w V V' : World} {g h b : Nat} {cs xs ws bs : Array Value} (x : MB w g h b cs xs ws bs V) (hb : Below V.heap.size V V') : MB w g h b cs xs ws bs V' := ⟨x.1.under hb, x.2.under hb⟩
theorem MB.bel {w V : World} {g h b : Nat} {cs xs ws bs : Array Value} (x : MB w g h b cs xs ws bs V) : Below w.heap.size w V := x.1.1.1.2
theorem MB.drew {w V : World} {g h b : Nat} {cs xs ws bs : Array Value} (x : MB w g h b cs xs ws bs V) : MB w g h b cs xs ws bs V.drew := ⟨⟨⟨x.1.1.1.drew, x.1.1.2.drew⟩, x.1.2.1.drew, x.1.2.2⟩, x.2.drew⟩

set_option maxHeartbeats 2000000 in
set_option maxRecDepth 100000 in
theorem ne_self_rn (K : Int) (O : ByteArray) (n i : Int) (T : ByteArray) (W : World) :
    (binOp .neq 23 (nmV K O n i T) (nmV K O n i T)).run Tryz.prog W = .ok (.bool false) W := by
  go_simp
theorem ne_self_b (O : ByteArray) (n : Int) (W : World) :
    (binOp .neq 34 (.agg #[.string O, .int .i64 n]) (.agg #[.string O, .int .i64 n])).run Tryz.prog W = .ok (.bool false) W := by
  go_simp

set_option maxHeartbeats 4000000 in
set_option maxRecDepth 100000 in
theorem makes_long (K : Int) (O : ByteArray) (n i : Int) (T X : ByteArray) (lb : Bool) (w : World) (hl : lb = true ∨ 100 < X.size)
    (hK : ∀ W, Below w.heap.size w W → Calls Tryz.prog 7 #[] W fun e w' => e = .returned (.bool true) ∧ Below W.heap.size W w')
    (hA : ∀ W, Calls Tryz.prog 8 #[nmV K O n i T] W fun e w' => e = .returned (.bool lb) ∧ Below W.heap.size W w') :
    Calls Tryz.prog 3 #[nmV K O n i T, .string X] w fun e w' => e = .returned (.bool true) ∧ Below w.heap.size w w' := by
  have HK := Lib.hid hK
  have HLO := Lib.hid hA
  have HL := Lib.hid hl
  have HX := Lib.hid (bx_new w (nmC K O n i T))
  clear hK hA hl
  cases lb
  · have l1 : (100 : Int) < (X.size : Int) := by
      rcases HL.out with h | h
      · cases h
      · omega
    go_enter Tryz.func3, Tryz.ntmps3
    go_wp2_with (first
      | (go_at_call 7; refine (HK.out _ HX.out.bel).mono ?_; rintro e V1 ⟨rfl, hb⟩; replace HX := Lib.hid (HX.out.under hb); clear hb; have c0 := HX.out.1.cell 0; have c1 := HX.out.1.cell 1; have c2 := HX.out.1.cell 2; have c3 := HX.out.1.cell 3; have c4 := HX.out.1.cell 4)
      | (go_at_call 8; refine (HLO.out _).mono ?_; rintro e V1 ⟨rfl, hb⟩; replace HX := Lib.hid (HX.out.under hb); clear hb c0 c1 c2 c3 c4))
    go_ret
    exact ⟨rfl, HX.out.bel⟩
  · go_enter Tryz.func3, Tryz.ntmps3
    go_wp2_with (first
      | (go_at_call 7; refine (HK.out _ HX.out.bel).mono ?_; rintro e V1 ⟨rfl, hb⟩; replace HX := Lib.hid (HX.out.under hb); clear hb; have c0 := HX.out.1.cell 0; have c1 := HX.out.1.cell 1; have c2 := HX.out.1.cell 2; have c3 := HX.out.1.cell 3; have c4 := HX.out.1.cell 4)
      | (go_at_call 8; refine (HLO.out _).mono ?_; rintro e V1 ⟨rfl, hb⟩; replace HX := Lib.hid (HX.out.under hb); clear hb c0 c1 c2 c3 c4))
    go_ret
    exact ⟨rfl, HX.out.bel⟩

set_option maxHeartbeats 16000000 in
set_option maxRecDepth 100000 in
theorem makes_short (K : Int) (O : ByteArray) (n i : Int) (T X : ByteArray) (kd : Int) (O1 : ByteArray) (n1 i1 : Int) (T1 : ByteArray) (is b1 b2 b3 b4 born r : Bool) (Mst : Int) (O2 : ByteArray) (n2 : Int) (w : World) (hX : X.size ≤ 100)
    (hK : ∀ W, Below w.heap.size w W → Calls Tryz.prog 7 #[] W fun e w' => e = .returned (.bool true) ∧ Below W.heap.size W w')
    (hA : ∀ W, Calls Tryz.prog 8 #[nmV K O n i T] W fun e w' => e = .returned (.bool false) ∧ Below W.heap.size W w')
    (hM : ∀ W, Calls Tryz.prog 9 #[nmV K O n i T] W fun e w' => e = .returned (.tuple #[nmV kd O1 n1 i1 T1, .bool is]) ∧ Below W.heap.size W w')
    (his : (is = true ∧ (1 : Int) ≤ K ∧ K ≤ 20 ∧ kd = K) ∨ (is = false ∧ ¬ (1 : Int) ≤ K ∧ kd = 0) ∨ (is = false ∧ (1 : Int) ≤ K ∧ ¬ K ≤ 20 ∧ kd = 0))
    (h1 : ∀ W, Calls Tryz.prog 10 #[.int .i64 K] W fun e w' => e = .returned (.bool b1) ∧ W = w')
    (h2 : ∀ W, Calls Tryz.prog 11 #[.int .i64 K] W fun e w' => e = .returned (.bool b2) ∧ W = w')
    (h3 : ∀ W, Calls Tryz.prog 12 #[.int .i64 K] W fun e w' => e = .returned (.int .i64 Mst) ∧ W = w')
    (h4 : ∀ W, Calls Tryz.prog 13 #[.int .i64 K] W fun e w' => e = .returned (.bool b4) ∧ W = w')
    (e1 : O1 = if b1 then O else ⟨#[]⟩) (e2 : n1 = if b2 then n else 0) (e3 : i1 = if b3 then i else 0) (e4 : T1 = if b4 then T else ⟨#[]⟩)
    (hM1 : b3 = true → (0 : Int) ≤ Mst) (hM0 : b3 = false → ¬ (0 : Int) ≤ Mst)
    (hB : ∀ W, Calls Tryz.prog 15 #[nmV K O n i T] W fun e w' => e = .returned (.tuple #[.agg #[.string O2, .int .i64 n2], .bool born]) ∧ Below W.heap.size W w')
    (hbo : (born = true ∧ (7 : Int) ≤ K ∧ K ≤ 12 ∧ O2 = O ∧ n2 = n) ∨ (born = false ∧ ¬ (7 : Int) ≤ K ∧ O2 = ⟨#[]⟩ ∧ n2 = 0) ∨ (born = false ∧ (7 : Int) ≤ K ∧ ¬ K ≤ 12 ∧ O2 = ⟨#[]⟩ ∧ n2 = 0))
    (hW : ∀ W, Below w.heap.size w W → Calls Tryz.prog 17 #[nmV K O n i T, .string X] W fun e w' => e = .returned (.bool r) ∧ Below W.heap.size W w')
    (hR : ∀ W, Calls Tryz.prog 18 #[nmV K O n i T, .string X] W fun e w' => e = .returned (.bool r) ∧ Below W.heap.size W w') :
    Calls Tryz.prog 3 #[nmV K O n i T, .string X] w fun e w' => e = .returned (.bool true) ∧ Below w.heap.size w w' := by
  have HK := Lib.hid hK
  have HLO := Lib.hid hA
  have HM := Lib.hid hM
  have HIS := Lib.hid his
  have H1 := Lib.hid h1
  have H2 := Lib.hid h2
  have H3 := Lib.hid h3
  have H4 := Lib.hid h4
  have E1 := Lib.hid e1
  have E2 := Lib.hid e2
  have E3 := Lib.hid e3
  have E4 := Lib.hid e4
  have HB := Lib.hid hB
  have HBO := Lib.hid hbo
  have HW := Lib.hid hW
  have HR := Lib.hid hR
  have HMM := Lib.hid (And.intro hM1 hM0)
  have HTO := Lib.hid fun W => to_any K n i O T W
  have HOF := Lib.hid fun W => ofN_any kd n1 i1 O1 T1 W
  have HX := Lib.hid (bx_new w (nmC K O n i T))
  have l1 : ¬ (100 : Int) < (X.size : Int) := by omega
  clear hK hA hM his h1 h2 h3 h4 e1 e2 e3 e4 hB hbo hW hR hM1 hM0 hX
  go_enter Tryz.func3, Tryz.ntmps3
  go_upto_region 4 with (first
    | (go_at_call 7; refine (HK.out _ HX.out.bel).mono ?_; rintro e V1 ⟨rfl, hb⟩; replace HX := Lib.hid (HX.out.under hb); clear hb; have c0 := HX.out.1.cell 0; have c1 := HX.out.1.cell 1; have c2 := HX.out.1.cell 2; have c3 := HX.out.1.cell 3; have c4 := HX.out.1.cell 4)
    | (go_at_call 8; refine (HLO.out _).mono ?_; rintro e V2 ⟨rfl, hb⟩; replace HX := Lib.hid (HX.out.under hb); clear hb c0 c1 c2 c3 c4; have c0 := HX.out.1.cell 0; have c1 := HX.out.1.cell 1; have c2 := HX.out.1.cell 2; have c3 := HX.out.1.cell 3; have c4 := HX.out.1.cell 4)
    | (go_at_call 9; refine (HM.out _).mono ?_; rintro e V3 ⟨rfl, hb⟩; replace HX := Lib.hid (HX.out.under hb); clear hb c0 c1 c2 c3 c4))
  refine cwp_gen (MZ w V3.heap.size (nmC K O n i T) (nmC kd O1 n1 i1 T1)) (mz_new HX.out) ?_
  intro V hV
  generalize V3.heap.size = g at hV ⊢
  clear HX
  have HZ := Lib.hid hV
  clear hV l1
  go_cut [36] (fun s wx => s = .bool false ∧ MZ w g (nmC K O n i T) (nmC kd O1 n1 i1 T1) wx)
  case first =>
    have c0 := HZ.out.1.1.cell 0
    rcases HIS.out with ⟨rfl, k1, k2, _⟩ | ⟨rfl, k1, _⟩ | ⟨rfl, k1, k2, _⟩
    all_goals
      go_wp2
      go_meet
      case rel => exact ⟨by first | rfl | (simp_all; done), HZ.out⟩
  case rest =>
    obtain ⟨hs, hZ⟩ := hcut
    subst hs
    replace HZ := Lib.hid hZ
    clear hZ
    go_upto_region 7 with fail
    refine cwp_gen (MW w g wc.heap.size (nmC K O n i T) (nmC kd O1 n1 i1 T1) (nmC 0 ⟨#[]⟩ 0 0 ⟨#[]⟩)) (mw_new HZ.out) ?_
    intro V4 hV
    clear HZ
    generalize wc.heap.size = h at hV ⊢
    have HM1 := Lib.hid hV
    clear hV
    go_upto_if 38 with fail
    go_cut [] (fun wx => MW w g h (nmC K O n i T) (nmC kd O1 n1 i1 T1) (nmC kd ⟨#[]⟩ 0 0 ⟨#[]⟩) wx)
    case first =>
      have c0 := HM1.out.1.1.1.cell 0; have n0 := HM1.out.2.1.cell 0; have q0 := HM1.out.2.1.frozen 0
      rcases HIS.out with ⟨rfl, k1, k2, hkd⟩ | ⟨rfl, k1, hkd⟩ | ⟨rfl, k1, k2, hkd⟩
      · have HKD := Lib.hid hkd
        clear hkd
        go_wp2
        go_meet
        case rel => rw [HKD.out] at HM1 ⊢; exact HM1.out.set_ 0 (.int .i64 K)
      all_goals
        have HKD := Lib.hid hkd
        clear hkd
        go_wp2
        go_meet
        case rel => rw [HKD.out] at HM1 ⊢; exact HM1.out
    case rest =>
      replace HM1 := Lib.hid hcut
      clear hcut
      have c0 := HM1.out.1.1.1.cell 0
      go_upto_if 44 with (go_at_call 10; refine (H1.out _).mono ?_; rintro e w' ⟨rfl, rfl⟩)
      go_cut [] (fun wx => MW w g h (nmC K O n i T) (nmC kd O1 n1 i1 T1) (nmC kd O1 0 0 ⟨#[]⟩) wx)
      case first =>
        have cj := HM1.out.1.1.1.cell 1; have nj := HM1.out.2.1.cell 1; have qj := HM1.out.2.1.frozen 1
        cases b1
        · have EE : Hid (O1 = ⟨#[]⟩) := Lib.hid (E1.out)
          go_wp2
          go_meet
          case rel => rw [EE.out] at HM1 ⊢; exact HM1.out
        · have EE : Hid (O1 = O) := Lib.hid (E1.out)
          go_wp2
          go_meet
          case rel => rw [EE.out] at HM1 ⊢; exact HM1.out.set_ 1 (.string O)
      case rest =>
        replace HM1 := Lib.hid hcut
        clear hcut c0
        have c0 := HM1.out.1.1.1.cell 0
        go_upto_if 50 with (go_at_call 11; refine (H2.out _).mono ?_; rintro e w' ⟨rfl, rfl⟩)
        go_cut [] (fun wx => MW w g h (nmC K O n i T) (nmC kd O1 n1 i1 T1) (nmC kd O1 n1 0 ⟨#[]⟩) wx)
        case first =>
          have cj := HM1.out.1.1.1.cell 2; have nj := HM1.out.2.1.cell 2; have qj := HM1.out.2.1.frozen 2
          cases b2
          · have EE : Hid (n1 = 0) := Lib.hid (E2.out)
            go_wp2
            go_meet
            case rel => rw [EE.out] at HM1 ⊢; exact HM1.out
          · have EE : Hid (n1 = n) := Lib.hid (E2.out)
            go_wp2
            go_meet
            case rel => rw [EE.out] at HM1 ⊢; exact HM1.out.set_ 2 (.int .i64 n)
        case rest =>
          replace HM1 := Lib.hid hcut
          clear hcut c0
          have c0 := HM1.out.1.1.1.cell 0
          go_upto_if 57 with (go_at_call 12; refine (H3.out _).mono ?_; rintro e w' ⟨rfl, rfl⟩)
          go_cut [] (fun wx => MW w g h (nmC K O n i T) (nmC kd O1 n1 i1 T1) (nmC kd O1 n1 i1 ⟨#[]⟩) wx)
          case first =>
            have cj := HM1.out.1.1.1.cell 3; have nj := HM1.out.2.1.cell 3; have qj := HM1.out.2.1.frozen 3
            cases b3
            · have EE : Hid (i1 = 0) := Lib.hid (E3.out)
              have mm := HMM.out.2 rfl
              have mb : decide ((0 : Int) ≤ Mst) = false := decide_eq_false (by omega)
              go_wp2
              go_meet
              case rel => rw [EE.out] at HM1 ⊢; exact HM1.out
            · have EE : Hid (i1 = i) := Lib.hid (E3.out)
              have mm := HMM.out.1 rfl
              have mb : decide ((0 : Int) ≤ Mst) = true := decide_eq_true (by omega)
              go_wp2
              go_meet
              case rel => rw [EE.out] at HM1 ⊢; exact HM1.out.set_ 3 (.int .i64 i)
          case rest =>
            replace HM1 := Lib.hid hcut
            clear hcut c0
            have c0 := HM1.out.1.1.1.cell 0
            go_upto_if 63 with (go_at_call 13; refine (H4.out _).mono ?_; rintro e w' ⟨rfl, rfl⟩)
            go_cut [] (fun wx => MW w g h (nmC K O n i T) (nmC kd O1 n1 i1 T1) (nmC kd O1 n1 i1 T1) wx)
            case first =>
              have cj := HM1.out.1.1.1.cell 4; have nj := HM1.out.2.1.cell 4; have qj := HM1.out.2.1.frozen 4
              cases b4
              · have EE : Hid (T1 = ⟨#[]⟩) := Lib.hid (E4.out)
                go_wp2
                go_meet
                case rel => rw [EE.out] at HM1 ⊢; exact HM1.out
              · have EE : Hid (T1 = T) := Lib.hid (E4.out)
                go_wp2
                go_meet
                case rel => rw [EE.out] at HM1 ⊢; exact HM1.out.set_ 4 (.string T)
            case rest =>
              replace HM1 := Lib.hid hcut
              clear hcut c0
              have c0 := HM1.out.1.1.1.cell 0; have c1 := HM1.out.1.1.1.cell 1; have c2 := HM1.out.1.1.1.cell 2; have c3 := HM1.out.1.1.1.cell 3; have c4 := HM1.out.1.1.1.cell 4
              clear H1 H2 H3 H4 E1 E2 E3 E4 HMM HIS HM HLO HK
              go_upto_region 18 with (first
                | (go_at_call 14; refine (HTO.out _).mono ?_; rintro e V5 ⟨rfl, hb⟩; replace HM1 := Lib.hid (HM1.out.under hb); clear hb c0 c1 c2 c3 c4)
                | (go_at_call 15; refine (HB.out _).mono ?_; rintro e V6 ⟨rfl, hb⟩; replace HM1 := Lib.hid (HM1.out.under hb); clear hb))
              refine cwp_gen (MB w g h V6.heap.size (nmC K O n i T) (nmC kd O1 n1 i1 T1) (nmC kd O1 n1 i1 T1) #[.string O2, .int .i64 n2]) (mb_new HM1.out) ?_
              intro V7 hV
              generalize V6.heap.size = b at hV ⊢
              clear HM1
              have hq := fun W => ne_self_rn kd O1 n1 i1 T1 W
              have hqb := fun W => ne_self_b O2 n2 W
              have f0 : ∀ W, MB w g h b (nmC K O n i T) (nmC kd O1 n1 i1 T1) (nmC kd O1 n1 i1 T1) #[.string O2, .int .i64 n2] W → W.cell? ⟨w.heap.size, 0, none⟩ = some (.int .i64 K) := fun W x => x.1.1.1.1.cell 0
              have f1 : ∀ W, MB w g h b (nmC K O n i T) (nmC kd O1 n1 i1 T1) (nmC kd O1 n1 i1 T1) #[.string O2, .int .i64 n2] W → W.cell? ⟨w.heap.size, 1, none⟩ = some (.string O) := fun W x => x.1.1.1.1.cell 1
              have f2 : ∀ W, MB w g h b (nmC K O n i T) (nmC kd O1 n1 i1 T1) (nmC kd O1 n1 i1 T1) #[.string O2, .int .i64 n2] W → W.cell? ⟨w.heap.size, 2, none⟩ = some (.int .i64 n) := fun W x => x.1.1.1.1.cell 2
              have f3 : ∀ W, MB w g h b (nmC K O n i T) (nmC kd O1 n1 i1 T1) (nmC kd O1 n1 i1 T1) #[.string O2, .int .i64 n2] W → W.cell? ⟨w.heap.size, 3, none⟩ = some (.int .i64 i) := fun W x => x.1.1.1.1.cell 3
              have f4 : ∀ W, MB w g h b (nmC K O n i T) (nmC kd O1 n1 i1 T1) (nmC kd O1 n1 i1 T1) #[.string O2, .int .i64 n2] W → W.cell? ⟨w.heap.size, 4, none⟩ = some (.string T) := fun W x => x.1.1.1.1.cell 4
              have g0 : ∀ W, MB w g h b (nmC K O n i T) (nmC kd O1 n1 i1 T1) (nmC kd O1 n1 i1 T1) #[.string O2, .int .i64 n2] W → W.cell? ⟨g, 0, none⟩ = some (.int .i64 kd) := fun W x => x.1.1.2.cell 0
              have g1 : ∀ W, MB w g h b (nmC K O n i T) (nmC kd O1 n1 i1 T1) (nmC kd O1 n1 i1 T1) #[.string O2, .int .i64 n2] W → W.cell? ⟨g, 1, none⟩ = some (.string O1) := fun W x => x.1.1.2.cell 1
              have g2 : ∀ W, MB w g h b (nmC K O n i T) (nmC kd O1 n1 i1 T1) (nmC kd O1 n1 i1 T1) #[.string O2, .int .i64 n2] W → W.cell? ⟨g, 2, none⟩ = some (.int .i64 n1) := fun W x => x.1.1.2.cell 2
              have g3 : ∀ W, MB w g h b (nmC K O n i T) (nmC kd O1 n1 i1 T1) (nmC kd O1 n1 i1 T1) #[.string O2, .int .i64 n2] W → W.cell? ⟨g, 3, none⟩ = some (.int .i64 i1) := fun W x => x.1.1.2.cell 3
              have g4 : ∀ W, MB w g h b (nmC K O n i T) (nmC kd O1 n1 i1 T1) (nmC kd O1 n1 i1 T1) #[.string O2, .int .i64 n2] W → W.cell? ⟨g, 4, none⟩ = some (.string T1) := fun W x => x.1.1.2.cell 4
              have h0 : ∀ W, MB w g h b (nmC K O n i T) (nmC kd O1 n1 i1 T1) (nmC kd O1 n1 i1 T1) #[.string O2, .int .i64 n2] W → W.cell? ⟨h, 0, none⟩ = some (.int .i64 kd) := fun W x => x.1.2.1.cell 0
              have h1 : ∀ W, MB w g h b (nmC K O n i T) (nmC kd O1 n1 i1 T1) (nmC kd O1 n1 i1 T1) #[.string O2, .int .i64 n2] W → W.cell? ⟨h, 1, none⟩ = some (.string O1) := fun W x => x.1.2.1.cell 1
              have h2 : ∀ W, MB w g h b (nmC K O n i T) (nmC kd O1 n1 i1 T1) (nmC kd O1 n1 i1 T1) #[.string O2, .int .i64 n2] W → W.cell? ⟨h, 2, none⟩ = some (.int .i64 n1) := fun W x => x.1.2.1.cell 2
              have h3 : ∀ W, MB w g h b (nmC K O n i T) (nmC kd O1 n1 i1 T1) (nmC kd O1 n1 i1 T1) #[.string O2, .int .i64 n2] W → W.cell? ⟨h, 3, none⟩ = some (.int .i64 i1) := fun W x => x.1.2.1.cell 3
              have h4 : ∀ W, MB w g h b (nmC K O n i T) (nmC kd O1 n1 i1 T1) (nmC kd O1 n1 i1 T1) #[.string O2, .int .i64 n2] W → W.cell? ⟨h, 4, none⟩ = some (.string T1) := fun W x => x.1.2.1.cell 4
              have b0 : ∀ W, MB w g h b (nmC K O n i T) (nmC kd O1 n1 i1 T1) (nmC kd O1 n1 i1 T1) #[.string O2, .int .i64 n2] W → W.cell? ⟨b, 0, none⟩ = some (.string O2) := fun W x => x.2.cell 0
              have b1 : ∀ W, MB w g h b (nmC K O n i T) (nmC kd O1 n1 i1 T1) (nmC kd O1 n1 i1 T1) #[.string O2, .int .i64 n2] W → W.cell? ⟨b, 1, none⟩ = some (.int .i64 n2) := fun W x => x.2.cell 1
              go_cut [109] (fun s wx => s = .bool false ∧ MB w g h b (nmC K O n i T) (nmC kd O1 n1 i1 T1) (nmC kd O1 n1 i1 T1) #[.string O2, .int .i64 n2] wx)
              case first =>
                rcases HBO.out with ⟨rfl, k1, k2, rfl, rfl⟩ | ⟨rfl, k1, rfl, rfl⟩ | ⟨rfl, k1, k2, rfl, rfl⟩
                all_goals
                  first | (have kb1 : decide ((7 : Int) ≤ K) = true := decide_eq_true k1) | (have kb1 : decide ((7 : Int) ≤ K) = false := decide_eq_false (by omega))
                  first | (have kb2 : decide (K ≤ 12) = true := decide_eq_true k2) | (have kb2 : decide (K ≤ 12) = false := decide_eq_false (by omega)) | skip
                  refine wp_region_held_drew (S := MB w g h b (nmC K _ _ i T) (nmC kd O1 n1 i1 T1) (nmC kd O1 n1 i1 T1) #[.string _, .int .i64 _]) (by kernel_rfl) (hV.drew) (fun hHeld => ?_)
                  refine wpAnyH_take (i := 0) (v := ?_) (ops_at rfl) (by kernel_rfl) (by kernel_rfl) (by kernel_rfl) (fun _ _ _ h => h) (Or.inl ⟨by rfl, ?_⟩) hHeld ?_
                  rotate_left
                  · (intro W hSW; go_simp; try with_reducible rfl)
                  try simp only [Act.put, List.setIfInBounds_toArray, List.set_cons_zero, List.set_cons_succ]
                  refine wpAnyH_take (i := 2) (v := ?_) (ops_at rfl) (by kernel_rfl) (by kernel_rfl) (by kernel_rfl) (fun _ _ _ h => h) (Or.inl ⟨by rfl, ?_⟩) hHeld ?_
                  rotate_left
                  · (intro W hSW; go_simp; try with_reducible rfl)
                  try simp only [Act.put, List.setIfInBounds_toArray, List.set_cons_zero, List.set_cons_succ]
                  refine wpAnyH_ready (rs := [1]) (by kernel_rfl) (by simp) ?_
                  refine AllReadyH.cons (ops_at rfl) (fun K hK => ?_) AllReadyH.nil
                  go_simp
                  (go_at_call 16; refine (HOF.out _).mono ?_; rintro e W' ⟨rfl, hb'⟩)
                  refine hK.out _ _ (MB.under hHeld hb') (fun hHeld => ?_)
                  clear hK K
                  try simp only [Act.put, List.setIfInBounds_toArray, List.set_cons_zero, List.set_cons_succ]
                  refine wpAnyH_take (i := 3) (v := ?_) (ops_at rfl) (by kernel_rfl) (by kernel_rfl) (by kernel_rfl) (fun _ _ _ h => h) (Or.inl ⟨by rfl, ?_⟩) hHeld ?_
                  rotate_left
                  · (intro W hSW; go_simp; try with_reducible rfl)
                  try simp only [Act.put, List.setIfInBounds_toArray, List.set_cons_zero, List.set_cons_succ]
                  refine wpAnyH_take (i := 4) (v := ?_) (ops_at rfl) (by kernel_rfl) (by kernel_rfl) (by kernel_rfl) (fun _ _ _ h => h) (Or.inl ⟨by rfl, ?_⟩) hHeld ?_
                  rotate_left
                  · (intro W hSW; go_simp; try with_reducible rfl)
                  try simp only [Act.put, List.setIfInBounds_toArray, List.set_cons_zero, List.set_cons_succ]
                  first | (refine wpAnyH_take (i := 5) (v := undef) (ops_at rfl) (by kernel_rfl) (by kernel_rfl) (by kernel_rfl) (fun _ _ _ h => h) (Or.inr ⟨by rfl, rfl⟩) hHeld ?_) | (refine wpAnyH_take (i := 5) (v := ?_) (ops_at rfl) (by kernel_rfl) (by kernel_rfl) (by kernel_rfl) (fun _ _ _ h => h) (Or.inl ⟨by rfl, ?_⟩) hHeld ?_; rotate_left; focus (intro W hSW; go_simp; try with_reducible rfl))
                  try simp only [Act.put, List.setIfInBounds_toArray, List.set_cons_zero, List.set_cons_succ]
                  first | (refine wpAnyH_take (i := 6) (v := undef) (ops_at rfl) (by kernel_rfl) (by kernel_rfl) (by kernel_rfl) (fun _ _ _ h => h) (Or.inr ⟨by rfl, rfl⟩) hHeld ?_) | (refine wpAnyH_take (i := 6) (v := ?_) (ops_at rfl) (by kernel_rfl) (by kernel_rfl) (by kernel_rfl) (fun _ _ _ h => h) (Or.inl ⟨by rfl, ?_⟩) hHeld ?_; rotate_left; focus (intro W hSW; go_simp; try with_reducible rfl))
                  try simp only [Act.put, List.setIfInBounds_toArray, List.set_cons_zero, List.set_cons_succ]
                  first | (refine wpAnyH_take (i := 7) (v := undef) (ops_at rfl) (by kernel_rfl) (by kernel_rfl) (by kernel_rfl) (fun _ _ _ h => h) (Or.inr ⟨by rfl, rfl⟩) hHeld ?_) | (refine wpAnyH_take (i := 7) (v := ?_) (ops_at rfl) (by kernel_rfl) (by kernel_rfl) (by kernel_rfl) (fun _ _ _ h => h) (Or.inl ⟨by rfl, ?_⟩) hHeld ?_; rotate_left; focus (intro W hSW; go_simp; try with_reducible rfl))
                  try simp only [Act.put, List.setIfInBounds_toArray, List.set_cons_zero, List.set_cons_succ]
                  first | (refine wpAnyH_take (i := 8) (v := undef) (ops_at rfl) (by kernel_rfl) (by kernel_rfl) (by kernel_rfl) (fun _ _ _ h => h) (Or.inr ⟨by rfl, rfl⟩) hHeld ?_) | (refine wpAnyH_take (i := 8) (v := ?_) (ops_at rfl) (by kernel_rfl) (by kernel_rfl) (by kernel_rfl) (fun _ _ _ h => h) (Or.inl ⟨by rfl, ?_⟩) hHeld ?_; rotate_left; focus (intro W hSW; go_simp; try with_reducible rfl))
                  try simp only [Act.put, List.setIfInBounds_toArray, List.set_cons_zero, List.set_cons_succ]
                  first | (refine wpAnyH_take (i := 9) (v := undef) (ops_at rfl) (by kernel_rfl) (by kernel_rfl) (by kernel_rfl) (fun _ _ _ h => h) (Or.inr ⟨by rfl, rfl⟩) hHeld ?_) | (refine wpAnyH_take (i := 9) (v := ?_) (ops_at rfl) (by kernel_rfl) (by kernel_rfl) (by kernel_rfl) (fun _ _ _ h => h) (Or.inl ⟨by rfl, ?_⟩) hHeld ?_; rotate_left; focus (intro W hSW; go_simp; try with_reducible rfl))
                  try simp only [Act.put, List.setIfInBounds_toArray, List.set_cons_zero, List.set_cons_succ]
                  first | (refine wpAnyH_take (i := 10) (v := undef) (ops_at rfl) (by kernel_rfl) (by kernel_rfl) (by kernel_rfl) (fun _ _ _ h => h) (Or.inr ⟨by rfl, rfl⟩) hHeld ?_) | (refine wpAnyH_take (i := 10) (v := ?_) (ops_at rfl) (by kernel_rfl) (by kernel_rfl) (by kernel_rfl) (fun _ _ _ h => h) (Or.inl ⟨by rfl, ?_⟩) hHeld ?_; rotate_left; focus (intro W hSW; go_simp; try with_reducible rfl))
                  try simp only [Act.put, List.setIfInBounds_toArray, List.set_cons_zero, List.set_cons_succ]
                  first | (refine wpAnyH_take (i := 11) (v := undef) (ops_at rfl) (by kernel_rfl) (by kernel_rfl) (by kernel_rfl) (fun _ _ _ h => h) (Or.inr ⟨by rfl, rfl⟩) hHeld ?_) | (refine wpAnyH_take (i := 11) (v := ?_) (ops_at rfl) (by kernel_rfl) (by kernel_rfl) (by kernel_rfl) (fun _ _ _ h => h) (Or.inl ⟨by rfl, ?_⟩) hHeld ?_; rotate_left; focus (intro W hSW; go_simp; try with_reducible rfl))
                  try simp only [Act.put, List.setIfInBounds_toArray, List.set_cons_zero, List.set_cons_succ]
                  first | (refine wpAnyH_take (i := 12) (v := undef) (ops_at rfl) (by kernel_rfl) (by kernel_rfl) (by kernel_rfl) (fun _ _ _ h => h) (Or.inr ⟨by rfl, rfl⟩) hHeld ?_) | (refine wpAnyH_take (i := 12) (v := ?_) (ops_at rfl) (by kernel_rfl) (by kernel_rfl) (by kernel_rfl) (fun _ _ _ h => h) (Or.inl ⟨by rfl, ?_⟩) hHeld ?_; rotate_left; focus (intro W hSW; go_simp; try with_reducible rfl))
                  try simp only [Act.put, List.setIfInBounds_toArray, List.set_cons_zero, List.set_cons_succ]
                  first | (refine wpAnyH_take (i := 13) (v := undef) (ops_at rfl) (by kernel_rfl) (by kernel_rfl) (by kernel_rfl) (fun _ _ _ h => h) (Or.inr ⟨by rfl, rfl⟩) hHeld ?_) | (refine wpAnyH_take (i := 13) (v := ?_) (ops_at rfl) (by kernel_rfl) (by kernel_rfl) (by kernel_rfl) (fun _ _ _ h => h) (Or.inl ⟨by rfl, ?_⟩) hHeld ?_; rotate_left; focus (intro W hSW; go_simp; try with_reducible rfl))
                  try simp only [Act.put, List.setIfInBounds_toArray, List.set_cons_zero, List.set_cons_succ]
                  first | (refine wpAnyH_take (i := 14) (v := undef) (ops_at rfl) (by kernel_rfl) (by kernel_rfl) (by kernel_rfl) (fun _ _ _ h => h) (Or.inr ⟨by rfl, rfl⟩) hHeld ?_) | (refine wpAnyH_take (i := 14) (v := ?_) (ops_at rfl) (by kernel_rfl) (by kernel_rfl) (by kernel_rfl) (fun _ _ _ h => h) (Or.inl ⟨by rfl, ?_⟩) hHeld ?_; rotate_left; focus (intro W hSW; go_simp; try with_reducible rfl))
                  try simp only [Act.put, List.setIfInBounds_toArray, List.set_cons_zero, List.set_cons_succ]
                  refine wpAnyH_take (i := 15) (v := ?_) (ops_at rfl) (by kernel_rfl) (by kernel_rfl) (by kernel_rfl) (fun _ _ _ h => h) (Or.inl ⟨by rfl, ?_⟩) hHeld ?_
                  rotate_left
                  · (intro W hSW; go_simp; try with_reducible rfl)
                  try simp only [Act.put, List.setIfInBounds_toArray, List.set_cons_zero, List.set_cons_succ]
                  refine wpAnyH_take (i := 16) (v := ?_) (ops_at rfl) (by kernel_rfl) (by kernel_rfl) (by kernel_rfl) (fun _ _ _ h => h) (Or.inl ⟨by rfl, ?_⟩) hHeld ?_
                  rotate_left
                  · (intro W hSW; go_simp; try with_reducible rfl)
                  try simp only [Act.put, List.setIfInBounds_toArray, List.set_cons_zero, List.set_cons_succ]
                  first | (refine wpAnyH_take (i := 17) (v := undef) (ops_at rfl) (by kernel_rfl) (by kernel_rfl) (by kernel_rfl) (fun _ _ _ h => h) (Or.inr ⟨by rfl, rfl⟩) hHeld ?_) | (refine wpAnyH_take (i := 17) (v := ?_) (ops_at rfl) (by kernel_rfl) (by kernel_rfl) (by kernel_rfl) (fun _ _ _ h => h) (Or.inl ⟨by rfl, ?_⟩) hHeld ?_; rotate_left; focus (intro W hSW; go_simp; try with_reducible rfl))
                  try simp only [Act.put, List.setIfInBounds_toArray, List.set_cons_zero, List.set_cons_succ]
                  first | (refine wpAnyH_take (i := 18) (v := undef) (ops_at rfl) (by kernel_rfl) (by kernel_rfl) (by kernel_rfl) (fun _ _ _ h => h) (Or.inr ⟨by rfl, rfl⟩) hHeld ?_) | (refine wpAnyH_take (i := 18) (v := ?_) (ops_at rfl) (by kernel_rfl) (by kernel_rfl) (by kernel_rfl) (fun _ _ _ h => h) (Or.inl ⟨by rfl, ?_⟩) hHeld ?_; rotate_left; focus (intro W hSW; go_simp; try with_reducible rfl))
                  try simp only [Act.put, List.setIfInBounds_toArray, List.set_cons_zero, List.set_cons_succ]
                  first | (refine wpAnyH_take (i := 19) (v := undef) (ops_at rfl) (by kernel_rfl) (by kernel_rfl) (by kernel_rfl) (fun _ _ _ h => h) (Or.inr ⟨by rfl, rfl⟩) hHeld ?_) | (refine wpAnyH_take (i := 19) (v := ?_) (ops_at rfl) (by kernel_rfl) (by kernel_rfl) (by kernel_rfl) (fun _ _ _ h => h) (Or.inl ⟨by rfl, ?_⟩) hHeld ?_; rotate_left; focus (intro W hSW; go_simp; try with_reducible rfl))
                  try simp only [Act.put, List.setIfInBounds_toArray, List.set_cons_zero, List.set_cons_succ]
                  first | (refine wpAnyH_take (i := 20) (v := undef) (ops_at rfl) (by kernel_rfl) (by kernel_rfl) (by kernel_rfl) (fun _ _ _ h => h) (Or.inr ⟨by rfl, rfl⟩) hHeld ?_) | (refine wpAnyH_take (i := 20) (v := ?_) (ops_at rfl) (by kernel_rfl) (by kernel_rfl) (by kernel_rfl) (fun _ _ _ h => h) (Or.inl ⟨by rfl, ?_⟩) hHeld ?_; rotate_left; focus (intro W hSW; go_simp; try with_reducible rfl))
                  try simp only [Act.put, List.setIfInBounds_toArray, List.set_cons_zero, List.set_cons_succ]
                  first | (refine wpAnyH_take (i := 21) (v := undef) (ops_at rfl) (by kernel_rfl) (by kernel_rfl) (by kernel_rfl) (fun _ _ _ h => h) (Or.inr ⟨by rfl, rfl⟩) hHeld ?_) | (refine wpAnyH_take (i := 21) (v := ?_) (ops_at rfl) (by kernel_rfl) (by kernel_rfl) (by kernel_rfl) (fun _ _ _ h => h) (Or.inl ⟨by rfl, ?_⟩) hHeld ?_; rotate_left; focus (intro W hSW; go_simp; try with_reducible rfl))
                  try simp only [Act.put, List.setIfInBounds_toArray, List.set_cons_zero, List.set_cons_succ]
                  first | (refine wpAnyH_take (i := 22) (v := undef) (ops_at rfl) (by kernel_rfl) (by kernel_rfl) (by kernel_rfl) (fun _ _ _ h => h) (Or.inr ⟨by rfl, rfl⟩) hHeld ?_) | (refine wpAnyH_take (i := 22) (v := ?_) (ops_at rfl) (by kernel_rfl) (by kernel_rfl) (by kernel_rfl) (fun _ _ _ h => h) (Or.inl ⟨by rfl, ?_⟩) hHeld ?_; rotate_left; focus (intro W hSW; go_simp; try with_reducible rfl))
                  try simp only [Act.put, List.setIfInBounds_toArray, List.set_cons_zero, List.set_cons_succ]
                  first | (refine wpAnyH_take (i := 23) (v := undef) (ops_at rfl) (by kernel_rfl) (by kernel_rfl) (by kernel_rfl) (fun _ _ _ h => h) (Or.inr ⟨by rfl, rfl⟩) hHeld ?_) | (refine wpAnyH_take (i := 23) (v := ?_) (ops_at rfl) (by kernel_rfl) (by kernel_rfl) (by kernel_rfl) (fun _ _ _ h => h) (Or.inl ⟨by rfl, ?_⟩) hHeld ?_; rotate_left; focus (intro W hSW; go_simp; try with_reducible rfl))
                  try simp only [Act.put, List.setIfInBounds_toArray, List.set_cons_zero, List.set_cons_succ]
                  first | (refine wpAnyH_take (i := 24) (v := undef) (ops_at rfl) (by kernel_rfl) (by kernel_rfl) (by kernel_rfl) (fun _ _ _ h => h) (Or.inr ⟨by rfl, rfl⟩) hHeld ?_) | (refine wpAnyH_take (i := 24) (v := ?_) (ops_at rfl) (by kernel_rfl) (by kernel_rfl) (by kernel_rfl) (fun _ _ _ h => h) (Or.inl ⟨by rfl, ?_⟩) hHeld ?_; rotate_left; focus (intro W hSW; go_simp; try with_reducible rfl))
                  try simp only [Act.put, List.setIfInBounds_toArray, List.set_cons_zero, List.set_cons_succ]
                  first | (refine wpAnyH_take (i := 25) (v := undef) (ops_at rfl) (by kernel_rfl) (by kernel_rfl) (by kernel_rfl) (fun _ _ _ h => h) (Or.inr ⟨by rfl, rfl⟩) hHeld ?_) | (refine wpAnyH_take (i := 25) (v := ?_) (ops_at rfl) (by kernel_rfl) (by kernel_rfl) (by kernel_rfl) (fun _ _ _ h => h) (Or.inl ⟨by rfl, ?_⟩) hHeld ?_; rotate_left; focus (intro W hSW; go_simp; try with_reducible rfl))
                  try simp only [Act.put, List.setIfInBounds_toArray, List.set_cons_zero, List.set_cons_succ]
                  first | (refine wpAnyH_take (i := 26) (v := undef) (ops_at rfl) (by kernel_rfl) (by kernel_rfl) (by kernel_rfl) (fun _ _ _ h => h) (Or.inr ⟨by rfl, rfl⟩) hHeld ?_) | (refine wpAnyH_take (i := 26) (v := ?_) (ops_at rfl) (by kernel_rfl) (by kernel_rfl) (by kernel_rfl) (fun _ _ _ h => h) (Or.inl ⟨by rfl, ?_⟩) hHeld ?_; rotate_left; focus (intro W hSW; go_simp; try with_reducible rfl))
                  try simp only [Act.put, List.setIfInBounds_toArray, List.set_cons_zero, List.set_cons_succ]
                  refine wpAnyH_take (i := 27) (v := ?_) (ops_at rfl) (by kernel_rfl) (by kernel_rfl) (by kernel_rfl) (fun _ _ _ h => h) (Or.inl ⟨by rfl, ?_⟩) hHeld ?_
                  rotate_left
                  · (intro W hSW; go_simp; try with_reducible rfl)
                  try simp only [Act.put, List.setIfInBounds_toArray, List.set_cons_zero, List.set_cons_succ]
                  refine wpAnyH_take (i := 28) (v := ?_) (ops_at rfl) (by kernel_rfl) (by kernel_rfl) (by kernel_rfl) (fun _ _ _ h => h) (Or.inl ⟨by rfl, ?_⟩) hHeld ?_
                  rotate_left
                  · (intro W hSW; go_simp; try with_reducible rfl)
                  try simp only [Act.put, List.setIfInBounds_toArray, List.set_cons_zero, List.set_cons_succ]
                  first | (refine wpAnyH_take (i := 29) (v := undef) (ops_at rfl) (by kernel_rfl) (by kernel_rfl) (by kernel_rfl) (fun _ _ _ h => h) (Or.inr ⟨by rfl, rfl⟩) hHeld ?_) | (refine wpAnyH_take (i := 29) (v := ?_) (ops_at rfl) (by kernel_rfl) (by kernel_rfl) (by kernel_rfl) (fun _ _ _ h => h) (Or.inl ⟨by rfl, ?_⟩) hHeld ?_; rotate_left; focus (intro W hSW; go_simp; try with_reducible rfl))
                  try simp only [Act.put, List.setIfInBounds_toArray, List.set_cons_zero, List.set_cons_succ]
                  first | (refine wpAnyH_take (i := 30) (v := undef) (ops_at rfl) (by kernel_rfl) (by kernel_rfl) (by kernel_rfl) (fun _ _ _ h => h) (Or.inr ⟨by rfl, rfl⟩) hHeld ?_) | (refine wpAnyH_take (i := 30) (v := ?_) (ops_at rfl) (by kernel_rfl) (by kernel_rfl) (by kernel_rfl) (fun _ _ _ h => h) (Or.inl ⟨by rfl, ?_⟩) hHeld ?_; rotate_left; focus (intro W hSW; go_simp; try with_reducible rfl))
                  try simp only [Act.put, List.setIfInBounds_toArray, List.set_cons_zero, List.set_cons_succ]
                  first | (refine wpAnyH_take (i := 31) (v := undef) (ops_at rfl) (by kernel_rfl) (by kernel_rfl) (by kernel_rfl) (fun _ _ _ h => h) (Or.inr ⟨by rfl, rfl⟩) hHeld ?_) | (refine wpAnyH_take (i := 31) (v := ?_) (ops_at rfl) (by kernel_rfl) (by kernel_rfl) (by kernel_rfl) (fun _ _ _ h => h) (Or.inl ⟨by rfl, ?_⟩) hHeld ?_; rotate_left; focus (intro W hSW; go_simp; try with_reducible rfl))
                  try simp only [Act.put, List.setIfInBounds_toArray, List.set_cons_zero, List.set_cons_succ]
                  first | (refine wpAnyH_take (i := 32) (v := undef) (ops_at rfl) (by kernel_rfl) (by kernel_rfl) (by kernel_rfl) (fun _ _ _ h => h) (Or.inr ⟨by rfl, rfl⟩) hHeld ?_) | (refine wpAnyH_take (i := 32) (v := ?_) (ops_at rfl) (by kernel_rfl) (by kernel_rfl) (by kernel_rfl) (fun _ _ _ h => h) (Or.inl ⟨by rfl, ?_⟩) hHeld ?_; rotate_left; focus (intro W hSW; go_simp; try with_reducible rfl))
                  try simp only [Act.put, List.setIfInBounds_toArray, List.set_cons_zero, List.set_cons_succ]
                  first | (refine wpAnyH_take (i := 33) (v := undef) (ops_at rfl) (by kernel_rfl) (by kernel_rfl) (by kernel_rfl) (fun _ _ _ h => h) (Or.inr ⟨by rfl, rfl⟩) hHeld ?_) | (refine wpAnyH_take (i := 33) (v := ?_) (ops_at rfl) (by kernel_rfl) (by kernel_rfl) (by kernel_rfl) (fun _ _ _ h => h) (Or.inl ⟨by rfl, ?_⟩) hHeld ?_; rotate_left; focus (intro W hSW; go_simp; try with_reducible rfl))
                  try simp only [Act.put, List.setIfInBounds_toArray, List.set_cons_zero, List.set_cons_succ]
                  first | (refine wpAnyH_take (i := 34) (v := undef) (ops_at rfl) (by kernel_rfl) (by kernel_rfl) (by kernel_rfl) (fun _ _ _ h => h) (Or.inr ⟨by rfl, rfl⟩) hHeld ?_) | (refine wpAnyH_take (i := 34) (v := ?_) (ops_at rfl) (by kernel_rfl) (by kernel_rfl) (by kernel_rfl) (fun _ _ _ h => h) (Or.inl ⟨by rfl, ?_⟩) hHeld ?_; rotate_left; focus (intro W hSW; go_simp; try with_reducible rfl))
                  try simp only [Act.put, List.setIfInBounds_toArray, List.set_cons_zero, List.set_cons_succ]
                  first | (refine wpAnyH_take (i := 35) (v := undef) (ops_at rfl) (by kernel_rfl) (by kernel_rfl) (by kernel_rfl) (fun _ _ _ h => h) (Or.inr ⟨by rfl, rfl⟩) hHeld ?_) | (refine wpAnyH_take (i := 35) (v := ?_) (ops_at rfl) (by kernel_rfl) (by kernel_rfl) (by kernel_rfl) (fun _ _ _ h => h) (Or.inl ⟨by rfl, ?_⟩) hHeld ?_; rotate_left; focus (intro W hSW; go_simp; try with_reducible rfl))
                  try simp only [Act.put, List.setIfInBounds_toArray, List.set_cons_zero, List.set_cons_succ]
                  refine wpAnyH_take (i := 36) (v := ?_) (ops_at rfl) (by kernel_rfl) (by kernel_rfl) (by kernel_rfl) (fun _ _ _ h => h) (Or.inl ⟨by rfl, ?_⟩) hHeld ?_
                  rotate_left
                  · (intro W hSW; go_simp; try with_reducible rfl)
                  try simp only [Act.put, List.setIfInBounds_toArray, List.set_cons_zero, List.set_cons_succ]
                  refine wpAnyH_done (by kernel_rfl) ?_ _
                all_goals
                  go_wp2
                  go_meet
                  case rel => exact ⟨by first | rfl | simp, hHeld⟩
              case rest =>
                obtain ⟨hs, hV⟩ := hcut
                subst hs
                go_upto_region 20 with fail
                refine wp_region_held_drew (S := MB w g h b (nmC K _ _ i T) (nmC kd O1 n1 i1 T1) (nmC kd O1 n1 i1 T1) #[.string _, .int .i64 _]) (by kernel_rfl) (hV.drew) (fun hHeld => ?_)
                refine wpAnyH_take (i := 0) (v := ?_) (ops_at rfl) (by kernel_rfl) (by kernel_rfl) (by kernel_rfl) (fun _ _ _ h => h) (Or.inl ⟨by rfl, ?_⟩) hHeld ?_
                rotate_left
                · (intro W hSW; go_simp; try with_reducible rfl)
                try simp only [Act.put, List.setIfInBounds_toArray, List.set_cons_zero, List.set_cons_succ]
                refine wpAnyH_take (i := 2) (v := ?_) (ops_at rfl) (by kernel_rfl) (by kernel_rfl) (by kernel_rfl) (fun _ _ _ h => h) (Or.inl ⟨by rfl, ?_⟩) hHeld ?_
                rotate_left
                · (intro W hSW; go_simp; try with_reducible rfl)
                try simp only [Act.put, List.setIfInBounds_toArray, List.set_cons_zero, List.set_cons_succ]
                refine wpAnyH_take (i := 4) (v := ?_) (ops_at rfl) (by kernel_rfl) (by kernel_rfl) (by kernel_rfl) (fun _ _ _ h => h) (Or.inl ⟨by rfl, ?_⟩) hHeld ?_
                rotate_left
                · (intro W hSW; go_simp; try with_reducible rfl)
                try simp only [Act.put, List.setIfInBounds_toArray, List.set_cons_zero, List.set_cons_succ]
                refine wpAnyH_take (i := 5) (v := ?_) (ops_at rfl) (by kernel_rfl) (by kernel_rfl) (by kernel_rfl) (fun _ _ _ h => h) (Or.inl ⟨by rfl, ?_⟩) hHeld ?_
                rotate_left
                · (intro W hSW; go_simp; try with_reducible rfl)
                try simp only [Act.put, List.setIfInBounds_toArray, List.set_cons_zero, List.set_cons_succ]
                refine wpAnyH_ready (rs := [1]) (by kernel_rfl) (by simp) ?_
                refine AllReadyH.cons (ops_at rfl) (fun K hK => ?_) AllReadyH.nil
                go_simp
                (go_at_call 14; refine (HTO.out _).mono ?_; rintro e W' ⟨rfl, hb'⟩)
                refine hK.out _ _ (MB.under hHeld hb') (fun hHeld => ?_)
                clear hK K
                try simp only [Act.put, List.setIfInBounds_toArray, List.set_cons_zero, List.set_cons_succ]
                refine wpAnyH_ready (rs := [3]) (by kernel_rfl) (by simp) ?_
                refine AllReadyH.cons (ops_at rfl) (fun K hK => ?_) AllReadyH.nil
                go_simp
                (go_at_call 17; refine (HW.out _ hHeld.bel).mono ?_; rintro e W' ⟨rfl, hb'⟩)
                refine hK.out _ _ (MB.under hHeld hb') (fun hHeld => ?_)
                clear hK K
                try simp only [Act.put, List.setIfInBounds_toArray, List.set_cons_zero, List.set_cons_succ]
                refine wpAnyH_ready (rs := [6]) (by kernel_rfl) (by simp) ?_
                refine AllReadyH.cons (ops_at rfl) (fun K hK => ?_) AllReadyH.nil
                go_simp
                (go_at_call 18; refine (HR.out _).mono ?_; rintro e W' ⟨rfl, hb'⟩)
                refine hK.out _ _ (MB.under hHeld hb') (fun hHeld => ?_)
                clear hK K
                try simp only [Act.put, List.setIfInBounds_toArray, List.set_cons_zero, List.set_cons_succ]
                refine wpAnyH_take (i := 7) (v := ?_) (ops_at rfl) (by kernel_rfl) (by kernel_rfl) (by kernel_rfl) (fun _ _ _ h => h) (Or.inl ⟨by rfl, ?_⟩) hHeld ?_
                rotate_left
                · (intro W hSW; go_simp; try with_reducible rfl)
                try simp only [Act.put, List.setIfInBounds_toArray, List.set_cons_zero, List.set_cons_succ]
                refine wpAnyH_take (i := 8) (v := ?_) (ops_at rfl) (by kernel_rfl) (by kernel_rfl) (by kernel_rfl) (fun _ _ _ h => h) (Or.inl ⟨by rfl, ?_⟩) hHeld ?_
                rotate_left
                · (intro W hSW; go_simp; try with_reducible rfl)
                try simp only [Act.put, List.setIfInBounds_toArray, List.set_cons_zero, List.set_cons_succ]
                refine wpAnyH_done (by kernel_rfl) ?_ _
                go_wp2
                go_ret
                exact ⟨by simp, hHeld.bel⟩

set_option maxHeartbeats 1000000 in
theorem objectMakes_walk (K : Int) (O : ByteArray) (n i : Int) (T X : ByteArray) (w : World) (hE : Env w) (wK : (Lit.int .i64 K).wf = true) (wn : (Lit.int .i64 n).wf = true) (wi : (Lit.int .i64 i).wf = true) (hO : O.size ≤ maxLen) (hT : T.size ≤ maxLen) (hX : X.size ≤ maxLen) :
    Calls Tryz.prog 3 #[nmV K O n i T, .string X] w fun e w' => e = .returned (.bool true) ∧ Below w.heap.size w w' := by
  have hK : ∀ W, Below w.heap.size w W → Calls Tryz.prog 7 #[] W fun e w' => e = .returned (.bool true) ∧ Below W.heap.size W w' := fun W hb => known_any W (hE.below hb)
  have hA := fun W => long_any K n i O T W hO hT
  by_cases hl : longB O T = true ∨ 100 < X.size
  · exact makes_long K O n i T X _ w hl hK hA
  · have hl1 : longB O T = false := by
      cases h : longB O T
      · rfl
      · exact absurd (.inl h) hl
    have hl2 : X.size ≤ 100 := by
      have : ¬ 100 < X.size := fun h => hl (.inr h)
      omega
    rw [hl1] at hA
    unfold longB at hl1
    simp only [Bool.or_eq_false_iff, decide_eq_false_iff_not] at hl1
    refine makes_short K O n i T X (mkK K) (mkO K O) (mkN K n) (mkI K i) (mkT K T) (inI K) (ownI K) (numI K) (decide (0 ≤ mostI K)) (txtI K) (bornI K) (wiB K O X) (mostI K) (bO K O) (bN K n) w hl2 hK hA (fun W => made_any K O n i T W) ?_
      (fun W => owned_any K W) (fun W => numbered_any K W) (fun W => most_any K W) (fun W => texted_any K W) rfl rfl rfl rfl (fun h => of_decide_eq_true h) (fun h => of_decide_eq_false h)
      (fun W => nbirth_any K n i O T W) ?_ (fun W hb => owithin_any K n i O T X W (hE.below hb) (by omega) (by omega)) (fun W => refNWithin_any K n i O T X W (by omega) (by omega))
    · unfold mkK inI
      by_cases h1 : 1 ≤ K
      · by_cases h2 : K ≤ 20
        · exact .inl (by simp [h1, h2])
        · exact .inr (.inr (by simp [h1, h2]))
      · exact .inr (.inl (by simp [h1]))
    · unfold bO bN bornI
      by_cases h1 : 7 ≤ K
      · by_cases h2 : K ≤ 12
        · exact .inl (by simp [h1, h2])
        · exact .inr (.inr (by simp [h1, h2]))
      · exact .inr (.inl (by simp [h1]))
end Go.Proofs.YtcdjmkfpclmbdaaGreatDoor
