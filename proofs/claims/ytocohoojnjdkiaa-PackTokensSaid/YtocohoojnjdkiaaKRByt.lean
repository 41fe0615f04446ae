/- pack: the reference's Bytes. -/
import Derived.Test.YtocohoojnjdkiaaKRCan
set_option linter.unusedVariables false
namespace Go.Proofs.Ytocohoojnjdkiaa
open Go.RowKit

theorem enc_len (t : Tok) (h : t.ok) : t.enc.length ≤ 129 := by
  cases t with
  | lit l => obtain ⟨h1, h2⟩ := h; simp [Tok.enc]; omega
  | mch d n => simp [Tok.enc]
theorem encs_len (l : List Tok) (h : ∀ t ∈ l, t.ok) : (encs l).length ≤ 129 * l.length := by
  induction l with
  | nil => simp [encs]
  | cons a r ih =>
    rw [encs_cons, List.length_append, List.length_cons]
    have := ih (fun t ht => h t (List.mem_cons_of_mem _ ht))
    have := enc_len a (h a List.mem_cons_self)
    omega
theorem take_map_more {q : List TE} {j : Nat} {x : TE} (h : q[j]? = some x) : encs ((q.take (j + 1)).map (·.1)) = encs ((q.take j).map (·.1)) ++ x.1.enc := by
  rw [List.take_add_one, h, List.map_append, encs_app]
  simp [encs]
theorem rb3 (W : World) (e : TypeId) (a b c : UInt8) : RB (W.alloc (.cells #[.int .u8 (a.toNat : Int), .int .u8 (b.toNat : Int), .int .u8 (c.toNat : Int)] e)) (W.heap.size + 1) (some ⟨W.heap.size, 0, none⟩) [a, b, c] := by
  intro _
  refine ⟨_, _, rfl, by omega, fun j c' hj => ?_⟩
  match j, hj with
  | 0, hj => simp at hj; subst hj; exact World.cell?_alloc_at _ _ _ _ rfl
  | 1, hj => simp at hj; subst hj; exact World.cell?_alloc_at _ _ _ _ rfl
  | 2, hj => simp at hj; subst hj; exact World.cell?_alloc_at _ _ _ _ rfl
set_option maxHeartbeats 4000000 in
set_option maxRecDepth 100000 in
theorem rbytes_any (w : World) (A : Option Addr) (q : List TE) (c : Nat) (hr : RQ encT 3 w w.heap.size A q) (hlt : ∀ x ∈ q, RB w w.heap.size x.2.1 x.1.lits) (hok : ∀ t ∈ q.map (·.1), Tok.ok t) (hn : q.length ≤ 100000) :
    Calls Try.prog 17 #[.slice A q.length c] w fun e w' => ∃ v, e = .returned v ∧ OB 5 w' w.heap.size v (encs (q.map (·.1))) ∧ Below w.heap.size w w' := by
  have HR := Lib.hid hr
  have HLI := Lib.hid hlt
  have HOK := Lib.hid hok
  obtain ⟨P, hP⟩ : ∃ P, q.length = P := ⟨_, rfl⟩
  rw [hP] at hn ⊢
  have HP := Lib.hid hP
  clear hr hlt hok hP
  go_enter Try.func17, Try.ntmps17
  go_wp2
  go_loopw [3, 4] (fun v i wr => ∃ j : Nat, i = .int .i64 (j : Int) ∧ j ≤ P ∧ OB 5 wr w.heap.size v (encs ((q.take j).map (·.1))) ∧ Below w.heap.size w wr) (fun _ i _ => P - (intOf i).toNat)
  case atStart => exact ⟨0, rfl, by omega, OB.nil _ _ _, Below.refl _ _⟩
  case round =>
    obtain ⟨j, rfl, hj, ho, hb⟩ := hrel
    have HO := Lib.hid ho
    have HB := Lib.hid hb
    clear ho hb
    by_cases hjP : j < P
    · have g1 : (j : Int) < (P : Int) := by omega
      obtain ⟨b, off, x, rfl, hbb, hx, hrg⟩ := HR.out.at_ (j := j) (by rw [HP.out]; exact hjP)
      have HX := Lib.hid hx
      have hxm : x ∈ q := List.mem_of_getElem? hx
      have hxo := HOK.out x.1 (List.mem_map_of_mem hxm)
      have HXL := Lib.hid (HLI.out x hxm)
      have HLN := Lib.hid (show (encs ((q.take j).map (·.1))).length ≤ 12900000 from by
        have h1 := encs_len ((q.take j).map (·.1)) (fun t ht => HOK.out t (by
          obtain ⟨y, hy, rfl⟩ := List.mem_map.1 ht
          exact List.mem_map_of_mem (List.mem_of_mem_take hy)))
        rw [List.length_map, List.length_take] at h1
        omega)
      obtain ⟨tk, lA, lc⟩ := x
      have C : Hid (∀ V, Below w.heap.size w V → V.cell? ⟨b, off + j * 3 + 0, none⟩ = some (.slice lA tk.lits.length lc) ∧ V.cell? ⟨b, off + j * 3 + 1, none⟩ = some (.int .i64 (tk.dist : Int)) ∧ V.cell? ⟨b, off + j * 3 + 2, none⟩ = some (.int .i64 (tk.len : Int))) := Lib.hid fun V h =>
        ⟨(h.cell (p := ⟨b, off + j * 3 + 0, none⟩) hbb).trans (hrg 0 _ rfl), (h.cell (p := ⟨b, off + j * 3 + 1, none⟩) hbb).trans (hrg 1 _ rfl), (h.cell (p := ⟨b, off + j * 3 + 2, none⟩) hbb).trans (hrg 2 _ rfl)⟩
      have w9 : IntKind.i64.wrap ((j : Int) + 1) = (j : Int) + 1 := by rw [IntKind.wrap_i64]; omega
      obtain ⟨c0, c1, c2⟩ := C.out wr HB.out
      clear hx hrg hxm
      cases tk with
      | mch d n =>
        obtain ⟨hd1, hd2, hn1, hn2⟩ := hxo
        replace c0 : wr.cell? ⟨b, off + j * 3, none⟩ = some (.slice lA 0 lc) := c0
        replace c1 : wr.cell? ⟨b, off + j * 3 + 1, none⟩ = some (.int .i64 (d : Int)) := c1
        replace c2 : wr.cell? ⟨b, off + j * 3 + 2, none⟩ = some (.int .i64 (n : Int)) := c2
        have g2 : (n : Int) > 0 := by omega
        have g3 : 0 < n := by omega
        have w1 : IntKind.i64.wrap (128 + (n : Int)) = 128 + (n : Int) := by rw [IntKind.wrap_i64]; omega
        have w2 : IntKind.i64.wrap (128 + (n : Int) - 4) = 124 + (n : Int) := by rw [IntKind.wrap_i64]; omega
        have w3 : IntKind.i64.wrap ((d : Int) - 1) = (d : Int) - 1 := by rw [IntKind.wrap_i64]; omega
        have u1 : IntKind.u8.wrap (124 + (n : Int)) = ((UInt8.ofNat (124 + n)).toNat : Int) := by rw [ofNat_toNat (by omega), IntWalk.u8_in _ ⟨by omega, by omega⟩]; omega
        have u2 : IntKind.u8.wrap (((d : Int) - 1) / 256) = ((UInt8.ofNat ((d - 1) / 256)).toNat : Int) := by rw [ofNat_toNat (by omega), IntWalk.u8_in _ ⟨by omega, by omega⟩]; omega
        have u3 : IntKind.u8.wrap ((d : Int) - 1) = ((UInt8.ofNat (d - 1)).toNat : Int) := by rw [ofNat_mod]; unfold IntKind.wrap; simp [IntKind.bits, IntKind.signed]; omega
        obtain ⟨xa, hxa⟩ : ∃ xa, UInt8.ofNat (124 + n) = xa := ⟨_, rfl⟩
        obtain ⟨xb, hxb⟩ : ∃ xb, UInt8.ofNat ((d - 1) / 256) = xb := ⟨_, rfl⟩
        obtain ⟨xc, hxc⟩ : ∃ xc, UInt8.ofNat (d - 1) = xc := ⟨_, rfl⟩
        rw [hxa] at u1
        rw [hxb] at u2
        rw [hxc] at u3
        have HENC : Hid (encs ((q.take (j + 1)).map (·.1)) = encs ((q.take j).map (·.1)) ++ [xa, xb, xc]) := Lib.hid (by rw [take_map_more HX.out, ← hxa, ← hxb, ← hxc]; rfl)
        clear hxa hxb hxc
        go_wp2_with (at_builtin; refine wpList_app bslK rfl (.tmp 24) (.tmp 38) rfl w.heap.size _ _ ?_ (HO.out.alloc _) (wr.heap.size + 1) (some ⟨wr.heap.size, 0, none⟩) [xa, xb, xc] 3 ?_ (rb3 wr _ _ _ _) ?_ ?_ ?_; (focus rfl); (focus rfl); (focus (have := HLN.out; simp only [List.length_cons, List.length_nil]; omega)); (focus (have := HB.out.size; simp; omega)); intro v3 W3 ho3 hg3; have HO3 := Lib.hid ho3; have HB3 := Lib.hid ((HB.out.alloc HB.out.size _).trans (hg3.below (B := w.heap.size) (by have := HB.out.size; simp; omega) (fun i hi => (HO.out.lt i hi).1))); clear ho3 hg3)
        go_roundw
        case rel => exact ⟨j + 1, by go_num, by omega, by rw [HENC.out]; exact HO3.out, HB3.out⟩
        case measure => simp [intOf] <;> omega
      | lit l =>
        obtain ⟨hl1, hl2⟩ := hxo
        obtain ⟨m, hm⟩ : ∃ m, l.length = m := ⟨_, rfl⟩
        replace c0 : wr.cell? ⟨b, off + j * 3, none⟩ = some (.slice lA l.length lc) := c0
        replace c1 : wr.cell? ⟨b, off + j * 3 + 1, none⟩ = some (.int .i64 0) := c1
        replace c2 : wr.cell? ⟨b, off + j * 3 + 2, none⟩ = some (.int .i64 0) := c2
        rw [hm] at c0 hl1 hl2
        have w3 : IntKind.i64.wrap ((m : Int) - 1) = (m : Int) - 1 := by rw [IntKind.wrap_i64]; omega
        have u1 := u8_len hl1 hl2
        obtain ⟨xa, hxa⟩ : ∃ xa, UInt8.ofNat (m - 1) = xa := ⟨_, rfl⟩
        rw [hxa] at u1
        have HENC : Hid (encs ((q.take (j + 1)).map (·.1)) = encs ((q.take j).map (·.1)) ++ [xa] ++ l) := Lib.hid (by
          rw [take_map_more HX.out, ← hxa, ← hm]
          show _ ++ (UInt8.ofNat (l.length - 1) :: l) = _
          simp)
        have HM := Lib.hid hm
        have HLL : Hid (RB w w.heap.size lA l) := HXL
        have HC0 : Hid (∀ V, Below w.heap.size w V → V.cell? ⟨b, off + j * 3, none⟩ = some (.slice lA m lc)) := Lib.hid fun V h => by
          have h2 := (C.out V h).1
          rw [← hm]; exact h2
        clear hxa hm
        go_wp2_with (first
          | (at_builtin; refine wpList_push bslK (by rfl) (.tmp 40) (.tmp 49) (by rfl) w.heap.size _ _ (by rfl) _ xa rfl HO.out (by rfl) (by have := HLN.out; omega) HB.out.size ?_; intro v2 W2 ho2 hg2; have HO2 := Lib.hid ho2; have HB2 := Lib.hid (HB.out.trans (hg2.below HB.out.size (fun j hj => (HO.out.lt j hj).1))); have hc2 := HC0.out W2 HB2.out; clear ho2 hg2)
          | (at_builtin; refine wpList_app bslK rfl (.tmp 51) (.tmp 56) rfl w.heap.size _ _ ?_ HO2.out w.heap.size lA l lc ?_ ?_ ?_ ?_ ?_; (focus rfl); (focus (rw [HM.out]; rfl)); (focus (exact HLL.out.below HB2.out)); (focus (rw [HM.out, List.length_append]; have := HLN.out; simp only [List.length_cons, List.length_nil]; omega)); (focus (exact HB2.out.size)); intro v3 W3 ho3 hg3; have HO3 := Lib.hid ho3; have HB3 := Lib.hid (HB2.out.trans (hg3.below HB2.out.size (fun i hi => (HO2.out.lt i hi).1))); clear ho3 hg3))
        go_roundw
        case rel => exact ⟨j + 1, by go_num, by omega, by rw [HENC.out]; exact HO3.out, HB3.out⟩
        case measure => simp [intOf] <;> omega
    · have g1 : ¬ (j : Int) < (P : Int) := by omega
      obtain rfl : j = P := by omega
      go_wp2
      refine bodyPost_ret (results_tmp rfl _ _ _) rfl ?_
      have h := HO.out
      rw [← HP.out, List.take_length] at h
      exact ⟨_, rfl, h, HB.out⟩
end Go.Proofs.Ytocohoojnjdkiaa
