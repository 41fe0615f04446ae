/- The walks of (sha256.Digest).String and of the example that every statement of the layer checks first. -/
import Derived.Test.YtedmnepilbfihaaDoorSKnown
set_option linter.unusedVariables false
namespace Go.Proofs.YtedmnepilbfihaaDoor
open Go.RowKit

section
variable {P : Program} {t e : TypeId}
theorem step_append_of {ops : Array Oper} {o : Oper} {a : Act} {K : Act → World → Prop} {Q : Exit → Act → World → Prop} {w : World} {E : Prop} (hgd : o.guard = none) (s x : Operand) (t u : TypeId)
    (ho : o.op = .call { callee := .builtin .append, args := #[s, x], argTypes := #[t, u] }) {v x' v' : Value} {w' : World} (hs : a.eval s = v) (hx : a.eval x = x')
    (hr : (Builtin.append_ #[t, u] o.type #[v, x']).run P w = .ok v' w') (hK : K (a.put o.dst v') w') : if Region.wanted o (yielded ops a.tmps) = true then Oper.wp P o a w K Q else E := by
  have hw : Region.wanted o (yielded ops a.tmps) = true := by simp [Region.wanted, hgd]
  rw [if_pos hw]
  unfold Oper.wp execOp
  simp only [ho, resolve, invoke, builtin, Sem.run_bind, Sem.run_pure, Result.andThen_ok, List.map_toArray, List.map_cons, List.map_nil, hs, hx, hr]
  exact hK
theorem step_app {ops : Array Oper} {o : Oper} {a : Act} {K : Act → World → Prop} {Q : Exit → Act → World → Prop} {w : World} {E : Prop} (hP : ByteSlice P t e) (hgd : o.guard = none) (s x : Operand)
    (ho : o.op = .call { callee := .builtin .append, args := #[s, x], argTypes := #[t, t] }) (base : Nat) (v : Value) (l : List UInt8) (hs : a.eval s = v) (hown : OB e w base v l)
    (B : Nat) (A : Option Addr) (m : List UInt8) (c : Nat) (hx : a.eval x = .slice A m.length c) (hr : RB w B A m) (hlen : l.length + m.length ≤ 140737488355328) (hbase : base ≤ w.heap.size)
    (h : ∀ v' w', OB e w' base v' (l ++ m) → Grew w w' v v' → K (a.put o.dst v') w') : if Region.wanted o (yielded ops a.tmps) = true then Oper.wp P o a w K Q else E := by
  obtain ⟨v', w', h1, h2, h3⟩ := run_app hP w o.type base v l hown B A m c hr hlen hbase
  exact step_append_of hgd s x t t ho hs hx h1 (h v' w' h2 h3)
end

theorem bsl : ByteSlice Tryd.prog 29 5 := ⟨Tryd.underlying29, Tryd.underlying5, by kernel_rfl⟩

theorem Grew.undrew {w w' : World} {v v' : Value} (h : Grew w.drew w' v v') : Grew w w' v v' := ⟨⟨h.1.os, h.1.tape, h.1.output, h.1.size, h.1.block⟩, h.2⟩

def hexS : ByteArray := ⟨#[48, 49, 50, 51, 52, 53, 54, 55, 56, 57, 97, 98, 99, 100, 101, 102]⟩
def hexD (n : Nat) : UInt8 := if h : n < hexS.size then hexS[n] else 0
theorem hex_get (n : Nat) (h : n < hexS.size) : hexS[n]'h = hexD n := by unfold hexD; rw [dif_pos h]
theorem hex_index (P : Program) (t : TypeId) (hu : P.underlying t = some .string) (k : IntKind) (n : Nat) (hn : n < 16) (w : World) : (Instr.index t (.string hexS) (.int k (n : Int))).run P w = .ok (bv (hexD n)) w := by
  rw [run_index_string w t hexS k n hu]
  have h : (0 : Int) ≤ (n : Int) ∧ (n : Int) < (hexS.size : Int) := ⟨by omega, by show (n : Int) < 16; omega⟩
  rw [dif_pos h]
  simp only [Int.toNat_natCast, hex_get]
theorem hex_hi (P : Program) (t : TypeId) (hu : P.underlying t = some .string) (c : UInt8) (w : World) : (Instr.index t (.string ⟨#[48, 49, 50, 51, 52, 53, 54, 55, 56, 57, 97, 98, 99, 100, 101, 102]⟩) (.int .u8 ((c.toNat : Int) / 16))).run P w = .ok (bv (hexD (c.toNat / 16))) w := by
  have := hex_index P t hu .u8 (c.toNat / 16) (by have := c.toNat_lt; omega) w
  rw [Int.natCast_ediv] at this; exact this
theorem hex_lo (P : Program) (t : TypeId) (hu : P.underlying t = some .string) (c : UInt8) (w : World) : (Instr.index t (.string ⟨#[48, 49, 50, 51, 52, 53, 54, 55, 56, 57, 97, 98, 99, 100, 101, 102]⟩) (.int .u8 ((c.toNat : Int) % 16))).run P w = .ok (bv (hexD (c.toNat % 16))) w := by
  have := hex_index P t hu .u8 (c.toNat % 16) (by omega) w
  rw [Int.natCast_emod] at this; exact this
theorem RB.lit (W : World) (e : TypeId) (l : List UInt8) : RB (W.alloc (.cells (l.map bv).toArray e)) (W.heap.size + 1) (some ⟨W.heap.size, 0, none⟩) l := fun _ =>
  ⟨_, _, rfl, by omega, fun j c hj => by rw [World.cell?_alloc_at _ _ _ _ rfl, Nat.zero_add]; simp [hj]⟩
def hexOf (d : List UInt8) : List UInt8 := d.flatMap fun c => [hexD (c.toNat / 16), hexD (c.toNat % 16)]
theorem hexOf_length (d : List UInt8) : (hexOf d).length = 2 * d.length := by
  unfold hexOf
  induction d with
  | nil => rfl
  | cons a r ih => simp [List.flatMap_cons, ih]; omega
theorem hexOf_step (d : List UInt8) (k : Nat) (c : UInt8) (h : d[k]? = some c) : hexOf (d.take (k + 1)) = hexOf (d.take k) ++ [hexD (c.toNat / 16), hexD (c.toNat % 16)] := by
  rw [List.take_add_one, h]; simp [hexOf]
theorem ob_made {e : TypeId} {w : World} {base g cap : Nat} {cs : Array Value} (hg : w.heap[g]? = some (.cells cs e (0, 0))) (hb : base ≤ g) (hc : cap ≤ maxLen) (hs : cs.size = cap) : OB e w base (.slice (some ⟨g, 0, none⟩) 0 cap) [] :=
  ⟨by simp, .inr ⟨g, cap, cs, rfl, hb, hg, by simp, hc, by simpa using hs, by simp⟩⟩

set_option maxHeartbeats 1000000 in
set_option maxRecDepth 100000 in
theorem string_any (d : List UInt8) (w : World) (hd : d.length = 32) :
    Calls Tryd.prog 24 #[.agg (d.map bv).toArray] w fun e w' => e = .returned (.string ⟨(hexOf d).toArray⟩) ∧ Below w.heap.size w w' := by
  obtain ⟨i, hi, hz, hs, hb⟩ := bsl.parts
  have hmk : ∀ W : World, (Instr.makeSlice 29 (.int .i64 0) (.int .i64 64)).run Tryd.prog W = .ok (.slice (some ⟨W.heap.size, 0, none⟩) 0 64) (W.alloc (.cells (madeCells #[Value.int .u8 0] 64) 5)) := fun W => by
    have h := run_make (P := Tryd.prog) W 29 5 i (.int .u8 0) bsl.u hi hz .i64 .i64 0 64 (by omega) (by omega) (by rw [hb]; omega) (by omega)
    rw [h, hs, Nat.mul_one]
    rfl
  have HI : Hid ((Tryd.prog.info? 25).map (·.size) = some (d.map bv).length) := Lib.hid (by rw [info32, List.length_map, hd])
  have HD := Lib.hid hd
  clear hi hz hs hb hd
  go_enter Tryd.func24, Tryd.ntmps24
  go_wp2_with (refine wpList_load_mid (by rfl) 25 (.tmp 1) (by rfl) w.heap.size 0 (by rfl) (d.map bv) _ ((Arr.new w (d.map bv) _).alloc _).1 Tryd.underlying25 rfl HI.out ?_)
  refine cwp_gen (fun V => OB 5 V w.heap.size (.slice (some ⟨w.heap.size + 1, 0, none⟩) 0 64) [] ∧ Below w.heap.size w V) ⟨ob_made (heap_alloc2_new w _ _) (by omega) (by decide) (by simp [size_madeCells]), (below_alloc0 _ _ (Nat.le_refl _)).alloc (by simp) _⟩ ?_
  rintro V ⟨hO, hB⟩
  have HO0 := Lib.hid hO
  have HB0 := Lib.hid hB
  clear hO hB hmk
  go_loopw [3, 8] (fun u i wr => ∃ k : Nat, i = .int .i64 (k : Int) ∧ k ≤ 32 ∧ OB 5 wr w.heap.size u (hexOf (d.take k)) ∧ Below w.heap.size w wr) (fun _ i _ => 32 - (intOf i).toNat)
  case atStart => exact ⟨0, rfl, by omega, HO0.out, HB0.out⟩
  case round =>
    obtain ⟨k, rfl, hk, ho, hb⟩ := hrel
    by_cases hk2 : (k : Int) < 32
    · obtain ⟨c, hc⟩ : ∃ c, d[k]? = some c := ⟨d[k]'(by rw [HD.out]; omega), List.getElem?_eq_getElem _⟩
      have hc2 : ∀ W, (Instr.index 25 (.agg (List.map bv d).toArray) (.int .i64 (k : Int))).run Tryd.prog W = .ok (bv c) W := run_index_arr Tryd.underlying25 Tryd.underlying5 (by kernel_rfl) _ k (by omega) _ (by rw [List.getElem?_toArray, List.getElem?_map, hc]; rfl)
      have hx1 := hex_hi Tryd.prog 9 Tryd.underlying9 c
      have hx2 := hex_lo Tryd.prog 9 Tryd.underlying9 c
      have hcl := c.toNat_lt
      have ha : bits .and .u8 (c.toNat : Int) 15 = (c.toNat : Int) % 16 := u8_and15 _ (by omega) (by omega)
      have hlen : (hexOf (d.take k)).length + 2 ≤ 140737488355328 := by rw [hexOf_length, List.length_take]; omega
      have HL := Lib.hid hlen
      have HST := Lib.hid (hexOf_step d k c hc)
      have HO := Lib.hid ho
      have HB := Lib.hid hb
      have hsz := hb.size
      clear hc hlen ho hb hcl
      go_wp2
      go_region_held3 (fun _ => True) (trivial) ((refine step_app bsl (by rfl) (.tmp 11) (.tmp 18) (by rfl) w.heap.size _ (hexOf (d.take k)) (by rfl) (HO.out.alloc _).drew (wr.heap.size + 1) (some ⟨wr.heap.size, 0, none⟩) [hexD (c.toNat / 16), hexD (c.toNat % 16)] 2 (by rfl) (RB.lit wr 5 _).drew HL.out (by simp; omega) ?_; intro v1 w1 ho1 hg1))
      all_goals
        rw [← HST.out] at ho1
        have hg2 : Grew wr w1 _ v1 := Grew.alloc (w := wr) hg1.undrew
        have hb1 := HB.out.trans (hg2.below hsz (fun k hk => (HO.out.lt k hk).1))
        have HO1 := Lib.hid ho1
        have HB1 := Lib.hid hb1
        clear ho1 hb1 hg1 hg2
        go_wp2
        go_roundw
        case rel => exact ⟨k + 1, rfl, by omega, HO1.out, HB1.out⟩
        case measure => simp [intOf] <;> omega
    · have hk3 : k = 32 := by omega
      subst hk3
      rw [List.take_of_length_le (by rw [HD.out]; omega)] at ho
      obtain ⟨A1, c1, rfl, hr1, _, _⟩ := ho.form
      have hstr := run_str bsl 9 Tryd.underlying9 hr1 c1
      have HB := Lib.hid hb
      clear ho hr1 hb
      go_wp2
      go_ret
      exact ⟨rfl, HB.out⟩
end Go.Proofs.YtedmnepilbfihaaDoor
