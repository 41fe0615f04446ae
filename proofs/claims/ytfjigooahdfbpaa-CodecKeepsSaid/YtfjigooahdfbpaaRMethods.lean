/- The walks of codec.Reader's methods, at Readers that are not nil. -/
import Derived.Test.YtfjigooahdfbpaaRead
set_option linter.unusedVariables false
namespace Go.Proofs.Ytfjigooahdfbpaa
open Go.RowKit

/-- Where a Reader stands behind a value of a length, with an error. -/
def rat (at_ e size err : Nat) : Nat := if e ≠ 0 then at_ else if err ≠ 0 then at_ else at_ + size
def rerr (e err : Nat) : Nat := if e ≠ 0 then e else err
theorem rat0 (a s x : Nat) : rat a 0 s x = if x ≠ 0 then a else a + s := if_neg (by omega)
theorem rerr0 (x : Nat) : rerr 0 x = x := if_neg (by omega)
theorem rat1 {e : Nat} (a s x : Nat) (h : e ≠ 0) : rat a e s x = a := if_pos h
theorem rerr1 {e : Nat} (x : Nat) (h : e ≠ 0) : rerr e x = e := if_pos h
theorem ite00 {α : Type} (a b : α) : (if (0 : Nat) ≠ 0 then a else b) = b := if_neg (by omega)

theorem IsR.alloc {w : World} {g : Nat} {v : Value} {l : List UInt8} {at_ e : Nat} (h : IsR w g v l at_ e) (o : Obj) : IsR (w.alloc o) g v l at_ e := ⟨h.1.alloc o, h.2.1.alloc o, h.2.2⟩

/-- What a method leaves. -/
def RPost (w : World) (g : Nat) (v : Value) (l : List UInt8) (at_ e : Nat) (x : Value) (r : Ending) (w' : World) : Prop := r = .returned x ∧ IsR w' g v l at_ e ∧ Mod w w' (· = g)

theorem numberR_any (w : World) (g : Nat) (v : Value) (l : List UInt8) (at_ e : Nat) (most : Int) (h : IsR w g v l at_ e) (hl : l.length ≤ 9223372036854775806) :
    Calls Try.prog 37 #[.pointer (some ⟨g, 0, none⟩), .int .i64 most] w
      (RPost w g v l (rat at_ e (pNum most (l.drop at_)).2.1 (pNum most (l.drop at_)).2.2) (rerr e (pNum most (l.drop at_)).2.2) (.int .i64 (if e ≠ 0 then 0 else (pNum most (l.drop at_)).1))) := by
  have hmf := mkf
  have H := Lib.hid (h.alloc (.cells #[.int .i64 most] 3))
  have hcp : (w.alloc (.cells #[.int .i64 most] 3)).cell? ⟨w.heap.size, 0, none⟩ = some (.int .i64 most) := by rw [World.cell?_alloc_at _ _ _ _ rfl]; rfl
  have HCP := Lib.hid hcp
  clear h hcp
  by_cases he : e = 0
  · subst he
    have HC := Lib.hid (readNum _ g v l at_ most w.heap.size H.out hl HCP.out)
    rw [rat0, rerr0, ite00]
    generalize hq : pNum most (l.drop at_) = q at *
    clear hq
    obtain ⟨x, s, e⟩ := q
    simp only at HC ⊢
    generalize (if e ≠ 0 then at_ else at_ + s) = a' at *
    go_enter Try.func37, Try.ntmps37
    go_wp2_with (go_at_call 48; refine HC.out.mono ?_; rintro r w' ⟨rfl, h1, h2⟩; have H1 := Lib.hid h1; have H2 := Lib.hid h2; clear h1 h2)
    go_ret
    exact ⟨rfl, H1.out, (Mod.alloc (Mod.refl w (· = g)) _).trans H2.out fun _ _ h => h⟩
  · have HC := Lib.hid (readNum_err _ g v l at_ e (.func (.func 53) #[] #[.pointer (some ⟨w.heap.size, 0, none⟩)]) H.out he)
    rw [rat1 _ _ _ he, rerr1 _ he, if_pos he]
    have HE := Lib.hid he
    clear he
    go_enter Try.func37, Try.ntmps37
    go_wp2_with (go_at_call 48; refine HC.out.mono ?_; rintro r w' ⟨rfl, rfl⟩)
    go_ret
    exact ⟨rfl, H.out, Mod.alloc (Mod.refl w (· = g)) _⟩

theorem textR_any (w : World) (g : Nat) (v : Value) (l : List UInt8) (at_ e : Nat) (most : Int) (h : IsR w g v l at_ e) (hl : l.length ≤ 9223372036854775806) :
    Calls Try.prog 39 #[.pointer (some ⟨g, 0, none⟩), .int .i64 most] w
      (RPost w g v l (rat at_ e (pText most (l.drop at_)).2.1 (pText most (l.drop at_)).2.2) (rerr e (pText most (l.drop at_)).2.2) (.string (if e ≠ 0 then ByteArray.empty else ⟨(pText most (l.drop at_)).1.toArray⟩))) := by
  have hmf := mkf
  have H := Lib.hid (h.alloc (.cells #[.int .i64 most] 3))
  have hcp : (w.alloc (.cells #[.int .i64 most] 3)).cell? ⟨w.heap.size, 0, none⟩ = some (.int .i64 most) := by rw [World.cell?_alloc_at _ _ _ _ rfl]; rfl
  have HCP := Lib.hid hcp
  clear h hcp
  by_cases he : e = 0
  · subst he
    have HC := Lib.hid (readTxt _ g v l at_ most w.heap.size H.out hl HCP.out)
    rw [rat0, rerr0, ite00]
    generalize hq : pText most (l.drop at_) = q at *
    clear hq
    obtain ⟨x, s, e⟩ := q
    simp only at HC ⊢
    generalize (if e ≠ 0 then at_ else at_ + s) = a' at *
    generalize ByteArray.mk x.toArray = y at *
    go_enter Try.func39, Try.ntmps39
    go_wp2_with (go_at_call 57; refine HC.out.mono ?_; rintro r w' ⟨rfl, h1, h2⟩; have H1 := Lib.hid h1; have H2 := Lib.hid h2; clear h1 h2)
    go_ret
    exact ⟨rfl, H1.out, (Mod.alloc (Mod.refl w (· = g)) _).trans H2.out fun _ _ h => h⟩
  · have HC := Lib.hid (readTxt_err _ g v l at_ e (.func (.func 58) #[] #[.pointer (some ⟨w.heap.size, 0, none⟩)]) H.out he)
    rw [rat1 _ _ _ he, rerr1 _ he, if_pos he]
    have HE := Lib.hid he
    clear he
    go_enter Try.func39, Try.ntmps39
    go_wp2_with (go_at_call 57; refine HC.out.mono ?_; rintro r w' ⟨rfl, rfl⟩)
    go_ret
    exact ⟨rfl, H.out, Mod.alloc (Mod.refl w (· = g)) _⟩

theorem signedR_any (w : World) (g : Nat) (v : Value) (l : List UInt8) (at_ e : Nat) (h : IsR w g v l at_ e) (hl : l.length ≤ 9223372036854775806) :
    Calls Try.prog 32 #[.pointer (some ⟨g, 0, none⟩)] w
      (RPost w g v l (rat at_ e (pSig (l.drop at_)).2.1 (pSig (l.drop at_)).2.2) (rerr e (pSig (l.drop at_)).2.2) (.int .i64 (if e ≠ 0 then 0 else (pSig (l.drop at_)).1))) := by
  have H := Lib.hid h
  clear h
  by_cases he : e = 0
  · subst he
    have HC := Lib.hid (readSig _ g v l at_ H.out hl)
    rw [rat0, rerr0, ite00]
    generalize hq : pSig (l.drop at_) = q at *
    clear hq
    obtain ⟨x, s, e⟩ := q
    simp only at HC ⊢
    generalize (if e ≠ 0 then at_ else at_ + s) = a' at *
    go_enter Try.func32, Try.ntmps32
    go_wp2_with (go_at_call 48; refine HC.out.mono ?_; rintro r w' ⟨rfl, h1, h2⟩; have H1 := Lib.hid h1; have H2 := Lib.hid h2; clear h1 h2)
    go_ret
    exact ⟨rfl, H1.out, H2.out⟩
  · have HC := Lib.hid (readNum_err _ g v l at_ e (.func (.func 49) #[] #[]) H.out he)
    rw [rat1 _ _ _ he, rerr1 _ he, if_pos he]
    have HE := Lib.hid he
    clear he
    go_enter Try.func32, Try.ntmps32
    go_wp2_with (go_at_call 48; refine HC.out.mono ?_; rintro r w' ⟨rfl, rfl⟩)
    go_ret
    exact ⟨rfl, H.out, Mod.refl w (· = g)⟩

theorem flagR_any (w : World) (g : Nat) (v : Value) (l : List UInt8) (at_ e : Nat) (h : IsR w g v l at_ e) (hl : l.length ≤ 9223372036854775806) :
    Calls Try.prog 38 #[.pointer (some ⟨g, 0, none⟩)] w
      (RPost w g v l (rat at_ e (pFlag (l.drop at_)).2.1 (pFlag (l.drop at_)).2.2) (rerr e (pFlag (l.drop at_)).2.2) (.bool (if e ≠ 0 then false else (pFlag (l.drop at_)).1))) := by
  have H := Lib.hid h
  clear h
  by_cases he : e = 0
  · subst he
    have HC := Lib.hid (readFlag _ g v l at_ H.out hl)
    rw [rat0, rerr0, ite00]
    generalize hq : pFlag (l.drop at_) = q at *
    clear hq
    obtain ⟨x, s, e⟩ := q
    simp only at HC ⊢
    generalize (if e ≠ 0 then at_ else at_ + s) = a' at *
    go_enter Try.func38, Try.ntmps38
    go_wp2_with (go_at_call 55; refine HC.out.mono ?_; rintro r w' ⟨rfl, h1, h2⟩; have H1 := Lib.hid h1; have H2 := Lib.hid h2; clear h1 h2)
    go_ret
    exact ⟨rfl, H1.out, H2.out⟩
  · have HC := Lib.hid (readFlag_err _ g v l at_ e (.func (.func 56) #[] #[]) H.out he)
    rw [rat1 _ _ _ he, rerr1 _ he, if_pos he]
    have HE := Lib.hid he
    clear he
    go_enter Try.func38, Try.ntmps38
    go_wp2_with (go_at_call 55; refine HC.out.mono ?_; rintro r w' ⟨rfl, rfl⟩)
    go_ret
    exact ⟨rfl, H.out, Mod.refl w (· = g)⟩

theorem restR_any (w : World) (g : Nat) (v : Value) (l : List UInt8) (at_ e : Nat) (h : IsR w g v l at_ e) (hl : l.length ≤ 9223372036854775806) :
    Calls Try.prog 28 #[.pointer (some ⟨g, 0, none⟩)] w fun r w' => r = .returned (.int .i64 ((l.length : Int) - (at_ : Int))) ∧ ∃ n, w' = w.drewN n := by
  obtain ⟨A, cap, rfl, _⟩ := h.2.1.form
  have hc0 : w.cell? ⟨g, 0, none⟩ = some (.slice A l.length cap) := h.1.cell 0
  have hc1 : w.cell? ⟨g, 1, none⟩ = some (.int .i64 (at_ : Int)) := h.1.cell 1
  have hal := h.2.2
  clear h
  go_enter Try.func28, Try.ntmps28
  go_wp2
  go_quiet (fail)
  go_wp2
  go_ret
  exact ⟨rfl, _, rfl⟩

theorem failedR_ok (w : World) (g : Nat) (v : Value) (l : List UInt8) (at_ : Nat) (h : IsR w g v l at_ 0) :
    Calls Try.prog 27 #[.pointer (some ⟨g, 0, none⟩)] w fun r w' => r = .returned (.tuple #[.int .i64 0, .int .i64 0]) ∧ w = w' := by
  have hc2 : w.cell? ⟨g, 2, none⟩ = some (.int .i64 ((0 : Nat) : Int)) := h.1.cell 2
  clear h
  go_enter Try.func27, Try.ntmps27
  go_wp2
  go_ret2
  exact ⟨rfl, rfl⟩

theorem failedR_err (w : World) (g : Nat) (v : Value) (l : List UInt8) (at_ e : Nat) (h : IsR w g v l at_ e) (he : e ≠ 0) :
    Calls Try.prog 27 #[.pointer (some ⟨g, 0, none⟩)] w fun r w' => r = .returned (.tuple #[.int .i64 (at_ : Int), .int .i64 (e : Int)]) ∧ ∃ n, w' = w.drewN n := by
  have hc1 : w.cell? ⟨g, 1, none⟩ = some (.int .i64 (at_ : Int)) := h.1.cell 1
  have hc2 : w.cell? ⟨g, 2, none⟩ = some (.int .i64 (e : Int)) := h.1.cell 2
  have hne : ((e : Int) == 0) = false := by simp; omega
  clear h he
  go_enter Try.func27, Try.ntmps27
  go_wp2
  go_quiet (fail)
  go_wp2
  go_ret2
  exact ⟨rfl, _, rfl⟩

theorem closeR_any (w : World) (g : Nat) (v : Value) (l : List UInt8) (at_ e : Nat) (h : IsR w g v l at_ e) (hl : l.length ≤ 9223372036854775806) :
    Calls Try.prog 29 #[.pointer (some ⟨g, 0, none⟩)] w fun r w' => r = .returned (.int .i64 ((if e ≠ 0 then e else if at_ < l.length then 5 else 0 : Nat) : Int)) ∧ ∃ n, w' = w.drewN n := by
  have hal := h.2.2
  by_cases he : e = 0
  · subst he
    have HF := Lib.hid (failedR_ok w g v l at_ h)
    have HR := Lib.hid (restR_any w g v l at_ 0 h hl)
    rw [if_neg (by omega)]
    clear h
    by_cases hlt : at_ < l.length
    · rw [if_pos hlt]
      go_enter Try.func29, Try.ntmps29
      go_wp2_with (first | (go_at_call 27; refine HF.out.mono ?_; rintro r w' ⟨rfl, rfl⟩) | (go_at_call 28; refine HR.out.mono ?_; rintro r w' ⟨rfl, n, rfl⟩))
      go_ret
      exact ⟨rfl, _, rfl⟩
    · rw [if_neg hlt]
      go_enter Try.func29, Try.ntmps29
      go_wp2_with (first | (go_at_call 27; refine HF.out.mono ?_; rintro r w' ⟨rfl, rfl⟩) | (go_at_call 28; refine HR.out.mono ?_; rintro r w' ⟨rfl, n, rfl⟩))
      go_ret
      exact ⟨rfl, _, rfl⟩
  · have HF := Lib.hid (failedR_err w g v l at_ e h he)
    rw [if_pos he]
    have hne : ((e : Int) != 0) = true := by simp; omega
    clear h he
    go_enter Try.func29, Try.ntmps29
    go_wp2_with fail
    refine HF.out.mono ?_
    rintro r w' ⟨rfl, n, rfl⟩
    go_wp2
    go_ret
    exact ⟨rfl, _, rfl⟩
end Go.Proofs.Ytfjigooahdfbpaa
