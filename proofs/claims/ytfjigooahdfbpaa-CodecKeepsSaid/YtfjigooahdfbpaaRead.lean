/- The walks of codec.Reader's generic read, at each value that it is called with. -/
import Derived.Test.YtfjigooahdfbpaaReader
set_option linter.unusedVariables false
namespace Go.Proofs.Ytfjigooahdfbpaa
open Go.RowKit

theorem pNum_size (most : Int) (b : List UInt8) : (pNum most b).2.1 ≤ b.length := by
  have := grp_size b 9
  unfold pNum; repeat' split
  all_goals first | exact Nat.zero_le _ | exact this
theorem pNum_err (most : Int) (b : List UInt8) : (pNum most b).2.2 ≠ 0 → (pNum most b).1 = 0 := by
  unfold pNum; repeat' split
  all_goals simp
theorem pSig_size (b : List UInt8) : (pSig b).2.1 ≤ b.length := grp_size b 10
theorem pSig_err (b : List UInt8) : (pSig b).2.2 ≠ 0 → (pSig b).1 = 0 := fun h => by
  have := grp_zero_err b 10 h
  unfold pSig; simp only; rw [this.1]; rfl
theorem pFlag_size (b : List UInt8) : (pFlag b).2.1 ≤ b.length := by
  cases b with
  | nil => exact Nat.zero_le _
  | cons c r => simp only [pFlag]; split <;> simp
theorem pFlag_err (b : List UInt8) : (pFlag b).2.2 ≠ 0 → (pFlag b).1 = false := by
  cases b with
  | nil => intro _; rfl
  | cons c r => simp only [pFlag]; split <;> simp
theorem pText_size (most : Int) (b : List UInt8) : (pText most b).2.1 ≤ b.length := by
  have := grp_size b 9
  unfold pText; repeat' split
  all_goals first | exact Nat.zero_le _ | (simp only; omega)
theorem pText_err (most : Int) (b : List UInt8) : (pText most b).2.2 ≠ 0 → (pText most b).1 = [] := by
  unfold pText; repeat' split
  all_goals simp

theorem readNum_err (w : World) (g : Nat) (v : Value) (l : List UInt8) (at_ e : Nat) (f : Value) (h : IsR w g v l at_ e) (he : e ≠ 0) :
    Calls Try.prog 48 #[.pointer (some ⟨g, 0, none⟩), f] w fun r w' => r = .returned (.int .i64 0) ∧ w = w' := by
  have hc2 : w.cell? ⟨g, 2, none⟩ = some (.int .i64 (e : Int)) := h.1.cell 2
  have hne : ((e : Int) != 0) = true := by simp; omega
  clear h he
  go_enter Try.func48, Try.ntmps48
  go_wp2
  go_ret
  exact ⟨rfl, rfl⟩

set_option maxHeartbeats 1000000 in
theorem readNum (w : World) (g : Nat) (v : Value) (l : List UInt8) (at_ : Nat) (most : Int) (p : Nat) (h : IsR w g v l at_ 0) (hl : l.length ≤ 9223372036854775806) (hcp : w.cell? ⟨p, 0, none⟩ = some (.int .i64 most)) :
    Calls Try.prog 48 #[.pointer (some ⟨g, 0, none⟩), .func (.func 53) #[] #[.pointer (some ⟨p, 0, none⟩)]] w fun r w' =>
      r = .returned (.int .i64 (pNum most (l.drop at_)).1) ∧ IsR w' g v l (if (pNum most (l.drop at_)).2.2 ≠ 0 then at_ else at_ + (pNum most (l.drop at_)).2.1) (pNum most (l.drop at_)).2.2 ∧ Mod w w' (· = g) := by
  obtain ⟨A, cap, rfl, hr, hcap, hcm⟩ := h.2.1.form
  unfold maxLen at hcm
  have hc0 : w.cell? ⟨g, 0, none⟩ = some (.slice A l.length cap) := h.1.cell 0
  have hc1 : w.cell? ⟨g, 1, none⟩ = some (.int .i64 (at_ : Int)) := h.1.cell 1
  have hc2 : w.cell? ⟨g, 2, none⟩ = some (.int .i64 ((0 : Nat) : Int)) := h.1.cell 2
  have hf1 : w.frozen? ⟨g, 1, none⟩ = false := h.1.frozen 1
  have hf2 : w.frozen? ⟨g, 2, none⟩ = false := h.1.frozen 2
  obtain ⟨A', c', hr', hbc, hcc, hsl⟩ := slice_from hr h.2.2 hcap
  have hsz := pNum_size most (l.drop at_)
  have HZ := Lib.hid (pNum_err most (l.drop at_))
  have hdl : (l.drop at_).length = l.length - at_ := List.length_drop ..
  have hal := h.2.2
  obtain ⟨m, hm⟩ : ∃ m, m = l.drop at_ := ⟨_, rfl⟩
  rw [← hm] at hr' hsl hsz hdl hbc HZ ⊢
  have hml : m.length ≤ 9223372036854775806 := by omega
  have hms : (pNum most (l.drop at_)).2.1 ≤ l.length - at_ := by rw [← hm, ← hdl]; exact hsz
  rw [← hm] at hms
  clear hm hdl
  have HF : Hid (∀ n, Calls Try.prog 53 #[.slice A' m.length c', .pointer (some ⟨p, 0, none⟩)] (w.drewN n) fun e w' => e = .returned (.tuple #[.int .i64 (pNum most m).1, .int .i64 (((pNum most m).2.1 : Nat) : Int), .int .i64 (((pNum most m).2.2 : Nat) : Int)]) ∧ w.drewN n = w') := Lib.hid (fun n => numClosure_any A' m c' _ most p (w.drewN n) hr' hml hcp)
  have H := Lib.hid h
  clear h hr hr'
  generalize hq : pNum most m = q at *
  clear hq
  obtain ⟨x, s, e⟩ := q
  simp only at HF hsz hms HZ ⊢
  have hdrew : Mod w w (· = g) := Mod.refl _ _
  by_cases he : e = 0
  · subst he
    rw [if_neg (by omega)]
    go_enter Try.func48, Try.ntmps48
    go_wp2_with fail
    go_quiet ((go_at_call 53; exact (HF.out _).mono fun _ _ hh => ⟨hh.1, _, hh.2.symm⟩))
    go_wp2
    go_ret
    refine ⟨rfl, ⟨?_, H.out.2.1.mod ((Mod.refl w (· = g)).drewN nq |>.setCell (p := ⟨g, 1, none⟩) (fun _ => rfl) _) (fun k hk e => H.out.ne (by rw [hk, e])), by omega⟩, (Mod.refl w (· = g)).drewN nq |>.setCell (p := ⟨g, 1, none⟩) (fun _ => rfl) _⟩
    have := (show Blk (w.drewN nq) g _ _ from H.out.1).set_ 1 (.int .i64 ((at_ + s : Nat) : Int))
    simpa using this
  · rw [if_pos he]
    have hne : ((e : Int) != 0) = true := by simp; omega
    have HE := Lib.hid he
    have HX := Lib.hid (HZ.out he)
    clear he
    go_enter Try.func48, Try.ntmps48
    go_wp2_with fail
    go_quiet ((go_at_call 53; exact (HF.out _).mono fun _ _ hh => ⟨hh.1, _, hh.2.symm⟩))
    go_wp2
    go_ret
    refine ⟨by rw [HX.out]; rfl, ⟨?_, H.out.2.1.mod ((Mod.refl w (· = g)).drewN nq |>.setCell (p := ⟨g, 2, none⟩) (fun _ => rfl) _) (fun k hk e => H.out.ne (by rw [hk, e])), hal⟩, (Mod.refl w (· = g)).drewN nq |>.setCell (p := ⟨g, 2, none⟩) (fun _ => rfl) _⟩
    have := (show Blk (w.drewN nq) g _ _ from H.out.1).set_ 2 (.int .i64 (e : Int))
    simpa using this

theorem readSig_err (w : World) (g : Nat) (v : Value) (l : List UInt8) (at_ e : Nat) (f : Value) (h : IsR w g v l at_ e) (he : e ≠ 0) :
    Calls Try.prog 48 #[.pointer (some ⟨g, 0, none⟩), f] w fun r w' => r = .returned (.int .i64 0) ∧ w = w' := by
  have hc2 : w.cell? ⟨g, 2, none⟩ = some (.int .i64 (e : Int)) := h.1.cell 2
  have hne : ((e : Int) != 0) = true := by simp; omega
  clear h he
  go_enter Try.func48, Try.ntmps48
  go_wp2
  go_ret
  exact ⟨rfl, rfl⟩

set_option maxHeartbeats 1000000 in
theorem readSig (w : World) (g : Nat) (v : Value) (l : List UInt8) (at_ : Nat) (h : IsR w g v l at_ 0) (hl : l.length ≤ 9223372036854775806) :
    Calls Try.prog 48 #[.pointer (some ⟨g, 0, none⟩), .func (.func 49) #[] #[]] w fun r w' =>
      r = .returned (.int .i64 (pSig (l.drop at_)).1) ∧ IsR w' g v l (if (pSig (l.drop at_)).2.2 ≠ 0 then at_ else at_ + (pSig (l.drop at_)).2.1) (pSig (l.drop at_)).2.2 ∧ Mod w w' (· = g) := by
  obtain ⟨A, cap, rfl, hr, hcap, hcm⟩ := h.2.1.form
  unfold maxLen at hcm
  have hc0 : w.cell? ⟨g, 0, none⟩ = some (.slice A l.length cap) := h.1.cell 0
  have hc1 : w.cell? ⟨g, 1, none⟩ = some (.int .i64 (at_ : Int)) := h.1.cell 1
  have hc2 : w.cell? ⟨g, 2, none⟩ = some (.int .i64 ((0 : Nat) : Int)) := h.1.cell 2
  have hf1 : w.frozen? ⟨g, 1, none⟩ = false := h.1.frozen 1
  have hf2 : w.frozen? ⟨g, 2, none⟩ = false := h.1.frozen 2
  obtain ⟨A', c', hr', hbc, hcc, hsl⟩ := slice_from hr h.2.2 hcap
  have hsz := pSig_size (l.drop at_)
  have HZ := Lib.hid (pSig_err (l.drop at_))
  have hdl : (l.drop at_).length = l.length - at_ := List.length_drop ..
  have hal := h.2.2
  obtain ⟨m, hm⟩ : ∃ m, m = l.drop at_ := ⟨_, rfl⟩
  rw [← hm] at hr' hsl hsz hdl hbc HZ ⊢
  have hml : m.length ≤ 9223372036854775806 := by omega
  have hms : (pSig (l.drop at_)).2.1 ≤ l.length - at_ := by rw [← hm, ← hdl]; exact hsz
  rw [← hm] at hms
  clear hm hdl
  have HF : Hid (∀ n, Calls Try.prog 49 #[.slice A' m.length c'] (w.drewN n) fun e w' => e = .returned (.tuple #[.int .i64 (pSig m).1, .int .i64 (((pSig m).2.1 : Nat) : Int), .int .i64 (((pSig m).2.2 : Nat) : Int)]) ∧ w.drewN n = w') := Lib.hid (fun n => parseSigned_any A' m c' _ (w.drewN n) hr' hml)
  have H := Lib.hid h
  clear h hr hr'
  generalize hq : pSig m = q at *
  clear hq
  obtain ⟨x, s, e⟩ := q
  simp only at HF hsz hms HZ ⊢
  have hdrew : Mod w w (· = g) := Mod.refl _ _
  by_cases he : e = 0
  · subst he
    rw [if_neg (by omega)]
    go_enter Try.func48, Try.ntmps48
    go_wp2_with fail
    go_quiet ((go_at_call 49; exact (HF.out _).mono fun _ _ hh => ⟨hh.1, _, hh.2.symm⟩))
    go_wp2
    go_ret
    refine ⟨rfl, ⟨?_, H.out.2.1.mod ((Mod.refl w (· = g)).drewN nq |>.setCell (p := ⟨g, 1, none⟩) (fun _ => rfl) _) (fun k hk e => H.out.ne (by rw [hk, e])), by omega⟩, (Mod.refl w (· = g)).drewN nq |>.setCell (p := ⟨g, 1, none⟩) (fun _ => rfl) _⟩
    have := (show Blk (w.drewN nq) g _ _ from H.out.1).set_ 1 (.int .i64 ((at_ + s : Nat) : Int))
    simpa using this
  · rw [if_pos he]
    have hne : ((e : Int) != 0) = true := by simp; omega
    have HE := Lib.hid he
    have HX := Lib.hid (HZ.out he)
    clear he
    go_enter Try.func48, Try.ntmps48
    go_wp2_with fail
    go_quiet ((go_at_call 49; exact (HF.out _).mono fun _ _ hh => ⟨hh.1, _, hh.2.symm⟩))
    go_wp2
    go_ret
    refine ⟨by rw [HX.out]; rfl, ⟨?_, H.out.2.1.mod ((Mod.refl w (· = g)).drewN nq |>.setCell (p := ⟨g, 2, none⟩) (fun _ => rfl) _) (fun k hk e => H.out.ne (by rw [hk, e])), hal⟩, (Mod.refl w (· = g)).drewN nq |>.setCell (p := ⟨g, 2, none⟩) (fun _ => rfl) _⟩
    have := (show Blk (w.drewN nq) g _ _ from H.out.1).set_ 2 (.int .i64 (e : Int))
    simpa using this

theorem readFlag_err (w : World) (g : Nat) (v : Value) (l : List UInt8) (at_ e : Nat) (f : Value) (h : IsR w g v l at_ e) (he : e ≠ 0) :
    Calls Try.prog 55 #[.pointer (some ⟨g, 0, none⟩), f] w fun r w' => r = .returned (.bool false) ∧ w = w' := by
  have hc2 : w.cell? ⟨g, 2, none⟩ = some (.int .i64 (e : Int)) := h.1.cell 2
  have hne : ((e : Int) != 0) = true := by simp; omega
  clear h he
  go_enter Try.func55, Try.ntmps55
  go_wp2
  go_ret
  exact ⟨rfl, rfl⟩

set_option maxHeartbeats 1000000 in
theorem readFlag (w : World) (g : Nat) (v : Value) (l : List UInt8) (at_ : Nat) (h : IsR w g v l at_ 0) (hl : l.length ≤ 9223372036854775806) :
    Calls Try.prog 55 #[.pointer (some ⟨g, 0, none⟩), .func (.func 56) #[] #[]] w fun r w' =>
      r = .returned (.bool (pFlag (l.drop at_)).1) ∧ IsR w' g v l (if (pFlag (l.drop at_)).2.2 ≠ 0 then at_ else at_ + (pFlag (l.drop at_)).2.1) (pFlag (l.drop at_)).2.2 ∧ Mod w w' (· = g) := by
  obtain ⟨A, cap, rfl, hr, hcap, hcm⟩ := h.2.1.form
  unfold maxLen at hcm
  have hc0 : w.cell? ⟨g, 0, none⟩ = some (.slice A l.length cap) := h.1.cell 0
  have hc1 : w.cell? ⟨g, 1, none⟩ = some (.int .i64 (at_ : Int)) := h.1.cell 1
  have hc2 : w.cell? ⟨g, 2, none⟩ = some (.int .i64 ((0 : Nat) : Int)) := h.1.cell 2
  have hf1 : w.frozen? ⟨g, 1, none⟩ = false := h.1.frozen 1
  have hf2 : w.frozen? ⟨g, 2, none⟩ = false := h.1.frozen 2
  obtain ⟨A', c', hr', hbc, hcc, hsl⟩ := slice_from hr h.2.2 hcap
  have hsz := pFlag_size (l.drop at_)
  have HZ := Lib.hid (pFlag_err (l.drop at_))
  have hdl : (l.drop at_).length = l.length - at_ := List.length_drop ..
  have hal := h.2.2
  obtain ⟨m, hm⟩ : ∃ m, m = l.drop at_ := ⟨_, rfl⟩
  rw [← hm] at hr' hsl hsz hdl hbc HZ ⊢
  have hml : m.length ≤ 9223372036854775806 := by omega
  have hms : (pFlag (l.drop at_)).2.1 ≤ l.length - at_ := by rw [← hm, ← hdl]; exact hsz
  rw [← hm] at hms
  clear hm hdl
  have HF : Hid (∀ n, Calls Try.prog 56 #[.slice A' m.length c'] (w.drewN n) fun e w' => e = .returned (.tuple #[.bool (pFlag m).1, .int .i64 (((pFlag m).2.1 : Nat) : Int), .int .i64 (((pFlag m).2.2 : Nat) : Int)]) ∧ w.drewN n = w') := Lib.hid (fun n => parseFlag_any A' m c' _ (w.drewN n) hr' hml)
  have H := Lib.hid h
  clear h hr hr'
  generalize hq : pFlag m = q at *
  clear hq
  obtain ⟨x, s, e⟩ := q
  simp only at HF hsz hms HZ ⊢
  have hdrew : Mod w w (· = g) := Mod.refl _ _
  by_cases he : e = 0
  · subst he
    rw [if_neg (by omega)]
    go_enter Try.func55, Try.ntmps55
    go_wp2_with fail
    go_quiet ((go_at_call 56; exact (HF.out _).mono fun _ _ hh => ⟨hh.1, _, hh.2.symm⟩))
    go_wp2
    go_ret
    refine ⟨rfl, ⟨?_, H.out.2.1.mod ((Mod.refl w (· = g)).drewN nq |>.setCell (p := ⟨g, 1, none⟩) (fun _ => rfl) _) (fun k hk e => H.out.ne (by rw [hk, e])), by omega⟩, (Mod.refl w (· = g)).drewN nq |>.setCell (p := ⟨g, 1, none⟩) (fun _ => rfl) _⟩
    have := (show Blk (w.drewN nq) g _ _ from H.out.1).set_ 1 (.int .i64 ((at_ + s : Nat) : Int))
    simpa using this
  · rw [if_pos he]
    have hne : ((e : Int) != 0) = true := by simp; omega
    have HE := Lib.hid he
    have HX := Lib.hid (HZ.out he)
    clear he
    go_enter Try.func55, Try.ntmps55
    go_wp2_with fail
    go_quiet ((go_at_call 56; exact (HF.out _).mono fun _ _ hh => ⟨hh.1, _, hh.2.symm⟩))
    go_wp2
    go_ret
    refine ⟨by rw [HX.out]; rfl, ⟨?_, H.out.2.1.mod ((Mod.refl w (· = g)).drewN nq |>.setCell (p := ⟨g, 2, none⟩) (fun _ => rfl) _) (fun k hk e => H.out.ne (by rw [hk, e])), hal⟩, (Mod.refl w (· = g)).drewN nq |>.setCell (p := ⟨g, 2, none⟩) (fun _ => rfl) _⟩
    have := (show Blk (w.drewN nq) g _ _ from H.out.1).set_ 2 (.int .i64 (e : Int))
    simpa using this

theorem readTxt_err (w : World) (g : Nat) (v : Value) (l : List UInt8) (at_ e : Nat) (f : Value) (h : IsR w g v l at_ e) (he : e ≠ 0) :
    Calls Try.prog 57 #[.pointer (some ⟨g, 0, none⟩), f] w fun r w' => r = .returned (.string ByteArray.empty) ∧ w = w' := by
  have hc2 : w.cell? ⟨g, 2, none⟩ = some (.int .i64 (e : Int)) := h.1.cell 2
  have hne : ((e : Int) != 0) = true := by simp; omega
  clear h he
  go_enter Try.func57, Try.ntmps57
  go_wp2
  go_ret
  exact ⟨rfl, rfl⟩

set_option maxHeartbeats 1000000 in
theorem readTxt (w : World) (g : Nat) (v : Value) (l : List UInt8) (at_ : Nat) (most : Int) (p : Nat) (h : IsR w g v l at_ 0) (hl : l.length ≤ 9223372036854775806) (hcp : w.cell? ⟨p, 0, none⟩ = some (.int .i64 most)) :
    Calls Try.prog 57 #[.pointer (some ⟨g, 0, none⟩), .func (.func 58) #[] #[.pointer (some ⟨p, 0, none⟩)]] w fun r w' =>
      r = .returned (.string ⟨(pText most (l.drop at_)).1.toArray⟩) ∧ IsR w' g v l (if (pText most (l.drop at_)).2.2 ≠ 0 then at_ else at_ + (pText most (l.drop at_)).2.1) (pText most (l.drop at_)).2.2 ∧ Mod w w' (· = g) := by
  obtain ⟨A, cap, rfl, hr, hcap, hcm⟩ := h.2.1.form
  unfold maxLen at hcm
  have hc0 : w.cell? ⟨g, 0, none⟩ = some (.slice A l.length cap) := h.1.cell 0
  have hc1 : w.cell? ⟨g, 1, none⟩ = some (.int .i64 (at_ : Int)) := h.1.cell 1
  have hc2 : w.cell? ⟨g, 2, none⟩ = some (.int .i64 ((0 : Nat) : Int)) := h.1.cell 2
  have hf1 : w.frozen? ⟨g, 1, none⟩ = false := h.1.frozen 1
  have hf2 : w.frozen? ⟨g, 2, none⟩ = false := h.1.frozen 2
  obtain ⟨A', c', hr', hbc, hcc, hsl⟩ := slice_from hr h.2.2 hcap
  have hsz := pText_size most (l.drop at_)
  have HZ := Lib.hid (pText_err most (l.drop at_))
  have hdl : (l.drop at_).length = l.length - at_ := List.length_drop ..
  have hal := h.2.2
  obtain ⟨m, hm⟩ : ∃ m, m = l.drop at_ := ⟨_, rfl⟩
  rw [← hm] at hr' hsl hsz hdl hbc HZ ⊢
  have hml : m.length ≤ 9223372036854775806 := by omega
  have hms : (pText most (l.drop at_)).2.1 ≤ l.length - at_ := by rw [← hm, ← hdl]; exact hsz
  rw [← hm] at hms
  clear hm hdl
  have HF : Hid (∀ n, Calls Try.prog 58 #[.slice A' m.length c', .pointer (some ⟨p, 0, none⟩)] (w.drewN n) fun e w' => e = .returned (.tuple #[.string ⟨(pText most m).1.toArray⟩, .int .i64 (((pText most m).2.1 : Nat) : Int), .int .i64 (((pText most m).2.2 : Nat) : Int)]) ∧ w.drewN n = w') := Lib.hid (fun n => textClosure_any A' m c' _ most p (w.drewN n) hr' hml hbc hcp)
  have H := Lib.hid h
  clear h hr hr'
  generalize hq : pText most m = q at *
  clear hq
  obtain ⟨x, s, e⟩ := q
  simp only at HF hsz hms HZ ⊢
  have hdrew : Mod w w (· = g) := Mod.refl _ _
  by_cases he : e = 0
  · subst he
    rw [if_neg (by omega)]
    go_enter Try.func57, Try.ntmps57
    go_wp2_with fail
    go_quiet ((go_at_call 58; exact (HF.out _).mono fun _ _ hh => ⟨hh.1, _, hh.2.symm⟩))
    go_wp2
    go_ret
    refine ⟨rfl, ⟨?_, H.out.2.1.mod ((Mod.refl w (· = g)).drewN nq |>.setCell (p := ⟨g, 1, none⟩) (fun _ => rfl) _) (fun k hk e => H.out.ne (by rw [hk, e])), by omega⟩, (Mod.refl w (· = g)).drewN nq |>.setCell (p := ⟨g, 1, none⟩) (fun _ => rfl) _⟩
    have := (show Blk (w.drewN nq) g _ _ from H.out.1).set_ 1 (.int .i64 ((at_ + s : Nat) : Int))
    simpa using this
  · rw [if_pos he]
    have hne : ((e : Int) != 0) = true := by simp; omega
    have HE := Lib.hid he
    have HX := Lib.hid (HZ.out he)
    clear he
    go_enter Try.func57, Try.ntmps57
    go_wp2_with fail
    go_quiet ((go_at_call 58; exact (HF.out _).mono fun _ _ hh => ⟨hh.1, _, hh.2.symm⟩))
    go_wp2
    go_ret
    refine ⟨by rw [HX.out]; rfl, ⟨?_, H.out.2.1.mod ((Mod.refl w (· = g)).drewN nq |>.setCell (p := ⟨g, 2, none⟩) (fun _ => rfl) _) (fun k hk e => H.out.ne (by rw [hk, e])), hal⟩, (Mod.refl w (· = g)).drewN nq |>.setCell (p := ⟨g, 2, none⟩) (fun _ => rfl) _⟩
    have := (show Blk (w.drewN nq) g _ _ from H.out.1).set_ 2 (.int .i64 (e : Int))
    simpa using this
end Go.Proofs.Ytfjigooahdfbpaa
