/- pack: what is packed unpacks again. Lists of bytes; no program. -/
import Derived.Test.YtocohoojnjdkiaaKSpec
set_option linter.unusedVariables false
namespace Go.Proofs.Ytocohoojnjdkiaa
open Go.RowKit

theorem byt_ext {a b : List UInt8} (hl : a.length = b.length) (h : ∀ i, i < a.length → byt a i = byt b i) : a = b := by
  apply List.ext_getElem hl
  intro i h1 h2
  have := h i h1
  unfold byt at this
  simp [List.getD, h1, h2] at this
  exact UInt8.toNat_inj.1 this
theorem byt_app_l {a b : List UInt8} {i : Nat} (h : i < a.length) : byt (a ++ b) i = byt a i := by
  unfold byt; simp [List.getD, List.getElem?_append_left h]
theorem byt_app_r {a b : List UInt8} {i : Nat} (h : a.length ≤ i) : byt (a ++ b) i = byt b (i - a.length) := by
  unfold byt; simp [List.getD, List.getElem?_append_right h]
theorem byt_take {a : List UInt8} {n i : Nat} (h : i < n) : byt (a.take n) i = byt a i := by
  unfold byt; simp [List.getD, List.getElem?_take, h]
theorem byt_drop (a : List UInt8) (n i : Nat) : byt (a.drop n) i = byt a (n + i) := by
  unfold byt; simp [List.getD, List.getElem?_drop]
theorem getD_byt {a b : List UInt8} {i j : Nat} (h : byt a i = byt b j) : a.getD i 0 = b.getD j 0 := UInt8.toNat_inj.1 h
theorem take_succ_getD {t : List UInt8} {n : Nat} (h : n < t.length) : t.take (n + 1) = t.take n ++ [t.getD n 0] := by
  rw [List.take_add_one, List.getElem?_eq_getElem h]; simp [List.getD, h]
/-- A copy of bytes that agree. -/
theorem copyF_take (t : List UInt8) (d : Nat) : ∀ (n at_ : Nat), at_ + n ≤ t.length → 1 ≤ d → d ≤ at_ → (∀ k, k < n → byt t (at_ - d + k) = byt t (at_ + k)) → copyF (t.take at_) d n = t.take (at_ + n) := by
  intro n
  induction n with
  | zero => intro at_ _ _ _ _; rfl
  | succ n ih =>
    intro at_ h1 h2 h3 h4
    unfold copyF
    have e1 : (t.take at_).length = at_ := by simp; omega
    have e2 : (t.take at_).getD (at_ - d) 0 = t.getD at_ 0 := by
      have h := h4 0 (by omega)
      rw [Nat.add_zero, Nat.add_zero] at h
      apply getD_byt
      rw [byt_take (by omega)]
      exact h
    rw [e1, e2, ← take_succ_getD (by omega), ih (at_ + 1) (by omega) h2 (by omega) fun k hk => ?_]
    · congr 1; omega
    · have := h4 (k + 1) (by omega)
      rw [show at_ - d + (k + 1) = at_ + 1 - d + k by omega, show at_ + (k + 1) = at_ + 1 + k by omega] at this
      exact this
theorem copyF_len (d : Nat) : ∀ (n : Nat) (text : List UInt8), (copyF text d n).length = text.length + n := by
  intro n
  induction n with
  | zero => intro text; rfl
  | succ n ih => intro text; unfold copyF; rw [ih]; simp; omega
theorem app_len (text : List UInt8) (t : Tok) : (t.app text).length = text.length + t.out := by
  cases t with
  | lit l => simp [Tok.app, Tok.out]
  | mch d n => exact copyF_len d n text
theorem copyF_pre (d : Nat) : ∀ (n : Nat) (text : List UInt8), text <+: copyF text d n := by
  intro n
  induction n with
  | zero => intro text; exact List.prefix_refl _
  | succ n ih => intro text; unfold copyF; exact (List.prefix_append _ _).trans (ih _)
theorem app_pre (text : List UInt8) (t : Tok) : text <+: t.app text := by
  cases t with
  | lit l => exact List.prefix_append _ _
  | mch d n => exact copyF_pre d n text
/-- A token that can be encoded. -/
def Tok.ok : Tok → Prop
  | .lit l => 1 ≤ l.length ∧ l.length ≤ 128
  | .mch d n => 1 ≤ d ∧ d ≤ 4096 ∧ 4 ≤ n ∧ n ≤ 131
theorem ofNat_toNat {n : Nat} (h : n < 256) : (UInt8.ofNat n).toNat = n := by simp; omega
theorem byt_cons_zero (c : UInt8) (l : List UInt8) : byt (c :: l) 0 = c.toNat := rfl
theorem byt_cons_succ (c : UInt8) (l : List UInt8) (i : Nat) : byt (c :: l) (i + 1) = byt l i := rfl
theorem ofNat_mod (n : Nat) : (UInt8.ofNat n).toNat = n % 256 := by simp
theorem tok1_enc {t : Tok} (h : t.ok) (r : List UInt8) : tok1 (t.enc ++ r) = .ok (t, t.enc.length) := by
  cases t with
  | lit l =>
    obtain ⟨h1, h2⟩ := h
    have e1 : byt (Tok.enc (.lit l) ++ r) 0 = l.length - 1 := by
      show byt (UInt8.ofNat (l.length - 1) :: l ++ r) 0 = _
      rw [List.cons_append, byt_cons_zero, ofNat_toNat (by omega)]
    unfold tok1
    rw [e1, if_pos (by omega), if_neg (by simp [Tok.enc]; omega)]
    have a1 : (List.drop 1 (Tok.enc (.lit l) ++ r)).take (l.length - 1 + 1) = l := by
      show (List.take (l.length - 1 + 1) (l ++ r)) = l
      rw [show l.length - 1 + 1 = l.length by omega]
      simp
    have a2 : 2 + (l.length - 1) = (Tok.enc (.lit l)).length := by
      show 2 + (l.length - 1) = l.length + 1
      omega
    rw [a1, a2]
  | mch d n =>
    obtain ⟨h1, h2, h3, h4⟩ := h
    have e0 : byt (Tok.enc (.mch d n) ++ r) 0 = 124 + n := by
      show byt (UInt8.ofNat (124 + n) :: _) 0 = _
      rw [byt_cons_zero, ofNat_toNat (by omega)]
    have e1 : byt (Tok.enc (.mch d n) ++ r) 1 = (d - 1) / 256 := by
      show byt (_ :: UInt8.ofNat ((d - 1) / 256) :: _) (0 + 1) = _
      rw [byt_cons_succ, byt_cons_zero, ofNat_toNat (by omega)]
    have e2 : byt (Tok.enc (.mch d n) ++ r) 2 = (d - 1) % 256 := by
      show byt (_ :: _ :: UInt8.ofNat (d - 1) :: _) (0 + 1 + 1) = _
      rw [byt_cons_succ, byt_cons_succ, byt_cons_zero, ofNat_mod]
    unfold tok1
    rw [e0, e1, e2, if_neg (by omega), if_neg (by simp [Tok.enc]), if_neg (by omega)]
    rw [show (d - 1) / 256 * 256 + (d - 1) % 256 + 1 = d by omega, show 124 + n - 124 = n by omega]
    rfl
/-- Every distance lies within what stands before. -/
def Fits : List UInt8 → List Tok → Prop
  | _, [] => True
  | text, t :: r => t.dist ≤ text.length ∧ t.ok ∧ Fits (t.app text) r
theorem apps_len : ∀ (l : List Tok) (text : List UInt8), text.length ≤ (l.foldl Tok.app text).length := by
  intro l
  induction l with
  | nil => intro text; exact Nat.le_refl _
  | cons t r ih => intro text; have := ih (t.app text); rw [app_len] at this; simp only [List.foldl_cons]; omega
theorem unp_fits (begin most : Nat) : ∀ (l : List Tok) (pre text : List UInt8), Fits text l →
    ((l.foldl Tok.app text).length ≤ begin + most → unp begin most (pre ++ encs l) pre.length text = .ok ((l.foldl Tok.app text).drop begin)) ∧
    (begin + most < (l.foldl Tok.app text).length → text.length ≤ begin + most → ∃ x, unp begin most (pre ++ encs l) pre.length text = .error (x, 5)) := by
  intro l
  induction l with
  | nil =>
    intro pre text hF
    refine ⟨fun _ => ?_, fun h1 h2 => ?_⟩
    · rw [encs_nil, List.append_nil, unp_end (Nat.le_refl _)]; rfl
    · simp only [List.foldl_nil] at h1; omega
  | cons t r ih =>
    intro pre text hF
    obtain ⟨h1, h2, h3⟩ := hF
    have hpos : 0 < t.enc.length := by cases t <;> simp [Tok.enc]
    have e1 : (pre ++ encs (t :: r)).drop pre.length = t.enc ++ encs r := by rw [encs_cons]; simp
    have e2 : pre ++ encs (t :: r) = (pre ++ t.enc) ++ encs r := by rw [encs_cons]; simp
    have hs : unp begin most (pre ++ encs (t :: r)) pre.length text = (if t.chk text.length (begin + most) = 0 then unp begin most (pre ++ encs (t :: r)) (pre.length + t.enc.length) (t.app text) else .error (pre.length, t.chk text.length (begin + most))) := by
      rw [unp_step (by rw [encs_cons]; simp; omega), e1, tok1_enc h2]
    have hc : t.chk text.length (begin + most) = if begin + most < text.length + t.out then 5 else 0 := by
      unfold Tok.chk; rw [if_neg (by omega)]
    have hlen := apps_len r (t.app text)
    rw [app_len] at hlen
    obtain ⟨i1, i2⟩ := ih (pre ++ t.enc) (t.app text) h3
    rw [hs, hc]
    rw [e2, ← List.length_append]
    refine ⟨fun h => ?_, fun h h' => ?_⟩
    · simp only [List.foldl_cons] at h ⊢
      rw [if_pos (by rw [if_neg (by omega)])]
      exact i1 h
    · simp only [List.foldl_cons] at h
      by_cases hz : begin + most < text.length + t.out
      · rw [if_pos hz]
        exact ⟨_, rfl⟩
      · rw [if_neg hz]
        simp only [if_true]
        exact i2 h (by rw [app_len]; omega)
/-- The waiting literals stand ahead of the place. -/
theorem cn_apps (t : List UInt8) : ∀ (k at_ : Nat) (run : List UInt8), t.length - at_ ≤ k → at_ ≤ t.length → run.length ≤ at_ → run.length ≤ 127 → t.take at_ = t.take (at_ - run.length) ++ run →
    Fits (t.take (at_ - run.length)) (cn t at_ run) ∧ (cn t at_ run).foldl Tok.app (t.take (at_ - run.length)) = t := by
  intro k
  induction k with
  | zero =>
    intro at_ run h1 h2 h3 h4 h5
    have e : at_ = t.length := by omega
    subst e
    rw [cn_end (Nat.le_refl _)]
    rw [List.take_length] at h5
    cases run with
    | nil => simp [flush, Fits]
    | cons a r =>
      refine ⟨⟨by simp [Tok.dist], ⟨by simp, by omega⟩, trivial⟩, ?_⟩
      show Tok.app _ (.lit (a :: r)) = t
      exact h5.symm
  | succ k ih =>
    intro at_ run h1 h2 h3 h4 h5
    by_cases he : t.length ≤ at_
    · exact (fun (h0 : t.length - at_ ≤ 0) => by
        have e : at_ = t.length := by omega
        subst e
        rw [cn_end (Nat.le_refl _)]
        rw [List.take_length] at h5
        cases run with
        | nil => simp [flush, Fits]
        | cons a r =>
          refine ⟨⟨by simp [Tok.dist], ⟨by simp, by omega⟩, trivial⟩, ?_⟩
          show Tok.app _ (.lit (a :: r)) = t
          exact h5.symm) (by omega)
    · by_cases h6 : 4 ≤ (bst t at_).1
      · rw [cn_match (by omega) h6]
        obtain ⟨b1, b2, b3, b4⟩ := bst_pos (t := t) (at_ := at_) (by omega)
        have b5 := bst_le t at_
        have hcopy : Tok.app (t.take at_) (.mch (bst t at_).2 (bst t at_).1) = t.take (at_ + (bst t at_).1) := by
          refine copyF_take t _ _ _ (by omega) b1 b3 fun j hj => ?_
          exact (comF_is t (min 131 (t.length - at_)) (at_ - (bst t at_).2) at_).2.1 j (by unfold matF at b4; omega)
        obtain ⟨i1, i2⟩ := ih (at_ + (bst t at_).1) [] (by omega) (by omega) (by simp) (by simp) (by simp)
        simp only [List.length_nil, Nat.sub_zero] at i1 i2
        have hm : (Tok.mch (bst t at_).2 (bst t at_).1).ok := ⟨b1, b2, h6, b5.1⟩
        have hd : (Tok.mch (bst t at_).2 (bst t at_).1).dist ≤ (t.take at_).length := by simp [Tok.dist]; omega
        cases run with
        | nil =>
          simp only [flush, List.nil_append, List.length_nil, Nat.sub_zero, List.foldl_cons]
          exact ⟨⟨hd, hm, by rw [hcopy]; exact i1⟩, by rw [hcopy]; exact i2⟩
        | cons a r =>
          have hl : Tok.app (t.take (at_ - (a :: r).length)) (.lit (a :: r)) = t.take at_ := h5.symm
          simp only [flush, List.cons_append, List.nil_append, List.foldl_cons]
          refine ⟨⟨by simp [Tok.dist], ⟨by simp, by omega⟩, ?_⟩, ?_⟩
          · rw [hl]; exact ⟨hd, hm, by rw [hcopy]; exact i1⟩
          · rw [hl, hcopy]; exact i2
      · have htk : t.take (at_ + 1) = t.take (at_ - run.length) ++ (run ++ [t.getD at_ 0]) := by
          rw [take_succ_getD (by omega), h5, List.append_assoc]
        by_cases h7 : run.length + 1 = 128
        · rw [cn_full (by omega) h6 h7]
          obtain ⟨i1, i2⟩ := ih (at_ + 1) [] (by omega) (by omega) (by simp) (by simp) (by simp)
          simp only [List.length_nil, Nat.sub_zero] at i1 i2
          have hl : Tok.app (t.take (at_ - run.length)) (.lit (run ++ [t.getD at_ 0])) = t.take (at_ + 1) := htk.symm
          simp only [List.foldl_cons]
          exact ⟨⟨by simp [Tok.dist], ⟨by simp, by simp; omega⟩, by rw [hl]; exact i1⟩, by rw [hl]; exact i2⟩
        · rw [cn_lit (by omega) h6 h7]
          obtain ⟨i1, i2⟩ := ih (at_ + 1) (run ++ [t.getD at_ 0]) (by omega) (by omega) (by simp; omega) (by simp; omega) (by
            rw [show at_ + 1 - (run ++ [t.getD at_ 0]).length = at_ - run.length by simp]
            exact htk)
          rw [show at_ + 1 - (run ++ [t.getD at_ 0]).length = at_ - run.length by simp] at i1 i2
          exact ⟨i1, i2⟩
theorem cn_all (d b : List UInt8) : Fits d (cn (d ++ b) d.length []) ∧ (cn (d ++ b) d.length []).foldl Tok.app d = d ++ b := by
  have h := cn_apps (d ++ b) _ d.length [] (Nat.le_refl _) (by simp) (by simp) (by simp) (by simp)
  simp only [List.length_nil, Nat.sub_zero, List.take_left] at h
  exact h
set_option maxRecDepth 100000 in
/-- What is packed unpacks again. -/
theorem unpack_pack {dict b : List UInt8} (hd : dict.length ≤ 1048576) {most : Nat} (hm : b.length ≤ most) (hm2 : most ≤ 1048576) : unpackF dict (packF dict b) most = .ok b := by
  unfold unpackF packF
  rw [if_neg (by omega), if_neg (by omega)]
  obtain ⟨h1, h2⟩ := cn_all (reachF dict) b
  generalize cn (reachF dict ++ b) (reachF dict).length [] = L at h1 h2 ⊢
  generalize reachF dict = R at h1 h2 ⊢
  have h := (unp_fits R.length most L [] R h1).1 (by rw [h2, List.length_append]; exact Nat.add_le_add_left hm _)
  rw [h2, List.nil_append, List.drop_left] at h
  rw [Int.toNat_natCast]
  exact h
set_option maxRecDepth 100000 in
theorem unpack_short {dict b : List UInt8} (hd : dict.length ≤ 1048576) {most : Nat} (hm : most < b.length) (hm2 : most ≤ 1048576) : ∃ x, unpackF dict (packF dict b) most = .error (x, 5) := by
  unfold unpackF packF
  rw [if_neg (by omega), if_neg (by omega)]
  obtain ⟨h1, h2⟩ := cn_all (reachF dict) b
  generalize cn (reachF dict ++ b) (reachF dict).length [] = L at h1 h2 ⊢
  generalize reachF dict = R at h1 h2 ⊢
  have h := (unp_fits R.length most L [] R h1).2 (by rw [h2, List.length_append]; exact Nat.add_lt_add_left hm _) (Nat.le_add_right _ _)
  rw [List.nil_append] at h
  rw [Int.toNat_natCast]
  exact h
theorem pack_nil (dict : List UInt8) : packF dict [] = [] := by
  unfold packF
  rw [cn_end (by simp)]
  rfl
/-- The bound on the length. -/
theorem cn_bound (t : List UInt8) : ∀ (k at_ : Nat) (run : List UInt8), t.length - at_ ≤ k → at_ ≤ t.length → run.length ≤ 127 → (encs (cn t at_ run)).length ≤ run.length + (t.length - at_) + (run.length + (t.length - at_) + 127) / 128 := by
  intro k
  induction k with
  | zero =>
    intro at_ run h1 h2 h3
    rw [cn_end (by omega)]
    cases run with
    | nil => simp [flush, encs]
    | cons a r => simp [flush, encs, Tok.enc] at *; omega
  | succ k ih =>
    intro at_ run h1 h2 h3
    by_cases he : t.length ≤ at_
    · rw [cn_end (by omega)]
      cases run with
      | nil => simp [flush, encs]
      | cons a r => simp [flush, encs, Tok.enc] at *; omega
    · by_cases h6 : 4 ≤ (bst t at_).1
      · rw [cn_match (by omega) h6]
        have b5 := bst_le t at_
        have := ih (at_ + (bst t at_).1) [] (by omega) (by omega) (by simp)
        cases run with
        | nil => simp [flush, encs_cons, Tok.enc] at *; omega
        | cons a r => simp [flush, encs_cons, Tok.enc] at *; omega
      · by_cases h7 : run.length + 1 = 128
        · rw [cn_full (by omega) h6 h7]
          have := ih (at_ + 1) [] (by omega) (by omega) (by simp)
          simp [encs_cons, Tok.enc] at *; omega
        · rw [cn_lit (by omega) h6 h7]
          have := ih (at_ + 1) (run ++ [t.getD at_ 0]) (by omega) (by omega) (by simp; omega)
          simp only [List.length_append, List.length_cons, List.length_nil] at this
          omega
theorem pack_bound (dict b : List UInt8) : (packF dict b).length ≤ b.length + (b.length + 127) / 128 := by
  have h := cn_bound (reachF dict ++ b) _ (reachF dict).length [] (Nat.le_refl _) (by simp) (by simp)
  simpa [packF] using h
/-- A beginning of a token's bytes is no token. -/
theorem tok1_trunc {t : Tok} (h : t.ok) {n : Nat} (h0 : 0 < n) (hn : n < t.enc.length) : tok1 (t.enc.take n) = .error 28 := by
  cases t with
  | lit l =>
    obtain ⟨h1, h2⟩ := h
    have e1 : byt ((Tok.enc (.lit l)).take n) 0 = l.length - 1 := by
      rw [byt_take h0]
      show byt (UInt8.ofNat (l.length - 1) :: l) 0 = _
      rw [byt_cons_zero, ofNat_toNat (by omega)]
    unfold tok1
    rw [e1, if_pos (by omega), if_pos (by simp [Tok.enc] at *; omega)]
  | mch d m =>
    obtain ⟨h1, h2, h3, h4⟩ := h
    have e1 : byt ((Tok.enc (.mch d m)).take n) 0 = 124 + m := by
      rw [byt_take h0]
      show byt (UInt8.ofNat (124 + m) :: _) 0 = _
      rw [byt_cons_zero, ofNat_toNat (by omega)]
    unfold tok1
    rw [e1, if_neg (by omega), if_pos (by simp [Tok.enc] at *; omega)]
/-- A beginning of packed bytes: a beginning of the bytes, or a token that is cut. -/
theorem unp_begin (begin most : Nat) : ∀ (l : List Tok) (pre text : List UInt8) (n : Nat), Fits text l → (l.foldl Tok.app text).length ≤ begin + most →
    (∃ x, unp begin most (pre ++ (encs l).take n) pre.length text = .error (x, 28)) ∨ ∃ s, unp begin most (pre ++ (encs l).take n) pre.length text = .ok (s.drop begin) ∧ s <+: l.foldl Tok.app text := by
  intro l
  induction l with
  | nil =>
    intro pre text n hF hm
    refine .inr ⟨text, ?_, by simp⟩
    rw [unp_end (by simp [encs_nil])]
  | cons t r ih =>
    intro pre text n hF hm
    obtain ⟨h1, h2, h3⟩ := hF
    have hpos : 0 < t.enc.length := by cases t <;> simp [Tok.enc]
    have hlen := apps_len r (t.app text)
    rw [app_len] at hlen
    simp only [List.foldl_cons] at hm ⊢
    have hpre : text <+: r.foldl Tok.app (t.app text) := (app_pre text t).trans (by
      clear ih h3 hm hlen
      generalize t.app text = s
      induction r generalizing s with
      | nil => exact List.prefix_refl _
      | cons a r ih => exact (app_pre s a).trans (ih _))
    by_cases hn0 : n = 0
    · subst hn0
      refine .inr ⟨text, ?_, hpre⟩
      rw [unp_end (by simp)]
    by_cases hn : n < t.enc.length
    · refine .inl ⟨pre.length, ?_⟩
      have e : (encs (t :: r)).take n = t.enc.take n := by rw [encs_cons, List.take_append_of_le_length (by omega)]
      rw [e, unp_step (by simp; omega)]
      rw [List.drop_left, tok1_trunc h2 (by omega) hn]
    · have e : (encs (t :: r)).take n = t.enc ++ (encs r).take (n - t.enc.length) := by rw [encs_cons, List.take_append, List.take_of_length_le (by omega)]
      have hc : t.chk text.length (begin + most) = 0 := by unfold Tok.chk; rw [if_neg (by omega), if_neg (by omega)]
      have hs : unp begin most (pre ++ (encs (t :: r)).take n) pre.length text = unp begin most ((pre ++ t.enc) ++ (encs r).take (n - t.enc.length)) (pre ++ t.enc).length (t.app text) := by
        rw [unp_step (by rw [e]; simp; omega), List.drop_left, e, tok1_enc h2]
        simp only [hc, if_true]
        rw [List.append_assoc, List.length_append]
      rw [hs]
      exact ih (pre ++ t.enc) (t.app text) (n - t.enc.length) h3 hm
end Go.Proofs.Ytocohoojnjdkiaa
