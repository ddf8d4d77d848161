/-
  RECORDS, ON LISTS: a record's form; what bytes are read as.
-/
import Derived.Test.YthfhhgjjnpcmgaaFours
import Derived.Test.YthfhhgjjnpcmgaaCrcMath
namespace Go.Proofs.Ythfhhgjjnpcmgaa
set_option linter.unusedVariables false
set_option linter.unusedSimpArgs false

/-- A record's form. -/
def form (q : Int) (xs : List Int) : List Int := digs 4 xs.length ++ (digs 4 (crcOf 0 (q :: xs)) ++ (q :: xs))
theorem form_len (q : Int) (xs : List Int) : (form q xs).length = 9 + xs.length := by
  simp only [form, List.length_append, digs_len, List.length_cons]; omega
/-- What is read: the kind, the payload, how many bytes, the error. -/
structure RG where
  kind : Int
  pay : List Int
  used : Nat
  err : Int
def rget (l : List Int) : RG :=
  if l.length < 9 then ⟨0, [], 0, 2⟩
  else if 65536 < val (l.take 4) then ⟨0, [], 0, 3⟩
  else if l.length < 9 + val (l.take 4) then ⟨0, [], 0, 2⟩
  else if val ((l.drop 4).take 4) = crcOf 0 (l.getD 8 0 :: (l.drop 9).take (val (l.take 4))) then ⟨l.getD 8 0, (l.drop 9).take (val (l.take 4)), 9 + val (l.take 4), 0⟩
  else ⟨0, [], 0, 5⟩
theorem val_digs (j : Nat) : ∀ n, n < 256 ^ j → val (digs j n) = n := by
  induction j with
  | zero => intro n h; simp at h; subst h; rfl
  | succ j ih =>
    intro n h
    rw [Nat.pow_succ] at h
    rw [digs, val, ih _ (by omega)]
    simp only [Int.toNat_natCast]
    omega
theorem digs_val : ∀ (l : List Int), Bytes l → digs l.length (val l) = l := by
  intro l
  induction l with
  | nil => intro _; rfl
  | cons x r ih =>
    intro h
    have hx := h x List.mem_cons_self
    have e1 : (x.toNat + 256 * val r) % 256 = x.toNat := by omega
    have e2 : (x.toNat + 256 * val r) / 256 = val r := by omega
    rw [List.length_cons, val, digs, e1, e2, ih (fun y hy => h y (List.mem_cons_of_mem _ hy))]
    congr 1
    omega
theorem form_take (q : Int) (xs r : List Int) (k : Nat) (h : 4 ≤ k) : ((form q xs ++ r).take k).take 4 = digs 4 xs.length := by
  rw [List.take_take, Nat.min_eq_left h]
  simp only [form, List.append_assoc]
  rw [List.take_append_of_le_length (by rw [digs_len]; omega), List.take_of_length_le (by rw [digs_len]; omega)]
theorem len_pow {n : Nat} (h : n ≤ 65536) : n < 256 ^ 4 := by have : (256 : Nat) ^ 4 = 4294967296 := (by decide); omega
theorem crc_pow (q : Int) (xs : List Int) : crcOf 0 (q :: xs) < 256 ^ 4 := by have := crc_lt 0 (q :: xs); have : (256 : Nat) ^ 4 = 4294967296 := (by decide); omega
/-- A record that is whole is read. -/
theorem rget_form (q : Int) (xs r : List Int) (h : xs.length ≤ 65536) : rget (form q xs ++ r) = ⟨q, xs, 9 + xs.length, 0⟩ := by
  have hl : (form q xs ++ r).length = 9 + xs.length + r.length := by rw [List.length_append, form_len]
  have h4 : (form q xs ++ r).take 4 = digs 4 xs.length := by
    have := form_take q xs r 4 (Nat.le_refl _)
    rwa [List.take_take] at this
  have hv : val ((form q xs ++ r).take 4) = xs.length := by rw [h4, val_digs 4 _ (len_pow h)]
  have hd4 : (form q xs ++ r).drop 4 = digs 4 (crcOf 0 (q :: xs)) ++ (q :: (xs ++ r)) := by
    simp only [form, List.append_assoc]
    rw [List.drop_append_of_le_length (by rw [digs_len]; omega), List.drop_eq_nil_of_le (by rw [digs_len]; omega), List.nil_append, List.cons_append]
  have h44 : ((form q xs ++ r).drop 4).take 4 = digs 4 (crcOf 0 (q :: xs)) := by
    rw [hd4, List.take_append_of_le_length (by rw [digs_len]; omega), List.take_of_length_le (by rw [digs_len]; omega)]
  have hd8 : (form q xs ++ r).drop 8 = q :: (xs ++ r) := by
    have : (form q xs ++ r).drop 8 = ((form q xs ++ r).drop 4).drop 4 := by rw [List.drop_drop]
    rw [this, hd4, List.drop_append_of_le_length (by rw [digs_len]; omega), List.drop_eq_nil_of_le (by rw [digs_len]; omega), List.nil_append]
  have hg8 : (form q xs ++ r).getD 8 0 = q := by
    have := List.getElem?_drop (xs := form q xs ++ r) (i := 8) (j := 0)
    rw [hd8] at this
    rw [List.getD_eq_getElem?_getD, ← Nat.add_zero 8, ← this]
    rfl
  have hd9 : (form q xs ++ r).drop 9 = xs ++ r := by
    have : (form q xs ++ r).drop 9 = ((form q xs ++ r).drop 8).drop 1 := by rw [List.drop_drop]
    rw [this, hd8]
    rfl
  unfold rget
  rw [hv, hl, if_neg (by omega), if_neg (by omega), if_neg (by omega), h44, val_digs 4 _ (crc_pow q xs), hg8, hd9, List.take_append_of_le_length (Nat.le_refl _), List.take_of_length_le (Nat.le_refl _), if_pos rfl]
/-- A beginning of it isn't. -/
theorem rget_cut (q : Int) (xs r : List Int) (k : Nat) (h : xs.length ≤ 65536) (hk : k < 9 + xs.length) : (rget ((form q xs ++ r).take k)).err = 2 := by
  have hl : ((form q xs ++ r).take k).length = k := by rw [List.length_take, List.length_append, form_len]; omega
  unfold rget
  rw [hl]
  split
  · rfl
  · rw [form_take q xs r k (by omega), val_digs 4 _ (len_pow h), if_neg (by omega), if_pos (by omega)]
theorem rget_nil : (rget []).err = 2 := rfl
/-- What is read has the form of its bytes; and just that is read. -/
theorem rget_iff (l : List Int) (h : Bytes l) (h9 : ¬ l.length < 9) (hv : ¬ 65536 < val (l.take 4)) (hl : ¬ l.length < 9 + val (l.take 4)) :
    form (l.getD 8 0) ((l.drop 9).take (val (l.take 4))) = l.take (9 + val (l.take 4)) ↔ val ((l.drop 4).take 4) = crcOf 0 (l.getD 8 0 :: (l.drop 9).take (val (l.take 4))) := by
  obtain ⟨n, hn⟩ : ∃ n, n = val (l.take 4) := ⟨_, rfl⟩
  have e4 := digs_val (l.take 4) (h.take 4)
  rw [List.length_take, Nat.min_eq_left (by omega)] at e4
  have e44 := digs_val ((l.drop 4).take 4) ((h.drop 4).take 4)
  rw [List.length_take, List.length_drop, Nat.min_eq_left (by omega)] at e44
  rw [← hn] at hv hl e4 ⊢
  obtain ⟨p, hp⟩ : ∃ p, p = (l.drop 9).take n := ⟨_, rfl⟩
  have hpl : p.length = n := by rw [hp, List.length_take, List.length_drop]; omega
  have hs : l.take (9 + n) = l.take 4 ++ ((l.drop 4).take 4 ++ (l.getD 8 0 :: p)) := by
    have h8 : l.drop 8 = l.getD 8 0 :: l.drop 9 := drop_cons' l 8 (by omega)
    have a1 : l.take (9 + n) = l.take 4 ++ (l.drop 4).take (5 + n) := by
      rw [show 9 + n = 4 + (5 + n) by omega, List.take_add]
    have a2 : (l.drop 4).take (5 + n) = (l.drop 4).take 4 ++ (l.drop 8).take (1 + n) := by
      rw [show 5 + n = 4 + (1 + n) by omega, List.take_add, List.drop_drop]
    rw [a1, a2, h8, show 1 + n = n + 1 by omega, List.take_succ_cons, hp]
  rw [← hp, hs]
  unfold form
  rw [hpl, e4]
  constructor
  · intro e
    have e1 := List.append_cancel_left e
    have e2 := List.append_inj_left e1 (by rw [digs_len, List.length_take, List.length_drop]; omega)
    rw [← e2, val_digs 4 _ (crc_pow _ _)]
  · intro e
    rw [← e, e44]
theorem rget_short {l : List Int} (h : l.length < 9) : rget l = ⟨0, [], 0, 2⟩ := by unfold rget; rw [if_pos h]
theorem rget_long {l : List Int} (h : ¬ l.length < 9) (h2 : 65536 < val (l.take 4)) : rget l = ⟨0, [], 0, 3⟩ := by unfold rget; rw [if_neg h, if_pos h2]
theorem rget_end {l : List Int} (h : ¬ l.length < 9) (h2 : ¬ 65536 < val (l.take 4)) (h3 : l.length < 9 + val (l.take 4)) : rget l = ⟨0, [], 0, 2⟩ := by unfold rget; rw [if_neg h, if_neg h2, if_pos h3]
theorem rget_sum {l : List Int} (h : ¬ l.length < 9) (h2 : ¬ 65536 < val (l.take 4)) (h3 : ¬ l.length < 9 + val (l.take 4))
    (h4 : ¬ val ((l.drop 4).take 4) = crcOf 0 (l.getD 8 0 :: (l.drop 9).take (val (l.take 4)))) : rget l = ⟨0, [], 0, 5⟩ := by unfold rget; rw [if_neg h, if_neg h2, if_neg h3, if_neg h4]
theorem rget_ok {l : List Int} (h : ¬ l.length < 9) (h2 : ¬ 65536 < val (l.take 4)) (h3 : ¬ l.length < 9 + val (l.take 4))
    (h4 : val ((l.drop 4).take 4) = crcOf 0 (l.getD 8 0 :: (l.drop 9).take (val (l.take 4)))) : rget l = ⟨l.getD 8 0, (l.drop 9).take (val (l.take 4)), 9 + val (l.take 4), 0⟩ := by unfold rget; rw [if_neg h, if_neg h2, if_neg h3, if_pos h4]
theorem Byt.bytes {l : List Int} (h : Byt l) : Bytes l := fun x hx => by have := h x hx; omega
theorem Bytes.byt {l : List Int} (h : Bytes l) : Byt l := fun x hx => by have := h x hx; omega
theorem form_byt {q : Int} {xs : List Int} (hq : 0 ≤ q ∧ q < 256) (h : Byt xs) : Byt (form q xs) := by
  intro x hx
  simp only [form, List.mem_append, List.mem_cons] at hx
  rcases hx with hx | hx | rfl | hx
  · exact (digs_bytes 4 _).byt x hx
  · exact (digs_bytes 4 _).byt x hx
  · exact hq
  · exact h x hx
theorem form_inj {q r : Int} {xs ys : List Int} (hx : xs.length ≤ 65536) (hy : ys.length ≤ 65536) (h : form q xs = form r ys) : q = r ∧ xs = ys := by
  have h1 := rget_form q xs [] hx
  have h2 := rget_form r ys [] hy
  rw [h, h2] at h1
  injection h1 with a b
  exact ⟨a.symm, b.symm⟩
theorem rget_good {l : List Int} (h : (rget l).err = 0) : (rget l).used = 9 + (rget l).pay.length ∧ (rget l).used ≤ l.length := by
  by_cases h1 : l.length < 9
  · rw [rget_short h1] at h; simp at h
  · by_cases h2 : 65536 < val (l.take 4)
    · rw [rget_long h1 h2] at h; simp at h
    · by_cases h3 : l.length < 9 + val (l.take 4)
      · rw [rget_end h1 h2 h3] at h; simp at h
      · by_cases h4 : val ((l.drop 4).take 4) = crcOf 0 (l.getD 8 0 :: (l.drop 9).take (val (l.take 4)))
        · rw [rget_ok h1 h2 h3 h4]
          refine ⟨?_, by simp only; omega⟩
          simp only [List.length_take, List.length_drop]
          omega
        · rw [rget_sum h1 h2 h3 h4] at h; simp at h

/-- Records that bytes begin with, and how many bytes they have. -/
inductive Reads (bs : List Int) : List (Int × List Int) → Nat → Prop
  | nil : Reads bs [] 0
  | next {rs : List (Int × List Int)} {u : Nat} {R : RG} (h : Reads bs rs u) (hR : rget (bs.drop u) = R) (he : R.err = 0) : Reads bs (rs ++ [(R.kind, R.pay)]) (u + R.used)
theorem reads_none {bs : List Int} {u : Nat} {rs : List (Int × List Int)} (h : Reads bs rs u) (hn : rs = []) : u = 0 := by
  cases h with
  | nil => rfl
  | next h hR he => simp at hn
/-- Forms one behind the other. -/
def forms (l : List (Int × List Int)) : List Int := l.flatMap fun q => form q.1 q.2
theorem forms_nil : forms [] = [] := rfl
theorem forms_cons (q : Int × List Int) (l : List (Int × List Int)) : forms (q :: l) = form q.1 q.2 ++ forms l := by simp [forms]
theorem forms_snoc (l : List (Int × List Int)) (q : Int × List Int) : forms (l ++ [q]) = forms l ++ form q.1 q.2 := by simp [forms]
theorem forms_append (l m : List (Int × List Int)) : forms (l ++ m) = forms l ++ forms m := by simp [forms]
theorem forms_byt {l : List (Int × List Int)} (h : ∀ q ∈ l, (0 ≤ q.1 ∧ q.1 < 256) ∧ Byt q.2) : Byt (forms l) := by
  intro x hx
  obtain ⟨q, hq, hx⟩ := List.mem_flatMap.1 hx
  exact form_byt (h q hq).1 (h q hq).2 x hx
theorem forms_ge {l : List (Int × List Int)} {q : Int × List Int} (h : q ∈ l) : q.2.length ≤ (forms l).length := by
  induction l with
  | nil => simp at h
  | cons p l ih =>
    rw [forms_cons, List.length_append, form_len]
    rcases List.mem_cons.1 h with rfl | h
    · omega
    · have := ih h; omega
/-- Of forms that are cut off those are told that are whole. -/
theorem reads_cut {l : List (Int × List Int)} (hl : ∀ q ∈ l, q.2.length ≤ 65536) {k : Nat} {rs : List (Int × List Int)} {u : Nat} (h : Reads ((forms l).take k) rs u) :
    ∃ j, j ≤ l.length ∧ rs = l.take j ∧ u = (forms (l.take j)).length ∧ u ≤ k := by
  induction h with
  | nil => exact ⟨0, Nat.zero_le _, by simp, by simp [forms], Nat.zero_le _⟩
  | @next rs u R h hR he ih =>
    obtain ⟨j, hj, rfl, hu, huk⟩ := ih
    have hsp : forms l = forms (l.take j) ++ forms (l.drop j) := by rw [← forms_append, List.take_append_drop]
    have hd : ((forms l).take k).drop u = (forms (l.drop j)).take (k - u) := by
      rw [List.drop_take, hsp, hu, List.drop_append_of_le_length (Nat.le_refl _), List.drop_eq_nil_of_le (Nat.le_refl _), List.nil_append]
    rw [hd] at hR
    rcases Nat.lt_or_ge j l.length with hlt | hge
    · have hc : l.drop j = l[j] :: l.drop (j + 1) := List.drop_eq_getElem_cons hlt
      have hq := hl l[j] (List.getElem_mem hlt)
      rw [hc, forms_cons] at hR
      by_cases hw : k - u < 9 + l[j].2.length
      · have := rget_cut l[j].1 l[j].2 (forms (l.drop (j + 1))) (k - u) hq hw
        rw [hR] at this
        omega
      · rw [List.take_append, List.take_of_length_le (by rw [form_len]; omega), rget_form _ _ _ hq] at hR
        subst hR
        refine ⟨j + 1, hlt, ?_, ?_, ?_⟩
        · rw [List.take_succ_eq_append_getElem hlt]
        · rw [List.take_succ_eq_append_getElem hlt, forms_snoc, List.length_append, form_len, ← hu]
        · simp only; omega
    · rw [List.drop_eq_nil_of_le hge, forms_nil, List.take_nil] at hR
      rw [← hR] at he
      simp [rget] at he
/-- .. and no more are. -/
theorem reads_end {l : List (Int × List Int)} (hl : ∀ q ∈ l, q.2.length ≤ 65536) {k j : Nat} (hj : j ≤ l.length) (hk : (forms (l.take j)).length ≤ k)
    (he : (rget (((forms l).take k).drop (forms (l.take j)).length)).err ≠ 0) (hjl : j < l.length) : k < (forms (l.take (j + 1))).length := by
  have hsp : forms l = forms (l.take j) ++ forms (l.drop j) := by rw [← forms_append, List.take_append_drop]
  have hd : ((forms l).take k).drop (forms (l.take j)).length = (forms (l.drop j)).take (k - (forms (l.take j)).length) := by
    rw [List.drop_take, hsp, List.drop_append_of_le_length (Nat.le_refl _), List.drop_eq_nil_of_le (Nat.le_refl _), List.nil_append]
  rw [hd, List.drop_eq_getElem_cons hjl, forms_cons] at he
  have hq := hl l[j] (List.getElem_mem hjl)
  have e : (forms (l.take (j + 1))).length = (forms (l.take j)).length + (9 + l[j].2.length) := by
    rw [List.take_succ_eq_append_getElem hjl, forms_snoc, List.length_append, form_len]
  by_cases hw : k - (forms (l.take j)).length < 9 + l[j].2.length
  · omega
  · rw [List.take_append, List.take_of_length_le (by rw [form_len]; omega), rget_form _ _ _ hq] at he
    simp at he
end Go.Proofs.Ythfhhgjjnpcmgaa
