/-
  CONTRACTS OF Len, has, bit, Below, Above, Most, Name, Find.
-/
import Derived.Test.YtnbgaenajehbkaaOrA
namespace Go.Proofs.Ytnbgaenajehbkaa
set_option linter.unusedVariables false
set_option linter.unusedSimpArgs false
open Go.RowKit Go.Maps

section
variable {w : World} {X : Nat → Prop} {g : Nat} {o : Od}
theorem olen_any (h : OrdAt w X g o) : Calls Try.prog 10 #[.pointer (some ⟨g, 0, none⟩)] w fun e w' => e = .returned (.int .i64 (o.ns.length : Int)) ∧ w = w' := by
  obtain ⟨A, c, c0⟩ := h.c0
  go_enter Try.func10, Try.ntmps10
  go_wp2
  go_ret
  exact ⟨rfl, rfl⟩
theorem olen_nil (w : World) : Calls Try.prog 10 #[.pointer none] w fun e w' => e = .returned (.int .i64 0) ∧ w = w' := by
  go_enter Try.func10, Try.ntmps10
  go_wp2
  go_ret
  exact ⟨rfl, rfl⟩
/-- Whatever has so many elements. -/
def OLen (w : World) (v : Value) (n : Nat) : Prop := Calls Try.prog 10 #[v] w fun e w' => e = .returned (.int .i64 (n : Int)) ∧ w = w'
theorem ohas_len {v : Value} {n : Nat} (H : OLen w v n) (i : Int) : Calls Try.prog 20 #[v, .int .i64 i] w fun e w' => e = .returned (.bool (decide (0 ≤ i) && decide (i < (n : Int)))) ∧ w = w' := by
  have HL := Lib.hid H
  unfold OLen at HL
  clear H
  by_cases h0 : 0 ≤ i
  · have d0 : decide (0 ≤ i) = true := by simpa using h0
    go_enter Try.func20, Try.ntmps20
    go_wp2_with (first
      | (go_at_call 10; refine HL.out.mono ?_; rintro e w1 ⟨rfl, rfl⟩)
      | go_in)
    go_ret
    exact ⟨ret_bool (by simp [h0]), rfl⟩
  · have d0 : decide (0 ≤ i) = false := by simpa using h0
    go_enter Try.func20, Try.ntmps20
    go_wp2
    go_ret
    exact ⟨ret_bool (by simp [h0]), rfl⟩
theorem ohas_any (h : OrdAt w X g o) (i : Int) : Calls Try.prog 20 #[.pointer (some ⟨g, 0, none⟩), .int .i64 i] w fun e w' => e = .returned (.bool (decide (0 ≤ i) && decide (i < (o.ns.length : Int)))) ∧ w = w' := ohas_len (olen_any h) i
theorem ohas_nil (w : World) (i : Int) : Calls Try.prog 20 #[.pointer none, .int .i64 i] w fun e w' => e = .returned (.bool false) ∧ w = w' :=
  (ohas_len (n := 0) (olen_nil w) i).mono fun _ _ ⟨he, hw⟩ => ⟨he.trans (ret_bool (by by_cases h : (0 : Int) ≤ i <;> simp [h])), hw⟩
theorem opow {i : Nat} (hi : i < 64) : IntKind.u64.wrap ((2 : Int) ^ i) = ((2 ^ i : Nat) : Int) := by
  rw [IntKind.wrap_u64]
  have h1 : (2 : Nat) ^ i < 18446744073709551616 := pow_lt64 hi
  have h2 : ((2 : Int) ^ i) = ((2 ^ i : Nat) : Int) := by simp
  rw [h2]
  generalize (2 : Nat) ^ i = x at h1
  omega
theorem ret_str {a b : ByteArray} (h : a = b) : Ending.returned (.string a) = .returned (.string b) := by rw [h]
theorem ret_u64 {a b : Int} (h : a = b) : Ending.returned (.int .u64 a) = .returned (.int .u64 b) := by rw [h]
/-- 2^i, kept shut. -/
def obitN (i : Nat) : Nat := 2 ^ i
theorem obit_any (w : World) (i : Nat) (hi : i < 64) : Calls Try.prog 21 #[.int .i64 (i : Int)] w fun e w' => e = .returned (.int .u64 (obitN i : Int)) ∧ w = w' := by
  go_enter Try.func21, Try.ntmps21
  go_wp2
  go_ret
  exact ⟨ret_u64 (opow hi), rfl⟩
theorem otest {x i : Nat} (hx : x < 2 ^ 64) (hi : i < 64) : (bits .and .u64 ((x : Int) / 2 ^ i) 1 == 1) = x.testBit i := by
  have e : ((x : Int) / 2 ^ i) = ((x / 2 ^ i : Nat) : Int) := by simp
  have h1 : x / 2 ^ i < 18446744073709551616 := Nat.lt_of_le_of_lt (Nat.div_le_self _ _) hx
  have := u64_and_nat (x / 2 ^ i) 1 h1 (by decide)
  rw [e, show (1 : Int) = ((1 : Nat) : Int) from rfl, this, Nat.testBit_eq_decide_div_mod_eq, Nat.and_one_is_mod]
  by_cases h : x / 2 ^ i % 2 = 1
  · rw [h]; rfl
  · have : x / 2 ^ i % 2 = 0 := by omega
    rw [this]; rfl
/-- What Below answers. -/
def Od.low (o : Od) (i : Int) : Nat := if 0 ≤ i ∧ i < (o.ns.length : Int) then o.be i.toNat else 0
def Od.high (o : Od) (i : Int) : Nat := if 0 ≤ i ∧ i < (o.ns.length : Int) then o.ab i.toNat else 0
theorem oin_cases (i : Int) (n : Nat) : (∃ k : Nat, k < n ∧ i = (k : Int) ∧ (decide (0 ≤ i) && decide (i < (n : Int))) = true ∧ (0 ≤ i ∧ i < (n : Int))) ∨ ((decide (0 ≤ i) && decide (i < (n : Int))) = false ∧ ¬ (0 ≤ i ∧ i < (n : Int))) := by
  by_cases h : 0 ≤ i ∧ i < (n : Int)
  · exact .inl ⟨i.toNat, by omega, by omega, by simp [h.1, h.2], h⟩
  · refine .inr ⟨?_, h⟩
    rw [Bool.and_eq_false_iff]
    simp
    omega
theorem obelow_any (h : OrdAt w X g o) (i : Int) : Calls Try.prog 16 #[.pointer (some ⟨g, 0, none⟩), .int .i64 i] w fun e w' => e = .returned (.int .u64 (o.low i : Int)) ∧ w = w' := by
  have HH := Lib.hid (ohas_any h i)
  rcases oin_cases i o.ns.length with ⟨k, hk, rfl, hd, hin⟩ | ⟨hd, hin⟩
  · have hk64 : k < 64 := by have := h.wf.len; omega
    have cb := h.cb hk64
    have HR := Lib.hid (show o.low (k : Int) = o.be k by unfold Od.low; rw [if_pos hin]; rfl)
    have HD := Lib.hid hd
    clear hd hin
    go_enter Try.func16, Try.ntmps16
    go_wp2_with (first
      | (go_at_call 20; refine HH.out.mono ?_; rintro e w1 ⟨rfl, rfl⟩; rw [HD.out])
      | go_in)
    go_ret
    exact ⟨ret_u64 (by rw [HR.out]), rfl⟩
  · have HR := Lib.hid (show o.low i = 0 by unfold Od.low; rw [if_neg hin])
    have HD := Lib.hid hd
    clear hd hin
    go_enter Try.func16, Try.ntmps16
    go_wp2_with (first
      | (go_at_call 20; refine HH.out.mono ?_; rintro e w1 ⟨rfl, rfl⟩; rw [HD.out])
      | go_in)
    go_ret
    exact ⟨ret_u64 (by rw [HR.out]; rfl), rfl⟩
theorem oabove_any (h : OrdAt w X g o) (i : Int) : Calls Try.prog 17 #[.pointer (some ⟨g, 0, none⟩), .int .i64 i] w fun e w' => e = .returned (.int .u64 (o.high i : Int)) ∧ w = w' := by
  have HH := Lib.hid (ohas_any h i)
  rcases oin_cases i o.ns.length with ⟨k, hk, rfl, hd, hin⟩ | ⟨hd, hin⟩
  · have hk64 : k < 64 := by have := h.wf.len; omega
    have cb := h.ca hk64
    have HR := Lib.hid (show o.high (k : Int) = o.ab k by unfold Od.high; rw [if_pos hin]; rfl)
    have HD := Lib.hid hd
    clear hd hin
    go_enter Try.func17, Try.ntmps17
    go_wp2_with (first
      | (go_at_call 20; refine HH.out.mono ?_; rintro e w1 ⟨rfl, rfl⟩; rw [HD.out])
      | go_in)
    go_ret
    exact ⟨ret_u64 (by rw [HR.out]), rfl⟩
  · have HR := Lib.hid (show o.high i = 0 by unfold Od.high; rw [if_neg hin])
    have HD := Lib.hid hd
    clear hd hin
    go_enter Try.func17, Try.ntmps17
    go_wp2_with (first
      | (go_at_call 20; refine HH.out.mono ?_; rintro e w1 ⟨rfl, rfl⟩; rw [HD.out])
      | go_in)
    go_ret
    exact ⟨ret_u64 (by rw [HR.out]; rfl), rfl⟩
theorem obelow_nil (w : World) (i : Int) : Calls Try.prog 16 #[.pointer none, .int .i64 i] w fun e w' => e = .returned (.int .u64 0) ∧ w = w' := by
  go_enter Try.func16, Try.ntmps16
  go_wp2_with (first
    | (go_at_call 20; refine (ohas_nil _ _).mono ?_; rintro e w1 ⟨rfl, rfl⟩)
    | go_in)
  go_ret
  exact ⟨rfl, rfl⟩
theorem oabove_nil (w : World) (i : Int) : Calls Try.prog 17 #[.pointer none, .int .i64 i] w fun e w' => e = .returned (.int .u64 0) ∧ w = w' := by
  go_enter Try.func17, Try.ntmps17
  go_wp2_with (first
    | (go_at_call 20; refine (ohas_nil _ _).mono ?_; rintro e w1 ⟨rfl, rfl⟩)
    | go_in)
  go_ret
  exact ⟨rfl, rfl⟩
/-- What Most answers. -/
def Od.mostI (o : Od) (a b : Int) : Bool := (decide (0 ≤ a) && decide (a < (o.ns.length : Int))) && (o.low b).testBit a.toNat
theorem Od.mostI_nat (o : Od) (a b : Nat) : o.mostI a b = o.most a b := by
  unfold Od.mostI Od.most Od.low
  by_cases ha : a < o.ns.length
  · by_cases hb : b < o.ns.length
    · rw [if_pos (by omega)]
      simp [ha, hb]
    · rw [if_neg (by omega)]
      simp [ha, hb]
  · have : decide ((a : Int) < (o.ns.length : Int)) = false := by simp; omega
    rw [this]
    simp [ha]
theorem Od.low_lt {o : Od} (h : o.Wf) (b : Int) : o.low b < 2 ^ 64 := by
  unfold Od.low
  split
  · exact h.be _
  · decide
theorem omost_any (h : OrdAt w X g o) (a b : Int) : Calls Try.prog 11 #[.pointer (some ⟨g, 0, none⟩), .int .i64 a, .int .i64 b] w fun e w' => e = .returned (.bool (o.mostI a b)) ∧ w = w' := by
  have HH := Lib.hid (ohas_any h a)
  have HB := Lib.hid (obelow_any h b)
  have hlt := Od.low_lt h.wf b
  rcases oin_cases a o.ns.length with ⟨k, hk, rfl, hd, hin⟩ | ⟨hd, hin⟩
  · have hk64 : k < 64 := by have := h.wf.len; omega
    have HR := Lib.hid (show o.mostI (k : Int) b = (bits .and .u64 ((o.low b : Int) / 2 ^ k) 1 == 1) by rw [otest hlt hk64]; unfold Od.mostI; rw [hd]; simp)
    have HD := Lib.hid hd
    clear hd hin hlt
    go_enter Try.func11, Try.ntmps11
    go_wp2_with (first
      | (go_at_call 20; refine HH.out.mono ?_; rintro e w1 ⟨rfl, rfl⟩; rw [HD.out])
      | (go_at_call 16; refine HB.out.mono ?_; rintro e w1 ⟨rfl, rfl⟩)
      | go_in)
    go_ret
    exact ⟨ret_bool HR.out.symm, rfl⟩
  · have HR := Lib.hid (show o.mostI a b = false by unfold Od.mostI; rw [hd]; rfl)
    have HD := Lib.hid hd
    clear hd hin hlt
    go_enter Try.func11, Try.ntmps11
    go_wp2_with (first
      | (go_at_call 20; refine HH.out.mono ?_; rintro e w1 ⟨rfl, rfl⟩; rw [HD.out])
      | go_in)
    go_ret
    exact ⟨ret_bool HR.out.symm, rfl⟩
theorem omost_nil (w : World) (a b : Int) : Calls Try.prog 11 #[.pointer none, .int .i64 a, .int .i64 b] w fun e w' => e = .returned (.bool false) ∧ w = w' := by
  go_enter Try.func11, Try.ntmps11
  go_wp2_with (first
    | (go_at_call 20; refine (ohas_nil _ _).mono ?_; rintro e w1 ⟨rfl, rfl⟩)
    | go_in)
  go_ret
  exact ⟨rfl, rfl⟩
theorem oname_nil (w : World) (i : Int) : Calls Try.prog 15 #[.pointer none, .int .i64 i] w fun e w' => e = .returned (.string ⟨#[]⟩) ∧ w = w' := by
  go_enter Try.func15, Try.ntmps15
  go_wp2_with (first
    | (go_at_call 20; refine (ohas_nil _ _).mono ?_; rintro e w1 ⟨rfl, rfl⟩)
    | go_in)
  go_ret
  exact ⟨rfl, rfl⟩
def Od.name (o : Od) (i : Int) : ByteArray := if 0 ≤ i ∧ i < (o.ns.length : Int) then o.ns.getD i.toNat ⟨#[]⟩ else ⟨#[]⟩
theorem OrdAt.nm (h : OrdAt w X g o) {k : Nat} (hk : k < o.ns.length) : ∃ b off c, w.cell? ⟨g, 0, none⟩ = some (.slice (some ⟨b, off, none⟩) o.ns.length c) ∧ w.cell? ⟨b, off + k, none⟩ = some (.string (o.ns.getD k ⟨#[]⟩)) := by
  obtain ⟨v, m, hc, hr, _⟩ := h.lay
  obtain ⟨A, c, rfl, _⟩ := hr.form
  obtain ⟨b, off, u, rfl, _, hu, hcell⟩ := hr.sh.at hk
  refine ⟨b, off, c, hc.cell 0, hcell.trans ?_⟩
  rw [List.getElem?_map] at hu
  simp [hk] at hu
  simp [hk, ← hu]
theorem oname_any (h : OrdAt w X g o) (i : Int) : Calls Try.prog 15 #[.pointer (some ⟨g, 0, none⟩), .int .i64 i] w fun e w' => e = .returned (.string (o.name i)) ∧ w = w' := by
  have HH := Lib.hid (ohas_any h i)
  rcases oin_cases i o.ns.length with ⟨k, hk, rfl, hd, hin⟩ | ⟨hd, hin⟩
  · have hk64 : o.ns.length ≤ 64 := h.wf.len
    obtain ⟨b, off, c, c0, c1⟩ := h.nm hk
    have HR := Lib.hid (show o.name (k : Int) = o.ns.getD k ⟨#[]⟩ by unfold Od.name; rw [if_pos hin]; rfl)
    have HD := Lib.hid hd
    clear hd hin
    go_enter Try.func15, Try.ntmps15
    go_wp2_with (first
      | (go_at_call 20; refine HH.out.mono ?_; rintro e w1 ⟨rfl, rfl⟩; rw [HD.out])
      | go_in)
    go_ret
    exact ⟨ret_str (by rw [HR.out]; simp [hk]), rfl⟩
  · have HR := Lib.hid (show o.name i = ⟨#[]⟩ by unfold Od.name; rw [if_neg hin])
    have HD := Lib.hid hd
    clear hd hin
    go_enter Try.func15, Try.ntmps15
    go_wp2_with (first
      | (go_at_call 20; refine HH.out.mono ?_; rintro e w1 ⟨rfl, rfl⟩; rw [HD.out])
      | go_in)
    go_ret
    exact ⟨ret_str HR.out.symm, rfl⟩
theorem ofind_nil (w : World) (s : ByteArray) : Calls Try.prog 14 #[.pointer none, .string s] w fun e w' => e = .returned (.tuple #[.int .i64 0, .bool false]) ∧ w = w' := by
  go_enter Try.func14, Try.ntmps14
  go_wp2
  go_ret2
  exact ⟨rfl, rfl⟩
theorem OrdAt.c1 (h : OrdAt w X g o) : ∃ m, w.cell? ⟨g, 1, none⟩ = some (.map (some m)) ∧ NumAt w m o.ns := by
  obtain ⟨v, m, hc, hr, hm, _⟩ := h.lay
  exact ⟨m, hc.cell 1, hm⟩
theorem ofind_any (h : OrdAt w X g o) (s : ByteArray) (hs : s.size ≤ maxLen) : Calls Try.prog 14 #[.pointer (some ⟨g, 0, none⟩), .string s] w fun e w' => e = .returned (.tuple #[.int .i64 (o.num s : Int), .bool (opos o.ns s).isSome]) ∧ w = w' := by
  obtain ⟨m, c1, hm⟩ := h.c1
  have hl := hm.looks hs
  unfold Od.num
  go_enter Try.func14, Try.ntmps14
  go_wp2
  go_ret2
  exact ⟨rfl, rfl⟩
end
end Go.Proofs.Ytnbgaenajehbkaa
