/-
  CONTRACTS OF Len, has, bit, Below, Above, Most, Name, Find.
  CONTRACT OF know: a name that is new gets the next number.
-/
import Derived.Test.YthdfoahnkkkbmaaOrA
import Derived.BigRegion
import Derived.Deep.RegionWith
namespace Go.Proofs.Ythdfoahnkkkbmaa
set_option linter.unusedVariables false
set_option linter.unusedSimpArgs false
open Go.RowKit Go.Maps

section
variable {w : World} {X : Nat → Prop} {g : Nat} {o : Od}
theorem olen_any (h : OrdAt w X g o) : Calls Try.prog 12 #[.pointer (some ⟨g, 0, none⟩)] w fun e w' => e = .returned (.int .i64 (o.ns.length : Int)) ∧ w = w' := by
  obtain ⟨A, c, c0⟩ := h.c0
  go_enter Try.func12, Try.ntmps12
  go_wp2
  go_ret
  exact ⟨rfl, rfl⟩
theorem olen_nil (w : World) : Calls Try.prog 12 #[.pointer none] w fun e w' => e = .returned (.int .i64 0) ∧ w = w' := by
  go_enter Try.func12, Try.ntmps12
  go_wp2
  go_ret
  exact ⟨rfl, rfl⟩
/-- Whatever has so many elements. -/
def OLen (w : World) (v : Value) (n : Nat) : Prop := Calls Try.prog 12 #[v] w fun e w' => e = .returned (.int .i64 (n : Int)) ∧ w = w'
theorem ohas_len {v : Value} {n : Nat} (H : OLen w v n) (i : Int) : Calls Try.prog 36 #[v, .int .i64 i] w fun e w' => e = .returned (.bool (decide (0 ≤ i) && decide (i < (n : Int)))) ∧ w = w' := by
  have HL := Lib.hid H
  unfold OLen at HL
  clear H
  by_cases h0 : 0 ≤ i
  · have d0 : decide (0 ≤ i) = true := by simpa using h0
    go_enter Try.func36, Try.ntmps36
    go_wp2_with (first
      | (go_at_call 12; refine HL.out.mono ?_; rintro e w1 ⟨rfl, rfl⟩)
      | go_in)
    go_ret
    exact ⟨ret_bool (by simp [h0]), rfl⟩
  · have d0 : decide (0 ≤ i) = false := by simpa using h0
    go_enter Try.func36, Try.ntmps36
    go_wp2
    go_ret
    exact ⟨ret_bool (by simp [h0]), rfl⟩
theorem ohas_any (h : OrdAt w X g o) (i : Int) : Calls Try.prog 36 #[.pointer (some ⟨g, 0, none⟩), .int .i64 i] w fun e w' => e = .returned (.bool (decide (0 ≤ i) && decide (i < (o.ns.length : Int)))) ∧ w = w' := ohas_len (olen_any h) i
theorem ohas_nil (w : World) (i : Int) : Calls Try.prog 36 #[.pointer none, .int .i64 i] w fun e w' => e = .returned (.bool false) ∧ w = w' :=
  (ohas_len (n := 0) (olen_nil w) i).mono fun _ _ ⟨he, hw⟩ => ⟨he.trans (ret_bool (by by_cases h : (0 : Int) ≤ i <;> simp [h])), hw⟩
theorem opow {i : Nat} (hi : i < 64) : IntKind.u64.wrap ((2 : Int) ^ i) = ((2 ^ i : Nat) : Int) := by
  rw [IntKind.wrap_u64]
  have h1 : (2 : Nat) ^ i < 18446744073709551616 := pow_lt64 hi
  have h2 : ((2 : Int) ^ i) = ((2 ^ i : Nat) : Int) := by simp
  rw [h2]
  generalize (2 : Nat) ^ i = x at h1
  omega
theorem ret_str {a b : ByteArray} (h : a = b) : Ending.returned (.string a) = .returned (.string b) := by rw [h]
theorem ret_u64 {a b : Int} (h : a = b) : Ending.returned (.int .u64 a) = .returned (.int .u64 b) := by rw [h]
/-- 2^i, kept shut. -/
def obitN (i : Nat) : Nat := 2 ^ i
theorem obit_any (w : World) (i : Nat) (hi : i < 64) : Calls Try.prog 52 #[.int .i64 (i : Int)] w fun e w' => e = .returned (.int .u64 (obitN i : Int)) ∧ w = w' := by
  go_enter Try.func52, Try.ntmps52
  go_wp2
  go_ret
  exact ⟨ret_u64 (opow hi), rfl⟩
theorem otest {x i : Nat} (hx : x < 2 ^ 64) (hi : i < 64) : (bits .and .u64 ((x : Int) / 2 ^ i) 1 == 1) = x.testBit i := by
  have e : ((x : Int) / 2 ^ i) = ((x / 2 ^ i : Nat) : Int) := by simp
  have h1 : x / 2 ^ i < 18446744073709551616 := Nat.lt_of_le_of_lt (Nat.div_le_self _ _) hx
  have := u64_and_nat (x / 2 ^ i) 1 h1 (by decide)
  rw [e, show (1 : Int) = ((1 : Nat) : Int) from rfl, this, Nat.testBit_eq_decide_div_mod_eq, Nat.and_one_is_mod]
  by_cases h : x / 2 ^ i % 2 = 1
  · rw [h]; rfl
  · have : x / 2 ^ i % 2 = 0 := by omega
    rw [this]; rfl
/-- What Below answers. -/
def Od.low (o : Od) (i : Int) : Nat := if 0 ≤ i ∧ i < (o.ns.length : Int) then o.be i.toNat else 0
def Od.high (o : Od) (i : Int) : Nat := if 0 ≤ i ∧ i < (o.ns.length : Int) then o.ab i.toNat else 0
theorem oin_cases (i : Int) (n : Nat) : (∃ k : Nat, k < n ∧ i = (k : Int) ∧ (decide (0 ≤ i) && decide (i < (n : Int))) = true ∧ (0 ≤ i ∧ i < (n : Int))) ∨ ((decide (0 ≤ i) && decide (i < (n : Int))) = false ∧ ¬ (0 ≤ i ∧ i < (n : Int))) := by
  by_cases h : 0 ≤ i ∧ i < (n : Int)
  · exact .inl ⟨i.toNat, by omega, by omega, by simp [h.1, h.2], h⟩
  · refine .inr ⟨?_, h⟩
    rw [Bool.and_eq_false_iff]
    simp
    omega
theorem obelow_any (h : OrdAt w X g o) (i : Int) : Calls Try.prog 35 #[.pointer (some ⟨g, 0, none⟩), .int .i64 i] w fun e w' => e = .returned (.int .u64 (o.low i : Int)) ∧ w = w' := by
  have HH := Lib.hid (ohas_any h i)
  rcases oin_cases i o.ns.length with ⟨k, hk, rfl, hd, hin⟩ | ⟨hd, hin⟩
  · have hk64 : k < 64 := by have := h.wf.len; omega
    have cb := h.cb hk64
    have HR := Lib.hid (show o.low (k : Int) = o.be k by unfold Od.low; rw [if_pos hin]; rfl)
    have HD := Lib.hid hd
    clear hd hin
    go_enter Try.func35, Try.ntmps35
    go_wp2_with (first
      | (go_at_call 36; refine HH.out.mono ?_; rintro e w1 ⟨rfl, rfl⟩; rw [HD.out])
      | go_in)
    go_ret
    exact ⟨ret_u64 (by rw [HR.out]), rfl⟩
  · have HR := Lib.hid (show o.low i = 0 by unfold Od.low; rw [if_neg hin])
    have HD := Lib.hid hd
    clear hd hin
    go_enter Try.func35, Try.ntmps35
    go_wp2_with (first
      | (go_at_call 36; refine HH.out.mono ?_; rintro e w1 ⟨rfl, rfl⟩; rw [HD.out])
      | go_in)
    go_ret
    exact ⟨ret_u64 (by rw [HR.out]; rfl), rfl⟩
theorem oabove_any (h : OrdAt w X g o) (i : Int) : Calls Try.prog 63 #[.pointer (some ⟨g, 0, none⟩), .int .i64 i] w fun e w' => e = .returned (.int .u64 (o.high i : Int)) ∧ w = w' := by
  have HH := Lib.hid (ohas_any h i)
  rcases oin_cases i o.ns.length with ⟨k, hk, rfl, hd, hin⟩ | ⟨hd, hin⟩
  · have hk64 : k < 64 := by have := h.wf.len; omega
    have cb := h.ca hk64
    have HR := Lib.hid (show o.high (k : Int) = o.ab k by unfold Od.high; rw [if_pos hin]; rfl)
    have HD := Lib.hid hd
    clear hd hin
    go_enter Try.func63, Try.ntmps63
    go_wp2_with (first
      | (go_at_call 36; refine HH.out.mono ?_; rintro e w1 ⟨rfl, rfl⟩; rw [HD.out])
      | go_in)
    go_ret
    exact ⟨ret_u64 (by rw [HR.out]), rfl⟩
  · have HR := Lib.hid (show o.high i = 0 by unfold Od.high; rw [if_neg hin])
    have HD := Lib.hid hd
    clear hd hin
    go_enter Try.func63, Try.ntmps63
    go_wp2_with (first
      | (go_at_call 36; refine HH.out.mono ?_; rintro e w1 ⟨rfl, rfl⟩; rw [HD.out])
      | go_in)
    go_ret
    exact ⟨ret_u64 (by rw [HR.out]; rfl), rfl⟩
theorem obelow_nil (w : World) (i : Int) : Calls Try.prog 35 #[.pointer none, .int .i64 i] w fun e w' => e = .returned (.int .u64 0) ∧ w = w' := by
  go_enter Try.func35, Try.ntmps35
  go_wp2_with (first
    | (go_at_call 36; refine (ohas_nil _ _).mono ?_; rintro e w1 ⟨rfl, rfl⟩)
    | go_in)
  go_ret
  exact ⟨rfl, rfl⟩
theorem oabove_nil (w : World) (i : Int) : Calls Try.prog 63 #[.pointer none, .int .i64 i] w fun e w' => e = .returned (.int .u64 0) ∧ w = w' := by
  go_enter Try.func63, Try.ntmps63
  go_wp2_with (first
    | (go_at_call 36; refine (ohas_nil _ _).mono ?_; rintro e w1 ⟨rfl, rfl⟩)
    | go_in)
  go_ret
  exact ⟨rfl, rfl⟩
/-- What Most answers. -/
def Od.mostI (o : Od) (a b : Int) : Bool := (decide (0 ≤ a) && decide (a < (o.ns.length : Int))) && (o.low b).testBit a.toNat
theorem Od.mostI_nat (o : Od) (a b : Nat) : o.mostI a b = o.most a b := by
  unfold Od.mostI Od.most Od.low
  by_cases ha : a < o.ns.length
  · by_cases hb : b < o.ns.length
    · rw [if_pos (by omega)]
      simp [ha, hb]
    · rw [if_neg (by omega)]
      simp [ha, hb]
  · have : decide ((a : Int) < (o.ns.length : Int)) = false := by simp; omega
    rw [this]
    simp [ha]
theorem Od.low_lt {o : Od} (h : o.Wf) (b : Int) : o.low b < 2 ^ 64 := by
  unfold Od.low
  split
  · exact h.be _
  · decide
theorem omost_any (h : OrdAt w X g o) (a b : Int) : Calls Try.prog 13 #[.pointer (some ⟨g, 0, none⟩), .int .i64 a, .int .i64 b] w fun e w' => e = .returned (.bool (o.mostI a b)) ∧ w = w' := by
  have HH := Lib.hid (ohas_any h a)
  have HB := Lib.hid (obelow_any h b)
  have hlt := Od.low_lt h.wf b
  rcases oin_cases a o.ns.length with ⟨k, hk, rfl, hd, hin⟩ | ⟨hd, hin⟩
  · have hk64 : k < 64 := by have := h.wf.len; omega
    have HR := Lib.hid (show o.mostI (k : Int) b = (bits .and .u64 ((o.low b : Int) / 2 ^ k) 1 == 1) by rw [otest hlt hk64]; unfold Od.mostI; rw [hd]; simp)
    have HD := Lib.hid hd
    clear hd hin hlt
    go_enter Try.func13, Try.ntmps13
    go_wp2_with (first
      | (go_at_call 36; refine HH.out.mono ?_; rintro e w1 ⟨rfl, rfl⟩; rw [HD.out])
      | (go_at_call 35; refine HB.out.mono ?_; rintro e w1 ⟨rfl, rfl⟩)
      | go_in)
    go_ret
    exact ⟨ret_bool HR.out.symm, rfl⟩
  · have HR := Lib.hid (show o.mostI a b = false by unfold Od.mostI; rw [hd]; rfl)
    have HD := Lib.hid hd
    clear hd hin hlt
    go_enter Try.func13, Try.ntmps13
    go_wp2_with (first
      | (go_at_call 36; refine HH.out.mono ?_; rintro e w1 ⟨rfl, rfl⟩; rw [HD.out])
      | go_in)
    go_ret
    exact ⟨ret_bool HR.out.symm, rfl⟩
theorem omost_nil (w : World) (a b : Int) : Calls Try.prog 13 #[.pointer none, .int .i64 a, .int .i64 b] w fun e w' => e = .returned (.bool false) ∧ w = w' := by
  go_enter Try.func13, Try.ntmps13
  go_wp2_with (first
    | (go_at_call 36; refine (ohas_nil _ _).mono ?_; rintro e w1 ⟨rfl, rfl⟩)
    | go_in)
  go_ret
  exact ⟨rfl, rfl⟩
def Od.name (o : Od) (i : Int) : ByteArray := if 0 ≤ i ∧ i < (o.ns.length : Int) then o.ns.getD i.toNat ⟨#[]⟩ else ⟨#[]⟩
theorem OrdAt.nm (h : OrdAt w X g o) {k : Nat} (hk : k < o.ns.length) : ∃ b off c, w.cell? ⟨g, 0, none⟩ = some (.slice (some ⟨b, off, none⟩) o.ns.length c) ∧ w.cell? ⟨b, off + k, none⟩ = some (.string (o.ns.getD k ⟨#[]⟩)) := by
  obtain ⟨v, m, hc, hr, _⟩ := h.lay
  obtain ⟨A, c, rfl, _⟩ := hr.form
  obtain ⟨b, off, u, rfl, _, hu, hcell⟩ := hr.sh.at hk
  refine ⟨b, off, c, hc.cell 0, hcell.trans ?_⟩
  rw [List.getElem?_map] at hu
  simp [hk] at hu
  simp [hk, ← hu]
theorem OrdAt.c1 (h : OrdAt w X g o) : ∃ m, w.cell? ⟨g, 1, none⟩ = some (.map (some m)) ∧ NumAt w m o.ns := by
  obtain ⟨v, m, hc, hr, hm, _⟩ := h.lay
  exact ⟨m, hc.cell 1, hm⟩
end
end Go.Proofs.Ythdfoahnkkkbmaa
namespace Go.Proofs.Ythdfoahnkkkbmaa
set_option linter.unusedVariables false
set_option linter.unusedSimpArgs false
open Go.RowKit Go.Maps

theorem rowS : RowT Try.prog 56 9 1 16 := RowT.mk (z := .string ⟨#[]⟩) Try.underlying56 (by kernel_rfl) rfl (by omega)
theorem bytes_inj {s t : ByteArray} (h : s.data.toList = t.data.toList) : s = t := by
  apply ByteArray.ext
  apply Array.ext'
  exact h
section
variable {ops : Array Oper} {rest : List Oper} {o : Oper} {a : Act} {Q : Exit → Act → World → Prop}
/-- 'm[name] = number', the name new, the number the next one. -/
theorem wpList_num (w : World) (hg : o.guard = none) (m x v : Operand) (hop : o.op = Op.mapUpdate 61 m x v) {b : Nat} {l : List ByteArray} (hm : a.eval m = .map (some b)) (h : NumAt w b l) (hn : l.length ≤ 64) {s : ByteArray} (hx : a.eval x = .string s) (hs : s.size ≤ maxLen)
    (hnew : s ∉ l) (hv : a.eval v = .int .i64 (l.length : Int))
    (hK : ∀ w', NumAt w' b (l ++ [s]) → w.grownBy w' (some b) → wpList Try.prog ops Q rest (a.put o.dst undef) w') : wpList Try.prog ops Q (o :: rest) a w := by
  obtain ⟨N, hN, hR, hl, hat⟩ := h
  refine wpList_mapUpdate_own w hg m x v 61 hop 9 3 strLaw underlyingSI intElem b N.length (toD N) hm hN (by unfold maxLen; omega) (.string s) (.int .i64 (l.length : Int)) _ hx hv (keyStr hs) _ [] rfl
    fun w' h1 h2 => hK w' ?_ h2
  rw [toD_put] at h1
  have hle := len_nput_le s.data.toList l.length N
  refine ⟨nput s.data.toList l.length N, ?_, hR.put _ _, by simp; omega, fun t => ?_⟩
  · obtain ⟨es, clock, hb, F, hs', hD⟩ := h1
    refine ⟨es, clock, hb, F, ?_, hD⟩
    have := congrArg Maps.size hD
    rw [toD_size] at this
    rw [this]
    simp [Maps.size, length_sorted]
  · rw [opos_app hnew]
    by_cases e : t = s
    · subst e
      rw [if_pos rfl]
      exact nat?_put_same hR
    · rw [if_neg e, nat?_put_other hR (fun h => e (bytes_inj h))]
      exact hat t
end

section
variable {w : World} {X : Nat → Prop} {g : Nat} {o : Od}
/-- What comes of a call that may turn the order. -/
def OrTo (w : World) (X : Nat → Prop) (g : Nat) (o' : Od) (w' : World) : Prop := OrdAt w' X g o' ∧ Keeps X w w'
theorem OrTo.refl (h : OrdAt w X g o) : OrTo w X g o w := ⟨h, Keeps.refl X w⟩
/-- The pieces behind the append. -/
theorem know_push (h : OrdAt w X g o) {v : Value} {m : Nat} (hc : Blk w g 65 (ocells v m o.be o.ab)) (hr : Row w X 9 v o.ns.length (o.ns.map Value.string)) (hm : NumAt w m o.ns) (hx : ¬ X m) (s : ByteArray) {v2 : Value} {w2 : World}
    (hr2 : Row w2 X 9 v2 (o.ns.length + 1) (o.ns.map Value.string ++ [.string s])) (hg2 : (w.alloc (.cells #[.string s] 9)).grownBy w2 v.ownBlock) (hl : v2.ownBlock = v.ownBlock ∨ v2.ownBlock = some (w.heap.size + 1)) :
    Blk w2 g 65 (ocells v m o.be o.ab) ∧ NumAt (w2.setCell ⟨g, 0, none⟩ v2) m o.ns ∧
    (∀ w3, (w2.setCell ⟨g, 0, none⟩ v2).grownBy w3 (some m) → NumAt w3 m (o.ns ++ [s]) → Blk w3 g 65 (ocells v2 m o.be o.ab) ∧ Row w3 X 9 v2 (o.ns ++ [s]).length ((o.ns ++ [s]).map Value.string) ∧ Keeps X w w3) := by
  have ha : (w.alloc (.cells #[.string s] 9)).grownBy w2 v.ownBlock := hg2
  have B0 : Below w.heap.size w (w.alloc (.cells #[.string s] 9)) := (Below.refl _ _).alloc (Nat.le_refl _) _
  have hc1 : Blk (w.alloc (.cells #[.string s] 9)) g 65 (ocells v m o.be o.ab) := hc.stay (B0.block _ hc.lt)
  have hm1 : NumAt (w.alloc (.cells #[.string s] 9)) m o.ns := hm.stay (B0.block _ hm.lt)
  have hc2 := hc1.keep ha (fun e => hr.ne_blk hc (by decide) e)
  have hm2 := hm1.keep ha (fun e => hm.ne_row hr.1 e)
  have gm : m ≠ g := hm.ne_blk hc
  have hm3 : NumAt (w2.setCell ⟨g, 0, none⟩ v2) m o.ns := hm2.keep (grown_set w2 g 0 v2) (fun e => gm (by injection e with e; exact e.symm))
  have rg : v2.ownBlock ≠ some g := hr2.ne_blk hc2 (by decide)
  have rm : v2.ownBlock ≠ some m := hm2.ne_row hr2.1
  refine ⟨hc2, hm3, fun w3 hg3 hn3 => ⟨?_, ?_, ?_⟩⟩
  · have := hc2.set 0 v2
    rw [ocells_setn] at this
    exact this.keep hg3 (fun e => gm (by injection e))
  · refine ((hr2.cast (by simp) (by simp)).stay (w' := w3) fun j hj => ?_)
    have hlt := hr2.lt hj
    have e1 := (grown_set w2 g 0 v2).block j hlt (fun e => rg (by rw [hj, e]))
    have e2 := hg3.block j (by simpa using hlt) (fun e => rm (by rw [hj, e]))
    exact e2.trans e1
  · have K1 : Keeps X w w2 := by
      have := (Keeps.refl X w).grown (row := none) (grown_of_below B0 none) h.old (fun k hk => by cases hk)
      exact this.grown ha (fun k hk => Nat.lt_of_lt_of_le (h.old k hk) B0.size) (fun k hk => hr.2 k hk)
    have o2 : ∀ k, X k → k < w2.heap.size := fun k hk => Nat.lt_of_lt_of_le (h.old k hk) K1.size
    exact (K1.grown (grown_set w2 g 0 v2) o2 (fun k hk => by cases hk; exact h.gX)).grown hg3 (fun k hk => by simpa using o2 k hk) (fun k hk => by cases hk; exact hx)

set_option maxRecDepth 100000 in
set_option maxHeartbeats 1600000 in
theorem know_any (h : OrdAt w X g o) (s : ByteArray) (hs : s.size ≤ maxLen) :
    Calls Try.prog 51 #[.pointer (some ⟨g, 0, none⟩), .string s] w fun e w' => e = .returned (.bool (o.know s).2) ∧ OrTo w X g (o.know s).1 w' := by
  have HO := Lib.hid h
  have hl64 : o.ns.length ≤ 64 := h.wf.len
  have hold := h.old
  obtain ⟨v, m, hc, hr, hm, hx⟩ := h.lay
  have hlk := hm.looks hs
  have cm : w.cell? ⟨g, 1, none⟩ = some (.map (some m)) := hc.cell 1
  have wf := Lib.hid (h.wf.know s)
  by_cases hin : s ∈ o.ns
  · obtain ⟨i, hi⟩ := opos_mem hin
    rw [hi] at hlk
    simp only [Option.isSome_some] at hlk
    have HK := Lib.hid (Od.know_old hin)
    clear h hc hr hm hx hold hi hin
    go_enter Try.func51, Try.ntmps51
    go_wp2
    go_ret
    rw [HK.out]
    exact ⟨rfl, OrTo.refl HO.out⟩
  · rw [opos_none.2 hin] at hlk
    simp only [Option.isSome_none, Option.getD_none] at hlk
    have c0 : w.cell? ⟨g, 0, none⟩ = some v := hc.cell 0
    by_cases hf : o.ns.length = 64
    · have HK := Lib.hid (Od.know_full hin hf)
      obtain ⟨A, c, rfl, _⟩ := hr.form
      have h64 : ((o.ns.length : Int) == 64) = true := by simp; omega
      clear h hc hr hm hx hold hin hf
      go_enter Try.func51, Try.ntmps51
      go_wp2
      go_ret
      rw [HK.out]
      exact ⟨rfl, OrTo.refl HO.out⟩
    · have HK := Lib.hid (Od.know_new hin hf)
      have HP := Lib.hid (fun (v2 : Value) (w2 : World) => know_push h hc hr hm hx s (v2 := v2) (w2 := w2))
      have HX := Lib.hid hx
      obtain ⟨A, c, rfl, _⟩ := hr.form
      have h64 : ((o.ns.length : Int) == 64) = false := by simp; omega
      have hlt : o.ns.length < 64 := by omega
      have hgX := h.gX
      have hsz := Lib.hid h.sz
      have HB := Lib.hid hc
      clear h hc hm hx hf
      go_enter Try.func51, Try.ntmps51
      go_wp2_with (first
        | (at_builtin; refine wpList_rowpush rfl (.tmp 29) (.tmp 31) 56 rfl rowS w X _ _ _ _ rfl hr rfl rfl hold (by omega) (by omega) ?_; intro v2 w2 hrow2 hg2 hl2; obtain ⟨A2, cc2, rfl, _, _⟩ := hrow2.form; obtain ⟨B2, M2, P2⟩ := HP.out _ w2 hrow2 hg2 hl2; have k0 : w2.cell? ⟨g, 0, none⟩ = some (.slice A o.ns.length c) := B2.cell 0; have f0 := B2.nf 0; have k1 : (w2.setCell ⟨g, 0, none⟩ (.slice A2 (o.ns.length + 1) cc2)).cell? ⟨g, 1, none⟩ = some (.map (some m)) := ((B2.set 0 (.slice A2 (o.ns.length + 1) cc2)).cell 1); have P2 := Lib.hid P2; clear hg2 hl2 B2)
        | (at_mapUpdate; refine wpList_num _ rfl _ _ _ rfl rfl M2 hl64 rfl hs hin rfl ?_; intro w3 hN3 hg3; obtain ⟨B3, R3, K3⟩ := P2.out w3 hg3 hN3; have hN3 := Lib.hid hN3; clear hg3)
        | go_in)
      have b3 : w3.cell? ⟨g, 2 + o.ns.length, none⟩ = some (.int .u64 (o.be o.ns.length : Int)) := by rw [B3.cell, ocells_be hlt]
      have a3 : w3.cell? ⟨g, 66 + o.ns.length, none⟩ = some (.int .u64 (o.ab o.ns.length : Int)) := by rw [B3.cell, ocells_ab hlt]
      have fb3 := B3.nf (2 + o.ns.length)
      have fa3 := B3.nf (66 + o.ns.length)
      have HB3 := Lib.hid B3
      have HR3 := Lib.hid R3
      have HK3 := Lib.hid K3
      clear B3 R3 K3 M2 k0 f0 k1 hrow2 P2 HP hr
      go_region_with (first
        | (go_at_call 52; refine (obit_any _ _ hlt).mono ?_; rintro e w1 ⟨rfl, rfl⟩)
        | fail)
      all_goals
        go_wp2
        go_ret
        rw [HK.out]
        have HW := wf.out
        rw [HK.out] at HW
        have hb5 := (HB3.out.set (2 + o.ns.length) (.int .u64 (obitN o.ns.length : Int))).set (66 + o.ns.length) (.int .u64 (obitN o.ns.length : Int))
        rw [ocells_setb hlt, ocells_seta hlt] at hb5
        have g0 := grown_trans (grown_set w3 g (2 + o.ns.length) (.int .u64 (obitN o.ns.length : Int))) (grown_set _ g (66 + o.ns.length) (.int .u64 (obitN o.ns.length : Int)))
        have g1 := grown_trans g0 (Quiet.grown (⟨1, rfl⟩ : Quiet _ (World.drew _)) (some g))
        have hng : (Value.slice A2 (o.ns.length + 1) cc2).ownBlock ≠ some g := HR3.out.ne_blk HB3.out (by decide)
        refine ⟨rfl, ⟨hgX, fun b hb => ?_, ⟨_, m, hb5, ?_, hN3.out.keep g1 (fun e => hN3.out.ne_blk HB3.out (by injection e with e; exact e.symm)), HX.out⟩, HW, fun t ht => ?_⟩, ?_⟩
        · have := HK3.out.size
          have := hold b hb
          simp
          omega
        · exact HR3.out.stay fun j hj => g1.block j (HR3.out.lt hj) (fun e => hng (by rw [hj, e]))
        · rcases List.mem_append.1 ht with ht | ht
          · exact hsz.out t ht
          · rw [List.mem_singleton.1 ht]; exact hs
        · exact (HK3.out.grown g1 (fun b hb => Nat.lt_of_lt_of_le (hold b hb) HK3.out.size) (fun k hk => by cases hk; exact hgX))
end
end Go.Proofs.Ythdfoahnkkkbmaa
