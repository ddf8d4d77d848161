/-
  THE PROGRAM'S IRREDUCIBLES in memory; contracts of what only reads them.
  CONTRACTS OF Down, Of, Apart of the program's irreducibles; the mathematics behind.
  WORDS FOR irred.New: the lattice while blocks of one's own turn; the irreducibles while they are made; most, elements.
  CONTRACTS OF irreducible, add, New of the program's irreducibles: all that the laws ask.
-/
import Derived.Test.YtnhdpegjkkaabaaIrE
namespace Go.Proofs.Ytnhdpegjkkaabaa
set_option linter.unusedVariables false
set_option linter.unusedSimpArgs false
open Go.RowKit Go.Maps

def u64s (n : Nat) (f : Nat → Nat) : List Value := (List.range n).map fun a => Value.int .u64 (f a : Int)
theorem u64s_len (n : Nat) (f : Nat → Nat) : (u64s n f).length = n := by simp [u64s]
theorem u64s_at {n : Nat} {f : Nat → Nat} {k : Nat} {u : Value} (h : (u64s n f)[k]? = some u) : k < n ∧ u = .int .u64 (f k : Int) := by
  have hk : k < n := by
    rcases Nat.lt_or_ge k n with e | e
    · exact e
    · rw [List.getElem?_eq_none (by rw [u64s_len]; exact e)] at h; cases h
  refine ⟨hk, ?_⟩
  unfold u64s at h
  rw [List.getElem?_map, List.getElem?_range hk] at h
  cases h; rfl
theorem ints_at {l : List Nat} {k : Nat} {u : Value} (h : (ints l)[k]? = some u) : k < l.length ∧ u = .int .i64 (l.getD k 0 : Int) := by
  have hk : k < l.length := by
    rcases Nat.lt_or_ge k l.length with e | e
    · exact e
    · rw [List.getElem?_eq_none (by rw [ints_len]; exact e)] at h; cases h
  refine ⟨hk, ?_⟩
  unfold ints at h
  rw [List.getElem?_map, List.getElem?_eq_getElem hk] at h
  cases h
  rw [List.getD_eq_getElem?_getD, List.getElem?_eq_getElem hk]
  rfl
/-- The irreducibles E, and each element's set, in blocks of D. -/
def IrAt (w : World) (D : Nat → Prop) (g n : Nat) (E : List Nat) (f : Nat → Nat) : Prop :=
  D g ∧ ∃ ve vs, Blk w g 72 [ve, vs] ∧ Row w (fun b => ¬ D b) 3 ve E.length (ints E) ∧ Row w (fun b => ¬ D b) 40 vs n (u64s n f)
section
variable {w w' : World} {D N : Nat → Prop} {g n : Nat} {E : List Nat} {f : Nat → Nat}
theorem Row.trn {t : TypeId} {v : Value} {m : Nat} {xs : List Value} (h : Row w (fun b => ¬ D b) t v m xs) (t' : Trn N w w') (hN : ∀ k, N k → ¬ D k) : Row w' (fun b => ¬ D b) t v m xs :=
  h.stay fun j hj => t'.block j (h.lt hj) fun e => h.2 j hj (hN j e)
theorem IrAt.trn (h : IrAt w D g n E f) (t : Trn N w w') (hN : ∀ k, N k → ¬ D k) : IrAt w' D g n E f := by
  obtain ⟨hD, ve, vs, hb, h1, h2⟩ := h
  exact ⟨hD, ve, vs, hb.stay (t.block g hb.lt fun e => hN g e hD), h1.trn t hN, h2.trn t hN⟩
theorem IrAt.quiet (h : IrAt w D g n E f) (q : Quiet w w') : IrAt w' D g n E f := h.trn (N := fun _ => False) (.of_below (q.below _)) fun _ h => h.elim
/-- The cells of both rows. -/
structure IrL (w : World) (g n : Nat) (E : List Nat) (f : Nat → Nat) : Prop where
  es : ∃ A c, w.cell? ⟨g, 0, none⟩ = some (.slice A E.length c) ∧ Sh w w.heap.size A E.length (ints E)
  ss : ∃ A c, w.cell? ⟨g, 1, none⟩ = some (.slice A n c) ∧ Sh w w.heap.size A n (u64s n f)
theorem IrAt.look (h : IrAt w D g n E f) : IrL w g n E f := by
  obtain ⟨hD, ve, vs, hb, h1, h2⟩ := h
  obtain ⟨A, c, rfl, _⟩ := h1.form
  obtain ⟨A2, c2, rfl, _⟩ := h2.form
  exact ⟨⟨A, c, hb.cell 0, h1.sh⟩, ⟨A2, c2, hb.cell 1, h2.sh⟩⟩
theorem IrL.drewN (h : IrL w g n E f) (q : Nat) : IrL (w.drewN q) g n E f := ⟨h.es, h.ss⟩
theorem irlen_any (h : IrL w g n E f) : Calls Try.prog 13 #[.pointer (some ⟨g, 0, none⟩)] w fun e w' => e = .returned (.int .i64 (E.length : Int)) ∧ w = w' := by
  obtain ⟨⟨A, c, c0, _⟩, _⟩ := h
  go_enter Try.func13, Try.ntmps13
  go_wp2
  go_ret
  exact ⟨rfl, rfl⟩
theorem irlen_nil (w : World) : Calls Try.prog 13 #[.pointer none] w fun e w' => e = .returned (.int .i64 0) ∧ w = w' := by
  go_enter Try.func13, Try.ntmps13
  go_wp2
  go_ret
  exact ⟨rfl, rfl⟩
theorem ir_in (i : Int) (n : Nat) : (∃ k : Nat, k < n ∧ i = (k : Int) ∧ inI n i = true) ∨ (i < 0 ∧ inI n i = false) ∨ ((n : Int) ≤ i ∧ 0 ≤ i ∧ inI n i = false) := by
  unfold inI
  by_cases h0 : i < 0
  · exact .inr (.inl ⟨h0, by simp; omega⟩)
  · by_cases h1 : i < (n : Int)
    · exact .inl ⟨i.toNat, by omega, by omega, by simp; omega⟩
    · exact .inr (.inr ⟨by omega, by omega, by simp; omega⟩)
theorem irelem_in (h : IrL w g n E f) {i : Nat} (hi : i < E.length) : Calls Try.prog 14 #[.pointer (some ⟨g, 0, none⟩), .int .i64 (i : Int)] w fun e w' => e = .returned (.int .i64 (E.getD i 0 : Int)) ∧ w = w' := by
  have HL := Lib.hid (irlen_any h)
  obtain ⟨⟨A, c, c0, hs⟩, _⟩ := h
  obtain ⟨b, off, u, rfl, hb, hu, c1⟩ := hs.at hi
  obtain ⟨_, rfl⟩ := ints_at hu
  obtain ⟨m, hm⟩ : ∃ m, E.length = m := ⟨_, rfl⟩
  obtain ⟨x, hx⟩ : ∃ x, E.getD i 0 = x := ⟨_, rfl⟩
  rw [hm] at hi c0 HL
  rw [hx] at c1 ⊢
  clear hs hu hm hx
  go_enter Try.func14, Try.ntmps14
  go_wp2_with (first
    | (go_at_call 13; (with_reducible refine HL.out.mono ?_); rintro e w2 ⟨rfl, rfl⟩)
    | go_in)
  go_ret
  exact ⟨rfl, rfl⟩
theorem irelem_out {p : Value} {m : Nat} (HL : Hid (Calls Try.prog 13 #[p] w fun e w' => e = .returned (.int .i64 (m : Int)) ∧ w = w')) {i : Int} (hi : i < 0 ∨ ((m : Int) ≤ i ∧ 0 ≤ i)) : Calls Try.prog 14 #[p, .int .i64 i] w fun e w' => e = .returned (.int .i64 (-1)) ∧ w = w' := by
  rcases hi with hi | ⟨hi, h0⟩
  · go_enter Try.func14, Try.ntmps14
    go_wp2_with (first
      | (go_at_call 13; (with_reducible refine HL.out.mono ?_); rintro e w2 ⟨rfl, rfl⟩)
      | go_in)
    go_ret
    exact ⟨rfl, rfl⟩
  · go_enter Try.func14, Try.ntmps14
    go_wp2_with (first
      | (go_at_call 13; (with_reducible refine HL.out.mono ?_); rintro e w2 ⟨rfl, rfl⟩)
      | go_in)
    go_ret
    exact ⟨rfl, rfl⟩
theorem irhas_any (h : IrL w g n E f) (i : Int) : Calls Try.prog 32 #[.pointer (some ⟨g, 0, none⟩), .int .i64 i] w fun e w' => e = .returned (.bool (inI n i)) ∧ w = w' := by
  obtain ⟨_, ⟨A, c, c1, hs⟩⟩ := h
  clear hs
  rcases ir_in i n with ⟨k, hk, rfl, hd⟩ | ⟨h0, hd⟩ | ⟨h1, h0, hd⟩
  all_goals
    have HD := Lib.hid hd
    clear hd
    go_enter Try.func32, Try.ntmps32
    go_wp2
    go_ret
    exact ⟨by rw [HD.out]; first | rfl | exact ret_bool (by simp; omega), rfl⟩
theorem irhas_nil (w : World) (i : Int) : Calls Try.prog 32 #[.pointer none, .int .i64 i] w fun e w' => e = .returned (.bool false) ∧ w = w' := by
  go_enter Try.func32, Try.ntmps32
  go_wp2
  go_ret
  exact ⟨rfl, rfl⟩
theorem irset_in (h : IrL w g n E f) {i : Nat} (hi : i < n) : Calls Try.prog 15 #[.pointer (some ⟨g, 0, none⟩), .int .i64 (i : Int)] w fun e w' => e = .returned (.int .u64 (f i : Int)) ∧ w = w' := by
  have HH := irhas_any h (i : Int)
  rw [show inI n (i : Int) = true by unfold inI; simp; omega] at HH
  have HH := Lib.hid HH
  obtain ⟨_, ⟨A, c, c1, hs⟩⟩ := h
  obtain ⟨b, off, u, rfl, hb, hu, c2⟩ := hs.at hi
  obtain ⟨_, rfl⟩ := u64s_at hu
  obtain ⟨x, hx⟩ : ∃ x, f i = x := ⟨_, rfl⟩
  rw [hx] at c2 ⊢
  clear hs hu hx
  go_enter Try.func15, Try.ntmps15
  go_wp2_with (first
    | (go_at_call 32; (with_reducible refine HH.out.mono ?_); rintro e w2 ⟨rfl, rfl⟩)
    | go_in)
  go_ret
  exact ⟨rfl, rfl⟩
theorem irset_out {p : Value} {i : Int} (HH : Hid (Calls Try.prog 32 #[p, .int .i64 i] w fun e w' => e = .returned (.bool false) ∧ w = w')) : Calls Try.prog 15 #[p, .int .i64 i] w fun e w' => e = .returned (.int .u64 0) ∧ w = w' := by
  go_enter Try.func15, Try.ntmps15
  go_wp2_with (first
    | (go_at_call 32; (with_reducible refine HH.out.mono ?_); rintro e w2 ⟨rfl, rfl⟩)
    | go_in)
  go_ret
  exact ⟨rfl, rfl⟩
/-- The first place of x, or none. -/
def idxU (n : Nat) (f : Nat → Nat) (x : Nat) (r : Int) : Prop := (∃ k : Nat, k < n ∧ r = (k : Int) ∧ f k = x ∧ ∀ j, j < k → f j ≠ x) ∨ (r = -1 ∧ ∀ j, j < n → f j ≠ x)
set_option maxRecDepth 10000 in
theorem index_any (A : Option Addr) (c : Nat) (x : Nat) (U : Nat) (hs : Sh w U A n (u64s n f)) (hn : n ≤ 1000000) : Calls Try.prog 53 #[.slice A n c, .int .u64 (x : Int)] w fun e w' => ∃ r, e = .returned (.int .i64 r) ∧ idxU n f x r ∧ w = w' := by
  have HS := Lib.hid hs
  clear hs
  go_enter Try.func53, Try.ntmps53
  go_wp2
  go_loopw [8] (fun i wr => ∃ k : Nat, i = .int .i64 (k : Int) ∧ k ≤ n ∧ Hid (∀ j, j < k → f j ≠ x) ∧ wr = w) (fun i _ => n - (intOf i).toNat)
  case atStart => exact ⟨0, rfl, Nat.zero_le _, Lib.hid fun j hj => absurd hj (Nat.not_lt_zero _), rfl⟩
  case round =>
    obtain ⟨k, rfl, hk, HN, rfl⟩ := hrel
    by_cases hlt : k < n
    · obtain ⟨b, off, u, rfl, hb, hu, c0⟩ := HS.out.at hlt
      obtain ⟨_, rfl⟩ := u64s_at hu
      clear hu
      by_cases he : f k = x
      · have HE := Lib.hid he
        have he1 : (x : Int) = (f k : Int) := by rw [he]
        obtain ⟨y, hy⟩ : ∃ y : Int, (f k : Int) = y := ⟨_, rfl⟩
        rw [hy] at c0 he1
        rw [← he1] at c0
        clear hy he he1
        go_wp2
        go_ret
        exact ⟨_, rfl, .inl ⟨k, hlt, rfl, HE.out, HN.out⟩, by trivial⟩
      · have he1 : ¬ (x : Int) = (f k : Int) := by omega
        have HE := Lib.hid he
        obtain ⟨y, hy⟩ : ∃ y : Int, (f k : Int) = y := ⟨_, rfl⟩
        rw [hy] at c0 he1
        clear hy he
        go_wp2
        go_roundw
        case rel =>
          refine ⟨k + 1, by go_num, hlt, Lib.hid fun j hj => ?_, (by trivial)⟩
          rcases Nat.lt_succ_iff_lt_or_eq.1 hj with h | rfl
          · exact HN.out j h
          · exact HE.out
        case measure => simp [intOf]; omega
    · obtain rfl : n = k := by omega
      go_wp2
      go_ret
      exact ⟨_, rfl, .inr ⟨rfl, HN.out⟩, by trivial⟩
theorem irfind_any (h : IrL w g n E f) (hn : n ≤ 1000000) (x : Nat) : Calls Try.prog 36 #[.pointer (some ⟨g, 0, none⟩), .int .u64 (x : Int)] w fun e w' => ∃ r, e = .returned (.int .i64 r) ∧ idxU n f x r ∧ w = w' := by
  obtain ⟨_, ⟨A, c, c1, hs⟩⟩ := h
  have HI := Lib.hid (index_any A c x _ hs hn)
  clear hs
  go_enter Try.func36, Try.ntmps36
  go_wp2_with (first
    | (go_at_call 53; (with_reducible refine HI.out.mono ?_); rintro e w2 ⟨r, rfl, hr, rfl⟩; have HR := Lib.hid hr; clear hr)
    | go_in)
  go_ret
  exact ⟨_, rfl, HR.out, rfl⟩
theorem irfind_nil (w : World) (x : Int) : Calls Try.prog 36 #[.pointer none, .int .u64 x] w fun e w' => e = .returned (.int .i64 (-1)) ∧ w = w' := by
  go_enter Try.func36, Try.ntmps36
  go_wp2
  go_ret
  exact ⟨rfl, rfl⟩
theorem iris_any (h : IrL w g n E f) (hn : n ≤ 1000000) (x : Nat) : Calls Try.prog 23 #[.pointer (some ⟨g, 0, none⟩), .int .u64 (x : Int)] w fun e w' => ∃ r, e = .returned (.bool (!decide (r = -1))) ∧ idxU n f x r ∧ w = w' := by
  have HI := Lib.hid (irfind_any h hn x)
  clear h
  go_enter Try.func23, Try.ntmps23
  go_wp2_with (first
    | (go_at_call 36; (with_reducible refine HI.out.mono ?_); rintro e w2 ⟨r, rfl, hr, rfl⟩; have HR := Lib.hid hr; clear hr)
    | go_in)
  go_ret
  exact ⟨_, ret_bool (by first | rfl | simp [bne, BEq.beq]), HR.out, rfl⟩
theorem iris_nil (w : World) (x : Int) : Calls Try.prog 23 #[.pointer none, .int .u64 x] w fun e w' => e = .returned (.bool false) ∧ w = w' := by
  go_enter Try.func23, Try.ntmps23
  go_wp2_with (first
    | (go_at_call 36; (with_reducible refine (irfind_nil _ _).mono ?_); rintro e w2 ⟨rfl, rfl⟩)
    | go_in)
  go_ret
  exact ⟨rfl, rfl⟩
end
end Go.Proofs.Ytnhdpegjkkaabaa
namespace Go.Proofs.Ytnhdpegjkkaabaa
set_option linter.unusedVariables false
set_option linter.unusedSimpArgs false
open Go.RowKit Go.Maps

/-- The sets of those of s, together. -/
def orK (f : Nat → Nat) (E : List Nat) (s : Nat) : Nat → Nat
  | 0 => 0
  | k + 1 => if s.testBit k then orK f E s k ||| f (E.getD k 0) else orK f E s k
theorem orK_yes {f : Nat → Nat} {E : List Nat} {s k : Nat} (h : s.testBit k = true) : orK f E s (k + 1) = orK f E s k ||| f (E.getD k 0) := by rw [orK, if_pos h]
theorem orK_no {f : Nat → Nat} {E : List Nat} {s k : Nat} (h : s.testBit k = false) : orK f E s (k + 1) = orK f E s k := by
  rw [orK, if_neg]
  rw [h]
  exact Bool.noConfusion
theorem orK_lt {f : Nat → Nat} (hf : ∀ a, f a < 2 ^ 64) (E : List Nat) (s : Nat) : ∀ k, orK f E s k < 2 ^ 64
  | 0 => by unfold orK; decide
  | k + 1 => by
    rw [orK]
    split
    · exact Nat.or_lt_two_pow (orK_lt hf E s k) (hf _)
    · exact orK_lt hf E s k
theorem orK_bit {f : Nat → Nat} {E : List Nat} {s i : Nat} : ∀ {k : Nat}, (orK f E s k).testBit i = true ↔ ∃ j, j < k ∧ s.testBit j = true ∧ (f (E.getD j 0)).testBit i = true
  | 0 => by simp [orK]
  | k + 1 => by
    have ih := @orK_bit f E s i k
    by_cases h : s.testBit k = true
    · rw [orK_yes h, Nat.testBit_or, Bool.or_eq_true, ih]
      constructor
      · rintro (⟨j, h1, h2, h3⟩ | h3)
        · exact ⟨j, by omega, h2, h3⟩
        · exact ⟨k, by omega, h, h3⟩
      · rintro ⟨j, h1, h2, h3⟩
        rcases Nat.lt_succ_iff_lt_or_eq.1 h1 with e | rfl
        · exact .inl ⟨j, e, h2, h3⟩
        · exact .inr h3
    · have h := Bool.eq_false_iff.2 h
      rw [orK_no h, ih]
      constructor
      · rintro ⟨j, h1, h2, h3⟩
        exact ⟨j, by omega, h2, h3⟩
      · rintro ⟨j, h1, h2, h3⟩
        rcases Nat.lt_succ_iff_lt_or_eq.1 h1 with e | rfl
        · exact ⟨j, e, h2, h3⟩
        · rw [h] at h2; cases h2
theorem orK_down (F : Nat → Nat → Bool) (n s : Nat) : orK (setS F n) (irr F n) s (irr F n).length = downS F n s := by
  refine Nat.eq_of_testBit_eq fun i => ?_
  rw [Bool.eq_iff_iff, orK_bit, downS_bit]
  constructor
  · rintro ⟨j, h1, h2, h3⟩
    have := setS_bit.1 h3
    exact ⟨this.1, j, h1, h2, this.2⟩
  · rintro ⟨hi, j, h1, h2, h3⟩
    exact ⟨j, h1, h2, setS_bit.2 ⟨hi, h3⟩⟩
theorem idx_of {F : Nat → Nat → Bool} {n : Nat} {J M : Nat → Nat → Nat} (h : Lat n F J M) (hn : 0 < n) {s : Nat} {r : Int} (hr : idxU n (setS F n) (downS F n s) r) : r = (ofS F n s : Int) := by
  have ho := ofS_lt h hn s
  rcases hr with ⟨k, hk, rfl, e, _⟩ | ⟨rfl, hno⟩
  · rw [setS_inj h hn hk ho (e.trans (setS_ofS h hn s).symm)]
  · exact absurd (setS_ofS h hn s) (hno _ ho)
theorem idx_is {F : Nat → Nat → Bool} {n : Nat} {J M : Nat → Nat → Nat} (h : Lat n F J M) (hn : 0 < n) {s : Nat} {r : Int} (hr : idxU n (setS F n) s r) : (!decide (r = -1)) = decide (downS F n s = s) := by
  rcases hr with ⟨k, hk, rfl, e, _⟩ | ⟨rfl, hno⟩
  · have h1 : downS F n s = s := by rw [← e, downS_setS h hk]
    rw [decide_eq_true h1, decide_eq_false (by omega)]
    rfl
  · have h1 : ¬ downS F n s = s := fun e => hno _ (ofS_lt h hn s) (by rw [setS_ofS h hn, e])
    rw [decide_eq_false h1]
    rfl
theorem popB_cnt : ∀ (k x : Nat), popB k x = (List.range k).countP fun i => x.testBit i
  | 0, x => rfl
  | k + 1, x => by
    rw [popB, popB_cnt k (x / 2), List.range_succ_eq_map, List.countP_cons, List.countP_map]
    have e : (fun i => (x / 2).testBit i) = ((fun i => x.testBit i) ∘ Nat.succ) := by
      funext i
      show (x / 2).testBit i = x.testBit (i + 1)
      rw [Nat.testBit_succ]
    rw [e, Nat.add_comm]
    congr 1
    rw [Nat.testBit_zero]
    rcases Nat.mod_two_eq_zero_or_one x with h | h <;> simp [h]
theorem pop_apart (a b : Nat) : popB 64 (a ^^^ b) = apartS a b := by
  rw [popB_cnt]
  unfold apartS apartK
  congr 1
  funext i
  rw [Nat.testBit_xor]
theorem u64_xor {a b : Nat} (ha : a < 2 ^ 64) (hb : b < 2 ^ 64) : bits .xor .u64 (a : Int) (b : Int) = ((a ^^^ b : Nat) : Int) := u64_xor_nat a b ha hb

section
variable {w w' : World} {g n : Nat} {E : List Nat} {f : Nat → Nat}
set_option maxRecDepth 10000 in
set_option maxHeartbeats 800000 in
theorem irdown_any (h : IrL w g n E f) (hE : ∀ x ∈ E, x < n) (hl : E.length ≤ 64) (hf : ∀ a, f a < 2 ^ 64) (s : Nat) (hs : s < 2 ^ 64) :
    Calls Try.prog 21 #[.pointer (some ⟨g, 0, none⟩), .int .u64 (s : Int)] w fun e w' => e = .returned (.int .u64 (orK f E s E.length : Int)) ∧ Quiet w w' := by
  have HL := Lib.hid (irlen_any h)
  have HE := Lib.hid (show ∀ k, k < E.length → E.getD k 0 < n from fun k hk => hE _ (by rw [List.getD_eq_getElem?_getD, List.getElem?_eq_getElem hk]; exact List.getElem_mem hk))
  have HF := Lib.hid hf
  have HK := Lib.hid (fun k => orK_lt hf E s k)
  have HYES := Lib.hid (fun k => @orK_yes f E s k)
  have HNO := Lib.hid (fun k => @orK_no f E s k)
  obtain ⟨⟨A, c, c0, he⟩, ⟨A2, c2, c1, hss⟩⟩ := h
  have HC := Lib.hid (And.intro c0 c1)
  have HA := Lib.hid he
  have HB := Lib.hid hss
  obtain ⟨m, hm⟩ : ∃ m, E.length = m := ⟨_, rfl⟩
  rw [hm] at hl HL HE HC HA ⊢
  clear c0 c1 he hss hE hf hm
  go_enter Try.func21, Try.ntmps21
  go_wp2_with (first
    | (go_at_call 13; (with_reducible refine HL.out.mono ?_); rintro e w2 ⟨rfl, rfl⟩)
    | go_in)
  go_loopw [5, 9] (fun d i wr => ∃ k : Nat, d = .int .u64 (orK f E s k : Int) ∧ i = .int .i64 (k : Int) ∧ k ≤ m ∧ Hid (Quiet w wr)) (fun _ i _ => m - (intOf i).toNat)
  case atStart => exact ⟨0, rfl, rfl, Nat.zero_le _, Lib.hid (Quiet.refl _)⟩
  case round =>
    obtain ⟨k, rfl, rfl, hk, HQ⟩ := hrel
    obtain ⟨wa, hwa⟩ : ∃ wa, wa = wr := ⟨_, rfl⟩
    subst hwa
    by_cases hlt : k < m
    · have ht := otest (x := s) (i := k) hs (by omega)
      have hk64 : k < 64 := by omega
      have HT := Lib.hid ht
      cases hb : s.testBit k with
      | false =>
        rw [hb] at ht
        have HN := Lib.hid (HNO.out k hb)
        clear hb
        go_wp2
        go_roundw
        case rel => exact ⟨k + 1, by rw [HN.out], by go_num, hlt, HQ⟩
        case measure => simp [intOf]; omega
      | true =>
        rw [hb] at ht
        have HY := Lib.hid (HYES.out k hb)
        have HX := Lib.hid (or_u64 (HK.out k) (HF.out (E.getD k 0)))
        obtain ⟨q, hq⟩ := HQ.out
        have c0 : wa.cell? ⟨g, 0, none⟩ = some (.slice A m c) := by rw [hq]; exact HC.out.1
        have c1 : wa.cell? ⟨g, 1, none⟩ = some (.slice A2 n c2) := by rw [hq]; exact HC.out.2
        obtain ⟨b, off, u, rfl, _, hu, d0⟩ := HA.out.at hlt
        obtain ⟨hkE, rfl⟩ := ints_at hu
        have hen := HE.out k hlt
        obtain ⟨x, hx⟩ : ∃ x, E.getD k 0 = x := ⟨_, rfl⟩
        rw [hx] at d0 hen HX HY
        obtain ⟨b2, off2, u2, rfl, _, hu2, d1⟩ := HB.out.at hen
        obtain ⟨_, rfl⟩ := u64s_at hu2
        have e0 : wa.cell? ⟨b, off + k, none⟩ = some (.int .i64 (x : Int)) := by rw [hq]; exact d0
        have e1 : wa.cell? ⟨b2, off2 + x, none⟩ = some (.int .u64 (f x : Int)) := by rw [hq]; exact d1
        obtain ⟨y, hy⟩ : ∃ y : Nat, f x = y := ⟨_, rfl⟩
        obtain ⟨z, hz⟩ : ∃ z : Nat, orK f E s k = z := ⟨_, rfl⟩
        rw [hy] at e1 HX HY
        rw [hz] at HX HY ⊢
        clear hb hq hu hu2 hx hy hz d0 d1
        go_wp2
        go_quiet (fail)
        go_wp2
        go_roundw
        case rel => exact ⟨k + 1, by rw [HY.out]; exact congrArg (Value.int .u64) HX.out, by go_num, hlt, Lib.hid (HQ.out.trans (Quiet.one _ _))⟩
        case measure => simp [intOf]; omega
    · obtain rfl : k = m := by omega
      go_wp2
      go_ret
      exact ⟨rfl, HQ.out⟩
theorem irdown_nil (w : World) (s : Int) : Calls Try.prog 21 #[.pointer none, .int .u64 s] w fun e w' => e = .returned (.int .u64 0) ∧ w = w' := by
  go_enter Try.func21, Try.ntmps21
  go_wp2_with (first
    | (go_at_call 13; (with_reducible refine (irlen_nil _).mono ?_); rintro e w2 ⟨rfl, rfl⟩)
    | go_in)
  go_loopw [5, 9] (fun d i wr => d = .int .u64 0 ∧ i = .int .i64 0 ∧ wr = w) (fun _ i _ => 0)
  case atStart => exact ⟨rfl, rfl, rfl⟩
  case round =>
    obtain ⟨rfl, rfl, rfl⟩ := hrel
    go_wp2
    go_ret
    exact ⟨rfl, by trivial⟩
theorem irof_any (h : IrL w g n E f) (hE : ∀ x ∈ E, x < n) (hl : E.length ≤ 64) (hn : n ≤ 1000000) (hf : ∀ a, f a < 2 ^ 64) (s : Nat) (hs : s < 2 ^ 64) :
    Calls Try.prog 19 #[.pointer (some ⟨g, 0, none⟩), .int .u64 (s : Int)] w fun e w' => ∃ r, e = .returned (.int .i64 r) ∧ idxU n f (orK f E s E.length) r ∧ Quiet w w' := by
  have HD := Lib.hid (irdown_any h hE hl hf s hs)
  have HI := Lib.hid (fun (w2 : World) (q : Quiet w w2) => irfind_any (w := w2) (g := g) (E := E) (f := f) (by obtain ⟨q', rfl⟩ := q; exact h.drewN q') hn (orK f E s E.length))
  clear h hE hl hf hs
  obtain ⟨d, hd⟩ : ∃ d, orK f E s E.length = d := ⟨_, rfl⟩
  rw [hd] at HD HI ⊢
  clear hd
  go_enter Try.func19, Try.ntmps19
  go_wp2_with (first
    | (go_at_call 21; (with_reducible refine HD.out.mono ?_); rintro e w2 ⟨rfl, q2⟩; have HQ := Lib.hid q2; clear q2)
    | (go_at_call 36; (with_reducible refine (HI.out _ HQ.out).mono ?_); rintro e w2 ⟨r, rfl, hr, rfl⟩; have HR := Lib.hid hr; clear hr)
    | go_in)
  go_ret
  exact ⟨_, rfl, HR.out, HQ.out⟩
theorem irof_nil (w : World) (s : Int) : Calls Try.prog 19 #[.pointer none, .int .u64 s] w fun e w' => e = .returned (.int .i64 (-1)) ∧ w = w' := by
  go_enter Try.func19, Try.ntmps19
  go_wp2_with (first
    | (go_at_call 21; (with_reducible refine (irdown_nil _ _).mono ?_); rintro e w2 ⟨rfl, rfl⟩)
    | (go_at_call 36; (with_reducible refine (irfind_nil _ _).mono ?_); rintro e w2 ⟨rfl, rfl⟩)
    | go_in)
  go_ret
  exact ⟨rfl, rfl⟩
set_option maxRecDepth 10000 in
set_option maxHeartbeats 800000 in
theorem irapart_in (h : IrL w g n E f) (hf : ∀ a, f a < 2 ^ 64) {a b : Nat} (ha : a < n) (hb : b < n) :
    Calls Try.prog 17 #[.pointer (some ⟨g, 0, none⟩), .int .i64 (a : Int), .int .i64 (b : Int)] w fun e w' => e = .returned (.int .i64 (popB 64 (f a ^^^ f b) : Int)) ∧ Quiet w w' := by
  have HA := irhas_any h (a : Int)
  have HB := irhas_any h (b : Int)
  rw [show inI n (a : Int) = true by unfold inI; simp; omega] at HA
  rw [show inI n (b : Int) = true by unfold inI; simp; omega] at HB
  have HA := Lib.hid HA
  have HB := Lib.hid HB
  obtain ⟨_, ⟨A2, c2, c1, hss⟩⟩ := h
  obtain ⟨b1, off, u1, rfl, _, hu1, d1⟩ := hss.at ha
  obtain ⟨_, rfl⟩ := u64s_at hu1
  obtain ⟨b2, off2, u2, e, _, hu2, d2⟩ := hss.at hb
  obtain ⟨_, rfl⟩ := u64s_at hu2
  cases e
  have HX := u64_xor (hf a) (hf b)
  have hx : f a ^^^ f b < 18446744073709551616 := Nat.xor_lt_two_pow (n := 64) (hf a) (hf b)
  obtain ⟨x, ex⟩ : ∃ x : Nat, f a ^^^ f b = x := ⟨_, rfl⟩
  rw [ex] at HX hx ⊢
  have HO := Lib.hid (fun (w : World) => ones_any x hx w)
  have HX := Lib.hid HX
  obtain ⟨p, ep⟩ : ∃ p : Int, (f a : Int) = p := ⟨_, rfl⟩
  obtain ⟨q, eq⟩ : ∃ q : Int, (f b : Int) = q := ⟨_, rfl⟩
  rw [ep] at d1 HX
  rw [eq] at d2 HX
  clear hss hu1 hu2 ex ep eq hx hf
  go_enter Try.func17, Try.ntmps17
  go_wp2_with (first
    | (go_at_call 32; (with_reducible refine HA.out.mono ?_); rintro e w2 ⟨rfl, rfl⟩)
    | (go_at_call 32; (with_reducible refine HB.out.mono ?_); rintro e w2 ⟨rfl, rfl⟩)
    | go_in)
  go_quiet ((go_at_call 34; rw [HX.out]; exact Calls.quiet_of_same ((HO.out _).mono fun e w' ⟨h1, h2⟩ => ⟨h1, h2.symm⟩)))
  go_wp2
  go_ret
  exact ⟨rfl, Quiet.one _ _⟩
theorem irapart_out {p : Value} {a b : Int} {ba : Bool} (HA : Hid (Calls Try.prog 32 #[p, .int .i64 a] w fun e w' => e = .returned (.bool ba) ∧ w = w')) (HB : Hid (ba = true → Calls Try.prog 32 #[p, .int .i64 b] w fun e w' => e = .returned (.bool false) ∧ w = w')) :
    Calls Try.prog 17 #[p, .int .i64 a, .int .i64 b] w fun e w' => e = .returned (.int .i64 (-1)) ∧ w = w' := by
  cases ba with
  | false =>
    clear HB
    go_enter Try.func17, Try.ntmps17
    go_wp2_with (first
      | (go_at_call 32; (with_reducible refine HA.out.mono ?_); rintro e w2 ⟨rfl, rfl⟩)
      | go_in)
    go_ret
    exact ⟨rfl, rfl⟩
  | true =>
    have HB2 := Lib.hid (HB.out rfl)
    clear HB
    by_cases e : a = b
    · subst e
      go_enter Try.func17, Try.ntmps17
      go_wp2_with (first
        | (go_at_call 32; (with_reducible refine HB2.out.mono ?_); rintro e w2 ⟨rfl, rfl⟩)
        | go_in)
      go_ret
      exact ⟨rfl, rfl⟩
    · go_enter Try.func17, Try.ntmps17
      go_wp2_with (first
        | (go_at_call 32; (with_reducible refine HA.out.mono ?_); rintro e w2 ⟨rfl, rfl⟩)
        | (go_at_call 32; (with_reducible refine HB2.out.mono ?_); rintro e w2 ⟨rfl, rfl⟩)
        | go_in)
      go_ret
      exact ⟨rfl, rfl⟩
end
end Go.Proofs.Ytnhdpegjkkaabaa
namespace Go.Proofs.Ytnhdpegjkkaabaa
set_option linter.unusedVariables false
set_option linter.unusedSimpArgs false
open Go.RowKit Go.Maps

section
variable {w w' : World} {X Y N : Nat → Prop} {g gl og n k B : Nat} {o : Od} {d : Bool}
theorem Trn.of_belowB (h : Below B w w') : Trn (fun b => B ≤ b) w w' := ⟨h.os, h.tape, h.output, h.size, fun k _ hk => h.block k (by omega)⟩
theorem OrdAt.turn (h : OrdAt w X g o) (t : Trn N w w') (hN : ∀ b, N b → X b ∨ w.heap.size ≤ b) (hY : ∀ b, Y b → X b ∨ (w.heap.size ≤ b ∧ b < w'.heap.size)) : OrdAt w' Y g o := by
  obtain ⟨h1, h2, ⟨v, m, hc, hr, hm, hx⟩, h4, h5⟩ := h
  have hs := t.size
  have st : ∀ b, b < w.heap.size → ¬ X b → w'.heap[b]? = w.heap[b]? := fun b hb hx => t.block b hb fun e => (hN b e).elim hx fun e => by omega
  have ny : ∀ b, b < w.heap.size → ¬ X b → ¬ Y b := fun b hb hx e => (hY b e).elim hx fun e => by omega
  refine ⟨ny _ hc.lt h1, fun b hb => ?_, ⟨v, m, hc.stay (st _ hc.lt h1), ⟨(hr.stay fun j hj => st j (hr.lt hj) (hr.2 j hj)).1, fun j hj => ny j (hr.lt hj) (hr.2 j hj)⟩, hm.stay (st _ hm.lt hx), ny _ hm.lt hx⟩, h4, h5⟩
  rcases hY b hb with e | e
  · exact Nat.lt_of_lt_of_le (h2 b e) hs
  · exact e.2
theorem frozen_of_block {b j : Nat} (h : w'.heap[b]? = w.heap[b]?) : w'.frozen? ⟨b, j, none⟩ = w.frozen? ⟨b, j, none⟩ := by simp [World.frozen?, h]
theorem LtAt.turn (h : LtAt w X gl og o d k) (t : Trn N w w') (hN : ∀ b, N b → (X b ∧ b ≠ gl) ∨ w.heap.size ≤ b) (hY : ∀ b, Y b → X b ∨ (w.heap.size ≤ b ∧ b < w'.heap.size)) (hg : Y gl) : LtAt w' Y gl og o d k := by
  have hgl : w'.heap[gl]? = w.heap[gl]? := t.block gl h.c.lt fun e => by
    rcases hN gl e with e | e
    · exact e.2 rfl
    · have := h.c.lt; omega
  have ho := h.c.ord.turn (Y := Y) t (fun b hb => (hN b hb).imp_left fun e => e.1) hY
  have hc : ∀ j, w'.cell? ⟨gl, j, none⟩ = w.cell? ⟨gl, j, none⟩ := fun j => World.cell?_of_block (w := w) hgl
  exact ⟨⟨hg, ho, h.c.osd, h.c.osa, fun j => (frozen_of_block hgl).trans (h.c.nf j), (hc 0).trans h.c.c0, (hc 1).trans h.c.c1⟩, (hc 2).trans h.c2, (hc 3).trans h.c3, by rw [hc]; exact h.c5, h.t.keep (fun j _ _ => hc j) h.c.osd.wf.len, h.b.keep (hc _) (hc _)⟩
/-- What may turn: X, and the blocks from B on. -/
def XB (X : Nat → Prop) (B : Nat) (w : World) : Nat → Prop := fun b => X b ∨ (B ≤ b ∧ b < w.heap.size)
/-- The lattice at gl, where blocks from B on are one's own. -/
structure LtW (X : Nat → Prop) (B gl og k : Nat) (o : Od) (w : World) : Prop where
  l : LtAt w (XB X B w) gl og o true k
  hg : gl < B
  hB : B ≤ w.heap.size
theorem LtW.trn (h : LtW X B gl og k o w) (t : Trn N w w') (hN : ∀ b, N b → B ≤ b) : LtW X B gl og k o w' := by
  have h1 := h.hg
  have h2 := h.hB
  have h3 := t.size
  refine ⟨h.l.turn t (fun b hb => ?_) (fun b hb => ?_) ?_, h1, Nat.le_trans h2 h3⟩
  · have := hN b hb
    rcases Nat.lt_or_ge b w.heap.size with e | e
    · exact .inl ⟨.inr ⟨this, e⟩, by omega⟩
    · exact .inr e
  · rcases hb with e | ⟨e1, e2⟩
    · exact .inl (.inl e)
    · rcases Nat.lt_or_ge b w.heap.size with e | e
      · exact .inl (.inr ⟨e1, e⟩)
      · exact .inr ⟨e, e2⟩
  · rcases h.l.c.gX with e | e
    · exact .inl e
    · omega
theorem LtW.below (h : LtW X B gl og k o w) (b : Below w.heap.size w w') : LtW X B gl og k o w' := h.trn (N := fun _ => False) (.of_below b) fun _ h => h.elim
theorem LtW.only (h : LtW X B gl og k o w) (hl : LtAt w' (XB X B w) gl og o true k) (ho : Only gl w w') : LtW X B gl og k o w' :=
  ⟨by have e : XB X B w' = XB X B w := by unfold XB; rw [ho.size]
      rw [e]; exact hl, h.hg, by rw [ho.size]; exact h.hB⟩
theorem LtW.start (h : LtAt w X gl og o true k) : LtW X w.heap.size gl og k o w :=
  ⟨h.turn (N := fun _ => False) (.of_below (Below.refl _ _)) (fun _ h => h.elim) (fun b hb => .inl (hb.elim id fun e => by omega)) (.inl h.c.gX), h.c.lt, Nat.le_refl _⟩
theorem Sh.onlyA {U b off m : Nat} {xs : List Value} (h : Sh w U (some ⟨b, off, none⟩) m xs) (ho : Only g w w') (hne : b ≠ g) : Sh w' U (some ⟨b, off, none⟩) m xs :=
  ⟨h.1, fun hn => by
    obtain ⟨b', off', e, hb, hc⟩ := h.2 hn
    cases e
    exact ⟨b, off, rfl, hb, fun j u hj => (ho.cell (p := ⟨b, off + j, none⟩) hne).trans (hc j u hj)⟩⟩
theorem lat_botI {J M : Nat → Nat → Nat} {F : Nat → Nat → Bool} (hL : Lat n F J M) (hn : 0 < n) : botI F n = (bt F n : Int) := by
  obtain ⟨b, hb, e, _⟩ := hL.bot hn
  unfold bt
  rw [e]; rfl
/-- JoinAll of a row of elements of one's own. -/
theorem ljoinAll_w (h : LtW X B gl og k o w) (h0 : 0 < o.ns.length) (hL : Lat o.ns.length (rmost o) (jn (rmost o) o.ns.length) (mn (rmost o) o.ns.length)) (U : Nat) (S : Option Addr) (m c : Nat) (l : List Nat) (hs : ∀ w', Only gl w w' → Sh w' U S m (ints l)) (hl : ∀ a ∈ l, a < o.ns.length) (hm : m ≤ 1000000) :
    Calls Try.prog 54 #[.pointer (some ⟨gl, 0, none⟩), .slice S m c] w fun e w' => e = .returned (.int .i64 (jfold (rmost o) o.ns.length l (bt (rmost o) o.ns.length) : Nat)) ∧ LtW X B gl og k o w' ∧ Trn (fun b => b = gl) w w' := by
  refine (ljoinAll_any h.l h0 hL U S m c (l.map fun (i : Nat) => (i : Int)) (fun w' ho => ?_) hm).mono ?_
  · have := hs w' ho
    unfold intz
    rw [List.map_map]
    exact this
  · rintro e w' ⟨rfl, hl', ho⟩
    refine ⟨?_, h.only hl' ho, .of_only ho rfl⟩
    rw [lat_botI hL h0, ljf_good hL (hL.bt_is h0).1 hl]
theorem jfold_two {J M : Nat → Nat → Nat} {F : Nat → Nat → Bool} (hL : Lat n F J M) (h0 : 0 < n) {a b : Nat} (ha : a < n) (hb : b < n) : jfold F n [a, b] (bt F n) = b ↔ F a b = true := by
  have hbt := hL.bt_is h0
  have hl : ∀ x ∈ [a, b], x < n := by intro x hx; simp at hx; rcases hx with rfl | rfl <;> assumption
  have hbb : F b b = true := by
    exact hL.ord.refl hb
  constructor
  · intro e
    have := (jfold_le hL (k := b) hb hbt.1 hl).1 (by rw [e]; exact hbb)
    exact this.2 a (by simp)
  · intro h
    refine jfold_is hL hbt.1 hl hb (hbt.2 b hb) (fun x hx => ?_) ((jfold_up hL hbt.1 hl).2 b (by simp))
    simp at hx
    rcases hx with rfl | rfl
    · exact h
    · exact hbb
theorem jfold_one {J M : Nat → Nat → Nat} {F : Nat → Nat → Bool} (hL : Lat n F J M) (h0 : 0 < n) {b : Nat} (hb : b < n) : jfold F n [b] (bt F n) = b := by
  have hbt := hL.bt_is h0
  have hbb : F b b = true := hL.ord.refl hb
  have hl : ∀ x ∈ [b], x < n := by intro x hx; simp at hx; omega
  exact jfold_is hL hbt.1 hl hb (hbt.2 b hb) (fun x hx => by simp at hx; subst hx; exact hbb) ((jfold_up hL hbt.1 hl).2 b (by simp))
theorem irrB_eq {J M : Nat → Nat → Nat} {F : Nat → Nat → Bool} (hL : Lat n F J M) (h0 : 0 < n) {e : Nat} (he : e < n) : irrB F n e = !decide (jfold F n (under F n e) (bt F n) = e) := by
  unfold irrB
  have hbt := hL.bt_is h0
  by_cases h : e = bt F n
  · have hu : under F n e = [] := by
      rw [List.eq_nil_iff_forall_not_mem]
      intro a ha
      obtain ⟨h1, h2, h3⟩ := mem_under.1 ha
      subst h
      exact h2 (hL.ord.anti h1 he h3 (hbt.2 a h1))
    rw [hu, decide_eq_true h]
    have : jfold F n [] (bt F n) = e := h.symm
    rw [decide_eq_true this]
    rfl
  · rw [decide_eq_false h]
    rfl
set_option maxRecDepth 10000 in
theorem irmost_any (h : LtW X B gl og k o w) (h0 : 0 < o.ns.length) (hL : Lat o.ns.length (rmost o) (jn (rmost o) o.ns.length) (mn (rmost o) o.ns.length)) {a b : Nat} (ha : a < o.ns.length) (hb : b < o.ns.length) :
    Calls Try.prog 55 #[.pointer (some ⟨gl, 0, none⟩), .int .i64 (a : Int), .int .i64 (b : Int)] w fun e w' => e = .returned (.bool (rmost o a b)) ∧ LtW X B gl og k o w' ∧ Trn (fun b => b = gl) w w' := by
  have ba : Below w.heap.size w (w.alloc (.cells #[.int .i64 (a : Int), .int .i64 (b : Int)] 3)) := (Below.refl _ _).alloc (Nat.le_refl _) _
  have hne : w.heap.size ≠ gl := by have := h.hg; have := h.hB; omega
  have hsh : Sh (w.alloc (.cells #[.int .i64 (a : Int), .int .i64 (b : Int)] 3)) (w.heap.size + 1) (some ⟨w.heap.size, 0, none⟩) 2 (ints [a, b]) := Sh.lit w [.int .i64 (a : Int), .int .i64 (b : Int)] 3
  have HJ := Lib.hid (ljoinAll_w (h.below ba) h0 hL (w.heap.size + 1) (some ⟨w.heap.size, 0, none⟩) 2 2 [a, b] (fun w' ho => hsh.onlyA ho hne) (by intro x hx; simp at hx; rcases hx with rfl | rfl <;> assumption) (by omega))
  have HR := Lib.hid (jfold_two hL h0 ha hb)
  have HB := Lib.hid ba
  obtain ⟨r, hr⟩ : ∃ r, jfold (rmost o) o.ns.length [a, b] (bt (rmost o) o.ns.length) = r := ⟨_, rfl⟩
  rw [hr] at HJ HR
  obtain ⟨t, ht⟩ : ∃ t, rmost o a b = t := ⟨_, rfl⟩
  rw [ht] at HR ⊢
  clear hr ht ba hne hsh ha hb h
  cases t with
  | true =>
    obtain rfl : r = b := HR.out.2 rfl
    go_enter Try.func55, Try.ntmps55
    go_wp2_with (first
      | (go_at_call 54; (with_reducible refine HJ.out.mono ?_); rintro e w2 ⟨rfl, h2, t2⟩; have H2 := Lib.hid h2; have HT := Lib.hid t2; clear h2 t2)
      | go_in)
    go_ret
    exact ⟨rfl, H2.out, (Trn.of_below HB.out).trans HT.out⟩
  | false =>
    have hne : ¬ (r : Int) = (b : Int) := fun e => by have := HR.out.1 (by omega); cases this
    go_enter Try.func55, Try.ntmps55
    go_wp2_with (first
      | (go_at_call 54; (with_reducible refine HJ.out.mono ?_); rintro e w2 ⟨rfl, h2, t2⟩; have H2 := Lib.hid h2; have HT := Lib.hid t2; clear h2 t2)
      | go_in)
    go_ret
    exact ⟨ret_bool (beq_eq_false_iff_ne.2 hne), H2.out, (Trn.of_below HB.out).trans HT.out⟩
set_option maxRecDepth 10000 in
theorem irelems_any (h : LtW X B gl og k o w) (h0 : 0 < o.ns.length) (hL : Lat o.ns.length (rmost o) (jn (rmost o) o.ns.length) (mn (rmost o) o.ns.length)) :
    Calls Try.prog 37 #[.pointer (some ⟨gl, 0, none⟩)] w fun e w' => e = .returned (.int .i64 (o.ns.length : Int)) ∧ LtW X B gl og k o w' ∧ Trn (fun b => b = gl) w w' := by
  have hl64 := h.l.c.osd.wf.len
  have HJ := Lib.hid (fun (wx : World) (hx : LtW X B gl og k o wx) (q : Nat) (hq : q < o.ns.length) => (by
    have ba : Below wx.heap.size wx (wx.alloc (.cells #[.int .i64 (q : Int)] 3)) := (Below.refl _ _).alloc (Nat.le_refl _) _
    have hne : wx.heap.size ≠ gl := by have := hx.hg; have := hx.hB; omega
    have hsh : Sh (wx.alloc (.cells #[.int .i64 (q : Int)] 3)) (wx.heap.size + 1) (some ⟨wx.heap.size, 0, none⟩) 1 (ints [q]) := Sh.lit wx [.int .i64 (q : Int)] 3
    refine (ljoinAll_w (hx.below ba) h0 hL (wx.heap.size + 1) (some ⟨wx.heap.size, 0, none⟩) 1 1 [q] (fun w' ho => hsh.onlyA ho hne) (by intro x hx; simp at hx; omega) (by omega)).mono ?_
    rw [jfold_one hL h0 hq]
    rintro e w' ⟨he, h1, h2⟩
    exact ⟨he, h1, (Trn.of_below ba).trans h2⟩ : Calls Try.prog 54 #[.pointer (some ⟨gl, 0, none⟩), .slice (some ⟨wx.heap.size, 0, none⟩) 1 1] (wx.alloc (.cells #[.int .i64 (q : Int)] 3)) fun e w' => e = .returned (.int .i64 (q : Int)) ∧ LtW X B gl og k o w' ∧ Trn (fun b => b = gl) wx w'))
  have HN := Lib.hid (fun (wx : World) (hx : LtW X B gl og k o wx) => (by
    have ba : Below wx.heap.size wx (wx.alloc (.cells #[.int .i64 (o.ns.length : Int)] 3)) := (Below.refl _ _).alloc (Nat.le_refl _) _
    have hne : wx.heap.size ≠ gl := by have := hx.hg; have := hx.hB; omega
    have hsh : Sh (wx.alloc (.cells #[.int .i64 (o.ns.length : Int)] 3)) (wx.heap.size + 1) (some ⟨wx.heap.size, 0, none⟩) 1 (intz [(o.ns.length : Int)]) := Sh.lit wx [.int .i64 (o.ns.length : Int)] 3
    have h1 := hx.below ba
    refine (ljoinAll_any h1.l h0 hL (wx.heap.size + 1) (some ⟨wx.heap.size, 0, none⟩) 1 1 [(o.ns.length : Int)] (fun w' ho => hsh.onlyA ho hne) (by omega)).mono ?_
    rintro e w' ⟨he, hl', ho⟩
    rw [ljf_bad ⟨(o.ns.length : Int), by simp, by unfold inI; simp⟩] at he
    exact ⟨he, h1.only hl' ho, (Trn.of_below ba).trans (.of_only ho rfl)⟩ : Calls Try.prog 54 #[.pointer (some ⟨gl, 0, none⟩), .slice (some ⟨wx.heap.size, 0, none⟩) 1 1] (wx.alloc (.cells #[.int .i64 (o.ns.length : Int)] 3)) fun e w' => e = .returned (.int .i64 (-1)) ∧ LtW X B gl og k o w' ∧ Trn (fun b => b = gl) wx w'))
  have H := Lib.hid h
  obtain ⟨n, hn⟩ : ∃ n, o.ns.length = n := ⟨_, rfl⟩
  rw [hn] at hl64 HN ⊢
  simp only [hn] at HJ
  clear h h0 hL hn
  go_enter Try.func37, Try.ntmps37
  go_wp2
  go_loopw [3] (fun i wr => ∃ q : Nat, i = .int .i64 (q : Int) ∧ q ≤ n ∧ Hid (LtW X B gl og k o wr) ∧ Hid (Trn (fun b => b = gl) w wr)) (fun i _ => n - (intOf i).toNat)
  case atStart => exact ⟨0, rfl, Nat.zero_le _, H, Lib.hid (Trn.refl _ _)⟩
  case round =>
    obtain ⟨q, rfl, hq, HL, HT⟩ := hrel
    obtain ⟨wa, hwa⟩ : ∃ wa, wa = wr := ⟨_, rfl⟩
    subst hwa
    by_cases hlt : q < n
    · have HC := Lib.hid (HJ.out wa HL.out q hlt)
      go_wp2_with (first
        | (go_at_call 54; (with_reducible refine HC.out.mono ?_); rintro e w2 ⟨rfl, h2, t2⟩; have H2 := Lib.hid h2; have HT2 := Lib.hid (HT.out.trans t2); clear h2 t2)
        | go_in)
      go_roundw
      case rel => exact ⟨q + 1, by go_num, hlt, H2, HT2⟩
      case measure => simp [intOf]; omega
    · obtain rfl : n = q := by omega
      have HC := Lib.hid (HN.out wa HL.out)
      have hne : ¬ (-1 : Int) = (n : Int) := by omega
      go_wp2_with (first
        | (go_at_call 54; (with_reducible refine HC.out.mono ?_); rintro e w2 ⟨rfl, h2, t2⟩; have H2 := Lib.hid h2; have HT2 := Lib.hid (HT.out.trans t2); clear h2 t2)
        | go_in)
      go_ret
      exact ⟨rfl, H2.out, HT2.out⟩
theorem irelems_nil (w : World) : Calls Try.prog 37 #[.pointer none] w fun e w' => e = .returned (.int .i64 0) ∧ Below w.heap.size w w' := by
  have HC := Lib.hid (ljoinAll_nil (w.alloc (.cells #[.int .i64 0] 3)) _ (some ⟨w.heap.size, 0, none⟩) 1 1 [0] (Sh.lit w [.int .i64 0] 3) (by omega))
  go_enter Try.func37, Try.ntmps37
  go_wp2
  go_loopw [3] (fun i wr => i = .int .i64 0 ∧ wr = w) (fun i _ => 0)
  case atStart => exact ⟨rfl, rfl⟩
  case round =>
    obtain ⟨rfl, rfl⟩ := hrel
    go_wp2_with (first
      | (go_at_call 54; (with_reducible refine HC.out.mono ?_); rintro e w2 ⟨rfl, rfl⟩)
      | go_in)
    go_ret
    exact ⟨rfl, (Below.refl _ _).alloc (Nat.le_refl _) _⟩
end
end Go.Proofs.Ytnhdpegjkkaabaa
namespace Go.Proofs.Ytnhdpegjkkaabaa
set_option linter.unusedVariables false
set_option linter.unusedSimpArgs false
open Go.RowKit Go.Maps

section
variable {w w' : World} {X Y N : Nat → Prop} {g gl og n k B : Nat} {o : Od}
theorem Trn.near {P : Nat → Prop} (h : Trn (fun b => P b ∨ w.heap.size ≤ b) w w') : Trn P w w' := ⟨h.os, h.tape, h.output, h.size, fun k hk hP => h.block k hk fun e => e.elim hP fun e => by omega⟩
theorem underK_all (F : Nat → Nat → Bool) (n e : Nat) : underK F e n = under F n e := rfl
set_option maxRecDepth 10000 in
set_option maxHeartbeats 800000 in
theorem irreducible_any (h : LtW X B gl og k o w) (h0 : 0 < o.ns.length) (hL : Lat o.ns.length (rmost o) (jn (rmost o) o.ns.length) (mn (rmost o) o.ns.length)) {e : Nat} (he : e < o.ns.length) :
    Calls Try.prog 38 #[.pointer (some ⟨gl, 0, none⟩), .int .i64 (o.ns.length : Int), .int .i64 (e : Int)] w fun r w' => r = .returned (.bool (irrB (rmost o) o.ns.length e)) ∧ LtW X B gl og k o w' ∧ Trn (fun b => b = gl) w w' := by
  have hl64 := h.l.c.osd.wf.len
  have hgl := h.hg
  have hB := h.hB
  have HM := Lib.hid (fun (wx : World) (hx : LtW X B gl og k o wx) (q : Nat) (hq : q < o.ns.length) => irmost_any hx h0 hL hq he)
  have HJ := Lib.hid (fun (wx : World) (hx : LtW X B gl og k o wx) (v : Value) (A : Option Addr) (m c : Nat) (hv : Own wx w.heap.size 3 1 (.slice A m c) m (ints (under (rmost o) o.ns.length e))) (hm : m ≤ 64) => (ljoinAll_w hx h0 hL (wx.heap.size) A m c (under (rmost o) o.ns.length e) (fun w' ho => by have s := (hv.only ho (by omega)).sh; rw [ho.size] at s; exact s) under_lt (by omega)))
  have HI := Lib.hid (irrB_eq hL h0 he)
  have H := Lib.hid h
  obtain ⟨F, hF⟩ : ∃ F, rmost o = F := ⟨_, rfl⟩
  obtain ⟨n, hn⟩ : ∃ n, o.ns.length = n := ⟨_, rfl⟩
  rw [hF, hn] at HI ⊢
  rw [hn] at hl64 he
  simp only [hF, hn] at HM HJ
  clear h h0 hL hn hF
  go_enter Try.func38, Try.ntmps38
  go_wp2
  go_loopw [7, 10] (fun u i wr => ∃ (j : Nat) (ux : Value), u = ux ∧ i = .int .i64 (j : Int) ∧ j ≤ n ∧ Hid (Own wr w.heap.size 3 1 ux (underK F e j).length (ints (underK F e j))) ∧ Hid (LtW X B gl og k o wr) ∧ Hid (Trn (fun b => b = gl ∨ w.heap.size ≤ b) w wr)) (fun _ i _ => n - (intOf i).toNat)
  case atStart => exact ⟨0, _, rfl, rfl, Nat.zero_le _, Lib.hid (Own.nil _ _ _ _ (Nat.le_refl _)), H, Lib.hid (Trn.refl _ _)⟩
  case round =>
    obtain ⟨j, ux, rfl, rfl, hj, HO, HL, HT⟩ := hrel
    obtain ⟨wa, hwa⟩ : ∃ wa, wa = wr := ⟨_, rfl⟩
    subst hwa
    obtain ⟨Ax, cx, rfl⟩ := HO.out.form
    have HLU := Lib.hid (show (underK F e j).length ≤ j from len_le_of)
    by_cases hlt : j < n
    · have HS := Lib.hid (underK_succ F e j)
      have HC := Lib.hid (HM.out wa HL.out j hlt)
      obtain ⟨f, hf⟩ : ∃ f, F j e = f := ⟨_, rfl⟩
      rw [hf] at HS HC
      have hown := HO.out
      obtain ⟨L, hLx⟩ : ∃ L, underK F e j = L := ⟨_, rfl⟩
      rw [hLx] at HS hown HLU ⊢
      have hll := HLU.out
      have HOW := Lib.hid hown
      clear hf hLx hown
      by_cases hje : j = e
      · have HE := Lib.hid (show underK F e (j + 1) = L by rw [HS.out]; simp [hje])
        have hje' : (j : Int) = (e : Int) := by omega
        subst hje
        go_wp2
        go_roundw
        case rel => exact ⟨j + 1, _, rfl, by go_num, hlt, by rw [HE.out]; exact HOW, HL, HT⟩
        case measure => simp [intOf]; omega
      · have hne : ¬ (j : Int) = (e : Int) := by omega
        cases f with
        | false =>
          have HE := Lib.hid (show underK F e (j + 1) = L by rw [HS.out]; simp)
          go_wp2_with (first
            | (go_at_call 55; (with_reducible refine HC.out.mono ?_); rintro r w2 ⟨rfl, h2, t2⟩; have HO2 := Lib.hid (HOW.out.tr t2 fun k hk => by omega); have HL2 := Lib.hid h2; have HT2 := Lib.hid (HT.out.trans (t2.more fun k hk => .inl hk)); clear h2 t2)
            | go_in)
          go_roundw
          case rel => exact ⟨j + 1, _, rfl, by go_num, hlt, by rw [HE.out]; exact HO2, HL2, HT2⟩
          case measure => simp [intOf]; omega
        | true =>
          have HE := Lib.hid (show underK F e (j + 1) = L ++ [j] by rw [HS.out]; simp [hje])
          go_wp2_with (first
            | (go_at_call 55; (with_reducible refine HC.out.mono ?_); rintro r w2 ⟨rfl, h2, t2⟩; have ho2 := HOW.out.tr t2 (fun k hk => (by omega)); have HL2 := Lib.hid h2; have HT2 := Lib.hid (HT.out.trans (t2.more fun k hk => .inl hk)); clear h2 t2)
            | (at_builtin; refine wpList_wanted rfl fun KK hKK => ?_; refine wp_push_f (.tmp 22) (.tmp 24) 36 rfl rowI w2 w.heap.size _ L.length _ [.int .i64 (j : Int)] rfl ho2 rfl rfl rfl (by intro u hu; rw [List.mem_singleton.1 hu]; rfl) (by omega) (by omega) ?_; intro v4 w4 ho4 hg4 hv4; refine hKK _ _ ?_; clear hKK KK; have HB4 := Lib.hid (push_below (us := [.int .i64 (j : Int)]) (B0 := w.heap.size) (w0 := w2) ho2 (Below.refl _ _) (Nat.le_refl _) ho2.2 hg4); have HO4 := Lib.hid (ho4.cast (show L.length + 1 = (L ++ [j]).length by simp) (ints_snoc L j).symm); clear ho4 hg4 hv4)
            | go_in)
          have HL4 := Lib.hid (HL2.out.trn (Trn.of_belowB HB4.out) fun b hb => Nat.le_trans hB hb)
          have HT4 := Lib.hid (HT2.out.trans ((Trn.of_belowB HB4.out).more fun k hk => .inr hk))
          go_roundw
          case rel => exact ⟨j + 1, _, rfl, by go_num, hlt, by rw [HE.out]; exact HO4, HL4, HT4⟩
          case measure => simp [intOf]; omega
    · obtain rfl : j = n := by omega
      rw [underK_all] at HO HLU ⊢
      have hl := HLU.out
      have HC := Lib.hid (HJ.out wa HL.out (.slice Ax (under F j e).length cx) Ax (under F j e).length cx HO.out (by omega))
      obtain ⟨r, hr⟩ : ∃ r, jfold F j (under F j e) (bt F j) = r := ⟨_, rfl⟩
      rw [hr] at HC HI
      obtain ⟨m, hm⟩ : ∃ m, (under F j e).length = m := ⟨_, rfl⟩
      rw [hm] at HC ⊢
      clear hr hm hl
      by_cases hre : r = e
      · subst hre
        go_wp2_with (first
          | (go_at_call 54; (with_reducible refine HC.out.mono ?_); rintro r2 w2 ⟨rfl, h2, t2⟩; have HL2 := Lib.hid h2; have HT2 := Lib.hid (HT.out.trans (t2.more fun k hk => .inl hk)); clear h2 t2)
          | go_in)
        go_ret
        exact ⟨ret_bool (by rw [HI.out]; simp), HL2.out, HT2.out.near⟩
      · have hne : ¬ (r : Int) = (e : Int) := by omega
        have HD := Lib.hid hre
        clear hre
        go_wp2_with (first
          | (go_at_call 54; (with_reducible refine HC.out.mono ?_); rintro r2 w2 ⟨rfl, h2, t2⟩; have HL2 := Lib.hid h2; have HT2 := Lib.hid (HT.out.trans (t2.more fun k hk => .inl hk)); clear h2 t2)
          | go_in)
        go_ret
        exact ⟨ret_bool (by rw [HI.out, decide_eq_false HD.out]; simpa [bne] using hne), HL2.out, HT2.out.near⟩
/-- The irreducibles while they are made. -/
structure IrB (w : World) (B g n : Nat) (E : List Nat) (f : Nat → Nat) (ve vs : Value) : Prop where
  b : Blk w g 72 [ve, vs]
  e : Own w B 3 1 ve E.length (ints E)
  s : Own w B 40 1 vs n (u64s n f)
theorem IrB.trn {E : List Nat} {f : Nat → Nat} {ve vs : Value} (h : IrB w B g n E f ve vs) (t : Trn N w w') (hN : ∀ k, N k → k < B) (hg : B ≤ g) : IrB w' B g n E f ve vs :=
  ⟨h.b.stay (t.block g h.b.lt fun e => by have := hN g e; omega), h.e.tr t hN, h.s.tr t hN⟩
theorem Own.ne_b {size m : Nat} {e t : TypeId} {v : Value} {xs ys : List Value} {b : Nat} (h : Own w B e size v m xs) (hb : Blk w b t ys) (ht : e ≠ t) : ∀ j, v.ownBlock = some j → some b ≠ some j := by
  intro j hj e2
  rcases h.1.2 with ⟨rfl, _⟩ | ⟨q, cap, cur, rfl, _, hq, _⟩
  · cases hj
  · cases hj
    cases e2
    unfold Blk at hb
    rw [hq] at hb
    have hb := Option.some.inj hb
    injection hb with h1 h2
    exact ht h2
/-- One more irreducible is told. -/
theorem IrB.grow {w2 : World} {E : List Nat} {f : Nat → Nat} {ve vs v2 : Value} {e : Nat} (h : IrB w B g n E f ve vs) (hg : B ≤ g) (ho : Own w2 B 3 1 v2 (E.length + 1) (ints E ++ [.int .i64 (e : Int)])) (hw : (w.alloc (.cells #[.int .i64 (e : Int)] 3)).grownBy w2 ve.ownBlock) :
    IrB (w2.setCell ⟨g, 0, none⟩ v2) B g n (E ++ [e]) f v2 vs ∧ Below B w (w2.setCell ⟨g, 0, none⟩ v2) ∧ Blk w2 g 72 [ve, vs] := by
  have hB := h.e.2
  have b1 : Blk (w.alloc (.cells #[.int .i64 (e : Int)] 3)) g 72 [ve, vs] := h.b.stay ((Below.refl w.heap.size w).alloc (Nat.le_refl _) _ |>.block g h.b.lt)
  have b2 := b1.keep hw (fun e2 => Own.ne_b (h.e.alloc _) b1 (by decide) g e2 rfl)
  have s2 := (h.s.alloc (.cells #[.int .i64 (e : Int)] 3)).other (h.e.alloc _) (by decide) hw
  have g2 := grown_set w2 g 0 v2
  refine ⟨⟨b2.set 0 v2, ?_, s2.side g2 fun j hj => Own.ne_b s2 b2 (by decide) j hj⟩, (push_below (us := [.int .i64 (e : Int)]) h.e (Below.refl _ _) (Nat.le_refl _) hB hw).setCell (p := ⟨g, 0, none⟩) hg v2, b2⟩
  exact (ho.side g2 fun j hj => Own.ne_b ho b2 (by decide) j hj).cast (by simp) (ints_snoc E e).symm
theorem u64s_set {f f' : Nat → Nat} {j x : Nat} (hj : j < n) (h1 : f' j = x) (h2 : ∀ a, a ≠ j → f' a = f a) : (u64s n f).set j (.int .u64 (x : Int)) = u64s n f' := by
  refine List.ext_getElem? fun i => ?_
  rw [List.getElem?_set]
  unfold u64s
  rw [List.length_map, List.length_range, List.getElem?_map, List.getElem?_map]
  by_cases e : j = i
  · subst e
    rw [if_pos rfl, if_pos hj, List.getElem?_range hj]
    simp [h1]
  · rw [if_neg e]
    rcases Nat.lt_or_ge i n with hi | hi
    · rw [List.getElem?_range hi]
      simp [h2 i (fun e2 => e e2.symm)]
    · rw [List.getElem?_eq_none (by simpa using hi)]
      rfl
theorem u64s_same {f f' : Nat → Nat} (h : ∀ a, a < n → f' a = f a) : u64s n f = u64s n f' := by
  unfold u64s
  refine List.map_congr_left fun a ha => ?_
  rw [h a (List.mem_range.1 ha)]
theorem IrB.seti {E : List Nat} {f f' : Nat → Nat} {ve : Value} {bs c j x : Nat} {y : Int} (h : IrB w B g n E f ve (.slice (some ⟨bs, 0, none⟩) n c)) (hj : j < n) (hy : y = (x : Int)) (h1 : f' j = x) (h2 : ∀ a, a ≠ j → f' a = f a) :
    IrB (w.setCell ⟨bs, j, none⟩ (.int .u64 y)) B g n E f' ve (.slice (some ⟨bs, 0, none⟩) n c) ∧ Below B w (w.setCell ⟨bs, j, none⟩ (.int .u64 y)) := by
  subst hy
  have hs := h.s.set1q j (by omega) (.int .u64 (x : Int))
  rw [u64s_set hj h1 h2] at hs
  have g2 := grown_set w bs j (.int .u64 (x : Int))
  have hbs : B ≤ bs := h.s.block_ge bs rfl
  refine ⟨⟨h.b.keep g2 (fun e2 => Own.ne_b h.s h.b (by decide) bs rfl e2.symm), h.e.other h.s (by decide) g2, hs⟩, (Below.refl _ _).setCell (p := ⟨bs, j, none⟩) hbs _⟩
theorem IrB.cells {E : List Nat} {f : Nat → Nat} {ve : Value} {bs c j : Nat} (h : IrB w B g n E f ve (.slice (some ⟨bs, 0, none⟩) n c)) (hj : j < n) :
    w.cell? ⟨g, 1, none⟩ = some (.slice (some ⟨bs, 0, none⟩) n c) ∧ w.cell? ⟨bs, j, none⟩ = some (.int .u64 (f j : Int)) ∧ w.frozen? ⟨bs, j, none⟩ = false := by
  obtain ⟨b, off, u, e, hb, hu, hc⟩ := h.s.sh.at hj
  cases e
  obtain ⟨_, rfl⟩ := u64s_at hu
  rw [Nat.zero_add] at hc
  refine ⟨h.b.cell 1, hc, ?_⟩
  rcases h.s.1.2 with ⟨e1, _⟩ | ⟨q, cap, cur, e1, _, hh, _⟩
  · cases e1
  · cases e1
    simp [World.frozen?, hh]
/-- Sets as far as the elements below j. -/
def addK (F : Nat → Nat → Bool) (e i : Nat) (f : Nat → Nat) (j a : Nat) : Nat := if a < j && F e a then f a ||| 2 ^ i else f a
theorem addK_no {F : Nat → Nat → Bool} {e i j : Nat} {f : Nat → Nat} (h : F e j = false) : addK F e i f (j + 1) = addK F e i f j := by
  funext a
  unfold addK
  by_cases ha : a = j
  · subst ha; rw [h]; simp
  · have : decide (a < j + 1) = decide (a < j) := by rw [decide_eq_decide]; omega
    rw [this]
theorem addK_yes {F : Nat → Nat → Bool} {e i j : Nat} {f : Nat → Nat} (h : F e j = true) : addK F e i f (j + 1) j = f j ||| 2 ^ i ∧ addK F e i f j j = f j ∧ ∀ a, a ≠ j → addK F e i f (j + 1) a = addK F e i f j a := by
  unfold addK
  refine ⟨by rw [h]; simp, by simp, fun a ha => ?_⟩
  have : decide (a < j + 1) = decide (a < j) := by rw [decide_eq_decide]; omega
  rw [this]
def addF (F : Nat → Nat → Bool) (e i : Nat) (f : Nat → Nat) (a : Nat) : Nat := if F e a then f a ||| 2 ^ i else f a
theorem addK_all {F : Nat → Nat → Bool} {e i : Nat} {f : Nat → Nat} : u64s n (addK F e i f n) = u64s n (addF F e i f) := u64s_same fun a ha => by
  unfold addK addF
  rw [decide_eq_true ha]
  rfl
theorem shl_or {x i : Nat} (hx : x < 2 ^ 64) (hi : i < 64) : bits .or .u64 (x : Int) (IntKind.u64.wrap ((2 : Int) ^ min i 64)) = ((x ||| 2 ^ i : Nat) : Int) := by
  rw [show min i 64 = i by omega, opow hi]
  exact or_u64 hx (Nat.pow_lt_pow_right (by decide) hi)
set_option maxRecDepth 10000 in
set_option maxHeartbeats 800000 in
theorem iradd_any {E : List Nat} {f : Nat → Nat} {ve vs : Value} (h : LtW X B gl og k o w) (h0 : 0 < o.ns.length) (hL : Lat o.ns.length (rmost o) (jn (rmost o) o.ns.length) (mn (rmost o) o.ns.length)) (hi : IrB w B g o.ns.length E f ve vs) (hg : B ≤ g) (hE : E.length < 64) (hf : ∀ a, f a < 2 ^ 64) {e : Nat} (he : e < o.ns.length) :
    Calls Try.prog 39 #[.pointer (some ⟨g, 0, none⟩), .pointer (some ⟨gl, 0, none⟩), .int .i64 (e : Int)] w fun r w' => r = .returned (.tuple #[]) ∧ (∃ v2, IrB w' B g o.ns.length (E ++ [e]) (addF (rmost o) e E.length f) v2 vs) ∧ LtW X B gl og k o w' ∧ Trn (fun b => b = gl ∨ B ≤ b) w w' := by
  have hl64 := h.l.c.osd.wf.len
  have hgl := h.hg
  have HM := Lib.hid (fun (wx : World) (hx : LtW X B gl og k o wx) (q : Nat) (hq : q < o.ns.length) => irmost_any hx h0 hL he hq)
  obtain ⟨bs, c, rfl⟩ : ∃ bs c, vs = .slice (some ⟨bs, 0, none⟩) o.ns.length c := by
    obtain ⟨A, c, rfl⟩ := hi.s.form
    rcases hi.s.1.2 with ⟨e1, _⟩ | ⟨q, cap, cur, e1, _⟩
    · exfalso
      injection e1 with _ e1
      omega
    · injection e1 with e1 e2 e3
      exact ⟨q, c, by rw [e1]⟩
  have H := Lib.hid h
  have HI := Lib.hid hi
  have HF := Lib.hid hf
  have c0 := hi.b.cell 0
  have f0 := hi.b.nf 0
  have hown := hi.e
  obtain ⟨Av, cv, rfl⟩ := hown.form
  obtain ⟨F, hF⟩ : ∃ F, rmost o = F := ⟨_, rfl⟩
  obtain ⟨n, hn⟩ : ∃ n, o.ns.length = n := ⟨_, rfl⟩
  rw [hn] at HI hl64 he h0 ⊢
  rw [hF]
  simp only [hF, hn] at HM
  simp only [List.getElem?_cons_zero] at c0
  clear h hL hi hf hF
  go_enter Try.func39, Try.ntmps39
  go_wp2_with (first
    | (at_builtin; refine wpList_wanted rfl fun KK hKK => ?_; refine wp_push_f (.tmp 17) (.tmp 19) 36 rfl rowI w B _ E.length _ [.int .i64 (e : Int)] rfl hown rfl rfl rfl (by intro u hu; rw [List.mem_singleton.1 hu]; rfl) (by omega) (by omega) ?_; intro v4 w4 ho4 hg4 hv4; refine hKK _ _ ?_; clear hKK KK; obtain ⟨hi4, hb4, hl4⟩ := HI.out.grow hg ho4 hg4; have HI4 := Lib.hid hi4; have HB4 := Lib.hid hb4; have d0 := hl4.cell 0; have d1 := hl4.nf 0; obtain ⟨A4, c4, rfl⟩ := ho4.form; have d2 := hi4.b.cell 1; simp only [List.getElem?_cons_zero, List.getElem?_cons_succ] at d0 d2; clear ho4 hg4 hv4 hi4 hb4 hl4)
    | go_in)
  obtain ⟨v4, hv4⟩ : ∃ v4, Value.slice A4 (E.length + 1) c4 = v4 := ⟨_, rfl⟩
  obtain ⟨w5, hw5⟩ : ∃ w5, w4.setCell ⟨g, 0, none⟩ (Value.slice A4 (E.length + 1) c4) = w5 := ⟨_, rfl⟩
  rw [hw5] at HI4 HB4 d2 ⊢
  rw [hv4] at HI4
  have HIL := Lib.hid (show E.length < 64 from hE)
  have HFK := Lib.hid (fun (j : Nat) => (show F e j = false → addK F e E.length f (j + 1) = addK F e E.length f j from addK_no))
  have HFY := Lib.hid (fun (j : Nat) => (show F e j = true → addK F e E.length f (j + 1) j = f j ||| 2 ^ E.length ∧ addK F e E.length f j j = f j ∧ ∀ a, a ≠ j → addK F e E.length f (j + 1) a = addK F e E.length f j a from addK_yes))
  have HST := Lib.hid (fun (j : Nat) => shl_or (HF.out j) hE)
  have HL5 := Lib.hid (H.out.trn (Trn.of_belowB HB4.out) fun b hb => hb)
  have HT5 := Lib.hid ((Trn.of_belowB HB4.out).more (N := fun b => b = gl ∨ B ≤ b) fun k hk => .inr hk)
  have HI5 : Hid (IrB w5 B g n (E ++ [e]) (addK F e E.length f 0) v4 (.slice (some ⟨bs, 0, none⟩) n c)) := Lib.hid ⟨HI4.out.b, HI4.out.e, by
    have := HI4.out.s
    rwa [u64s_same (f' := addK F e E.length f 0) (n := n) (fun a _ => by unfold addK; simp)] at this⟩
  have HFIN := Lib.hid (addK_all (n := n) (F := F) (e := e) (i := E.length) (f := f))
  obtain ⟨i, hi⟩ : ∃ i, E.length = i := ⟨_, rfl⟩
  rw [hi] at HIL HFK HFY HST HI5 HFIN ⊢
  have HLEN := Lib.hid hi
  clear hi hv4 hw5 HI4 HB4 d0 d1 c0 f0 hown
  go_wp2
  go_loopw [28] (fun q wr => ∃ j : Nat, q = .int .i64 (j : Int) ∧ j ≤ n ∧ Hid (IrB wr B g n (E ++ [e]) (addK F e i f j) v4 (.slice (some ⟨bs, 0, none⟩) n c)) ∧ Hid (LtW X B gl og k o wr) ∧ Hid (Trn (fun b => b = gl ∨ B ≤ b) w wr)) (fun q _ => n - (intOf q).toNat)
  case atStart => exact ⟨0, rfl, Nat.zero_le _, HI5, HL5, HT5⟩
  case round =>
    obtain ⟨j, rfl, hj, HJ, HL, HT⟩ := hrel
    obtain ⟨wa, hwa⟩ : ∃ wa, wa = wr := ⟨_, rfl⟩
    subst hwa
    by_cases hlt : j < n
    · have HC := Lib.hid (HM.out wa HL.out j hlt)
      have HNO := Lib.hid (HFK.out j)
      have HYES := Lib.hid (HFY.out j)
      obtain ⟨x, hx⟩ : ∃ x, F e j = x := ⟨_, rfl⟩
      rw [hx] at HC HNO HYES
      clear hx
      cases x with
      | false =>
        have HE := Lib.hid (HNO.out rfl)
        go_wp2_with (first
          | (go_at_call 55; (with_reducible refine HC.out.mono ?_); rintro r w2 ⟨rfl, h2, t2⟩; have HI2 := Lib.hid (HJ.out.trn t2 (fun k hk => (by omega)) hg); have HL2 := Lib.hid h2; have HT2 := Lib.hid (HT.out.trans (t2.more fun k hk => .inl hk)); clear h2 t2)
          | go_in)
        go_roundw
        case rel => exact ⟨j + 1, by go_num, hlt, by rw [HE.out]; exact HI2, HL2, HT2⟩
        case measure => simp [intOf]; omega
      | true =>
        have HE := Lib.hid (HYES.out rfl)
        have HS := Lib.hid (HST.out j)
        go_wp2_with (first
          | (go_at_call 55; (with_reducible refine HC.out.mono ?_); rintro r w2 ⟨rfl, h2, t2⟩; have HI2 := Lib.hid (HJ.out.trn t2 (fun k hk => (by omega)) hg); have HL2 := Lib.hid h2; have HT2 := Lib.hid (HT.out.trans (t2.more fun k hk => .inl hk)); clear h2 t2)
          | go_in)
        obtain ⟨e1, e2, e3⟩ := HI2.out.cells hlt
        rw [HE.out.2.1] at e2
        have hfj := HF.out j
        obtain ⟨y, hy⟩ : ∃ y, f j = y := ⟨_, rfl⟩
        rw [hy] at e2 HE HS
        have HY := Lib.hid hy
        clear hy hfj
        go_region
        obtain ⟨q, hq⟩ : ∃ q, bits .or .u64 (y : Int) (IntKind.u64.wrap ((2 : Int) ^ min i 64)) = q := ⟨_, rfl⟩
        rw [hq] at HS ⊢
        obtain ⟨hi5, hb5⟩ := HI2.out.seti (f' := addK F e i f (j + 1)) hlt HS.out HE.out.1 HE.out.2.2
        have HI6 := Lib.hid (hi5.trn (N := fun _ => False) (.of_below ((Quiet.one _ 1).below _)) (fun _ h => h.elim) hg)
        have hb6 := hb5.trans ((Quiet.one _ 1).below B)
        have HL6 := Lib.hid (HL2.out.trn (Trn.of_belowB hb6) fun b hb => hb)
        have HT6 := Lib.hid (HT2.out.trans ((Trn.of_belowB hb6).more (N := fun b => b = gl ∨ B ≤ b) fun k hk => .inr hk))
        clear e1 e2 e3 hq hi5 hb5 hb6
        go_wp2
        go_roundw
        case rel => exact ⟨j + 1, by go_num, hlt, HI6, HL6, HT6⟩
        case measure => simp [intOf]; omega
    · obtain rfl : j = n := by omega
      go_wp2
      go_end0
      refine ⟨rfl, ⟨v4, HJ.out.b, HJ.out.e, ?_⟩, HL.out, HT.out⟩
      rw [HLEN.out, ← HFIN.out]
      exact HJ.out.s
theorem rowU : RowT Try.prog 70 40 1 8 := RowT.mk (z := .int .u64 0) Try.underlying70 (by kernel_rfl) rfl (by omega)
theorem made_u64s (n : Nat) : (madeCells (Value.int .u64 0).cells (n * 1)).toList = u64s n (fun _ => 0) := by
  unfold madeCells u64s
  rw [Nat.mul_one, Array.toList_map, Array.toList_range]
  refine List.map_congr_left fun i _ => ?_
  have : i % (Value.int .u64 0).cells.size = 0 := Nat.mod_one i
  rw [this]
  rfl
theorem make_u64s (w : World) (m : Nat) (hm : m ≤ 1000000) : ∃ w1, (Instr.makeSlice 70 (.int .i64 (m : Int)) (.int .i64 (m : Int))).run Try.prog w = .ok (.slice (some ⟨w.heap.size, 0, none⟩) m m) w1 ∧ Own w1 w.heap.size 40 1 (.slice (some ⟨w.heap.size, 0, none⟩) m m) m (u64s m (fun _ => 0)) ∧ Below w.heap.size w w1 := by
  obtain ⟨ht, i, z, hi, hz, hsize, hbytes, hzs, hpos⟩ := rowU
  have hzz : z = .int .u64 0 := by
    have h : (Try.prog.info? 40).map (fun i => i.zero) = some (some (.int .u64 0)) := by kernel_rfl
    rw [hi] at h
    simp only [Option.map_some, Option.some.injEq] at h
    rw [hz] at h
    exact Option.some.inj h
  obtain ⟨w1, hr, ho, hg⟩ := run_makeSlice_full (P := Try.prog) (w := w) w.heap.size 70 40 i z 1 ht hi hz hsize .i64 .i64 m (by omega) (by rw [hbytes]; omega) (by unfold maxLen; omega) (Nat.le_refl _)
  rw [hzz, made_u64s] at ho
  exact ⟨w1, hr, ⟨ho, hg.size⟩, (Below.refl _ _).grown hg (Nat.le_refl _) (fun k hk => by cases hk)⟩
theorem zeroIr (w : World) : (zeroValue 72).run Try.prog w = .ok (.agg #[.slice none 0 0, .slice none 0 0]) w := by kernel_rfl
/-- The sets, where E are the irreducibles. -/
def fE (F : Nat → Nat → Bool) (E : List Nat) (a : Nat) : Nat := bset (fun i => F (E.getD i 0) a) E.length
theorem fE_lt {F : Nat → Nat → Bool} {E : List Nat} (h : E.length ≤ 64) (a : Nat) : fE F E a < 2 ^ 64 := Nat.lt_of_lt_of_le (bset_lt _ _) (Nat.pow_le_pow_right (by omega) h)
theorem fE_snoc (F : Nat → Nat → Bool) (E : List Nat) (e : Nat) : addF F e E.length (fE F E) = fE F (E ++ [e]) := by
  funext a
  unfold addF fE
  rw [show (E ++ [e]).length = E.length + 1 by simp]
  refine Nat.eq_of_testBit_eq fun i => ?_
  rw [bset_bit]
  by_cases hi : i < E.length
  · have e1 : (E ++ [e]).getD i 0 = E.getD i 0 := by rw [List.getD_eq_getElem?_getD, List.getD_eq_getElem?_getD, List.getElem?_append_left hi]
    have e2 : decide (i < E.length + 1) = true := by simp; omega
    rw [e1, e2]
    have hne : ¬ E.length = i := by omega
    split
    · rw [Nat.testBit_or, bset_bit, decide_eq_true hi, Nat.testBit_two_pow_of_ne hne, Bool.or_false]
    · rw [bset_bit, decide_eq_true hi]
  · by_cases he : i = E.length
    · subst he
      have e1 : (E ++ [e]).getD E.length 0 = e := by simp
      rw [e1]
      cases hF : F e a with
      | true => simp [bset_bit]
      | false => simp [bset_bit]
    · have hd : decide (i < E.length + 1) = false := by simp; omega
      rw [hd]
      have hne : ¬ E.length = i := fun h => he h.symm
      have hd2 : decide (i < E.length) = false := by simp; omega
      split
      · rw [Nat.testBit_or, bset_bit, hd2, Nat.testBit_two_pow_of_ne hne]; rfl
      · rw [bset_bit, hd2]; rfl
set_option maxRecDepth 10000 in
set_option maxHeartbeats 800000 in
theorem irnew_any (h : LtAt w X gl og o true k) (h0 : 0 < o.ns.length) (hL : Lat o.ns.length (rmost o) (jn (rmost o) o.ns.length) (mn (rmost o) o.ns.length)) :
    Calls Try.prog 24 #[.pointer (some ⟨gl, 0, none⟩)] w fun r w' => ∃ g ve vs, r = .returned (.pointer (some ⟨g, 0, none⟩)) ∧ w.heap.size ≤ g ∧ IrB w' w.heap.size g o.ns.length (irr (rmost o) o.ns.length) (fE (rmost o) (irr (rmost o) o.ns.length)) ve vs ∧ Trn (fun b => b = gl) w w' := by
  have hl64 := h.c.osd.wf.len
  have hgl := h.c.lt
  have H := Lib.hid (LtW.start h)
  have HEL := Lib.hid (irelems_any H.out h0 hL)
  have HIR := Lib.hid (fun (wx : World) (hx : LtW X w.heap.size gl og k o wx) (e : Nat) (he : e < o.ns.length) => irreducible_any hx h0 hL he)
  have HAD := Lib.hid (fun (wx : World) (hx : LtW X w.heap.size gl og k o wx) (g : Nat) (hg : w.heap.size ≤ g) (E : List Nat) (hE : E.length < 64) (ve vs : Value) (hi : IrB wx w.heap.size g o.ns.length E (fE (rmost o) E) ve vs) (e : Nat) (he : e < o.ns.length) => (by
    have := iradd_any hx h0 hL hi hg hE (fE_lt (by omega)) he
    rwa [fE_snoc] at this : Calls Try.prog 39 #[.pointer (some ⟨g, 0, none⟩), .pointer (some ⟨gl, 0, none⟩), .int .i64 (e : Int)] wx fun r w' => r = .returned (.tuple #[]) ∧ (∃ v2, IrB w' w.heap.size g o.ns.length (E ++ [e]) (fE (rmost o) (E ++ [e])) v2 vs) ∧ LtW X w.heap.size gl og k o w' ∧ Trn (fun b => b = gl ∨ w.heap.size ≤ b) wx w'))
  have hzi := zeroIr
  obtain ⟨F, hF⟩ : ∃ F, rmost o = F := ⟨_, rfl⟩
  obtain ⟨n, hn⟩ : ∃ n, o.ns.length = n := ⟨_, rfl⟩
  rw [hF, hn] at ⊢
  rw [hn] at hl64 h0 HEL
  simp only [hF, hn] at HIR HAD
  have HN0 := Lib.hid h0
  have hne : ¬ (n : Int) = 0 := by omega
  clear h hL hn hF
  go_enter Try.func24, Try.ntmps24
  go_wp2_with (first
    | (go_at_call 37; (with_reducible refine HEL.out.mono ?_); rintro r w2 ⟨rfl, h2, t2⟩; obtain ⟨w3, hmk, ho3, hb3⟩ := make_u64s w2 n (by omega); have HL2 := Lib.hid h2; have HT2 := Lib.hid t2; have HO3 := Lib.hid ho3; have HB3 := Lib.hid hb3; clear h2 t2 ho3 hb3)
    | go_in)
  have hs2 : w.heap.size ≤ w2.heap.size := HT2.out.size
  have hs3 : w2.heap.size ≤ w3.heap.size := HB3.out.size
  have ba := (Below.refl w3.heap.size w3).alloc (Nat.le_refl _) (.cells #[.slice none 0 0, .slice (some ⟨w2.heap.size, 0, none⟩) n n] 72)
  have HL4 := Lib.hid ((HL2.out.below HB3.out).below ba)
  have HT4 := Lib.hid (((HT2.out.more (N := fun b => b = gl ∨ w.heap.size ≤ b) fun k hk => .inl hk).trans (.of_below HB3.out)).trans (.of_below ba))
  have HI4 : Hid (IrB (w3.alloc (.cells #[.slice none 0 0, .slice (some ⟨w2.heap.size, 0, none⟩) n n] 72)) w.heap.size w3.heap.size n (irrK F n 0) (fE F (irrK F n 0)) (.slice none 0 0) (.slice (some ⟨w2.heap.size, 0, none⟩) n n)) :=
    Lib.hid ⟨Blk.new w3 72 [.slice none 0 0, .slice (some ⟨w2.heap.size, 0, none⟩) n n], Own.nil _ _ _ _ (by simp; omega), (HO3.out.alloc _).lower hs2⟩
  have HG := Lib.hid (show w.heap.size ≤ w3.heap.size by omega)
  obtain ⟨g, hg⟩ : ∃ g, w3.heap.size = g := ⟨_, rfl⟩
  obtain ⟨w4, hw4⟩ : ∃ w4, w3.alloc (.cells #[.slice none 0 0, .slice (some ⟨w2.heap.size, 0, none⟩) n n] 72) = w4 := ⟨_, rfl⟩
  rw [hw4] at HL4 HT4 HI4
  rw [hg] at HI4 HG
  rw [hw4, hg]
  simp only [show ((n : Int) == 0) = false from beq_eq_false_iff_ne.2 hne]
  clear hw4 hg ba hs2 hs3 hmk HO3 hne h0
  go_loopw [15] (fun q wr => ∃ (j : Nat) (ve : Value), q = .int .i64 (j : Int) ∧ j ≤ n ∧ Hid (IrB wr w.heap.size g n (irrK F n j) (fE F (irrK F n j)) ve (.slice (some ⟨w2.heap.size, 0, none⟩) n n)) ∧ Hid (LtW X w.heap.size gl og k o wr) ∧ Hid (Trn (fun b => b = gl ∨ w.heap.size ≤ b) w wr)) (fun q _ => n - (intOf q).toNat)
  case atStart => exact ⟨0, _, rfl, Nat.zero_le _, HI4, HL4, HT4⟩
  case round =>
    obtain ⟨j, ve, rfl, hj, HJ, HL, HT⟩ := hrel
    obtain ⟨wa, hwa⟩ : ∃ wa, wa = wr := ⟨_, rfl⟩
    subst hwa
    by_cases hlt : j < n
    · have HC := Lib.hid (HIR.out wa HL.out j hlt)
      have HS := Lib.hid (irrK_succ F n j)
      have HLU := Lib.hid (show (irrK F n j).length ≤ j from len_le_of)
      obtain ⟨x, hx⟩ : ∃ x, irrB F n j = x := ⟨_, rfl⟩
      rw [hx] at HC HS
      have HIJ := HJ
      obtain ⟨L, hLx⟩ : ∃ L, irrK F n j = L := ⟨_, rfl⟩
      rw [hLx] at HS HLU HIJ
      clear hx hLx
      have hl := HLU.out
      cases x with
      | false =>
        have HE := Lib.hid (show irrK F n (j + 1) = L by rw [HS.out]; simp)
        go_wp2_with (first
          | (go_at_call 38; (with_reducible refine HC.out.mono ?_); rintro r w5 ⟨rfl, h5, t5⟩; have HI5 := Lib.hid (HIJ.out.trn t5 (fun k hk => (by omega)) HG.out); have HL5 := Lib.hid h5; have HT5 := Lib.hid (HT.out.trans (t5.more fun k hk => .inl hk)); clear h5 t5)
          | go_in)
        go_roundw
        case rel => exact ⟨j + 1, ve, by go_num, hlt, by rw [HE.out]; exact HI5, HL5, HT5⟩
        case measure => simp [intOf]; omega
      | true =>
        have HE := Lib.hid (show irrK F n (j + 1) = L ++ [j] by rw [HS.out]; simp)
        go_wp2_with (first
          | (go_at_call 38; (with_reducible refine HC.out.mono ?_); rintro r w5 ⟨rfl, h5, t5⟩; have HI5 := Lib.hid (HIJ.out.trn t5 (fun k hk => (by omega)) HG.out); have HL5 := Lib.hid h5; have HT5 := Lib.hid (HT.out.trans (t5.more (N := fun b => b = gl ∨ w.heap.size ≤ b) fun k hk => .inl hk)); have HA := Lib.hid (HAD.out w5 h5 g HG.out L (by omega) _ _ HI5.out j hlt); clear h5 t5)
          | (go_at_call 39; (with_reducible refine HA.out.mono ?_); rintro r w6 ⟨rfl, ⟨v6, i6⟩, h6, t6⟩; have HI6 := Lib.hid i6; have HL6 := Lib.hid h6; have HT6 := Lib.hid (HT5.out.trans t6); clear i6 h6 t6)
          | go_in)
        go_roundw
        case rel => exact ⟨j + 1, v6, by go_num, hlt, by rw [HE.out]; exact HI6, HL6, HT6⟩
        case measure => simp [intOf]; omega
    · obtain rfl : j = n := by omega
      go_wp2
      go_ret
      exact ⟨g, ve, _, rfl, HG.out, HJ.out, HT.out.near⟩
end
theorem IrB.at_ {w : World} {B g n : Nat} {E : List Nat} {f : Nat → Nat} {ve vs : Value} (h : IrB w B g n E f ve vs) (hg : B ≤ g) : IrAt w (fun b => B ≤ b) g n E f :=
  ⟨hg, ve, vs, h.b, ⟨h.e.lower (Nat.zero_le _) |>.1, fun j hj => fun k => k (h.e.block_ge j hj)⟩, ⟨h.s.lower (Nat.zero_le _) |>.1, fun j hj => fun k => k (h.s.block_ge j hj)⟩⟩
theorem ir_ok : IrNew := by
  intro w X gl og k o h hk h0 hL
  have h64 := h.c.osd.wf.len
  refine (irnew_any h h0 hL).mono ?_
  rintro r w' ⟨g, ve, vs, rfl, hg, hi, ht⟩
  have hat := hi.at_ hg
  have hf : fE (rmost o) (irr (rmost o) o.ns.length) = setS (rmost o) o.ns.length := by funext a; rfl
  rw [hf] at hat
  have hE : ∀ x ∈ irr (rmost o) o.ns.length, x < o.ns.length := fun x hx => (mem_irr.1 hx).1
  have hEl : (irr (rmost o) o.ns.length).length ≤ 64 := Nat.le_trans irr_len h64
  have hfl : ∀ a, setS (rmost o) o.ns.length a < 2 ^ 64 := fun a => setS_lt h64 a
  have same : ∀ {v : Value} {w1 : World} {e : Ending} {w2 : World}, IrAt w1 (fun b => w.heap.size ≤ b) g o.ns.length (irr (rmost o) o.ns.length) (setS (rmost o) o.ns.length) → (e = .returned v ∧ w1 = w2) → IrTo (fun _ => False) (fun w1 => IrAt w1 (fun b => w.heap.size ≤ b) g o.ns.length (irr (rmost o) o.ns.length) (setS (rmost o) o.ns.length)) w1 v e w2 := by
    rintro v w1 e w2 hp ⟨rfl, rfl⟩
    exact ⟨rfl, hp, Trn.refl _ _⟩
  have quiet : ∀ {v : Value} {w1 : World} {e : Ending} {w2 : World}, IrAt w1 (fun b => w.heap.size ≤ b) g o.ns.length (irr (rmost o) o.ns.length) (setS (rmost o) o.ns.length) → (e = .returned v ∧ Quiet w1 w2) → IrTo (fun _ => False) (fun w1 => IrAt w1 (fun b => w.heap.size ≤ b) g o.ns.length (irr (rmost o) o.ns.length) (setS (rmost o) o.ns.length)) w1 v e w2 := by
    rintro v w1 e w2 hp ⟨rfl, q⟩
    exact ⟨rfl, hp.quiet q, .of_below (q.below _)⟩
  refine ⟨g, fun _ => False, fun b => w.heap.size ≤ b, fun w1 => IrAt w1 (fun b => w.heap.size ≤ b) g o.ns.length (irr (rmost o) o.ns.length) (setS (rmost o) o.ns.length), rfl, ⟨fun hp t hN => hp.trn t hN, fun hp => (irlen_any hp.look).mono fun e w2 h => same hp h, fun {w1} i hp => ?_, fun {w1} e hp => ?_, fun {w1} s hs hp => ?_, fun {w1} s hs hp => ?_, fun {w1} s hs hp => ?_, fun {w1} a b hp => ?_⟩, hat, ht, fun k hk => hk.elim, fun k hk => .inr (.inr hk)⟩
  · rcases ir_in i (irr (rmost o) o.ns.length).length with ⟨q, hq, rfl, hd⟩ | ⟨h1, hd⟩ | ⟨h1, h2, hd⟩
    · rw [irElem_in hq]
      exact (irelem_in hp.look hq).mono fun e w2 h => same hp h
    · rw [irElem_out hd]
      exact (irelem_out (Lib.hid (irlen_any hp.look)) (.inl h1)).mono fun e w2 h => same hp h
    · rw [irElem_out hd]
      exact (irelem_out (Lib.hid (irlen_any hp.look)) (.inr ⟨h1, h2⟩)).mono fun e w2 h => same hp h
  · have hh := irhas_any hp.look e
    rcases ir_in e o.ns.length with ⟨q, hq, rfl, hd⟩ | ⟨h1, hd⟩ | ⟨h1, h2, hd⟩
    · rw [irSet_in hq]
      exact (irset_in hp.look hq).mono fun e w2 h => same hp h
    · rw [irSet_out hd]
      rw [hd] at hh
      exact (irset_out (Lib.hid hh)).mono fun e w2 h => same hp h
    · rw [irSet_out hd]
      rw [hd] at hh
      exact (irset_out (Lib.hid hh)).mono fun e w2 h => same hp h
  · refine (irof_any hp.look hE hEl (by omega) hfl s hs).mono ?_
    rintro e w2 ⟨r, rfl, hr, q⟩
    rw [orK_down] at hr
    rw [idx_of hL h0 hr]
    exact quiet hp ⟨rfl, q⟩
  · have := irdown_any hp.look hE hEl hfl s hs
    rw [orK_down] at this
    exact this.mono fun e w2 h => quiet hp h
  · refine (iris_any hp.look (by omega) s).mono ?_
    rintro e w2 ⟨r, rfl, hr, rfl⟩
    rw [idx_is hL h0 hr]
    exact same hp ⟨rfl, rfl⟩
  · have ha := irhas_any hp.look a
    have hb := irhas_any hp.look b
    by_cases hab : (inI o.ns.length a && inI o.ns.length b) = true
    · rw [Bool.and_eq_true] at hab
      rcases ir_in a o.ns.length with ⟨q, hq, rfl, _⟩ | ⟨_, hd⟩ | ⟨_, _, hd⟩
      · rcases ir_in b o.ns.length with ⟨q2, hq2, rfl, _⟩ | ⟨_, hd⟩ | ⟨_, _, hd⟩
        · rw [irApart_in hq hq2, ← pop_apart]
          exact (irapart_in hp.look hfl hq hq2).mono fun e w2 h => quiet hp h
        · rw [hd] at hab; exact absurd hab.2 (by decide)
        · rw [hd] at hab; exact absurd hab.2 (by decide)
      · rw [hd] at hab; exact absurd hab.1 (by decide)
      · rw [hd] at hab; exact absurd hab.1 (by decide)
    · have hab := Bool.eq_false_iff.2 hab
      rw [irApart_out hab]
      refine (irapart_out (Lib.hid ha) (Lib.hid fun e => ?_)).mono fun e w2 h => same hp h
      rw [e, Bool.true_and] at hab
      rwa [hab] at hb
theorem irnew_nil (w : World) : Calls Try.prog 24 #[.pointer none] w fun e w' => e = .returned (.pointer none) ∧ Below w.heap.size w w' := by
  go_enter Try.func24, Try.ntmps24
  go_wp2_with (first
    | (go_at_call 37; (with_reducible refine (irelems_nil _).mono ?_); rintro r w2 ⟨rfl, b2⟩; have HB := Lib.hid b2; clear b2)
    | go_in)
  go_ret
  exact ⟨rfl, HB.out⟩
theorem ir_nil : IrNil :=
  ⟨irnew_nil, irlen_nil, fun w i => by
      rcases ir_in i 0 with ⟨q, hq, _⟩ | ⟨h1, _⟩ | ⟨h1, h2, _⟩
      · omega
      · exact irelem_out (Lib.hid (irlen_nil w)) (.inl h1)
      · exact irelem_out (Lib.hid (irlen_nil w)) (.inr ⟨h1, h2⟩),
    fun w i => irset_out (Lib.hid (irhas_nil w i)), irof_nil, irdown_nil, iris_nil, fun w a b => irapart_out (Lib.hid (irhas_nil w a)) (Lib.hid fun h => by cases h)⟩
end Go.Proofs.Ytnhdpegjkkaabaa
