/-
  However bytes are cut, the sum of all goes on from that of the first ones; of no summer all is 0. It holds for any bytes, cut anywhere; of more than 1000 bytes it says that the document's examples hold.
-/
import Derived.Test.YtboliolmhijjhaaCrcTurnedW
import Derived.Test.YtboliolmhijjhaaRegion
namespace Go.Proofs.Ytboliolmhijjhaa
set_option linter.unusedVariables false
set_option linter.unusedSimpArgs false
open Go.RowKit Go.BigFrame

/-- Where a slice's cells lie. -/
theorem IsRow.form {k : IntKind} {w : World} {a : Option Addr} {len cap : Nat} {zs : List Int} (h : IsRow k w a len cap zs) : cap = 0 ∨ ∃ b off, a = some ⟨b, off, none⟩ := by
  rcases h with ⟨rfl, rfl, rfl, rfl⟩ | ⟨x, rfl, hl, hm, hz, hcell, hwz⟩
  · exact .inl rfl
  · rcases Nat.eq_zero_or_pos cap with h0 | h0
    · exact .inl h0
    · obtain ⟨b, off, spot⟩ := x
      have hc0 := hcell 0 (by omega)
      have hspot : spot = none := by simpa [Addr.add] using World.cell?_spot hc0
      subst hspot
      exact .inr ⟨b, off, rfl⟩

set_option maxRecDepth 10000 in
set_option maxHeartbeats 800000 in
theorem crcParts_long (A : Option Addr) (n c : Nat) (x : Int) (w : World) (h : 1000 < n) (hn : n ≤ maxLen) :
    Calls Try.prog 4 #[.slice A n c, .int .i64 x] w fun e w' => e = .returned (.bool true) ∧ Below w.heap.size w w' := by
  unfold maxLen at hn
  go_enter Try.func4, Try.ntmps4
  go_wp2_with fail
  refine (awake_any _).mono ?_
  rintro e w4 ⟨rfl, hb4⟩
  go_wp2
  go_ret
  exact ⟨rfl, hb4⟩

/-- Where the second part lies. -/
def tailOf (A : Option Addr) (n k c : Nat) : Value := if c = k then .slice A (n - k) (c - k) else match A with
  | some ⟨b, off, s⟩ => .slice (some ⟨b, off + k, s⟩) (n - k) (c - k)
  | none => .slice none (n - k) (c - k)
/-- A part, wherever it lies. -/
def Part2 (w : World) (U : Nat) (v : Value) (xs : List Int) : Prop := ∃ A n c, v = .slice A n c ∧ Sh w U A n (by8 xs) ∧ n ≤ 1000
theorem tail_part {w : World} {U n k c : Nat} {A : Option Addr} {xs : List Int} (h : Sh w U A n (by8 xs)) (hk : k ≤ n) (hc : n ≤ c) (hn : n ≤ 1000) : Part2 w U (tailOf A n k c) (xs.drop k) := by
  have hl : xs.length = n := by have := h.len; rwa [by8_len] at this
  unfold tailOf
  split
  · rename_i e
    obtain rfl : k = n := by omega
    refine ⟨_, _, _, rfl, ?_, by omega⟩
    rw [Nat.sub_self, List.drop_eq_nil_of_le (by omega)]
    exact Sh.nil _ _ _
  · have hp : ∀ A', (∀ b off, A = some ⟨b, off, none⟩ → k < n → A' = some ⟨b, off + k, none⟩) → Sh w U A' (n - k) (by8 (xs.drop k)) := fun A' hA => by
      have := h.piece (lo := k) (hi := n) hk (Nat.le_refl _) hA
      rwa [by8_take, by8_drop, List.take_of_length_le (by omega)] at this
    split
    · exact ⟨_, _, _, rfl, hp _ (fun b off e _ => by cases e; rfl), by omega⟩
    · exact ⟨_, _, _, rfl, hp _ (fun b off e _ => by cases e), by omega⟩

set_option maxRecDepth 10000 in
set_option maxHeartbeats 1600000 in
theorem crcParts_short (A : Option Addr) (n c : Nat) (xs : List Int) (x : Int) (w : World) (h : ¬ 1000 < n) (hnc : n ≤ c) (hcm : c ≤ maxLen) (hA : c = 0 ∨ ∃ b off, A = some ⟨b, off, none⟩) (hx : Sh w w.heap.size A n (by8 xs)) (hbx : Byt xs) :
    Calls Try.prog 4 #[.slice A n c, .int .i64 x] w fun e w' => e = .returned (.bool true) ∧ Below w.heap.size w w' := by
  unfold maxLen at hcm
  go_enter Try.func4, Try.ntmps4
  go_wp2_with fail
  with_reducible refine (new_smr _).mono ?_
  rintro e w1 ⟨g, rfl, hg, s1, b1⟩
  go_wp2_with fail
  refine (pick_any x (n + 1) _ (by omega) (by omega)).mono ?_
  rintro e w' ⟨k, hk, rfl, rfl⟩
  have hk' : (k : Int) ≤ n := by omega
  have hkc : (k : Int) ≤ c := by omega
  have X := Lib.hid (fun w' (b : Below w.heap.size w w') => hx.below b)
  have h1 : ∀ W, Smr W g false 0 → Below w.heap.size w W → Calls Try.prog 9 #[.pointer (some ⟨g, 0, none⟩), .slice A k c] W fun e w' => e = .returned (.int .u32 (crcOf 0 (xs.take k) : Nat)) ∧ Smr w' g true 1 ∧ Below w.heap.size w w' := fun W hs hb => by
    have hh := (X.out W hb).head (k := k) (by omega)
    rw [by8_take] at hh
    exact (of_any g 0 false A k c (xs.take k) W _ hs (by omega) hh (hh.off hg) (hbx.take k) (by omega)).mono fun _ _ ⟨he, hs', ho⟩ => ⟨he, hs', hb.trans (ho.below hg)⟩
  have h2 : ∀ W, Smr W g true 1 → Below w.heap.size w W → Calls Try.prog 12 #[.pointer (some ⟨g, 0, none⟩), .int .u32 (crcOf 0 (xs.take k) : Nat), tailOf A n k c] W fun e w' => e = .returned (.int .u32 (crcOf 0 xs : Nat)) ∧ Smr w' g true 2 ∧ Below w.heap.size w w' := fun W hs hb => by
    obtain ⟨A', n', c', hv, hh, hn'⟩ := tail_part (X.out W hb) (k := k) (by omega) hnc (by omega)
    rw [hv]
    refine (more_any g 1 true _ A' n' c' (xs.drop k) W _ hs (by omega) (crc_lt _ _) hh (hh.off hg) (hbx.drop k) (by omega)).mono fun _ _ ⟨he, hs', ho⟩ => ⟨?_, hs', hb.trans (ho.below hg)⟩
    rw [crc_cut (by omega) hbx] at he
    exact he
  have h3 : ∀ W, Smr W g true 2 → Below w.heap.size w W → Calls Try.prog 9 #[.pointer (some ⟨g, 0, none⟩), .slice A n c] W fun e w' => e = .returned (.int .u32 (crcOf 0 xs : Nat)) ∧ Below w.heap.size w w' := fun W hs hb =>
    (of_any g 2 true A n c xs W _ hs (by omega) (X.out W hb) ((X.out W hb).off hg) hbx (by omega)).mono fun _ _ ⟨he, hs', ho⟩ => ⟨he, hb.trans (ho.below hg)⟩
  have H1 := Lib.hid h1
  have H2 := Lib.hid h2
  have H3 := Lib.hid h3
  have S1 := Lib.hid s1
  have B1 := Lib.hid b1
  clear h1 h2 h3 hx hbx X s1 b1
  have key : c = k ∨ (¬ c = k ∧ ∃ b off, A = some ⟨b, off, none⟩) := by
    by_cases e : c = k
    · exact .inl e
    · rcases hA with h0 | h0
      · omega
      · exact .inr ⟨e, h0⟩
  clear hA
  have AW := awake_any
  have HAW := Lib.hid AW
  clear AW
  rcases key with rfl | ⟨hck, b, off, rfl⟩
  · obtain rfl : n = c := by omega
    have H2' := H2
    unfold tailOf at H2'
    rw [if_pos rfl, Nat.sub_self] at H2'
    clear H2
    clear hnc hcm
    go_wp2_with fail
    refine region_start (by kernel_rfl) 35 rfl ?_
    refine wpAny_next 0 5 30 (by kernel_rfl) (fun _ _ d _ _ h => by cases d <;> exact h) ?_
    simp only [List.drop_succ_cons, List.drop_zero, List.take_succ_cons, List.take_zero]
    repeat (go_big_quiet_step (fail))
    refine wpQuiet_nil ?_
    refine wpAny_next 6 3 27 (by kernel_rfl) (fun _ _ d _ _ h => by cases d <;> exact h) ?_
    simp only [List.drop_succ_cons, List.drop_zero, List.take_succ_cons, List.take_zero]
    repeat (go_big_quiet_step (fail))
    refine wpQuiet_nil ?_
    refine wpAny_next 10 2 25 (by kernel_rfl) (fun _ _ d _ _ h => by cases d <;> exact h) ?_
    simp only [List.drop_succ_cons, List.drop_zero, List.take_succ_cons, List.take_zero]
    repeat (go_big_quiet_step (fail))
    refine wpQuiet_nil ?_
    refine wpAny_one (i := 5) (fuel := 24) (by kernel_rfl) rfl (fun K hK => ?_)
    go_simp
    refine (H1.out _ S1.out.drew B1.out.drew).mono ?_
    rintro e w2 ⟨rfl, s2, b2⟩
    refine hK _ _ ?_
    clear hK K
    have S2 := Lib.hid s2
    have B2 := Lib.hid b2
    clear s2 b2
    refine wpAny_one (i := 9) (fuel := 23) (by kernel_rfl) rfl (fun K hK => ?_)
    go_simp
    refine (H2'.out _ S2.out B2.out).mono ?_
    rintro e w3 ⟨rfl, s3, b3⟩
    refine hK _ _ ?_
    clear hK K
    have S3 := Lib.hid s3
    have B3 := Lib.hid b3
    clear s3 b3
    refine wpAny_one (i := 12) (fuel := 22) (by kernel_rfl) rfl (fun K hK => ?_)
    go_simp
    refine (H3.out _ S3.out B3.out).mono ?_
    rintro e w4 ⟨rfl, b4⟩
    refine hK _ _ ?_
    clear hK K
    have B4 := Lib.hid b4
    clear b4
    refine wpAny_next 13 4 18 (by kernel_rfl) (fun _ _ d _ _ h => by cases d <;> exact h) ?_
    simp only [List.drop_succ_cons, List.drop_zero, List.take_succ_cons, List.take_zero]
    repeat (go_big_quiet_step (fail))
    refine wpQuiet_nil ?_
    refine wpAny_one (i := 17) (fuel := 17) (by kernel_rfl) rfl (fun K hK => ?_)
    go_simp
    refine (of_nil _ _).mono ?_
    rintro e w5 ⟨rfl, rfl⟩
    refine hK _ _ ?_
    clear hK K
    refine wpAny_next 18 5 12 (by kernel_rfl) (fun _ _ d _ _ h => by cases d <;> exact h) ?_
    simp only [List.drop_succ_cons, List.drop_zero, List.take_succ_cons, List.take_zero]
    repeat (go_big_quiet_step (fail))
    refine wpQuiet_nil ?_
    refine wpAny_one (i := 23) (fuel := 11) (by kernel_rfl) rfl (fun K hK => ?_)
    go_simp
    refine (more_nil _ _ _).mono ?_
    rintro e w5 ⟨rfl, rfl⟩
    refine hK _ _ ?_
    clear hK K
    refine wpAny_next 24 4 7 (by kernel_rfl) (fun _ _ d _ _ h => by cases d <;> exact h) ?_
    simp only [List.drop_succ_cons, List.drop_zero, List.take_succ_cons, List.take_zero]
    repeat (go_big_quiet_step (fail))
    refine wpQuiet_nil ?_
    refine wpAny_one (i := 28) (fuel := 6) (by kernel_rfl) rfl (fun K hK => ?_)
    go_simp
    refine (calls_nil _).mono ?_
    rintro e w5 ⟨rfl, rfl⟩
    refine hK _ _ ?_
    clear hK K
    refine wpAny_next 29 3 3 (by kernel_rfl) (fun _ _ d _ _ h => by cases d <;> exact h) ?_
    simp only [List.drop_succ_cons, List.drop_zero, List.take_succ_cons, List.take_zero]
    repeat (go_big_quiet_step (fail))
    refine wpQuiet_nil ?_
    refine wpAny_one (i := 32) (fuel := 2) (by kernel_rfl) rfl (fun K hK => ?_)
    go_simp
    refine (HAW.out _).mono ?_
    rintro e w6 ⟨rfl, b6⟩
    refine hK _ _ ?_
    clear hK K
    refine wpAny_next 33 2 0 (by kernel_rfl) (fun _ _ d _ _ h => by cases d <;> exact h) ?_
    simp only [List.drop_succ_cons, List.drop_zero, List.take_succ_cons, List.take_zero]
    repeat (go_big_quiet_step (fail))
    refine wpQuiet_nil ?_
    refine wpAny_done (by kernel_rfl) ?_ _
    go_wp2
    go_ret
    exact ⟨rfl, B4.out.trans (b6.mono B4.out.size)⟩
  · have H2' := H2
    unfold tailOf at H2'
    rw [if_neg hck] at H2'
    simp only at H2'
    clear H2
    have hck2 : ¬ c ≤ k := by omega
    go_wp2_with fail
    refine region_start (by kernel_rfl) 35 rfl ?_
    refine wpAny_next 0 5 30 (by kernel_rfl) (fun _ _ d _ _ h => by cases d <;> exact h) ?_
    simp only [List.drop_succ_cons, List.drop_zero, List.take_succ_cons, List.take_zero]
    repeat (go_big_quiet_step (fail))
    refine wpQuiet_nil ?_
    refine wpAny_next 6 3 27 (by kernel_rfl) (fun _ _ d _ _ h => by cases d <;> exact h) ?_
    simp only [List.drop_succ_cons, List.drop_zero, List.take_succ_cons, List.take_zero]
    repeat (go_big_quiet_step (fail))
    refine wpQuiet_nil ?_
    refine wpAny_next 10 2 25 (by kernel_rfl) (fun _ _ d _ _ h => by cases d <;> exact h) ?_
    simp only [List.drop_succ_cons, List.drop_zero, List.take_succ_cons, List.take_zero]
    repeat (go_big_quiet_step (fail))
    refine wpQuiet_nil ?_
    refine wpAny_one (i := 5) (fuel := 24) (by kernel_rfl) rfl (fun K hK => ?_)
    go_simp
    refine (H1.out _ S1.out.drew B1.out.drew).mono ?_
    rintro e w2 ⟨rfl, s2, b2⟩
    refine hK _ _ ?_
    clear hK K
    have S2 := Lib.hid s2
    have B2 := Lib.hid b2
    clear s2 b2
    refine wpAny_one (i := 9) (fuel := 23) (by kernel_rfl) rfl (fun K hK => ?_)
    go_simp
    refine (H2'.out _ S2.out B2.out).mono ?_
    rintro e w3 ⟨rfl, s3, b3⟩
    refine hK _ _ ?_
    clear hK K
    have S3 := Lib.hid s3
    have B3 := Lib.hid b3
    clear s3 b3
    refine wpAny_one (i := 12) (fuel := 22) (by kernel_rfl) rfl (fun K hK => ?_)
    go_simp
    refine (H3.out _ S3.out B3.out).mono ?_
    rintro e w4 ⟨rfl, b4⟩
    refine hK _ _ ?_
    clear hK K
    have B4 := Lib.hid b4
    clear b4
    refine wpAny_next 13 4 18 (by kernel_rfl) (fun _ _ d _ _ h => by cases d <;> exact h) ?_
    simp only [List.drop_succ_cons, List.drop_zero, List.take_succ_cons, List.take_zero]
    repeat (go_big_quiet_step (fail))
    refine wpQuiet_nil ?_
    refine wpAny_one (i := 17) (fuel := 17) (by kernel_rfl) rfl (fun K hK => ?_)
    go_simp
    refine (of_nil _ _).mono ?_
    rintro e w5 ⟨rfl, rfl⟩
    refine hK _ _ ?_
    clear hK K
    refine wpAny_next 18 5 12 (by kernel_rfl) (fun _ _ d _ _ h => by cases d <;> exact h) ?_
    simp only [List.drop_succ_cons, List.drop_zero, List.take_succ_cons, List.take_zero]
    repeat (go_big_quiet_step (fail))
    refine wpQuiet_nil ?_
    refine wpAny_one (i := 23) (fuel := 11) (by kernel_rfl) rfl (fun K hK => ?_)
    go_simp
    refine (more_nil _ _ _).mono ?_
    rintro e w5 ⟨rfl, rfl⟩
    refine hK _ _ ?_
    clear hK K
    refine wpAny_next 24 4 7 (by kernel_rfl) (fun _ _ d _ _ h => by cases d <;> exact h) ?_
    simp only [List.drop_succ_cons, List.drop_zero, List.take_succ_cons, List.take_zero]
    repeat (go_big_quiet_step (fail))
    refine wpQuiet_nil ?_
    refine wpAny_one (i := 28) (fuel := 6) (by kernel_rfl) rfl (fun K hK => ?_)
    go_simp
    refine (calls_nil _).mono ?_
    rintro e w5 ⟨rfl, rfl⟩
    refine hK _ _ ?_
    clear hK K
    refine wpAny_next 29 3 3 (by kernel_rfl) (fun _ _ d _ _ h => by cases d <;> exact h) ?_
    simp only [List.drop_succ_cons, List.drop_zero, List.take_succ_cons, List.take_zero]
    repeat (go_big_quiet_step (fail))
    refine wpQuiet_nil ?_
    refine wpAny_one (i := 32) (fuel := 2) (by kernel_rfl) rfl (fun K hK => ?_)
    go_simp
    refine (HAW.out _).mono ?_
    rintro e w6 ⟨rfl, b6⟩
    refine hK _ _ ?_
    clear hK K
    refine wpAny_next 33 2 0 (by kernel_rfl) (fun _ _ d _ _ h => by cases d <;> exact h) ?_
    simp only [List.drop_succ_cons, List.drop_zero, List.take_succ_cons, List.take_zero]
    repeat (go_big_quiet_step (fail))
    refine wpQuiet_nil ?_
    refine wpAny_done (by kernel_rfl) ?_ _
    go_wp2
    go_ret
    exact ⟨rfl, B4.out.trans (b6.mono B4.out.size)⟩

theorem crcParts_walk (a0 : Option Addr) (len0 cap0 : Nat) (z0 : List Int) (a1 : Int) (w : World) (w0 : IsRow .u8 w a0 len0 cap0 z0) (w1 : (Lit.int .i64 a1).wf = true) :
    Calls Try.prog 4 #[.slice a0 len0 cap0, .int .i64 a1] w fun e w' => e = .returned (.bool true) ∧ Below w.heap.size w w' := by
  obtain ⟨l0, m0, _, s0, b0⟩ := w0.sh
  by_cases h : 1000 < len0
  · exact crcParts_long _ _ _ _ _ h (by omega)
  · exact crcParts_short _ _ _ _ _ _ h l0 m0 w0.form s0 (byt_of b0)
end Go.Proofs.Ytboliolmhijjhaa
