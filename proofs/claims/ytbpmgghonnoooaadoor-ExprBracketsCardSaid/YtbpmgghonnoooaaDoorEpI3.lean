/-
  CONTRACTS OF A CURSOR THAT IS NONE; what Parse's answers are like.
-/
import Derived.Test.YtbpmgghonnoooaaDoorEpI2
namespace Go.Proofs.YtbpmgghonnoooaaDoor
set_option linter.unusedVariables false
set_option linter.unusedSimpArgs false
open Go.RowKit

abbrev nilP : Value := .pointer none
set_option maxRecDepth 10000 in
theorem peekN (w : World) : Calls Tryd.prog 20 #[nilP] w fun e w' => e = .returned (.string ⟨#[]⟩) ∧ w = w' := by
  go_enter Tryd.func20, Tryd.ntmps20
  go_wp2
  go_ret
  exact ⟨rfl, rfl⟩
set_option maxRecDepth 10000 in
theorem identN (w : World) : Calls Tryd.prog 26 #[nilP] w fun e w' => e = .returned (.tuple #[.string ⟨#[]⟩, .bool false]) ∧ Below w.heap.size w w' := by
  have HI : Hid (∀ W, Calls Tryd.prog 43 #[.string ⟨#[]⟩] W fun e w' => e = .returned (.bool false) ∧ Below W.heap.size W w') := Lib.hid fun W => by
    have := ident_any ⟨#[]⟩ W
    rwa [idb_e] at this
  go_enter Tryd.func26, Tryd.ntmps26
  go_wp2_with (first
    | (go_at_call 20; refine (peekN _).mono ?_; rintro e w2 ⟨rfl, rfl⟩)
    | (go_at_call 43; refine (HI.out _).mono ?_; rintro e w3 ⟨rfl, b3⟩)
    | fail)
  go_ret2
  exact ⟨rfl, b3⟩
set_option maxRecDepth 10000 in
theorem exprN (w : World) : Calls Tryd.prog 29 #[nilP] w fun e w' => e = .returned (.tuple #[exV Ex.nul (.slice none 0 0), .int .i64 1]) ∧ Below w.heap.size w w' := by
  have hz := zeroEx'
  go_enter Tryd.func29, Tryd.ntmps29
  go_wp2_with (first
    | (refine wpList_stx rfl (.tmp 2) (.tmp 6) rfl w.heap.size rfl (entry_slot w) (e := Ex.nul) (lv := .slice none 0 0) rfl rfl ?_; intro w3 hg3 hs3; have HG3 := Lib.hid hg3; have HS3 := Lib.hid hs3; clear hg3 hs3)
    | fail)
  exact ex_done rfl rfl rfl rfl HS3.out ⟨rfl, bel_fr (entry_below w) HG3.out (Nat.le_refl _) (by rw [entry_size]; omega)⟩
set_option maxRecDepth 10000 in
theorem doneN (w : World) : Calls Tryd.prog 24 #[nilP] w fun e w' => e = .returned (.bool false) ∧ Quiet w w' := by
  go_enter Tryd.func24, Tryd.ntmps24
  go_wp2
  go_quiet (fail)
  go_wp2
  go_ret
  exact ⟨rfl, ⟨_, rfl⟩⟩
set_option maxRecDepth 10000 in
theorem takeN (w : World) : Calls Tryd.prog 25 #[nilP, .string ⟨#[97]⟩] w fun e w' => e = .returned (.bool false) ∧ w = w' := by
  have e0 := empty_toList
  go_enter Tryd.func25, Tryd.ntmps25
  go_wp2_with (first
    | (go_at_call 20; refine (peekN _).mono ?_; rintro e w2 ⟨rfl, rfl⟩)
    | fail)
  go_ret
  exact ⟨rfl, rfl⟩
set_option maxRecDepth 10000 in
theorem tokenN (w : World) : Calls Tryd.prog 42 #[nilP] w (TokTo (0, 0, 0) w) := by
  have hz := zeroTok
  go_enter Tryd.func42, Tryd.ntmps42
  go_wp2
  refine bodyPost_ret (v := .agg #[.int .i64 0, .int .i64 0, .int .i64 0]) ?_ rfl ⟨rfl, (Below.refl _ w).alloc (Nat.le_refl _) _⟩
  have hr : Tryd.f42.results = #[.cell 2 49] := rfl
  have hl := tok_load (w.alloc (.cells #[.int .i64 0, .int .i64 0, .int .i64 0] 49)) w.heap.size 0 (.int .i64 0) (.int .i64 0) (.int .i64 0) (by rw [World.cell?_alloc_at _ _ _ _ rfl]; rfl) (by rw [World.cell?_alloc_at _ _ _ _ rfl]; rfl) (by rw [World.cell?_alloc_at _ _ _ _ rfl]; rfl)
  simp [results, hr, asAddr, hl]
set_option maxRecDepth 10000 in
theorem kindN (w : World) : Calls Tryd.prog 23 #[nilP] w fun e w' => e = .returned (.int .i64 0) ∧ Below w.heap.size w w' := by
  have hf0 := field_tok0
  go_enter Tryd.func23, Tryd.ntmps23
  go_wp2_with (first
    | (go_at_call 42; refine (tokenN _).mono ?_; rintro e w2 ⟨rfl, b2⟩; dsimp only)
    | fail)
  go_ret
  exact ⟨rfl, b2⟩
set_option maxRecDepth 10000 in
theorem posN (w : World) : Calls Tryd.prog 21 #[nilP] w fun e w' => e = .returned (.int .i64 0) ∧ Below w.heap.size w w' := by
  have hf1 := field_tok1
  go_enter Tryd.func21, Tryd.ntmps21
  go_wp2_with (first
    | (go_at_call 42; refine (tokenN _).mono ?_; rintro e w2 ⟨rfl, b2⟩; dsimp only)
    | fail)
  go_ret
  exact ⟨rfl, b2⟩
set_option maxRecDepth 10000 in
theorem endN (w : World) : Calls Tryd.prog 28 #[nilP] w fun e w' => e = .returned (.int .i64 0) ∧ w = w' := by
  go_enter Tryd.func28, Tryd.ntmps28
  go_wp2
  go_ret
  exact ⟨rfl, rfl⟩

/-- What Parse's answer is like. -/
theorem parse_facts {T : ByteArray} {bs : List Int} (hb : bts T = bs) (hn : bs.length ≤ 1000000) (f : Nat) :
    ((parseG (rowT T (live bs 0)) (live bs 0) f).2.2 = 0 → Fine (parseG (rowT T (live bs 0)) (live bs 0) f).1 ∧ (parseG (rowT T (live bs 0)) (live bs 0) f).1.cnt ≤ 1000000 ∧ (parseG (rowT T (live bs 0)) (live bs 0) f).1.ins (bs.length : Int) ∧ 0 ≤ (parseG (rowT T (live bs 0)) (live bs 0) f).1.a ∧ (parseG (rowT T (live bs 0)) (live bs 0) f).1.a < (bs.length : Int)) ∧
    0 ≤ (parseG (rowT T (live bs 0)) (live bs 0) f).2.1 ∧ (parseG (rowT T (live bs 0)) (live bs 0) f).2.1 ≤ (bs.length : Int) := by
  have hs : T.size = bs.length := by rw [← hb, bts_len]
  have hM := live_mono hb
  have hll := live_len bs
  have hok := row_ok T (live bs 0)
  obtain ⟨R, hR⟩ : ∃ R, rowT T (live bs 0) = R := ⟨_, rfl⟩
  have hn' : R.n = (live bs 0).length := by rw [← hR]; rfl
  have hpn : R.ps R.n = (bs.length : Int) := by
    rw [hn', ← hR]
    have : (rowT T (live bs 0)).ps (live bs 0).length = (T.size : Int) := by simp only [rowT, List.getElem?_eq_none (Nat.le_refl _)]
    rw [this]
    omega
  have h0 : 0 ≤ R.ps 0 := by
    rw [← hR]
    cases h : (live bs 0)[0]? with
    | none =>
      have : (rowT T (live bs 0)).ps 0 = (T.size : Int) := by simp only [rowT, h]
      rw [this]
      omega
    | some t =>
      have : (rowT T (live bs 0)).ps 0 = t.2.1 := by simp only [rowT, h]
      rw [this]
      obtain ⟨v, _, rfl⟩ := mem_live (List.mem_of_getElem? h)
      show (0 : Int) ≤ (v : Int)
      omega
  rw [hR] at hM hok ⊢
  have hin := rd_in hok f (.lev 1) 0 0 (Nat.zero_le _) (fun h => by cases h)
  have hfi := rd_fine hok (by omega) f (.lev 1) 0 0 (Nat.zero_le _) (fun h => by cases h) trivial
  have hns := rd_ins hok hM f (.lev 1) 0 0 (Nat.zero_le _) (fun h => by cases h) trivial
  unfold parseG
  generalize rd R f (.lev 1) 0 0 = g at hin hfi hns ⊢
  have hp0 := hM.le (Nat.zero_le g.p) hin.2.1
  have hp1 := hM.le hin.2.1 (Nat.le_refl _)
  by_cases hbd : isBad (live bs 0) = true
  · rw [if_pos hbd]
    refine ⟨(fun h => by cases h), ?_⟩
    unfold isBad at hbd
    unfold badOf
    obtain ⟨t, ht⟩ := Option.isSome_iff_exists.1 hbd
    rw [ht]
    obtain ⟨v, hv, rfl⟩ := mem_live (List.mem_of_find?_eq_some ht)
    exact ⟨by show (0 : Int) ≤ (v : Int); omega, by show (v : Int) ≤ _; omega⟩
  · rw [if_neg hbd]
    by_cases hc : g.r = 0 ∧ g.p ≠ R.n
    · rw [if_pos hc]
      exact ⟨(fun h => by cases h), by show 0 ≤ R.ps g.p; omega, by show R.ps g.p ≤ (bs.length : Int); omega⟩
    · rw [if_neg hc]
      refine ⟨fun h => ?_, by show 0 ≤ R.ps g.p; omega, by show R.ps g.p ≤ _; omega⟩
      have h : g.r = 0 := h
      have h1 := hfi h
      have h2 := hns h
      have h3 := h1.2
      have h4 := hin.2.1
      have h5 := h2.1
      unfold InsX at h5
      rw [hpn] at h5
      exact ⟨h1.1, by show g.e.cnt ≤ _; omega, h5.1, by show 0 ≤ g.e.a; have := h2.2.1; omega, h5.2⟩
end Go.Proofs.YtbpmgghonnoooaaDoor
