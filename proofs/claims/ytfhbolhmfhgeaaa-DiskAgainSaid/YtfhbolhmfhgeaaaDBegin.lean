/-
  CONTRACTS OF the small calls of a disk: callIn, Fuse, Fault, Dead, Calls, begin.
-/
import Derived.Test.YtfhbolhmfhgeaaaDTurns
import Derived.Laws.LoneSync
import Derived.IntWalk
namespace Go.Proofs.Ytfhbolhmfhgeaaa
set_option linter.unusedVariables false
set_option linter.unusedSimpArgs false
open Go.RowKit

theorem ret_int64 {a b : Int} (h : a = b) : Ending.returned (.int .i64 a) = .returned (.int .i64 b) := by rw [h]
/-- '(*sync/atomic.Int64).Add(1)'. -/
theorem count_any (a : Addr) (k : Nat) (w : World) (h0 : w.cell? a = some (.int .i64 (k : Int))) (hz : w.frozen? a = false) (hk : k ≤ 1000000000) :
    Calls Try.prog 72 #[.pointer (some a), .int .i64 1] w fun e w' => e = .returned (.int .i64 ((k : Int) + 1)) ∧ w' = w.setCell a (.int .i64 ((k : Int) + 1)) := by
  have hadd := run_call_add (P := Try.prog) Try.func80 (by kernel_rfl) (by kernel_rfl) (by kernel_rfl) .i64 (by kernel_rfl) (y := 1) (s := (k : Int) + 1) h0 hz (by simp [go_sem, IntWalk.i64_in ((k : Int) + 1) (by omega)])
  go_enter Try.func72, Try.ntmps72
  go_wp2
  go_ret
  exact ⟨rfl, rfl⟩
theorem load_any (a : Addr) (k : Int) (w : World) (h0 : w.cell? a = some (.int .i64 k)) :
    Calls Try.prog 65 #[.pointer (some a)] w fun e w' => e = .returned (.int .i64 k) ∧ w = w' := by
  have hl := run_call_load (P := Try.prog) Try.func78 (by kernel_rfl) (by kernel_rfl) (by kernel_rfl) .i64 (by kernel_rfl) h0
  go_enter Try.func65, Try.ntmps65
  go_wp2
  go_ret
  exact ⟨rfl, rfl⟩

section
variable {w : World} {X : Nat → Prop} {g : Nat} {L : Lay} {S : St}

/-- The number of the n-th call from now on. -/
def armN (n : Int) (calls : Nat) : Nat := if 1 ≤ n ∧ n ≤ 1099511627776 then calls + n.toNat else 0
theorem callIn_any (h : DAt w X g L S) (n : Int) (hc : S.calls ≤ 1000000000) :
    Calls Try.prog 56 #[ptrTo g, .int .i64 n] w fun e w' => e = .returned (.int .i64 (armN n S.calls : Nat)) ∧ w = w' := by
  have c5 : w.cell? ⟨g, 5, none⟩ = some (.int .i64 (S.calls : Int)) := h.cells.cell 5
  unfold ptrTo
  by_cases h1 : n < 1
  · have H := Lib.hid (show ((armN n S.calls : Nat) : Int) = 0 by unfold armN; rw [if_neg (by omega)]; rfl)
    go_enter Try.func56, Try.ntmps56
    go_wp2
    go_ret
    exact ⟨ret_int64 H.out.symm, rfl⟩
  · by_cases h2 : 1099511627776 < n
    · have H := Lib.hid (show ((armN n S.calls : Nat) : Int) = 0 by unfold armN; rw [if_neg (by omega)]; rfl)
      go_enter Try.func56, Try.ntmps56
      go_wp2
      go_ret
      exact ⟨ret_int64 H.out.symm, rfl⟩
    · have H := Lib.hid (show ((armN n S.calls : Nat) : Int) = (S.calls : Int) + n by unfold armN; rw [if_pos (by omega)]; omega)
      go_enter Try.func56, Try.ntmps56
      go_wp2_with (go_at_call 65; refine (load_any _ _ _ c5).mono ?_; rintro e w' ⟨rfl, rfl⟩)
      go_ret
      exact ⟨ret_int64 H.out.symm, rfl⟩

theorem fuse_any (h : DAt w X g L S) (n : Int) (hc : S.calls ≤ 1000000000) :
    Calls Try.prog 24 #[ptrTo g, .int .i64 n] w fun e w' => e = .returned (.tuple #[]) ∧ DAt w' X g L { S with fuse := armN n S.calls } ∧ Keeps X w w' := by
  have f6 := h.cells.nf 6
  have c6 : w.cell? ⟨g, 6, none⟩ = some (.int .i64 (S.fuse : Int)) := h.cells.cell 6
  have HC := Lib.hid (callIn_any h n hc)
  have H := Lib.hid h
  clear h
  unfold ptrTo at *
  obtain ⟨c, hcc⟩ : ∃ c, c = armN n S.calls := ⟨_, rfl⟩
  rw [← hcc] at HC ⊢
  clear hcc
  go_enter Try.func24, Try.ntmps24
  go_wp2_with (go_at_call 56; refine HC.out.mono ?_; rintro e w' ⟨rfl, rfl⟩)
  first | go_ret | go_end0
  exact ⟨rfl, H.out.setg 6 _ rfl rfl rfl rfl rfl, (Keeps.refl X w).grown (grown_set w g 6 _) H.out.old (fun k hk => by cases hk; exact H.out.gX)⟩

/-- A fault of n with the error e. -/
def faultN (n e : Int) (calls : Nat) : Nat := if e = 0 ∨ e = 9 then 0 else armN n calls
theorem armN_zero (c : Nat) : armN 0 c = 0 := by unfold armN; rw [if_neg (by omega)]
theorem fault_any (h : DAt w X g L S) (n e : Int) (hc : S.calls ≤ 1000000000) :
    Calls Try.prog 28 #[ptrTo g, .int .i64 n, .int .i64 e] w fun r w' => r = .returned (.tuple #[]) ∧ DAt w' X g L { S with fault := faultN n e S.calls, fe := e } ∧ Keeps X w w' := by
  have f7 := h.cells.nf 7
  have f8 := h.cells.nf 8
  have c7 : w.cell? ⟨g, 7, none⟩ = some (.int .i64 (S.fault : Int)) := h.cells.cell 7
  have c8 : w.cell? ⟨g, 8, none⟩ = some (.int .i64 S.fe) := h.cells.cell 8
  have H := Lib.hid h
  have fin : ∀ c : Nat, c = faultN n e S.calls → DAt ((w.setCell ⟨g, 7, none⟩ (.int .i64 (c : Int))).setCell ⟨g, 8, none⟩ (.int .i64 e)) X g L { S with fault := faultN n e S.calls, fe := e } ∧ Keeps X w ((w.setCell ⟨g, 7, none⟩ (.int .i64 (c : Int))).setCell ⟨g, 8, none⟩ (.int .i64 e)) := fun c hcc => by
    subst hcc
    have h1 := h.setg (S' := { S with fault := faultN n e S.calls }) 7 (.int .i64 (faultN n e S.calls : Nat)) rfl rfl rfl rfl rfl
    refine ⟨h1.setg 8 _ rfl rfl rfl rfl rfl, ?_⟩
    exact ((Keeps.refl X w).grown (grown_set w g 7 _) h.old (fun k hk => by cases hk; exact h.gX)).grown (grown_set _ g 8 _) h1.old (fun k hk => by cases hk; exact h.gX)
  have FIN := Lib.hid fin
  clear fin
  by_cases h1 : e = 0
  · have HC := Lib.hid (callIn_any h 0 hc)
    rw [armN_zero] at HC
    subst h1
    clear h
    unfold ptrTo at *
    go_enter Try.func28, Try.ntmps28
    go_wp2_with (go_at_call 56; refine HC.out.mono ?_; rintro e w' ⟨rfl, rfl⟩)
    first | go_ret | go_end0
    exact ⟨rfl, FIN.out 0 (by simp [faultN])⟩
  · by_cases h2 : e = 9
    · have HC := Lib.hid (callIn_any h 0 hc)
      rw [armN_zero] at HC
      subst h2
      clear h
      unfold ptrTo at *
      go_enter Try.func28, Try.ntmps28
      go_wp2_with (go_at_call 56; refine HC.out.mono ?_; rintro e w' ⟨rfl, rfl⟩)
      first | go_ret | go_end0
      exact ⟨rfl, FIN.out 0 (by simp [faultN])⟩
    · have HC := Lib.hid (callIn_any h n hc)
      have e1 : (e == 0) = false := by simpa using h1
      have e2 : (e == 9) = false := by simpa using h2
      have hcc := Lib.hid (show armN n S.calls = faultN n e S.calls by unfold faultN; rw [if_neg (by omega)])
      obtain ⟨c, hc0⟩ : ∃ c, c = armN n S.calls := ⟨_, rfl⟩
      rw [← hc0] at HC hcc
      clear h h1 h2 hc0
      unfold ptrTo at *
      go_enter Try.func28, Try.ntmps28
      go_wp2_with (go_at_call 56; refine HC.out.mono ?_; rintro e w' ⟨rfl, rfl⟩)
      first | go_ret | go_end0
      exact ⟨rfl, FIN.out c hcc.out⟩
theorem dead_any (h : DAt w X g L S) : Calls Try.prog 33 #[ptrTo g] w fun e w' => e = .returned (.bool S.dead) ∧ w = w' := by
  have c9 : w.cell? ⟨g, 9, none⟩ = some (.bool S.dead) := h.cells.cell 9
  unfold ptrTo
  go_enter Try.func33, Try.ntmps33
  go_wp2
  go_ret
  exact ⟨rfl, rfl⟩
theorem calls_any (h : DAt w X g L S) : Calls Try.prog 34 #[ptrTo g] w fun e w' => e = .returned (.int .i64 (S.calls : Int)) ∧ w = w' := by
  have c5 : w.cell? ⟨g, 5, none⟩ = some (.int .i64 (S.calls : Int)) := h.cells.cell 5
  unfold ptrTo
  go_enter Try.func34, Try.ntmps34
  go_wp2_with (go_at_call 65; refine (load_any _ _ _ c5).mono ?_; rintro e w' ⟨rfl, rfl⟩)
  go_ret
  exact ⟨rfl, rfl⟩

/-- What a call that changes answers, if it does nothing; and the disk then. -/
def St.berr (S : St) : Int := if S.dead = true then 9 else if S.calls + 1 = S.fuse then 9 else if S.calls + 1 = S.fault then S.fe else 0
def St.begun (S : St) : St := if S.dead = true then S else if S.calls + 1 = S.fuse then { S with calls := S.calls + 1, dead := true } else { S with calls := S.calls + 1 }
theorem begin_any (h : DAt w X g L S) (hc : S.calls ≤ 1000000) :
    Calls Try.prog 51 #[ptrTo g] w fun e w' => e = .returned (.int .i64 S.berr) ∧ DAt w' X g L S.begun ∧ Keeps X w w' := by
  have c9 : w.cell? ⟨g, 9, none⟩ = some (.bool S.dead) := h.cells.cell 9
  have c5 : w.cell? ⟨g, 5, none⟩ = some (.int .i64 (S.calls : Int)) := h.cells.cell 5
  have f5 := h.cells.nf 5
  have H := Lib.hid h
  by_cases hd : S.dead = true
  · have HE := Lib.hid (show S.berr = 9 by unfold St.berr; rw [if_pos hd])
    have HB := Lib.hid (show S.begun = S by unfold St.begun; rw [if_pos hd])
    rw [hd] at c9
    clear hd h
    unfold ptrTo
    go_enter Try.func51, Try.ntmps51
    go_wp2
    go_ret
    exact ⟨ret_int64 HE.out.symm, by rw [HB.out]; exact H.out, Keeps.refl _ _⟩
  · have h1 := h.setg (S' := { S with calls := S.calls + 1 }) 5 (.int .i64 ((S.calls : Int) + 1)) rfl rfl rfl rfl rfl
    have HK := Lib.hid ((Keeps.refl X w).grown (grown_set w g 5 (.int .i64 ((S.calls : Int) + 1))) h.old (fun k hk => by cases hk; exact h.gX))
    have hd' : S.dead = false := by simpa using hd
    obtain ⟨w1, hw1⟩ : ∃ w1, w1 = w.setCell ⟨g, 5, none⟩ (.int .i64 ((S.calls : Int) + 1)) := ⟨_, rfl⟩
    rw [← hw1] at h1 HK
    have HW := Lib.hid hw1.symm
    have d6 : w1.cell? ⟨g, 6, none⟩ = some (.int .i64 (S.fuse : Int)) := h1.cells.cell 6
    have d7 : w1.cell? ⟨g, 7, none⟩ = some (.int .i64 (S.fault : Int)) := h1.cells.cell 7
    have d8 : w1.cell? ⟨g, 8, none⟩ = some (.int .i64 S.fe) := h1.cells.cell 8
    have d9 : w1.cell? ⟨g, 9, none⟩ = some (.bool S.dead) := h1.cells.cell 9
    have k9 := h1.cells.nf 9
    rw [hd'] at c9 d9
    have H1 := Lib.hid h1
    have HD := Lib.hid hd
    have CNT := Lib.hid (count_any ⟨g, 5, none⟩ S.calls w c5 f5 (by omega))
    unfold Hid at HW
    rw [HW] at CNT
    have HC := Lib.hid hc
    clear h h1 hd hd' hw1 HW c5 f5 hc
    unfold ptrTo
    by_cases hf : S.calls + 1 = S.fuse
    · have e1 : ((S.calls : Int) + 1 == (S.fuse : Int)) = true := by simp; omega
      have HE := Lib.hid (show S.berr = 9 by unfold St.berr; rw [if_neg HD.out, if_pos hf])
      have HB := Lib.hid (show S.begun = { S with calls := S.calls + 1, dead := true } by unfold St.begun; rw [if_neg HD.out, if_pos hf])
      clear hf
      go_enter Try.func51, Try.ntmps51
      go_wp2_with (go_at_call 72; refine CNT.out.mono ?_; rintro e w' ⟨rfl, rfl⟩)
      go_ret
      refine ⟨ret_int64 HE.out.symm, by rw [HB.out]; exact H1.out.setg 9 _ rfl rfl rfl rfl rfl, HK.out.grown (grown_set _ g 9 _) H1.out.old (fun k hk => by cases hk; exact H1.out.gX)⟩
    · have e1 : ((S.calls : Int) + 1 == (S.fuse : Int)) = false := by simp; omega
      have HB := Lib.hid (show S.begun = { S with calls := S.calls + 1 } by unfold St.begun; rw [if_neg HD.out, if_neg hf])
      have HF := Lib.hid hf
      clear hf
      by_cases ha : S.calls + 1 = S.fault
      · have e2 : ((S.calls : Int) + 1 == (S.fault : Int)) = true := by simp; omega
        have HE := Lib.hid (show S.berr = S.fe by unfold St.berr; rw [if_neg HD.out, if_neg HF.out, if_pos ha])
        clear ha
        go_enter Try.func51, Try.ntmps51
        go_wp2_with (go_at_call 72; refine CNT.out.mono ?_; rintro e w' ⟨rfl, rfl⟩)
        go_ret
        exact ⟨ret_int64 HE.out.symm, by rw [HB.out]; exact H1.out, HK.out⟩
      · have e2 : ((S.calls : Int) + 1 == (S.fault : Int)) = false := by simp; omega
        have HE := Lib.hid (show S.berr = 0 by unfold St.berr; rw [if_neg HD.out, if_neg HF.out, if_neg ha])
        clear ha
        go_enter Try.func51, Try.ntmps51
        go_wp2_with (go_at_call 72; refine CNT.out.mono ?_; rintro e w' ⟨rfl, rfl⟩)
        go_ret
        exact ⟨ret_int64 HE.out.symm, by rw [HB.out]; exact H1.out, HK.out⟩
end
end Go.Proofs.Ytfhbolhmfhgeaaa
