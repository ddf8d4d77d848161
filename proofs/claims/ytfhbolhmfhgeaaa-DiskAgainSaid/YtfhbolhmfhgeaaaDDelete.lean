/-
  CONTRACTS OF slices.IndexFunc and slices.DeleteFunc at files.
-/
import Derived.Test.YtfhbolhmfhgeaaaDKeep2
import Derived.Lib.SliceRun
namespace Go.Proofs.Ytfhbolhmfhgeaaa
set_option linter.unusedVariables false
set_option linter.unusedSimpArgs false
open Go.RowKit Go.Maps

/-- What a test of a file reads. -/
def Reads (w : World) (f : Fl) : Prop := w.cell? ⟨f.blk, 1, none⟩ = some (.int .i64 (f.unsure : Int)) ∧ w.cell? ⟨f.blk, 2, none⟩ = some (.bool f.named)
/-- Files that are forgotten when names become sure; files that go when the power comes back. -/
def goneSure (f : Fl) : Bool := !f.named && f.unsure == 0
def goneBoot (f : Fl) : Bool := !f.named
theorem test_sure (f : Fl) (w : World) (h : Reads w f) (hu : f.unsure ≤ 1048576) : Calls Try.prog 73 #[ptrTo f.blk] w fun e w' => e = .returned (.bool (goneSure f)) ∧ w = w' := by
  obtain ⟨b, d, u, nm⟩ := f
  obtain ⟨h1, h2⟩ := h
  simp only at h1 h2 hu
  unfold ptrTo
  cases nm with
  | true =>
    go_enter Try.func73, Try.ntmps73
    go_wp2
    go_ret
    exact ⟨rfl, rfl⟩
  | false =>
    by_cases h0 : u = 0
    · subst h0
      go_enter Try.func73, Try.ntmps73
      go_wp2
      go_ret
      exact ⟨rfl, rfl⟩
    · have e : ((u : Int) == 0) = false := by simp; omega
      have H := Lib.hid (show goneSure ⟨b, d, u, false⟩ = false by simp [goneSure, h0])
      go_enter Try.func73, Try.ntmps73
      go_wp2
      go_ret
      exact ⟨ret_bool H.out.symm, rfl⟩
theorem test_boot (f : Fl) (w : World) (h : Reads w f) : Calls Try.prog 60 #[ptrTo f.blk] w fun e w' => e = .returned (.bool (goneBoot f)) ∧ w = w' := by
  obtain ⟨b, d, u, nm⟩ := f
  obtain ⟨h1, h2⟩ := h
  simp only at h1 h2
  unfold ptrTo
  cases nm
  all_goals
    go_enter Try.func60, Try.ntmps60
    go_wp2
    go_ret
    exact ⟨rfl, rfl⟩

/-- The first file that is to go. -/
def firstGone (p : Fl → Bool) (fs : List Fl) : Int := match fs.findIdx? p with | some i => (i : Int) | none => -1
def Tests (F : FuncId) (p : Fl → Bool) (fs : List Fl) : Prop := ∀ f ∈ fs, ∀ w, Reads w f → Calls Try.prog F #[ptrTo f.blk] w fun e w' => e = .returned (.bool (p f)) ∧ w = w'
/-- The slice shows pointers to the files. -/
def Ptrs (w : World) (A : Option Addr) (n : Nat) (fs : List Fl) : Prop := fs.length = n ∧ ∀ k, k < n → ∃ b off f, A = some ⟨b, off, none⟩ ∧ fs[k]? = some f ∧ w.cell? ⟨b, off + k, none⟩ = some (ptrTo f.blk)

set_option maxRecDepth 10000 in
set_option maxHeartbeats 1600000 in
theorem index_any (F : FuncId) (hF : F = 73 ∨ F = 60) (p : Fl → Bool) (A : Option Addr) (n c : Nat) (fs : List Fl) (w : World) (hn : n ≤ 1000000) (hp : Ptrs w A n fs) (hr : ∀ f ∈ fs, Reads w f) (hT : Tests F p fs) :
    Calls Try.prog 74 #[.slice A n c, .func (.func F) #[] #[]] w fun e w' => e = .returned (.int .i64 (firstGone p fs)) ∧ w = w' := by
  have HT := Lib.hid hT
  have HR := Lib.hid hr
  have HP := Lib.hid hp
  clear hT hr hp
  rcases hF with rfl | rfl
  all_goals
    go_enter Try.func74, Try.ntmps74
    go_wp2
    go_loop [8] (fun i => ∃ k : Nat, k ≤ n ∧ i = .int .i64 k ∧ Hid (∀ j, j < k → ∀ f, fs[j]? = some f → p f = false)) (fun i => n - (intOf i).toNat)
    case atStart => exact ⟨0, Nat.zero_le _, rfl, fun j hj => absurd hj (by omega)⟩
    case round =>
      obtain ⟨k, hk, rfl, hall⟩ := hrel
      by_cases hlt : k < n
      · obtain ⟨b, off, f, rfl, hf, hcell⟩ := HP.out.2 k hlt
        have HC := Lib.hid (HT.out f (List.mem_of_getElem? hf) w (HR.out f (List.mem_of_getElem? hf)))
        have HFF := Lib.hid hf
        obtain ⟨v, hv⟩ : ∃ v, v = p f := ⟨_, rfl⟩
        rw [← hv] at HC
        unfold ptrTo at *
        cases v with
        | true =>
          have HV := Lib.hid (show firstGone p fs = (k : Int) by
            unfold firstGone
            have : fs.findIdx? p = some k := by
              rw [List.findIdx?_eq_some_iff_getElem]
              obtain ⟨h1, h2⟩ := List.getElem?_eq_some_iff.1 HFF.out
              refine ⟨h1, by rw [h2]; exact hv.symm, fun j hj => ?_⟩
              have := hall.out j hj fs[j] (List.getElem?_eq_getElem (by omega))
              simp [this]
            rw [this])
          clear hf hv
          go_wp2_with (first | (go_at_call 73; refine HC.out.mono ?_; rintro e w' ⟨rfl, rfl⟩) | (go_at_call 60; refine HC.out.mono ?_; rintro e w' ⟨rfl, rfl⟩) | go_in)
          go_ret
          exact ⟨ret_int64 HV.out.symm, rfl⟩
        | false =>
          have HV := Lib.hid hv.symm
          clear hf hv
          go_wp2_with (first | (go_at_call 73; refine HC.out.mono ?_; rintro e w' ⟨rfl, rfl⟩) | (go_at_call 60; refine HC.out.mono ?_; rintro e w' ⟨rfl, rfl⟩) | go_in)
          go_round
          case rel =>
            refine ⟨k + 1, by omega, by go_num, fun j hj f' hf' => ?_⟩
            by_cases e : j = k
            · subst e
              rw [HFF.out] at hf'
              cases hf'
              exact HV.out
            · exact hall.out j (by omega) f' hf'
          case measure => simp [intOf]; omega
      · obtain rfl : k = n := by omega
        have HV := Lib.hid (show firstGone p fs = -1 by
          unfold firstGone
          have : fs.findIdx? p = none := by
            rw [List.findIdx?_eq_none_iff]
            intro f hf
            obtain ⟨j, hj⟩ := List.getElem?_of_mem hf
            have := HP.out.1
            exact hall.out j (by have := (List.getElem?_eq_some_iff.1 hj).1; omega) f hj
          rw [this])
        go_wp2
        go_ret
        exact ⟨ret_int64 HV.out.symm, rfl⟩
end Go.Proofs.Ytfhbolhmfhgeaaa
