/-
  CONTRACTS OF 'lex.Text', 'blazonref06.Same'.
-/
import Derived.Test.YtenohmkcbncehaaLxB
import Derived.Laws.BytesArg
namespace Go.Proofs.Ytenohmkcbncehaa
set_option linter.unusedVariables false
set_option linter.unusedSimpArgs false
open Go.RowKit

theorem convert_none (src e : TypeId) (hs : Try.prog.underlying src = some (.slice e)) (he : Try.prog.underlying e = some (.int .u8)) (dst : TypeId) (hd : Try.prog.underlying dst = some .string) (p : Option Addr) (c : Nat) (w : World) :
    (convert src dst (.slice p 0 c)).run Try.prog w = .ok (.string ⟨#[]⟩) w := by
  rw [run_convert_bytes_string w src dst e _ 0 c hs he hd]
  rcases p with _ | a
  · rfl
  · have := run_bytesToString (P := Try.prog) w a 0 c [] (by simpa using run_loadCells_list (P := Try.prog) w a [] (by simp))
    exact this
/-- string(b), of bytes that are shown. -/
theorem convert_sh {w : World} {B n : Nat} {A : Option Addr} {bs : List Int} (h : Sh w B A n (by8 bs)) (c : Nat) : (convert 22 9 (.slice A n c)).run Try.prog w = .ok (.string (strOfNums bs)) w := by
  have hl : bs.length = n := by have := h.len; rwa [by8_len] at this
  rcases Nat.eq_zero_or_pos n with h0 | h0
  · subst h0
    have : bs = [] := List.eq_nil_of_length_eq_zero hl
    subst this
    exact convert_none 22 5 Try.underlying22 (by kernel_rfl) 9 (by kernel_rfl) A c w
  · obtain ⟨b, off, rfl, _, hc⟩ := h.2 h0
    refine run_convert_bytes_arg w 22 5 Try.underlying22 (by kernel_rfl) b off n c bs hl (fun i hi => ?_) 9 (by kernel_rfl)
    refine hc i _ ?_
    rw [by8_get?]
    have : i < bs.length := by omega
    simp [this]

def cutOf (bs : List Int) (y z : Int) : List Int := if 0 ≤ y ∧ y ≤ z ∧ z ≤ bs.length then (bs.take z.toNat).drop y.toNat else []

set_option maxRecDepth 10000 in
set_option maxHeartbeats 1600000 in
theorem text_any (A : Option Addr) (n c : Nat) (bs : List Int) (x y z : Int) (w : World) (hx : Sh w w.heap.size A n (by8 bs)) (hn : n ≤ 1000000) (hnc : n ≤ c) (hcm : c ≤ maxLen) (hcA : c = 0 ∨ ∃ b off, A = some ⟨b, off, none⟩) :
    Calls Try.prog 17 #[.slice A n c, .agg #[.int .i64 x, .int .i64 y, .int .i64 z]] w fun e w' => e = .returned (.string (strOfNums (cutOf bs y z))) ∧ Below w.heap.size w w' := by
  have hl : bs.length = n := by have := hx.len; rwa [by8_len] at this
  unfold maxLen at hcm
  have H1 : Hid (Sh (w.alloc (.cells #[.int .i64 x, .int .i64 y, .int .i64 z] 32)) w.heap.size A n (by8 bs)) := Lib.hid (hx.alloc (Nat.le_refl _) _)
  have HB : Hid (Below w.heap.size w (w.alloc (.cells #[.int .i64 x, .int .i64 y, .int .i64 z] 32))) := Lib.hid ((Below.refl _ _).alloc (Nat.le_refl _) _)
  by_cases hok : 0 ≤ y ∧ y ≤ z ∧ z ≤ bs.length
  · have hcut : cutOf bs y z = (bs.take z.toNat).drop y.toNat := if_pos hok
    obtain ⟨h0, h1, h2⟩ := hok
    obtain ⟨p, rfl⟩ : ∃ p : Nat, y = p := ⟨y.toNat, by omega⟩
    obtain ⟨q, rfl⟩ : ∃ q : Nat, z = q := ⟨z.toNat, by omega⟩
    rw [hcut]
    rw [show ((p : Int)).toNat = p by omega, show ((q : Int)).toNat = q by omega]
    have hpq : p ≤ q := by omega
    have hqn : q ≤ n := by omega
    have HCV : Hid (∀ T d, (∀ b off, A = some ⟨b, off, none⟩ → p < q → T = some ⟨b, off + p, none⟩) → (convert 22 9 (.slice T (q - p) d)).run Try.prog (w.alloc (.cells #[.int .i64 x, .int .i64 (p : Int), .int .i64 (q : Int)] 32)) = .ok (.string (strOfNums ((bs.take q).drop p))) (w.alloc (.cells #[.int .i64 x, .int .i64 (p : Int), .int .i64 (q : Int)] 32))) := Lib.hid (fun T d hT => by
      have := H1.out.piece hpq hqn (A' := T) hT
      rw [by8_take, by8_drop] at this
      exact convert_sh this d)
    obtain ⟨S, hS⟩ : ∃ S, strOfNums ((bs.take q).drop p) = S := ⟨_, rfl⟩
    rw [hS] at HCV ⊢
    clear hS hcut hl h2 hx H1 h0 h1
    have hn0 : ¬ (p : Int) < 0 := by omega
    have hn1 : ¬ (q : Int) < (p : Int) := by omega
    have hn2 : ¬ (n : Int) < (q : Int) := by omega
    by_cases hcp : c = p
    · subst hcp
      have hqc : q = c := by omega
      subst hqc
      have hcv : ∀ T, (convert 22 9 (.slice T 0 0)).run Try.prog (w.alloc (.cells #[.int .i64 x, .int .i64 (q : Int), .int .i64 (q : Int)] 32)) = .ok (.string S) (w.alloc (.cells #[.int .i64 x, .int .i64 (q : Int), .int .i64 (q : Int)] 32)) := fun T => by
        have := HCV.out T 0 (fun _ _ _ h => absurd h (Nat.lt_irrefl _))
        rwa [Nat.sub_self] at this
      clear hcA HCV
      go_enter Try.func17, Try.ntmps17
      go_wp2
      go_ret
      exact ⟨rfl, HB.out⟩
    · obtain ⟨b, off, rfl⟩ : ∃ b off, A = some ⟨b, off, none⟩ := by
        rcases hcA with h0 | h0
        · omega
        · exact h0
      have hcv := HCV.out (some ⟨b, off + p, none⟩) (c - p) (fun b' off' e _ => by cases e; rfl)
      clear hcA HCV
      go_enter Try.func17, Try.ntmps17
      go_wp2
      go_ret
      exact ⟨rfl, HB.out⟩
  · have hcut : cutOf bs y z = [] := if_neg hok
    rw [hcut]
    have hok' : y < 0 ∨ (¬ y < 0 ∧ z < y) ∨ (¬ y < 0 ∧ ¬ z < y ∧ (n : Int) < z) := by rw [hl] at hok; omega
    clear hok hcut hl hx
    rcases hok' with h0 | ⟨h0, h1⟩ | ⟨h0, h1, h2⟩
    all_goals
      go_enter Try.func17, Try.ntmps17
      go_wp2
      go_ret
      exact ⟨rfl, HB.out⟩

set_option maxRecDepth 10000 in
set_option maxHeartbeats 1600000 in
/-- The same tokens: yes. -/
theorem sameT_yes (A B : Option Addr) (n c d : Nat) (L : List Tk) (w : World) (hx : ShT w w.heap.size A n L) (hy : ShT w w.heap.size B n L) (hn : n ≤ 1000000) :
    Calls Try.prog 12 #[.slice A n c, .slice B n d] w fun e w' => e = .returned (.bool true) ∧ Quiet w w' := by
  have HX := Lib.hid hx
  have HY := Lib.hid hy
  clear hx hy
  go_enter Try.func12, Try.ntmps12
  go_wp2
  go_loopw [5] (fun i wr => ∃ k : Nat, k ≤ n ∧ i = .int .i64 k ∧ Quiet w wr) (fun i _ => n - (intOf i).toNat)
  case atStart => exact ⟨0, Nat.zero_le _, rfl, Quiet.refl _⟩
  case round =>
    obtain ⟨k, hk, rfl, hq⟩ := hrel
    obtain ⟨q, rfl⟩ := hq
    by_cases hlt : k < n
    · obtain ⟨b, off, t, rfl, _, ht, c0, c1, c2⟩ := HX.out.at hlt
      obtain ⟨b', off', t', rfl, _, ht', d0, d1, d2⟩ := HY.out.at hlt
      rw [ht] at ht'
      cases ht'
      clear ht
      obtain ⟨x, y, z⟩ := t
      dsimp only at c0 c1 c2 d0 d1 d2
      have r1 : (x != x) = false := by simp
      have r2 : (y != y) = false := by simp
      have r3 : (z != z) = false := by simp
      go_wp2
      go_quiet (fail)
      go_wp2
      go_roundw
      case rel => exact ⟨k + 1, by omega, by go_num, ⟨_, rfl⟩⟩
      case measure => simp [intOf]; omega
    · obtain rfl : k = n := by omega
      go_wp2
      go_ret
      exact ⟨rfl, ⟨_, rfl⟩⟩
end Go.Proofs.Ytenohmkcbncehaa
