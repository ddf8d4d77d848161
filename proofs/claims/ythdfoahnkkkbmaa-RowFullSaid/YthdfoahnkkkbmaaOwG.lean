/-
  NAMES in memory (api.Name); the document's Great of layer 16.
-/
import Derived.Test.YthdfoahnkkkbmaaOrO
namespace Go.Proofs.Ythdfoahnkkkbmaa
set_option linter.unusedVariables false
set_option linter.unusedSimpArgs false
open Go.RowKit

/-- Rows of names: a name, a place. -/
abbrev OPn := ByteArray × Int
def ShW (w : World) (B : Nat) (A : Option Addr) (n : Nat) (L : List OPn) : Prop :=
  L.length = n ∧ (0 < n → ∃ b off, A = some ⟨b, off, none⟩ ∧ b < B ∧ ∀ k t, L[k]? = some t → w.cell? ⟨b, off + k * 2, none⟩ = some (.string t.1) ∧ w.cell? ⟨b, off + k * 2 + 1, none⟩ = some (.int .i64 t.2))
section
variable {w w' : World} {B n : Nat} {A : Option Addr} {L : List OPn}
theorem ShW.nil (w : World) (B : Nat) (A : Option Addr) : ShW w B A 0 [] := ⟨rfl, fun h => absurd h (by omega)⟩
theorem ShW.len (h : ShW w B A n L) : L.length = n := h.1
theorem ShW.below (h : ShW w B A n L) (hb : Below B w w') : ShW w' B A n L :=
  ⟨h.1, fun hn => by
    obtain ⟨b, off, e, hB, hc⟩ := h.2 hn
    refine ⟨b, off, e, hB, fun k t ht => ?_⟩
    have hk := fun j => hb.cell (p := ⟨b, off + k * 2 + j, none⟩) hB
    obtain ⟨h0, h1⟩ := hc k t ht
    exact ⟨(hk 0).trans h0, (hk 1).trans h1⟩⟩
theorem ShW.at (h : ShW w B A n L) {k : Nat} (hk : k < n) : ∃ b off t, A = some ⟨b, off, none⟩ ∧ b < B ∧ L[k]? = some t ∧ L.drop k = t :: L.drop (k + 1) ∧ w.cell? ⟨b, off + k * 2, none⟩ = some (.string t.1) ∧ w.cell? ⟨b, off + k * 2 + 1, none⟩ = some (.int .i64 t.2) := by
  obtain ⟨b, off, e, hB, hc⟩ := h.2 (by omega)
  have hl : k < L.length := by rw [h.1]; exact hk
  have hg : L[k]? = some L[k] := List.getElem?_eq_getElem hl
  exact ⟨b, off, L[k], e, hB, hg, List.drop_eq_getElem_cons hl, hc k _ hg⟩
end
/-- More than is looked at? -/
def wGreat (l : List ByteArray) (m : Nat) : Bool := (l.take m).any (fun p => decide (100 < p.size)) || decide (m < l.length)
theorem wGreat_no {l : List ByteArray} {m : Nat} (h : wGreat l m = false) : l.length ≤ m ∧ ∀ p ∈ l, p.size ≤ 100 := by
  unfold wGreat at h
  simp only [Bool.or_eq_false_iff, decide_eq_false_iff_not] at h
  obtain ⟨h1, h2⟩ := h
  have hl : l.length ≤ m := by omega
  refine ⟨hl, fun p hp => ?_⟩
  rw [List.take_of_length_le hl] at h1
  have := List.any_eq_false.1 h1 p hp
  simp at this
  omega
set_option maxRecDepth 10000 in
set_option maxHeartbeats 800000 in
theorem wgreat_any (A : Option Addr) (n c m : Nat) (L : List OPn) (w : World) (hL : ShW w w.heap.size A n L) (hn : n ≤ maxLen) (hm : m ≤ 1000000) (hs : ∀ t ∈ L, t.1.size ≤ maxLen) :
    Calls Try.prog 29 #[.slice A n c, .int .i64 (m : Int)] w fun e w' => e = .returned (.bool (wGreat (L.map (·.1)) m)) ∧ Below w.heap.size w w' := by
  unfold maxLen at hn
  have HLn := Lib.hid hL.len
  go_enter Try.func29, Try.ntmps29
  go_wp2
  go_loopw [5] (fun i wr => ∃ k : Nat, i = .int .i64 (k : Int) ∧ k ≤ n ∧ k ≤ m ∧ Hid (((L.map (·.1)).take k).any (fun p => decide (100 < p.size)) = false) ∧ wr = w) (fun i _ => n - (intOf i).toNat)
  case atStart => exact ⟨0, rfl, Nat.zero_le _, Nat.zero_le _, Lib.hid rfl, rfl⟩
  case round =>
    obtain ⟨k, rfl, hk, hkm, hno, rfl⟩ := hrel
    by_cases hlt : k < n
    · have dl : decide ((k : Int) < (n : Int)) = true := by simpa using hlt
      by_cases hlm : k < m
      · have dm : decide ((k : Int) < (m : Int)) = true := by simpa using hlm
        obtain ⟨b, off, t, rfl, hb, hget, hdr, c0, c1⟩ := hL.at hlt
        obtain ⟨lo, at_⟩ := t
        dsimp only at c0 c1
        have htk : (L.map (·.1)).take (k + 1) = (L.map (·.1)).take k ++ [lo] := by
          rw [List.take_add_one, List.getElem?_map, hget]
          rfl
        have hmem : lo ∈ (L.map (·.1)).take m := by
          have : (L.map (·.1))[k]? = some lo := by rw [List.getElem?_map, hget]; rfl
          refine List.mem_of_getElem? (i := k) ?_
          rw [List.getElem?_take, if_pos hlm, this]
        have HY := Lib.hid (fun h : 100 < lo.size => (by
          unfold wGreat
          have : ((L.map (·.1)).take m).any (fun p => decide (100 < p.size)) = true := List.any_eq_true.2 ⟨_, hmem, by simpa using h⟩
          rw [this]
          rfl : wGreat (L.map (·.1)) m = true))
        have HN := Lib.hid (fun h : ¬ 100 < lo.size => (by
          rw [htk, List.any_append, hno.out]
          simp
          omega : ((L.map (·.1)).take (k + 1)).any (fun p => decide (100 < p.size)) = false))
        clear htk hmem hget hdr
        by_cases h1 : 100 < lo.size
        · have d1 : decide ((100 : Int) < (lo.size : Int)) = true := by simp; omega
          have HR := Lib.hid (HY.out h1)
          go_wp2
          go_ret
          exact ⟨ret_bool HR.out.symm, Below.refl _ _⟩
        · have d1 : decide ((100 : Int) < (lo.size : Int)) = false := by simp; omega
          have HR := Lib.hid (HN.out h1)
          go_wp2
          go_roundw
          case rel => exact ⟨k + 1, by go_num, hlt, hlm, HR, (by trivial)⟩
          case measure => simp [intOf]; omega
      · have dm : decide ((k : Int) < (m : Int)) = false := by simp; omega
        have HR := Lib.hid (show wGreat (L.map (·.1)) m = true by
          unfold wGreat
          rw [show decide (m < (L.map (·.1)).length) = true by simp; rw [HLn.out]; omega]
          simp)
        have dg : decide ((m : Int) < (n : Int)) = true := by simp; omega
        go_wp2
        go_ret
        exact ⟨ret_bool (by rw [HR.out]; simp; omega), Below.refl _ _⟩
    · obtain rfl : k = n := by omega
      have HR := Lib.hid (show wGreat (L.map (·.1)) m = false by
        unfold wGreat
        have h1 := hno.out
        rw [List.take_of_length_le (by rw [List.length_map, HLn.out]; exact Nat.le_refl _)] at h1
        rw [List.take_of_length_le (by rw [List.length_map, HLn.out]; exact hkm), h1]
        simp [HLn.out]
        exact hkm)
      have dl : decide ((k : Int) < (k : Int)) = false := by simp
      have dg : decide ((m : Int) < (k : Int)) = false := by simp; omega
      go_wp2
      go_ret
      exact ⟨ret_bool (by rw [HR.out]; simp; omega), Below.refl _ _⟩
end Go.Proofs.Ythdfoahnkkkbmaa
