/-
  WORDS ON SLICES AND BYTES: a store into a slice of the call's own, bytes that came in, the part behind a cut.
-/
import Derived.Test.YthfhhgjjnpcmgaaMore
import Derived.Lib.SmallJoins
namespace Go.Proofs.Ythfhhgjjnpcmgaa
set_option linter.unusedVariables false
set_option linter.unusedSimpArgs false
open Go.RowKit Go.Joins

/-- Bytes that came in. -/
theorem byt_of {l : List Int} (h : ∀ n ∈ l, (Lit.int .u8 n).wf = true) : Byt l := fun x hx => by
  have := bounds_u8 (h x hx)
  omega

theorem u32_of {x : Int} (h : (Lit.int .u32 x).wf = true) : ∃ r : Nat, x = (r : Int) ∧ r < 4294967296 := by
  have := bounds_u32 h
  exact ⟨x.toNat, by omega, by omega⟩

/-- A slice of the call's own that holds something. -/
theorem Own.full {w : World} {B n c : Nat} {e : TypeId} {A : Option Addr} {xs : List Value} (h : Own w B e 1 (.slice A n c) n xs) (hn : 0 < n) :
    ∃ g, A = some ⟨g, 0, none⟩ ∧ B ≤ g ∧ g < w.heap.size ∧ ∀ j, w.frozen? ⟨g, j, none⟩ = false := by
  rcases h.1.2 with ⟨_, h0⟩ | ⟨g, cap, cur, hv, hB, hh, _⟩
  · omega
  · injection hv with hA
    exact ⟨g, hA, hB, (Array.getElem?_eq_some_iff.1 hh).1, fun j => unfrozen_of_block hh j⟩
theorem Own.byte {w : World} {B n c g k : Nat} {e : TypeId} {xs : List Int} (h : Own w B e 1 (.slice (some ⟨g, 0, none⟩) n c) n (by8 xs)) (hk : k < n) : w.cell? ⟨g, k, none⟩ = some (.int .u8 (xs.getD k 0)) := by
  obtain ⟨b, off, he, _, hc⟩ := h.sh.byte hk
  cases he
  rwa [Nat.zero_add] at hc
theorem Sh.set {w : World} {U g n k : Nat} {y : Int} {xs : List Int} (h : Sh w U (some ⟨g, 0, none⟩) n (by8 xs)) (hk : k < n) : Sh (w.setCell ⟨g, k, none⟩ (.int .u8 y)) U (some ⟨g, 0, none⟩) n (by8 (xs.set k y)) := by
  have hl : xs.length = n := by have := h.len; rwa [by8_len] at this
  refine ⟨by rw [by8_len, List.length_set]; exact hl, fun hn => ?_⟩
  obtain ⟨b, off, e, hb, hc⟩ := h.2 hn
  cases e
  refine ⟨g, 0, rfl, hb, fun j u hu => ?_⟩
  rw [by8_get?] at hu
  by_cases e : j = k
  · subst e
    obtain ⟨x, hx, rfl⟩ := Option.map_eq_some_iff.1 hu
    rw [List.getElem?_set_self (by omega)] at hx
    cases hx
    have hj := hc j _ (by rw [by8_get?, List.getElem?_eq_getElem (by omega)]; rfl)
    rw [Nat.zero_add] at hj ⊢
    exact World.cell?_setCell_same _ _ _ hj
  · rw [Nat.zero_add, World.cell?_setCell_other _ _ _ _ (off_ne (fun h => e h.symm))]
    have := hc j u (by rw [by8_get?, ← hu, List.getElem?_set_ne (fun h => e h.symm)])
    rwa [Nat.zero_add] at this
theorem set_split (l : List Int) (k : Nat) (y : Int) (h : k < l.length) : l.set k y = l.take k ++ y :: l.drop (k + 1) := by rw [List.set_eq_take_append_cons_drop, if_pos h]
theorem self_split (l : List Int) (k : Nat) (h : k < l.length) : l.take k ++ l.getD k 0 :: l.drop (k + 1) = l := by
  rw [← set_split l k _ h]
  have : l.getD k 0 = l[k] := by rw [List.getD_eq_getElem?_getD, List.getElem?_eq_getElem h]; rfl
  rw [this, List.set_getElem_self]
theorem crc_set {l : List Int} (hl : Byt l) {k : Nat} {y : Int} (hk : k < l.length) (hy : 0 ≤ y ∧ y < 256) (h : y ≠ l.getD k 0) : crcOf 0 (l.set k y) ≠ crcOf 0 l := by
  have := crc_turned (s := 0) (by omega) (hl.take k) (hl.drop (k + 1)) hy (hl.at hk) h
  rw [self_split l k hk, ← set_split l k y hk] at this
  exact this
theorem Byt.set {l : List Int} (hl : Byt l) {k : Nat} {y : Int} (hy : 0 ≤ y ∧ y < 256) : Byt (l.set k y) := fun x hx => by
  rcases List.mem_or_eq_of_mem_set hx with h | rfl
  · exact hl x h
  · exact hy

theorem u8_of {x : Int} (h : (Lit.int .u8 x).wf = true) : ∃ r : Nat, x = (r : Int) ∧ r < 256 := by
  have := bounds_u8 h
  exact ⟨x.toNat, by omega, by omega⟩

/-- Where a slice's cells lie. -/
theorem IsRow.form {k : IntKind} {w : World} {a : Option Addr} {len cap : Nat} {zs : List Int} (h : IsRow k w a len cap zs) : cap = 0 ∨ ∃ b off, a = some ⟨b, off, none⟩ := by
  rcases h with ⟨rfl, rfl, rfl, rfl⟩ | ⟨x, rfl, hl, hm, hz, hcell, hwz⟩
  · exact .inl rfl
  · rcases Nat.eq_zero_or_pos cap with h0 | h0
    · exact .inl h0
    · obtain ⟨b, off, spot⟩ := x
      have hc0 := hcell 0 (by omega)
      have hspot : spot = none := by simpa [Addr.add] using World.cell?_spot hc0
      subst hspot
      exact .inr ⟨b, off, rfl⟩

/-- Where the second part lies. -/
def tailOf (A : Option Addr) (n k c : Nat) : Value := if c = k then .slice A (n - k) (c - k) else match A with
  | some ⟨b, off, s⟩ => .slice (some ⟨b, off + k, s⟩) (n - k) (c - k)
  | none => .slice none (n - k) (c - k)
/-- A part, wherever it lies. -/
def Part2 (w : World) (U : Nat) (v : Value) (xs : List Int) : Prop := ∃ A n c, v = .slice A n c ∧ Sh w U A n (by8 xs) ∧ n ≤ 1000
theorem tail_part {w : World} {U n k c : Nat} {A : Option Addr} {xs : List Int} (h : Sh w U A n (by8 xs)) (hk : k ≤ n) (hc : n ≤ c) (hn : n ≤ 1000) : Part2 w U (tailOf A n k c) (xs.drop k) := by
  have hl : xs.length = n := by have := h.len; rwa [by8_len] at this
  unfold tailOf
  split
  · rename_i e
    obtain rfl : k = n := by omega
    refine ⟨_, _, _, rfl, ?_, by omega⟩
    rw [Nat.sub_self, List.drop_eq_nil_of_le (by omega)]
    exact Sh.nil _ _ _
  · have hp : ∀ A', (∀ b off, A = some ⟨b, off, none⟩ → k < n → A' = some ⟨b, off + k, none⟩) → Sh w U A' (n - k) (by8 (xs.drop k)) := fun A' hA => by
      have := h.piece (lo := k) (hi := n) hk (Nat.le_refl _) hA
      rwa [by8_take, by8_drop, List.take_of_length_le (by omega)] at this
    split
    · exact ⟨_, _, _, rfl, hp _ (fun b off e _ => by cases e; rfl), by omega⟩
    · exact ⟨_, _, _, rfl, hp _ (fun b off e _ => by cases e), by omega⟩

theorem Own.off {w : World} {B n c g : Nat} {e : TypeId} {A : Option Addr} {xs : List Value} (h : Own w B e 1 (.slice A n c) n xs) (hg : g < B) : Off A n g := fun hn a ha => by
  obtain ⟨f, rfl, hf, _⟩ := h.full hn
  cases ha
  simp only
  omega
end Go.Proofs.Ythfhhgjjnpcmgaa
