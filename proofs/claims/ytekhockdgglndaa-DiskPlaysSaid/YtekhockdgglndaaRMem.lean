/-
  THE DOCUMENT'S DISK IN MEMORY: rows of structs that lie in kept blocks.
-/
import Derived.Test.YtekhockdgglndaaPushG
import Derived.Test.YtekhockdgglndaaSame
import Derived.Test.YtekhockdgglndaaRowB
import Derived.Deep.RegionHeld3
import Derived.Deep.MidRow
import Derived.WalkSpells
import Derived.Lib.Hide
namespace Go.Proofs.Ytekhockdgglndaa
set_option linter.unusedVariables false
set_option linter.unusedSimpArgs false
open Go.RowKit

/-- The slice '.slice A n c' of elements of so many cells shows the cells xs; they lie in a block of X. -/
def SX (w : World) (X : Nat → Prop) (A : Option Addr) (n size : Nat) (xs : List Value) : Prop :=
  xs.length = n * size ∧ (0 < n → ∃ b off, A = some ⟨b, off, none⟩ ∧ X b ∧ ∀ k u, xs[k]? = some u → w.cell? ⟨b, off + k, none⟩ = some u)
section
variable {w w' : World} {X Y : Nat → Prop} {A : Option Addr} {n size : Nat} {xs : List Value}
theorem SX.nil (w : World) (X : Nat → Prop) (A : Option Addr) (size : Nat) : SX w X A 0 size [] := ⟨by simp, fun h => absurd h (by omega)⟩
theorem SX.stay (h : SX w X A n size xs) (hk : ∀ b, X b → w'.heap[b]? = w.heap[b]?) : SX w' X A n size xs :=
  ⟨h.1, fun hn => by
    obtain ⟨b, off, e, hb, hc⟩ := h.2 hn
    exact ⟨b, off, e, hb, fun k u hu => (World.cell?_of_block (w := w) (a := ⟨b, off + k, none⟩) (hk b hb)).trans (hc k u hu)⟩⟩
theorem SX.more (h : SX w X A n size xs) (hX : ∀ b, X b → Y b) : SX w Y A n size xs :=
  ⟨h.1, fun hn => by
    obtain ⟨b, off, e, hb, hc⟩ := h.2 hn
    exact ⟨b, off, e, hX b hb, hc⟩⟩
theorem SX.of_own {B : Nat} {e : TypeId} {c : Nat} (h : Own w B e size (.slice A n c) n xs) (hX : ∀ b, B ≤ b → b < w.heap.size → X b) : SX w X A n size xs := by
  refine ⟨h.len, fun hn => ?_⟩
  rcases h.1.2 with ⟨_, h0⟩ | ⟨g, cap, cur, hv, hb, hh, _⟩
  · omega
  · have hA : A = some ⟨g, 0, none⟩ := by injection hv
    subst hA
    refine ⟨g, 0, rfl, hX g hb (Array.getElem?_eq_some_iff.1 hh).1, fun k u hu => ?_⟩
    have := h.1.cells (g := g) rfl k u hu
    rwa [Addr.add_lit] at this
end
/-- A slice's block isn't turned by what turns nothing of X. -/
def KeepsX (X : Nat → Prop) (w w' : World) : Prop := ∀ b, X b → w'.heap[b]? = w.heap[b]?

/-- A name, and the place of its file. -/
abbrev RE := ByteArray × Nat
def RE.cells (q : RE) : List Value := [.string q.1, .int .i64 (q.2 : Int)]
def recells (N : List RE) : List Value := N.flatMap RE.cells
theorem recells_snoc (N : List RE) (q : RE) : recells (N ++ [q]) = recells N ++ q.cells := by simp [recells]
theorem recells_len (N : List RE) : (recells N).length = N.length * 2 := by
  induction N with
  | nil => rfl
  | cons q N ih =>
    have e : recells (q :: N) = .string q.1 :: .int .i64 (q.2 : Int) :: recells N := by simp [recells, RE.cells]
    rw [e]; simp [ih]; omega
theorem recells_at {N : List RE} {j : Nat} {q : RE} (h : N[j]? = some q) : (recells N)[j * 2]? = some (.string q.1) ∧ (recells N)[j * 2 + 1]? = some (.int .i64 (q.2 : Int)) := by
  induction N generalizing j with
  | nil => simp at h
  | cons p N ih =>
    have e : recells (p :: N) = .string p.1 :: .int .i64 (p.2 : Int) :: recells N := by simp [recells, RE.cells]
    cases j with
    | zero => cases h; rw [e]; exact ⟨rfl, rfl⟩
    | succ j =>
      have := ih (j := j) (by simpa using h)
      rw [e, show (j + 1) * 2 = j * 2 + 1 + 1 by omega]
      simpa using this
/-- The names lie there. -/
def NX (w : World) (X : Nat → Prop) (v : Value) (N : List RE) : Prop := ∃ A c, v = .slice A N.length c ∧ SX w X A N.length 2 (recells N)
theorem NX.at {w : World} {X : Nat → Prop} {A : Option Addr} {n : Nat} {N : List RE} (h : SX w X A n 2 (recells N)) (hl : N.length = n) {j : Nat} {q : RE} (hq : N[j]? = some q) :
    ∃ b off, A = some ⟨b, off, none⟩ ∧ X b ∧ w.cell? ⟨b, off + j * 2, none⟩ = some (.string q.1) ∧ w.cell? ⟨b, off + j * 2 + 1, none⟩ = some (.int .i64 (q.2 : Int)) := by
  have hj : j < N.length := (List.getElem?_eq_some_iff.1 hq).1
  obtain ⟨b, off, e, hb, hc⟩ := h.2 (by omega)
  obtain ⟨h0, h1⟩ := recells_at hq
  exact ⟨b, off, e, hb, hc _ _ h0, hc _ _ h1⟩

/-- The same name? -/
def eqs (s t : ByteArray) : Bool := s.toList == t.toList
/-- The place of a name's file. -/
def rfind : List RE → ByteArray → Int
  | [], _ => -1
  | q :: N, s => if eqs q.1 s = true then (q.2 : Int) else rfind N s
theorem rfind_snoc_no {N : List RE} {q : RE} {s : ByteArray} (h : rfind N s = -1) (hq : eqs q.1 s = false) : rfind (N ++ [q]) s = -1 := by
  induction N with
  | nil => simp [rfind, hq]
  | cons p N ih =>
    simp only [rfind, List.cons_append] at h ⊢
    split at h
    · omega
    · rename_i hp
      rw [if_neg hp]
      exact ih h
theorem rfind_hit {N : List RE} {k : Nat} {q : RE} {s : ByteArray} (h : rfind (N.take k) s = -1) (hq : N[k]? = some q) (he : eqs q.1 s = true) : rfind N s = q.2 := by
  induction N generalizing k with
  | nil => simp at hq
  | cons p N ih =>
    cases k with
    | zero => cases hq; simp [rfind, he]
    | succ k =>
      simp only [rfind, List.take_succ_cons] at h ⊢
      split at h
      · omega
      · rename_i hp
        rw [if_neg hp]
        exact ih h (by simpa using hq)
theorem take_more {N : List RE} {k : Nat} {q : RE} (h : N[k]? = some q) : N.take (k + 1) = N.take k ++ [q] := by
  obtain ⟨hk, e⟩ := List.getElem?_eq_some_iff.1 h
  rw [List.take_succ_eq_append_getElem hk, e]

theorem reti {a b : Int} (h : a = b) : Ending.returned (.int .i64 a) = .returned (.int .i64 b) := by rw [h]

set_option maxRecDepth 10000 in
set_option maxHeartbeats 800000 in
theorem find_any (X : Nat → Prop) (A : Option Addr) (n c : Nat) (N : List RE) (s : ByteArray) (w : World) (hl : N.length = n) (hn : n ≤ 1000) (h : SX w X A n 2 (recells N)) :
    Calls Try.prog 25 #[.slice A n c, .string s] w fun e w' => e = .returned (.int .i64 (rfind N s)) ∧ w = w' := by
  have HL := Lib.hid hl
  have HN := Lib.hid (fun (j : Nat) (q : RE) (hq : N[j]? = some q) => NX.at h hl hq)
  clear hl h
  go_enter Try.func25, Try.ntmps25
  go_wp2
  go_loop [5] (fun i => ∃ k : Nat, k ≤ n ∧ i = .int .i64 k ∧ rfind (N.take k) s = -1) (fun i => n - (intOf i).toNat)
  case atStart => exact ⟨0, Nat.zero_le _, rfl, by simp [rfind]⟩
  case round =>
    obtain ⟨k, hk, rfl, hf⟩ := hrel
    have HF := Lib.hid hf
    clear hf
    by_cases hlt : k < n
    · obtain ⟨q, hq⟩ : ∃ q, N[k]? = some q := ⟨_, List.getElem?_eq_getElem (by rw [HL.out]; exact hlt)⟩
      obtain ⟨b, off, rfl, _, c0, c1⟩ := HN.out k q hq
      have HQ := Lib.hid hq
      clear hq
      by_cases he : eqs q.1 s = true
      · have he' : (q.1.toList == s.toList) = true := he
        have HE := Lib.hid he
        clear he
        go_wp2
        go_ret
        exact ⟨reti (rfind_hit HF.out HQ.out HE.out).symm, rfl⟩
      · have he' : (q.1.toList == s.toList) = false := by simpa [eqs] using he
        have HE : Hid (eqs q.1 s = false) := Lib.hid he'
        clear he
        go_wp2
        go_round
        case rel => exact ⟨k + 1, by omega, by go_num, by rw [take_more HQ.out]; exact rfind_snoc_no HF.out HE.out⟩
        case measure => simp [intOf]; omega
    · obtain rfl : k = n := by omega
      go_wp2
      go_ret
      have := HF.out
      rw [List.take_of_length_le (by rw [HL.out]; exact Nat.le_refl _)] at this
      exact ⟨reti this.symm, rfl⟩
end Go.Proofs.Ytekhockdgglndaa
