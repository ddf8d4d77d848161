/-
  THE NAMES OF A DISK, AS PLAIN LISTS: rising names, each with the block of its file.
-/
import Derived.Maps.OwnSet
import Derived.Maps.RangeWalk
import Derived.ChangeMaps
namespace Go.Proofs.Ythdfoahnkkkbmaa
set_option linter.unusedVariables false
set_option linter.unusedSimpArgs false
open Go.WideShapes Go.ChangeMaps

abbrev Nm := List UInt8
abbrev NL := List (Nm × Nat)

/-- A name and a block, as a map's datum has them. -/
def entD (p : Nm × Nat) : Lit × DataW Unit := (.string p.1, .lit (.int .i64 (p.2 : Int)))
def toD (N : NL) : DataW Unit := .map (N.map entD)

def nins (x : Nm × Nat) : NL → NL
  | [] => [x]
  | y :: r => if bytesBefore x.1 y.1 then x :: y :: r else y :: nins x r
def ndel (k : Nm) (N : NL) : NL := N.filter fun p => !(p.1 == k)
def nput (k : Nm) (b : Nat) (N : NL) : NL := nins (k, b) (ndel k N)
def nat? (k : Nm) (N : NL) : Option Nat := (N.find? fun p => p.1 == k).map (·.2)
/-- Names in order. -/
def Ris (N : NL) : Prop := N.Pairwise fun p q => bytesBefore p.1 q.1 = true

theorem ins_map (x : Nm × Nat) : ∀ N : NL, DataW.insert (entD x) (N.map entD) = (nins x N).map entD
  | [] => rfl
  | y :: r => by
    simp only [List.map_cons, DataW.insert, nins]
    have : (entD x).1.before (entD y).1 = bytesBefore x.1 y.1 := rfl
    rw [this]
    split
    · rfl
    · simp only [List.map_cons, ins_map x r]
theorem del_map (k : Nm) (N : NL) : (N.map entD).filter (fun p => !p.1.sameKey (.string k)) = (ndel k N).map entD := by
  unfold ndel
  rw [List.filter_map]
  congr 1
theorem toD_put (k : Nm) (b : Nat) (N : NL) : (toD N).put (.string k) (.lit (.int .i64 (b : Int))) = toD (nput k b N) := by
  show DataW.map (DataW.insert (entD (k, b)) ((N.map entD).filter fun p => !p.1.sameKey (.string k))) = _
  rw [del_map, ins_map]
  rfl
theorem toD_del (k : Nm) (N : NL) : (toD N).del (.string k) = toD (ndel k N) := by
  show DataW.map ((N.map entD).filter fun p => !p.1.sameKey (.string k)) = _
  rw [del_map]
  rfl
theorem find_map (k : Nm) : ∀ N : NL, (N.map entD).find? (fun p => p.1.sameKey (.string k)) = (N.find? fun p => p.1 == k).map entD
  | [] => rfl
  | y :: r => by
    have h : ((entD y).1.sameKey (.string k)) = (y.1 == k) := rfl
    simp only [List.map_cons, List.find?_cons, h, find_map k r]
    cases (y.1 == k) <;> rfl
theorem toD_at (k : Nm) (z : DataW Unit) (N : NL) : (toD N).atKey (.string k) z = match nat? k N with | some b => .lit (.int .i64 (b : Int)) | none => z := by
  unfold toD DataW.atKey nat?
  simp only [find_map]
  cases (N.find? fun p => p.1 == k) <;> rfl
theorem toD_size (N : NL) : Maps.size (toD N) = N.length := by simp [Maps.size, toD]
theorem toD_has (k : Nm) (N : NL) : Maps.has (toD N) (.string k) = (nat? k N).isSome := by
  show (N.map entD).any (fun p => p.1.sameKey (.string k)) = _
  have e : (N.map entD).any (fun p => p.1.sameKey (.string k)) = ((N.map entD).find? (fun p => p.1.sameKey (.string k))).isSome := by
    rw [Bool.eq_iff_iff, List.find?_isSome, List.any_eq_true]
  rw [e, find_map]
  unfold nat?
  simp
theorem toD_inj {N M : NL} (h : toD N = toD M) : N = M := by
  have h' : N.map entD = M.map entD := by injection h
  refine List.map_inj_right (fun p q e => ?_) |>.1 h'
  obtain ⟨p1, p2⟩ := p
  obtain ⟨q1, q2⟩ := q
  simp only [entD, Prod.mk.injEq, Lit.string.injEq, DataW.lit.injEq, Lit.int.injEq, true_and] at e
  obtain ⟨rfl, e2⟩ := e
  have : p2 = q2 := by omega
  rw [this]

/-! ### order -/
theorem bb_irr : ∀ a : Nm, bytesBefore a a = false
  | [] => rfl
  | x :: r => by simp [bytesBefore, bb_irr r]
theorem bb_trans {a b c : Nm} (h : bytesBefore a b = true) (k : bytesBefore b c = true) : bytesBefore a c = true :=
  before_trans (a := .string a) (b := .string b) (c := .string c) h k
theorem bb_total {a b : Nm} (h : a ≠ b) : bytesBefore a b = true ∨ bytesBefore b a = true :=
  ChangeMaps.before_total (a := .string a) (b := .string b) ⟨_, rfl⟩ ⟨_, rfl⟩ (fun e => h (by injection e))
theorem bb_ne {a b : Nm} (h : bytesBefore a b = true) : a ≠ b := fun e => by rw [e, bb_irr] at h; cases h

theorem Ris.nil : Ris [] := List.Pairwise.nil
theorem Ris.del {N : NL} (h : Ris N) (k : Nm) : Ris (ndel k N) := List.Pairwise.filter _ h
theorem Ris.filter {N : NL} (h : Ris N) (f : Nm × Nat → Bool) : Ris (N.filter f) := List.Pairwise.filter _ h
theorem mem_nins {x y : Nm × Nat} : ∀ {N : NL}, y ∈ nins x N ↔ y = x ∨ y ∈ N
  | [] => by simp [nins]
  | z :: r => by
    unfold nins
    split
    · simp
    · simp only [List.mem_cons, mem_nins (N := r)]
      constructor
      · rintro (h | h | h) <;> simp [h]
      · rintro (h | h | h) <;> simp [h]
theorem mem_ndel {k : Nm} {y : Nm × Nat} {N : NL} : y ∈ ndel k N ↔ y ∈ N ∧ y.1 ≠ k := by simp [ndel]
theorem mem_nput {k : Nm} {b : Nat} {y : Nm × Nat} {N : NL} : y ∈ nput k b N ↔ y = (k, b) ∨ (y ∈ N ∧ y.1 ≠ k) := by rw [nput, mem_nins, mem_ndel]
theorem Ris.ins {x : Nm × Nat} : ∀ {N : NL}, Ris N → (∀ y ∈ N, y.1 ≠ x.1) → Ris (nins x N)
  | [], _, _ => by simp [nins, Ris]
  | y :: r, h, hne => by
    obtain ⟨h1, h2⟩ := List.pairwise_cons.1 h
    unfold nins
    split
    · rename_i hb
      refine List.pairwise_cons.2 ⟨fun q hq => ?_, h⟩
      rcases List.mem_cons.1 hq with rfl | hq
      · exact hb
      · exact bb_trans hb (h1 q hq)
    · rename_i hb
      have hyx : bytesBefore y.1 x.1 = true := by
        rcases bb_total (hne y (by simp)) with h' | h'
        · exact h'
        · exact absurd h' hb
      refine List.pairwise_cons.2 ⟨fun q hq => ?_, Ris.ins h2 (fun q hq => hne q (by simp [hq]))⟩
      rcases mem_nins.1 hq with rfl | hq
      · exact hyx
      · exact h1 q hq
theorem Ris.put {N : NL} (h : Ris N) (k : Nm) (b : Nat) : Ris (nput k b N) := (h.del k).ins fun y hy => (mem_ndel.1 hy).2
theorem Ris.key {N : NL} (h : Ris N) {p q : Nm × Nat} (hp : p ∈ N) (hq : q ∈ N) (e : p.1 = q.1) : p = q := by
  induction N with
  | nil => cases hp
  | cons a r ih =>
    obtain ⟨h1, h2⟩ := List.pairwise_cons.1 h
    rcases List.mem_cons.1 hp with rfl | hp' <;> rcases List.mem_cons.1 hq with rfl | hq'
    · rfl
    · exact absurd e (bb_ne (h1 q hq'))
    · exact absurd e.symm (bb_ne (h1 p hp'))
    · exact ih h2 hp' hq'
theorem Ris.ext : ∀ {N M : NL}, Ris N → Ris M → (∀ p, p ∈ N ↔ p ∈ M) → N = M
  | [], [], _, _, _ => rfl
  | [], m :: M, _, _, h => absurd ((h m).2 (by simp)) (by simp)
  | n :: N, [], _, _, h => absurd ((h n).1 (by simp)) (by simp)
  | n :: N, m :: M, hN, hM, h => by
    obtain ⟨n1, n2⟩ := List.pairwise_cons.1 hN
    obtain ⟨m1, m2⟩ := List.pairwise_cons.1 hM
    have e : n = m := by
      rcases List.mem_cons.1 ((h n).1 (by simp)) with e | e
      · exact e
      · rcases List.mem_cons.1 ((h m).2 (by simp)) with e' | e'
        · exact e'.symm
        · have a := m1 n e
          have b := n1 m e'
          have := bb_trans a b
          rw [bb_irr] at this
          cases this
    subst e
    congr 1
    refine Ris.ext n2 m2 fun p => ⟨fun hp => ?_, fun hp => ?_⟩
    · rcases List.mem_cons.1 ((h p).1 (by simp [hp])) with e | e
      · exact absurd (e ▸ n1 p hp) (by rw [bb_irr]; simp)
      · exact e
    · rcases List.mem_cons.1 ((h p).2 (by simp [hp])) with e | e
      · exact absurd (e ▸ m1 p hp) (by rw [bb_irr]; simp)
      · exact e
theorem nat?_some {k : Nm} {b : Nat} {N : NL} (h : nat? k N = some b) : (k, b) ∈ N := by
  unfold nat? at h
  obtain ⟨p, hp, rfl⟩ := Option.map_eq_some_iff.1 h
  have h1 := List.find?_some hp
  have h2 := List.mem_of_find?_eq_some hp
  simp only [beq_iff_eq] at h1
  rw [← h1]
  exact h2
theorem nat?_none {k : Nm} {N : NL} : nat? k N = none ↔ ∀ p ∈ N, p.1 ≠ k := by
  unfold nat?
  simp
theorem Ris.at {N : NL} (h : Ris N) {k : Nm} {b : Nat} (hm : (k, b) ∈ N) : nat? k N = some b := by
  cases e : nat? k N with
  | none => exact absurd rfl (nat?_none.1 e (k, b) hm)
  | some c =>
    have := h.key (nat?_some e) hm rfl
    simp only [Prod.mk.injEq, true_and] at this
    rw [this]
theorem nat?_put_same {k : Nm} {b : Nat} {N : NL} (h : Ris N) : nat? k (nput k b N) = some b := (h.put k b).at (mem_nput.2 (.inl rfl))
theorem nat?_put_other {k k' : Nm} {b : Nat} {N : NL} (h : Ris N) (hne : k' ≠ k) : nat? k' (nput k b N) = nat? k' N := by
  cases e : nat? k' N with
  | none =>
    refine nat?_none.2 fun p hp => ?_
    rcases mem_nput.1 hp with rfl | ⟨hp, _⟩
    · exact hne.symm
    · exact nat?_none.1 e p hp
  | some c => exact (h.put k b).at (mem_nput.2 (.inr ⟨nat?_some e, hne⟩))
theorem len_nins (x : Nm × Nat) : ∀ N : NL, (nins x N).length = N.length + 1
  | [] => rfl
  | y :: r => by
    unfold nins
    split
    · rfl
    · simp [len_nins x r]
theorem len_ndel_le (k : Nm) (N : NL) : (ndel k N).length ≤ N.length := List.length_filter_le _ _
theorem len_nput_le (k : Nm) (b : Nat) (N : NL) : (nput k b N).length ≤ N.length + 1 := by
  rw [nput, len_nins]
  have := len_ndel_le k N
  omega
/-- Entries that have come, with one more. -/
theorem put_left {N : NL} (h : Ris N) {k : Nm} {b : Nat} (hm : (k, b) ∈ N) (left : Nm → Bool) :
    nput k b (N.filter fun p => !left p.1) = N.filter fun p => !(left p.1 && !(p.1 == k)) := by
  refine Ris.ext ((h.filter _).put k b) (h.filter _) fun p => ?_
  rw [mem_nput, List.mem_filter, List.mem_filter]
  constructor
  · rintro (rfl | ⟨⟨h1, h2⟩, h3⟩)
    · exact ⟨hm, by simp⟩
    · refine ⟨h1, ?_⟩
      simp at h2
      simp [h2]
  · rintro ⟨h1, h2⟩
    by_cases e : p.1 = k
    · left
      exact h.key h1 hm e
    · right
      refine ⟨⟨h1, ?_⟩, e⟩
      simpa [e] using h2
end Go.Proofs.Ythdfoahnkkkbmaa
