/-
  A FINITE ORDER, AS PLAIN DATA: names, and for each element the bits of those below it and above it; what New does on it.
-/
import Derived.Test.YtnbgaenajehbkaaLxZ
namespace Go.Proofs.Ytnbgaenajehbkaa
set_option linter.unusedVariables false
set_option linter.unusedSimpArgs false

abbrev OPr := ByteArray × ByteArray
structure Od where
  ns : List ByteArray
  be : Nat → Nat
  ab : Nat → Nat
def oup (f : Nat → Nat) (i v : Nat) : Nat → Nat := fun k => if k = i then v else f k
theorem oup_same (f : Nat → Nat) (i v : Nat) : oup f i v i = v := by simp [oup]
theorem oup_other (f : Nat → Nat) {i k : Nat} (v : Nat) (h : k ≠ i) : oup f i v k = f k := by simp [oup, h]
def Od.zero : Od := ⟨[], fun _ => 0, fun _ => 0⟩
/-- A name's place. -/
def opos (l : List ByteArray) (s : ByteArray) : Option Nat := l.findIdx? fun t => decide (t = s)
def Od.num (o : Od) (s : ByteArray) : Nat := (opos o.ns s).getD 0
def Od.know (o : Od) (s : ByteArray) : Od × Bool :=
  if (opos o.ns s).isSome then (o, true) else if o.ns.length = 64 then (o, false)
  else (⟨o.ns ++ [s], oup o.be o.ns.length (2 ^ o.ns.length), oup o.ab o.ns.length (2 ^ o.ns.length)⟩, true)
def Od.edge (o : Od) (a b : Nat) : Od := ⟨o.ns, oup o.be b (o.be b ||| 2 ^ a), oup o.ab a (o.ab a ||| 2 ^ b)⟩
def oBad (p : OPr) : Bool := !(idB p.1) || (!(decide (p.2.size = 0)) && !(idB p.2))
def Od.add (o : Od) (p : OPr) : Od × Nat :=
  if oBad p = true then (o, 1)
  else if (o.know p.1).2 = false then (o, 8)
  else if p.2.size = 0 then ((o.know p.1).1, 0)
  else if ((o.know p.1).1.know p.2).2 = false then (o, 8)
  else (((o.know p.1).1.know p.2).1.edge (((o.know p.1).1.know p.2).1.num p.1) (((o.know p.1).1.know p.2).1.num p.2), 0)
def Od.adds (o : Od) : List OPr → Nat → Od × Nat × Nat
  | [], _ => (o, 0, 0)
  | p :: r, i => if (o.add p).2 ≠ 0 then (o, i, (o.add p).2) else Od.adds (o.add p).1 r (i + 1)
/-- One round: what comes to t comes to all that t comes to. -/
def ostep (n t : Nat) (f : Nat → Nat) : Nat → Nat := fun i => if i < n ∧ (f i).testBit t = true then f i ||| f t else f i
def orun (n : Nat) (f : Nat → Nat) : Nat → Nat → Nat
  | 0 => f
  | k + 1 => ostep n k (orun n f k)
def Od.fol (o : Od) : Od := ⟨o.ns, orun o.ns.length o.be o.ns.length, orun o.ns.length o.ab o.ns.length⟩
def Od.most (o : Od) (a b : Nat) : Bool := decide (a < o.ns.length) && (decide (b < o.ns.length) && (o.be b).testBit a)
def Od.bad (o : Od) : List OPr → Nat → Option Nat
  | [], _ => none
  | p :: r, i => if !(decide (p.2.size = 0)) && o.most (o.num p.2) (o.num p.1) then some i else Od.bad o r (i + 1)
def newO (l : List OPr) : Option Od × Nat × Nat :=
  if (Od.zero.adds l 0).2.2 ≠ 0 then (none, (Od.zero.adds l 0).2) else
    match (Od.zero.adds l 0).1.fol.bad l 0 with
    | some i => (none, i, 16)
    | none => (some (Od.zero.adds l 0).1.fol, 0, 0)

/-! ### what is known of it -/
theorem opos_none {l : List ByteArray} {s : ByteArray} : opos l s = none ↔ s ∉ l := by
  unfold opos
  rw [List.findIdx?_eq_none_iff]
  constructor
  · intro h hs
    have := h s hs
    simp at this
  · intro h x hx
    simp
    intro e
    exact h (e ▸ hx)
theorem opos_some {l : List ByteArray} {s : ByteArray} {i : Nat} (h : opos l s = some i) : ∃ hi : i < l.length, l[i] = s := by
  unfold opos at h
  rw [List.findIdx?_eq_some_iff_getElem] at h
  obtain ⟨hi, h1, _⟩ := h
  exact ⟨hi, by simpa using h1⟩
theorem opos_lt {l : List ByteArray} {s : ByteArray} {i : Nat} (h : opos l s = some i) : i < l.length := (opos_some h).1
theorem opos_mem {l : List ByteArray} {s : ByteArray} (h : s ∈ l) : ∃ i, opos l s = some i := by
  cases e : opos l s with
  | none => exact absurd h (opos_none.1 e)
  | some i => exact ⟨i, rfl⟩
theorem opos_get {l : List ByteArray} (hd : l.Nodup) {i : Nat} (hi : i < l.length) : opos l l[i] = some i := by
  obtain ⟨j, hj⟩ := opos_mem (l := l) (s := l[i]) (List.getElem_mem _)
  obtain ⟨h1, h2⟩ := opos_some hj
  rw [hj]
  congr 1
  exact (List.getElem_inj hd).1 h2
theorem opos_app {l : List ByteArray} {s t : ByteArray} (h : s ∉ l) : opos (l ++ [s]) t = if t = s then some l.length else opos l t := by
  unfold opos
  rw [List.findIdx?_append]
  by_cases e : t = s
  · subst e
    rw [if_pos rfl]
    have : List.findIdx? (fun x => decide (x = t)) l = none := opos_none.2 h
    rw [this]
    simp [List.findIdx?_cons]
  · rw [if_neg e]
    have : List.findIdx? (fun x => decide (x = t)) [s] = none := by
      rw [List.findIdx?_eq_none_iff]
      intro x hx
      simp at hx
      subst hx
      simp
      exact fun h => e h.symm
    rw [this]
    simp

/-- The numbers stay below 2^64. -/
structure Od.Wf (o : Od) : Prop where
  nd : o.ns.Nodup
  len : o.ns.length ≤ 64
  be : ∀ i, o.be i < 2 ^ 64
  ab : ∀ i, o.ab i < 2 ^ 64
theorem pow_lt64 {a : Nat} (h : a < 64) : 2 ^ a < 2 ^ 64 := Nat.pow_lt_pow_right (by omega) h
theorem oup_lt {f : Nat → Nat} (h : ∀ i, f i < 2 ^ 64) {v : Nat} (hv : v < 2 ^ 64) (a : Nat) : ∀ i, oup f a v i < 2 ^ 64 := fun i => by
  unfold oup
  split
  · exact hv
  · exact h i
theorem Od.Wf.zero : Od.zero.Wf := ⟨List.nodup_nil, by simp [Od.zero], fun _ => by simp [Od.zero], fun _ => by simp [Od.zero]⟩
theorem Od.know_new {o : Od} {s : ByteArray} (h : s ∉ o.ns) (hl : o.ns.length ≠ 64) : o.know s = (⟨o.ns ++ [s], oup o.be o.ns.length (2 ^ o.ns.length), oup o.ab o.ns.length (2 ^ o.ns.length)⟩, true) := by
  unfold Od.know
  rw [opos_none.2 h]
  simp [hl]
theorem Od.know_old {o : Od} {s : ByteArray} (h : s ∈ o.ns) : o.know s = (o, true) := by
  obtain ⟨i, hi⟩ := opos_mem h
  unfold Od.know
  rw [hi]
  simp
theorem Od.know_full {o : Od} {s : ByteArray} (h : s ∉ o.ns) (hl : o.ns.length = 64) : o.know s = (o, false) := by
  unfold Od.know
  rw [opos_none.2 h]
  simp [hl]
theorem Od.Wf.know {o : Od} (h : o.Wf) (s : ByteArray) : (o.know s).1.Wf := by
  by_cases hs : s ∈ o.ns
  · rw [Od.know_old hs]; exact h
  · by_cases hl : o.ns.length = 64
    · rw [Od.know_full hs hl]; exact h
    · rw [Od.know_new hs hl]
      have := h.len
      refine ⟨?_, by simp; omega, oup_lt h.be (pow_lt64 (by omega)) _, oup_lt h.ab (pow_lt64 (by omega)) _⟩
      rw [List.nodup_append]
      refine ⟨h.nd, by simp, fun a ha b hb => ?_⟩
      simp at hb
      subst hb
      exact fun e => hs (e ▸ ha)
theorem Od.Wf.edge {o : Od} (h : o.Wf) {a b : Nat} (ha : a < 64) (hb : b < 64) : (o.edge a b).Wf :=
  ⟨h.nd, h.len, oup_lt h.be (Nat.or_lt_two_pow (h.be _) (pow_lt64 ha)) _, oup_lt h.ab (Nat.or_lt_two_pow (h.ab _) (pow_lt64 hb)) _⟩
theorem Od.know_mem {o : Od} {s : ByteArray} (h : (o.know s).2 = true) : s ∈ (o.know s).1.ns := by
  by_cases hs : s ∈ o.ns
  · rw [Od.know_old hs]; exact hs
  · by_cases hl : o.ns.length = 64
    · rw [Od.know_full hs hl] at h; cases h
    · rw [Od.know_new hs hl]; simp
theorem Od.know_sub {o : Od} {s t : ByteArray} (h : t ∈ o.ns) : t ∈ (o.know s).1.ns := by
  by_cases hs : s ∈ o.ns
  · rw [Od.know_old hs]; exact h
  · by_cases hl : o.ns.length = 64
    · rw [Od.know_full hs hl]; exact h
    · rw [Od.know_new hs hl]; simp [h]
theorem Od.num_lt {o : Od} {s : ByteArray} (h : s ∈ o.ns) : o.num s < o.ns.length := by
  obtain ⟨i, hi⟩ := opos_mem h
  unfold Od.num
  rw [hi]
  exact opos_lt hi
theorem Od.num_get {o : Od} {s : ByteArray} (h : s ∈ o.ns) : o.ns[o.num s]? = some s := by
  obtain ⟨i, hi⟩ := opos_mem h
  obtain ⟨h1, h2⟩ := opos_some hi
  have : o.num s = i := by unfold Od.num; rw [hi]; rfl
  rw [this, List.getElem?_eq_getElem h1, h2]
theorem Od.Wf.add {o : Od} (h : o.Wf) (p : OPr) : (o.add p).1.Wf := by
  unfold Od.add
  split
  · exact h
  · split
    · exact h
    · rename_i _ h1
      split
      · exact h.know _
      · split
        · exact h
        · rename_i _ h2
          have h1 : (o.know p.1).2 = true := by simpa using h1
          have h2 : ((o.know p.1).1.know p.2).2 = true := by simpa using h2
          have hw := (h.know p.1).know p.2
          have m1 := Od.num_lt (Od.know_sub (s := p.2) (Od.know_mem h1))
          have m2 := Od.num_lt (Od.know_mem h2)
          have := hw.len
          exact hw.edge (by omega) (by omega)
theorem ostep_lt {n t : Nat} {f : Nat → Nat} (h : ∀ i, f i < 2 ^ 64) : ∀ i, ostep n t f i < 2 ^ 64 := fun i => by
  unfold ostep
  split
  · exact Nat.or_lt_two_pow (h _) (h _)
  · exact h i
theorem orun_lt {n : Nat} {f : Nat → Nat} (h : ∀ i, f i < 2 ^ 64) : ∀ k i, orun n f k i < 2 ^ 64
  | 0 => h
  | k + 1 => ostep_lt (orun_lt h k)
theorem Od.Wf.fol {o : Od} (h : o.Wf) : o.fol.Wf := ⟨h.nd, h.len, fun i => orun_lt h.be _ i, fun i => orun_lt h.ab _ i⟩
/-- Within a round: the elements ahead of i are done. -/
def opart (n t i : Nat) (f : Nat → Nat) : Nat → Nat := fun j => if j < i then ostep n t f j else f j
theorem opart_zero (n t : Nat) (f : Nat → Nat) : opart n t 0 f = f := by funext j; simp [opart]
theorem opart_full (n t : Nat) (f : Nat → Nat) : opart n t n f = ostep n t f := by
  funext j
  unfold opart
  split
  · rfl
  · unfold ostep
    rw [if_neg]
    omega
theorem ostep_self (n t : Nat) (f : Nat → Nat) : ostep n t f t = f t := by
  unfold ostep
  split
  · exact Nat.or_self _
  · rfl
theorem opart_self (n t i : Nat) (f : Nat → Nat) : opart n t i f t = f t := by
  unfold opart
  split
  · exact ostep_self n t f
  · rfl
theorem opart_at (n t i : Nat) (f : Nat → Nat) : opart n t i f i = f i := by simp [opart]
theorem opart_yes {n t i : Nat} {f : Nat → Nat} (hi : i < n) (h : (f i).testBit t = true) : oup (opart n t i f) i (f i ||| f t) = opart n t (i + 1) f := by
  funext j
  unfold oup opart
  by_cases e : j = i
  · subst e
    rw [if_pos rfl, if_pos (by omega)]
    unfold ostep
    rw [if_pos ⟨hi, h⟩]
  · rw [if_neg e]
    by_cases e2 : j < i
    · rw [if_pos e2, if_pos (by omega)]
    · rw [if_neg e2, if_neg (by omega)]
theorem opart_no {n t i : Nat} {f : Nat → Nat} (h : (f i).testBit t = false) : opart n t i f = opart n t (i + 1) f := by
  funext j
  unfold opart
  by_cases e : j = i
  · subst e
    rw [if_neg (by omega), if_pos (by omega)]
    unfold ostep
    rw [if_neg]
    simp [h]
  · by_cases e2 : j < i
    · rw [if_pos e2, if_pos (by omega)]
    · rw [if_neg e2, if_neg (by omega)]
theorem opart_lt {n t i : Nat} {f : Nat → Nat} (h : ∀ i, f i < 2 ^ 64) : ∀ j, opart n t i f j < 2 ^ 64 := fun j => by
  unfold opart
  split
  · exact ostep_lt h j
  · exact h j
end Go.Proofs.Ytnbgaenajehbkaa
