/-
  A FINITE ORDER, AS PLAIN DATA: names, and for each element the bits of those below it and above it; what New does on it.
  WHAT AN ORDER SAYS: one name is at most another one just if pairs lead from it to that.
  PAIRS THE OTHER WAY ABOUT, and when pairs make an order.
-/
import Derived.Test.YthdfoahnkkkbmaaLxZ
namespace Go.Proofs.Ythdfoahnkkkbmaa
set_option linter.unusedVariables false
set_option linter.unusedSimpArgs false

abbrev OPr := ByteArray × ByteArray
structure Od where
  ns : List ByteArray
  be : Nat → Nat
  ab : Nat → Nat
def oup (f : Nat → Nat) (i v : Nat) : Nat → Nat := fun k => if k = i then v else f k
theorem oup_same (f : Nat → Nat) (i v : Nat) : oup f i v i = v := by simp [oup]
theorem oup_other (f : Nat → Nat) {i k : Nat} (v : Nat) (h : k ≠ i) : oup f i v k = f k := by simp [oup, h]
def Od.zero : Od := ⟨[], fun _ => 0, fun _ => 0⟩
/-- A name's place. -/
def opos (l : List ByteArray) (s : ByteArray) : Option Nat := l.findIdx? fun t => decide (t = s)
def Od.num (o : Od) (s : ByteArray) : Nat := (opos o.ns s).getD 0
def Od.know (o : Od) (s : ByteArray) : Od × Bool :=
  if (opos o.ns s).isSome then (o, true) else if o.ns.length = 64 then (o, false)
  else (⟨o.ns ++ [s], oup o.be o.ns.length (2 ^ o.ns.length), oup o.ab o.ns.length (2 ^ o.ns.length)⟩, true)
def Od.edge (o : Od) (a b : Nat) : Od := ⟨o.ns, oup o.be b (o.be b ||| 2 ^ a), oup o.ab a (o.ab a ||| 2 ^ b)⟩
def oBad (p : OPr) : Bool := !(idB p.1) || (!(decide (p.2.size = 0)) && !(idB p.2))
def Od.add (o : Od) (p : OPr) : Od × Nat :=
  if oBad p = true then (o, 1)
  else if (o.know p.1).2 = false then (o, 8)
  else if p.2.size = 0 then ((o.know p.1).1, 0)
  else if ((o.know p.1).1.know p.2).2 = false then (o, 8)
  else (((o.know p.1).1.know p.2).1.edge (((o.know p.1).1.know p.2).1.num p.1) (((o.know p.1).1.know p.2).1.num p.2), 0)
def Od.adds (o : Od) : List OPr → Nat → Od × Nat × Nat
  | [], _ => (o, 0, 0)
  | p :: r, i => if (o.add p).2 ≠ 0 then (o, i, (o.add p).2) else Od.adds (o.add p).1 r (i + 1)
/-- One round: what comes to t comes to all that t comes to. -/
def ostep (n t : Nat) (f : Nat → Nat) : Nat → Nat := fun i => if i < n ∧ (f i).testBit t = true then f i ||| f t else f i
def orun (n : Nat) (f : Nat → Nat) : Nat → Nat → Nat
  | 0 => f
  | k + 1 => ostep n k (orun n f k)
def Od.fol (o : Od) : Od := ⟨o.ns, orun o.ns.length o.be o.ns.length, orun o.ns.length o.ab o.ns.length⟩
def Od.most (o : Od) (a b : Nat) : Bool := decide (a < o.ns.length) && (decide (b < o.ns.length) && (o.be b).testBit a)
def Od.bad (o : Od) : List OPr → Nat → Option Nat
  | [], _ => none
  | p :: r, i => if !(decide (p.2.size = 0)) && o.most (o.num p.2) (o.num p.1) then some i else Od.bad o r (i + 1)
def newO (l : List OPr) : Option Od × Nat × Nat :=
  if (Od.zero.adds l 0).2.2 ≠ 0 then (none, (Od.zero.adds l 0).2) else
    match (Od.zero.adds l 0).1.fol.bad l 0 with
    | some i => (none, i, 16)
    | none => (some (Od.zero.adds l 0).1.fol, 0, 0)

/-! ### what is known of it -/
theorem opos_none {l : List ByteArray} {s : ByteArray} : opos l s = none ↔ s ∉ l := by
  unfold opos
  rw [List.findIdx?_eq_none_iff]
  constructor
  · intro h hs
    have := h s hs
    simp at this
  · intro h x hx
    simp
    intro e
    exact h (e ▸ hx)
theorem opos_some {l : List ByteArray} {s : ByteArray} {i : Nat} (h : opos l s = some i) : ∃ hi : i < l.length, l[i] = s := by
  unfold opos at h
  rw [List.findIdx?_eq_some_iff_getElem] at h
  obtain ⟨hi, h1, _⟩ := h
  exact ⟨hi, by simpa using h1⟩
theorem opos_lt {l : List ByteArray} {s : ByteArray} {i : Nat} (h : opos l s = some i) : i < l.length := (opos_some h).1
theorem opos_mem {l : List ByteArray} {s : ByteArray} (h : s ∈ l) : ∃ i, opos l s = some i := by
  cases e : opos l s with
  | none => exact absurd h (opos_none.1 e)
  | some i => exact ⟨i, rfl⟩
theorem opos_get {l : List ByteArray} (hd : l.Nodup) {i : Nat} (hi : i < l.length) : opos l l[i] = some i := by
  obtain ⟨j, hj⟩ := opos_mem (l := l) (s := l[i]) (List.getElem_mem _)
  obtain ⟨h1, h2⟩ := opos_some hj
  rw [hj]
  congr 1
  exact (List.getElem_inj hd).1 h2
theorem opos_app {l : List ByteArray} {s t : ByteArray} (h : s ∉ l) : opos (l ++ [s]) t = if t = s then some l.length else opos l t := by
  unfold opos
  rw [List.findIdx?_append]
  by_cases e : t = s
  · subst e
    rw [if_pos rfl]
    have : List.findIdx? (fun x => decide (x = t)) l = none := opos_none.2 h
    rw [this]
    simp [List.findIdx?_cons]
  · rw [if_neg e]
    have : List.findIdx? (fun x => decide (x = t)) [s] = none := by
      rw [List.findIdx?_eq_none_iff]
      intro x hx
      simp at hx
      subst hx
      simp
      exact fun h => e h.symm
    rw [this]
    simp

/-- The numbers stay below 2^64. -/
structure Od.Wf (o : Od) : Prop where
  nd : o.ns.Nodup
  len : o.ns.length ≤ 64
  be : ∀ i, o.be i < 2 ^ 64
  ab : ∀ i, o.ab i < 2 ^ 64
theorem pow_lt64 {a : Nat} (h : a < 64) : 2 ^ a < 2 ^ 64 := Nat.pow_lt_pow_right (by omega) h
theorem oup_lt {f : Nat → Nat} (h : ∀ i, f i < 2 ^ 64) {v : Nat} (hv : v < 2 ^ 64) (a : Nat) : ∀ i, oup f a v i < 2 ^ 64 := fun i => by
  unfold oup
  split
  · exact hv
  · exact h i
theorem Od.Wf.zero : Od.zero.Wf := ⟨List.nodup_nil, by simp [Od.zero], fun _ => by simp [Od.zero], fun _ => by simp [Od.zero]⟩
theorem Od.know_new {o : Od} {s : ByteArray} (h : s ∉ o.ns) (hl : o.ns.length ≠ 64) : o.know s = (⟨o.ns ++ [s], oup o.be o.ns.length (2 ^ o.ns.length), oup o.ab o.ns.length (2 ^ o.ns.length)⟩, true) := by
  unfold Od.know
  rw [opos_none.2 h]
  simp [hl]
theorem Od.know_old {o : Od} {s : ByteArray} (h : s ∈ o.ns) : o.know s = (o, true) := by
  obtain ⟨i, hi⟩ := opos_mem h
  unfold Od.know
  rw [hi]
  simp
theorem Od.know_full {o : Od} {s : ByteArray} (h : s ∉ o.ns) (hl : o.ns.length = 64) : o.know s = (o, false) := by
  unfold Od.know
  rw [opos_none.2 h]
  simp [hl]
theorem Od.Wf.know {o : Od} (h : o.Wf) (s : ByteArray) : (o.know s).1.Wf := by
  by_cases hs : s ∈ o.ns
  · rw [Od.know_old hs]; exact h
  · by_cases hl : o.ns.length = 64
    · rw [Od.know_full hs hl]; exact h
    · rw [Od.know_new hs hl]
      have := h.len
      refine ⟨?_, by simp; omega, oup_lt h.be (pow_lt64 (by omega)) _, oup_lt h.ab (pow_lt64 (by omega)) _⟩
      rw [List.nodup_append]
      refine ⟨h.nd, by simp, fun a ha b hb => ?_⟩
      simp at hb
      subst hb
      exact fun e => hs (e ▸ ha)
theorem Od.Wf.edge {o : Od} (h : o.Wf) {a b : Nat} (ha : a < 64) (hb : b < 64) : (o.edge a b).Wf :=
  ⟨h.nd, h.len, oup_lt h.be (Nat.or_lt_two_pow (h.be _) (pow_lt64 ha)) _, oup_lt h.ab (Nat.or_lt_two_pow (h.ab _) (pow_lt64 hb)) _⟩
theorem Od.know_mem {o : Od} {s : ByteArray} (h : (o.know s).2 = true) : s ∈ (o.know s).1.ns := by
  by_cases hs : s ∈ o.ns
  · rw [Od.know_old hs]; exact hs
  · by_cases hl : o.ns.length = 64
    · rw [Od.know_full hs hl] at h; cases h
    · rw [Od.know_new hs hl]; simp
theorem Od.know_sub {o : Od} {s t : ByteArray} (h : t ∈ o.ns) : t ∈ (o.know s).1.ns := by
  by_cases hs : s ∈ o.ns
  · rw [Od.know_old hs]; exact h
  · by_cases hl : o.ns.length = 64
    · rw [Od.know_full hs hl]; exact h
    · rw [Od.know_new hs hl]; simp [h]
theorem Od.num_lt {o : Od} {s : ByteArray} (h : s ∈ o.ns) : o.num s < o.ns.length := by
  obtain ⟨i, hi⟩ := opos_mem h
  unfold Od.num
  rw [hi]
  exact opos_lt hi
theorem Od.num_get {o : Od} {s : ByteArray} (h : s ∈ o.ns) : o.ns[o.num s]? = some s := by
  obtain ⟨i, hi⟩ := opos_mem h
  obtain ⟨h1, h2⟩ := opos_some hi
  have : o.num s = i := by unfold Od.num; rw [hi]; rfl
  rw [this, List.getElem?_eq_getElem h1, h2]
theorem Od.Wf.add {o : Od} (h : o.Wf) (p : OPr) : (o.add p).1.Wf := by
  unfold Od.add
  split
  · exact h
  · split
    · exact h
    · rename_i _ h1
      split
      · exact h.know _
      · split
        · exact h
        · rename_i _ h2
          have h1 : (o.know p.1).2 = true := by simpa using h1
          have h2 : ((o.know p.1).1.know p.2).2 = true := by simpa using h2
          have hw := (h.know p.1).know p.2
          have m1 := Od.num_lt (Od.know_sub (s := p.2) (Od.know_mem h1))
          have m2 := Od.num_lt (Od.know_mem h2)
          have := hw.len
          exact hw.edge (by omega) (by omega)
theorem ostep_lt {n t : Nat} {f : Nat → Nat} (h : ∀ i, f i < 2 ^ 64) : ∀ i, ostep n t f i < 2 ^ 64 := fun i => by
  unfold ostep
  split
  · exact Nat.or_lt_two_pow (h _) (h _)
  · exact h i
theorem orun_lt {n : Nat} {f : Nat → Nat} (h : ∀ i, f i < 2 ^ 64) : ∀ k i, orun n f k i < 2 ^ 64
  | 0 => h
  | k + 1 => ostep_lt (orun_lt h k)
theorem Od.Wf.fol {o : Od} (h : o.Wf) : o.fol.Wf := ⟨h.nd, h.len, fun i => orun_lt h.be _ i, fun i => orun_lt h.ab _ i⟩
/-- Within a round: the elements ahead of i are done. -/
def opart (n t i : Nat) (f : Nat → Nat) : Nat → Nat := fun j => if j < i then ostep n t f j else f j
theorem opart_zero (n t : Nat) (f : Nat → Nat) : opart n t 0 f = f := by funext j; simp [opart]
theorem opart_full (n t : Nat) (f : Nat → Nat) : opart n t n f = ostep n t f := by
  funext j
  unfold opart
  split
  · rfl
  · unfold ostep
    rw [if_neg]
    omega
theorem ostep_self (n t : Nat) (f : Nat → Nat) : ostep n t f t = f t := by
  unfold ostep
  split
  · exact Nat.or_self _
  · rfl
theorem opart_self (n t i : Nat) (f : Nat → Nat) : opart n t i f t = f t := by
  unfold opart
  split
  · exact ostep_self n t f
  · rfl
theorem opart_at (n t i : Nat) (f : Nat → Nat) : opart n t i f i = f i := by simp [opart]
theorem opart_yes {n t i : Nat} {f : Nat → Nat} (hi : i < n) (h : (f i).testBit t = true) : oup (opart n t i f) i (f i ||| f t) = opart n t (i + 1) f := by
  funext j
  unfold oup opart
  by_cases e : j = i
  · subst e
    rw [if_pos rfl, if_pos (by omega)]
    unfold ostep
    rw [if_pos ⟨hi, h⟩]
  · rw [if_neg e]
    by_cases e2 : j < i
    · rw [if_pos e2, if_pos (by omega)]
    · rw [if_neg e2, if_neg (by omega)]
theorem opart_no {n t i : Nat} {f : Nat → Nat} (h : (f i).testBit t = false) : opart n t i f = opart n t (i + 1) f := by
  funext j
  unfold opart
  by_cases e : j = i
  · subst e
    rw [if_neg (by omega), if_pos (by omega)]
    unfold ostep
    rw [if_neg]
    simp [h]
  · by_cases e2 : j < i
    · rw [if_pos e2, if_pos (by omega)]
    · rw [if_neg e2, if_neg (by omega)]
theorem opart_lt {n t i : Nat} {f : Nat → Nat} (h : ∀ i, f i < 2 ^ 64) : ∀ j, opart n t i f j < 2 ^ 64 := fun j => by
  unfold opart
  split
  · exact ostep_lt h j
  · exact h j
end Go.Proofs.Ythdfoahnkkkbmaa
namespace Go.Proofs.Ythdfoahnkkkbmaa
set_option linter.unusedVariables false
set_option linter.unusedSimpArgs false

/-- Pairs lead from a to b. -/
inductive Rch (l : List OPr) : ByteArray → ByteArray → Prop
  | refl (a : ByteArray) : Rch l a a
  | step {p : OPr} {b : ByteArray} (hp : p ∈ l) (h2 : p.2.size ≠ 0) (h : Rch l p.2 b) : Rch l p.1 b
theorem Rch.trans {l : List OPr} {a b c : ByteArray} (h : Rch l a b) (k : Rch l b c) : Rch l a c := by
  induction h with
  | refl => exact k
  | step hp h2 _ ih => exact .step hp h2 (ih k)
theorem Rch.edge {l : List OPr} {p : OPr} (hp : p ∈ l) (h2 : p.2.size ≠ 0) : Rch l p.1 p.2 := .step hp h2 (.refl _)
/-- Names of pairs. -/
def Men (l : List OPr) (s : ByteArray) : Prop := ∃ p ∈ l, s = p.1 ∨ (p.2.size ≠ 0 ∧ s = p.2)
theorem Men.snoc {l : List OPr} {p : OPr} {s : ByteArray} : Men (l ++ [p]) s ↔ Men l s ∨ s = p.1 ∨ (p.2.size ≠ 0 ∧ s = p.2) := by
  unfold Men
  constructor
  · rintro ⟨q, hq, h⟩
    rcases List.mem_append.1 hq with hq | hq
    · exact .inl ⟨q, hq, h⟩
    · rw [List.mem_singleton.1 hq] at h; exact .inr h
  · rintro (⟨q, hq, h⟩ | h)
    · exact ⟨q, List.mem_append_left _ hq, h⟩
    · exact ⟨p, by simp, h⟩
def Edg (l : List OPr) (a b : ByteArray) : Prop := ∃ p ∈ l, p.2.size ≠ 0 ∧ a = p.1 ∧ b = p.2
theorem Edg.snoc {l : List OPr} {p : OPr} {a b : ByteArray} : Edg (l ++ [p]) a b ↔ Edg l a b ∨ (p.2.size ≠ 0 ∧ a = p.1 ∧ b = p.2) := by
  unfold Edg
  constructor
  · rintro ⟨q, hq, h⟩
    rcases List.mem_append.1 hq with hq | hq
    · exact .inl ⟨q, hq, h⟩
    · rw [List.mem_singleton.1 hq] at h; exact .inr h
  · rintro (⟨q, hq, h⟩ | h)
    · exact ⟨q, List.mem_append_left _ hq, h⟩
    · exact ⟨p, by simp, h⟩

/-- What is known while pairs P come in. -/
structure Oiv (o : Od) (P : List OPr) : Prop where
  wf : o.Wf
  men : ∀ s, s ∈ o.ns ↔ Men P s
  bits : ∀ i (hi : i < o.ns.length) j, (o.be i).testBit j = true ↔ ∃ hj : j < o.ns.length, i = j ∨ Edg P o.ns[j] o.ns[i]
  bits2 : ∀ i (hi : i < o.ns.length) j, (o.ab i).testBit j = true ↔ ∃ hj : j < o.ns.length, i = j ∨ Edg P o.ns[i] o.ns[j]
theorem Oiv.zero : Oiv Od.zero [] := ⟨Od.Wf.zero, fun s => by simp [Od.zero, Men], fun i hi => absurd hi (by simp [Od.zero]), fun i hi => absurd hi (by simp [Od.zero])⟩
theorem pow_bit (n j : Nat) : (2 ^ n).testBit j = true ↔ n = j := by
  rw [Nat.testBit_two_pow]; simp
theorem opos_eq {l : List ByteArray} {s : ByteArray} {j : Nat} (hd : l.Nodup) (hj : j < l.length) (h : l[j] = s) : opos l s = some j := by
  rw [← h]; exact opos_get hd hj
theorem edg_men {P : List OPr} {a b : ByteArray} (h : Edg P a b) : Men P a ∧ Men P b := by
  obtain ⟨p, hp, h2, rfl, rfl⟩ := h
  exact ⟨⟨p, hp, .inl rfl⟩, ⟨p, hp, .inr ⟨h2, rfl⟩⟩⟩
/-- With one more name (whose pair isn't in P yet). -/
structure Oiw (o : Od) (P : List OPr) (S : ByteArray → Prop) : Prop where
  wf : o.Wf
  men : ∀ s, s ∈ o.ns ↔ Men P s ∨ S s
  bits : ∀ i (hi : i < o.ns.length) j, (o.be i).testBit j = true ↔ ∃ hj : j < o.ns.length, i = j ∨ Edg P o.ns[j] o.ns[i]
  bits2 : ∀ i (hi : i < o.ns.length) j, (o.ab i).testBit j = true ↔ ∃ hj : j < o.ns.length, i = j ∨ Edg P o.ns[i] o.ns[j]
theorem Oiw.know {o : Od} {P : List OPr} {S : ByteArray → Prop} (h : Oiw o P S) (s : ByteArray) (hk : (o.know s).2 = true) : Oiw (o.know s).1 P (fun t => S t ∨ t = s) := by
  by_cases hs : s ∈ o.ns
  · rw [Od.know_old hs]
    refine ⟨h.wf, fun t => ?_, h.bits, h.bits2⟩
    rw [h.men]
    constructor
    · rintro (a | a)
      · exact .inl a
      · exact .inr (.inl a)
    · rintro (a | a | a)
      · exact .inl a
      · exact .inr a
      · rw [a]; exact (h.men s).1 hs
  · by_cases hl : o.ns.length = 64
    · rw [Od.know_full hs hl] at hk; cases hk
    · have hw := h.wf.know s
      rw [Od.know_new hs hl] at hw ⊢
      have hnm : ∀ t, Men P t → t ≠ s := fun t ht e => hs (by rw [← e]; exact (h.men t).2 (.inl ht))
      refine ⟨hw, fun t => ?_, fun i hi j => ?_, fun i hi j => ?_⟩
      · show t ∈ o.ns ++ [s] ↔ _
        rw [List.mem_append, h.men, List.mem_singleton]
        exact or_assoc
      · show (oup o.be o.ns.length (2 ^ o.ns.length) i).testBit j = true ↔ ∃ hj : j < (o.ns ++ [s]).length, i = j ∨ Edg P (o.ns ++ [s])[j] (o.ns ++ [s])[i]
        have hi' : i < o.ns.length + 1 := by simpa using hi
        by_cases e : i = o.ns.length
        · subst e
          rw [oup_same, pow_bit]
          constructor
          · intro e; subst e; exact ⟨by simp, .inl rfl⟩
          · rintro ⟨hj, e | e⟩
            · exact e
            · have := (edg_men e).2
              simp at this
              exact absurd rfl (hnm _ this)
        · have hi2 : i < o.ns.length := by omega
          rw [oup_other _ _ e, h.bits i hi2]
          constructor
          · rintro ⟨hj, e⟩
            refine ⟨by simp; omega, e.imp id fun e => ?_⟩
            rw [List.getElem_append_left hj, List.getElem_append_left hi2]
            exact e
          · rintro ⟨hj, e⟩
            have hj' : j < o.ns.length + 1 := by simpa using hj
            by_cases ej : j = o.ns.length
            · rcases e with e | e
              · omega
              · subst ej
                have := (edg_men e).1
                simp at this
                exact absurd rfl (hnm _ this)
            · have hj2 : j < o.ns.length := by omega
              rw [List.getElem_append_left hj2, List.getElem_append_left hi2] at e
              exact ⟨hj2, e⟩
      · show (oup o.ab o.ns.length (2 ^ o.ns.length) i).testBit j = true ↔ ∃ hj : j < (o.ns ++ [s]).length, i = j ∨ Edg P (o.ns ++ [s])[i] (o.ns ++ [s])[j]
        have hi' : i < o.ns.length + 1 := by simpa using hi
        by_cases e : i = o.ns.length
        · subst e
          rw [oup_same, pow_bit]
          constructor
          · intro e; subst e; exact ⟨by simp, .inl rfl⟩
          · rintro ⟨hj, e | e⟩
            · exact e
            · have := (edg_men e).1
              simp at this
              exact absurd rfl (hnm _ this)
        · have hi2 : i < o.ns.length := by omega
          rw [oup_other _ _ e, h.bits2 i hi2]
          constructor
          · rintro ⟨hj, e⟩
            refine ⟨by simp; omega, e.imp id fun e => ?_⟩
            rw [List.getElem_append_left hj, List.getElem_append_left hi2]
            exact e
          · rintro ⟨hj, e⟩
            have hj' : j < o.ns.length + 1 := by simpa using hj
            by_cases ej : j = o.ns.length
            · rcases e with e | e
              · omega
              · subst ej
                have := (edg_men e).2
                simp at this
                exact absurd rfl (hnm _ this)
            · have hj2 : j < o.ns.length := by omega
              rw [List.getElem_append_left hj2, List.getElem_append_left hi2] at e
              exact ⟨hj2, e⟩
theorem Oiv.add {o : Od} {P : List OPr} (h : Oiv o P) {p : OPr} (he : (o.add p).2 = 0) : Oiv (o.add p).1 (P ++ [p]) := by
  unfold Od.add at he ⊢
  split at he
  · cases he
  · rename_i c1
    rw [if_neg c1]
    split at he
    · cases he
    · rename_i c2
      rw [if_neg c2]
      have k1 : (o.know p.1).2 = true := by simpa using c2
      have w1 : Oiw (o.know p.1).1 P (fun t => False ∨ t = p.1) := Oiw.know (S := fun _ => False) ⟨h.wf, fun s => by rw [h.men]; simp, h.bits, h.bits2⟩ p.1 k1
      split at he
      · rename_i c3
        rw [if_pos c3]
        refine ⟨w1.wf, fun s => ?_, fun i hi j => ?_, fun i hi j => ?_⟩
        · rw [w1.men, Men.snoc]
          simp [c3]
        · rw [w1.bits i hi j]
          simp only [Edg.snoc]
          simp [c3]
        · rw [w1.bits2 i hi j]
          simp only [Edg.snoc]
          simp [c3]
      · rename_i c3
        rw [if_neg c3]
        split at he
        · cases he
        · rename_i c4
          rw [if_neg c4]
          have k2 : ((o.know p.1).1.know p.2).2 = true := by simpa using c4
          have w2 := Oiw.know w1 p.2 k2
          have m1 := Od.know_sub (s := p.2) (Od.know_mem k1)
          have m2 := Od.know_mem k2
          obtain ⟨q, hq⟩ : ∃ q, ((o.know p.1).1.know p.2).1 = q := ⟨_, rfl⟩
          rw [hq] at w2 m1 m2 ⊢
          have n1 := Od.num_lt m1
          have n2 := Od.num_lt m2
          have hl := w2.wf.len
          have g1 : q.ns[q.num p.1]'n1 = p.1 := by have := Od.num_get m1; rw [List.getElem?_eq_getElem n1] at this; exact Option.some.inj this
          have g2 : q.ns[q.num p.2]'n2 = p.2 := by have := Od.num_get m2; rw [List.getElem?_eq_getElem n2] at this; exact Option.some.inj this
          have u1 : ∀ j (hj : j < q.ns.length), q.ns[j] = p.1 ↔ q.num p.1 = j := fun j hj => by
            constructor
            · intro e; exact (List.getElem_inj w2.wf.nd).1 (g1.trans e.symm)
            · intro e; subst e; exact g1
          have u2 : ∀ j (hj : j < q.ns.length), q.ns[j] = p.2 ↔ q.num p.2 = j := fun j hj => by
            constructor
            · intro e; exact (List.getElem_inj w2.wf.nd).1 (g2.trans e.symm)
            · intro e; subst e; exact g2
          refine ⟨w2.wf.edge (by omega) (by omega), fun s => ?_, fun i hi j => ?_, fun i hi j => ?_⟩
          · show s ∈ q.ns ↔ _
            rw [w2.men, Men.snoc]
            simp only [false_or]
            rw [show (p.2.size ≠ 0 ∧ s = p.2) ↔ s = p.2 from ⟨fun h => h.2, fun h => ⟨c3, h⟩⟩]
          · show (oup q.be (q.num p.2) (q.be (q.num p.2) ||| 2 ^ (q.num p.1)) i).testBit j = true ↔ ∃ hj : j < q.ns.length, i = j ∨ Edg (P ++ [p]) q.ns[j] q.ns[i]
            have hi' : i < q.ns.length := hi
            have hb := w2.bits i hi' j
            by_cases e : i = q.num p.2
            · subst e
              rw [oup_same, Nat.testBit_or, Bool.or_eq_true, hb, pow_bit]
              constructor
              · rintro (⟨hj, e⟩ | e)
                · exact ⟨hj, e.imp id fun e => Edg.snoc.2 (.inl e)⟩
                · subst e; exact ⟨n1, .inr (Edg.snoc.2 (.inr ⟨c3, g1, g2⟩))⟩
              · rintro ⟨hj, e | e⟩
                · exact .inl ⟨hj, .inl e⟩
                · rcases Edg.snoc.1 e with e | ⟨_, e, _⟩
                  · exact .inl ⟨hj, .inr e⟩
                  · exact .inr ((u1 j hj).1 e)
            · rw [oup_other _ _ e, hb]
              constructor
              · rintro ⟨hj, e⟩
                exact ⟨hj, e.imp id fun e => Edg.snoc.2 (.inl e)⟩
              · rintro ⟨hj, e' | e'⟩
                · exact ⟨hj, .inl e'⟩
                · rcases Edg.snoc.1 e' with e' | ⟨_, _, e'⟩
                  · exact ⟨hj, .inr e'⟩
                  · exact absurd ((u2 i hi').1 e').symm e
          · show (oup q.ab (q.num p.1) (q.ab (q.num p.1) ||| 2 ^ (q.num p.2)) i).testBit j = true ↔ ∃ hj : j < q.ns.length, i = j ∨ Edg (P ++ [p]) q.ns[i] q.ns[j]
            have hi' : i < q.ns.length := hi
            have hb := w2.bits2 i hi' j
            by_cases e : i = q.num p.1
            · subst e
              rw [oup_same, Nat.testBit_or, Bool.or_eq_true, hb, pow_bit]
              constructor
              · rintro (⟨hj, e⟩ | e)
                · exact ⟨hj, e.imp id fun e => Edg.snoc.2 (.inl e)⟩
                · subst e; exact ⟨n2, .inr (Edg.snoc.2 (.inr ⟨c3, g1, g2⟩))⟩
              · rintro ⟨hj, e | e⟩
                · exact .inl ⟨hj, .inl e⟩
                · rcases Edg.snoc.1 e with e | ⟨_, _, e⟩
                  · exact .inl ⟨hj, .inr e⟩
                  · exact .inr ((u2 j hj).1 e)
            · rw [oup_other _ _ e, hb]
              constructor
              · rintro ⟨hj, e⟩
                exact ⟨hj, e.imp id fun e => Edg.snoc.2 (.inl e)⟩
              · rintro ⟨hj, e' | e'⟩
                · exact ⟨hj, .inl e'⟩
                · rcases Edg.snoc.1 e' with e' | ⟨_, e', _⟩
                  · exact ⟨hj, .inr e'⟩
                  · exact absurd ((u1 i hi').1 e').symm e
theorem Oiv.adds : ∀ {r : List OPr} {o : Od} {P : List OPr} {i : Nat}, Oiv o P → (o.adds r i).2.2 = 0 → Oiv (o.adds r i).1 (P ++ r)
  | [], o, P, i, h, _ => by simpa [Od.adds] using h
  | p :: r, o, P, i, h, he => by
    unfold Od.adds at he ⊢
    by_cases e : (o.add p).2 = 0
    · rw [if_neg (fun h => h e)] at he ⊢
      have := Oiv.adds (h.add e) he
      rw [List.append_assoc] at this
      exact this
    · rw [if_pos e] at he
      exact absurd he e

/-! ### what follows -/
section
variable {n : Nat} {f : Nat → Nat}
theorem ostep_bit {t i j : Nat} (hi : i < n) : (ostep n t f i).testBit j = true ↔ (f i).testBit j = true ∨ ((f i).testBit t = true ∧ (f t).testBit j = true) := by
  unfold ostep
  by_cases h : (f i).testBit t = true
  · rw [if_pos ⟨hi, h⟩, Nat.testBit_or, Bool.or_eq_true]
    simp [h]
  · rw [if_neg (fun e => h e.2)]
    simp [h]
theorem orun_mono {k i j : Nat} (hi : i < n) (h : (orun n f k i).testBit j = true) : (orun n f (k + 1) i).testBit j = true := (ostep_bit hi).2 (.inl h)
theorem orun_base {i j : Nat} (hi : i < n) (h : (f i).testBit j = true) : ∀ k, (orun n f k i).testBit j = true
  | 0 => h
  | k + 1 => orun_mono hi (orun_base hi h k)
theorem orun_through : ∀ (k : Nat), k ≤ n → ∀ t i j, t < k → i < n → (orun n f k i).testBit t = true → (orun n f k t).testBit j = true → (orun n f k i).testBit j = true
  | 0, _, t, _, _, ht, _, _, _ => absurd ht (Nat.not_lt_zero _)
  | k + 1, hk, t, i, j, ht, hi, h1, h2 => by
    have IH := orun_through k (by omega)
    have htn : t < n := by omega
    rw [orun] at h1 h2 ⊢
    rw [ostep_bit hi] at h1 ⊢
    rw [ostep_bit htn] at h2
    rcases Nat.lt_or_ge t k with htk | htk
    · rcases h1 with h1 | ⟨a1, b1⟩
      · rcases h2 with h2 | ⟨a2, b2⟩
        · exact .inl (IH t i j htk hi h1 h2)
        · exact .inr ⟨IH t i k htk hi h1 a2, b2⟩
      · rcases h2 with h2 | ⟨a2, b2⟩
        · exact .inr ⟨a1, IH t k j htk (by omega) b1 h2⟩
        · exact .inr ⟨a1, b2⟩
    · obtain rfl : t = k := by omega
      have a1 : (orun n f t i).testBit t = true := by
        rcases h1 with h1 | ⟨a1, _⟩
        · exact h1
        · exact a1
      have a2 : (orun n f t t).testBit j = true := by
        rcases h2 with h2 | ⟨_, a2⟩
        · exact h2
        · exact a2
      exact .inr ⟨a1, a2⟩
end
theorem Oiv.sound {o : Od} {P : List OPr} (h : Oiv o P) : ∀ (k : Nat), k ≤ o.ns.length → ∀ i (hi : i < o.ns.length) j, (orun o.ns.length o.be k i).testBit j = true → ∃ hj : j < o.ns.length, Rch P o.ns[j] o.ns[i]
  | 0, _, i, hi, j, hb => by
    obtain ⟨hj, e | ⟨p, hp, h2, e1, e2⟩⟩ := (h.bits i hi j).1 hb
    · subst e; exact ⟨hj, .refl _⟩
    · exact ⟨hj, by rw [e1, e2]; exact .edge hp h2⟩
  | k + 1, hk, i, hi, j, hb => by
    rw [orun, ostep_bit hi] at hb
    rcases hb with hb | ⟨h1, h2⟩
    · exact h.sound k (by omega) i hi j hb
    · obtain ⟨_, r1⟩ := h.sound k (by omega) i hi k h1
      obtain ⟨hj, r2⟩ := h.sound k (by omega) k (by omega) j h2
      exact ⟨hj, r2.trans r1⟩
theorem Oiv.complete {o : Od} {P : List OPr} (h : Oiv o P) {s t : ByteArray} (hr : Rch P s t) (ht : t ∈ o.ns) : ∃ i j, ∃ (hi : i < o.ns.length) (hj : j < o.ns.length), o.ns[i] = t ∧ o.ns[j] = s ∧ (orun o.ns.length o.be o.ns.length i).testBit j = true := by
  induction hr with
  | refl a =>
    obtain ⟨i, hi, e⟩ := List.getElem_of_mem ht
    exact ⟨i, i, hi, hi, e, e, orun_base hi ((h.bits i hi i).2 ⟨hi, .inl rfl⟩) _⟩
  | step hp h2 _ ih =>
    rename_i p b _
    obtain ⟨i, j, hi, hj, e1, e2, hb⟩ := ih ht
    have hm : p.1 ∈ o.ns := (h.men _).2 ⟨p, hp, .inl rfl⟩
    obtain ⟨m, hm, e3⟩ := List.getElem_of_mem hm
    have hbm : (orun o.ns.length o.be o.ns.length j).testBit m = true := orun_base hj ((h.bits j hj m).2 ⟨hm, .inr ⟨p, hp, h2, e3, e2⟩⟩) _
    exact ⟨i, m, hi, hm, e1, e3, orun_through _ (Nat.le_refl _) j i m hj hi hb hbm⟩
/-- a is at most b just if pairs lead from it to that. -/
theorem Oiv.most {o : Od} {P : List OPr} (h : Oiv o P) (a b : Nat) : o.fol.most a b = true ↔ ∃ (ha : a < o.ns.length) (hb : b < o.ns.length), Rch P o.ns[a] o.ns[b] := by
  unfold Od.most Od.fol
  simp only [Bool.and_eq_true, decide_eq_true_eq]
  constructor
  · rintro ⟨ha, hb, hbit⟩
    obtain ⟨_, hr⟩ := h.sound _ (Nat.le_refl _) b hb a hbit
    exact ⟨ha, hb, hr⟩
  · rintro ⟨ha, hb, hr⟩
    refine ⟨ha, hb, ?_⟩
    obtain ⟨i, j, hi, hj, e1, e2, hbit⟩ := h.complete hr (List.getElem_mem hb)
    have r1 := (List.getElem_inj h.wf.nd).1 e1
    have r2 := (List.getElem_inj h.wf.nd).1 e2
    subst r1
    subst r2
    exact hbit
theorem Oiv.most_num {o : Od} {P : List OPr} (h : Oiv o P) {s t : ByteArray} (hs : s ∈ o.ns) (ht : t ∈ o.ns) : o.fol.most (o.num s) (o.num t) = true ↔ Rch P s t := by
  rw [h.most]
  have g1 := Od.num_get hs
  have g2 := Od.num_get ht
  have l1 := Od.num_lt hs
  have l2 := Od.num_lt ht
  rw [List.getElem?_eq_getElem l1] at g1
  rw [List.getElem?_eq_getElem l2] at g2
  constructor
  · rintro ⟨_, _, h⟩
    rwa [Option.some.inj g1, Option.some.inj g2] at h
  · intro h
    exact ⟨l1, l2, by rwa [Option.some.inj g1, Option.some.inj g2]⟩
end Go.Proofs.Ythdfoahnkkkbmaa
namespace Go.Proofs.Ythdfoahnkkkbmaa
set_option linter.unusedVariables false
set_option linter.unusedSimpArgs false

theorem nodup_le : ∀ {l m : List ByteArray}, l.Nodup → (∀ s ∈ l, s ∈ m) → l.length ≤ m.length
  | [], _, _, _ => Nat.zero_le _
  | a :: l, m, hd, hs => by
    obtain ⟨h1, h2⟩ := List.nodup_cons.1 hd
    have ha : a ∈ m := hs a (by simp)
    have := nodup_le (l := l) (m := m.filter fun x => decide (x ≠ a)) h2 (fun s h => List.mem_filter.2 ⟨hs s (by simp [h]), by simp; intro e; exact h1 (e ▸ h)⟩)
    have hlt : (m.filter fun x => decide (x ≠ a)).length < m.length := List.length_filter_lt_length_iff_exists.2 ⟨a, ha, by simp⟩
    simp only [List.length_cons]
    omega
theorem ident_size {s : ByteArray} (h : idB s = true) : s.size ≠ 0 := by
  intro e
  have : bts s = [] := List.eq_nil_of_length_eq_zero (by rw [bts_len, e])
  unfold idB at h
  rw [this] at h
  simp [identL] at h
theorem oBad_false {p : OPr} : oBad p = false ↔ idB p.1 = true ∧ (p.2.size = 0 ∨ idB p.2 = true) := by
  unfold oBad
  by_cases h : p.2.size = 0 <;> simp [h]
theorem add_one {o : Od} {p : OPr} (h : oBad p = true) : o.add p = (o, 1) := by unfold Od.add; rw [if_pos h]
/-- An error of add is 1 or 8. -/
theorem add_err {o : Od} {p : OPr} (h : (o.add p).2 ≠ 0) : (o.add p).2 = 1 ∨ (o.add p).2 = 8 := by
  unfold Od.add at h ⊢
  split
  · exact .inl rfl
  · rename_i c1
    rw [if_neg c1] at h
    split
    · exact .inr rfl
    · rename_i c2
      rw [if_neg c2] at h
      split
      · rename_i c3; rw [if_pos c3] at h; exact absurd rfl h
      · rename_i c3
        rw [if_neg c3] at h
        split
        · exact .inr rfl
        · rename_i c4; rw [if_neg c4] at h; exact absurd rfl h
theorem adds_err : ∀ {r : List OPr} {o : Od} {i : Nat}, (o.adds r i).2.2 ≠ 0 → (o.adds r i).2.2 = 1 ∨ (o.adds r i).2.2 = 8
  | [], _, _, h => absurd rfl h
  | p :: r, o, i, h => by
    unfold Od.adds at h ⊢
    by_cases e : (o.add p).2 = 0
    · rw [if_neg (fun h => h e)] at h ⊢
      exact adds_err h
    · rw [if_pos e]
      exact add_err e
theorem adds_good : ∀ {r : List OPr} {o : Od} {i : Nat}, (o.adds r i).2.2 = 0 → ∀ p ∈ r, oBad p = false
  | [], _, _, _, p, hp => by cases hp
  | q :: r, o, i, h, p, hp => by
    unfold Od.adds at h
    by_cases e : (o.add q).2 = 0
    · rw [if_neg (fun h => h e)] at h
      rcases List.mem_cons.1 hp with rfl | hp
      · cases hb : oBad p with
        | false => rfl
        | true => rw [add_one hb] at e; cases e
      · exact adds_good h p hp
    · rw [if_pos e] at h
      exact absurd h e
theorem adds_place : ∀ {r : List OPr} {o : Od} {i : Nat}, (o.adds r i).2.2 = 0 → (o.adds r i).2.1 = 0
  | [], _, _, _ => rfl
  | q :: r, o, i, h => by
    unfold Od.adds at h ⊢
    by_cases e : (o.add q).2 = 0
    · rw [if_neg (fun h => h e)] at h ⊢
      exact adds_place h
    · rw [if_pos e] at h
      exact absurd h e
theorem know_room {o : Od} (hw : o.Wf) {M : List ByteArray} (hM : M.length ≤ 64) (hsub : ∀ s ∈ o.ns, s ∈ M) {s : ByteArray} (hs : s ∈ M) : (o.know s).2 = true := by
  by_cases h : s ∈ o.ns
  · rw [Od.know_old h]
  · by_cases hl : o.ns.length = 64
    · have := nodup_le (l := s :: o.ns) (m := M) (List.nodup_cons.2 ⟨h, hw.nd⟩) (fun t ht => by
        rcases List.mem_cons.1 ht with rfl | ht
        · exact hs
        · exact hsub t ht)
      simp at this
      omega
    · rw [Od.know_new h hl]
theorem know_subM {o : Od} {M : List ByteArray} (hsub : ∀ s ∈ o.ns, s ∈ M) {s : ByteArray} (hs : s ∈ M) : ∀ t ∈ (o.know s).1.ns, t ∈ M := by
  intro t ht
  by_cases h : s ∈ o.ns
  · rw [Od.know_old h] at ht; exact hsub t ht
  · by_cases hl : o.ns.length = 64
    · rw [Od.know_full h hl] at ht; exact hsub t ht
    · rw [Od.know_new h hl] at ht
      rcases List.mem_append.1 ht with ht | ht
      · exact hsub t ht
      · rw [List.mem_singleton.1 ht]; exact hs
/-- Identifiers, at most 64: they make an order, or one that turns back. -/
theorem add_room {o : Od} (hw : o.Wf) {M : List ByteArray} (hM : M.length ≤ 64) (hsub : ∀ s ∈ o.ns, s ∈ M) {p : OPr} (hb : oBad p = false) (h1 : p.1 ∈ M) (h2 : p.2.size ≠ 0 → p.2 ∈ M) : (o.add p).2 = 0 ∧ ∀ s ∈ (o.add p).1.ns, s ∈ M := by
  unfold Od.add
  rw [if_neg (by rw [hb]; decide), if_neg (by rw [know_room hw hM hsub h1]; decide)]
  have s1 := know_subM hsub h1
  by_cases h0 : p.2.size = 0
  · rw [if_pos h0]
    exact ⟨rfl, s1⟩
  · rw [if_neg h0, if_neg (by rw [know_room (hw.know _) hM s1 (h2 h0)]; decide)]
    exact ⟨rfl, know_subM s1 (h2 h0)⟩
theorem adds_room {M : List ByteArray} (hM : M.length ≤ 64) : ∀ {r : List OPr} {o : Od} {i : Nat}, o.Wf → (∀ s ∈ o.ns, s ∈ M) → (∀ p ∈ r, oBad p = false) → (∀ s, Men r s → s ∈ M) → (o.adds r i).2.2 = 0
  | [], _, _, _, _, _, _ => rfl
  | p :: r, o, i, hw, hsub, hb, hm => by
    have := add_room hw hM hsub (hb p (by simp)) (hm _ ⟨p, by simp, .inl rfl⟩) (fun h0 => hm _ ⟨p, by simp, .inr ⟨h0, rfl⟩⟩)
    unfold Od.adds
    rw [if_neg (fun h => h this.1)]
    exact adds_room hM (hw.add p) this.2 (fun q hq => hb q (by simp [hq])) (fun s ⟨q, hq, h⟩ => hm s ⟨q, by simp [hq], h⟩)

/-! ### turned pairs -/
def oturn (p : OPr) : OPr := if p.2.size = 0 then p else (p.2, p.1)
section
variable {l : List OPr}
theorem oturn_men (h : ∀ p ∈ l, p.1.size ≠ 0) (s : ByteArray) : Men (l.map oturn) s ↔ Men l s := by
  unfold Men oturn
  constructor
  · rintro ⟨q, hq, hs⟩
    obtain ⟨p, hp, rfl⟩ := List.mem_map.1 hq
    refine ⟨p, hp, ?_⟩
    have := h p hp
    by_cases h0 : p.2.size = 0
    · rw [if_pos h0] at hs; exact hs
    · rw [if_neg h0] at hs
      rcases hs with hs | ⟨_, hs⟩
      · exact .inr ⟨h0, hs⟩
      · exact .inl hs
  · rintro ⟨p, hp, hs⟩
    refine ⟨_, List.mem_map.2 ⟨p, hp, rfl⟩, ?_⟩
    have := h p hp
    by_cases h0 : p.2.size = 0
    · rw [if_pos h0]; exact hs
    · rw [if_neg h0]
      rcases hs with hs | ⟨_, hs⟩
      · exact .inr ⟨this, hs⟩
      · exact .inl hs
theorem oturn_rch (h : ∀ p ∈ l, p.1.size ≠ 0) {s t : ByteArray} (hr : Rch (l.map oturn) s t) : Rch l t s := by
  induction hr with
  | refl => exact .refl _
  | step hq h2 _ ih =>
    obtain ⟨p, hp, rfl⟩ := List.mem_map.1 hq
    by_cases h0 : p.2.size = 0
    · unfold oturn at h2; rw [if_pos h0] at h2; exact absurd h0 h2
    · have e : oturn p = (p.2, p.1) := by unfold oturn; rw [if_neg h0]
      rw [e] at ih ⊢
      exact ih.trans (.edge hp h0)
theorem oturn_rch' (h : ∀ p ∈ l, p.1.size ≠ 0) {s t : ByteArray} (hr : Rch l s t) : Rch (l.map oturn) t s := by
  induction hr with
  | refl => exact .refl _
  | step hp h2 _ ih =>
    rename_i p b _
    have e : oturn p = (p.2, p.1) := by unfold oturn; rw [if_neg h2]
    have := Rch.edge (l := l.map oturn) (p := oturn p) (List.mem_map.2 ⟨p, hp, rfl⟩) (by rw [e]; exact h p hp)
    rw [e] at this
    exact ih.trans this
theorem oturn_two (h : ∀ p ∈ l, p.1.size ≠ 0) : (l.map oturn).map oturn = l := by
  rw [List.map_map]
  refine (List.map_congr_left fun p hp => ?_).trans (List.map_id _)
  show oturn (oturn p) = p
  by_cases h0 : p.2.size = 0
  · unfold oturn
    rw [if_pos h0, if_pos h0]
  · have e : oturn p = (p.2, p.1) := by unfold oturn; rw [if_neg h0]
    rw [e]
    unfold oturn
    rw [if_neg (h p hp)]
theorem oturn_ne (h : ∀ p ∈ l, p.1.size ≠ 0) : ∀ p ∈ l.map oturn, p.1.size ≠ 0 := by
  intro q hq
  obtain ⟨p, hp, rfl⟩ := List.mem_map.1 hq
  unfold oturn
  split
  · exact h p hp
  · rename_i h0; exact h0
theorem oturn_ok (h : ∀ p ∈ l, p.1.size ≠ 0) (ho : (Od.zero.adds l 0).2.2 = 0) : (Od.zero.adds (l.map oturn) 0).2.2 = 0 := by
  have hv := Oiv.adds Oiv.zero ho
  rw [List.nil_append] at hv
  refine adds_room hv.wf.len Od.Wf.zero (fun s hs => by cases hs) (fun q hq => ?_) (fun s hs => (hv.men s).2 ((oturn_men h s).1 hs))
  obtain ⟨p, hp, rfl⟩ := List.mem_map.1 hq
  have hg := oBad_false.1 (adds_good ho p hp)
  rw [oBad_false]
  unfold oturn
  by_cases h0 : p.2.size = 0
  · rw [if_pos h0]; exact hg
  · rw [if_neg h0]
    exact ⟨hg.2.resolve_left h0, .inr hg.1⟩
theorem oturn_iff (h : ∀ p ∈ l, p.1.size ≠ 0) : (Od.zero.adds l 0).2.2 = 0 ↔ (Od.zero.adds (l.map oturn) 0).2.2 = 0 :=
  ⟨oturn_ok h, fun k => by have := oturn_ok (oturn_ne h) k; rwa [oturn_two h] at this⟩
theorem bad_congr {o o' : Od} : ∀ {r r' : List OPr} {i : Nat}, r.length = r'.length → (∀ k (h : k < r.length) (h' : k < r'.length), (!(decide (r[k].2.size = 0)) && o.most (o.num r[k].2) (o.num r[k].1)) = (!(decide (r'[k].2.size = 0)) && o'.most (o'.num r'[k].2) (o'.num r'[k].1))) → o.bad r i = o'.bad r' i
  | [], [], _, _, _ => rfl
  | p :: r, q :: r', i, hl, h => by
    have h0 := h 0 (by simp) (by simp)
    simp only [List.getElem_cons_zero] at h0
    unfold Od.bad
    rw [h0, bad_congr (r := r) (r' := r') (by simpa using hl) (fun k h1 h2 => by
      have := h (k + 1) (by simpa using h1) (by simpa using h2)
      simpa only [List.getElem_cons_succ] using this)]
  | [], _ :: _, _, hl, _ => by cases hl
  | _ :: _, [], _, hl, _ => by cases hl
theorem oturn_bad (h : ∀ p ∈ l, p.1.size ≠ 0) (ho : (Od.zero.adds l 0).2.2 = 0) : (Od.zero.adds (l.map oturn) 0).1.fol.bad (l.map oturn) 0 = (Od.zero.adds l 0).1.fol.bad l 0 := by
  have hv := Oiv.adds Oiv.zero ho
  have hv' := Oiv.adds Oiv.zero (oturn_ok h ho)
  rw [List.nil_append] at hv hv'
  refine bad_congr (by simp) fun k h1 h2 => ?_
  have hp : l[k] ∈ l := List.getElem_mem _
  obtain ⟨p, hpe⟩ : ∃ p, l[k] = p := ⟨_, rfl⟩
  rw [List.getElem_map, hpe]
  rw [hpe] at hp
  have hn := h p hp
  by_cases h0 : p.2.size = 0
  · have e : oturn p = p := by unfold oturn; rw [if_pos h0]
    rw [e]
    simp [h0]
  · have e : oturn p = (p.2, p.1) := by unfold oturn; rw [if_neg h0]
    rw [e]
    have m1 : Men l p.1 := ⟨p, hp, .inl rfl⟩
    have m2 : Men l p.2 := ⟨p, hp, .inr ⟨h0, rfl⟩⟩
    have a := hv.most_num ((hv.men _).2 m2) ((hv.men _).2 m1)
    have b := hv'.most_num ((hv'.men _).2 ((oturn_men h _).2 m1)) ((hv'.men _).2 ((oturn_men h _).2 m2))
    have c : Rch (l.map oturn) p.1 p.2 ↔ Rch l p.2 p.1 := ⟨oturn_rch h, oturn_rch' h⟩
    have : (Od.zero.adds (l.map oturn) 0).1.fol.most ((Od.zero.adds (l.map oturn) 0).1.num p.1) ((Od.zero.adds (l.map oturn) 0).1.num p.2) = (Od.zero.adds l 0).1.fol.most ((Od.zero.adds l 0).1.num p.2) ((Od.zero.adds l 0).1.num p.1) := by
      rw [Bool.eq_iff_iff, b, c, a]
    simp [h0, hn]
    exact this
end

/-! ### what New says of both -/
theorem newO_err {l : List OPr} (h : (Od.zero.adds l 0).2.2 ≠ 0) : (newO l).1 = none ∧ ((newO l).2.2 = 1 ∨ (newO l).2.2 = 8) := by
  unfold newO
  rw [if_pos h]
  exact ⟨rfl, adds_err h⟩
theorem newO_good {l : List OPr} (h : (Od.zero.adds l 0).2.2 = 0) : (∃ k, (Od.zero.adds l 0).1.fol.bad l 0 = some k ∧ newO l = (none, k, 16)) ∨ ((Od.zero.adds l 0).1.fol.bad l 0 = none ∧ newO l = (some (Od.zero.adds l 0).1.fol, 0, 0)) := by
  unfold newO
  rw [if_neg (fun e => e h)]
  cases hb : (Od.zero.adds l 0).1.fol.bad l 0 with
  | some k => exact .inl ⟨k, rfl, rfl⟩
  | none => exact .inr ⟨rfl, rfl⟩
theorem newO_some {l : List OPr} {o : Od} (h : (newO l).1 = some o) : (Od.zero.adds l 0).2.2 = 0 ∧ newO l = (some o, 0, 0) ∧ o = (Od.zero.adds l 0).1.fol ∧ (Od.zero.adds l 0).1.fol.bad l 0 = none := by
  by_cases he : (Od.zero.adds l 0).2.2 = 0
  · rcases newO_good he with ⟨k, _, hn⟩ | ⟨hb, hn⟩
    · rw [hn] at h; cases h
    · rw [hn] at h
      have : (Od.zero.adds l 0).1.fol = o := Option.some.inj h
      exact ⟨he, by rw [hn, this], this.symm, hb⟩
  · rw [(newO_err he).1] at h; cases h
theorem newO_nat {l : List OPr} : (newO l).2.2 = 0 ↔ ∃ o, (newO l).1 = some o := by
  by_cases he : (Od.zero.adds l 0).2.2 = 0
  · rcases newO_good he with ⟨k, _, hn⟩ | ⟨hb, hn⟩
    · rw [hn]; simp
    · rw [hn]; simp
  · obtain ⟨h1, h2⟩ := newO_err he
    rw [h1]
    constructor
    · intro e; omega
    · rintro ⟨o, e⟩; cases e
theorem newO_left {l : List OPr} (h : ¬ ∀ p ∈ l, p.1.size ≠ 0) : (newO l).2.2 = 1 ∨ (newO l).2.2 = 8 := by
  refine (newO_err fun he => h fun p hp => ?_).2
  exact ident_size (oBad_false.1 (adds_good he p hp)).1
/-- All that OrderTurned asks. -/
theorem turned_both {l : List OPr} (h : ∀ p ∈ l, p.1.size ≠ 0) : ((newO l).2.2 = 0 ↔ (newO (l.map oturn)).2.2 = 0) ∧ ((newO l).2.2 = 16 → (newO (l.map oturn)).2.2 = 16 → (newO l).2.1 = (newO (l.map oturn)).2.1) := by
  by_cases he : (Od.zero.adds l 0).2.2 = 0
  · have he' := (oturn_iff h).1 he
    have hb := oturn_bad h he
    rcases newO_good he with ⟨k, hk, hn⟩ | ⟨hk, hn⟩
    · rcases newO_good he' with ⟨k', hk', hn'⟩ | ⟨hk', hn'⟩
      · rw [hb, hk] at hk'
        rw [hn, hn']
        exact ⟨by simp, fun _ _ => Option.some.inj hk'⟩
      · rw [hb, hk] at hk'; cases hk'
    · rcases newO_good he' with ⟨k', hk', hn'⟩ | ⟨hk', hn'⟩
      · rw [hb, hk] at hk'; cases hk'
      · rw [hn, hn']
        exact ⟨by simp, fun e => by cases e⟩
  · have he' : ¬ (Od.zero.adds (l.map oturn) 0).2.2 = 0 := fun e => he ((oturn_iff h).2 e)
    have a := (newO_err he).2
    have b := (newO_err he').2
    refine ⟨by omega, fun e => by omega⟩
theorem fol_ns (o : Od) : o.fol.ns = o.ns := rfl
theorem turned_same {l : List OPr} (h : ∀ p ∈ l, p.1.size ≠ 0) {x y : Od} (hx : (newO l).1 = some x) (hy : (newO (l.map oturn)).1 = some y) :
    x.ns.length = y.ns.length ∧ ∀ a b (ha : a < x.ns.length) (hb : b < x.ns.length), x.most a b = y.most (y.num x.ns[b]) (y.num x.ns[a]) := by
  obtain ⟨e1, _, rfl, _⟩ := newO_some hx
  obtain ⟨e2, _, rfl, _⟩ := newO_some hy
  have hv := Oiv.adds Oiv.zero e1
  have hv' := Oiv.adds Oiv.zero e2
  rw [List.nil_append] at hv hv'
  have hs : ∀ s, s ∈ (Od.zero.adds l 0).1.ns ↔ s ∈ (Od.zero.adds (l.map oturn) 0).1.ns := fun s => by rw [hv.men, hv'.men, oturn_men h]
  refine ⟨Nat.le_antisymm (nodup_le hv.wf.nd fun s hm => (hs s).1 hm) (nodup_le hv'.wf.nd fun s hm => (hs s).2 hm), fun a b ha hb => ?_⟩
  have ha' : a < (Od.zero.adds l 0).1.ns.length := ha
  have hb' : b < (Od.zero.adds l 0).1.ns.length := hb
  have ma : (Od.zero.adds l 0).1.ns[a] ∈ (Od.zero.adds (l.map oturn) 0).1.ns := (hs _).1 (List.getElem_mem _)
  have mb : (Od.zero.adds l 0).1.ns[b] ∈ (Od.zero.adds (l.map oturn) 0).1.ns := (hs _).1 (List.getElem_mem _)
  have r := hv'.most_num mb ma
  rw [Bool.eq_iff_iff]
  rw [hv.most a b]
  refine Iff.trans ?_ r.symm
  constructor
  · rintro ⟨_, _, hr⟩
    exact oturn_rch' h hr
  · intro hr
    exact ⟨ha', hb', oturn_rch h hr⟩
end Go.Proofs.Ythdfoahnkkkbmaa
