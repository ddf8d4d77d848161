/-
  CONTRACT OF the document's 'turn'.
-/
import Derived.Test.YtekhockdgglndaaRState
import Derived.Deep.RegionWith
import Derived.Deep.RegionLaw
namespace Go.Proofs.Ytekhockdgglndaa
set_option linter.unusedVariables false
set_option linter.unusedSimpArgs false
open Go.RowKit

theorem rowTu : RowT Try.prog 69 102 3 40 := RowT.mk (z := .agg #[.string ByteArray.empty, .string ByteArray.empty, .int .i64 0]) Try.underlying69 (by kernel_rfl) rfl (by omega)

section
variable {P : Program} {ops : Array Oper} {rest : List Oper} {o : Oper} {a : Act} {Q : Exit → Act → World → Prop}
/-- 'append(v, xs...)': v the call's own, xs shown, of elements of any size. -/
theorem wp_more_s {K : Act → World → Prop} (s x : Operand) (t : TypeId) (ho : o.op = .call { callee := .builtin .append, args := #[s, x], argTypes := #[t, t] })
    {e : TypeId} {size bytes : Nat} (hT : RowT P t e size bytes) (w : World) (B : Nat) (v : Value) (n : Nat) (xs us : List Value) (hs : a.eval s = v) (hown : Own w B e size v n xs)
    (X : Nat → Prop) (A : Option Addr) (m c : Nat) (hx : a.eval x = .slice A m c) (hsh : SX w X A m size us) (h1 : ∀ u ∈ us, u.oneCell' = true)
    (hlen : n + m ≤ 1099511627776) (hby : bytes ≤ 64)
    (h : ∀ v' w', Own w' B e size v' (n + m) (xs ++ us) → w.grownBy w' v.ownBlock → K (a.put o.dst v') w') :
    o.wp P a w K Q := by
  obtain ⟨ht, i, z, hi, hz, hsize, hbytes, hzs, hpos⟩ := hT
  have hbb : (n + m) * bytes ≤ 140737488355328 := Nat.le_trans (Nat.mul_le_mul hlen hby) (by decide)
  have hful : ∀ ad : Addr, (∀ k u, us[k]? = some u → w.cell? (ad.add k) = some u) → a.eval x = .slice (some ad) m c → o.wp P a w K Q := by
    intro ad hc hx'
    refine wp_append_own _ s x t ho B e i z size bytes ht hi hz hsize hbytes hzs hpos v n xs hs hown.1 ad m c us hx' hsh.1 hc h1
      (by unfold maxLen; omega) hbb hown.2 ?_
    intro v' w' ho' hg' _
    exact h v' w' ⟨ho', Nat.le_trans hown.2 hg'.size⟩ hg'
  rcases Nat.eq_zero_or_pos m with h0 | h0
  · subst h0
    have hn : us = [] := List.eq_nil_of_length_eq_zero (by have := hsh.1; omega)
    subst hn
    rcases A with _ | ad
    · have hrun : (Builtin.append_ #[t, t] o.type #[v, .slice none 0 c]).run P w = .ok v w := by
        rcases hown.1.2 with ⟨rfl, rfl⟩ | ⟨g, cap, cur, rfl, _, _, hnc, _⟩
        · simp [Builtin.append_, run_underlying ht, sizeOf, typeInfo, hi, Builtin.lenOf, Builtin.firstCells]
        · simp [Builtin.append_, run_underlying ht, sizeOf, typeInfo, hi, Builtin.lenOf, Builtin.firstCells, hnc, storeCells]
      unfold Oper.wp
      simp [execOp, ho, resolve, invoke, builtin, hs, hx, hrun, Result.andThen]
      exact h v w (by simpa using hown) ⟨rfl, rfl, rfl, Nat.le_refl _, fun _ _ _ => rfl⟩
    · exact hful ad (by simp) hx
  · obtain ⟨b, off, rfl, _, hc⟩ := hsh.2 h0
    refine hful ⟨b, off, none⟩ (fun k u hu => ?_) hx
    rw [Addr.add_lit]
    exact hc k u hu
theorem wpList_more_s (hgd : Region.wanted o (yielded ops a.tmps) = true) (s x : Operand) (t : TypeId) (ho : o.op = .call { callee := .builtin .append, args := #[s, x], argTypes := #[t, t] })
    {e : TypeId} {size bytes : Nat} (hT : RowT P t e size bytes) (w : World) (B : Nat) (v : Value) (n : Nat) (xs us : List Value) (hs : a.eval s = v) (hown : Own w B e size v n xs)
    (X : Nat → Prop) (A : Option Addr) (m c : Nat) (hx : a.eval x = .slice A m c) (hsh : SX w X A m size us) (h1 : ∀ u ∈ us, u.oneCell' = true)
    (hlen : n + m ≤ 1099511627776) (hby : bytes ≤ 64)
    (h : ∀ v' w', Own w' B e size v' (n + m) (xs ++ us) → w.grownBy w' v.ownBlock → wpList P ops Q rest (a.put o.dst v') w') : wpList P ops Q (o :: rest) a w :=
  wpList_wanted hgd fun _ hK => wp_more_s s x t ho hT w B v n xs us hs hown X A m c hx hsh h1 hlen hby fun v' w' h2 h3 => hK _ _ (h v' w' h2 h3)
theorem step_more_s {K : Act → World → Prop} {E : Prop} (hgd : Region.wanted o (yielded ops a.tmps) = true) (s x : Operand) (t : TypeId) (ho : o.op = .call { callee := .builtin .append, args := #[s, x], argTypes := #[t, t] })
    {e : TypeId} {size bytes : Nat} (hT : RowT P t e size bytes) (w : World) (B : Nat) (v : Value) (n : Nat) (xs us : List Value) (hs : a.eval s = v) (hown : Own w B e size v n xs)
    (X : Nat → Prop) (A : Option Addr) (m c : Nat) (hx : a.eval x = .slice A m c) (hsh : SX w X A m size us) (h1 : ∀ u ∈ us, u.oneCell' = true)
    (hlen : n + m ≤ 1099511627776) (hby : bytes ≤ 64)
    (h : ∀ v' w', Own w' B e size v' (n + m) (xs ++ us) → w.grownBy w' v.ownBlock → K (a.put o.dst v') w') :
    if Region.wanted o (yielded ops a.tmps) = true then Oper.wp P o a w K Q else E := by
  rw [if_pos hgd]
  exact wp_more_s s x t ho hT w B v n xs us hs hown X A m c hx hsh h1 hlen hby h
end
theorem wcells_snoc (l : List RT) (t : RT) : wcells (l ++ [t]) = wcells l ++ t.cells := by simp [wcells]
theorem wcells_one (l : List RT) : ∀ u ∈ wcells l, u.oneCell' = true := by
  intro u hu
  obtain ⟨t, _, hu⟩ := List.mem_flatMap.1 hu
  simp [RT.cells] at hu
  rcases hu with rfl | rfl | rfl <;> rfl
theorem fcells_snoc (l : List RFl) (f : RFl) : fcells (l ++ [f]) = fcells l ++ f.cells := by simp [fcells]
theorem fcells_one (l : List RFl) : ∀ u ∈ fcells l, u.oneCell' = true := by
  intro u hu
  obtain ⟨t, _, hu⟩ := List.mem_flatMap.1 hu
  simp [RFl.cells] at hu
  rcases hu with rfl | rfl <;> rfl

section
variable {w w' : World} {X : Nat → Prop} {x : Nat} {V : RL} {R : RS}
/-- The names are others. -/
theorem RAt.setNow (h : RAt w X x V R) {A : Option Addr} {c : Nat} {N : List RE} (hr : RRow w (out X x) A N.length c 2 (recells N)) :
    RAt (w.setCell ⟨x, 1, none⟩ (.slice A N.length c)) X x { V with nA := A, nc := c } { R with now := N } := by
  have hk : ∀ b, out X x b → (w.setCell ⟨x, 1, none⟩ (.slice A N.length c)).heap[b]? = w.heap[b]? ∧ out X x b := fun b hb => ⟨Below.heap_setCell _ _ _ _ hb.2, hb⟩
  refine ⟨h.xX, fun b hb => by simpa using h.old b hb, ?_, h.fr.go hk, fun f hf => (h.fo f hf).go hk, hr.go hk, h.sr.go hk, h.wr.go hk⟩
  have := h.blk
  simp [World.setCell, Array.getElem?_modify, this, List.setIfInBounds_toArray, rcellsOf]
/-- The turns that wait are others. -/
theorem RAt.setWaits (h : RAt w X x V R) {A : Option Addr} {c : Nat} {l : List RT} (hr : RRow w (out X x) A l.length c 3 (wcells l)) :
    RAt (w.setCell ⟨x, 3, none⟩ (.slice A l.length c)) X x { V with wA := A, wc := c } { R with waits := l } := by
  have hk : ∀ b, out X x b → (w.setCell ⟨x, 3, none⟩ (.slice A l.length c)).heap[b]? = w.heap[b]? ∧ out X x b := fun b hb => ⟨Below.heap_setCell _ _ _ _ hb.2, hb⟩
  refine ⟨h.xX, fun b hb => by simpa using h.old b hb, ?_, h.fr.go hk, fun f hf => (h.fo f hf).go hk, h.nr.go hk, h.sr.go hk, hr.go hk⟩
  have := h.blk
  simp [World.setCell, Array.getElem?_modify, this, List.setIfInBounds_toArray, rcellsOf]
/-- The files are others. -/
theorem RAt.setFiles (h : RAt w X x V R) {A : Option Addr} {c : Nat} {l : List RFl} (hr : RRow w (out X x) A l.length c 2 (fcells l)) (ho : ∀ f ∈ l, f.ok w (out X x)) :
    RAt (w.setCell ⟨x, 0, none⟩ (.slice A l.length c)) X x { V with fA := A, fc := c } { R with files := l } := by
  have hk : ∀ b, out X x b → (w.setCell ⟨x, 0, none⟩ (.slice A l.length c)).heap[b]? = w.heap[b]? ∧ out X x b := fun b hb => ⟨Below.heap_setCell _ _ _ _ hb.2, hb⟩
  refine ⟨h.xX, fun b hb => by simpa using h.old b hb, ?_, hr.go hk, fun f hf => (ho f hf).go hk, h.nr.go hk, h.sr.go hk, h.wr.go hk⟩
  have := h.blk
  simp [World.setCell, Array.getElem?_modify, this, List.setIfInBounds_toArray, rcellsOf]
theorem RAt.widSet {w0 : World} {p : Addr} {v : Value} (h : RAt (w.setCell p v) (wid X w0 w) x V R) : RAt (w.setCell p v) (wid X w0 (w.setCell p v)) x V R := by
  have e : wid X w0 (w.setCell p v) = wid X w0 w := by funext b; simp [wid]
  rw [e]
  exact h
theorem RAt.wider (h : RAt w X x V R) (hb : Below w.heap.size w w') : RAt w' (wid X w w') x V R :=
  (h.below hb).more (fun b hb => .inl hb) (wid_old h.old hb.size)
end
end Go.Proofs.Ytekhockdgglndaa
