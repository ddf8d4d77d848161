/-
  AN ORDER IN MEMORY: its names as a row and as a map, its bits as two arrays; CONTRACTS of what only reads.
-/
import Derived.Test.YthdfoahnkkkbmaaOrM
import Derived.Test.YthdfoahnkkkbmaaDRowp
import Derived.Laws.ShiftsVarLaws
import Derived.Laws.BitsAllLaws
namespace Go.Proofs.Ythdfoahnkkkbmaa
set_option linter.unusedVariables false
set_option linter.unusedSimpArgs false
open Go.RowKit Go.Maps

/-! ### cells -/
def otab (f : Nat → Nat) : List Value := (List.range 64).map fun i => Value.int .u64 (f i : Int)
theorem otab_len (f : Nat → Nat) : (otab f).length = 64 := by simp [otab]
theorem otab_get (f : Nat → Nat) {i : Nat} (h : i < 64) : (otab f)[i]? = some (.int .u64 (f i : Int)) := by
  unfold otab
  rw [List.getElem?_map, List.getElem?_range h]
  rfl
theorem otab_set (f : Nat → Nat) {i : Nat} (h : i < 64) (v : Nat) : (otab f).set i (.int .u64 (v : Int)) = otab (oup f i v) := by
  apply List.ext_getElem?
  intro k
  rw [List.getElem?_set]
  by_cases hk : k < 64
  · rw [otab_get _ hk, otab_get _ hk, otab_len]
    unfold oup
    by_cases e : i = k
    · subst e
      simp [h]
    · rw [if_neg e, if_neg (fun h => e h.symm)]
  · have h1 : (otab f)[k]? = none := List.getElem?_eq_none (by rw [otab_len]; omega)
    have h2 : (otab (oup f i v))[k]? = none := List.getElem?_eq_none (by rw [otab_len]; omega)
    rw [if_neg (by omega), h1, h2]
def ocells (v : Value) (m : Nat) (be ab : Nat → Nat) : List Value := v :: .map (some m) :: (otab be ++ otab ab)
section
variable {v : Value} {m : Nat} {be ab : Nat → Nat}
theorem ocells_be {i : Nat} (h : i < 64) : (ocells v m be ab)[2 + i]? = some (.int .u64 (be i : Int)) := by
  unfold ocells
  rw [show 2 + i = i + 1 + 1 by omega, List.getElem?_cons_succ, List.getElem?_cons_succ, List.getElem?_append_left (by rw [otab_len]; exact h), otab_get _ h]
theorem ocells_ab {i : Nat} (h : i < 64) : (ocells v m be ab)[66 + i]? = some (.int .u64 (ab i : Int)) := by
  unfold ocells
  rw [show 66 + i = (64 + i) + 1 + 1 by omega, List.getElem?_cons_succ, List.getElem?_cons_succ, List.getElem?_append_right (by rw [otab_len]; omega), otab_len, show 64 + i - 64 = i by omega, otab_get _ h]
theorem ocells_setb {i : Nat} (h : i < 64) (x : Nat) : (ocells v m be ab).set (2 + i) (.int .u64 (x : Int)) = ocells v m (oup be i x) ab := by
  unfold ocells
  rw [show 2 + i = i + 1 + 1 by omega, List.set_cons_succ, List.set_cons_succ, List.set_append_left _ _ (by rw [otab_len]; exact h), otab_set _ h]
theorem ocells_seta {i : Nat} (h : i < 64) (x : Nat) : (ocells v m be ab).set (66 + i) (.int .u64 (x : Int)) = ocells v m be (oup ab i x) := by
  unfold ocells
  rw [show 66 + i = (64 + i) + 1 + 1 by omega, List.set_cons_succ, List.set_cons_succ, List.set_append_right _ _ (by rw [otab_len]; omega), otab_len, show 64 + i - 64 = i by omega, otab_set _ h]
theorem ocells_setn (v' : Value) : (ocells v m be ab).set 0 v' = ocells v' m be ab := rfl
end

/-! ### a map from names to numbers -/
def intElem : Value → Option (DataW Unit × List MemPlace)
  | .int .i64 x => some (.lit (.int .i64 x), [])
  | _ => none
theorem intElem_inv {v : Value} {z : DataW Unit × List MemPlace} (h : intElem v = some z) : ∃ x, v = .int .i64 x ∧ z.1 = .lit (.int .i64 x) := by
  unfold intElem at h
  split at h
  · rename_i x; cases h; exact ⟨x, rfl, rfl⟩
  · cases h
theorem underlyingSI : Try.prog.underlying 61 = some (.map 9 3) := by kernel_rfl
theorem zeroInt (w : World) : (zeroValue 3).run Try.prog w = .ok (.int .i64 0) w := by kernel_rfl
def NumsAt (w : World) (b : Nat) (N : NL) : Prop := w.ownsMap Try.prog 9 intElem b N.length (toD N)
/-- Block b is a map that has the names l, each with its place. -/
def NumAt (w : World) (b : Nat) (l : List ByteArray) : Prop := ∃ N : NL, NumsAt w b N ∧ Ris N ∧ N.length ≤ l.length ∧ ∀ s : ByteArray, nat? s.data.toList N = opos l s
section
variable {w w' : World} {b : Nat} {l : List ByteArray}
theorem NumAt.lt (h : NumAt w b l) : b < w.heap.size := by
  obtain ⟨N, h, _⟩ := h
  exact World.ownsMap.lt h
theorem NumAt.keep (h : NumAt w b l) {row : Option Nat} (hg : w.grownBy w' row) (hne : row ≠ some b) : NumAt w' b l := by
  obtain ⟨N, h, r⟩ := h
  exact ⟨N, World.ownsMap.kept h hg hne.symm, r⟩
theorem NumAt.stay (h : NumAt w b l) (hk : w'.heap[b]? = w.heap[b]?) : NumAt w' b l := by
  obtain ⟨N, ⟨es, clock, hb, r⟩, r'⟩ := h
  exact ⟨N, ⟨es, clock, hk.trans hb, r⟩, r'⟩
theorem NumAt.made (w : World) : NumAt (w.alloc (.map #[] 0)) w.heap.size [] := ⟨[], World.ownsMap_made w Try.prog 9 intElem, Ris.nil, Nat.le_refl _, fun s => rfl⟩
theorem NumAt.ne_blk (h : NumAt w b l) {g : Nat} {t : TypeId} {xs : List Value} (hg : Blk w g t xs) : b ≠ g := by
  obtain ⟨N, ⟨es, clock, hb, _⟩, _⟩ := h
  intro e
  subst e
  unfold Blk at hg
  rw [hb] at hg
  cases hg
theorem NumAt.ne_row (h : NumAt w b l) {base : Nat} {e : TypeId} {size n : Nat} {v : Value} {xs : List Value} (hr : w.ownsRow base e size v n xs) : v.ownBlock ≠ some b := by
  obtain ⟨N, ⟨es, clock, hb, _⟩, _⟩ := h
  rcases hr.2 with ⟨rfl, _⟩ | ⟨g, cap, cur, rfl, _, hh, _⟩
  · simp [Value.ownBlock]
  · intro e
    have : g = b := by simpa [Value.ownBlock] using e
    rw [this, hb] at hh
    cases hh
theorem numElem {v : Value} {ps : List MemPlace} {s : ByteArray} {N : NL} (hN : nat? s.data.toList N = opos l s) (h : intElem v = some ((toD N).atKey (.string s.data.toList) (.lit (.int .i64 0)), ps)) : v = .int .i64 (((opos l s).getD 0 : Nat) : Int) := by
  rw [toD_at, hN] at h
  obtain ⟨x, h1, h2⟩ := intElem_inv h
  rw [h1]
  cases e : opos l s with
  | none => rw [e] at h2; simp at h2; rw [← h2]; rfl
  | some i => rw [e] at h2; simp at h2; rw [← h2]; rfl
theorem NumAt.look (h : NumAt w b l) {s : ByteArray} (hs : s.size ≤ maxLen) : (Instr.lookup 61 (.map (some b)) (.string s) false).run Try.prog w = .ok (.int .i64 (((opos l s).getD 0 : Nat) : Int)) w := by
  obtain ⟨N, h, _, _, hN⟩ := h
  obtain ⟨v, ps, hrun, hv⟩ := World.ownsMap.lookup h strLaw underlyingSI (zeroInt w) (zd := .lit (.int .i64 0)) (zp := []) rfl (keyStr hs)
  rw [hrun, numElem (hN s) hv]
theorem NumAt.looks (h : NumAt w b l) {s : ByteArray} (hs : s.size ≤ maxLen) : (Instr.lookup 61 (.map (some b)) (.string s) true).run Try.prog w = .ok (.tuple #[.int .i64 (((opos l s).getD 0 : Nat) : Int), .bool (opos l s).isSome]) w := by
  obtain ⟨N, h, _, _, hN⟩ := h
  obtain ⟨v, ps, hrun, hv⟩ := World.ownsMap.look_ok h strLaw underlyingSI (zeroInt w) (zd := .lit (.int .i64 0)) (zp := []) rfl (keyStr hs)
  rw [hrun, numElem (hN s) hv, toD_has, hN s]
end

/-- The order o lies at block g, its blocks outside X. -/
structure OrdAt (w : World) (X : Nat → Prop) (g : Nat) (o : Od) : Prop where
  gX : ¬ X g
  old : ∀ b, X b → b < w.heap.size
  lay : ∃ v m, Blk w g 65 (ocells v m o.be o.ab) ∧ Row w X 9 v o.ns.length (o.ns.map Value.string) ∧ NumAt w m o.ns ∧ ¬ X m
  wf : o.Wf
  sz : ∀ s ∈ o.ns, s.size ≤ maxLen
section
variable {w w' : World} {X Y : Nat → Prop} {g : Nat} {o : Od}
theorem OrdAt.stay (h : OrdAt w X g o) (hb : Below w.heap.size w w') : OrdAt w' X g o := by
  obtain ⟨h1, h2, ⟨v, m, hc, hr, hm, hx⟩, h4, h5⟩ := h
  exact ⟨h1, fun b hb' => Nat.lt_of_lt_of_le (h2 b hb') hb.size, ⟨v, m, hc.stay (hb.block _ hc.lt), hr.stay (fun j hj => hb.block _ (hr.lt hj)), hm.stay (hb.block _ hm.lt), hx⟩, h4, h5⟩
theorem OrdAt.fewer (h : OrdAt w X g o) (hY : ∀ b, Y b → X b) : OrdAt w Y g o := by
  obtain ⟨h1, h2, ⟨v, m, hc, hr, hm, hx⟩, h4, h5⟩ := h
  exact ⟨fun e => h1 (hY _ e), fun b hb => h2 b (hY _ hb), ⟨v, m, hc, ⟨hr.1, fun j hj e => hr.2 j hj (hY _ e)⟩, hm, fun e => hx (hY _ e)⟩, h4, h5⟩
theorem OrdAt.drewN (h : OrdAt w X g o) (q : Nat) : OrdAt (w.drewN q) X g o := h.stay ((Quiet.one w q).below _)
theorem OrdAt.quiet (h : OrdAt w X g o) (hq : Quiet w w') : OrdAt w' X g o := h.stay (hq.below _)
/-- Behind an alloc, the new block is outside, too. -/
theorem OrdAt.box (h : OrdAt w X g o) (b : Obj) : OrdAt (w.alloc b) (fun k => X k ∨ k = w.heap.size) g o := by
  obtain ⟨h1, h2, ⟨v, m, hc, hr, hm, hx⟩, h4, h5⟩ := h.stay ((Below.refl _ _).alloc (Nat.le_refl _) b)
  obtain ⟨_, k2, ⟨v', m', kc, kr, km, _⟩, _, _⟩ := h
  have e : v = v' ∧ m = m' := by
    have k := kc.stay (w' := w.alloc b) (((Below.refl _ _).alloc (Nat.le_refl _) b : Below w.heap.size w (w.alloc b)).block _ kc.lt)
    unfold Blk at k hc
    rw [hc] at k
    unfold ocells at k
    simp at k
    exact ⟨k.1, k.2⟩
  obtain ⟨rfl, rfl⟩ := e
  refine ⟨fun e => e.elim h1 (fun e => ?_), fun k hk => ?_, ⟨v, m, hc, ⟨hr.1, fun j hj e => e.elim (hr.2 j hj) (fun e => ?_)⟩, hm, fun e => e.elim hx (fun e => ?_)⟩, h4, h5⟩
  · have := kc.lt; omega
  · rcases hk with hk | hk
    · exact h2 k hk
    · simp; omega
  · have := kr.lt hj; omega
  · have := km.lt; omega
theorem OrdAt.c0 (h : OrdAt w X g o) : ∃ A c, w.cell? ⟨g, 0, none⟩ = some (.slice A o.ns.length c) := by
  obtain ⟨v, m, hc, hr, _⟩ := h.lay
  obtain ⟨A, c, rfl, _⟩ := hr.form
  exact ⟨A, c, hc.cell 0⟩
theorem OrdAt.cb (h : OrdAt w X g o) {i : Nat} (hi : i < 64) : w.cell? ⟨g, 2 + i, none⟩ = some (.int .u64 (o.be i : Int)) := by
  obtain ⟨v, m, hc, hr, _⟩ := h.lay
  rw [hc.cell, ocells_be hi]
theorem OrdAt.ca (h : OrdAt w X g o) {i : Nat} (hi : i < 64) : w.cell? ⟨g, 66 + i, none⟩ = some (.int .u64 (o.ab i : Int)) := by
  obtain ⟨v, m, hc, hr, _⟩ := h.lay
  rw [hc.cell, ocells_ab hi]
theorem OrdAt.lt (h : OrdAt w X g o) : g < w.heap.size := by
  obtain ⟨v, m, hc, _⟩ := h.lay
  exact hc.lt
end
end Go.Proofs.Ythdfoahnkkkbmaa
