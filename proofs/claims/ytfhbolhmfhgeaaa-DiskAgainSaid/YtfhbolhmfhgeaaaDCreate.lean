/-
  CONTRACT OF Create.
-/
import Derived.Test.YtfhbolhmfhgeaaaDAppend
import Derived.Deep.RegionLaw
import Derived.BigRegion
namespace Go.Proofs.Ytfhbolhmfhgeaaa
set_option linter.unusedVariables false
set_option linter.unusedSimpArgs false
open Go.RowKit Go.Maps

section
variable {P : Program} {ops : Array Oper} {o : Oper} {a : Act} {Q : Exit → Act → World → Prop}
theorem step_rowpush {K : Act → World → Prop} {E : Prop} (hgd : Region.wanted o (yielded ops a.tmps) = true) (s x : Operand) (t : TypeId) (ho : o.op = .call { callee := .builtin .append, args := #[s, x], argTypes := #[t, t] }) {e : TypeId} {bytes : Nat} (hT : RowT P t e 1 bytes)
    (w : World) (X : Nat → Prop) (v : Value) (n : Nat) (xs : List Value) (u : Value) (hs : a.eval s = v) (hown : Row w X e v n xs) (hx : a.eval x = .slice (some ⟨w.heap.size, 0, none⟩) 1 1) (h1 : u.oneCell' = true) (hX : ∀ b, X b → b < w.heap.size)
    (hlen : n ≤ 1099511627776) (hby : bytes ≤ 64)
    (h : ∀ v' w', Row w' X e v' (n + 1) (xs ++ [u]) → (w.alloc (.cells #[u] e)).grownBy w' v.ownBlock → (v'.ownBlock = v.ownBlock ∨ v'.ownBlock = some (w.heap.size + 1)) → K (a.put o.dst v') w') :
    if Region.wanted o (yielded ops a.tmps) = true then Oper.wp P o a (w.alloc (.cells #[u] e)) K Q else E := by
  rw [if_pos hgd]
  exact wp_rowpush s x t ho hT w X v n xs u hs hown hx h1 hX hlen hby h
end

section
variable {w : World} {X : Nat → Prop} {g : Nat} {L : Lay} {S : St}
theorem DAt.up_free (h : DAt w X g L S) {b : Nat} (hb : ∀ f ∈ S.fs, f.blk ≠ b) (v : Value) : DAt w X g (L.up b v) S := by
  refine ⟨h.gX, h.old, h.cells, h.fr, h.nm, h.nmX, h.sm, h.smX, h.nsm, h.wr, fun f hf => ?_, ?_⟩
  · rw [Lay.up_other _ _ (hb f hf)]
    exact h.fo f hf
  · refine h.nd.imp_of_mem fun {f f'} h1 h2 hne => ⟨hne.1, ?_⟩
    rw [Lay.up_other _ _ (hb f h1), Lay.up_other _ _ (hb f' h2)]
    exact hne.2
def newFl (b : Nat) : Fl := ⟨b, [], 0, false⟩
/-- Create, where the new file lies at block b. -/
def St.create (S : St) (k : Nm) (b : Nat) : St × Int :=
  if S.berr ≠ 0 then (S.begun, S.berr) else if nameB k = false then (S.begun, 1) else match nat? k S.names with
  | some _ => (S.begun, 7)
  | none => if 64 ≤ S.names.length then (S.begun, 8) else (({ S.begun with fs := S.fs ++ [newFl b] } : St).turned (.create k b), 0)
/-- No file lies at b. -/
def Free (fs : List Fl) (b : Nat) : Prop := ∀ f ∈ fs, f.blk ≠ b

/-- The world with the new file, and a box that leads to it. -/
def fileBox (w : World) : World := (w.alloc (.cells #[.slice none 0 0, .int .i64 0, .bool false] 80)).alloc (.cells #[ptrTo w.heap.size] 78)
theorem fileBox_size (w : World) : (fileBox w).heap.size = w.heap.size + 2 := by simp [fileBox]
theorem DAt.fileBox (h : DAt w X g L S) : DAt (fileBox w) X g L S := (h.alloc _).alloc _
theorem create_row (h : DAt w X g L S) : Row (fileBox w) X 78 L.fr S.fs.length (S.fs.map fun f => ptrTo f.blk) := h.fileBox.fr
theorem create_close {w0 w6 : World} {X0 : Nat → Prop} (h : DAt w X g L S) {q : Nat} {s : ByteArray} (hq : Blk w q 9 [.string s]) (hqX : ¬ X q) (hs : s.size ≤ maxLen) {v : Value}
    (hr : Row w6 X 78 v (S.fs.length + 1) ((S.fs.map fun f => ptrTo f.blk) ++ [ptrTo w.heap.size])) (hg : ((fileBox w).alloc (.cells #[ptrTo w.heap.size] 78)).grownBy w6 L.fr.ownBlock) (hl : v.ownBlock = L.fr.ownBlock ∨ v.ownBlock = some ((fileBox w).heap.size + 1)) :
    ∃ L7, DAt (w6.setCell ⟨g, 1, none⟩ v) X g L7 { S with fs := S.fs ++ [newFl w.heap.size] } ∧ TurnAt (w6.setCell ⟨g, 1, none⟩ v) X L7.fr (.func (.func 53) #[] #[ptrTo (w.heap.size + 1), ptrTo q]) (.create s.data.toList w.heap.size) ∧ Keeps X w (w6.setCell ⟨g, 1, none⟩ v) := by
  have h5 := h.fileBox
  have hsz := fileBox_size w
  have hga : (fileBox w).grownBy w6 L.fr.ownBlock := grown_trans (World.grownBy_alloc _ _ _) hg
  have hfree : Free S.fs w.heap.size := fun f hf e => by
    have := (h.fo f hf).blk.lt
    omega
  have hfrlt : ∀ j, L.fr.ownBlock = some j → j < w.heap.size := fun j hj => h.fr.lt hj
  have hb5 : Blk (fileBox w) w.heap.size 80 [.slice none 0 0, .int .i64 0, .bool false] := (Blk.new w _ _).keep (World.grownBy_alloc _ _ none) (by simp)
  have hp5 : Blk (fileBox w) (w.heap.size + 1) 78 [ptrTo w.heap.size] := by
    have := Blk.new (w.alloc (.cells #[.slice none 0 0, .int .i64 0, .bool false] 80)) 78 [ptrTo w.heap.size]
    unfold fileBox
    simpa using this
  have hq5 : Blk (fileBox w) q 9 [.string s] := (hq.keep (World.grownBy_alloc _ _ none) (by simp)).keep (World.grownBy_alloc _ _ none) (by simp)
  have hk6 : ∀ {b : Nat} {t : TypeId} {xs : List Value}, Blk (fileBox w) b t xs → b ≠ g → (∀ j, L.fr.ownBlock = some j → j ≠ b) → Blk (w6.setCell ⟨g, 1, none⟩ v) b t xs := fun hb hne hj =>
    (hb.keep hga (fun e => hj _ e rfl)).stay (Below.heap_setCell _ _ _ _ hne)
  have hgl := h.cells.lt
  have hc6 : Blk w6 g 77 (cellsOf L S) := h5.cells.keep hga (fun e => h5.fr.ne_blk h5.cells (by decide) e)
  have hX5 : ∀ b, w.heap.size ≤ b → ¬ X b := fun b hb hx => by
    have := h.old b hx
    omega
  have D := (h5.up_free (b := w.heap.size) hfree (.slice none 0 0)).files (w' := w6.setCell ⟨g, 1, none⟩ v) (fs' := S.fs ++ [newFl w.heap.size]) (v := v) (by simpa using hga.size)
    (fun k h1 h2 h3 => (Below.heap_setCell _ _ _ _ h2).trans (hga.block k h1 (fun e => h3 e.symm))) (hc6.set 1 v)
    ((hr.cast (by simp) (by simp [newFl])).stay fun j hj => Below.heap_setCell _ _ _ _ (fun e => hr.ne_blk hc6 (by decide) (by rw [hj]; simp at e; rw [e])))
    (fun j hj => by
      rcases hl with h1 | h1
      · exact .inl (h1.symm.trans hj)
      · rw [h1] at hj
        injection hj with hj
        exact .inr (by omega))
    (fun f hf => by
      rcases List.mem_append.1 hf with h1 | h1
      · exact .inl h1
      · right
        have e := List.mem_singleton.1 h1
        subst e
        have e2 : (L.up w.heap.size (.slice none 0 0)).row (newFl w.heap.size).blk = .slice none 0 0 := Lay.up_same _ _ _
        rw [e2]
        refine ⟨hk6 hb5 (by show w.heap.size ≠ g; omega) (fun j hj => by have := hfrlt j hj; show j ≠ w.heap.size; omega), hX5 _ (Nat.le_refl _), Row.nil _ _ _⟩)
    (by
      rw [List.pairwise_append]
      refine ⟨(h5.up_free (b := w.heap.size) hfree (.slice none 0 0)).nd, by simp, fun f hf f' hf' => ?_⟩
      have e := List.mem_singleton.1 hf'
      subst e
      refine ⟨hfree f hf, fun j hj e => ?_⟩
      have e2 : (L.up w.heap.size (.slice none 0 0)).row (newFl w.heap.size).blk = .slice none 0 0 := Lay.up_same _ _ _
      rw [e2] at e
      cases e)
  refine ⟨_, D, ?_, ?_⟩
  · refine ⟨_, _, s, rfl, ⟨hk6 hp5 (by omega) (fun j hj => by have := hfrlt j hj; omega), hX5 _ (by omega), fun e => ?_⟩, ⟨hk6 hq5 (hq.ne h.cells (by decide)) (fun j hj e => h.fr.ne_blk hq (by decide) (by rw [hj, e])), hqX⟩, rfl, hs⟩
    simp only at e
    rcases hl with h1 | h1
    · rw [h1] at e
      have := hfrlt _ e
      omega
    · rw [h1] at e
      injection e with e
      omega
  · have h1 := (((Keeps.refl X w).grown (World.grownBy_alloc w _ none) h.old (fun k e => by cases e)).grown (World.grownBy_alloc _ _ none) (fun b hb => by have := h.old b hb; simp; omega) (fun k e => by cases e) : Keeps X w (fileBox w))
    exact (h1.grown hga (fun b hb => by have := h.old b hb; omega) (fun k hk => h.fr.2 k hk)).grown (grown_set w6 g 1 v) (fun b hb => by have := h.old b hb; have := hga.size; omega) (fun k hk => by cases hk; exact h.gX)
end
end Go.Proofs.Ytfhbolhmfhgeaaa
