/-
  WHAT STAYS OF A DISK, AND WHAT IT BECOMES, WHERE ONE PART OF IT TURNS.
  CONTRACTS OF the small calls of a disk: callIn, Fuse, Fault, Dead, Calls, begin.
  RANGING OVER NAMES; CONTRACTS OF 'maps.Copy' and 'disk.copied'.
  append ONTO a disk's rows; CONTRACTS OF the turns' closures and of 'do'.
  CONTRACT OF 'do': a turn is done, and waits.
-/
import Derived.Test.YtekhockdgglndaaDState
import Derived.Laws.LoneSync
import Derived.IntWalk
import Derived.Maps.RangeWalk
namespace Go.Proofs.Ytekhockdgglndaa
set_option linter.unusedVariables false
set_option linter.unusedSimpArgs false
open Go.RowKit Go.Maps

section
variable {w w' : World} {X : Nat → Prop} {g : Nat} {L : Lay} {S : St}

/-- All blocks of the disk stay, and none lies in Y: it is a disk outside Y. -/
theorem DAt.same (h : DAt w X g L S) {Y : Nat → Prop} (hk : ∀ k, k < w.heap.size → ¬ X k → w'.heap[k]? = w.heap[k]? ∧ ¬ Y k) (hY : ∀ b, Y b → b < w'.heap.size) : DAt w' Y g L S := by
  obtain ⟨vs, h1, h2⟩ := h.wr
  have rowY : ∀ {t : TypeId} {v : Value} {n : Nat} {xs : List Value}, Row w X t v n xs → Row w' Y t v n xs := fun r => by
    have := r.stay (w' := w') fun j hj => (hk j (r.lt hj) (r.2 j hj)).1
    exact ⟨this.1, fun j hj => (hk j (r.lt hj) (r.2 j hj)).2⟩
  refine ⟨(hk g h.cells.lt h.gX).2, hY, h.cells.stay (hk g h.cells.lt h.gX).1, rowY h.fr, h.nm.stay (hk _ h.nm.lt h.nmX).1, (hk _ h.nm.lt h.nmX).2, h.sm.stay (hk _ h.sm.lt h.smX).1, (hk _ h.sm.lt h.smX).2, h.nsm, ⟨vs, rowY h1, ?_⟩, fun f hf => ?_, h.nd⟩
  · exact h2.map fun v t ht => ht.stay (fun p xs hb hX => hk p hb.lt hX) (fun p xs hb hX hne => ⟨(hk p hb.lt hX).1, (hk p hb.lt hX).2, hne⟩)
  · have := h.fo f hf
    exact ⟨this.blk.stay (hk _ this.blk.lt this.out).1, (hk _ this.blk.lt this.out).2, rowY this.row⟩
/-- Something else turned: blocks of X, and new ones. -/
theorem DAt.foreign (h : DAt w X g L S) {row : Option Nat} (hg : w.grownBy w' row) (hr : ∀ j, row = some j → X j) : DAt w' X g L S :=
  h.same (fun k hk hX => ⟨hg.block k hk (fun e => hX (hr k e.symm)), hX⟩) (fun b hb => Nat.lt_of_lt_of_le (h.old b hb) hg.size)
theorem DAt.quiet (h : DAt w X g L S) (hq : Quiet w w') : DAt w' X g L S := h.foreign (hq.grown none) (fun j e => by cases e)
theorem DAt.drewN (h : DAt w X g L S) (q : Nat) : DAt (w.drewN q) X g L S := h.quiet ⟨q, rfl⟩
theorem DAt.alloc (h : DAt w X g L S) (o : Obj) : DAt (w.alloc o) X g L S := h.foreign (World.grownBy_alloc w o none) (fun j e => by cases e)
/-- .. and the new ones are none of the disk's. -/
theorem DAt.wider (h : DAt w X g L S) {row : Option Nat} (hg : w.grownBy w' row) (hr : ∀ j, row = some j → X j) : DAt w' (fun b => X b ∨ (w.heap.size ≤ b ∧ b < w'.heap.size)) g L S :=
  h.same (fun k hk hX => ⟨hg.block k hk (fun e => hX (hr k e.symm)), fun hY => hY.elim hX (fun h2 => by omega)⟩)
    (fun b hb => hb.elim (fun h1 => Nat.lt_of_lt_of_le (h.old b h1) hg.size) (fun h1 => h1.2))
theorem DAt.fewer (h : DAt w X g L S) {Y : Nat → Prop} (hY : ∀ b, Y b → X b) : DAt w Y g L S :=
  h.same (fun k hk hX => ⟨rfl, fun hy => hX (hY k hy)⟩) (fun b hb => h.old b (hY b hb))

theorem DAt.c0 (h : DAt w X g L S) : w.cell? ⟨g, 0, none⟩ = some (.int .i64 S.cap) := h.cells.cell 0
theorem DAt.c1 (h : DAt w X g L S) : w.cell? ⟨g, 1, none⟩ = some L.fr := h.cells.cell 1
theorem DAt.c2 (h : DAt w X g L S) : w.cell? ⟨g, 2, none⟩ = some (.map (some L.nm)) := h.cells.cell 2
theorem DAt.c3 (h : DAt w X g L S) : w.cell? ⟨g, 3, none⟩ = some (.map (some L.sm)) := h.cells.cell 3
theorem DAt.c4 (h : DAt w X g L S) : w.cell? ⟨g, 4, none⟩ = some L.wr := h.cells.cell 4
theorem DAt.c9 (h : DAt w X g L S) : w.cell? ⟨g, 9, none⟩ = some (.bool S.dead) := h.cells.cell 9
theorem FileAt.c0 {v : Value} {f : Fl} (h : FileAt w X v f) : w.cell? ⟨f.blk, 0, none⟩ = some v := h.blk.cell 0
theorem FileAt.c1 {v : Value} {f : Fl} (h : FileAt w X v f) : w.cell? ⟨f.blk, 1, none⟩ = some (.int .i64 (f.unsure : Int)) := h.blk.cell 1
theorem FileAt.c2 {v : Value} {f : Fl} (h : FileAt w X v f) : w.cell? ⟨f.blk, 2, none⟩ = some (.bool f.named) := h.blk.cell 2
theorem DAt.file_ne (h : DAt w X g L S) {f : Fl} (hf : f ∈ S.fs) : f.blk ≠ g := (h.fo f hf).blk.ne h.cells (by decide)

/-- A field of the disk is set that leads to no other block. -/
theorem DAt.scal (h : DAt w X g L S) {S' : St} (hsz : w.heap.size ≤ w'.heap.size) (hk : ∀ k, k < w.heap.size → k ≠ g → w'.heap[k]? = w.heap[k]?) (hc : Blk w' g 61 (cellsOf L S'))
    (e1 : S'.fs = S.fs) (e2 : S'.names = S.names) (e3 : S'.sure = S.sure) (e4 : S'.waits = S.waits) : DAt w' X g L S' := by
  obtain ⟨vs, h1, h2⟩ := h.wr
  have rowg : ∀ {t : TypeId} {v : Value} {n : Nat} {xs : List Value}, t ≠ 61 → Row w X t v n xs → Row w' X t v n xs := fun ht r =>
    r.stay fun j hj => hk j (r.lt hj) (fun e => r.ne_blk h.cells ht (by rw [hj, e]))
  refine ⟨h.gX, fun b hb => Nat.lt_of_lt_of_le (h.old b hb) hsz, hc, by rw [e1]; exact rowg (by decide) h.fr, by rw [e2]; exact h.nm.stay (hk _ h.nm.lt (h.nm.ne_blk h.cells)), h.nmX, by rw [e3]; exact h.sm.stay (hk _ h.sm.lt (h.sm.ne_blk h.cells)), h.smX, h.nsm, ⟨vs, by rw [e4]; exact rowg (by decide) h1, ?_⟩, fun f hf => ?_, by rw [e1]; exact h.nd⟩
  · rw [e4]
    exact h2.map fun v t ht => ht.stay (fun p xs hb hX => ⟨hk p hb.lt (hb.ne h.cells (by decide)), hX⟩) (fun p xs hb hX hne => ⟨hk p hb.lt (hb.ne h.cells (by decide)), hX, hne⟩)
  · rw [e1] at hf
    have := h.fo f hf
    exact ⟨this.blk.stay (hk _ this.blk.lt (h.file_ne hf)), this.out, rowg (by decide) this.row⟩
theorem DAt.setg (h : DAt w X g L S) {S' : St} (j : Nat) (v : Value) (hc : (cellsOf L S).set j v = cellsOf L S') (e1 : S'.fs = S.fs) (e2 : S'.names = S.names) (e3 : S'.sure = S.sure) (e4 : S'.waits = S.waits) : DAt (w.setCell ⟨g, j, none⟩ v) X g L S' :=
  h.scal (by simp) (fun k hk hne => Below.heap_setCell _ _ _ _ hne) (by rw [← hc]; exact h.cells.set j v) e1 e2 e3 e4

/-- A file is another one, at its block. -/
theorem DAt.file (h : DAt w X g L S) {i : Nat} {f f' : Fl} (hi : S.fs[i]? = some f) (hb : f'.blk = f.blk) {v : Value} (hsz : w.heap.size ≤ w'.heap.size)
    (hk : ∀ k, k < w.heap.size → k ≠ f.blk → (L.row f.blk).ownBlock ≠ some k → w'.heap[k]? = w.heap[k]?) (hf' : Blk w' f.blk 65 (fileCells v f')) (hr : Row w' X 5 v f'.data.length (by8 f'.data))
    (hv : ∀ j, v.ownBlock = some j → (L.row f.blk).ownBlock = some j ∨ w.heap.size ≤ j) : DAt w' X g (L.up f.blk v) { S with fs := S.fs.set i f' } := by
  obtain ⟨vs, h1, h2⟩ := h.wr
  have hm : f ∈ S.fs := List.mem_of_getElem? hi
  have hil : i < S.fs.length := (List.getElem?_eq_some_iff.1 hi).1
  have hfa := h.fo f hm
  have kb : ∀ {b : Nat} {t : TypeId} {xs : List Value}, t ≠ 65 → t ≠ 5 → Blk w b t xs → w'.heap[b]? = w.heap[b]? := fun ht1 ht2 hb' => hk _ hb'.lt (hb'.ne hfa.blk ht1) (hfa.row.ne_blk hb' ht2.symm)
  have kr : ∀ {t : TypeId} {v : Value} {n : Nat} {xs : List Value}, t ≠ 65 → t ≠ 5 → Row w X t v n xs → Row w' X t v n xs := fun ht1 ht2 r =>
    r.stay fun j hj => hk j (r.lt hj) (fun e => r.ne_blk hfa.blk ht1 (by rw [hj, e])) (fun e => hfa.row.ne_row r ht2.symm hj e)
  have hap : ∀ f2 ∈ S.fs, f2.blk ≠ f.blk → Apart L f f2 := fun f2 hf2 hne => by
    have hp := h.nd
    obtain ⟨j, hj⟩ := List.getElem?_of_mem hf2
    rw [List.pairwise_iff_getElem] at hp
    obtain ⟨hj1, hj2⟩ := List.getElem?_eq_some_iff.1 hj
    obtain ⟨hi1, hi2⟩ := List.getElem?_eq_some_iff.1 hi
    rcases Nat.lt_trichotomy i j with hlt | heq | hgt
    · have := hp i j hi1 hj1 hlt
      rwa [hi2, hj2] at this
    · subst heq
      rw [hi] at hj
      cases hj
      exact absurd rfl hne
    · have := hp j i hj1 hi1 hgt
      rw [hi2, hj2] at this
      exact this.symm
  have key : ∀ f2 ∈ S.fs.set i f', (f2 = f') ∨ (f2 ∈ S.fs ∧ f2.blk ≠ f.blk) := fun f2 hf2 => by
    obtain ⟨j, hj⟩ := List.getElem?_of_mem hf2
    by_cases e : j = i
    · subst e
      rw [List.getElem?_set_self hil] at hj
      cases hj
      exact .inl rfl
    · rw [List.getElem?_set_ne (fun e' => e e'.symm)] at hj
      refine .inr ⟨List.mem_of_getElem? hj, ?_⟩
      have hp := h.nd
      rw [List.pairwise_iff_getElem] at hp
      obtain ⟨hj1, hj2⟩ := List.getElem?_eq_some_iff.1 hj
      obtain ⟨hi1, hi2⟩ := List.getElem?_eq_some_iff.1 hi
      rcases Nat.lt_or_gt_of_ne e with hlt | hgt
      · have := (hp j i hj1 hi1 hlt).1
        rwa [hj2, hi2] at this
      · have := (hp i j hi1 hj1 hgt).1
        rw [hj2, hi2] at this
        exact this.symm
  refine ⟨h.gX, fun b hb => Nat.lt_of_lt_of_le (h.old b hb) hsz, h.cells.stay (kb (by decide) (by decide) h.cells), ?_, h.nm.stay (hk _ h.nm.lt (h.nm.ne_blk hfa.blk) (hfa.row.ne_names h.nm)), h.nmX, h.sm.stay (hk _ h.sm.lt (h.sm.ne_blk hfa.blk) (hfa.row.ne_names h.sm)), h.smX, h.nsm,
    ⟨vs, kr (by decide) (by decide) h1, ?_⟩, fun f2 hf2 => ?_, ?_⟩
  · refine (kr (by decide) (by decide) h.fr).cast (by simp) ?_
    simp only [List.map_set, hb]
    symm
    refine List.ext_getElem? fun j => ?_
    by_cases e : j = i
    · subst e
      rw [List.getElem?_set_self (by simpa using hil), List.getElem?_map, hi]
      rfl
    · rw [List.getElem?_set_ne (fun e' => e e'.symm)]
  · exact h2.map fun v t ht => ht.stay (fun p xs hb hX => ⟨kb (by decide) (by decide) hb, hX⟩) (fun p xs hb hX hne => ⟨kb (by decide) (by decide) hb, hX, hne⟩)
  · rcases key f2 hf2 with rfl | ⟨h3, h4⟩
    · refine ⟨by rw [hb, Lay.up_same]; exact hf', by rw [hb]; exact hfa.out, by rw [hb, Lay.up_same]; exact hr⟩
    · rw [Lay.up_other _ _ h4]
      have h5 := h.fo f2 h3
      have h6 := hap f2 h3 h4
      refine h5.stay (hk _ h5.blk.lt h4 (hfa.row.ne_blk h5.blk (by decide))) fun j hj => hk j (h5.row.lt hj) (fun e => h5.row.ne_blk hfa.blk (by decide) (by rw [hj, e])) (fun e => h6.2 j e hj)
  · -- apart
    have hup : ∀ f2 ∈ S.fs, f2.blk ≠ f.blk → Apart (L.up f.blk v) f' f2 := fun f2 h3 h4 => by
      have h6 := hap f2 h3 h4
      refine ⟨by rw [hb]; exact h4.symm, fun j hj => ?_⟩
      rw [hb, Lay.up_same] at hj
      rw [Lay.up_other _ _ h4]
      rcases hv j hj with h7 | h7
      · exact h6.2 j h7
      · intro e
        have := (h.fo f2 h3).row.lt e
        omega
    have hp := h.nd
    rw [List.pairwise_iff_getElem] at hp ⊢
    intro a b ha hb2 hab
    simp only [List.length_set] at ha hb2
    rw [List.getElem_set, List.getElem_set]
    have hne : ∀ c (hc : c < S.fs.length), c ≠ i → S.fs[c].blk ≠ f.blk := fun c hc hci => by
      obtain ⟨hi1, hi2⟩ := List.getElem?_eq_some_iff.1 hi
      rcases Nat.lt_or_gt_of_ne hci with hlt | hgt
      · have := (hp c i hc hi1 hlt).1
        rwa [hi2] at this
      · have := (hp i c hi1 hc hgt).1
        rw [hi2] at this
        exact this.symm
    by_cases ea : i = a
    · rw [if_pos ea, if_neg (by omega)]
      exact hup _ (List.getElem_mem _) (hne b hb2 (by omega))
    · rw [if_neg ea]
      by_cases eb : i = b
      · rw [if_pos eb]
        exact (hup _ (List.getElem_mem _) (hne a ha (by omega))).symm
      · rw [if_neg eb]
        have := hp a b ha hb2 hab
        refine ⟨this.1, ?_⟩
        rw [Lay.up_other _ _ (hne a ha (by omega)), Lay.up_other _ _ (hne b hb2 (by omega))]
        exact this.2

/-- The row of files is another one. -/
theorem DAt.files (h : DAt w X g L S) {fs' : List Fl} {v : Value} (hsz : w.heap.size ≤ w'.heap.size) (hk : ∀ k, k < w.heap.size → k ≠ g → L.fr.ownBlock ≠ some k → w'.heap[k]? = w.heap[k]?)
    (hc : Blk w' g 61 (cellsOf { L with fr := v } { S with fs := fs' })) (hr : Row w' X 62 v fs'.length (fs'.map fun f => ptrTo f.blk)) (hv : ∀ j, v.ownBlock = some j → L.fr.ownBlock = some j ∨ w.heap.size ≤ j)
    (hfo : ∀ f ∈ fs', f ∈ S.fs ∨ FileAt w' X (L.row f.blk) f) (hnd : fs'.Pairwise (Apart L)) : DAt w' X g { L with fr := v } { S with fs := fs' } := by
  obtain ⟨vs, h1, h2⟩ := h.wr
  have kr : ∀ {t : TypeId} {v : Value} {n : Nat} {xs : List Value}, t ≠ 61 → t ≠ 62 → Row w X t v n xs → Row w' X t v n xs := fun ht1 ht2 r =>
    r.stay fun j hj => hk j (r.lt hj) (fun e => r.ne_blk h.cells ht1 (by rw [hj, e])) (fun e => h.fr.ne_row r ht2.symm hj e)
  refine ⟨h.gX, fun b hb => Nat.lt_of_lt_of_le (h.old b hb) hsz, hc, hr, h.nm.stay (hk _ h.nm.lt (h.nm.ne_blk h.cells) (h.fr.ne_names h.nm)), h.nmX, h.sm.stay (hk _ h.sm.lt (h.sm.ne_blk h.cells) (h.fr.ne_names h.sm)), h.smX, h.nsm, ⟨vs, kr (by decide) (by decide) h1, ?_⟩, fun f hf => ?_, hnd⟩
  · exact h2.map fun v t ht => ht.stay (fun p xs hb hX => ⟨hk _ hb.lt (hb.ne h.cells (by decide)) (h.fr.ne_blk hb (by decide)), hX⟩) (fun p xs hb hX hne => ⟨hk _ hb.lt (hb.ne h.cells (by decide)) hne, hX, fun e => by
      rcases hv p e with h3 | h3
      · exact hne h3
      · have := hb.lt
        omega⟩)
  · rcases hfo f hf with h3 | h3
    · have := h.fo f h3
      exact ⟨this.blk.stay (hk _ this.blk.lt (h.file_ne h3) (h.fr.ne_blk this.blk (by decide))), this.out, kr (by decide) (by decide) this.row⟩
    · exact h3

/-- The row of turns is another one. -/
theorem DAt.turns (h : DAt w X g L S) {ts' : List Tn} {v : Value} (hsz : w.heap.size ≤ w'.heap.size) (hk : ∀ k, k < w.heap.size → k ≠ g → L.wr.ownBlock ≠ some k → w'.heap[k]? = w.heap[k]?)
    (hc : Blk w' g 61 (cellsOf { L with wr := v } { S with waits := ts' })) (hr : ∃ vs, Row w' X 95 v ts'.length vs ∧ TurnsAt w' X L.fr vs ts') : DAt w' X g { L with wr := v } { S with waits := ts' } := by
  obtain ⟨vs, h1, h2⟩ := h.wr
  have kr : ∀ {t : TypeId} {v : Value} {n : Nat} {xs : List Value}, t ≠ 61 → t ≠ 95 → Row w X t v n xs → Row w' X t v n xs := fun ht1 ht2 r =>
    r.stay fun j hj => hk j (r.lt hj) (fun e => r.ne_blk h.cells ht1 (by rw [hj, e])) (fun e => h1.ne_row r ht2.symm hj e)
  refine ⟨h.gX, fun b hb => Nat.lt_of_lt_of_le (h.old b hb) hsz, hc, kr (by decide) (by decide) h.fr, h.nm.stay (hk _ h.nm.lt (h.nm.ne_blk h.cells) (h1.ne_names h.nm)), h.nmX, h.sm.stay (hk _ h.sm.lt (h.sm.ne_blk h.cells) (h1.ne_names h.sm)), h.smX, h.nsm, hr, fun f hf => ?_, h.nd⟩
  have := h.fo f hf
  exact ⟨this.blk.stay (hk _ this.blk.lt (h.file_ne hf) (h1.ne_blk this.blk (by decide))), this.out, kr (by decide) (by decide) this.row⟩
/-- The closures of a row of turns, while g and the row itself turn. -/
theorem DAt.closures (h : DAt w X g L S) (hk : ∀ k, k < w.heap.size → k ≠ g → L.wr.ownBlock ≠ some k → w'.heap[k]? = w.heap[k]?) {v : Value} {t : Tn} (ht : TurnAt w X L.fr v t) {vs : List Value} (hr : Row w X 95 L.wr S.waits.length vs) : TurnAt w' X L.fr v t :=
  ht.stay (fun p xs hb hX => ⟨hk _ hb.lt (hb.ne h.cells (by decide)) (hr.ne_blk hb (by decide)), hX⟩) (fun p xs hb hX hne => ⟨hk _ hb.lt (hb.ne h.cells (by decide)) (hr.ne_blk hb (by decide)), hX, hne⟩)

/-- The map of names has other ones. -/
theorem DAt.names (h : DAt w X g L S) {N : NL} (hg : w.grownBy w' (some L.nm)) (hn : NamesAt w' L.nm N) : DAt w' X g L { S with names := N } := by
  obtain ⟨vs, h1, h2⟩ := h.wr
  have kb : ∀ {b : Nat} {t : TypeId} {xs : List Value}, Blk w b t xs → w'.heap[b]? = w.heap[b]? := fun hb => hg.block _ hb.lt (fun e => h.nm.ne_blk hb (by injection e with e; exact e.symm))
  have kr : ∀ {t : TypeId} {v : Value} {n : Nat} {xs : List Value}, Row w X t v n xs → Row w' X t v n xs := fun r => r.stay fun j hj => hg.block j (r.lt hj) (fun e => r.ne_names h.nm (by rw [hj]; exact e))
  refine ⟨h.gX, fun b hb => Nat.lt_of_lt_of_le (h.old b hb) hg.size, h.cells.stay (kb h.cells), kr h.fr, hn, h.nmX, h.sm.stay (hg.block _ h.sm.lt (fun e => h.nsm (by injection e with e; exact e.symm))), h.smX, h.nsm, ⟨vs, kr h1, ?_⟩, fun f hf => ?_, h.nd⟩
  · exact h2.map fun v t ht => ht.stay (fun p xs hb hX => ⟨kb hb, hX⟩) (fun p xs hb hX hne => ⟨kb hb, hX, hne⟩)
  · have := h.fo f hf
    exact ⟨this.blk.stay (kb this.blk), this.out, kr this.row⟩
/-- The maps are other ones. -/
theorem DAt.maps (h : DAt w X g L S) {N M : NL} {nm sm : Nat} (hsz : w.heap.size ≤ w'.heap.size) (hk : ∀ k, k < w.heap.size → k ≠ g → w'.heap[k]? = w.heap[k]?) (hc : Blk w' g 61 (cellsOf { L with nm := nm, sm := sm } { S with names := N, sure := M }))
    (hn : NamesAt w' nm N) (hnX : ¬ X nm) (hs : NamesAt w' sm M) (hsX : ¬ X sm) (hne : nm ≠ sm) : DAt w' X g { L with nm := nm, sm := sm } { S with names := N, sure := M } := by
  obtain ⟨vs, h1, h2⟩ := h.wr
  have rowg : ∀ {t : TypeId} {v : Value} {n : Nat} {xs : List Value}, t ≠ 61 → Row w X t v n xs → Row w' X t v n xs := fun ht r =>
    r.stay fun j hj => hk j (r.lt hj) (fun e => r.ne_blk h.cells ht (by rw [hj, e]))
  refine ⟨h.gX, fun b hb => Nat.lt_of_lt_of_le (h.old b hb) hsz, hc, rowg (by decide) h.fr, hn, hnX, hs, hsX, hne, ⟨vs, rowg (by decide) h1, ?_⟩, fun f hf => ?_, h.nd⟩
  · exact h2.map fun v t ht => ht.stay (fun p xs hb hX => ⟨hk p hb.lt (hb.ne h.cells (by decide)), hX⟩) (fun p xs hb hX hne => ⟨hk p hb.lt (hb.ne h.cells (by decide)), hX, hne⟩)
  · have := h.fo f hf
    exact ⟨this.blk.stay (hk _ this.blk.lt (h.file_ne hf)), this.out, rowg (by decide) this.row⟩
end
end Go.Proofs.Ytekhockdgglndaa
namespace Go.Proofs.Ytekhockdgglndaa
set_option linter.unusedVariables false
set_option linter.unusedSimpArgs false
open Go.RowKit

theorem ret_int64 {a b : Int} (h : a = b) : Ending.returned (.int .i64 a) = .returned (.int .i64 b) := by rw [h]
/-- '(*sync/atomic.Int64).Add(1)'. -/
theorem count_any (a : Addr) (k : Nat) (w : World) (h0 : w.cell? a = some (.int .i64 (k : Int))) (hz : w.frozen? a = false) (hk : k ≤ 1000000000) :
    Calls Try.prog 66 #[.pointer (some a), .int .i64 1] w fun e w' => e = .returned (.int .i64 ((k : Int) + 1)) ∧ w' = w.setCell a (.int .i64 ((k : Int) + 1)) := by
  have hadd := run_call_add (P := Try.prog) Try.func74 (by kernel_rfl) (by kernel_rfl) (by kernel_rfl) .i64 (by kernel_rfl) (y := 1) (s := (k : Int) + 1) h0 hz (by simp [go_sem, IntWalk.i64_in ((k : Int) + 1) (by omega)])
  go_enter Try.func66, Try.ntmps66
  go_wp2
  go_ret
  exact ⟨rfl, rfl⟩
theorem load_any (a : Addr) (k : Int) (w : World) (h0 : w.cell? a = some (.int .i64 k)) :
    Calls Try.prog 63 #[.pointer (some a)] w fun e w' => e = .returned (.int .i64 k) ∧ w = w' := by
  have hl := run_call_load (P := Try.prog) Try.func70 (by kernel_rfl) (by kernel_rfl) (by kernel_rfl) .i64 (by kernel_rfl) h0
  go_enter Try.func63, Try.ntmps63
  go_wp2
  go_ret
  exact ⟨rfl, rfl⟩

section
variable {w : World} {X : Nat → Prop} {g : Nat} {L : Lay} {S : St}

/-- The number of the n-th call from now on. -/
def armN (n : Int) (calls : Nat) : Nat := if 1 ≤ n ∧ n ≤ 1099511627776 then calls + n.toNat else 0
theorem callIn_any (h : DAt w X g L S) (n : Int) (hc : S.calls ≤ 1000000000) :
    Calls Try.prog 48 #[ptrTo g, .int .i64 n] w fun e w' => e = .returned (.int .i64 (armN n S.calls : Nat)) ∧ w = w' := by
  have c5 : w.cell? ⟨g, 5, none⟩ = some (.int .i64 (S.calls : Int)) := h.cells.cell 5
  unfold ptrTo
  by_cases h1 : n < 1
  · have H := Lib.hid (show ((armN n S.calls : Nat) : Int) = 0 by unfold armN; rw [if_neg (by omega)]; rfl)
    go_enter Try.func48, Try.ntmps48
    go_wp2
    go_ret
    exact ⟨ret_int64 H.out.symm, rfl⟩
  · by_cases h2 : 1099511627776 < n
    · have H := Lib.hid (show ((armN n S.calls : Nat) : Int) = 0 by unfold armN; rw [if_neg (by omega)]; rfl)
      go_enter Try.func48, Try.ntmps48
      go_wp2
      go_ret
      exact ⟨ret_int64 H.out.symm, rfl⟩
    · have H := Lib.hid (show ((armN n S.calls : Nat) : Int) = (S.calls : Int) + n by unfold armN; rw [if_pos (by omega)]; omega)
      go_enter Try.func48, Try.ntmps48
      go_wp2_with (go_at_call 63; refine (load_any _ _ _ c5).mono ?_; rintro e w' ⟨rfl, rfl⟩)
      go_ret
      exact ⟨ret_int64 H.out.symm, rfl⟩

theorem fuse_any (h : DAt w X g L S) (n : Int) (hc : S.calls ≤ 1000000000) :
    Calls Try.prog 19 #[ptrTo g, .int .i64 n] w fun e w' => e = .returned (.tuple #[]) ∧ DAt w' X g L { S with fuse := armN n S.calls } ∧ Keeps X w w' := by
  have f6 := h.cells.nf 6
  have c6 : w.cell? ⟨g, 6, none⟩ = some (.int .i64 (S.fuse : Int)) := h.cells.cell 6
  have HC := Lib.hid (callIn_any h n hc)
  have H := Lib.hid h
  clear h
  unfold ptrTo at *
  obtain ⟨c, hcc⟩ : ∃ c, c = armN n S.calls := ⟨_, rfl⟩
  rw [← hcc] at HC ⊢
  clear hcc
  go_enter Try.func19, Try.ntmps19
  go_wp2_with (go_at_call 48; refine HC.out.mono ?_; rintro e w' ⟨rfl, rfl⟩)
  first | go_ret | go_end0
  exact ⟨rfl, H.out.setg 6 _ rfl rfl rfl rfl rfl, (Keeps.refl X w).grown (grown_set w g 6 _) H.out.old (fun k hk => by cases hk; exact H.out.gX)⟩

/-- A fault of n with the error e. -/
def faultN (n e : Int) (calls : Nat) : Nat := if e = 0 ∨ e = 9 then 0 else armN n calls
theorem armN_zero (c : Nat) : armN 0 c = 0 := by unfold armN; rw [if_neg (by omega)]
theorem fault_any (h : DAt w X g L S) (n e : Int) (hc : S.calls ≤ 1000000000) :
    Calls Try.prog 36 #[ptrTo g, .int .i64 n, .int .i64 e] w fun r w' => r = .returned (.tuple #[]) ∧ DAt w' X g L { S with fault := faultN n e S.calls, fe := e } ∧ Keeps X w w' := by
  have f7 := h.cells.nf 7
  have f8 := h.cells.nf 8
  have c7 : w.cell? ⟨g, 7, none⟩ = some (.int .i64 (S.fault : Int)) := h.cells.cell 7
  have c8 : w.cell? ⟨g, 8, none⟩ = some (.int .i64 S.fe) := h.cells.cell 8
  have H := Lib.hid h
  have fin : ∀ c : Nat, c = faultN n e S.calls → DAt ((w.setCell ⟨g, 7, none⟩ (.int .i64 (c : Int))).setCell ⟨g, 8, none⟩ (.int .i64 e)) X g L { S with fault := faultN n e S.calls, fe := e } ∧ Keeps X w ((w.setCell ⟨g, 7, none⟩ (.int .i64 (c : Int))).setCell ⟨g, 8, none⟩ (.int .i64 e)) := fun c hcc => by
    subst hcc
    have h1 := h.setg (S' := { S with fault := faultN n e S.calls }) 7 (.int .i64 (faultN n e S.calls : Nat)) rfl rfl rfl rfl rfl
    refine ⟨h1.setg 8 _ rfl rfl rfl rfl rfl, ?_⟩
    exact ((Keeps.refl X w).grown (grown_set w g 7 _) h.old (fun k hk => by cases hk; exact h.gX)).grown (grown_set _ g 8 _) h1.old (fun k hk => by cases hk; exact h.gX)
  have FIN := Lib.hid fin
  clear fin
  by_cases h1 : e = 0
  · have HC := Lib.hid (callIn_any h 0 hc)
    rw [armN_zero] at HC
    subst h1
    clear h
    unfold ptrTo at *
    go_enter Try.func36, Try.ntmps36
    go_wp2_with (go_at_call 48; refine HC.out.mono ?_; rintro e w' ⟨rfl, rfl⟩)
    first | go_ret | go_end0
    exact ⟨rfl, FIN.out 0 (by simp [faultN])⟩
  · by_cases h2 : e = 9
    · have HC := Lib.hid (callIn_any h 0 hc)
      rw [armN_zero] at HC
      subst h2
      clear h
      unfold ptrTo at *
      go_enter Try.func36, Try.ntmps36
      go_wp2_with (go_at_call 48; refine HC.out.mono ?_; rintro e w' ⟨rfl, rfl⟩)
      first | go_ret | go_end0
      exact ⟨rfl, FIN.out 0 (by simp [faultN])⟩
    · have HC := Lib.hid (callIn_any h n hc)
      have e1 : (e == 0) = false := by simpa using h1
      have e2 : (e == 9) = false := by simpa using h2
      have hcc := Lib.hid (show armN n S.calls = faultN n e S.calls by unfold faultN; rw [if_neg (by omega)])
      obtain ⟨c, hc0⟩ : ∃ c, c = armN n S.calls := ⟨_, rfl⟩
      rw [← hc0] at HC hcc
      clear h h1 h2 hc0
      unfold ptrTo at *
      go_enter Try.func36, Try.ntmps36
      go_wp2_with (go_at_call 48; refine HC.out.mono ?_; rintro e w' ⟨rfl, rfl⟩)
      first | go_ret | go_end0
      exact ⟨rfl, FIN.out c hcc.out⟩
theorem dead_any (h : DAt w X g L S) : Calls Try.prog 39 #[ptrTo g] w fun e w' => e = .returned (.bool S.dead) ∧ w = w' := by
  have c9 : w.cell? ⟨g, 9, none⟩ = some (.bool S.dead) := h.cells.cell 9
  unfold ptrTo
  go_enter Try.func39, Try.ntmps39
  go_wp2
  go_ret
  exact ⟨rfl, rfl⟩
theorem calls_any (h : DAt w X g L S) : Calls Try.prog 40 #[ptrTo g] w fun e w' => e = .returned (.int .i64 (S.calls : Int)) ∧ w = w' := by
  have c5 : w.cell? ⟨g, 5, none⟩ = some (.int .i64 (S.calls : Int)) := h.cells.cell 5
  unfold ptrTo
  go_enter Try.func40, Try.ntmps40
  go_wp2_with (go_at_call 63; refine (load_any _ _ _ c5).mono ?_; rintro e w' ⟨rfl, rfl⟩)
  go_ret
  exact ⟨rfl, rfl⟩

/-- What a call that changes answers, if it does nothing; and the disk then. -/
def St.berr (S : St) : Int := if S.dead = true then 9 else if S.calls + 1 = S.fuse then 9 else if S.calls + 1 = S.fault then S.fe else 0
def St.begun (S : St) : St := if S.dead = true then S else if S.calls + 1 = S.fuse then { S with calls := S.calls + 1, dead := true } else { S with calls := S.calls + 1 }
theorem begin_any (h : DAt w X g L S) (hc : S.calls ≤ 1000000) :
    Calls Try.prog 45 #[ptrTo g] w fun e w' => e = .returned (.int .i64 S.berr) ∧ DAt w' X g L S.begun ∧ Keeps X w w' := by
  have c9 : w.cell? ⟨g, 9, none⟩ = some (.bool S.dead) := h.cells.cell 9
  have c5 : w.cell? ⟨g, 5, none⟩ = some (.int .i64 (S.calls : Int)) := h.cells.cell 5
  have f5 := h.cells.nf 5
  have H := Lib.hid h
  by_cases hd : S.dead = true
  · have HE := Lib.hid (show S.berr = 9 by unfold St.berr; rw [if_pos hd])
    have HB := Lib.hid (show S.begun = S by unfold St.begun; rw [if_pos hd])
    rw [hd] at c9
    clear hd h
    unfold ptrTo
    go_enter Try.func45, Try.ntmps45
    go_wp2
    go_ret
    exact ⟨ret_int64 HE.out.symm, by rw [HB.out]; exact H.out, Keeps.refl _ _⟩
  · have h1 := h.setg (S' := { S with calls := S.calls + 1 }) 5 (.int .i64 ((S.calls : Int) + 1)) rfl rfl rfl rfl rfl
    have HK := Lib.hid ((Keeps.refl X w).grown (grown_set w g 5 (.int .i64 ((S.calls : Int) + 1))) h.old (fun k hk => by cases hk; exact h.gX))
    have hd' : S.dead = false := by simpa using hd
    obtain ⟨w1, hw1⟩ : ∃ w1, w1 = w.setCell ⟨g, 5, none⟩ (.int .i64 ((S.calls : Int) + 1)) := ⟨_, rfl⟩
    rw [← hw1] at h1 HK
    have HW := Lib.hid hw1.symm
    have d6 : w1.cell? ⟨g, 6, none⟩ = some (.int .i64 (S.fuse : Int)) := h1.cells.cell 6
    have d7 : w1.cell? ⟨g, 7, none⟩ = some (.int .i64 (S.fault : Int)) := h1.cells.cell 7
    have d8 : w1.cell? ⟨g, 8, none⟩ = some (.int .i64 S.fe) := h1.cells.cell 8
    have d9 : w1.cell? ⟨g, 9, none⟩ = some (.bool S.dead) := h1.cells.cell 9
    have k9 := h1.cells.nf 9
    rw [hd'] at c9 d9
    have H1 := Lib.hid h1
    have HD := Lib.hid hd
    have CNT := Lib.hid (count_any ⟨g, 5, none⟩ S.calls w c5 f5 (by omega))
    unfold Hid at HW
    rw [HW] at CNT
    have HC := Lib.hid hc
    clear h h1 hd hd' hw1 HW c5 f5 hc
    unfold ptrTo
    by_cases hf : S.calls + 1 = S.fuse
    · have e1 : ((S.calls : Int) + 1 == (S.fuse : Int)) = true := by simp; omega
      have HE := Lib.hid (show S.berr = 9 by unfold St.berr; rw [if_neg HD.out, if_pos hf])
      have HB := Lib.hid (show S.begun = { S with calls := S.calls + 1, dead := true } by unfold St.begun; rw [if_neg HD.out, if_pos hf])
      clear hf
      go_enter Try.func45, Try.ntmps45
      go_wp2_with (go_at_call 66; refine CNT.out.mono ?_; rintro e w' ⟨rfl, rfl⟩)
      go_ret
      refine ⟨ret_int64 HE.out.symm, by rw [HB.out]; exact H1.out.setg 9 _ rfl rfl rfl rfl rfl, HK.out.grown (grown_set _ g 9 _) H1.out.old (fun k hk => by cases hk; exact H1.out.gX)⟩
    · have e1 : ((S.calls : Int) + 1 == (S.fuse : Int)) = false := by simp; omega
      have HB := Lib.hid (show S.begun = { S with calls := S.calls + 1 } by unfold St.begun; rw [if_neg HD.out, if_neg hf])
      have HF := Lib.hid hf
      clear hf
      by_cases ha : S.calls + 1 = S.fault
      · have e2 : ((S.calls : Int) + 1 == (S.fault : Int)) = true := by simp; omega
        have HE := Lib.hid (show S.berr = S.fe by unfold St.berr; rw [if_neg HD.out, if_neg HF.out, if_pos ha])
        clear ha
        go_enter Try.func45, Try.ntmps45
        go_wp2_with (go_at_call 66; refine CNT.out.mono ?_; rintro e w' ⟨rfl, rfl⟩)
        go_ret
        exact ⟨ret_int64 HE.out.symm, by rw [HB.out]; exact H1.out, HK.out⟩
      · have e2 : ((S.calls : Int) + 1 == (S.fault : Int)) = false := by simp; omega
        have HE := Lib.hid (show S.berr = 0 by unfold St.berr; rw [if_neg HD.out, if_neg HF.out, if_neg ha])
        clear ha
        go_enter Try.func45, Try.ntmps45
        go_wp2_with (go_at_call 66; refine CNT.out.mono ?_; rintro e w' ⟨rfl, rfl⟩)
        go_ret
        exact ⟨ret_int64 HE.out.symm, by rw [HB.out]; exact H1.out, HK.out⟩
end
end Go.Proofs.Ytekhockdgglndaa
namespace Go.Proofs.Ytekhockdgglndaa
set_option linter.unusedVariables false
set_option linter.unusedSimpArgs false
open Go.RowKit Go.Maps

/-- What is left, said of names, as it is said of keys. -/
def lf (left : Nm → Bool) : Lit → Bool
  | .string b => left b
  | _ => false
theorem lf_start (N : NL) : Maps.has (toD N) = lf fun k => (nat? k N).isSome := by
  funext l
  cases l
  case string k => exact toD_has k N
  all_goals
    unfold Maps.has toD lf
    simp [List.any_eq_false, entD, Lit.sameKey]
theorem lf_step (left : Nm → Bool) (k : Nm) : (fun z : Lit => lf left z && !z.sameKey (.string k)) = lf fun m => left m && !(m == k) := by
  funext l
  cases l <;> rfl
/-- A range over names: left: which are to come; cnt: how many. -/
def NRange (w : World) (b r : Nat) (N : NL) (left : Nm → Bool) (cnt : Nat) : Prop := w.ranges Try.prog 9 ptrElem b r N.length (toD N) (lf left) cnt
section
variable {w w' : World} {b r : Nat} {N : NL} {left : Nm → Bool} {cnt : Nat}
theorem NRange.owns (h : NRange w b r N left cnt) : NamesAt w b N := World.ranges.owns h
theorem NRange.lt (h : NRange w b r N left cnt) : r < w.heap.size := World.ranges.lt h
theorem NRange.keep (h : NRange w b r N left cnt) {row : Option Nat} (hg : w.grownBy w' row) (h1 : row ≠ some b) (h2 : row ≠ some r) : NRange w' b r N left cnt := World.ranges.kept h hg h1.symm h2.symm
theorem NRange.left_eq (h : NRange w b r N left cnt) : w.rangeLeft b r = cnt := World.ranges.left_eq h
variable {ops : Array Oper} {rest : List Oper} {o : Oper} {a : Act} {Q : Exit → Act → World → Prop}
theorem wpList_range_names (w : World) (hg : o.guard = none) (m : Operand) (hop : o.op = Op.range 52 m) {b : Nat} {N : NL} (hm : a.eval m = .map (some b)) (h : NamesAt w b N)
    (hK : ∀ w', NRange w' b w.heap.size N (fun k => (nat? k N).isSome) N.length → w.grownBy w' none → w'.heap.size = w.heap.size + 1 → wpList Try.prog ops Q rest (a.put o.dst (.pointer (some ⟨w.heap.size, 0, none⟩))) w') : wpList Try.prog ops Q (o :: rest) a w :=
  wpList_range_own w hg m 52 hop 9 62 strLaw underlyingM ptrElem b N.length (toD N) hm h fun w' h1 h2 h3 => hK w' (by rw [lf_start, toD_size] at h1; exact h1) h2 h3
theorem wpList_next_names (w : World) (hg : o.guard = none) (it : Operand) (hop : o.op = Op.next it false) {b r : Nat} {N : NL} {left : Nm → Bool} {cnt : Nat} (hit : a.eval it = .pointer (some ⟨r, 0, none⟩)) (h : NRange w b r N left cnt)
    (hDone : cnt = 0 → (∀ k, left k = false) → wpList Try.prog ops Q rest (a.put o.dst (.tuple #[.bool false])) w)
    (hMore : ∀ (s : ByteArray) (c : Nat) (w' : World) (cnt' : Nat), s.size ≤ maxLen → left s.data.toList = true → (s.data.toList, c) ∈ N → NRange w' b r N (fun m => left m && !(m == s.data.toList)) cnt' → cnt' < cnt → w.grownBy w' (some r) → w'.heap.size = w.heap.size →
      (Instr.entry (.pointer (some ⟨r, 0, none⟩))).run Try.prog w' = .ok (.tuple #[.string s, ptrTo c]) w' → wpList Try.prog ops Q rest (a.put o.dst (.tuple #[.bool true, .string s, ptrTo c])) w') : wpList Try.prog ops Q (o :: rest) a w := by
  refine wpList_next_ranges w hg it hop 9 strLaw ptrElem Value.string ptrOf (fun key kl hk => ?_) (fun v y hv => ?_) b r N.length (toD N) (lf left) cnt hit h (fun h0 hl => hDone h0 fun k => hl (.string k)) ?_
  · obtain ⟨s, rfl, _, _⟩ := WideMaps.string_of_keyOf Try.underlying9 hk
    exact ⟨s, rfl⟩
  · rcases ptrElem_inv hv with ⟨rfl, _⟩ | ⟨c, rfl, _⟩
    · exact ⟨none, rfl⟩
    · exact ⟨some c, rfl⟩
  · intro s c kl y w' cnt' hkey hlk hv hat hrg hlt hgr hsz hen
    obtain ⟨s', e, rfl, hs⟩ := WideMaps.string_of_keyOf Try.underlying9 hkey
    cases e
    simp only [toD_at] at hat
    cases hn : nat? s.data.toList N with
    | none =>
      rw [hn] at hat
      have h1 := hat .nil
      have h2 := hat (.slice [] [])
      rw [← h1] at h2
      cases h2
    | some d =>
      rw [hn] at hat
      have hd : c = some d := by
        have h3 := hat .nil
        rcases ptrElem_inv hv with ⟨h1, h2⟩ | ⟨c', h1, h2⟩
        · rw [h2] at h3
          simp at h3
        · rw [h2] at h3
          simp at h3
          have : c' = d := by omega
          subst this
          cases c with
          | none => cases h1
          | some c'' =>
            unfold ptrOf ptrTo at h1
            simp at h1
            rw [h1]
      subst hd
      rw [lf_step] at hrg
      exact hMore s d w' cnt' hs hlk (nat?_some hn) hrg hlt hgr hsz hen
end
/-- Those that have come, at the start and at the end. -/
theorem come_start {N : NL} (h : Ris N) : (N.filter fun p => !(nat? p.1 N).isSome) = [] := by
  rw [List.filter_eq_nil_iff]
  intro p hp
  have := h.at (k := p.1) (b := p.2) hp
  simp [this]
theorem come_end {N : NL} {left : Nm → Bool} (h : ∀ k, left k = false) : (N.filter fun p => !left p.1) = N := by
  rw [List.filter_eq_self]
  intro p _
  simp [h]

set_option maxHeartbeats 400000 in
theorem copy_any (d b : Nat) (N : NL) (w : World) (hd : NamesAt w d []) (hb : NamesAt w b N) (hne : d ≠ b) (hn : N.length ≤ 1000000) :
    Calls Try.prog 55 #[.map (some d), .map (some b)] w fun e w' => e = .returned (.tuple #[]) ∧ NamesAt w' d N ∧ w.grownBy w' (some d) := by
  have hris := hb.ris
  have hdl := hd.lt
  have hbl := hb.lt
  have HN := Lib.hid hne
  clear hne
  go_enter Try.func55, Try.ntmps55
  go_wp2_with (first
    | (at_range; refine wpList_range_names _ rfl _ rfl rfl hb ?_; intro w0 hrg0 hg0 hs0)
    | go_in)
  go_frame
  go_loopw [4, 5] (fun _ _ wr => ∃ (left : Nm → Bool) (cnt : Nat), NRange wr b w.heap.size N left cnt ∧ NamesAt wr d (N.filter fun p => !left p.1) ∧ w.grownBy wr (some d)) (fun _ _ wr => wr.rangeLeft b w.heap.size)
  case atStart => exact ⟨_, _, hrg0, by rw [come_start hris]; exact hd.keep hg0 (by simp), hg0.but _⟩
  case round =>
    obtain ⟨left, cnt, hrg, hout, hgr⟩ := hrel
    have hsz := hgr.size
    go_wp2_with (first
      | (at_next; refine wpList_next_names _ rfl _ rfl rfl hrg ?_ ?_)
      | go_in)
    · intro hc0 hl0
      go_wp2
      first | go_ret | go_end0
      refine ⟨rfl, ?_, hgr⟩
      rw [come_end hl0] at hout
      exact hout
    · intro s c w1 cnt1 hs hlx hm hrg1 hlt hg1 hs1 hen
      have hout1 := hout.keep hg1 (by intro e; injection e with e; omega)
      have hlen : (N.filter fun p => !left p.1).length < maxLen := by
        have := List.length_filter_le (fun p : Nm × Nat => !left p.1) N
        unfold maxLen
        omega
      have HR := Lib.hid hris
      have HM := Lib.hid hm
      clear hs1 hm
      go_wp2_with (first
        | (at_mapUpdate; refine wpList_put _ rfl _ _ _ rfl rfl hout1 hlen rfl hs rfl ?_; intro w2 hout2 hg2; go_frame)
        | go_in)
      have hrg2 := hrg1.keep hg2 (by intro e; injection e with e; exact HN.out e) (by intro e; injection e with e; omega)
      go_roundw
      case rel =>
        refine ⟨_, cnt1, hrg2, ?_, ?_⟩
        · rw [← put_left HR.out HM.out]
          exact hout2
        · refine grown_trans (hgr.andThen hg1 fun j hj => ?_) hg2
          cases hj
          exact .inl (Nat.le_refl _)
      case measure => rw [hrg2.left_eq, hrg.left_eq]; exact hlt

theorem run_makeMap_some (n : Int) (w : World) : (Instr.makeMap 52 (some (.int .i64 n))).run Try.prog w = .ok (.map (some w.heap.size)) (w.alloc (.map #[] 0)) := by
  simp [Instr.makeMap, run_underlying underlyingM, go_sem]
theorem copied_any (b : Nat) (N : NL) (w : World) (hb : NamesAt w b N) (hn : N.length ≤ 1000000) :
    Calls Try.prog 24 #[.map (some b)] w fun e w' => e = .returned (.map (some w.heap.size)) ∧ NamesAt w' w.heap.size N ∧ Below w.heap.size w w' := by
  have hmm := run_makeMap_some
  have hl := hb.len 3
  have hbl := hb.lt
  have HC := Lib.hid (copy_any w.heap.size b N (w.alloc (.map #[] 0)) (NamesAt.made w) (hb.keep (World.grownBy_alloc w _ none) (by simp)) (by omega) hn)
  clear hb
  go_enter Try.func24, Try.ntmps24
  go_wp2_with (go_at_call 55; refine HC.out.mono ?_; rintro e w1 ⟨rfl, h1, h2⟩; have H1 := Lib.hid h1; have H2 := Lib.hid h2; clear h1 h2)
  go_ret
  exact ⟨rfl, H1.out, ((Below.refl _ w).alloc (Nat.le_refl _) _).grown H2.out (by simp) (fun k hk => by cases hk; exact Nat.le_refl _)⟩
end Go.Proofs.Ytekhockdgglndaa
namespace Go.Proofs.Ytekhockdgglndaa
set_option linter.unusedVariables false
set_option linter.unusedSimpArgs false
open Go.RowKit Go.Maps

section
variable {P : Program} {ops : Array Oper} {rest : List Oper} {o : Oper} {a : Act} {Q : Exit → Act → World → Prop}
/-- 'x = append(x, u)'. -/
theorem wp_rowpush {K : Act → World → Prop} (s x : Operand) (t : TypeId) (ho : o.op = .call { callee := .builtin .append, args := #[s, x], argTypes := #[t, t] }) {e : TypeId} {bytes : Nat} (hT : RowT P t e 1 bytes)
    (w : World) (X : Nat → Prop) (v : Value) (n : Nat) (xs : List Value) (u : Value) (hs : a.eval s = v) (hown : Row w X e v n xs) (hx : a.eval x = .slice (some ⟨w.heap.size, 0, none⟩) 1 1) (h1 : u.oneCell' = true) (hX : ∀ b, X b → b < w.heap.size)
    (hlen : n ≤ 1099511627776) (hby : bytes ≤ 64)
    (h : ∀ v' w', Row w' X e v' (n + 1) (xs ++ [u]) → (w.alloc (.cells #[u] e)).grownBy w' v.ownBlock → (v'.ownBlock = v.ownBlock ∨ v'.ownBlock = some (w.heap.size + 1)) → K (a.put o.dst v') w') : o.wp P a (w.alloc (.cells #[u] e)) K Q := by
  obtain ⟨ht, i, z, hi, hz, hsize, hbytes, hzs, hpos⟩ := hT
  have hbb : (n + 1) * bytes ≤ 140737488355328 := Nat.le_trans (Nat.mul_le_mul (show n + 1 ≤ 1099511627777 by omega) hby) (by decide)
  obtain ⟨v', w', hr, h2, h3, _, h5⟩ := run_append_own_at (P := P) (w.alloc (.cells #[u] e)) 0 t o.type e i z 1 bytes ht hi hz hsize hbytes hzs hpos v n xs (hown.1.alloc _) ⟨w.heap.size, 0, none⟩ 1 1 [u] rfl
    (fun j y hj => by
      rw [Addr.add_lit, Nat.zero_add, World.cell?_alloc_at _ _ _ _ rfl]
      simpa using hj) (fun y hy => by rw [List.mem_singleton.1 hy]; exact h1) (by unfold maxLen; omega) hbb (Nat.zero_le _)
  unfold Oper.wp execOp
  simp only [ho, resolve, invoke, builtin, Sem.run_bind, Sem.run_pure, Result.andThen_ok, List.map_toArray, List.map_cons, List.map_nil, hs, hx, hr]
  refine h v' w' ⟨h2, fun j hj => ?_⟩ h3 (by simpa using h5)
  rcases h5 with h5 | h5
  · exact hown.2 j (by rw [← h5]; exact hj)
  · intro hXj
    have := hX j hXj
    rw [h5] at hj
    simp at hj
    omega
theorem wpList_rowpush (hgd : Region.wanted o (yielded ops a.tmps) = true) (s x : Operand) (t : TypeId) (ho : o.op = .call { callee := .builtin .append, args := #[s, x], argTypes := #[t, t] }) {e : TypeId} {bytes : Nat} (hT : RowT P t e 1 bytes)
    (w : World) (X : Nat → Prop) (v : Value) (n : Nat) (xs : List Value) (u : Value) (hs : a.eval s = v) (hown : Row w X e v n xs) (hx : a.eval x = .slice (some ⟨w.heap.size, 0, none⟩) 1 1) (h1 : u.oneCell' = true) (hX : ∀ b, X b → b < w.heap.size)
    (hlen : n ≤ 1099511627776) (hby : bytes ≤ 64)
    (h : ∀ v' w', Row w' X e v' (n + 1) (xs ++ [u]) → (w.alloc (.cells #[u] e)).grownBy w' v.ownBlock → (v'.ownBlock = v.ownBlock ∨ v'.ownBlock = some (w.heap.size + 1)) → wpList P ops Q rest (a.put o.dst v') w') : wpList P ops Q (o :: rest) a (w.alloc (.cells #[u] e)) :=
  wpList_wanted hgd fun _ hK => wp_rowpush s x t ho hT w X v n xs u hs hown hx h1 hX hlen hby fun v' w' h2 h3 h4 => hK _ _ (h v' w' h2 h3 h4)
/-- 'x = append(x, us...)', us shown. -/
theorem wpList_rowmore (hgd : Region.wanted o (yielded ops a.tmps) = true) (s x : Operand) (t : TypeId) (ho : o.op = .call { callee := .builtin .append, args := #[s, x], argTypes := #[t, t] }) {e : TypeId} {bytes : Nat} (hT : RowT P t e 1 bytes)
    (w : World) (X : Nat → Prop) (v : Value) (n : Nat) (xs us : List Value) (hs : a.eval s = v) (hown : Row w X e v n xs) (U : Nat) (A : Option Addr) (m c : Nat) (hx : a.eval x = .slice A m c) (hsh : Sh w U A m us) (h1 : ∀ u ∈ us, u.oneCell' = true) (hX : ∀ b, X b → b < w.heap.size)
    (hlen : n + m ≤ 1099511627776) (hby : bytes ≤ 64)
    (h : ∀ v' w', Row w' X e v' (n + m) (xs ++ us) → w.grownBy w' v.ownBlock → (v'.ownBlock = v.ownBlock ∨ v'.ownBlock = some w.heap.size) → wpList P ops Q rest (a.put o.dst v') w') : wpList P ops Q (o :: rest) a w := by
  obtain ⟨ht, i, z, hi, hz, hsize, hbytes, hzs, hpos⟩ := hT
  have hbb : (n + m) * bytes ≤ 140737488355328 := Nat.le_trans (Nat.mul_le_mul hlen hby) (by decide)
  have hful : ∀ ad : Addr, (∀ k u, us[k]? = some u → w.cell? (ad.add k) = some u) → a.eval x = .slice (some ad) m c → wpList P ops Q (o :: rest) a w := by
    intro ad hc hx'
    refine wpList_wanted hgd fun K hK => ?_
    obtain ⟨v', w', hr, h2, h3, _, h5⟩ := run_append_own_at (P := P) w 0 t o.type e i z 1 bytes ht hi hz hsize hbytes hzs hpos v n xs hown.1 ad m c us (by have := hsh.len; omega) hc h1 (by unfold maxLen; omega) hbb (Nat.zero_le _)
    unfold Oper.wp execOp
    simp only [ho, resolve, invoke, builtin, Sem.run_bind, Sem.run_pure, Result.andThen_ok, List.map_toArray, List.map_cons, List.map_nil, hs, hx', hr]
    refine hK _ _ (h v' w' ⟨h2, fun j hj => ?_⟩ h3 h5)
    rcases h5 with h5 | h5
    · exact hown.2 j (by rw [← h5]; exact hj)
    · intro hXj
      have := hX j hXj
      rw [h5] at hj
      simp at hj
      omega
  rcases Nat.eq_zero_or_pos m with h0 | h0
  · subst h0
    have hn : us = [] := List.eq_nil_of_length_eq_zero hsh.len
    subst hn
    rcases A with _ | ad
    · refine wpList_wanted hgd fun K hK => ?_
      have hrun : (Builtin.append_ #[t, t] o.type #[v, .slice none 0 c]).run P w = .ok v w := by
        rcases hown.1.2 with ⟨rfl, rfl⟩ | ⟨g, cap, cur, rfl, _, _, hnc, _⟩
        · simp [Builtin.append_, run_underlying ht, sizeOf, typeInfo, hi, Builtin.lenOf, Builtin.firstCells]
        · simp [Builtin.append_, run_underlying ht, sizeOf, typeInfo, hi, Builtin.lenOf, Builtin.firstCells, hnc, storeCells]
      unfold Oper.wp
      simp [execOp, ho, resolve, invoke, builtin, hs, hx, hrun, Result.andThen]
      exact hK _ _ (h v w (by simpa using hown) (grown_refl _ _) (.inl rfl))
    · exact hful ad (by simp) hx
  · obtain ⟨b, off, rfl, _, hc⟩ := hsh.2 h0
    refine hful ⟨b, off, none⟩ (fun k u hu => ?_) hx
    rw [Addr.add_lit]
    exact hc k u hu
end

theorem rowT : RowT Try.prog 54 95 1 8 := RowT.mk (z := .nilFunc) Try.underlying54 (by kernel_rfl) rfl (by omega)
theorem rowFl : RowT Try.prog 53 62 1 8 := RowT.mk (z := .pointer none) Try.underlying53 (by kernel_rfl) rfl (by omega)

/-! ### the turns' closures -/
theorem create1_any (nm p q b : Nat) (s : ByteArray) (N : NL) (w : World) (h : NamesAt w nm N) (hp : Blk w p 62 [ptrTo b]) (hq : Blk w q 9 [.string s]) (hs : s.size ≤ maxLen) (hn : N.length ≤ 1000000) :
    Calls Try.prog 47 #[.map (some nm), ptrTo p, ptrTo q] w fun e w' => e = .returned (.tuple #[]) ∧ NamesAt w' nm (nput s.data.toList b N) ∧ w.grownBy w' (some nm) := by
  have cp : w.cell? ⟨p, 0, none⟩ = some (ptrTo b) := hp.cell 0
  have cq : w.cell? ⟨q, 0, none⟩ = some (.string s) := hq.cell 0
  have hlen : N.length < maxLen := by unfold maxLen; omega
  unfold ptrTo at *
  go_enter Try.func47, Try.ntmps47
  go_wp2_with (first
    | (at_mapUpdate; refine wpList_put _ rfl _ _ _ rfl rfl h hlen rfl hs rfl ?_; intro w1 h1 hg1)
    | go_in)
  first | go_ret | go_end0
  exact ⟨rfl, h1, hg1⟩
theorem rename1_any (nm p q b : Nat) (s r : ByteArray) (N : NL) (w : World) (h : NamesAt w nm N) (hp : Blk w p 9 [.string s]) (hq : Blk w q 9 [.string r]) (hs : s.size ≤ maxLen) (hr : r.size ≤ maxLen) (hb : nat? s.data.toList N = some b) (hn : N.length ≤ 1000000) :
    Calls Try.prog 60 #[.map (some nm), ptrTo p, ptrTo q] w fun e w' => e = .returned (.tuple #[]) ∧ NamesAt w' nm (nput r.data.toList b (ndel s.data.toList N)) ∧ w.grownBy w' (some nm) := by
  have hpn := h.ne_blk hp
  have hqn := h.ne_blk hq
  have cp : w.cell? ⟨p, 0, none⟩ = some (.string s) := hp.cell 0
  have cq : w.cell? ⟨q, 0, none⟩ = some (.string r) := hq.cell 0
  have HL := Lib.hid (show ptrOf (nat? s.data.toList N) = ptrTo b by rw [hb]; rfl)
  have hlen : (ndel s.data.toList N).length < maxLen := by
    have := len_ndel_le s.data.toList N
    unfold maxLen
    omega
  have K := Lib.hid (fun w1 (hg : w.grownBy w1 (some nm)) => ((hp.keep hg (by simpa using hpn)).cell 0 : w1.cell? ⟨p, 0, none⟩ = some (.string s)))
  have K2 := Lib.hid (fun w1 (hg : w.grownBy w1 (some nm)) => ((hq.keep hg (by simpa using hqn)).cell 0 : w1.cell? ⟨q, 0, none⟩ = some (.string r)))
  clear hpn hqn hb
  unfold ptrTo
  go_enter Try.func60, Try.ntmps60
  go_wp2_with (first
    | (at_lookup; refine wpList_look _ rfl _ _ rfl rfl h rfl hs ?_; rw [HL.out])
    | (at_delete; refine wpList_del _ rfl _ _ rfl rfl h rfl hs ?_; intro w1 h1 hg1; have c1 := K.out w1 hg1; have c2 := K2.out w1 hg1)
    | (at_mapUpdate; refine wpList_put _ rfl _ _ _ rfl rfl h1 hlen rfl hr rfl ?_; intro w2 h2 hg2)
    | go_in)
  first | go_ret | go_end0
  exact ⟨rfl, h2, grown_trans hg1 hg2⟩
theorem remove1_any (nm p : Nat) (s : ByteArray) (N : NL) (w : World) (h : NamesAt w nm N) (hp : Blk w p 9 [.string s]) (hs : s.size ≤ maxLen) :
    Calls Try.prog 49 #[.map (some nm), ptrTo p] w fun e w' => e = .returned (.tuple #[]) ∧ NamesAt w' nm (ndel s.data.toList N) ∧ w.grownBy w' (some nm) := by
  have cp : w.cell? ⟨p, 0, none⟩ = some (.string s) := hp.cell 0
  unfold ptrTo
  go_enter Try.func49, Try.ntmps49
  go_wp2_with (first
    | (at_delete; refine wpList_del _ rfl _ _ rfl rfl h rfl hs ?_; intro w1 h1 hg1)
    | go_in)
  first | go_ret | go_end0
  exact ⟨rfl, h1, hg1⟩
/-- A turn's closure does the turn. -/
def Turns (w : World) (nm : Nat) (N : NL) (t : Tn) (e : Ending) (w' : World) : Prop := e = .returned (.tuple #[]) ∧ NamesAt w' nm (t.act N) ∧ w.grownBy w' (some nm)
end Go.Proofs.Ytekhockdgglndaa
namespace Go.Proofs.Ytekhockdgglndaa
set_option linter.unusedVariables false
set_option linter.unusedSimpArgs false
open Go.RowKit Go.Maps

def St.turned (S : St) (t : Tn) : St := { S with names := t.act S.names, waits := S.waits ++ [t] }
section
variable {w : World} {X : Nat → Prop} {g : Nat} {L : Lay} {S : St}
/-- Behind the closure. -/
theorem do_step (h : DAt w X g L S) (N : NL) (w1 : World) (h1 : NamesAt w1 L.nm N) (hg1 : w.grownBy w1 (some L.nm)) :
    ∃ vs, DAt w1 X g L { S with names := N } ∧ Row w1 X 95 L.wr S.waits.length vs ∧ (∀ b, X b → b < w1.heap.size) ∧ w1.cell? ⟨g, 4, none⟩ = some L.wr := by
  have D := h.names hg1 h1
  obtain ⟨vs, hr, _⟩ := D.wr
  exact ⟨vs, D, hr, D.old, D.cells.cell 4⟩
theorem do_cell {S1 : St} {w1 w2 : World} {n : Nat} {vs : List Value} {u : Value} (h : DAt w1 X g L S1) (hr : Row w1 X 95 L.wr n vs) (hg2 : (w1.alloc (.cells #[u] 95)).grownBy w2 L.wr.ownBlock) : w2.cell? ⟨g, 4, none⟩ = some L.wr ∧ w2.frozen? ⟨g, 4, none⟩ = false := by
  have hb := (h.alloc (.cells #[u] 95)).cells.keep hg2 (fun e => hr.ne_blk h.cells (by decide) e)
  exact ⟨hb.cell 4, hb.nf 4⟩
/-- Behind all of it. -/
theorem do_close (h : DAt w X g L S) {v : Value} {t : Tn} (ht : TurnAt w X L.fr v t) (w1 w2 : World) (v2 : Value) (vs : List Value) (ht' : TurnAt w X L.fr v t) (D1 : DAt w1 X g L { S with names := t.act S.names }) (hg1 : w.grownBy w1 (some L.nm)) (hrow : Row w1 X 95 L.wr S.waits.length vs)
    (hrow2 : Row w2 X 95 v2 (S.waits.length + 1) (vs ++ [v])) (hg2 : (w1.alloc (.cells #[v] 95)).grownBy w2 L.wr.ownBlock) (hl2 : v2.ownBlock = L.wr.ownBlock ∨ v2.ownBlock = some (w1.heap.size + 1)) :
    (∃ L', DAt (w2.setCell ⟨g, 4, none⟩ v2) X g L' (S.turned t)) ∧ Keeps X w (w2.setCell ⟨g, 4, none⟩ v2) := by
  have hga : w1.grownBy w2 L.wr.ownBlock := grown_trans (World.grownBy_alloc w1 _ _) hg2
  have hk : ∀ k, k < w1.heap.size → k ≠ g → L.wr.ownBlock ≠ some k → (w2.setCell ⟨g, 4, none⟩ v2).heap[k]? = w1.heap[k]? := fun k h1 h2 h3 => (Below.heap_setCell _ _ _ _ h2).trans (hga.block k h1 (fun e => h3 e.symm))
  have hb2 : Blk w2 g 61 (cellsOf L { S with names := t.act S.names }) := D1.cells.keep hga (fun e => hrow.ne_blk D1.cells (by decide) e)
  obtain ⟨vs', hr', ht1⟩ := D1.wr
  have hvs : vs' = vs := by
    have e1 := hr'.1
    have e2 := hrow.1
    rcases e1.2 with ⟨q1, q2⟩ | ⟨a, b, c, q1, _, q2, _, _, _, q3⟩
    · have a1 := hr'.len
      have a2 := hrow.len
      rw [q2] at a1 a2
      rw [List.eq_nil_of_length_eq_zero a1, List.eq_nil_of_length_eq_zero a2]
    · rcases e2.2 with ⟨p1, p2⟩ | ⟨a', b', c', p1, _, p2, _, _, _, p3⟩
      · have a1 := hr'.len
        have a2 := hrow.len
        rw [p2] at a1 a2
        rw [List.eq_nil_of_length_eq_zero a1, List.eq_nil_of_length_eq_zero a2]
      · rw [p1] at q1
        injection q1 with q1
        injection q1 with q1
        injection q1 with q1
        subst q1
        rw [p2] at q2
        injection q2 with q2
        injection q2 with q2
        subst q2
        rw [← q3, ← p3]
  subst hvs
  have hrow3 : Row (w2.setCell ⟨g, 4, none⟩ v2) X 95 v2 (S.waits.length + 1) (vs' ++ [v]) := hrow2.stay fun j hj => Below.heap_setCell _ _ _ _ (fun e => hrow2.ne_blk hb2 (by decide) (by rw [hj]; simp at e; rw [e]))
  have htn : TurnAt w1 X L.fr v t := ht.stay (fun p xs hb hX => ⟨hg1.block _ hb.lt (fun e => h.nm.ne_blk hb (by injection e with e; exact e.symm)), hX⟩) (fun p xs hb hX hne => ⟨hg1.block _ hb.lt (fun e => h.nm.ne_blk hb (by injection e with e; exact e.symm)), hX, hne⟩)
  refine ⟨⟨{ L with wr := v2 }, D1.turns (ts' := S.waits ++ [t]) (by have := hga.size; simpa using this) hk (hb2.set 4 v2) ⟨vs' ++ [v], by simpa using hrow3, ?_⟩⟩, ?_⟩
  · exact (ht1.map fun v' t' h' => D1.closures hk h' hrow).snoc (D1.closures hk htn hrow)
  · exact (((Keeps.refl X w).grown hg1 h.old (fun k hk => by cases hk; exact h.nmX)).grown hga D1.old (fun k hk hX => hrow.2 k hk hX)).grown (grown_set w2 g 4 v2) (fun b hb => Nat.lt_of_lt_of_le (D1.old b hb) hga.size) (fun k hk => by cases hk; exact h.gX)

set_option maxRecDepth 100000 in
set_option maxHeartbeats 1600000 in
theorem do_any (h : DAt w X g L S) {v : Value} {t : Tn} (ht : TurnAt w X L.fr v t) (hok : t.ok S.names) (hn : S.names.length ≤ 1000000) (hw : S.waits.length ≤ 1000000) :
    Calls Try.prog 46 #[ptrTo g, v] w fun e w' => e = .returned (.tuple #[]) ∧ (∃ L', DAt w' X g L' (S.turned t)) ∧ Keeps X w w' := by
  have heq := fun w (r : Option Nat) => run_eql_map_nil (P := Try.prog) w 52 9 62 r underlyingM
  cases t with
  | create k b =>
    obtain ⟨p, q, s, hv, ⟨hp, _⟩, ⟨hq, _⟩, hk, hs⟩ := id ht
    have c2 : w.cell? ⟨g, 2, none⟩ = some (.map (some L.nm)) := h.cells.cell 2
    have CL := Lib.hid (do_close h ht)
    have HT := Lib.hid ht
    subst hv
    have HC := Lib.hid (show Calls Try.prog 47 #[.map (some L.nm), ptrTo p, ptrTo q] w (Turns w L.nm S.names (.create k b)) by rw [← hk]; exact create1_any L.nm p q b s S.names w h.nm hp hq hs hn)
    have HS := Lib.hid (do_step h)
    have hw1 : S.waits.length ≤ 1099511627776 := by omega
    clear h ht hp hq hk hs
    unfold ptrTo at *
    go_enter Try.func46, Try.ntmps46
    go_wp2_with (first
      | (go_at_call 47; refine HC.out.mono ?_; rintro e w1 ⟨rfl, h1, hg1⟩; obtain ⟨vs, D1, hrow, hX, c4⟩ := HS.out _ w1 h1 hg1; have D1 := Lib.hid D1)
      | (at_builtin; refine wpList_rowpush rfl (.tmp 23) (.tmp 25) 54 rfl rowT w1 X _ _ vs _ rfl hrow rfl rfl hX hw1 (by omega) ?_; intro v2 w2 hrow2 hg2 hl2; obtain ⟨A2, cc2, rfl, _, _⟩ := hrow2.form; obtain ⟨k4, f4⟩ := do_cell D1.out hrow hg2; have HL := Lib.hid hl2; clear hl2)
      | go_in)
    first | go_ret | go_end0
    exact ⟨rfl, CL.out w1 w2 _ vs HT.out D1.out hg1 hrow hrow2 hg2 HL.out⟩
  | rename k m =>
    obtain ⟨p, q, s, r, hv, ⟨hp, _⟩, ⟨hq, _⟩, hk, hs, hm, hr⟩ := id ht
    obtain ⟨b, hb⟩ := hok
    have c2 : w.cell? ⟨g, 2, none⟩ = some (.map (some L.nm)) := h.cells.cell 2
    have CL := Lib.hid (do_close h ht)
    have HT := Lib.hid ht
    subst hv
    have HC := Lib.hid (by
      have ea : Tn.act (.rename k m) S.names = nput m b (ndel k S.names) := (by simp only [Tn.act, hb])
      show Calls Try.prog 60 #[.map (some L.nm), ptrTo p, ptrTo q] w (Turns w L.nm S.names (.rename k m))
      unfold Turns
      rw [ea, ← hk, ← hm]
      exact rename1_any L.nm p q b s r S.names w h.nm hp hq hs hr (by rw [hk]; exact hb) hn)
    have HS := Lib.hid (do_step h)
    have hw1 : S.waits.length ≤ 1099511627776 := by omega
    clear h ht hp hq hk hs hm hr hb
    unfold ptrTo at *
    go_enter Try.func46, Try.ntmps46
    go_wp2_with (first
      | (go_at_call 60; refine HC.out.mono ?_; rintro e w1 ⟨rfl, h1, hg1⟩; obtain ⟨vs, D1, hrow, hX, c4⟩ := HS.out _ w1 h1 hg1; have D1 := Lib.hid D1)
      | (at_builtin; refine wpList_rowpush rfl (.tmp 23) (.tmp 25) 54 rfl rowT w1 X _ _ vs _ rfl hrow rfl rfl hX hw1 (by omega) ?_; intro v2 w2 hrow2 hg2 hl2; obtain ⟨A2, cc2, rfl, _, _⟩ := hrow2.form; obtain ⟨k4, f4⟩ := do_cell D1.out hrow hg2; have HL := Lib.hid hl2; clear hl2)
      | go_in)
    first | go_ret | go_end0
    exact ⟨rfl, CL.out w1 w2 _ vs HT.out D1.out hg1 hrow hrow2 hg2 HL.out⟩
  | remove k =>
    obtain ⟨p, s, hv, ⟨hp, _⟩, hk, hs⟩ := id ht
    have c2 : w.cell? ⟨g, 2, none⟩ = some (.map (some L.nm)) := h.cells.cell 2
    have CL := Lib.hid (do_close h ht)
    have HT := Lib.hid ht
    subst hv
    have HC := Lib.hid (show Calls Try.prog 49 #[.map (some L.nm), ptrTo p] w (Turns w L.nm S.names (.remove k)) by rw [← hk]; exact remove1_any L.nm p s S.names w h.nm hp hs)
    have HS := Lib.hid (do_step h)
    have hw1 : S.waits.length ≤ 1099511627776 := by omega
    clear h ht hp hk hs
    unfold ptrTo at *
    go_enter Try.func46, Try.ntmps46
    go_wp2_with (first
      | (go_at_call 49; refine HC.out.mono ?_; rintro e w1 ⟨rfl, h1, hg1⟩; obtain ⟨vs, D1, hrow, hX, c4⟩ := HS.out _ w1 h1 hg1; have D1 := Lib.hid D1)
      | (at_builtin; refine wpList_rowpush rfl (.tmp 23) (.tmp 25) 54 rfl rowT w1 X _ _ vs _ rfl hrow rfl rfl hX hw1 (by omega) ?_; intro v2 w2 hrow2 hg2 hl2; obtain ⟨A2, cc2, rfl, _, _⟩ := hrow2.form; obtain ⟨k4, f4⟩ := do_cell D1.out hrow hg2; have HL := Lib.hid hl2; clear hl2)
      | go_in)
    first | go_ret | go_end0
    exact ⟨rfl, CL.out w1 w2 _ vs HT.out D1.out hg1 hrow hrow2 hg2 HL.out⟩
end
end Go.Proofs.Ytekhockdgglndaa
