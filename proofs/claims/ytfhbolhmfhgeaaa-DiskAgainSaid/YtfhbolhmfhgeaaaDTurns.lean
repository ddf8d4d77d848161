/-
  WHAT STAYS OF A DISK, AND WHAT IT BECOMES, WHERE ONE PART OF IT TURNS.
-/
import Derived.Test.YtfhbolhmfhgeaaaDState
namespace Go.Proofs.Ytfhbolhmfhgeaaa
set_option linter.unusedVariables false
set_option linter.unusedSimpArgs false
open Go.RowKit Go.Maps

section
variable {w w' : World} {X : Nat → Prop} {g : Nat} {L : Lay} {S : St}

/-- All blocks of the disk stay, and none lies in Y: it is a disk outside Y. -/
theorem DAt.same (h : DAt w X g L S) {Y : Nat → Prop} (hk : ∀ k, k < w.heap.size → ¬ X k → w'.heap[k]? = w.heap[k]? ∧ ¬ Y k) (hY : ∀ b, Y b → b < w'.heap.size) : DAt w' Y g L S := by
  obtain ⟨vs, h1, h2⟩ := h.wr
  have rowY : ∀ {t : TypeId} {v : Value} {n : Nat} {xs : List Value}, Row w X t v n xs → Row w' Y t v n xs := fun r => by
    have := r.stay (w' := w') fun j hj => (hk j (r.lt hj) (r.2 j hj)).1
    exact ⟨this.1, fun j hj => (hk j (r.lt hj) (r.2 j hj)).2⟩
  refine ⟨(hk g h.cells.lt h.gX).2, hY, h.cells.stay (hk g h.cells.lt h.gX).1, rowY h.fr, h.nm.stay (hk _ h.nm.lt h.nmX).1, (hk _ h.nm.lt h.nmX).2, h.sm.stay (hk _ h.sm.lt h.smX).1, (hk _ h.sm.lt h.smX).2, h.nsm, ⟨vs, rowY h1, ?_⟩, fun f hf => ?_, h.nd⟩
  · exact h2.map fun v t ht => ht.stay (fun p xs hb hX => hk p hb.lt hX) (fun p xs hb hX hne => ⟨(hk p hb.lt hX).1, (hk p hb.lt hX).2, hne⟩)
  · have := h.fo f hf
    exact ⟨this.blk.stay (hk _ this.blk.lt this.out).1, (hk _ this.blk.lt this.out).2, rowY this.row⟩
/-- Something else turned: blocks of X, and new ones. -/
theorem DAt.foreign (h : DAt w X g L S) {row : Option Nat} (hg : w.grownBy w' row) (hr : ∀ j, row = some j → X j) : DAt w' X g L S :=
  h.same (fun k hk hX => ⟨hg.block k hk (fun e => hX (hr k e.symm)), hX⟩) (fun b hb => Nat.lt_of_lt_of_le (h.old b hb) hg.size)
theorem DAt.quiet (h : DAt w X g L S) (hq : Quiet w w') : DAt w' X g L S := h.foreign (hq.grown none) (fun j e => by cases e)
theorem DAt.drewN (h : DAt w X g L S) (q : Nat) : DAt (w.drewN q) X g L S := h.quiet ⟨q, rfl⟩
theorem DAt.alloc (h : DAt w X g L S) (o : Obj) : DAt (w.alloc o) X g L S := h.foreign (World.grownBy_alloc w o none) (fun j e => by cases e)
/-- .. and the new ones are none of the disk's. -/
theorem DAt.wider (h : DAt w X g L S) {row : Option Nat} (hg : w.grownBy w' row) (hr : ∀ j, row = some j → X j) : DAt w' (fun b => X b ∨ (w.heap.size ≤ b ∧ b < w'.heap.size)) g L S :=
  h.same (fun k hk hX => ⟨hg.block k hk (fun e => hX (hr k e.symm)), fun hY => hY.elim hX (fun h2 => by omega)⟩)
    (fun b hb => hb.elim (fun h1 => Nat.lt_of_lt_of_le (h.old b h1) hg.size) (fun h1 => h1.2))
theorem DAt.fewer (h : DAt w X g L S) {Y : Nat → Prop} (hY : ∀ b, Y b → X b) : DAt w Y g L S :=
  h.same (fun k hk hX => ⟨rfl, fun hy => hX (hY k hy)⟩) (fun b hb => h.old b (hY b hb))

theorem DAt.c0 (h : DAt w X g L S) : w.cell? ⟨g, 0, none⟩ = some (.int .i64 S.cap) := h.cells.cell 0
theorem DAt.c1 (h : DAt w X g L S) : w.cell? ⟨g, 1, none⟩ = some L.fr := h.cells.cell 1
theorem DAt.c2 (h : DAt w X g L S) : w.cell? ⟨g, 2, none⟩ = some (.map (some L.nm)) := h.cells.cell 2
theorem DAt.c3 (h : DAt w X g L S) : w.cell? ⟨g, 3, none⟩ = some (.map (some L.sm)) := h.cells.cell 3
theorem DAt.c4 (h : DAt w X g L S) : w.cell? ⟨g, 4, none⟩ = some L.wr := h.cells.cell 4
theorem DAt.c9 (h : DAt w X g L S) : w.cell? ⟨g, 9, none⟩ = some (.bool S.dead) := h.cells.cell 9
theorem FileAt.c0 {v : Value} {f : Fl} (h : FileAt w X v f) : w.cell? ⟨f.blk, 0, none⟩ = some v := h.blk.cell 0
theorem FileAt.c1 {v : Value} {f : Fl} (h : FileAt w X v f) : w.cell? ⟨f.blk, 1, none⟩ = some (.int .i64 (f.unsure : Int)) := h.blk.cell 1
theorem FileAt.c2 {v : Value} {f : Fl} (h : FileAt w X v f) : w.cell? ⟨f.blk, 2, none⟩ = some (.bool f.named) := h.blk.cell 2
theorem DAt.file_ne (h : DAt w X g L S) {f : Fl} (hf : f ∈ S.fs) : f.blk ≠ g := (h.fo f hf).blk.ne h.cells (by decide)

/-- A field of the disk is set that leads to no other block. -/
theorem DAt.scal (h : DAt w X g L S) {S' : St} (hsz : w.heap.size ≤ w'.heap.size) (hk : ∀ k, k < w.heap.size → k ≠ g → w'.heap[k]? = w.heap[k]?) (hc : Blk w' g 77 (cellsOf L S'))
    (e1 : S'.fs = S.fs) (e2 : S'.names = S.names) (e3 : S'.sure = S.sure) (e4 : S'.waits = S.waits) : DAt w' X g L S' := by
  obtain ⟨vs, h1, h2⟩ := h.wr
  have rowg : ∀ {t : TypeId} {v : Value} {n : Nat} {xs : List Value}, t ≠ 77 → Row w X t v n xs → Row w' X t v n xs := fun ht r =>
    r.stay fun j hj => hk j (r.lt hj) (fun e => r.ne_blk h.cells ht (by rw [hj, e]))
  refine ⟨h.gX, fun b hb => Nat.lt_of_lt_of_le (h.old b hb) hsz, hc, by rw [e1]; exact rowg (by decide) h.fr, by rw [e2]; exact h.nm.stay (hk _ h.nm.lt (h.nm.ne_blk h.cells)), h.nmX, by rw [e3]; exact h.sm.stay (hk _ h.sm.lt (h.sm.ne_blk h.cells)), h.smX, h.nsm, ⟨vs, by rw [e4]; exact rowg (by decide) h1, ?_⟩, fun f hf => ?_, by rw [e1]; exact h.nd⟩
  · rw [e4]
    exact h2.map fun v t ht => ht.stay (fun p xs hb hX => ⟨hk p hb.lt (hb.ne h.cells (by decide)), hX⟩) (fun p xs hb hX hne => ⟨hk p hb.lt (hb.ne h.cells (by decide)), hX, hne⟩)
  · rw [e1] at hf
    have := h.fo f hf
    exact ⟨this.blk.stay (hk _ this.blk.lt (h.file_ne hf)), this.out, rowg (by decide) this.row⟩
theorem DAt.setg (h : DAt w X g L S) {S' : St} (j : Nat) (v : Value) (hc : (cellsOf L S).set j v = cellsOf L S') (e1 : S'.fs = S.fs) (e2 : S'.names = S.names) (e3 : S'.sure = S.sure) (e4 : S'.waits = S.waits) : DAt (w.setCell ⟨g, j, none⟩ v) X g L S' :=
  h.scal (by simp) (fun k hk hne => Below.heap_setCell _ _ _ _ hne) (by rw [← hc]; exact h.cells.set j v) e1 e2 e3 e4

/-- A file is another one, at its block. -/
theorem DAt.file (h : DAt w X g L S) {i : Nat} {f f' : Fl} (hi : S.fs[i]? = some f) (hb : f'.blk = f.blk) {v : Value} (hsz : w.heap.size ≤ w'.heap.size)
    (hk : ∀ k, k < w.heap.size → k ≠ f.blk → (L.row f.blk).ownBlock ≠ some k → w'.heap[k]? = w.heap[k]?) (hf' : Blk w' f.blk 80 (fileCells v f')) (hr : Row w' X 5 v f'.data.length (by8 f'.data))
    (hv : ∀ j, v.ownBlock = some j → (L.row f.blk).ownBlock = some j ∨ w.heap.size ≤ j) : DAt w' X g (L.up f.blk v) { S with fs := S.fs.set i f' } := by
  obtain ⟨vs, h1, h2⟩ := h.wr
  have hm : f ∈ S.fs := List.mem_of_getElem? hi
  have hil : i < S.fs.length := (List.getElem?_eq_some_iff.1 hi).1
  have hfa := h.fo f hm
  have kb : ∀ {b : Nat} {t : TypeId} {xs : List Value}, t ≠ 80 → t ≠ 5 → Blk w b t xs → w'.heap[b]? = w.heap[b]? := fun ht1 ht2 hb' => hk _ hb'.lt (hb'.ne hfa.blk ht1) (hfa.row.ne_blk hb' ht2.symm)
  have kr : ∀ {t : TypeId} {v : Value} {n : Nat} {xs : List Value}, t ≠ 80 → t ≠ 5 → Row w X t v n xs → Row w' X t v n xs := fun ht1 ht2 r =>
    r.stay fun j hj => hk j (r.lt hj) (fun e => r.ne_blk hfa.blk ht1 (by rw [hj, e])) (fun e => hfa.row.ne_row r ht2.symm hj e)
  have hap : ∀ f2 ∈ S.fs, f2.blk ≠ f.blk → Apart L f f2 := fun f2 hf2 hne => by
    have hp := h.nd
    obtain ⟨j, hj⟩ := List.getElem?_of_mem hf2
    rw [List.pairwise_iff_getElem] at hp
    obtain ⟨hj1, hj2⟩ := List.getElem?_eq_some_iff.1 hj
    obtain ⟨hi1, hi2⟩ := List.getElem?_eq_some_iff.1 hi
    rcases Nat.lt_trichotomy i j with hlt | heq | hgt
    · have := hp i j hi1 hj1 hlt
      rwa [hi2, hj2] at this
    · subst heq
      rw [hi] at hj
      cases hj
      exact absurd rfl hne
    · have := hp j i hj1 hi1 hgt
      rw [hi2, hj2] at this
      exact this.symm
  have key : ∀ f2 ∈ S.fs.set i f', (f2 = f') ∨ (f2 ∈ S.fs ∧ f2.blk ≠ f.blk) := fun f2 hf2 => by
    obtain ⟨j, hj⟩ := List.getElem?_of_mem hf2
    by_cases e : j = i
    · subst e
      rw [List.getElem?_set_self hil] at hj
      cases hj
      exact .inl rfl
    · rw [List.getElem?_set_ne (fun e' => e e'.symm)] at hj
      refine .inr ⟨List.mem_of_getElem? hj, ?_⟩
      have hp := h.nd
      rw [List.pairwise_iff_getElem] at hp
      obtain ⟨hj1, hj2⟩ := List.getElem?_eq_some_iff.1 hj
      obtain ⟨hi1, hi2⟩ := List.getElem?_eq_some_iff.1 hi
      rcases Nat.lt_or_gt_of_ne e with hlt | hgt
      · have := (hp j i hj1 hi1 hlt).1
        rwa [hj2, hi2] at this
      · have := (hp i j hi1 hj1 hgt).1
        rw [hj2, hi2] at this
        exact this.symm
  refine ⟨h.gX, fun b hb => Nat.lt_of_lt_of_le (h.old b hb) hsz, h.cells.stay (kb (by decide) (by decide) h.cells), ?_, h.nm.stay (hk _ h.nm.lt (h.nm.ne_blk hfa.blk) (hfa.row.ne_names h.nm)), h.nmX, h.sm.stay (hk _ h.sm.lt (h.sm.ne_blk hfa.blk) (hfa.row.ne_names h.sm)), h.smX, h.nsm,
    ⟨vs, kr (by decide) (by decide) h1, ?_⟩, fun f2 hf2 => ?_, ?_⟩
  · refine (kr (by decide) (by decide) h.fr).cast (by simp) ?_
    simp only [List.map_set, hb]
    symm
    refine List.ext_getElem? fun j => ?_
    by_cases e : j = i
    · subst e
      rw [List.getElem?_set_self (by simpa using hil), List.getElem?_map, hi]
      rfl
    · rw [List.getElem?_set_ne (fun e' => e e'.symm)]
  · exact h2.map fun v t ht => ht.stay (fun p xs hb hX => ⟨kb (by decide) (by decide) hb, hX⟩) (fun p xs hb hX hne => ⟨kb (by decide) (by decide) hb, hX, hne⟩)
  · rcases key f2 hf2 with rfl | ⟨h3, h4⟩
    · refine ⟨by rw [hb, Lay.up_same]; exact hf', by rw [hb]; exact hfa.out, by rw [hb, Lay.up_same]; exact hr⟩
    · rw [Lay.up_other _ _ h4]
      have h5 := h.fo f2 h3
      have h6 := hap f2 h3 h4
      refine h5.stay (hk _ h5.blk.lt h4 (hfa.row.ne_blk h5.blk (by decide))) fun j hj => hk j (h5.row.lt hj) (fun e => h5.row.ne_blk hfa.blk (by decide) (by rw [hj, e])) (fun e => h6.2 j e hj)
  · -- apart
    have hup : ∀ f2 ∈ S.fs, f2.blk ≠ f.blk → Apart (L.up f.blk v) f' f2 := fun f2 h3 h4 => by
      have h6 := hap f2 h3 h4
      refine ⟨by rw [hb]; exact h4.symm, fun j hj => ?_⟩
      rw [hb, Lay.up_same] at hj
      rw [Lay.up_other _ _ h4]
      rcases hv j hj with h7 | h7
      · exact h6.2 j h7
      · intro e
        have := (h.fo f2 h3).row.lt e
        omega
    have hp := h.nd
    rw [List.pairwise_iff_getElem] at hp ⊢
    intro a b ha hb2 hab
    simp only [List.length_set] at ha hb2
    rw [List.getElem_set, List.getElem_set]
    have hne : ∀ c (hc : c < S.fs.length), c ≠ i → S.fs[c].blk ≠ f.blk := fun c hc hci => by
      obtain ⟨hi1, hi2⟩ := List.getElem?_eq_some_iff.1 hi
      rcases Nat.lt_or_gt_of_ne hci with hlt | hgt
      · have := (hp c i hc hi1 hlt).1
        rwa [hi2] at this
      · have := (hp i c hi1 hc hgt).1
        rw [hi2] at this
        exact this.symm
    by_cases ea : i = a
    · rw [if_pos ea, if_neg (by omega)]
      exact hup _ (List.getElem_mem _) (hne b hb2 (by omega))
    · rw [if_neg ea]
      by_cases eb : i = b
      · rw [if_pos eb]
        exact (hup _ (List.getElem_mem _) (hne a ha (by omega))).symm
      · rw [if_neg eb]
        have := hp a b ha hb2 hab
        refine ⟨this.1, ?_⟩
        rw [Lay.up_other _ _ (hne a ha (by omega)), Lay.up_other _ _ (hne b hb2 (by omega))]
        exact this.2

/-- The row of files is another one. -/
theorem DAt.files (h : DAt w X g L S) {fs' : List Fl} {v : Value} (hsz : w.heap.size ≤ w'.heap.size) (hk : ∀ k, k < w.heap.size → k ≠ g → L.fr.ownBlock ≠ some k → w'.heap[k]? = w.heap[k]?)
    (hc : Blk w' g 77 (cellsOf { L with fr := v } { S with fs := fs' })) (hr : Row w' X 78 v fs'.length (fs'.map fun f => ptrTo f.blk)) (hv : ∀ j, v.ownBlock = some j → L.fr.ownBlock = some j ∨ w.heap.size ≤ j)
    (hfo : ∀ f ∈ fs', f ∈ S.fs ∨ FileAt w' X (L.row f.blk) f) (hnd : fs'.Pairwise (Apart L)) : DAt w' X g { L with fr := v } { S with fs := fs' } := by
  obtain ⟨vs, h1, h2⟩ := h.wr
  have kr : ∀ {t : TypeId} {v : Value} {n : Nat} {xs : List Value}, t ≠ 77 → t ≠ 78 → Row w X t v n xs → Row w' X t v n xs := fun ht1 ht2 r =>
    r.stay fun j hj => hk j (r.lt hj) (fun e => r.ne_blk h.cells ht1 (by rw [hj, e])) (fun e => h.fr.ne_row r ht2.symm hj e)
  refine ⟨h.gX, fun b hb => Nat.lt_of_lt_of_le (h.old b hb) hsz, hc, hr, h.nm.stay (hk _ h.nm.lt (h.nm.ne_blk h.cells) (h.fr.ne_names h.nm)), h.nmX, h.sm.stay (hk _ h.sm.lt (h.sm.ne_blk h.cells) (h.fr.ne_names h.sm)), h.smX, h.nsm, ⟨vs, kr (by decide) (by decide) h1, ?_⟩, fun f hf => ?_, hnd⟩
  · exact h2.map fun v t ht => ht.stay (fun p xs hb hX => ⟨hk _ hb.lt (hb.ne h.cells (by decide)) (h.fr.ne_blk hb (by decide)), hX⟩) (fun p xs hb hX hne => ⟨hk _ hb.lt (hb.ne h.cells (by decide)) hne, hX, fun e => by
      rcases hv p e with h3 | h3
      · exact hne h3
      · have := hb.lt
        omega⟩)
  · rcases hfo f hf with h3 | h3
    · have := h.fo f h3
      exact ⟨this.blk.stay (hk _ this.blk.lt (h.file_ne h3) (h.fr.ne_blk this.blk (by decide))), this.out, kr (by decide) (by decide) this.row⟩
    · exact h3

/-- The row of turns is another one. -/
theorem DAt.turns (h : DAt w X g L S) {ts' : List Tn} {v : Value} (hsz : w.heap.size ≤ w'.heap.size) (hk : ∀ k, k < w.heap.size → k ≠ g → L.wr.ownBlock ≠ some k → w'.heap[k]? = w.heap[k]?)
    (hc : Blk w' g 77 (cellsOf { L with wr := v } { S with waits := ts' })) (hr : ∃ vs, Row w' X 99 v ts'.length vs ∧ TurnsAt w' X L.fr vs ts') : DAt w' X g { L with wr := v } { S with waits := ts' } := by
  obtain ⟨vs, h1, h2⟩ := h.wr
  have kr : ∀ {t : TypeId} {v : Value} {n : Nat} {xs : List Value}, t ≠ 77 → t ≠ 99 → Row w X t v n xs → Row w' X t v n xs := fun ht1 ht2 r =>
    r.stay fun j hj => hk j (r.lt hj) (fun e => r.ne_blk h.cells ht1 (by rw [hj, e])) (fun e => h1.ne_row r ht2.symm hj e)
  refine ⟨h.gX, fun b hb => Nat.lt_of_lt_of_le (h.old b hb) hsz, hc, kr (by decide) (by decide) h.fr, h.nm.stay (hk _ h.nm.lt (h.nm.ne_blk h.cells) (h1.ne_names h.nm)), h.nmX, h.sm.stay (hk _ h.sm.lt (h.sm.ne_blk h.cells) (h1.ne_names h.sm)), h.smX, h.nsm, hr, fun f hf => ?_, h.nd⟩
  have := h.fo f hf
  exact ⟨this.blk.stay (hk _ this.blk.lt (h.file_ne hf) (h1.ne_blk this.blk (by decide))), this.out, kr (by decide) (by decide) this.row⟩
/-- The closures of a row of turns, while g and the row itself turn. -/
theorem DAt.closures (h : DAt w X g L S) (hk : ∀ k, k < w.heap.size → k ≠ g → L.wr.ownBlock ≠ some k → w'.heap[k]? = w.heap[k]?) {v : Value} {t : Tn} (ht : TurnAt w X L.fr v t) {vs : List Value} (hr : Row w X 99 L.wr S.waits.length vs) : TurnAt w' X L.fr v t :=
  ht.stay (fun p xs hb hX => ⟨hk _ hb.lt (hb.ne h.cells (by decide)) (hr.ne_blk hb (by decide)), hX⟩) (fun p xs hb hX hne => ⟨hk _ hb.lt (hb.ne h.cells (by decide)) (hr.ne_blk hb (by decide)), hX, hne⟩)

/-- The map of names has other ones. -/
theorem DAt.names (h : DAt w X g L S) {N : NL} (hg : w.grownBy w' (some L.nm)) (hn : NamesAt w' L.nm N) : DAt w' X g L { S with names := N } := by
  obtain ⟨vs, h1, h2⟩ := h.wr
  have kb : ∀ {b : Nat} {t : TypeId} {xs : List Value}, Blk w b t xs → w'.heap[b]? = w.heap[b]? := fun hb => hg.block _ hb.lt (fun e => h.nm.ne_blk hb (by injection e with e; exact e.symm))
  have kr : ∀ {t : TypeId} {v : Value} {n : Nat} {xs : List Value}, Row w X t v n xs → Row w' X t v n xs := fun r => r.stay fun j hj => hg.block j (r.lt hj) (fun e => r.ne_names h.nm (by rw [hj]; exact e))
  refine ⟨h.gX, fun b hb => Nat.lt_of_lt_of_le (h.old b hb) hg.size, h.cells.stay (kb h.cells), kr h.fr, hn, h.nmX, h.sm.stay (hg.block _ h.sm.lt (fun e => h.nsm (by injection e with e; exact e.symm))), h.smX, h.nsm, ⟨vs, kr h1, ?_⟩, fun f hf => ?_, h.nd⟩
  · exact h2.map fun v t ht => ht.stay (fun p xs hb hX => ⟨kb hb, hX⟩) (fun p xs hb hX hne => ⟨kb hb, hX, hne⟩)
  · have := h.fo f hf
    exact ⟨this.blk.stay (kb this.blk), this.out, kr this.row⟩
/-- The maps are other ones. -/
theorem DAt.maps (h : DAt w X g L S) {N M : NL} {nm sm : Nat} (hsz : w.heap.size ≤ w'.heap.size) (hk : ∀ k, k < w.heap.size → k ≠ g → w'.heap[k]? = w.heap[k]?) (hc : Blk w' g 77 (cellsOf { L with nm := nm, sm := sm } { S with names := N, sure := M }))
    (hn : NamesAt w' nm N) (hnX : ¬ X nm) (hs : NamesAt w' sm M) (hsX : ¬ X sm) (hne : nm ≠ sm) : DAt w' X g { L with nm := nm, sm := sm } { S with names := N, sure := M } := by
  obtain ⟨vs, h1, h2⟩ := h.wr
  have rowg : ∀ {t : TypeId} {v : Value} {n : Nat} {xs : List Value}, t ≠ 77 → Row w X t v n xs → Row w' X t v n xs := fun ht r =>
    r.stay fun j hj => hk j (r.lt hj) (fun e => r.ne_blk h.cells ht (by rw [hj, e]))
  refine ⟨h.gX, fun b hb => Nat.lt_of_lt_of_le (h.old b hb) hsz, hc, rowg (by decide) h.fr, hn, hnX, hs, hsX, hne, ⟨vs, rowg (by decide) h1, ?_⟩, fun f hf => ?_, h.nd⟩
  · exact h2.map fun v t ht => ht.stay (fun p xs hb hX => ⟨hk p hb.lt (hb.ne h.cells (by decide)), hX⟩) (fun p xs hb hX hne => ⟨hk p hb.lt (hb.ne h.cells (by decide)), hX, hne⟩)
  · have := h.fo f hf
    exact ⟨this.blk.stay (hk _ this.blk.lt (h.file_ne hf)), this.out, rowg (by decide) this.row⟩
end
end Go.Proofs.Ytfhbolhmfhgeaaa
