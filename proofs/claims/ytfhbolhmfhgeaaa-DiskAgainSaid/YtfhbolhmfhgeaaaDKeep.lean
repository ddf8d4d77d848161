/-
  CONTRACT OF keepNames.
-/
import Derived.Test.YtfhbolhmfhgeaaaDCreate2
namespace Go.Proofs.Ytfhbolhmfhgeaaa
set_option linter.unusedVariables false
set_option linter.unusedSimpArgs false
open Go.RowKit Go.Maps

theorem Lay.up_self (L : Lay) (b : Nat) : L.up b (L.row b) = L := by
  cases L
  simp only [Lay.up, Lay.mk.injEq, true_and]
  funext c
  split
  · rename_i h; rw [h]
  · rfl
def setN (v : Bool) (f : Fl) : Fl := { f with named := v }
def unN (k : Nat) (fs : List Fl) : List Fl := (fs.take k).map (setN false) ++ fs.drop k
theorem unN_len (k : Nat) (fs : List Fl) : (unN k fs).length = fs.length := by simp [unN]; omega
theorem unN_at {k : Nat} {fs : List Fl} (hk : k < fs.length) : (unN k fs)[k]? = fs[k]? := by
  unfold unN
  rw [List.getElem?_append_right (by simp; omega)]
  simp
  congr 1
  omega
theorem unN_step {k : Nat} {fs : List Fl} {f : Fl} (hf : fs[k]? = some f) : (unN k fs).set k (setN false f) = unN (k + 1) fs := by
  obtain ⟨hk, he⟩ := List.getElem?_eq_some_iff.1 hf
  refine List.ext_getElem? fun j => ?_
  have hl : (unN k fs).length = fs.length := unN_len k fs
  by_cases e : k = j
  · subst e
    rw [List.getElem?_set_self (by omega)]
    unfold unN
    rw [List.getElem?_append_left (by simp; omega), List.getElem?_map, List.getElem?_take, if_pos (by omega), hf]
    rfl
  · rw [List.getElem?_set_ne e]
    unfold unN
    rw [List.getElem?_append, List.getElem?_append]
    simp only [List.length_map, List.length_take, List.getElem?_map, List.getElem?_take, List.getElem?_drop]
    by_cases h1 : j < k
    · rw [if_pos (by omega), if_pos h1, if_pos (by omega), if_pos (by omega)]
    · rw [if_neg (by omega), if_neg (by omega)]
      congr 1
      omega
theorem unN_end (fs : List Fl) : unN fs.length fs = fs.map (setN false) := by simp [unN]
/-- Is the block some name's, of those that have come? -/
def markF (N : NL) (left : Nm → Bool) (fs : List Fl) : List Fl := fs.map fun f => { f with named := N.any fun p => p.2 == f.blk && !left p.1 }
def marked (N : NL) (fs : List Fl) : List Fl := fs.map fun f => { f with named := N.any fun p => p.2 == f.blk }
theorem mark_start {N : NL} (h : Ris N) (fs : List Fl) : fs.map (setN false) = markF N (fun k => (nat? k N).isSome) fs := by
  unfold markF
  refine List.map_congr_left fun f _ => ?_
  unfold setN
  congr 1
  symm
  rw [List.any_eq_false]
  intro p hp
  have := h.at (k := p.1) (b := p.2) hp
  simp [this]
theorem mark_end {N : NL} {left : Nm → Bool} (h : ∀ k, left k = false) (fs : List Fl) : markF N left fs = marked N fs := by
  unfold markF marked
  simp [h]
theorem mark_step {N : NL} (h : Ris N) {k : Nm} {b : Nat} (hm : (k, b) ∈ N) (left : Nm → Bool) (fs : List Fl) : updF b (setN true) (markF N left fs) = markF N (fun m => left m && !(m == k)) fs := by
  unfold updF markF
  rw [List.map_map]
  refine List.map_congr_left fun f _ => ?_
  simp only [Function.comp]
  by_cases e : f.blk = b
  · rw [if_pos e]
    unfold setN
    simp only [Fl.mk.injEq, true_and]
    symm
    rw [List.any_eq_true]
    exact ⟨(k, b), hm, by simp [e]⟩
  · rw [if_neg e]
    simp only [Fl.mk.injEq, true_and]
    rw [Bool.eq_iff_iff, List.any_eq_true, List.any_eq_true]
    constructor
    · rintro ⟨p, hp, h1⟩
      refine ⟨p, hp, ?_⟩
      simp only [Bool.and_eq_true, beq_iff_eq, Bool.not_eq_true'] at h1 ⊢
      exact ⟨h1.1, by simp [h1.2]⟩
    · rintro ⟨p, hp, h1⟩
      refine ⟨p, hp, ?_⟩
      simp only [Bool.and_eq_true, beq_iff_eq, Bool.not_eq_true', Bool.and_eq_false_iff] at h1 ⊢
      refine ⟨h1.1, ?_⟩
      rcases h1.2 with h2 | h2
      · exact h2
      · have hpk : p.1 = k := by simpa using h2
        have := h.key hp hm hpk
        rw [this] at h1
        exact absurd h1.1.symm e
theorem mark_mem {N : NL} {left : Nm → Bool} {fs : List Fl} {b : Nat} (h : ∃ f ∈ fs, f.blk = b) : ∃ (i : Nat) (f : Fl), (markF N left fs)[i]? = some f ∧ f.blk = b := by
  obtain ⟨f, hf, e⟩ := h
  obtain ⟨i, hi⟩ := List.getElem?_of_mem hf
  exact ⟨i, { f with named := N.any fun p => p.2 == f.blk && !left p.1 }, by unfold markF; rw [List.getElem?_map, hi]; rfl, e⟩

def St.keptNames (S : St) : St := { S with sure := S.names, waits := [], fs := marked S.names S.fs }

section
variable {w : World} {X : Nat → Prop} {g : Nat} {L : Lay} {S : St}
/-- The file behind the k-th pointer. -/
theorem DAt.ptr (h : DAt w X g L S) {A : Option Addr} {n c : Nat} (hf : L.fr = .slice A n c) (hn : S.fs.length = n) {k : Nat} (hk : k < n) :
    ∃ b off f, A = some ⟨b, off, none⟩ ∧ S.fs[k]? = some f ∧ w.cell? ⟨b, off + k, none⟩ = some (ptrTo f.blk) := by
  subst hn
  have hr := h.fr
  rw [hf] at hr
  obtain ⟨b, off, u, e, _, hu, hc⟩ := hr.sh.at hk
  rw [List.getElem?_map] at hu
  obtain ⟨f, hf', rfl⟩ := Option.map_eq_some_iff.1 hu
  exact ⟨b, off, f, e, hf', hc⟩
/-- A file's mark is set. -/
theorem DAt.mark (h : DAt w X g L S) {i : Nat} {f : Fl} (hi : S.fs[i]? = some f) (v : Bool) : DAt (w.setCell ⟨f.blk, 2, none⟩ (.bool v)) X g L { S with fs := S.fs.set i (setN v f) } := by
  have hfa := h.fo f (List.mem_of_getElem? hi)
  have := h.file (w' := w.setCell ⟨f.blk, 2, none⟩ (.bool v)) hi (f' := setN v f) rfl (v := L.row f.blk) (by simp) (fun k _ hk _ => Below.heap_setCell _ _ _ _ hk) (hfa.blk.set 2 (.bool v))
    (hfa.row.stay fun j hj => Below.heap_setCell _ _ _ _ (fun e => hfa.row.ne_blk hfa.blk (by decide) (by rw [hj]; simp at e; rw [e]))) (fun j hj => .inl hj)
  rwa [Lay.up_self] at this
theorem Lies.mark {w1 : World} (h : Lies X g L S w w1) {i : Nat} {f : Fl} (hi : S.fs[i]? = some f) (v : Bool) : Lies X g L { S with fs := S.fs.set i (setN v f) } w (w1.setCell ⟨f.blk, 2, none⟩ (.bool v)) :=
  ⟨h.1.mark hi v, h.2.grown (grown_set w1 f.blk 2 _) h.1.old (fun k hk => by cases hk; exact (h.1.fo f (List.mem_of_getElem? hi)).out)⟩
/-- The sure names are others, and nothing waits. -/
theorem Lies.sure {w1 : World} (h : Lies X g L S w w1) {sm : Nat} {N : NL} (hs : NamesAt w1 sm N) (hX : ¬ X sm) (hne : L.nm ≠ sm) :
    Lies X g { L with sm := sm, wr := .slice none 0 0 } { S with sure := N, waits := [] } w ((w1.setCell ⟨g, 3, none⟩ (.map (some sm))).setCell ⟨g, 4, none⟩ (.slice none 0 0)) := by
  have hgs : sm ≠ g := hs.ne_blk h.1.cells
  have hgn : L.nm ≠ g := h.1.nm.ne_blk h.1.cells
  have h1 := h.1.maps (w' := w1.setCell ⟨g, 3, none⟩ (.map (some sm))) (N := S.names) (M := N) (nm := L.nm) (sm := sm) (by simp) (fun k _ hk => Below.heap_setCell _ _ _ _ hk) (h.1.cells.set 3 (.map (some sm)))
    (h.1.nm.stay (Below.heap_setCell _ _ _ _ hgn)) h.1.nmX (hs.stay (Below.heap_setCell _ _ _ _ hgs)) hX hne
  have h2 := h1.turns (w' := (w1.setCell ⟨g, 3, none⟩ (.map (some sm))).setCell ⟨g, 4, none⟩ (.slice none 0 0)) (ts' := []) (v := .slice none 0 0) (by simp) (fun k _ hk _ => Below.heap_setCell _ _ _ _ hk) (h1.cells.set 4 (.slice none 0 0)) ⟨[], Row.nil _ _ _, trivial⟩
  refine ⟨h2, (h.2.grown (grown_set w1 g 3 _) h.1.old (fun k hk => by cases hk; exact h.1.gX)).grown (grown_set _ g 4 _) h1.old (fun k hk => by cases hk; exact h.1.gX)⟩
end
end Go.Proofs.Ytfhbolhmfhgeaaa
