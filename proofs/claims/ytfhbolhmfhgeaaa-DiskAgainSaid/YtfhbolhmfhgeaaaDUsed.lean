/-
  CONTRACTS OF Used, Read and slices.Clone.
-/
import Derived.Test.YtfhbolhmfhgeaaaDRename
namespace Go.Proofs.Ytfhbolhmfhgeaaa
set_option linter.unusedVariables false
set_option linter.unusedSimpArgs false
open Go.RowKit Go.Maps

/-- How many bytes the file at b has. -/
def lenAt (fs : List Fl) (b : Nat) : Nat := match fs.find? fun f => f.blk == b with | some f => f.data.length | none => 0
def usedOf (N : NL) (fs : List Fl) : Nat := (N.map fun p => lenAt fs p.2).sum
theorem used_perm {N M : NL} (h : N.Perm M) (fs : List Fl) : usedOf N fs = usedOf M fs := (h.map _).sum_nat
theorem nins_perm (x : Nm × Nat) : ∀ N : NL, (nins x N).Perm (x :: N)
  | [] => .refl _
  | y :: r => by
    unfold nins
    split
    · exact .refl _
    · exact ((nins_perm x r).cons y).trans (.swap x y r)
theorem used_step {N : NL} (h : Ris N) {k : Nm} {b : Nat} (hm : (k, b) ∈ N) {left : Nm → Bool} (hl : left k = true) (fs : List Fl) :
    usedOf (N.filter fun p => !(left p.1 && !(p.1 == k))) fs = usedOf (N.filter fun p => !left p.1) fs + lenAt fs b := by
  rw [← put_left h hm]
  have hd : ndel k (N.filter fun p => !left p.1) = N.filter fun p => !left p.1 := by
    unfold ndel
    rw [List.filter_eq_self]
    intro p hp
    have := (List.mem_filter.1 hp).2
    have : p.1 ≠ k := fun e => by rw [e, hl] at this; cases this
    simpa using this
  unfold nput
  rw [hd, used_perm (nins_perm _ _)]
  unfold usedOf
  simp
  omega
theorem used_le {N : NL} {fs : List Fl} {m : Nat} (h : ∀ f ∈ fs, f.data.length ≤ m) : usedOf N fs ≤ N.length * m := by
  unfold usedOf
  induction N with
  | nil => simp
  | cons p r ih =>
    have : lenAt fs p.2 ≤ m := by
      unfold lenAt
      split
      · rename_i f hf
        exact h f (List.mem_of_find?_eq_some hf)
      · exact Nat.zero_le _
    simp only [List.map_cons, List.sum_cons, List.length_cons, Nat.succ_mul]
    omega
theorem used_filter_le {N : NL} {fs : List Fl} {m : Nat} (h : ∀ f ∈ fs, f.data.length ≤ m) (p : Nm × Nat → Bool) : usedOf (N.filter p) fs ≤ N.length * m :=
  Nat.le_trans (used_le h) (Nat.mul_le_mul_right _ (List.length_filter_le _ _))
theorem find_blk {fs : List Fl} {L : Lay} (h : fs.Pairwise (Apart L)) {f : Fl} (hf : f ∈ fs) : fs.find? (fun x => x.blk == f.blk) = some f := by
  induction fs with
  | nil => cases hf
  | cons a r ih =>
    obtain ⟨h1, h2⟩ := List.pairwise_cons.1 h
    rcases List.mem_cons.1 hf with rfl | hf'
    · simp
    · have := (h1 f hf').1
      rw [List.find?_cons_of_neg (by simpa using this)]
      exact ih h2 hf'
theorem lenAt_of {fs : List Fl} {L : Lay} (h : fs.Pairwise (Apart L)) {f : Fl} (hf : f ∈ fs) : lenAt fs f.blk = f.data.length := by
  unfold lenAt
  rw [find_blk h hf]

section
variable {w : World} {X : Nat → Prop} {g : Nat} {L : Lay} {S : St}
/-- A file by its name, in memory. -/
theorem DAt.by_name (h : DAt w X g L S) (hcl : Closed S.names S.fs) {k : Nm} {b : Nat} (hm : (k, b) ∈ S.names) :
    ∃ A c n, w.cell? ⟨b, 0, none⟩ = some (.slice A n c) ∧ n = lenAt S.fs b := by
  obtain ⟨f, hf, e⟩ := hcl _ hm
  have hfa := h.fo f hf
  obtain ⟨A, c, e2, _⟩ := hfa.row.form
  have hc := hfa.c0
  rw [e2] at hc
  simp only at e
  refine ⟨A, c, _, by rw [← e]; exact hc, ?_⟩
  rw [← e, lenAt_of h.nd hf]

set_option maxRecDepth 10000 in
set_option maxHeartbeats 1600000 in
theorem used_any (h : DAt w X g L S) (hd : S.dead = false) (hcl : Closed S.names S.fs) (hn : S.names.length ≤ 1000) (hl : ∀ f ∈ S.fs, f.data.length ≤ 1048576) :
    Calls Try.prog 32 #[ptrTo g] w fun e w' => e = .returned (.int .i64 (usedOf S.names S.fs : Nat)) ∧ Below w.heap.size w w' := by
  have c9 : w.cell? ⟨g, 9, none⟩ = some (.bool false) := by rw [← hd]; exact h.c9
  have c2 := h.c2
  have hris := h.nm.ris
  have hnm := h.nm
  have HU := Lib.hid (fun p => used_filter_le (N := S.names) hl p)
  have HN := Lib.hid (fun (k : Nm) (b : Nat) (hm : (k, b) ∈ S.names) => h.by_name hcl hm)
  have HF := Lib.hid (fun (k : Nm) (b : Nat) (hm : (k, b) ∈ S.names) => (by
    obtain ⟨f, hf, e⟩ := hcl _ hm
    have := (h.fo f hf).blk.lt
    simp only at e
    rw [← e]
    exact this : b < w.heap.size))
  have HR := Lib.hid hris
  have HL := Lib.hid hl
  clear h hd hcl hris hl
  unfold ptrTo
  go_enter Try.func32, Try.ntmps32
  go_wp2_with (first
    | (at_range; refine wpList_range_names _ rfl _ rfl rfl hnm ?_; intro w0 hrg0 hg0 hs0)
    | go_in)
  go_frame
  go_loopw [3, 5] (fun u _ wr => ∃ (left : Nm → Bool) (cnt : Nat), NRange wr L.nm w.heap.size S.names left cnt ∧ u = .int .i64 (usedOf (S.names.filter fun p => !left p.1) S.fs : Nat) ∧ w.grownBy wr none) (fun _ _ wr => wr.rangeLeft L.nm w.heap.size)
  case atStart => exact ⟨_, _, hrg0, by rw [come_start HR.out]; rfl, hg0⟩
  case round =>
    obtain ⟨left, cnt, hrg, rfl, hgr⟩ := hrel
    have hsz := hgr.size
    have hub := HU.out (fun p => !left p.1)
    obtain ⟨u, hu⟩ : ∃ u, u = usedOf (S.names.filter fun p => !left p.1) S.fs := ⟨_, rfl⟩
    rw [← hu] at hub ⊢
    have HU1 := Lib.hid hu
    clear hu
    go_wp2_with (first
      | (at_next; refine wpList_next_names _ rfl _ rfl rfl hrg ?_ ?_)
      | go_in)
    · intro hc0 hl0
      go_wp2
      go_ret
      refine ⟨ret_int64 ?_, ⟨hgr.os, hgr.tape, hgr.output, hgr.size, fun k hk => hgr.block k hk (by simp)⟩⟩
      rw [HU1.out, come_end hl0]
    · intro s c w1 cnt1 hs hlx hm hrg1 hlt hg1 hs1 hen
      have hclt := HF.out _ _ hm
      obtain ⟨A, cc, n, hcell, hnl⟩ := HN.out _ _ hm
      have hst := used_step HR.out hm hlx S.fs
      have hub2 := HU.out (fun p => !(left p.1 && !(p.1 == s.data.toList)))
      have hcell1 : w1.cell? ⟨c, 0, none⟩ = some (.slice A n cc) := by
        rw [World.cell?_of_block (w := wr) (hg1.block c (by omega) (by intro e; injection e with e; omega)), World.cell?_of_block (w := w) (hgr.block c hclt (by simp))]
        exact hcell
      rw [hst, ← HU1.out, ← hnl] at hub2
      have HST := Lib.hid hst
      have HNL := Lib.hid hnl
      clear hs1 hm hst hcell hnl
      unfold ptrTo at *
      go_wp2
      go_roundw
      case rel =>
        refine ⟨_, cnt1, hrg1, ?_, ?_⟩
        · rw [HST.out, ← HU1.out, ← HNL.out]
          simp
        · exact ⟨hg1.os.trans hgr.os, hg1.tape.trans hgr.tape, hg1.output.trans hgr.output, Nat.le_trans hgr.size hg1.size, fun k hk _ => (hg1.block k (by omega) (by intro e; injection e with e; omega)).trans (hgr.block k hk (by simp))⟩
      case measure => rw [hrg1.left_eq, hrg.left_eq]; exact hlt
end
end Go.Proofs.Ytfhbolhmfhgeaaa
