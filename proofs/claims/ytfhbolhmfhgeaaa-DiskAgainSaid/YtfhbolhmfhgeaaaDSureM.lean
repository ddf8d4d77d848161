/-
  A FILE WHOSE BYTES AND NAME ARE SURE.
-/
import Derived.Test.YtfhbolhmfhgeaaaDInv
namespace Go.Proofs.Ytfhbolhmfhgeaaa
set_option linter.unusedVariables false
set_option linter.unusedSimpArgs false
open Go.RowKit Go.Maps

/-- The sure bytes of f begin with data. -/
def SureF (data : List Int) (f : Fl) : Prop := f.unsure ≤ f.data.length ∧ ∃ r, f.data.take (f.data.length - f.unsure) = data ++ r
abbrev fileAt (fs : List Fl) (b : Nat) : Option Fl := fs.find? fun f => f.blk == b
/-- Whatever turns come back, the name k has a file whose sure bytes begin with data. -/
def KeptAt (k : Nm) (data : List Int) (S : St) : Prop :=
  ∃ b, (∀ j, j ≤ S.waits.length → nat? k (acts (S.waits.take j) S.sure) = some b) ∧ ∃ f, fileAt S.fs b = some f ∧ SureF data f
theorem fileAt_blk {fs : List Fl} {b : Nat} {f : Fl} (h : fileAt fs b = some f) : f.blk = b ∧ f ∈ fs := ⟨by simpa using List.find?_some h, List.mem_of_find?_eq_some h⟩
theorem fileAt_map {fs : List Fl} {b : Nat} {f : Fl} (u : Fl → Fl) (hu : ∀ f, (u f).blk = f.blk) (h : fileAt fs b = some f) : fileAt (fs.map u) b = some (u f) := by
  unfold fileAt at h ⊢
  rw [List.find?_map]
  have : ((fun f : Fl => f.blk == b) ∘ u) = fun f => f.blk == b := by
    funext f
    simp [hu]
  rw [this, h]
  rfl
theorem fileAt_filter {b : Nat} {f : Fl} (p : Fl → Bool) : ∀ {fs : List Fl}, fileAt fs b = some f → p f = true → fileAt (fs.filter p) b = some f
  | [], h, _ => by cases h
  | g :: r, h, hp => by
    unfold fileAt at h
    rw [List.find?_cons] at h
    by_cases hg : g.blk == b
    · rw [hg] at h
      cases h
      rw [List.filter_cons, if_pos hp]
      unfold fileAt
      rw [List.find?_cons, hg]
    · have hg' : (g.blk == b) = false := by simpa using hg
      rw [hg'] at h
      have ih := fileAt_filter p (fs := r) h hp
      rw [List.filter_cons]
      split
      · unfold fileAt
        rw [List.find?_cons, hg']
        exact ih
      · exact ih
theorem fileAt_keepB {nums : List Int} {b : Nat} {f : Fl} : ∀ {i : Nat} {fs : List Fl}, fileAt fs b = some f → ∃ j, fileAt (keepB nums i fs) b = some (keepAt nums j f)
  | _, [], h => by cases h
  | i, g :: r, h => by
    unfold fileAt at h
    rw [List.find?_cons] at h
    unfold keepB fileAt
    rw [List.find?_cons, (keepAt_blk nums i g).1]
    by_cases hg : g.blk == b
    · rw [hg] at h ⊢
      cases h
      exact ⟨i, rfl⟩
    · have hg' : (g.blk == b) = false := by simpa using hg
      rw [hg'] at h ⊢
      exact fileAt_keepB h

section
variable {k : Nm} {data : List Int} {S : St}
theorem KeptAt.like (h : KeptAt k data S) {T : St} (h2 : T.sure = S.sure) (h3 : T.waits = S.waits) (h4 : T.fs = S.fs) : KeptAt k data T := by
  unfold KeptAt
  rw [h2, h3, h4]
  exact h
theorem KeptAt.begun (h : KeptAt k data S) : KeptAt k data S.begun := h.like S.begun_sure S.begun_waits S.begun_fs
theorem KeptAt.name (h : KeptAt k data S) (I : Inv S) : ∃ b, nat? k S.names = some b ∧ ∃ f, fileAt S.fs b = some f ∧ SureF data f := by
  obtain ⟨b, h1, h2⟩ := h
  refine ⟨b, ?_, h2⟩
  rw [I.names]
  have := h1 _ (Nat.le_refl _)
  rwa [List.take_length] at this
theorem KeptAt.turned (h : KeptAt k data S) (I : Inv S) {t : Tn} (ht : ∀ b, nat? k S.names = some b → nat? k (t.act S.names) = some b) : KeptAt k data (S.turned t) := by
  obtain ⟨b, h1, h2⟩ := h
  refine ⟨b, fun j hj => ?_, h2⟩
  show nat? k (acts ((S.waits ++ [t]).take j) S.sure) = some b
  have hj : j ≤ (S.waits ++ [t]).length := hj
  by_cases hj' : j ≤ S.waits.length
  · rw [List.take_append_of_le_length hj']
    exact h1 j hj'
  · rw [List.take_of_length_le (by simp at hj ⊢; omega), acts_end, ← I.names]
    refine ht b ?_
    rw [I.names]
    have := h1 _ (Nat.le_refl _)
    rwa [List.take_length] at this
theorem KeptAt.files (h : KeptAt k data S) {T : St} (h2 : T.sure = S.sure) (h3 : T.waits = S.waits) (hf : ∀ b f, fileAt S.fs b = some f → SureF data f → ∃ f', fileAt T.fs b = some f' ∧ SureF data f') : KeptAt k data T := by
  obtain ⟨b, h1, f, h4, h5⟩ := h
  obtain ⟨f', h6, h7⟩ := hf b f h4 h5
  exact ⟨b, by rw [h2, h3]; exact h1, f', h6, h7⟩
theorem SureF.append {f : Fl} (h : SureF data f) (b : List Int) : SureF data { f with data := f.data ++ b, unsure := f.unsure + b.length } := by
  obtain ⟨h1, r, h2⟩ := h
  refine ⟨?_, r, ?_⟩
  · show f.unsure + b.length ≤ (f.data ++ b).length
    simp
    omega
  · show (f.data ++ b).take ((f.data ++ b).length - (f.unsure + b.length)) = _
    rw [List.length_append, show f.data.length + b.length - (f.unsure + b.length) = f.data.length - f.unsure by omega, List.take_append_of_le_length (by omega)]
    exact h2
theorem SureF.all {f : Fl} (h : SureF data f) : ∃ r, f.data = data ++ r := by
  obtain ⟨h1, r, h2⟩ := h
  refine ⟨r ++ f.data.drop (f.data.length - f.unsure), ?_⟩
  rw [← List.append_assoc, ← h2, List.take_append_drop]
theorem SureF.sync {f : Fl} (h : SureF data f) : SureF data { f with unsure := 0 } := by
  obtain ⟨r, hr⟩ := h.all
  exact ⟨Nat.zero_le _, r, by simpa using hr⟩
theorem SureF.keepAt {f : Fl} (h : SureF data f) (nums : List Int) (j : Nat) (hn : f.named = true) : SureF data (keepAt nums j f) := by
  unfold Proofs.Ytfhbolhmfhgeaaa.keepAt
  split
  · exact h
  · try rw [if_pos hn]
    obtain ⟨h1, r, h2⟩ := h
    refine ⟨Nat.zero_le _, r ++ (f.data.drop (f.data.length - f.unsure)).take (withinN (nums.getD j 0) f.unsure), ?_⟩
    show (f.data.take (f.data.length - f.unsure + withinN (nums.getD j 0) f.unsure)).take _ = _
    rw [Nat.sub_zero, List.take_length, List.take_add, h2, List.append_assoc]
theorem nput_other {k' : Nm} {c : Nat} {N : NL} (h : Ris N) (hne : k ≠ k') {b : Nat} (hb : nat? k N = some b) : nat? k (nput k' c N) = some b := by rw [nat?_put_other h hne]; exact hb

theorem KeptAt.append (h : KeptAt k data S) (m : Nm) (b : List Int) : KeptAt k data (S.append m b).1 := by
  unfold St.append
  split
  · exact h.begun
  · split
    · exact h.begun
    · split
      · exact h.begun
      · refine h.files S.begun_sure S.begun_waits fun c f hf hs => ?_
        rename_i c' _ _
        refine ⟨_, fileAt_map _ (fun f => by split <;> rfl) hf, ?_⟩
        split
        · exact hs.append b
        · exact hs
theorem KeptAt.sync (h : KeptAt k data S) (m : Nm) : KeptAt k data (S.sync m).1 := by
  unfold St.sync
  split
  · exact h.begun
  · split
    · exact h.begun
    · refine h.files S.begun_sure S.begun_waits fun c f hf hs => ?_
      refine ⟨_, fileAt_map _ (fun f => by split <;> rfl) hf, ?_⟩
      split
      · exact hs.sync
      · exact hs
theorem KeptAt.create (h : KeptAt k data S) (I : Inv S) (m : Nm) (b : Nat) : KeptAt k data (S.create m b).1 := by
  unfold St.create
  split
  · exact h.begun
  · rename_i he
    split
    · exact h.begun
    · split
      · exact h.begun
      · split
        · exact h.begun
        · rename_i hn _
          have hne : k ≠ m := fun e => by
            obtain ⟨c, hc, _⟩ := h.name I
            rw [e, hn] at hc
            cases hc
          have h1 : KeptAt k data ({ S.begun with fs := S.fs ++ [newFl b] } : St) := h.files S.begun_sure S.begun_waits fun c f hf hs => ⟨f, by
            show (S.fs ++ [newFl b]).find? _ = some f
            rw [List.find?_append, show S.fs.find? _ = some f from hf]
            rfl, hs⟩
          obtain ⟨c, h2, h3⟩ := h1
          refine ⟨c, fun j hj => ?_, h3⟩
          show nat? k (acts ((S.begun.waits ++ [Tn.create m b]).take j) S.begun.sure) = some c
          by_cases hj' : j ≤ S.begun.waits.length
          · rw [List.take_append_of_le_length hj']
            exact h2 j hj'
          · have hj : j ≤ (S.begun.waits ++ [Tn.create m b]).length := hj
            rw [List.take_of_length_le (by simp at hj ⊢; omega), acts_end]
            have := h2 _ (Nat.le_refl _)
            rw [List.take_length] at this
            exact nput_other (by rw [S.begun_sure, S.begun_waits]; exact I.ris.acts _) hne this
theorem KeptAt.remove (h : KeptAt k data S) (I : Inv S) (m : Nm) (hne : k ≠ m) : KeptAt k data (S.remove m).1 := by
  unfold St.remove
  split
  · exact h.begun
  · split
    · exact h.begun
    · exact h.begun.turned I.begun fun b hb => by
        show nat? k (ndel m S.begun.names) = some b
        rw [nat?_del_other I.begun.risN hne]
        exact hb
theorem KeptAt.rename (h : KeptAt k data S) (I : Inv S) (m n : Nm) (hm : k ≠ m) (hn : k ≠ n) : KeptAt k data (S.rename m n).1 := by
  unfold St.rename
  split
  · exact h.begun
  · split
    · exact h.begun
    · rename_i c hc
      split
      · exact h.begun.turned I.begun fun b hb => by
          show nat? k (match nat? m S.begun.names with | some b => nput n b (ndel m S.begun.names) | none => S.begun.names) = some b
          rw [S.begun_names] at hb ⊢
          rw [hc]
          show nat? k (nput n c (ndel m S.names)) = some b
          rw [nat?_put_other (I.risN.del m) hn, nat?_del_other I.risN hm]
          exact hb
      · exact h.begun
theorem KeptAt.keptNames (h : KeptAt k data S) (I : Inv S) : KeptAt k data S.keptNames := by
  obtain ⟨b, hb, f, hf, hs⟩ := h.name I
  refine ⟨b, fun j hj => ?_, _, fileAt_map _ (fun _ => rfl) hf, hs⟩
  show nat? k (acts (([] : List Tn).take j) S.names) = some b
  rw [List.take_nil]
  exact hb
theorem KeptAt.forgot (h : KeptAt k data S) (I : Inv S) (hn : Named S) : KeptAt k data S.forgot := by
  obtain ⟨b, h1, f, hf, hs⟩ := h
  have hb : nat? k S.names = some b := by
    rw [I.names]
    have := h1 _ (Nat.le_refl _)
    rwa [List.take_length] at this
  have hnm : f.named = true := hn f (fileAt_blk hf).2 ⟨_, nat?_some hb, (fileAt_blk hf).1.symm⟩
  refine ⟨b, h1, f, ?_, hs⟩
  show fileAt ((S.fs.filter fun f => !goneSure f).map clr) b = some f
  have := fileAt_map clr clr_blk (fileAt_filter (fun f => !goneSure f) hf (by simp [goneSure, hnm]))
  rw [clr_named hnm] at this
  exact this
theorem KeptAt.syncDir (h : KeptAt k data S) (I : Inv S) : KeptAt k data S.syncDir.1 := by
  unfold St.syncDir
  split
  · exact h.begun
  · exact (h.begun.keptNames I.begun).forgot I.begun.keptNames (keptNames_named _)
/-- What is read when the power is back. -/
theorem KeptAt.read_boot (h : KeptAt k data S) (hd : S.dead = true) (turns : Int) (nums : List Int) : ∃ r, (S.boot turns nums).1.read k = (data ++ r, 0) := by
  obtain ⟨b, h1, f, hf, hs⟩ := h
  have hb := h1 _ (within_le turns S.waits.length)
  obtain ⟨N, hN⟩ : ∃ N, N = acts (S.waits.take (withinN turns S.waits.length)) S.sure := ⟨_, rfl⟩
  rw [← hN] at hb
  have hm : fileAt (marked N S.fs) b = some { f with named := N.any fun p => p.2 == f.blk } := fileAt_map _ (fun _ => rfl) hf
  obtain ⟨f1, hf1⟩ : ∃ f1 : Fl, f1 = { f with named := N.any fun p => p.2 == f.blk } := ⟨_, rfl⟩
  rw [← hf1] at hm
  have hn1 : f1.named = true := by rw [hf1]; exact any_blk.2 ⟨_, nat?_some hb, (fileAt_blk hf).1.symm⟩
  have hs1 : SureF data f1 := by rw [hf1]; exact hs
  obtain ⟨j, hj⟩ := fileAt_keepB (nums := nums) (i := 0) hm
  have hs2 := hs1.keepAt nums j hn1
  have hn2 : (keepAt nums j f1).named = true := (keepAt_blk nums j f1).2.1.trans hn1
  have hk := fileAt_filter (fun f => !goneBoot f) hj (by simp [goneBoot, hn2])
  obtain ⟨r, hr⟩ := hs2.all
  refine ⟨r, ?_⟩
  have e1 : (S.boot turns nums).1.dead = false := by unfold St.boot; rw [if_pos hd]
  have e2 : (S.boot turns nums).1.names = N := by unfold St.boot; rw [if_pos hd, hN]; rfl
  have e3 : (S.boot turns nums).1.fs = keep goneBoot (keepB nums 0 (marked N S.fs)) := by unfold St.boot; rw [if_pos hd, hN]; rfl
  have hk' : fileAt (keep goneBoot (keepB nums 0 (marked N S.fs))) b = some (keepAt nums j f1) := hk
  unfold St.read
  rw [e1, if_neg Bool.false_ne_true, e2, hb, e3]
  show (match fileAt (keep goneBoot (keepB nums 0 (marked N S.fs))) b with | some f => (f.data, (0 : Int)) | none => ([], 6)) = _
  rw [hk']
  show ((keepAt nums j f1).data, (0 : Int)) = _
  rw [hr]
end

/-- What a call leaves of these. -/
def Same3 (T S : St) : Prop := T.dead = S.begun.dead ∧ T.fuse = S.begun.fuse ∧ T.calls = S.begun.calls
section
variable (S : St)
theorem same3_create (k : Nm) (b : Nat) : Same3 (S.create k b).1 S := by unfold St.create; (repeat' split) <;> exact ⟨rfl, rfl, rfl⟩
theorem same3_append (k : Nm) (b : List Int) : Same3 (S.append k b).1 S := by unfold St.append; (repeat' split) <;> exact ⟨rfl, rfl, rfl⟩
theorem same3_sync (k : Nm) : Same3 (S.sync k).1 S := by unfold St.sync; (repeat' split) <;> exact ⟨rfl, rfl, rfl⟩
theorem same3_syncDir : Same3 S.syncDir.1 S := by unfold St.syncDir; (repeat' split) <;> exact ⟨rfl, rfl, rfl⟩
theorem same3_rename (k m : Nm) : Same3 (S.rename k m).1 S := by unfold St.rename; (repeat' split) <;> exact ⟨rfl, rfl, rfl⟩
theorem same3_remove (k : Nm) : Same3 (S.remove k).1 S := by unfold St.remove; (repeat' split) <;> exact ⟨rfl, rfl, rfl⟩
end
/-- A disk on which the power does not go off by itself, with a kept file. -/
structure Keeping (k : Nm) (data : List Int) (n : Nat) (S : St) : Prop where
  inv : Inv S
  kept : KeptAt k data S
  dead : S.dead = false
  fuse : S.fuse = 0
  calls : S.calls ≤ n
theorem Keeping.step {k : Nm} {data : List Int} {n : Nat} {S T : St} (h : Keeping k data n S) (h1 : Inv T) (h2 : KeptAt k data T) (h3 : Same3 T S) : Keeping k data (n + 1) T := by
  obtain ⟨a, b, c⟩ := h3
  have hb : S.begun = { S with calls := S.calls + 1 } := by
    unfold St.begun
    rw [if_neg (by rw [h.dead]; exact Bool.false_ne_true), if_neg (by rw [h.fuse]; omega)]
  refine ⟨h1, h2, by rw [a, hb]; exact h.dead, by rw [b, hb]; exact h.fuse, ?_⟩
  rw [c, hb]
  have := h.calls
  show S.calls + 1 ≤ n + 1
  omega
end Go.Proofs.Ytfhbolhmfhgeaaa
