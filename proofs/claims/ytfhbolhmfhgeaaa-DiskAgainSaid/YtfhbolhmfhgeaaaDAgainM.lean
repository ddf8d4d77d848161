/-
  WHAT IS THERE WHEN THE POWER IS BACK IS SURE; A NEW DISK'S STATE.
-/
import Derived.Test.YtfhbolhmfhgeaaaDAct4
namespace Go.Proofs.Ytfhbolhmfhgeaaa
set_option linter.unusedVariables false
set_option linter.unusedSimpArgs false
open Go.RowKit Go.Maps

theorem len_namesZ : ∀ {l : List FIn} {fs : List Fl} {N : NL}, (namesZ l fs N).length ≤ N.length + l.length
  | [], [], _ => Nat.le_refl _
  | [], _ :: _, _ => Nat.le_refl _
  | _ :: _, [], _ => Nat.le_add_right _ _
  | x :: l, f :: fs, N => by
    have h1 := len_namesZ (l := l) (fs := fs) (N := nput x.s.data.toList f.blk N)
    have h2 := len_nput_le x.s.data.toList f.blk N
    show (namesZ l fs (nput x.s.data.toList f.blk N)).length ≤ N.length + (l.length + 1)
    omega
theorem mem_namesZ {p : Nm × Nat} : ∀ {l : List FIn} {fs : List Fl} {N : NL}, p ∈ namesZ l fs N → p ∈ N ∨ ∃ f ∈ fs, f.blk = p.2
  | [], [], _, h => .inl h
  | [], _ :: _, _, h => .inl h
  | _ :: _, [], _, h => .inl h
  | x :: l, f :: fs, N, h => by
    rcases mem_namesZ (l := l) (fs := fs) h with h1 | ⟨g, h1, h2⟩
    · rcases mem_nput.1 h1 with rfl | ⟨h2, _⟩
      · exact .inr ⟨f, by simp, rfl⟩
      · exact .inl h2
    · exact .inr ⟨g, by simp [h1], h2⟩
theorem len_sizeF {l : List FIn} {x : FIn} (h : x ∈ l) : x.d.length ≤ sizeF l := by
  obtain ⟨k, hk⟩ := List.mem_iff_getElem?.1 h
  have h1 := sizeF_snoc hk
  have h2 := sizeF_le l (k + 1)
  omega
theorem inv_new {fs : List Fl} {l : List FIn} {cap : Int} (hm : Made fs l) (hl : l.length ≤ 64) (hs : sizeF l ≤ 2000) (hcap : 0 ≤ cap ∧ cap ≤ 1048576) : Inv (newSt cap fs (namesZ l fs [])) := by
  have hlen := len_namesZ (l := l) (fs := fs) (N := [])
  have hlen : (namesZ l fs []).length ≤ 64 := by simp at hlen; omega
  refine ⟨rfl, ris_namesZ Ris.nil, hlen, fun k hk => ?_, Nat.zero_le _, by show fs.length ≤ 64 + 0; rw [hm.len]; exact hl, fun f hf => ?_, fun f hf => ?_, hcap⟩
  · show Sound (acts (([] : List Tn).take k) (namesZ l fs [])) fs
    rw [List.take_nil]
    intro p hp
    have hp : p ∈ namesZ l fs [] := hp
    rcases mem_namesZ hp with h | ⟨f, h1, h2⟩
    · cases h
    · obtain ⟨x, _, _, hu, _⟩ := hm.mem f h1
      exact ⟨f, h1, h2, by omega⟩
  · obtain ⟨x, hx, hd, hu, _⟩ := hm.mem f hf
    rw [hd]
    have := len_sizeF hx
    show _ ≤ most 0
    unfold most
    omega
  · obtain ⟨x, hx, hd, hu, _⟩ := hm.mem f hf
    rw [hu]
    exact Nat.zero_le _

/-- All is sure. -/
structure AllSure (S : St) : Prop where
  waits : S.waits = []
  sure : S.sure = S.names
  files : ∀ f ∈ S.fs, f.unsure = 0 ∧ f.named = true ∧ (S.names.any fun p => p.2 == f.blk) = true
theorem boot_sure {S : St} (hd : S.dead = true) (turns : Int) (nums : List Int) : AllSure (S.boot turns nums).1 ∧ (S.boot turns nums).1.dead = false ∧ (S.boot turns nums).1.calls = S.calls := by
  obtain ⟨N, hN⟩ : ∃ N, N = acts (S.waits.take (withinN turns S.waits.length)) S.sure := ⟨_, rfl⟩
  have e1 : (S.boot turns nums).1.dead = false := by unfold St.boot; rw [if_pos hd]
  have e2 : (S.boot turns nums).1.names = N := by unfold St.boot; rw [if_pos hd, hN]; rfl
  have e3 : (S.boot turns nums).1.fs = keep goneBoot (keepB nums 0 (marked N S.fs)) := by unfold St.boot; rw [if_pos hd, hN]; rfl
  have e4 : (S.boot turns nums).1.waits = [] := by unfold St.boot; rw [if_pos hd]; rfl
  have e5 : (S.boot turns nums).1.sure = N := by unfold St.boot; rw [if_pos hd, hN]; rfl
  have e6 : (S.boot turns nums).1.calls = S.calls := by unfold St.boot; rw [if_pos hd]; rfl
  refine ⟨⟨e4, by rw [e5, e2], fun f hf => ?_⟩, e1, e6⟩
  rw [e3] at hf
  obtain ⟨hf, hgo⟩ := mem_keep.1 hf
  have hnm : f.named = true := by simpa [goneBoot] using hgo
  obtain ⟨j, g, hgm, rfl⟩ := mem_keepB hf
  obtain ⟨g0, hg0, rfl⟩ := mem_marked.1 hgm
  obtain ⟨b1, b2, _, _⟩ := keepAt_blk nums j { g0 with named := N.any fun p => p.2 == g0.blk }
  rw [b2] at hnm
  refine ⟨?_, by rw [b2]; exact hnm, by rw [e2, b1]; exact hnm⟩
  have hnm' : (N.any fun p => p.2 == g0.blk) = true := hnm
  unfold keepAt
  split
  · assumption
  · first
      | rfl
      | (rw [if_pos hnm])
theorem marked_same {N : NL} {fs : List Fl} (h : ∀ f ∈ fs, f.named = true ∧ (N.any fun p => p.2 == f.blk) = true) : marked N fs = fs := by
  unfold marked
  conv => rhs; rw [← List.map_id fs]
  refine List.map_congr_left fun f hf => ?_
  obtain ⟨h1, h2⟩ := h f hf
  rw [h2, ← h1]
  rfl
theorem keepB_same {nums : List Int} : ∀ {i : Nat} {fs : List Fl}, (∀ f ∈ fs, f.unsure = 0) → keepB nums i fs = fs
  | _, [], _ => rfl
  | i, f :: r, h => by
    have h0 := h f (by simp)
    unfold keepB
    rw [keepB_same (fun g hg => h g (by simp [hg]))]
    unfold keepAt
    rw [if_pos h0]
theorem keep_same {fs : List Fl} (h : ∀ f ∈ fs, f.named = true) : keep goneBoot fs = fs := by
  unfold keep
  rw [List.filter_eq_self]
  intro f hf
  simp [goneBoot, h f hf]
/-- The power goes off again at once: all is the same. -/
theorem boot_again {S T : St} (h : AllSure S) (h1 : T.sure = S.sure) (h2 : T.waits = S.waits) (h3 : T.fs = S.fs) (hd : T.dead = true) (turns : Int) (nums : List Int) :
    (T.boot turns nums).1.names = S.names ∧ (T.boot turns nums).1.fs = S.fs ∧ (T.boot turns nums).1.dead = false := by
  have hN : acts (T.waits.take (withinN turns T.waits.length)) T.sure = S.names := by rw [h2, h.waits, List.take_nil, h1, h.sure]; rfl
  have e1 : (T.boot turns nums).1.dead = false := by unfold St.boot; rw [if_pos hd]
  have e2 : (T.boot turns nums).1.names = S.names := by
    rw [← hN]
    unfold St.boot
    rw [if_pos hd]
    rfl
  have e3 : (T.boot turns nums).1.fs = keep goneBoot (keepB nums 0 (marked S.names S.fs)) := by
    rw [← hN, ← h3]
    unfold St.boot
    rw [if_pos hd]
    rfl
  refine ⟨e2, ?_, e1⟩
  rw [e3, marked_same (fun f hf => (h.files f hf).2), keepB_same (fun f hf => (h.files f hf).1), keep_same (fun f hf => (h.files f hf).2.1)]
theorem read_same {S T : St} (h1 : T.names = S.names) (h2 : T.fs = S.fs) (h3 : T.dead = false) (h4 : S.dead = false) (k : Nm) : T.read k = S.read k := by
  unfold St.read
  rw [h1, h2, h3, h4]

/-! ### names are names -/
def Keys (S : St) : Prop := ∀ k, k ≤ S.waits.length → ∀ p ∈ acts (S.waits.take k) S.sure, nameB p.1 = true
section
variable {S : St}
theorem Keys.now (h : Keys S) (I : Inv S) : ∀ p ∈ S.names, nameB p.1 = true := by
  have := h _ (Nat.le_refl _)
  rw [List.take_length, ← I.names] at this
  exact this
theorem Keys.like (h : Keys S) {T : St} (h2 : T.sure = S.sure) (h3 : T.waits = S.waits) : Keys T := by
  unfold Keys
  rw [h2, h3]
  exact h
theorem Keys.begun (h : Keys S) : Keys S.begun := h.like S.begun_sure S.begun_waits
theorem Keys.turned (h : Keys S) (I : Inv S) {t : Tn} (ht : ∀ p ∈ t.act S.names, nameB p.1 = true) : Keys (S.turned t) := by
  intro k hk
  show ∀ p ∈ acts ((S.waits ++ [t]).take k) S.sure, nameB p.1 = true
  have hk : k ≤ (S.waits ++ [t]).length := hk
  by_cases hk' : k ≤ S.waits.length
  · rw [List.take_append_of_le_length hk']
    exact h k hk'
  · rw [List.take_of_length_le (by simp at hk ⊢; omega), acts_end, ← I.names]
    exact ht
theorem Keys.all (h : ∀ p ∈ S.sure, nameB p.1 = true) (hw : S.waits = []) : Keys S := by
  intro k hk
  rw [hw, List.take_nil]
  exact h
theorem Keys.create (h : Keys S) (I : Inv S) (m : Nm) (b : Nat) : Keys (S.create m b).1 := by
  unfold St.create
  split
  · exact h.begun
  · split
    · exact h.begun
    · rename_i hm
      split
      · exact h.begun
      · split
        · exact h.begun
        · have h1 : Inv ({ S.begun with fs := S.begun.fs } : St) := I.begun
          intro k hk
          show ∀ p ∈ acts ((S.begun.waits ++ [Tn.create m b]).take k) S.begun.sure, nameB p.1 = true
          have hk : k ≤ (S.begun.waits ++ [Tn.create m b]).length := hk
          by_cases hk' : k ≤ S.begun.waits.length
          · rw [List.take_append_of_le_length hk']
            exact h.begun k hk'
          · rw [List.take_of_length_le (by simp at hk ⊢; omega), acts_end, ← I.begun.names]
            intro p hp
            have hp : p ∈ nput m b S.begun.names := hp
            rcases mem_nput.1 hp with rfl | ⟨hp, _⟩
            · simpa using hm
            · exact h.begun.now I.begun p hp
theorem Keys.remove (h : Keys S) (I : Inv S) (m : Nm) : Keys (S.remove m).1 := by
  unfold St.remove
  split
  · exact h.begun
  · split
    · exact h.begun
    · exact h.begun.turned I.begun fun p hp => h.begun.now I.begun p (mem_ndel.1 hp).1
theorem Keys.rename (h : Keys S) (I : Inv S) (m n : Nm) : Keys (S.rename m n).1 := by
  unfold St.rename
  split
  · exact h.begun
  · split
    · exact h.begun
    · rename_i c hc
      split
      · rename_i hn
        refine h.begun.turned I.begun fun p hp => ?_
        have hp : p ∈ (match nat? m S.begun.names with | some b => nput n b (ndel m S.begun.names) | none => S.begun.names) := hp
        rw [S.begun_names, hc] at hp
        have hp : p ∈ nput n c (ndel m S.names) := hp
        rcases mem_nput.1 hp with rfl | ⟨hp, _⟩
        · exact hn
        · exact h.now I p (mem_ndel.1 hp).1
      · exact h.begun
theorem Keys.append (h : Keys S) (m : Nm) (b : List Int) : Keys (S.append m b).1 := by
  unfold St.append
  (repeat' split) <;> exact h.like S.begun_sure S.begun_waits
theorem Keys.sync (h : Keys S) (m : Nm) : Keys (S.sync m).1 := by
  unfold St.sync
  (repeat' split) <;> exact h.like S.begun_sure S.begun_waits
theorem Keys.syncDir (h : Keys S) (I : Inv S) : Keys S.syncDir.1 := by
  unfold St.syncDir
  split
  · exact h.begun
  · exact Keys.all (h.begun.now I.begun) rfl
theorem Keys.boot (h : Keys S) (turns : Int) (nums : List Int) : Keys (S.boot turns nums).1 := by
  unfold St.boot
  split
  · exact Keys.all (h _ (within_le turns S.waits.length)) rfl
  · exact h
theorem Keys.act (h : Keys S) (I : Inv S) (x : Ac) (c : Nat) : Keys (S.act x c) := by
  unfold St.act
  split
  · exact h.create I _ _
  · split
    · exact h.append _ _
    · split
      · exact h.sync _
      · split
        · exact h.syncDir I
        · split
          · exact h.rename I _ _
          · split
            · exact h.remove I _
            · split
              · exact h.like rfl rfl
              · split
                · exact h.like rfl rfl
                · split
                  · exact h.boot _ _
                  · exact h
theorem keys_new {fs : List Fl} {l : List FIn} {cap : Int} (h : namesB l = true) : Keys (newSt cap fs (namesZ l fs [])) := by
  have h := (of_decide_eq_true h).2
  refine Keys.all (fun p hp => ?_) rfl
  have key : ∀ {l : List FIn} {fs : List Fl} {N : NL} {p : Nm × Nat}, p ∈ namesZ l fs N → p ∈ N ∨ ∃ x ∈ l, keyF x = p.1 := by
    intro l
    induction l with
    | nil => intro fs N p h; cases fs <;> exact .inl h
    | cons x l ih =>
      intro fs N p h
      cases fs with
      | nil => exact .inl h
      | cons f fs =>
        rcases ih (fs := fs) h with h1 | ⟨y, h1, h2⟩
        · rcases mem_nput.1 h1 with rfl | ⟨h2, _⟩
          · exact .inr ⟨x, by simp, rfl⟩
          · exact .inl h2
        · exact .inr ⟨y, by simp [h1], h2⟩
  have hp : p ∈ namesZ l fs [] := hp
  rcases key hp with h1 | ⟨x, h1, h2⟩
  · cases h1
  · rw [← h2]
    exact h x h1
end
end Go.Proofs.Ytfhbolhmfhgeaaa
