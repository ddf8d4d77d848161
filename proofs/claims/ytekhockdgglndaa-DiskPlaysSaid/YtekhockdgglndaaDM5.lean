/-
  WHAT HOLDS OF A DISK WHATEVER IS CALLED.
  A NEW DISK'S STATE; NAMES ARE NAMES, WHATEVER IS CALLED.
-/
import Derived.Test.YtekhockdgglndaaDM4
namespace Go.Proofs.Ytekhockdgglndaa
set_option linter.unusedVariables false
set_option linter.unusedSimpArgs false
open Go.RowKit Go.Maps

def most (c : Nat) : Nat := 2000 + 500 * c
/-- Names are the sure ones behind the turns that wait; each name's file is there. -/
structure Inv (S : St) : Prop where
  names : S.names = acts S.waits S.sure
  ris : Ris S.sure
  good : Good S.waits S.sure
  sound : ∀ k, k ≤ S.waits.length → Sound (acts (S.waits.take k) S.sure) S.fs
  wl : S.waits.length ≤ S.calls
  fl : S.fs.length ≤ 64 + S.calls
  dl : ∀ f ∈ S.fs, f.data.length ≤ most S.calls
  ul : ∀ f ∈ S.fs, f.unsure ≤ most S.calls
  cap : 0 ≤ S.cap ∧ S.cap ≤ 1048576

theorem Ris.act {N : NL} (h : Ris N) : ∀ t : Tn, Ris (t.act N)
  | .create k b => h.put k b
  | .rename k m => by
    show Ris (match nat? k N with | some b => nput m b (ndel k N) | none => N)
    cases nat? k N with
    | none => exact h
    | some b => exact (h.del k).put m b
  | .remove k => h.del k
theorem Ris.acts : ∀ (l : List Tn) {N : NL}, Ris N → Ris (acts l N)
  | [], _, h => h
  | t :: r, _, h => Ris.acts r (h.act t)
theorem acts_end (l : List Tn) (t : Tn) (N : NL) : acts (l ++ [t]) N = t.act (acts l N) := by unfold acts; rw [List.foldl_append]; rfl
theorem Good.snoc {t : Tn} : ∀ {l : List Tn} {N : NL}, Good l N → t.ok (acts l N) → (t.act (acts l N)).length ≤ 64 → Good (l ++ [t]) N
  | [], N, h, h1, h2 => ⟨h, h1, h2⟩
  | a :: l, N, h, h1, h2 => ⟨h.1, h.2.1, Good.snoc h.2.2 h1 h2⟩
theorem nat?_del_other {k k' : Nm} {N : NL} (h : Ris N) (hne : k' ≠ k) : nat? k' (ndel k N) = nat? k' N := by
  cases e : nat? k' N with
  | none => exact nat?_none.2 fun p hp => nat?_none.1 e p (mem_ndel.1 hp).1
  | some b => exact (h.del k).at (mem_ndel.2 ⟨nat?_some e, hne⟩)

section
variable {S : St}
theorem begun_le (S : St) : S.calls ≤ S.begun.calls ∧ S.begun.calls ≤ S.calls + 1 := by
  unfold St.begun
  split
  · exact ⟨Nat.le_refl _, Nat.le_succ _⟩
  · split
    · exact ⟨Nat.le_succ _, Nat.le_refl _⟩
    · exact ⟨Nat.le_succ _, Nat.le_refl _⟩
theorem begun_ok (h : S.berr = 0) : S.begun.calls = S.calls + 1 := by
  unfold St.berr at h
  unfold St.begun
  by_cases h1 : S.dead = true
  · rw [if_pos h1] at h; omega
  · rw [if_neg h1]
    split <;> rfl
theorem most_le {a b : Nat} (h : a ≤ b) : most a ≤ most b := by unfold most; omega
theorem Inv.len (h : Inv S) : S.names.length ≤ 64 := by
  have := (h.good.at (Nat.le_refl _)).1
  rwa [List.take_length, ← h.names] at this
theorem Inv.snd (h : Inv S) : Sound S.names S.fs := by
  have := h.sound _ (Nat.le_refl _)
  rwa [List.take_length, ← h.names] at this
theorem Inv.closed (h : Inv S) : Closed S.names S.fs := h.snd.closed
theorem Inv.risN (h : Inv S) : Ris S.names := by rw [h.names]; exact h.ris.acts _
/-- More calls, and what doesn't matter. -/
theorem Inv.like (h : Inv S) {T : St} (h1 : T.names = S.names) (h2 : T.sure = S.sure) (h3 : T.waits = S.waits) (h4 : T.fs = S.fs) (h5 : T.cap = S.cap) (h6 : S.calls ≤ T.calls) : Inv T := by
  refine ⟨by rw [h1, h2, h3]; exact h.names, by rw [h2]; exact h.ris, by rw [h2, h3]; exact h.good, by rw [h2, h3, h4]; exact h.sound, by rw [h3]; have := h.wl; omega, by rw [h4]; have := h.fl; omega, ?_, ?_, by rw [h5]; exact h.cap⟩
  · rw [h4]; exact fun f hf => Nat.le_trans (h.dl f hf) (most_le h6)
  · rw [h4]; exact fun f hf => Nat.le_trans (h.ul f hf) (most_le h6)
theorem Inv.begun (h : Inv S) : Inv S.begun := h.like S.begun_names S.begun_sure S.begun_waits S.begun_fs S.begun_cap (begun_le S).1
theorem Sound.map {N : NL} {fs fs' : List Fl} (h : Sound N fs) (hm : ∀ f ∈ fs, (∃ p ∈ N, f.blk = p.2) → f.unsure ≤ f.data.length → ∃ f' ∈ fs', f'.blk = f.blk ∧ f'.unsure ≤ f'.data.length) : Sound N fs' := fun p hp => by
  obtain ⟨f, hf, hb, hu⟩ := h p hp
  obtain ⟨f', h1, h2, h3⟩ := hm f hf ⟨p, hp, hb⟩ hu
  exact ⟨f', h1, h2.trans hb, h3⟩
theorem Inv.files (h : Inv S) {fs' : List Fl} (hm : ∀ f ∈ S.fs, f.unsure ≤ f.data.length → ∃ f' ∈ fs', f'.blk = f.blk ∧ f'.unsure ≤ f'.data.length) (hl : fs'.length ≤ 64 + S.calls) (hd : ∀ f ∈ fs', f.data.length ≤ most S.calls) (hu : ∀ f ∈ fs', f.unsure ≤ most S.calls) : Inv { S with fs := fs' } :=
  ⟨h.names, h.ris, h.good, fun k hk => (h.sound k hk).map fun f hf _ hs => hm f hf hs, h.wl, hl, hd, hu, h.cap⟩
theorem Inv.turned (h : Inv S) {t : Tn} (hw : S.waits.length + 1 ≤ S.calls) (hok : t.ok S.names) (hl : (t.act S.names).length ≤ 64) (hs : Sound (t.act S.names) S.fs) : Inv (S.turned t) := by
  have hn := h.names
  refine ⟨?_, h.ris, ?_, ?_, ?_, h.fl, h.dl, h.ul, h.cap⟩
  · show t.act S.names = acts (S.waits ++ [t]) S.sure
    rw [acts_end, ← hn]
  · exact h.good.snoc (by rw [← hn]; exact hok) (by rw [← hn]; exact hl)
  · intro k hk
    show Sound (acts ((S.waits ++ [t]).take k) S.sure) S.fs
    by_cases hk' : k ≤ S.waits.length
    · rw [List.take_append_of_le_length hk']
      exact h.sound k hk'
    · rw [List.take_of_length_le (by simp; omega), acts_end, ← hn]
      exact hs
  · show (S.waits ++ [t]).length ≤ S.calls
    simp
    omega
theorem mem_updF {b : Nat} {u : Fl → Fl} {fs : List Fl} {f : Fl} (hf : f ∈ fs) : (if f.blk = b then u f else f) ∈ updF b u fs := List.mem_map.2 ⟨f, hf, rfl⟩
theorem of_updF {b : Nat} {u : Fl → Fl} {fs : List Fl} {f : Fl} (hf : f ∈ updF b u fs) : ∃ g ∈ fs, f = if g.blk = b then u g else g := by
  obtain ⟨g, h1, h2⟩ := List.mem_map.1 hf
  exact ⟨g, h1, h2.symm⟩
theorem updF_len (b : Nat) (u : Fl → Fl) (fs : List Fl) : (updF b u fs).length = fs.length := by simp [updF]

theorem Inv.append (h : Inv S) (k : Nm) (b : List Int) (hb : b.length ≤ 500) : Inv (S.append k b).1 := by
  unfold St.append
  by_cases he : S.berr ≠ 0
  · rw [if_pos he]; exact h.begun
  · rw [if_neg he]
    have he : S.berr = 0 := by omega
    have hc := begun_ok he
    split
    · exact h.begun
    · split
      · exact h.begun
      · have hB := h.begun
        have e := S.begun_fs
        refine hB.files (fun f hf hs => ?_) (by rw [updF_len]; have := hB.fl; rw [e] at this; exact this) (fun f hf => ?_) (fun f hf => ?_)
        · rw [e] at hf
          refine ⟨_, mem_updF hf, ?_, ?_⟩
          · split <;> rfl
          · split
            · simp; omega
            · exact hs
        · obtain ⟨g, hg, rfl⟩ := of_updF hf
          have := h.dl g hg
          rw [hc]
          unfold most at this ⊢
          split
          · simp; omega
          · omega
        · obtain ⟨g, hg, rfl⟩ := of_updF hf
          have := h.ul g hg
          rw [hc]
          unfold most at this ⊢
          split
          · simp; omega
          · omega
theorem Inv.sync (h : Inv S) (k : Nm) : Inv (S.sync k).1 := by
  unfold St.sync
  by_cases he : S.berr ≠ 0
  · rw [if_pos he]; exact h.begun
  · rw [if_neg he]
    split
    · exact h.begun
    · have hB := h.begun
      have e := S.begun_fs
      refine hB.files (fun f hf hs => ?_) (by rw [updF_len]; have := hB.fl; rw [e] at this; exact this) (fun f hf => ?_) (fun f hf => ?_)
      · rw [e] at hf
        refine ⟨_, mem_updF hf, ?_, ?_⟩
        · split <;> rfl
        · split
          · simp
          · exact hs
      · obtain ⟨g, hg, rfl⟩ := of_updF hf
        have := hB.dl g (by rw [e]; exact hg)
        split <;> exact this
      · obtain ⟨g, hg, rfl⟩ := of_updF hf
        have := hB.ul g (by rw [e]; exact hg)
        split
        · simp
        · exact this
theorem Inv.create (h : Inv S) (k : Nm) (b : Nat) : Inv (S.create k b).1 := by
  unfold St.create
  by_cases he : S.berr ≠ 0
  · rw [if_pos he]; exact h.begun
  · rw [if_neg he]
    have he : S.berr = 0 := by omega
    have hc := begun_ok he
    split
    · exact h.begun
    · split
      · exact h.begun
      · split
        · exact h.begun
        · rename_i hn hl
          have hB := h.begun
          have e := S.begun_fs
          have h1 : Inv ({ S.begun with fs := S.fs ++ [newFl b] } : St) := by
            refine hB.files (fun f hf hs => ⟨f, by rw [e] at hf; simp [hf], rfl, hs⟩) ?_ (fun f hf => ?_) (fun f hf => ?_)
            · have := h.fl
              rw [hc]
              simp
              omega
            · rcases List.mem_append.1 hf with hf | hf
              · exact hB.dl f (by rw [e]; exact hf)
              · rw [List.mem_singleton.1 hf]; simp [newFl]
            · rcases List.mem_append.1 hf with hf | hf
              · exact hB.ul f (by rw [e]; exact hf)
              · rw [List.mem_singleton.1 hf]; simp [newFl]
          refine h1.turned ?_ trivial ?_ ?_
          · show S.begun.waits.length + 1 ≤ S.begun.calls
            rw [S.begun_waits, hc]
            have := h.wl
            omega
          · show (nput k b S.begun.names).length ≤ 64
            rw [S.begun_names]
            have := len_nput_le k b S.names
            omega
          · intro p hp
            have hp : p ∈ nput k b S.begun.names := hp
            rcases mem_nput.1 hp with rfl | ⟨hp, _⟩
            · exact ⟨newFl b, by simp, rfl, by simp [newFl]⟩
            · obtain ⟨f, h2, h3, h4⟩ := h1.snd p hp
              exact ⟨f, h2, h3, h4⟩
theorem Inv.remove (h : Inv S) (k : Nm) : Inv (S.remove k).1 := by
  unfold St.remove
  by_cases he : S.berr ≠ 0
  · rw [if_pos he]; exact h.begun
  · rw [if_neg he]
    have he : S.berr = 0 := by omega
    have hc := begun_ok he
    split
    · exact h.begun
    · refine h.begun.turned ?_ trivial ?_ ?_
      · rw [S.begun_waits, hc]
        have := h.wl
        omega
      · rw [S.begun_names]
        exact Nat.le_trans (len_ndel_le k S.names) h.len
      · rw [S.begun_names, S.begun_fs]
        exact fun p hp => h.snd p (mem_ndel.1 hp).1
theorem Inv.rename (h : Inv S) (k m : Nm) : Inv (S.rename k m).1 := by
  unfold St.rename
  by_cases he : S.berr ≠ 0
  · rw [if_pos he]; exact h.begun
  · rw [if_neg he]
    have he : S.berr = 0 := by omega
    have hc := begun_ok he
    split
    · exact h.begun
    · rename_i b hb
      split
      · have hact : (Tn.rename k m).act S.names = nput m b (ndel k S.names) := by
          show (match nat? k S.names with | some b => nput m b (ndel k S.names) | none => S.names) = _
          rw [hb]
        refine h.begun.turned ?_ ⟨b, by rw [S.begun_names]; exact hb⟩ ?_ ?_
        · rw [S.begun_waits, hc]
          have := h.wl
          omega
        · rw [S.begun_names, hact]
          have h1 := len_nput_le m b (ndel k S.names)
          have h2 : (ndel k S.names).length < S.names.length := by
            unfold ndel
            exact List.length_filter_lt_length_iff_exists.2 ⟨_, nat?_some hb, by simp⟩
          have := h.len
          omega
        · rw [S.begun_names, S.begun_fs, hact]
          intro p hp
          rcases mem_nput.1 hp with rfl | ⟨hp, _⟩
          · obtain ⟨f, h1, h2, h3⟩ := h.snd _ (nat?_some hb)
            exact ⟨f, h1, h2, h3⟩
          · exact h.snd p (mem_ndel.1 hp).1
      · exact h.begun
theorem mem_marked {N : NL} {fs : List Fl} {f : Fl} : f ∈ marked N fs ↔ ∃ g ∈ fs, f = { g with named := N.any fun p => p.2 == g.blk } := by
  unfold marked
  rw [List.mem_map]
  exact ⟨fun ⟨g, h1, h2⟩ => ⟨g, h1, h2.symm⟩, fun ⟨g, h1, h2⟩ => ⟨g, h1, h2.symm⟩⟩
theorem any_blk {N : NL} {b : Nat} : (N.any fun p => p.2 == b) = true ↔ ∃ p ∈ N, p.2 = b := by simp
theorem Inv.keptNames (h : Inv S) : Inv S.keptNames := by
  have hl := h.len
  have e : S.keptNames.fs = marked S.names S.fs := rfl
  refine ⟨rfl, h.risN, hl, fun k hk => ?_, Nat.zero_le _, ?_, ?_, ?_, h.cap⟩
  · show Sound (acts (([] : List Tn).take k) S.names) (marked S.names S.fs)
    rw [List.take_nil]
    exact h.snd.map fun f hf _ hs => ⟨_, mem_marked.2 ⟨f, hf, rfl⟩, rfl, hs⟩
  · rw [e]; unfold marked; rw [List.length_map]; exact h.fl
  · rw [e]
    intro f hf
    obtain ⟨g, hg, rfl⟩ := mem_marked.1 hf
    exact h.dl g hg
  · rw [e]
    intro f hf
    obtain ⟨g, hg, rfl⟩ := mem_marked.1 hf
    exact h.ul g hg
theorem mem_keep {p : Fl → Bool} {fs : List Fl} {f : Fl} : f ∈ keep p fs ↔ f ∈ fs ∧ p f = false := by unfold keep; rw [List.mem_filter]; simp
theorem clr_blk (f : Fl) : (clr f).blk = f.blk := by unfold clr; split <;> rfl
theorem clr_named {f : Fl} (h : f.named = true) : clr f = f := by unfold clr; rw [if_pos h]
/-- Files whose names are sure are named. -/
def Named (S : St) : Prop := ∀ f ∈ S.fs, (∃ p ∈ S.names, p.2 = f.blk) → f.named = true
theorem keptNames_named (S : St) : Named S.keptNames := by
  intro f hf ⟨p, hp, hb⟩
  have hf : f ∈ marked S.names S.fs := hf
  obtain ⟨g, hg, rfl⟩ := mem_marked.1 hf
  exact any_blk.2 ⟨p, hp, hb⟩
theorem Inv.forgot (h : Inv S) (hw : S.waits = []) (hn : Named S) : Inv S.forgot := by
  have e : S.forgot.fs = (keep goneSure S.fs).map clr := rfl
  refine ⟨h.names, h.ris, h.good, fun k hk => ?_, h.wl, ?_, ?_, ?_, h.cap⟩
  · show Sound (acts (S.waits.take k) S.sure) ((keep goneSure S.fs).map clr)
    have hN : acts (S.waits.take k) S.sure = S.names := by rw [h.names, hw, List.take_nil]
    rw [hN]
    refine h.snd.map fun f hf ⟨p, hp, hb⟩ hs => ?_
    have hnm := hn f hf ⟨p, hp, hb.symm⟩
    exact ⟨f, List.mem_map.2 ⟨f, mem_keep.2 ⟨hf, by simp [goneSure, hnm]⟩, clr_named hnm⟩, rfl, hs⟩
  · rw [e, List.length_map]
    exact Nat.le_trans (List.length_filter_le _ _) h.fl
  · rw [e]
    intro f hf
    obtain ⟨g, hg, rfl⟩ := List.mem_map.1 hf
    have := h.dl g (mem_keep.1 hg).1
    unfold clr
    split
    · exact this
    · simp
  · rw [e]
    intro f hf
    obtain ⟨g, hg, rfl⟩ := List.mem_map.1 hf
    have := h.ul g (mem_keep.1 hg).1
    unfold clr
    split <;> exact this
theorem Inv.syncDir (h : Inv S) : Inv S.syncDir.1 := by
  unfold St.syncDir
  split
  · exact h.begun
  · exact h.begun.keptNames.forgot rfl (keptNames_named _)
theorem keepAt_blk (nums : List Int) (i : Nat) (f : Fl) : (keepAt nums i f).blk = f.blk ∧ (keepAt nums i f).named = f.named ∧ (keepAt nums i f).data.length ≤ f.data.length ∧ (keepAt nums i f).unsure ≤ f.unsure := by
  unfold keepAt
  split
  · exact ⟨rfl, rfl, Nat.le_refl _, Nat.le_refl _⟩
  · split
    · refine ⟨rfl, rfl, ?_, Nat.zero_le _⟩
      simp
      omega
    · exact ⟨rfl, rfl, Nat.le_refl _, Nat.le_refl _⟩
theorem mem_keepB {nums : List Int} : ∀ {i : Nat} {fs : List Fl} {f : Fl}, f ∈ keepB nums i fs → ∃ j, ∃ g ∈ fs, f = keepAt nums j g
  | _, [], _, h => by simp [keepB] at h
  | i, g :: r, f, h => by
    rcases List.mem_cons.1 h with rfl | h
    · exact ⟨i, g, by simp, rfl⟩
    · obtain ⟨j, g', h1, h2⟩ := mem_keepB h
      exact ⟨j, g', by simp [h1], h2⟩
theorem keepB_mem {nums : List Int} : ∀ {i : Nat} {fs : List Fl} {f : Fl}, f ∈ fs → ∃ j, keepAt nums j f ∈ keepB nums i fs
  | _, [], _, h => by simp at h
  | i, g :: r, f, h => by
    rcases List.mem_cons.1 h with rfl | h
    · exact ⟨i, by simp [keepB]⟩
    · obtain ⟨j, h1⟩ := keepB_mem (nums := nums) (i := if g.unsure = 0 then i else i + 1) h
      exact ⟨j, by simp [keepB, h1]⟩
theorem Inv.names_of (h : Inv S) {N : NL} (hr : Ris N) (hl : N.length ≤ 64) (hs : Sound N S.fs) : Inv { S with names := N, sure := N, waits := [] } :=
  ⟨rfl, hr, hl, fun k hk => by show Sound (acts (([] : List Tn).take k) N) S.fs; rw [List.take_nil]; exact hs, Nat.zero_le _, h.fl, h.dl, h.ul, h.cap⟩
theorem Inv.booted (h : Inv S) (hn : Named S) (hw : S.waits = []) (nums : List Int) {T : St} (h1 : T.names = S.names) (h2 : T.sure = S.sure) (h3 : T.waits = S.waits) (h4 : T.fs = keep goneBoot (keepB nums 0 S.fs)) (h5 : T.cap = S.cap) (h6 : S.calls = T.calls) : Inv T := by
  refine ⟨by rw [h1, h2, h3]; exact h.names, by rw [h2]; exact h.ris, by rw [h2, h3]; exact h.good, fun k hk => ?_, by rw [h3, ← h6]; exact h.wl, ?_, fun f hf => ?_, fun f hf => ?_, by rw [h5]; exact h.cap⟩
  · have hN : acts (T.waits.take k) T.sure = S.names := by rw [h.names, h3, hw, List.take_nil, h2]
    rw [hN, h4]
    refine h.snd.map fun f hf ⟨p, hp, hb⟩ hs => ?_
    have hnm := hn f hf ⟨p, hp, hb.symm⟩
    obtain ⟨j, hj⟩ := keepB_mem (nums := nums) (i := 0) hf
    obtain ⟨e1, e2, _, _⟩ := keepAt_blk nums j f
    refine ⟨_, mem_keep.2 ⟨hj, by simp [goneBoot, e2, hnm]⟩, e1, ?_⟩
    unfold keepAt
    rw [if_pos hnm]
    split
    · exact hs
    · exact Nat.zero_le _
  · rw [h4, ← h6]
    refine Nat.le_trans (List.length_filter_le _ _) ?_
    rw [keepB_len]
    exact h.fl
  · rw [h4] at hf
    obtain ⟨j, g, hg, rfl⟩ := mem_keepB (mem_keep.1 hf).1
    rw [← h6]
    exact Nat.le_trans (keepAt_blk nums j g).2.2.1 (h.dl g hg)
  · rw [h4] at hf
    obtain ⟨j, g, hg, rfl⟩ := mem_keepB (mem_keep.1 hf).1
    rw [← h6]
    exact Nat.le_trans (keepAt_blk nums j g).2.2.2 (h.ul g hg)
theorem Inv.boot (h : Inv S) (turns : Int) (nums : List Int) : Inv (S.boot turns nums).1 := by
  unfold St.boot
  split
  · have hk := within_le turns S.waits.length
    have hN := (h.good.at hk).1
    have h1 : Inv ({ S with names := acts (S.waits.take (withinN turns S.waits.length)) S.sure, sure := acts (S.waits.take (withinN turns S.waits.length)) S.sure, waits := [] } : St) := h.names_of (h.ris.acts _) hN (h.sound _ hk)
    have h2 := h1.keptNames
    refine Inv.booted (S := ({ S with names := acts (S.waits.take (withinN turns S.waits.length)) S.sure } : St).keptNames) ?_ (keptNames_named _) rfl nums rfl rfl rfl rfl rfl rfl
    exact h2.like rfl rfl rfl rfl rfl (Nat.le_refl _)
  · exact h
end
end Go.Proofs.Ytekhockdgglndaa
namespace Go.Proofs.Ytekhockdgglndaa
set_option linter.unusedVariables false
set_option linter.unusedSimpArgs false
open Go.RowKit Go.Maps

theorem len_namesZ : ∀ {l : List FIn} {fs : List Fl} {N : NL}, (namesZ l fs N).length ≤ N.length + l.length
  | [], [], _ => Nat.le_refl _
  | [], _ :: _, _ => Nat.le_refl _
  | _ :: _, [], _ => Nat.le_add_right _ _
  | x :: l, f :: fs, N => by
    have h1 := len_namesZ (l := l) (fs := fs) (N := nput x.s.data.toList f.blk N)
    have h2 := len_nput_le x.s.data.toList f.blk N
    show (namesZ l fs (nput x.s.data.toList f.blk N)).length ≤ N.length + (l.length + 1)
    omega
theorem mem_namesZ {p : Nm × Nat} : ∀ {l : List FIn} {fs : List Fl} {N : NL}, p ∈ namesZ l fs N → p ∈ N ∨ ∃ f ∈ fs, f.blk = p.2
  | [], [], _, h => .inl h
  | [], _ :: _, _, h => .inl h
  | _ :: _, [], _, h => .inl h
  | x :: l, f :: fs, N, h => by
    rcases mem_namesZ (l := l) (fs := fs) h with h1 | ⟨g, h1, h2⟩
    · rcases mem_nput.1 h1 with rfl | ⟨h2, _⟩
      · exact .inr ⟨f, by simp, rfl⟩
      · exact .inl h2
    · exact .inr ⟨g, by simp [h1], h2⟩
theorem len_sizeF {l : List FIn} {x : FIn} (h : x ∈ l) : x.d.length ≤ sizeF l := by
  obtain ⟨k, hk⟩ := List.mem_iff_getElem?.1 h
  have h1 := sizeF_snoc hk
  have h2 := sizeF_le l (k + 1)
  omega
theorem inv_new {fs : List Fl} {l : List FIn} {cap : Int} (hm : Made fs l) (hl : l.length ≤ 64) (hs : sizeF l ≤ 2000) (hcap : 0 ≤ cap ∧ cap ≤ 1048576) : Inv (newSt cap fs (namesZ l fs [])) := by
  have hlen := len_namesZ (l := l) (fs := fs) (N := [])
  have hlen : (namesZ l fs []).length ≤ 64 := by simp at hlen; omega
  refine ⟨rfl, ris_namesZ Ris.nil, hlen, fun k hk => ?_, Nat.zero_le _, by show fs.length ≤ 64 + 0; rw [hm.len]; exact hl, fun f hf => ?_, fun f hf => ?_, hcap⟩
  · show Sound (acts (([] : List Tn).take k) (namesZ l fs [])) fs
    rw [List.take_nil]
    intro p hp
    have hp : p ∈ namesZ l fs [] := hp
    rcases mem_namesZ hp with h | ⟨f, h1, h2⟩
    · cases h
    · obtain ⟨x, _, _, hu, _⟩ := hm.mem f h1
      exact ⟨f, h1, h2, by omega⟩
  · obtain ⟨x, hx, hd, hu, _⟩ := hm.mem f hf
    rw [hd]
    have := len_sizeF hx
    show _ ≤ most 0
    unfold most
    omega
  · obtain ⟨x, hx, hd, hu, _⟩ := hm.mem f hf
    rw [hu]
    exact Nat.zero_le _

/-! ### names are names -/
def Keys (S : St) : Prop := ∀ k, k ≤ S.waits.length → ∀ p ∈ acts (S.waits.take k) S.sure, nameB p.1 = true
section
variable {S : St}
theorem Keys.now (h : Keys S) (I : Inv S) : ∀ p ∈ S.names, nameB p.1 = true := by
  have := h _ (Nat.le_refl _)
  rw [List.take_length, ← I.names] at this
  exact this
theorem Keys.like (h : Keys S) {T : St} (h2 : T.sure = S.sure) (h3 : T.waits = S.waits) : Keys T := by
  unfold Keys
  rw [h2, h3]
  exact h
theorem Keys.begun (h : Keys S) : Keys S.begun := h.like S.begun_sure S.begun_waits
theorem Keys.turned (h : Keys S) (I : Inv S) {t : Tn} (ht : ∀ p ∈ t.act S.names, nameB p.1 = true) : Keys (S.turned t) := by
  intro k hk
  show ∀ p ∈ acts ((S.waits ++ [t]).take k) S.sure, nameB p.1 = true
  have hk : k ≤ (S.waits ++ [t]).length := hk
  by_cases hk' : k ≤ S.waits.length
  · rw [List.take_append_of_le_length hk']
    exact h k hk'
  · rw [List.take_of_length_le (by simp at hk ⊢; omega), acts_end, ← I.names]
    exact ht
theorem Keys.all (h : ∀ p ∈ S.sure, nameB p.1 = true) (hw : S.waits = []) : Keys S := by
  intro k hk
  rw [hw, List.take_nil]
  exact h
theorem Keys.create (h : Keys S) (I : Inv S) (m : Nm) (b : Nat) : Keys (S.create m b).1 := by
  unfold St.create
  split
  · exact h.begun
  · split
    · exact h.begun
    · rename_i hm
      split
      · exact h.begun
      · split
        · exact h.begun
        · have h1 : Inv ({ S.begun with fs := S.begun.fs } : St) := I.begun
          intro k hk
          show ∀ p ∈ acts ((S.begun.waits ++ [Tn.create m b]).take k) S.begun.sure, nameB p.1 = true
          have hk : k ≤ (S.begun.waits ++ [Tn.create m b]).length := hk
          by_cases hk' : k ≤ S.begun.waits.length
          · rw [List.take_append_of_le_length hk']
            exact h.begun k hk'
          · rw [List.take_of_length_le (by simp at hk ⊢; omega), acts_end, ← I.begun.names]
            intro p hp
            have hp : p ∈ nput m b S.begun.names := hp
            rcases mem_nput.1 hp with rfl | ⟨hp, _⟩
            · simpa using hm
            · exact h.begun.now I.begun p hp
theorem Keys.remove (h : Keys S) (I : Inv S) (m : Nm) : Keys (S.remove m).1 := by
  unfold St.remove
  split
  · exact h.begun
  · split
    · exact h.begun
    · exact h.begun.turned I.begun fun p hp => h.begun.now I.begun p (mem_ndel.1 hp).1
theorem Keys.rename (h : Keys S) (I : Inv S) (m n : Nm) : Keys (S.rename m n).1 := by
  unfold St.rename
  split
  · exact h.begun
  · split
    · exact h.begun
    · rename_i c hc
      split
      · rename_i hn
        refine h.begun.turned I.begun fun p hp => ?_
        have hp : p ∈ (match nat? m S.begun.names with | some b => nput n b (ndel m S.begun.names) | none => S.begun.names) := hp
        rw [S.begun_names, hc] at hp
        have hp : p ∈ nput n c (ndel m S.names) := hp
        rcases mem_nput.1 hp with rfl | ⟨hp, _⟩
        · exact hn
        · exact h.now I p (mem_ndel.1 hp).1
      · exact h.begun
theorem Keys.append (h : Keys S) (m : Nm) (b : List Int) : Keys (S.append m b).1 := by
  unfold St.append
  (repeat' split) <;> exact h.like S.begun_sure S.begun_waits
theorem Keys.sync (h : Keys S) (m : Nm) : Keys (S.sync m).1 := by
  unfold St.sync
  (repeat' split) <;> exact h.like S.begun_sure S.begun_waits
theorem Keys.syncDir (h : Keys S) (I : Inv S) : Keys S.syncDir.1 := by
  unfold St.syncDir
  split
  · exact h.begun
  · exact Keys.all (h.begun.now I.begun) rfl
theorem Keys.boot (h : Keys S) (turns : Int) (nums : List Int) : Keys (S.boot turns nums).1 := by
  unfold St.boot
  split
  · exact Keys.all (h _ (within_le turns S.waits.length)) rfl
  · exact h
theorem keys_new {fs : List Fl} {l : List FIn} {cap : Int} (h : namesB l = true) : Keys (newSt cap fs (namesZ l fs [])) := by
  have h := (of_decide_eq_true h).2
  refine Keys.all (fun p hp => ?_) rfl
  have key : ∀ {l : List FIn} {fs : List Fl} {N : NL} {p : Nm × Nat}, p ∈ namesZ l fs N → p ∈ N ∨ ∃ x ∈ l, keyF x = p.1 := by
    intro l
    induction l with
    | nil => intro fs N p h; cases fs <;> exact .inl h
    | cons x l ih =>
      intro fs N p h
      cases fs with
      | nil => exact .inl h
      | cons f fs =>
        rcases ih (fs := fs) h with h1 | ⟨y, h1, h2⟩
        · rcases mem_nput.1 h1 with rfl | ⟨h2, _⟩
          · exact .inr ⟨x, by simp, rfl⟩
          · exact .inl h2
        · exact .inr ⟨y, by simp [h1], h2⟩
  have hp : p ∈ namesZ l fs [] := hp
  rcases key hp with h1 | ⟨x, h1, h2⟩
  · cases h1
  · rw [← h2]
    exact h x h1
end
end Go.Proofs.Ytekhockdgglndaa
