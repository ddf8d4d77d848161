/-
  THE DISK AND THE DOCUMENT'S DISK SAY THE SAME: which files are which, and what each call does to that.
  WHAT EACH CALL DOES TO THE TWO DISKS.
  WHAT BOOT DOES TO THE TWO DISKS.
-/
import Derived.Test.YtekhockdgglndaaRNames
import Derived.Test.YtekhockdgglndaaRSetFault
import Derived.Test.YtekhockdgglndaaDM5
namespace Go.Proofs.Ytekhockdgglndaa
set_option linter.unusedVariables false
set_option linter.unusedSimpArgs false
open Go.RowKit

/-- A file, and the document's; one that no name leads to may have forgotten its bytes. -/
structure FMt (live : Nat → Prop) (f : Fl) (r : RFl) : Prop where
  le : r.sure ≤ r.n
  len : r.data.length = r.n
  un : f.unsure = r.n - r.sure
  data : f.data = r.data ∨ (f.data = [] ∧ ¬ live f.blk)
/-- The files, and the document's from number i on: those that are no more have no bytes that are not sure. -/
inductive FR (live : Nat → Prop) (ι : Nat → Nat) : Nat → List Fl → List RFl → Prop
  | nil (i : Nat) : FR live ι i [] []
  | both {i : Nat} {f : Fl} {r : RFl} {fs : List Fl} {rs : List RFl} (h : ι f.blk = i) (m : FMt live f r) (t : FR live ι (i + 1) fs rs) : FR live ι i (f :: fs) (r :: rs)
  | skip {i : Nat} {r : RFl} {fs : List Fl} {rs : List RFl} (h : r.n = r.sure) (t : FR live ι (i + 1) fs rs) : FR live ι i fs (r :: rs)
section
variable {live live' : Nat → Prop} {ι ι' : Nat → Nat}
theorem FR.range {i : Nat} {fs : List Fl} {rs : List RFl} (h : FR live ι i fs rs) : ∀ f ∈ fs, i ≤ ι f.blk ∧ ι f.blk < i + rs.length := by
  induction h with
  | nil i => intro f hf; cases hf
  | both h m t ih =>
    intro f hf
    rcases List.mem_cons.1 hf with rfl | hf
    · simp [h]
    · have := ih f hf
      simp
      omega
  | skip h t ih =>
    intro f hf
    have := ih f hf
    simp
    omega
theorem FR.file {i : Nat} {fs : List Fl} {rs : List RFl} (h : FR live ι i fs rs) : ∀ f ∈ fs, ∃ r, rs[ι f.blk - i]? = some r ∧ FMt live f r := by
  induction h with
  | nil i => intro f hf; cases hf
  | @both i g r fs rs h m t ih =>
    intro f hf
    rcases List.mem_cons.1 hf with rfl | hf
    · exact ⟨r, by rw [h, Nat.sub_self]; rfl, m⟩
    · obtain ⟨r2, h2, m2⟩ := ih f hf
      have := t.range f hf
      refine ⟨r2, ?_, m2⟩
      rw [show ι f.blk - i = (ι f.blk - (i + 1)) + 1 by omega]
      simpa using h2
  | @skip i r fs rs h t ih =>
    intro f hf
    obtain ⟨r2, h2, m2⟩ := ih f hf
    have := t.range f hf
    refine ⟨r2, ?_, m2⟩
    rw [show ι f.blk - i = (ι f.blk - (i + 1)) + 1 by omega]
    simpa using h2
theorem FR.inj {i : Nat} {fs : List Fl} {rs : List RFl} (h : FR live ι i fs rs) : ∀ f ∈ fs, ∀ g ∈ fs, ι f.blk = ι g.blk → f = g := by
  induction h with
  | nil i => intro f hf; cases hf
  | both h m t ih =>
    intro f hf g hg e
    rcases List.mem_cons.1 hf with h1 | h1
    · rcases List.mem_cons.1 hg with h2 | h2
      · rw [h1, h2]
      · have := t.range g h2; rw [← e, h1, h] at this; omega
    · rcases List.mem_cons.1 hg with h2 | h2
      · have := t.range f h1; rw [e, h2, h] at this; omega
      · exact ih f h1 g h2 e
  | skip h t ih => exact ih
theorem FR.mono {i : Nat} {fs : List Fl} {rs : List RFl} (h : FR live ι i fs rs) (hl : ∀ f ∈ fs, live' f.blk → live f.blk) (hi : ∀ f ∈ fs, ι' f.blk = ι f.blk) : FR live' ι' i fs rs := by
  induction h with
  | nil i => exact .nil i
  | both h m t ih =>
    refine .both (by rw [hi _ (by simp)]; exact h) ⟨m.le, m.len, m.un, m.data.imp id fun d => ⟨d.1, fun hh => d.2 (hl _ (by simp) hh)⟩⟩ (ih (fun f hf => hl f (by simp [hf])) fun f hf => hi f (by simp [hf]))
  | skip h t ih => exact .skip h (ih hl hi)
theorem FR.snoc {i : Nat} {fs : List Fl} {rs : List RFl} (h : FR live ι i fs rs) {f : Fl} {r : RFl} (hf : ι f.blk = i + rs.length) (m : FMt live f r) : FR live ι i (fs ++ [f]) (rs ++ [r]) := by
  induction h with
  | nil i => exact .both (by simpa using hf) m (.nil _)
  | both h m' t ih => exact .both h m' (ih (by rw [hf]; simp; omega))
  | skip h t ih => exact .skip h (ih (by rw [hf]; simp; omega))
/-- One file turns. -/
theorem FR.upd {i : Nat} {fs : List Fl} {rs : List RFl} (h : FR live ι i fs rs) {b : Nat} {u : Fl → Fl} (hu : ∀ f, (u f).blk = f.blk) {v : RFl → RFl} (hv : ∀ f ∈ fs, ∀ r, f.blk = b → FMt live f r → FMt live (u f) (v r)) (hb : ∃ f ∈ fs, f.blk = b) {r : RFl} (hr : rs[ι b - i]? = some r) :
    FR live ι i (updF b u fs) (rs.set (ι b - i) (v r)) := by
  induction h with
  | nil i => obtain ⟨f, hf, _⟩ := hb; cases hf
  | @both i g r0 fs rs h m t ih =>
    by_cases e : g.blk = b
    · have hi0 : ι b - i = 0 := by rw [← e, h]; omega
      rw [hi0] at hr ⊢
      have hrr : r0 = r := by simpa using hr
      subst hrr
      have hrest : updF b u fs = fs := by
        unfold updF
        conv => rhs; rw [← List.map_id fs]
        refine List.map_congr_left fun f hf => ?_
        rw [if_neg]
        · rfl
        intro e2
        have := t.range f hf
        rw [e2, ← e, h] at this
        omega
      have : updF b u (g :: fs) = u g :: fs := by
        have := hrest
        unfold updF at this ⊢
        rw [List.map_cons, if_pos e, this]
      rw [this, List.set_cons_zero]
      exact .both (by rw [hu]; exact h) (hv g (by simp) r0 e m) t
    · have hb' : ∃ f ∈ fs, f.blk = b := by
        obtain ⟨f, hf, hfb⟩ := hb
        rcases List.mem_cons.1 hf with rfl | hf
        · exact absurd hfb e
        · exact ⟨f, hf, hfb⟩
      have hrg : i + 1 ≤ ι b := by
        obtain ⟨f, hf, hfb⟩ := hb'
        have := t.range f hf
        rw [hfb] at this
        exact this.1
      have e1 : ι b - i = (ι b - (i + 1)) + 1 := by omega
      rw [e1] at hr ⊢
      have := ih (fun f hf => hv f (by simp [hf])) hb' (by simpa using hr)
      have e2 : updF b u (g :: fs) = g :: updF b u fs := by
        unfold updF
        rw [List.map_cons, if_neg e]
      rw [e2, List.set_cons_succ]
      exact .both h m this
  | @skip i r0 fs rs h t ih =>
    have hrg : i + 1 ≤ ι b := by
      obtain ⟨f, hf, hfb⟩ := hb
      have := t.range f hf
      rw [hfb] at this
      exact this.1
    have e1 : ι b - i = (ι b - (i + 1)) + 1 := by omega
    rw [e1] at hr ⊢
    rw [List.set_cons_succ]
    exact .skip h (ih hv hb (by simpa using hr))
end
def livef (S : St) (b : Nat) : Prop := ∃ k, k ≤ S.waits.length ∧ ∃ p ∈ acts (S.waits.take k) S.sure, p.2 = b
/-- The turns, and the document's. -/
def WR (ι : Nat → Nat) : List Tn → List RT → Prop
  | [], [] => True
  | t :: l, T :: m => TnRel ι t T ∧ WR ι l m
  | _, _ => False
theorem WR.len {ι : Nat → Nat} : ∀ {l : List Tn} {m : List RT}, WR ι l m → l.length = m.length
  | [], [], _ => rfl
  | _ :: _, _ :: _, h => by simp [WR.len h.2]
theorem WR.snoc {ι : Nat → Nat} {t : Tn} {T : RT} (h : TnRel ι t T) : ∀ {l : List Tn} {m : List RT}, WR ι l m → WR ι (l ++ [t]) (m ++ [T])
  | [], [], _ => ⟨h, trivial⟩
  | _ :: _, _ :: _, h2 => ⟨h2.1, WR.snoc h h2.2⟩
theorem WR.mono {ι ι' : Nat → Nat} : ∀ {l : List Tn} {m : List RT}, WR ι l m → (∀ k b, Tn.create k b ∈ l → ι' b = ι b) → WR ι' l m
  | [], [], _, _ => trivial
  | t :: _, T :: _, h, hi => ⟨by
      cases t with
      | create k b =>
        obtain ⟨h1, h2, h3⟩ := h.1
        exact ⟨h1, h2, by rw [hi k b (by simp)]; exact h3⟩
      | rename k m => exact h.1
      | remove k => exact h.1, WR.mono h.2 fun k b hm => hi k b (by simp [hm])⟩
theorem WR.acts {ι : Nat → Nat} : ∀ {l : List Tn} {m : List RT} (k : Nat) {N : List RE} {M : NL}, WR ι l m → nl N = mapI ι M → nl (rdos N (m.take k)) = mapI ι (acts (l.take k) M)
  | _, _, 0, _, _, _, h => by simpa [rdos, Go.Proofs.Ytekhockdgglndaa.acts] using h
  | [], [], k + 1, _, _, _, h => by simpa [rdos, Go.Proofs.Ytekhockdgglndaa.acts] using h
  | t :: l, T :: m, k + 1, N, M, hw, h => by
    have := WR.acts k hw.2 (nl_do hw.1 h)
    simpa [rdos, Go.Proofs.Ytekhockdgglndaa.acts] using this
/-- The two disks are one. -/
structure Sim (ι : Nat → Nat) (S : St) (R : RS) : Prop where
  fr : FR (livef S) ι 0 S.fs R.files
  now : nl R.now = mapI ι S.names
  sure : nl R.sure = mapI ι S.sure
  waits : WR ι S.waits R.waits
  cap : R.cap = S.cap
  dead : R.dead = S.dead
  calls : R.calls = S.calls
  fuse : R.fuse = S.fuse - S.calls
  fault : R.fault = S.fault - S.calls
  e : R.e = S.fe
section
variable {ι : Nat → Nat} {S : St} {R : RS}
theorem Sim.begun (h : Sim ι S R) : R.begun.1 = S.berr ∧ Sim ι S.begun R.begun.2 := by
  have hd := h.dead
  have hf := h.fuse
  have hg := h.fault
  have hc := h.calls
  unfold RS.begun St.berr St.begun
  by_cases d : S.dead = true
  · rw [if_pos (by rw [hd]; exact d), if_pos d, if_pos d]
    exact ⟨rfl, h⟩
  · rw [if_neg (by rw [hd]; exact d), if_neg d, if_neg d]
    by_cases f : S.calls + 1 = S.fuse
    · rw [if_pos (by omega), if_pos f, if_pos f]
      exact ⟨rfl, h.fr, h.now, h.sure, h.waits, h.cap, rfl, by show R.calls + 1 = S.calls + 1; omega, by show R.fuse - 1 = S.fuse - (S.calls + 1); omega, by show R.fault - 1 = S.fault - (S.calls + 1); omega, h.e⟩
    · rw [if_neg (by omega), if_neg f, if_neg f]
      by_cases g : S.calls + 1 = S.fault
      · rw [if_pos (by omega), if_pos g]
        exact ⟨h.e, h.fr, h.now, h.sure, h.waits, h.cap, hd, by show R.calls + 1 = S.calls + 1; omega, by show R.fuse - 1 = S.fuse - (S.calls + 1); omega, by show R.fault - 1 = S.fault - (S.calls + 1); omega, h.e⟩
      · rw [if_neg (by omega), if_neg g]
        exact ⟨rfl, h.fr, h.now, h.sure, h.waits, h.cap, hd, by show R.calls + 1 = S.calls + 1; omega, by show R.fuse - 1 = S.fuse - (S.calls + 1); omega, by show R.fault - 1 = S.fault - (S.calls + 1); omega, h.e⟩
theorem live_now (I : Inv S) {p : Nm × Nat} (h : p ∈ S.names) : livef S p.2 := ⟨S.waits.length, Nat.le_refl _, p, by rw [List.take_length, ← I.names]; exact h, rfl⟩
theorem live_in (I : Inv S) {b : Nat} (h : livef S b) : ∃ f ∈ S.fs, f.blk = b := by
  obtain ⟨k, hk, p, hp, rfl⟩ := h
  exact (I.sound k hk).closed p hp
theorem Sim.find (h : Sim ι S R) (s : ByteArray) : rfind R.now s = match nat? s.data.toList S.names with | some b => (ι b : Int) | none => -1 := by
  rw [rfind_nl, h.now, mapI_at]
  cases nat? s.data.toList S.names <;> rfl
theorem Sim.place (h : Sim ι S R) (I : Inv S) {k : Nm} {b : Nat} (hk : nat? k S.names = some b) : ∃ f r, f ∈ S.fs ∧ f.blk = b ∧ R.files[ι b]? = some r ∧ FMt (livef S) f r ∧ f.data = r.data := by
  obtain ⟨f, hf, hb⟩ := live_in I (live_now I (nat?_some hk))
  obtain ⟨r, hr, m⟩ := h.fr.file f hf
  rw [hb, Nat.sub_zero] at hr
  refine ⟨f, r, hf, hb, hr, m, m.data.elim id fun d => absurd ?_ d.2⟩
  rw [hb]
  exact live_now I (nat?_some hk)
theorem Sim.used (h : Sim ι S R) (I : Inv S) : R.used = dusedOf S.names S.fs := by
  have key : ∀ (N : List RE) (M : NL), nl N = mapI ι M → (∀ p ∈ M, p ∈ S.names) → usedOf R.files N = dusedOf M S.fs := by
    intro N
    induction N with
    | nil =>
      intro M hM _
      cases M with
      | nil => rfl
      | cons p M => simp [nl, mapI] at hM
    | cons q N ih =>
      intro M hM hin
      cases M with
      | nil => simp [nl, mapI] at hM
      | cons p M =>
        simp only [nl, mapI, List.map_cons, List.cons.injEq, Prod.mk.injEq] at hM
        have h1 := ih M hM.2 fun x hx => hin x (by simp [hx])
        have h2 : lenAt R.files q.2 = dlenAt S.fs p.2 := by
          have hp := hin p (by simp)
          obtain ⟨f, r, hf, hb, hr, m, hd⟩ := h.place I (k := p.1) (b := p.2) (I.risN.at hp)
          rw [hM.1.2, lenAt_of hr]
          have : dlenAt S.fs p.2 = f.data.length := by
            unfold dlenAt
            have hfind : S.fs.find? (fun f => f.blk == p.2) = some f := by
              cases hq : S.fs.find? (fun f => f.blk == p.2) with
              | none =>
                have := List.find?_eq_none.1 hq f hf
                simp [hb] at this
              | some g =>
                have hg := List.mem_of_find?_eq_some hq
                have hgb : g.blk = p.2 := by simpa using List.find?_some hq
                rw [h.fr.inj g hg f hf (by rw [hgb, hb])]
            rw [hfind]
          rw [this, hd, m.len]
        unfold usedOf dusedOf at h1 ⊢
        simp only [List.map_cons, List.sum_cons]
        rw [h1, h2]
  exact key R.now S.names h.now fun p hp => hp
end
end Go.Proofs.Ytekhockdgglndaa
namespace Go.Proofs.Ytekhockdgglndaa
set_option linter.unusedVariables false
set_option linter.unusedSimpArgs false
open Go.RowKit

/-- The document's disk is no greater than it may be. -/
structure WB (R : RS) (c : Nat) : Prop where
  len : R.files.length ≤ 64 + c
  n : ∀ r ∈ R.files, r.n ≤ most c
  fuse : R.fuse ≤ 1099511627776
  fault : R.fault ≤ 1099511627776
def Both (A : St × Int) (B : Int × RS) : Prop := B.1 = A.2 ∧ ∃ ι, Sim ι A.1 B.2 ∧ WB B.2 A.1.calls
section
variable {ι : Nat → Nat} {S : St} {R : RS}
theorem WB.begun (h : WB R S.calls) (hs : Sim ι S R) : WB R.begun.2 S.begun.calls := by
  obtain ⟨_, ef, _⟩ := R.begun_now
  have hc := (begun_le S).1
  refine ⟨by rw [ef]; have := h.len; omega, by rw [ef]; exact fun r hr => Nat.le_trans (h.n r hr) (most_le hc), ?_, ?_⟩
  · have := h.fuse
    unfold RS.begun
    split
    · exact this
    · split
      · show R.fuse - 1 ≤ _; omega
      · split <;> (show R.fuse - 1 ≤ _; omega)
  · have := h.fault
    unfold RS.begun
    split
    · exact this
    · split
      · show R.fault - 1 ≤ _; omega
      · split <;> (show R.fault - 1 ≤ _; omega)
theorem both_begun (h : Sim ι S R) (B : WB R S.calls) (he : S.berr ≠ 0) : Both (S.begun, S.berr) R.begun := ⟨h.begun.1, ι, h.begun.2, B.begun h⟩
theorem begun_ne (h : Sim ι S R) (he : S.berr ≠ 0) : ¬ R.begun.1 = 0 := by rw [h.begun.1]; exact he
theorem begun_zero (h : Sim ι S R) (he : S.berr = 0) : R.begun.1 = 0 := by rw [h.begun.1]; exact he
theorem find_none (h : Sim ι S R) {s : ByteArray} (hk : nat? s.data.toList S.names = none) : rfind R.begun.2.now s < 0 := by
  have := h.begun.2.find s
  rw [S.begun_names, hk] at this
  rw [this]
  show (-1 : Int) < 0
  decide
theorem find_some (h : Sim ι S R) {s : ByteArray} {b : Nat} (hk : nat? s.data.toList S.names = some b) : rfind R.begun.2.now s = (ι b : Int) ∧ ¬ rfind R.begun.2.now s < 0 := by
  have := h.begun.2.find s
  rw [S.begun_names, hk] at this
  have this : rfind R.begun.2.now s = (ι b : Int) := this
  exact ⟨this, by rw [this]; exact Int.not_lt.2 (Int.natCast_nonneg _)⟩
/-- One file turns, and no name. -/
theorem Sim.setFile (h : Sim ι S R) (I : Inv S) (B : WB R S.calls) {k : Nm} {b : Nat} (hk : nat? k S.names = some b) {u : Fl → Fl} (hu : ∀ f, (u f).blk = f.blk) {v : RFl → RFl} (hv : ∀ f ∈ S.fs, ∀ r, f.blk = b → f.data = r.data → FMt (livef S) f r → FMt (livef S) (u f) (v r)) {r : RFl} (hr : R.files[ι b]? = some r)
    (hn : (v r).n ≤ most S.calls) : Sim ι { S with fs := updF b u S.fs } (R.setFile (ι b) (v r)) ∧ WB (R.setFile (ι b) (v r)) S.calls := by
  obtain ⟨f, r', hf, hb, hr', m, hd⟩ := h.place I hk
  have hl : livef S b := live_now I (nat?_some hk)
  refine ⟨⟨?_, h.now, h.sure, h.waits, h.cap, h.dead, h.calls, h.fuse, h.fault, h.e⟩, by show (R.files.set _ _).length ≤ _; rw [List.length_set]; exact B.len, fun q hq => ?_, B.fuse, B.fault⟩
  · have := h.fr.upd hu (v := v) (b := b) (fun f hf r hb m => hv f hf r hb (m.data.elim id fun d => absurd (by rw [hb]; exact hl) d.2) m) ⟨f, hf, hb⟩ (r := r) (by rw [Nat.sub_zero]; exact hr)
    rw [Nat.sub_zero] at this
    exact this
  · rcases List.mem_or_eq_of_mem_set hq with hq | rfl
    · exact B.n q hq
    · exact hn
theorem Sim.sync (h : Sim ι S R) (I : Inv S) (B : WB R S.calls) (s : ByteArray) : Both (S.sync s.data.toList) (R.syncd s) := by
  unfold St.sync RS.syncd
  by_cases he : S.berr = 0
  · rw [if_neg (by simpa using he), if_pos (begun_zero h he)]
    have hb := h.begun.2
    have BB := B.begun h
    cases hk : nat? s.data.toList S.names with
    | none =>
      rw [if_pos (find_none h hk)]
      exact ⟨rfl, ι, hb, BB⟩
    | some b =>
      have hk' : nat? s.data.toList S.begun.names = some b := by rw [S.begun_names]; exact hk
      obtain ⟨f, r, hf, hfb, hr, m, hd⟩ := hb.place I.begun hk'
      rw [if_neg (find_some h hk).2, (find_some h hk).1, Int.toNat_natCast, hr]
      have := hb.setFile I.begun BB hk' (u := fun f => { f with unsure := 0 }) (fun _ => rfl) (v := fun r => { r with sure := r.n }) (fun f hf r hb hd m => ⟨Nat.le_refl _, m.len, by simp, m.data⟩) hr (BB.n r (List.mem_of_getElem? hr))
      rw [S.begun_fs] at this
      exact ⟨rfl, ι, this⟩
  · rw [if_pos he, if_neg (begun_ne h he)]
    exact both_begun h B he
theorem Sim.append (h : Sim ι S R) (I : Inv S) (B : WB R S.calls) (s : ByteArray) (x : List Int) (hx : x.length ≤ 500) (A : Option Addr) (c : Nat) : Both (S.append s.data.toList x) (R.append s x A c) := by
  unfold St.append RS.append
  by_cases he : S.berr = 0
  · rw [if_neg (by simpa using he), if_pos (begun_zero h he)]
    have hb := h.begun.2
    have BB := B.begun h
    cases hk : nat? s.data.toList S.names with
    | none =>
      rw [if_pos (find_none h hk)]
      exact ⟨rfl, ι, hb, BB⟩
    | some b =>
      have hk' : nat? s.data.toList S.begun.names = some b := by rw [S.begun_names]; exact hk
      obtain ⟨f, r, hf, hfb, hr, m, hd⟩ := hb.place I.begun hk'
      rw [if_neg (find_some h hk).2]
      have hu := hb.used I.begun
      rw [S.begun_names, S.begun_fs] at hu
      have hc := h.cap
      simp only
      by_cases hfull : S.cap < (dusedOf S.names S.fs : Int) + (x.length : Int)
      · rw [if_pos hfull, if_pos (by rw [hu, hc]; omega)]
        exact ⟨rfl, ι, hb, BB⟩
      · rw [if_neg hfull, if_neg (by rw [hu, hc]; omega), (find_some h hk).1, Int.toNat_natCast, hr]
        have hcl : S.begun.calls = S.calls + 1 := begun_ok he
        have hrn : r.n ≤ most S.calls := by
          have := (R.begun_now).2.1
          rw [this] at hr
          exact B.n r (List.mem_of_getElem? hr)
        have := hb.setFile I.begun BB hk' (u := fun f => { f with data := f.data ++ x, unsure := f.unsure + x.length }) (fun _ => rfl) (v := fun r => ⟨A, r.n + x.length, c, r.data ++ x, r.sure⟩) (fun f hf r hb hd m => by
          have h1 := m.le
          have h2 := m.len
          have h3 := m.un
          exact ⟨by show r.sure ≤ r.n + x.length; omega, by show (r.data ++ x).length = r.n + x.length; rw [List.length_append]; omega, by show f.unsure + x.length = r.n + x.length - r.sure; omega, .inl (by show f.data ++ x = r.data ++ x; rw [hd])⟩) hr (by
          show r.n + x.length ≤ most S.begun.calls
          rw [hcl]
          unfold most at hrn ⊢
          omega)
        rw [S.begun_fs] at this
        exact ⟨rfl, ι, this⟩
  · rw [if_pos he, if_neg (begun_ne h he)]
    exact both_begun h B he
/-- The names are sure. -/
theorem FR.forget {live live' : Nat → Prop} {N : NL} {i : Nat} {fs : List Fl} {rs : List RFl} (h : FR live ι i fs rs) (hl : ∀ b, live' b → live b) (hn : ∀ b, live' b ↔ ∃ p ∈ N, p.2 = b) : FR live' ι i ((keep goneSure (marked N fs)).map clr) rs := by
  induction h with
  | nil i => exact .nil i
  | @both i f r fs rs h m t ih =>
    have e0 : marked N (f :: fs) = { f with named := N.any fun p => p.2 == f.blk } :: marked N fs := rfl
    rw [e0]
    cases hnm : (N.any fun p => p.2 == f.blk) with
    | true =>
      have e1 : (keep goneSure ({ f with named := true } :: marked N fs)).map clr = { f with named := true } :: (keep goneSure (marked N fs)).map clr := by
        simp [keep, goneSure, clr]
      rw [e1]
      exact .both h ⟨m.le, m.len, m.un, m.data.imp id fun d => ⟨d.1, fun hh => d.2 (hl _ hh)⟩⟩ ih
    | false =>
      have hnl : ¬ live' f.blk := fun hh => by
        obtain ⟨p, hp, e⟩ := (hn _).1 hh
        have := any_blk.2 ⟨p, hp, e⟩
        rw [hnm] at this
        cases this
      by_cases hu : f.unsure = 0
      · have e1 : (keep goneSure ({ f with named := false } :: marked N fs)).map clr = (keep goneSure (marked N fs)).map clr := by
          simp [keep, goneSure, hu]
        rw [e1]
        have h1 := m.un
        have h2 := m.le
        exact .skip (by omega) ih
      · have e1 : (keep goneSure ({ f with named := false } :: marked N fs)).map clr = { f with named := false, data := [] } :: (keep goneSure (marked N fs)).map clr := by
          simp [keep, goneSure, hu, clr]
        rw [e1]
        exact .both h ⟨m.le, m.len, m.un, .inr ⟨rfl, hnl⟩⟩ ih
  | skip h t ih => exact .skip h ih
theorem live_sure {T : St} (hw : T.waits = []) (b : Nat) : livef T b ↔ ∃ p ∈ T.sure, p.2 = b := by
  unfold livef
  rw [hw]
  constructor
  · rintro ⟨k, hk, p, hp, e⟩
    rw [List.take_nil] at hp
    exact ⟨p, hp, e⟩
  · rintro ⟨p, hp, e⟩
    exact ⟨0, Nat.zero_le _, p, hp, e⟩
theorem Sim.syncDir (h : Sim ι S R) (I : Inv S) (B : WB R S.calls) : Both S.syncDir R.syncDir := by
  unfold St.syncDir RS.syncDir
  by_cases he : S.berr = 0
  · rw [if_neg (by simpa using he), if_pos (begun_zero h he)]
    have hb := h.begun.2
    have BB := B.begun h
    refine ⟨rfl, ι, ⟨?_, hb.now, hb.now, trivial, hb.cap, hb.dead, hb.calls, hb.fuse, hb.fault, hb.e⟩, BB.len, BB.n, BB.fuse, BB.fault⟩
    refine FR.forget (N := S.begun.names) hb.fr (fun b hl => ?_) (fun b => live_sure rfl b)
    obtain ⟨p, hp, e⟩ := (live_sure (T := S.begun.keptNames.forgot) rfl b).1 hl
    rw [← e]
    exact live_now I.begun hp
  · rw [if_pos he, if_neg (begun_ne h he)]
    exact both_begun h B he
theorem live_turned {T : St} {t : Tn} (hn : T.names = acts T.waits T.sure) {b : Nat} (h : livef (T.turned t) b) : livef T b ∨ ∃ p ∈ t.act T.names, p.2 = b := by
  obtain ⟨k, hk, p, hp, e⟩ := h
  have hk : k ≤ (T.waits ++ [t]).length := hk
  have hp : p ∈ acts ((T.waits ++ [t]).take k) T.sure := hp
  by_cases hk' : k ≤ T.waits.length
  · rw [List.take_append_of_le_length hk'] at hp
    exact .inl ⟨k, hk', p, hp, e⟩
  · rw [List.take_of_length_le (by simp; omega), acts_end, ← hn] at hp
    exact .inr ⟨p, hp, e⟩
/-- A turn that uses no new file. -/
theorem Sim.turned (h : Sim ι S R) (I : Inv S) (B : WB R S.calls) {t : Tn} {T : RT} (ht : TnRel ι t T) (ho : ∀ p ∈ t.act S.names, livef S p.2) : Sim ι (S.turned t) (R.turned T) ∧ WB (R.turned T) S.calls :=
  ⟨⟨h.fr.mono (fun f hf hl => (live_turned I.names hl).elim id fun ⟨p, hp, e⟩ => e ▸ ho p hp) (fun _ _ => rfl), nl_do ht h.now, h.sure, WR.snoc ht h.waits, h.cap, h.dead, h.calls, h.fuse, h.fault, h.e⟩, B.len, B.n, B.fuse, B.fault⟩
theorem name_ne {k : Nm} (h : nameB k = true) : k ≠ [] := fun e => by subst e; revert h; decide
theorem Sim.rename (h : Sim ι S R) (I : Inv S) (B : WB R S.calls) (s t : ByteArray) : Both (S.rename s.data.toList t.data.toList) (R.rename s t) := by
  unfold St.rename RS.rename
  by_cases he : S.berr = 0
  · rw [if_neg (by simpa using he), if_pos (begun_zero h he)]
    have hb := h.begun.2
    have BB := B.begun h
    cases hk : nat? s.data.toList S.names with
    | none =>
      rw [if_pos (find_none h hk)]
      exact ⟨rfl, ι, hb, BB⟩
    | some b =>
      rw [if_neg (find_some h hk).2]
      simp only
      by_cases hn : nameB t.data.toList = true
      · rw [if_pos hn, if_pos hn]
        refine ⟨rfl, ι, hb.turned I.begun BB (t := .rename s.data.toList t.data.toList) ⟨rfl, rfl, name_ne hn, rfl⟩ fun p hp => ?_⟩
        have hp : p ∈ (match nat? s.data.toList S.begun.names with | some b => nput t.data.toList b (ndel s.data.toList S.begun.names) | none => S.begun.names) := hp
        rw [S.begun_names, hk] at hp
        rcases mem_nput.1 hp with rfl | ⟨hp, _⟩
        · exact live_now I.begun (p := (s.data.toList, b)) (by rw [S.begun_names]; exact nat?_some hk)
        · exact live_now I.begun (by rw [S.begun_names]; exact (mem_ndel.1 hp).1)
      · rw [if_neg hn, if_neg hn]
        exact ⟨rfl, ι, hb, BB⟩
  · rw [if_pos he, if_neg (begun_ne h he)]
    exact both_begun h B he
theorem Sim.remove (h : Sim ι S R) (I : Inv S) (B : WB R S.calls) (s : ByteArray) : Both (S.remove s.data.toList) (R.remove s) := by
  unfold St.remove RS.remove
  by_cases he : S.berr = 0
  · rw [if_neg (by simpa using he), if_pos (begun_zero h he)]
    have hb := h.begun.2
    have BB := B.begun h
    cases hk : nat? s.data.toList S.names with
    | none =>
      rw [if_pos (find_none h hk)]
      exact ⟨rfl, ι, hb, BB⟩
    | some b =>
      rw [if_neg (find_some h hk).2]
      refine ⟨rfl, ι, hb.turned I.begun BB (t := .remove s.data.toList) ⟨rfl, rfl, rfl⟩ fun p hp => ?_⟩
      have hp : p ∈ ndel s.data.toList S.begun.names := hp
      exact live_now I.begun (mem_ndel.1 hp).1
  · rw [if_pos he, if_neg (begun_ne h he)]
    exact both_begun h B he
theorem live_create (I : Inv S) {k : Nm} {c : Nat} (h : Tn.create k c ∈ S.waits) : livef S c := by
  obtain ⟨j, hj⟩ := List.getElem?_of_mem h
  have hl := (List.getElem?_eq_some_iff.1 hj).1
  refine ⟨j + 1, hl, (k, c), ?_, rfl⟩
  rw [acts_snoc hj]
  exact mem_nput.2 (.inl rfl)
theorem Sim.create (h : Sim ι S R) (I : Inv S) (B : WB R S.calls) (s : ByteArray) (b : Nat) (hfree : (S.create s.data.toList b).2 = 0 → ∀ f ∈ S.fs, f.blk ≠ b) : Both (S.create s.data.toList b) (R.create s) := by
  unfold RS.create
  by_cases he : S.berr = 0
  · have hb := h.begun.2
    have BB := B.begun h
    rw [if_pos (begun_zero h he)]
    unfold St.create at hfree ⊢
    rw [if_neg (by simpa using he)] at hfree ⊢
    by_cases hn : nameB s.data.toList = false
    · rw [if_pos hn, if_pos hn]
      exact ⟨rfl, ι, hb, BB⟩
    · rw [if_neg hn] at hfree ⊢
      rw [if_neg hn]
      cases hk : nat? s.data.toList S.names with
      | some b =>
        rw [if_pos (find_some h hk).2]
        exact ⟨rfl, ι, hb, BB⟩
      | none =>
        rw [hk] at hfree
        simp only at hfree
        rw [if_neg (show ¬ ¬ rfind R.begun.2.now s < 0 from fun hh => hh (find_none h hk))]
        have hlen : R.begun.2.now.length = S.names.length := by
          have := congrArg List.length hb.now
          rw [nl_len, S.begun_names] at this
          simpa [mapI] using this
        simp only
        by_cases h64 : 64 ≤ S.names.length
        · rw [if_pos h64, if_pos (by rw [hlen]; exact h64)]
          exact ⟨rfl, ι, hb, BB⟩
        · rw [if_neg h64] at hfree ⊢
          rw [if_neg (by rw [hlen]; exact h64)]
          have hfree := hfree rfl
          have IB := I.begun
          have hne : ∀ c, livef S.begun c → c ≠ b := fun c hc e => by
            obtain ⟨f, hf, hfb⟩ := live_in IB hc
            rw [S.begun_fs] at hf
            exact hfree f hf (hfb.trans e)
          obtain ⟨ι', hι⟩ : ∃ ι' : Nat → Nat, ι' = fun x => if x = b then R.begun.2.files.length else ι x := ⟨_, rfl⟩
          have hib : ι' b = R.begun.2.files.length := by rw [hι]; simp
          have hio : ∀ c, c ≠ b → ι' c = ι c := fun c hc => by rw [hι]; simp [hc]
          have hmap : ∀ N : NL, (∀ p ∈ N, livef S.begun p.2) → mapI ι' N = mapI ι N := fun N hN => by
            unfold mapI
            refine List.map_congr_left fun p hp => ?_
            rw [hio _ (hne _ (hN p hp))]
          have hnm : ∀ p ∈ S.begun.names, livef S.begun p.2 := fun p hp => live_now IB hp
          have hsu : ∀ p ∈ S.begun.sure, livef S.begun p.2 := fun p hp => ⟨0, Nat.zero_le _, p, hp, rfl⟩
          have hct : TnRel ι' (.create s.data.toList b) ⟨ByteArray.empty, s, (R.begun.2.files.length : Int)⟩ := ⟨rfl, name_ne (by simpa using hn), by rw [hib]⟩
          refine ⟨rfl, ι', ⟨?_, ?_, ?_, ?_, hb.cap, hb.dead, hb.calls, hb.fuse, hb.fault, hb.e⟩, ?_, ?_, BB.fuse, BB.fault⟩
          · have h1 : FR (livef (({ S.begun with fs := S.fs ++ [newFl b] } : St).turned (.create s.data.toList b))) ι' 0 S.begun.fs R.begun.2.files := hb.fr.mono (fun f hf hl => by
              rcases live_turned (T := { S.begun with fs := S.fs ++ [newFl b] }) IB.names hl with hl | ⟨p, hp, e⟩
              · exact hl
              · rcases mem_nput.1 hp with rfl | ⟨hp, _⟩
                · exact absurd e.symm (by rw [S.begun_fs] at hf; exact hfree f hf)
                · rw [← e]; exact hnm p hp) (fun f hf => hio _ (by rw [S.begun_fs] at hf; exact hfree f hf))
            rw [S.begun_fs] at h1
            exact h1.snoc (f := newFl b) (by show ι' b = _; rw [hib]; omega) ⟨Nat.le_refl 0, rfl, rfl, .inl rfl⟩
          · exact nl_do hct (by show nl R.begun.2.now = mapI ι' S.begun.names; rw [hmap _ hnm]; exact hb.now)
          · show nl R.begun.2.sure = mapI ι' S.begun.sure
            rw [hmap _ hsu]
            exact hb.sure
          · exact WR.snoc hct (hb.waits.mono fun k c hm => hio c (hne c (live_create IB hm)))
          · show (R.begun.2.files ++ [_]).length ≤ 64 + S.begun.calls
            have h1 := B.len
            have h2 := (R.begun_now).2.1
            have h3 := begun_ok he
            rw [List.length_append, h2, h3]
            simp
            omega
          · intro r hr
            rcases List.mem_append.1 hr with hr | hr
            · exact BB.n r hr
            · rw [List.mem_singleton.1 hr]; exact Nat.zero_le _
  · rw [if_neg (begun_ne h he)]
    have : S.create s.data.toList b = (S.begun, S.berr) := by unfold St.create; rw [if_pos he]
    rw [this]
    exact both_begun h B he
theorem Sim.fused (h : Sim ι S R) (B : WB R S.calls) (z : Int) : Sim ι { S with fuse := armN z S.calls } { R with fuse := armed z } ∧ WB { R with fuse := armed z } S.calls :=
  ⟨⟨h.fr, h.now, h.sure, h.waits, h.cap, h.dead, h.calls, by show armed z = armN z S.calls - S.calls; unfold armed armN; split <;> split <;> omega, h.fault, h.e⟩, B.len, B.n, armed_le z, B.fault⟩
theorem Sim.faulted (h : Sim ι S R) (B : WB R S.calls) (z e : Int) : Sim ι { S with fault := faultN z e S.calls, fe := e } (R.setFault z e) ∧ WB (R.setFault z e) S.calls := by
  refine ⟨⟨h.fr, h.now, h.sure, h.waits, h.cap, h.dead, h.calls, h.fuse, ?_, rfl⟩, B.len, B.n, B.fuse, ?_⟩
  · show (if e = 0 ∨ e = 9 then 0 else armed z) = faultN z e S.calls - S.calls
    unfold faultN
    split
    · omega
    · unfold armed armN; split <;> split <;> omega
  · show (if e = 0 ∨ e = 9 then 0 else armed z) ≤ _
    split
    · omega
    · exact armed_le z
end
end Go.Proofs.Ytekhockdgglndaa
namespace Go.Proofs.Ytekhockdgglndaa
set_option linter.unusedVariables false
set_option linter.unusedSimpArgs false
open Go.RowKit

/-- How many of the first files have names. -/
def rk (N : List RE) : Nat → Nat
  | 0 => 0
  | i + 1 => rk N i + if hasB i N = true then 1 else 0
def gfilt (N : List RE) : Nat → List RFl → List RFl
  | _, [] => []
  | i, r :: rs => if hasB i N = true then r :: gfilt N (i + 1) rs else gfilt N (i + 1) rs
theorem gfilt_snoc (N : List RE) (r : RFl) : ∀ (i : Nat) (rs : List RFl), gfilt N i (rs ++ [r]) = gfilt N i rs ++ (if hasB (i + rs.length) N = true then [r] else [])
  | i, [] => by simp only [List.nil_append, gfilt, List.length_nil, Nat.add_zero]; try rfl
  | i, q :: rs => by
    have := gfilt_snoc N r (i + 1) rs
    simp only [List.cons_append, gfilt, this, List.length_cons]
    rw [show i + 1 + rs.length = i + (rs.length + 1) by omega]
    split <;> simp
theorem gone_files (fs : List RFl) (N : List RE) : ∀ k, k ≤ fs.length → (gone fs N k).1 = gfilt N 0 (fs.take k) ∧ (gone fs N k).1.length = rk N k
  | 0, _ => ⟨by simp [gone, gfilt], rfl⟩
  | k + 1, hk => by
    obtain ⟨h1, h2⟩ := gone_files fs N k (by omega)
    have hf : fs[k]? = some fs[k] := List.getElem?_eq_getElem hk
    rw [List.take_succ_eq_append_getElem hk, gfilt_snoc, ← h1, List.length_take, Nat.zero_add, Nat.min_eq_left (by omega)]
    simp only [gone, hf, rk]
    split
    · exact ⟨rfl, by rw [List.length_append, h2]; rfl⟩
    · exact ⟨by simp, by rw [h2]; rfl⟩
theorem gin_mem {i p : Nat} {y : Nm × Nat} : ∀ {L acc : List RE}, y ∈ nl (gin i p L acc) ↔ (∃ q ∈ L, q.2 = i ∧ y = (q.1.data.toList, p)) ∨ (y ∈ nl acc ∧ ∀ q ∈ L, q.2 = i → q.1.data.toList ≠ y.1)
  | [], acc => by simp [gin]
  | q :: L, acc => by
    have e : gin i p (q :: L) acc = gin i p L (gput i p acc q) := rfl
    rw [e, gin_mem]
    by_cases h : q.2 = i
    · have e2 : gput i p acc q = rput acc (q.1, p) := by unfold gput; rw [if_pos h]
      rw [e2, nl_put, mem_nput]
      constructor
      · rintro (⟨q', h1, h2, h3⟩ | ⟨h1 | ⟨h1, h2⟩, h3⟩)
        · exact .inl ⟨q', by simp [h1], h2, h3⟩
        · exact .inl ⟨q, by simp, h, h1⟩
        · refine .inr ⟨h1, fun q' hq' hi => ?_⟩
          rcases List.mem_cons.1 hq' with rfl | hq'
          · exact fun e => h2 e.symm
          · exact h3 q' hq' hi
      · rintro (⟨q', h1, h2, h3⟩ | ⟨h1, h2⟩)
        · rcases List.mem_cons.1 h1 with h1 | h1
          · subst h1
            by_cases hex : ∃ q' ∈ L, q'.2 = i ∧ q'.1.data.toList = q'.1.data.toList ∧ y = (q'.1.data.toList, p)
            · obtain ⟨q2, a, b, _, c⟩ := hex
              exact .inl ⟨q2, a, b, c⟩
            · refine .inr ⟨.inl h3, fun q2 hq2 hi e => hex ⟨q2, hq2, hi, rfl, ?_⟩⟩
              rw [h3] at e ⊢
              rw [e]
          · exact .inl ⟨q', h1, h2, h3⟩
        · exact .inr ⟨.inr ⟨h1, fun e => h2 q (by simp) h e.symm⟩, fun q' hq' => h2 q' (by simp [hq'])⟩
    · have e2 : gput i p acc q = acc := by unfold gput; rw [if_neg h]
      rw [e2]
      constructor
      · rintro (⟨q', h1, h2, h3⟩ | ⟨h1, h2⟩)
        · exact .inl ⟨q', by simp [h1], h2, h3⟩
        · refine .inr ⟨h1, fun q' hq' hi => ?_⟩
          rcases List.mem_cons.1 hq' with rfl | hq'
          · exact absurd hi h
          · exact h2 q' hq' hi
      · rintro (⟨q', h1, h2, h3⟩ | ⟨h1, h2⟩)
        · rcases List.mem_cons.1 h1 with h1 | h1
          · subst h1; exact absurd h2 h
          · exact .inl ⟨q', h1, h2, h3⟩
        · exact .inr ⟨h1, fun q' hq' => h2 q' (by simp [hq'])⟩
theorem ris_gin {i p : Nat} : ∀ {L acc : List RE}, Ris (nl acc) → Ris (nl (gin i p L acc))
  | [], _, h => h
  | q :: L, acc, h => by
    have e : gin i p (q :: L) acc = gin i p L (gput i p acc q) := rfl
    rw [e]
    refine ris_gin ?_
    unfold gput
    split
    · rw [nl_put]; exact h.put _ _
    · exact h
theorem ris_gone (fs : List RFl) (N : List RE) : ∀ k, Ris (nl (gone fs N k).2)
  | 0 => Ris.nil
  | k + 1 => ris_gin (ris_gone fs N k)
theorem mem_nl {N : List RE} {y : Nm × Nat} : y ∈ nl N ↔ ∃ q ∈ N, y = (q.1.data.toList, q.2) := by
  unfold nl
  rw [List.mem_map]
  exact ⟨fun ⟨q, h, e⟩ => ⟨q, h, e.symm⟩, fun ⟨q, h, e⟩ => ⟨q, h, e.symm⟩⟩
theorem gone_names (fs : List RFl) (N : List RE) (hN : Ris (nl N)) : ∀ k, k ≤ fs.length → ∀ y, y ∈ nl (gone fs N k).2 ↔ ∃ q ∈ nl N, q.2 < k ∧ y = (q.1, rk N q.2)
  | 0, _, y => by simp [gone, nl]
  | k + 1, hk, y => by
    have ih := gone_names fs N hN k (by omega)
    have hl := (gone_files fs N k (by omega)).2
    have e : (gone fs N (k + 1)).2 = gin k (gone fs N k).1.length N (gone fs N k).2 := rfl
    rw [e, gin_mem, hl]
    constructor
    · rintro (⟨q, h1, h2, h3⟩ | ⟨h1, h2⟩)
      · exact ⟨(q.1.data.toList, q.2), mem_nl.2 ⟨q, h1, rfl⟩, by omega, by rw [h3, h2]⟩
      · obtain ⟨q, a, b, c⟩ := (ih y).1 h1
        exact ⟨q, a, by omega, c⟩
    · rintro ⟨q, h1, h2, h3⟩
      obtain ⟨q0, h4, rfl⟩ := mem_nl.1 h1
      by_cases hk2 : q0.2 = k
      · exact .inl ⟨q0, h4, hk2, by rw [h3, ← hk2]⟩
      · refine .inr ⟨(ih y).2 ⟨_, h1, by simp only at h2 ⊢; omega, h3⟩, fun q' hq' hi e => ?_⟩
        have := hN.key (mem_nl.2 ⟨q', hq', rfl⟩) h1 (by rw [e, h3])
        simp only [Prod.mk.injEq] at this
        omega
theorem ris_mapI {ι : Nat → Nat} {N : NL} (h : Ris N) : Ris (mapI ι N) := by
  unfold Ris mapI at *
  rw [List.pairwise_map]
  exact h
theorem gone_nl (fs : List RFl) (N : List RE) (hN : Ris (nl N)) (hlt : ∀ q ∈ N, q.2 < fs.length) : nl (gone fs N fs.length).2 = mapI (rk N) (nl N) := by
  refine Ris.ext (ris_gone fs N _) (ris_mapI hN) fun y => ?_
  rw [gone_names fs N hN _ (Nat.le_refl _)]
  unfold mapI
  rw [List.mem_map]
  constructor
  · rintro ⟨q, h1, _, h3⟩
    exact ⟨q, h1, h3.symm⟩
  · rintro ⟨q, h1, h2⟩
    obtain ⟨q0, h4, rfl⟩ := mem_nl.1 h1
    exact ⟨_, h1, hlt q0 h4, h2.symm⟩
theorem kept_same (nums : List Int) (c : Nat) (r : RFl) (h : r.sure ≤ r.n) : keepOf nums c r = withinN (nums.getD c 0) (r.n - r.sure) := by
  unfold keepOf withinN
  by_cases h1 : c < nums.length
  · by_cases h2 : 0 < nums.getD c 0
    · rw [if_pos ⟨h1, h2⟩]; omega
    · rw [if_neg (fun hh => h2 hh.2)]; omega
  · have : nums.getD c 0 = 0 := by
      rw [List.getD_eq_getElem?_getD, List.getElem?_eq_none (by omega)]
      rfl
    rw [if_neg (fun hh => h1 hh.1), this]
    omega
theorem FR.boot {live live' : Nat → Prop} {ι ι' : Nat → Nat} {N : NL} {NR : List RE} {nums : List Int} {i : Nat} {fs : List Fl} {rs : List RFl} (h : FR live ι i fs rs) : (∀ f ∈ fs, hasB (ι f.blk) NR = N.any fun p => p.2 == f.blk) → (∀ q ∈ NR, i ≤ q.2 → ∃ f ∈ fs, ι f.blk = q.2) →
    (∀ f ∈ fs, ι' f.blk = rk NR (ι f.blk)) → (∀ b, (∃ p ∈ N, p.2 = b) → live b) → ∀ c, FR live' ι' (rk NR i) (keep goneBoot (keepB nums c (marked N fs))) (gfilt NR i (bootFs nums c rs)) := by
  induction h with
  | nil i => intro _ _ _ _ c; exact .nil _
  | @both i f r fs rs h m t ih =>
    intro hN hq hi hl c
    have hq' : ∀ q ∈ NR, i + 1 ≤ q.2 → ∃ f ∈ fs, ι f.blk = q.2 := fun q hqq hle => by
      obtain ⟨g, hg, e⟩ := hq q hqq (by omega)
      rcases List.mem_cons.1 hg with rfl | hg
      · omega
      · exact ⟨g, hg, e⟩
    have ih := ih (fun f hf => hN f (by simp [hf])) hq' (fun f hf => hi f (by simp [hf])) hl
    have hNf := hN f (by simp)
    rw [h] at hNf
    have e0 : marked N (f :: fs) = { f with named := N.any fun p => p.2 == f.blk } :: marked N fs := rfl
    have h1 := m.un
    have h2 := m.le
    have h3 := m.len
    have hrk : rk NR (i + 1) = rk NR i + if hasB i NR = true then 1 else 0 := rfl
    rw [e0]
    cases hnm : (N.any fun p => p.2 == f.blk) with
    | true =>
      rw [hnm] at hNf
      rw [hNf, if_pos rfl] at hrk
      have hd : f.data = r.data := m.data.elim id fun d => absurd (hl _ (any_blk.1 hnm)) d.2
      by_cases hu : f.unsure = 0
      · have e1 : keep goneBoot (keepB nums c ({ f with named := true } :: marked N fs)) = { f with named := true } :: keep goneBoot (keepB nums c (marked N fs)) := by
          simp [keepB, keepAt, hu, keep, goneBoot]
        have e2 : gfilt NR i (bootFs nums c (r :: rs)) = r :: gfilt NR (i + 1) (bootFs nums c rs) := by
          have : r.n = r.sure := by omega
          simp [bootFs, this, gfilt, hNf]
        rw [e1, e2]
        refine .both (by show ι' f.blk = _; rw [hi f (by simp), h]) ⟨m.le, m.len, m.un, .inl hd⟩ ?_
        have := ih c
        rw [hrk] at this
        exact this
      · have hne : ¬ r.n = r.sure := by omega
        have e1 : keep goneBoot (keepB nums c ({ f with named := true } :: marked N fs)) = { f with named := true, data := f.data.take (f.data.length - f.unsure + withinN (nums.getD c 0) f.unsure), unsure := 0 } :: keep goneBoot (keepB nums (c + 1) (marked N fs)) := by
          simp [keepB, keepAt, hu, keep, goneBoot]
        have e2 : gfilt NR i (bootFs nums c (r :: rs)) = r.cut (keepOf nums c r) :: gfilt NR (i + 1) (bootFs nums (c + 1) rs) := by
          simp [bootFs, hne, gfilt, hNf]
        have hk := kept_same nums c r h2
        have hw := within_le (nums.getD c 0) (r.n - r.sure)
        rw [e1, e2]
        refine .both (by show ι' f.blk = _; rw [hi f (by simp), h]) ⟨Nat.le_refl _, ?_, ?_, .inl ?_⟩ ?_
        · show (r.data.take (r.sure + keepOf nums c r)).length = r.sure + keepOf nums c r
          rw [List.length_take]
          omega
        · show 0 = (r.sure + keepOf nums c r) - (r.sure + keepOf nums c r)
          omega
        · show f.data.take (f.data.length - f.unsure + withinN (nums.getD c 0) f.unsure) = r.data.take (r.sure + keepOf nums c r)
          rw [hd, hk, h1]
          congr 1
          omega
        · have := ih (c + 1)
          rw [hrk] at this
          exact this
    | false =>
      rw [hnm] at hNf
      rw [hNf] at hrk
      simp only [Bool.false_eq_true, if_false, Nat.add_zero] at hrk
      have e1 : keep goneBoot (keepB nums c ({ f with named := false } :: marked N fs)) = keep goneBoot (keepB nums (if f.unsure = 0 then c else c + 1) (marked N fs)) := by
        show keep goneBoot (keepAt nums c { f with named := false } :: keepB nums (if f.unsure = 0 then c else c + 1) (marked N fs)) = _
        by_cases hu : f.unsure = 0 <;> simp [keepAt, hu, keep, goneBoot]
      have e2 : gfilt NR i (bootFs nums c (r :: rs)) = gfilt NR (i + 1) (bootFs nums (if f.unsure = 0 then c else c + 1) rs) := by
        by_cases hu : f.unsure = 0
        · have : r.n = r.sure := by omega
          simp [bootFs, this, gfilt, hNf, hu]
        · have : ¬ r.n = r.sure := by omega
          simp [bootFs, this, gfilt, hNf, hu]
      rw [e1, e2, ← hrk]
      exact ih _
  | @skip i r fs rs h t ih =>
    intro hN hq hi hl c
    have hno : hasB i NR = false := by
      cases hb : hasB i NR with
      | false => rfl
      | true =>
        obtain ⟨q, hqq, e⟩ := List.any_eq_true.1 hb
        have e : q.2 = i := by simpa using e
        obtain ⟨g, hg, e2⟩ := hq q hqq (by omega)
        have := t.range g hg
        omega
    have hrk : rk NR (i + 1) = rk NR i := by
      show rk NR i + (if hasB i NR = true then 1 else 0) = _
      rw [hno]
      rfl
    have e2 : gfilt NR i (bootFs nums c (r :: rs)) = gfilt NR (i + 1) (bootFs nums c rs) := by simp [bootFs, h, gfilt, hno]
    rw [e2, ← hrk]
    exact ih hN (fun q hqq hle => hq q hqq (by omega)) hi hl c
theorem FR.sure_le {live : Nat → Prop} {ι : Nat → Nat} {i : Nat} {fs : List Fl} {rs : List RFl} (h : FR live ι i fs rs) : ∀ q ∈ rs, q.sure ≤ q.n := by
  induction h with
  | nil i => intro q hq; cases hq
  | both h m t ih =>
    intro q hq
    rcases List.mem_cons.1 hq with rfl | hq
    · exact m.le
    · exact ih q hq
  | skip h t ih =>
    intro q hq
    rcases List.mem_cons.1 hq with rfl | hq
    · omega
    · exact ih q hq
section
variable {ι : Nat → Nat} {S : St} {R : RS}
theorem Sim.boot (h : Sim ι S R) (I : Inv S) (B : WB R S.calls) (turns : Int) (nums : List Int) : Both (S.boot turns nums) (R.boot turns nums) := by
  unfold St.boot RS.boot
  by_cases hd : S.dead = true
  · rw [if_pos hd, if_pos (by rw [h.dead]; exact hd)]
    have hwl := h.waits.len
    have hk : keptT turns R.waits.length = withinN turns S.waits.length := by
      unfold keptT withinN
      rw [hwl]
      omega
    rw [hk]
    obtain ⟨k, hkk⟩ : ∃ k, k = withinN turns S.waits.length := ⟨_, rfl⟩
    have hkl : k ≤ S.waits.length := by rw [hkk]; exact within_le _ _
    rw [← hkk]
    obtain ⟨N, hN⟩ : ∃ N, N = acts (S.waits.take k) S.sure := ⟨_, rfl⟩
    obtain ⟨NR, hNR⟩ : ∃ NR, NR = rdos R.sure (R.waits.take k) := ⟨_, rfl⟩
    have hnl : nl NR = mapI ι N := by rw [hNR, hN]; exact h.waits.acts k h.sure
    rw [← hN, ← hNR]
    have hbk : (R.booting nums R.files.length).files = bootFs nums 0 R.files := by
      unfold RS.booting
      simp
    have hlive : ∀ b, (∃ p ∈ N, p.2 = b) → livef S b := fun b ⟨p, hp, e⟩ => ⟨k, hkl, p, by rw [← hN]; exact hp, e⟩
    have hrisN : Ris N := by rw [hN]; exact I.ris.acts _
    have hrisR : Ris (nl NR) := by rw [hnl]; exact ris_mapI hrisN
    have hqn : ∀ q ∈ NR, ∃ f ∈ S.fs, ι f.blk = q.2 ∧ ∃ p ∈ N, p.2 = f.blk := fun q hq => by
      have h1 : (q.1.data.toList, q.2) ∈ mapI ι N := by rw [← hnl]; exact mem_nl.2 ⟨q, hq, rfl⟩
      obtain ⟨p, hp, e⟩ := List.mem_map.1 h1
      obtain ⟨f, hf, hfb⟩ := live_in I (hlive _ ⟨p, hp, rfl⟩)
      simp only [Prod.mk.injEq] at e
      exact ⟨f, hf, by rw [hfb]; exact e.2, p, hp, hfb.symm⟩
    have hlt : ∀ q ∈ NR, q.2 < R.files.length := fun q hq => by
      obtain ⟨f, hf, e, _⟩ := hqn q hq
      have := h.fr.range f hf
      omega
    have hany : ∀ f ∈ S.fs, hasB (ι f.blk) NR = N.any fun p => p.2 == f.blk := fun f hf => by
      rw [Bool.eq_iff_iff, any_blk]
      constructor
      · intro hb
        obtain ⟨q, hq, e⟩ := List.any_eq_true.1 hb
        obtain ⟨g, hg, e2, p, hp, e3⟩ := hqn q hq
        have e : q.2 = ι f.blk := by simpa using e
        have := h.fr.inj g hg f hf (by omega)
        subst this
        exact ⟨p, hp, e3⟩
      · rintro ⟨p, hp, e⟩
        have h1 : (p.1, ι p.2) ∈ nl NR := by rw [hnl]; exact List.mem_map.2 ⟨p, hp, rfl⟩
        obtain ⟨q, hq, e2⟩ := mem_nl.1 h1
        simp only [Prod.mk.injEq] at e2
        exact List.any_eq_true.2 ⟨q, hq, by simp [← e2.2, e]⟩
    have hfr := h.fr.boot (live' := fun _ => True) (ι' := fun b => rk NR (ι b)) (nums := nums) hany (fun q hq _ => by obtain ⟨f, hf, e, _⟩ := hqn q hq; exact ⟨f, hf, e⟩) (fun f _ => rfl) hlive 0
    obtain ⟨hg1, hg2⟩ := gone_files (bootFs nums 0 R.files) NR R.files.length (by rw [bootFs_len]; exact Nat.le_refl _)
    rw [List.take_of_length_le (by rw [bootFs_len]; exact Nat.le_refl _)] at hg1
    have hgn := gone_nl (bootFs nums 0 R.files) NR hrisR (by rw [bootFs_len]; exact hlt)
    rw [bootFs_len] at hgn
    have hcmp : mapI (rk NR) (nl NR) = mapI (fun b => rk NR (ι b)) N := by rw [hnl]; unfold mapI; rw [List.map_map]; rfl
    have hgoned : (R.booting nums R.files.length).goned NR = { R with files := (gone (bootFs nums 0 R.files) NR R.files.length).1, now := (gone (bootFs nums 0 R.files) NR R.files.length).2, sure := (gone (bootFs nums 0 R.files) NR R.files.length).2 } := by
      unfold RS.goned
      rw [hbk, bootFs_len]
      rfl
    rw [hgoned]
    refine ⟨rfl, fun b => rk NR (ι b), ⟨?_, ?_, ?_, trivial, h.cap, rfl, h.calls, (Nat.zero_sub _).symm, (Nat.zero_sub _).symm, h.e⟩, ?_, ?_, Nat.zero_le _, Nat.zero_le _⟩
    · show FR _ _ 0 (keep goneBoot (keepB nums 0 (marked N S.fs))) (gone (bootFs nums 0 R.files) NR R.files.length).1
      rw [hg1]
      exact hfr.mono (fun _ _ _ => trivial) (fun _ _ => rfl)
    · show nl (gone (bootFs nums 0 R.files) NR R.files.length).2 = mapI _ N
      rw [hgn, hcmp]
    · show nl (gone (bootFs nums 0 R.files) NR R.files.length).2 = mapI _ N
      rw [hgn, hcmp]
    · show (gone (bootFs nums 0 R.files) NR R.files.length).1.length ≤ 64 + S.calls
      have := gone_flen (bootFs nums 0 R.files) NR R.files.length
      have := B.len
      omega
    · intro r hr
      have hr := gone_mem hr
      have key : ∀ (l : List RFl) (c : Nat), (∀ q ∈ l, q.n ≤ most S.calls ∧ q.sure ≤ q.n) → ∀ q ∈ bootFs nums c l, q.n ≤ most S.calls := by
        intro l
        induction l with
        | nil => intro c _ q hq; cases hq
        | cons a l ih =>
          intro c hl q hq
          have ha := hl a (by simp)
          simp only [bootFs] at hq
          split at hq
          · rcases List.mem_cons.1 hq with rfl | hq
            · exact ha.1
            · exact ih c (fun q hq => hl q (by simp [hq])) q hq
          · rcases List.mem_cons.1 hq with rfl | hq
            · have := kept_same nums c a ha.2
              have := within_le (nums.getD c 0) (a.n - a.sure)
              show a.sure + keepOf nums c a ≤ _
              omega
            · exact ih (c + 1) (fun q hq => hl q (by simp [hq])) q hq
      refine key R.files 0 (fun q hq => ⟨B.n q hq, ?_⟩) r hr
      exact FR.sure_le h.fr q hq
  · rw [if_neg hd, if_neg (by rw [h.dead]; exact hd)]
    exact ⟨rfl, ι, h, B⟩
end
end Go.Proofs.Ytekhockdgglndaa
