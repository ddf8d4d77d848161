/-
  CONTRACT OF Boot.
-/
import Derived.Test.YtfhbolhmfhgeaaaDBytes
namespace Go.Proofs.Ytfhbolhmfhgeaaa
set_option linter.unusedVariables false
set_option linter.unusedSimpArgs false
open Go.RowKit Go.Maps

/-- Turns that can be done, one behind the other, and names that are never too many. -/
def Good : List Tn → NL → Prop
  | [], N => N.length ≤ 64
  | t :: r, N => N.length ≤ 64 ∧ t.ok N ∧ Good r (t.act N)
theorem acts_cons (t : Tn) (r : List Tn) (N : NL) : acts (t :: r) N = acts r (t.act N) := rfl
theorem acts_snoc {l : List Tn} {k : Nat} {t : Tn} (h : l[k]? = some t) (N : NL) : acts (l.take (k + 1)) N = t.act (acts (l.take k) N) := by
  obtain ⟨h1, h2⟩ := List.getElem?_eq_some_iff.1 h
  rw [List.take_succ_eq_append_getElem h1, h2]
  unfold acts
  rw [List.foldl_append]
  rfl
theorem Good.len : ∀ {l : List Tn} {N : NL}, Good l N → N.length ≤ 64
  | [], _, h => h
  | _ :: _, _, h => h.1
theorem Good.at : ∀ {l : List Tn} {N : NL}, Good l N → ∀ {k : Nat}, k ≤ l.length → (acts (l.take k) N).length ≤ 64 ∧ ∀ t, l[k]? = some t → t.ok (acts (l.take k) N)
  | [], N, h, k, hk => by
    have : k = 0 := by simpa using hk
    subst this
    exact ⟨h, fun t ht => by cases ht⟩
  | t :: r, N, h, 0, hk => ⟨h.1, fun t' ht => by
    simp at ht
    subst ht
    exact h.2.1⟩
  | t :: r, N, h, k + 1, hk => by
    have := Good.at h.2.2 (k := k) (by simpa using hk)
    rw [List.take_succ_cons, acts_cons]
    exact ⟨this.1, fun t' ht => this.2 t' (by simpa using ht)⟩
/-- Each name is a file's whose unsure bytes are there. -/
def Sound (N : NL) (fs : List Fl) : Prop := ∀ p ∈ N, ∃ f ∈ fs, f.blk = p.2 ∧ f.unsure ≤ f.data.length
theorem Sound.closed {N : NL} {fs : List Fl} (h : Sound N fs) : Closed N fs := fun p hp => by
  obtain ⟨f, h1, h2, _⟩ := h p hp
  exact ⟨f, h1, h2⟩

def St.boot (S : St) (turns : Int) (nums : List Int) : St × Int :=
  if S.dead = true then
    ({ (({ S with names := acts (S.waits.take (withinN turns S.waits.length)) S.sure } : St).keptNames.bytesKept nums) with
        fs := keep goneBoot (({ S with names := acts (S.waits.take (withinN turns S.waits.length)) S.sure } : St).keptNames.bytesKept nums).fs, fuse := 0, fault := 0, dead := false }, 0)
  else (S, 1)

section
variable {w : World} {X : Nat → Prop} {g : Nat} {L : Lay} {S : St}
/-- The closure of the k-th turn. -/
theorem DAt.turn (h : DAt w X g L S) {A : Option Addr} {n c : Nat} (hw : L.wr = .slice A n c) (hn : S.waits.length = n) {k : Nat} (hk : k < n) :
    ∃ b off v t, A = some ⟨b, off, none⟩ ∧ S.waits[k]? = some t ∧ w.cell? ⟨b, off + k, none⟩ = some v ∧ TurnAt w X L.fr v t := by
  subst hn
  obtain ⟨vs, hr, ht⟩ := h.wr
  rw [hw] at hr
  obtain ⟨b, off, u, e, _, hu, hc⟩ := hr.sh.at hk
  obtain ⟨v, t, h1, h2, h3⟩ := ht.at hk
  rw [hu] at h1
  cases h1
  exact ⟨b, off, u, t, e, h2, hc, h3⟩
/-- The names are a new map. -/
theorem Lies.names {w1 : World} (h : Lies X g L S w w1) {nm : Nat} {N : NL} (hs : NamesAt w1 nm N) (hX : ¬ X nm) (hne : nm ≠ L.sm) :
    Lies X g { L with nm := nm } { S with names := N } w (w1.setCell ⟨g, 2, none⟩ (.map (some nm))) := by
  have hgs : nm ≠ g := hs.ne_blk h.1.cells
  have hgn : L.sm ≠ g := h.1.sm.ne_blk h.1.cells
  refine ⟨h.1.maps (w' := w1.setCell ⟨g, 2, none⟩ (.map (some nm))) (N := N) (M := S.sure) (nm := nm) (sm := L.sm) (by simp) (fun k _ hk => Below.heap_setCell _ _ _ _ hk) (h.1.cells.set 2 (.map (some nm)))
    (hs.stay (Below.heap_setCell _ _ _ _ hgs)) hX (h.1.sm.stay (Below.heap_setCell _ _ _ _ hgn)) h.1.smX hne, h.2.grown (grown_set w1 g 2 _) h.1.old (fun k hk => by cases hk; exact h.1.gX)⟩
theorem boot_copy (h : DAt w X g L S) {w1 : World} (hn : NamesAt w1 w.heap.size S.sure) (hb : Below w.heap.size w w1) :
    w1.cell? ⟨g, 2, none⟩ = some (.map (some L.nm)) ∧ w1.frozen? ⟨g, 2, none⟩ = false ∧ Lies X g { L with nm := w.heap.size } { S with names := S.sure } w (w1.setCell ⟨g, 2, none⟩ (.map (some w.heap.size))) := by
  have hl : Lies X g L S w w := ⟨h, Keeps.refl _ _⟩
  have h1 := hl.below hb
  have hnX : ¬ X w.heap.size := fun hx => by have := h.old _ hx; omega
  have hlt := h.sm.lt
  exact ⟨h1.1.c2, h1.1.cells.nf 2, h1.names hn hnX (by omega)⟩
/-- A turn is done on the names. -/
theorem Lies.acted {w1 w2 : World} (h : Lies X g L S w w1) {t : Tn} (hn : NamesAt w2 L.nm (t.act S.names)) (hg : w1.grownBy w2 (some L.nm)) : Lies X g L { S with names := t.act S.names } w w2 :=
  ⟨h.1.names hg hn, h.2.grown hg h.1.old (fun k hk => by cases hk; exact h.1.nmX)⟩
/-- The power is on. -/
theorem Lies.on {w1 : World} (h : Lies X g L S w w1) : Lies X g L { S with fuse := 0, fault := 0, dead := false } w (((w1.setCell ⟨g, 6, none⟩ (.int .i64 0)).setCell ⟨g, 7, none⟩ (.int .i64 0)).setCell ⟨g, 9, none⟩ (.bool false)) := by
  have h1 := h.1.setg (S' := { S with fuse := 0 }) 6 (.int .i64 0) rfl rfl rfl rfl rfl
  have h2 := h1.setg (S' := { S with fuse := 0, fault := 0 }) 7 (.int .i64 0) rfl rfl rfl rfl rfl
  have h3 := h2.setg (S' := { S with fuse := 0, fault := 0, dead := false }) 9 (.bool false) rfl rfl rfl rfl rfl
  exact ⟨h3, ((h.2.grown (grown_set w1 g 6 _) h.1.old (fun k hk => by cases hk; exact h.1.gX)).grown (grown_set _ g 7 _) h1.old (fun k hk => by cases hk; exact h.1.gX)).grown (grown_set _ g 9 _) h2.old (fun k hk => by cases hk; exact h.1.gX)⟩

theorem boot_alive (h : DAt w X g L S) (hd : S.dead = false) (n : Int) (v : Value) : Calls Try.prog 25 #[ptrTo g, .int .i64 n, v] w fun e w' => e = .returned (.int .i64 1) ∧ w = w' := by
  have c9 := h.c9
  rw [hd] at c9
  clear h hd
  unfold ptrTo
  go_enter Try.func25, Try.ntmps25
  go_wp2
  go_ret
  exact ⟨rfl, rfl⟩
end
end Go.Proofs.Ytfhbolhmfhgeaaa
