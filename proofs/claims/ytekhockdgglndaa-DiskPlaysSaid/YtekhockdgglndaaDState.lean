/-
  THE STATE OF A DISK, AND THE BLOCKS THAT HOLD IT.
-/
import Derived.Test.YtekhockdgglndaaDMem
namespace Go.Proofs.Ytekhockdgglndaa
set_option linter.unusedVariables false
set_option linter.unusedSimpArgs false
open Go.RowKit Go.Maps

/-! ### what a disk is -/
/-- A file: its block, its bytes, how many of the last ones aren't sure, and whether it was named when names were made sure. -/
structure Fl where
  blk : Nat
  data : List Int
  unsure : Nat
  named : Bool
/-- A turn of the names. -/
inductive Tn where
  | create (k : Nm) (b : Nat)
  | rename (k m : Nm)
  | remove (k : Nm)
def Tn.act : Tn → NL → NL
  | .create k b, N => nput k b N
  | .rename k m, N => match nat? k N with | some b => nput m b (ndel k N) | none => N
  | .remove k, N => ndel k N
/-- A turn that fits. -/
def Tn.ok : Tn → NL → Prop
  | .rename k _, N => ∃ b, nat? k N = some b
  | _, _ => True
def acts (l : List Tn) (N : NL) : NL := l.foldl (fun N t => t.act N) N
structure St where
  cap : Int
  fs : List Fl
  names : NL
  sure : NL
  waits : List Tn
  calls : Nat
  fuse : Nat
  fault : Nat
  fe : Int
  dead : Bool
/-- Where it lies. -/
structure Lay where
  fr : Value
  wr : Value
  nm : Nat
  sm : Nat
  row : Nat → Value
def Lay.up (L : Lay) (b : Nat) (v : Value) : Lay := { L with row := fun c => if c = b then v else L.row c }
theorem Lay.up_same (L : Lay) (b : Nat) (v : Value) : (L.up b v).row b = v := by simp [Lay.up]
theorem Lay.up_other (L : Lay) {b c : Nat} (v : Value) (h : c ≠ b) : (L.up b v).row c = L.row c := by simp [Lay.up, h]

def cellsOf (L : Lay) (S : St) : List Value :=
  [.int .i64 S.cap, L.fr, .map (some L.nm), .map (some L.sm), L.wr, .int .i64 (S.calls : Int), .int .i64 (S.fuse : Int), .int .i64 (S.fault : Int), .int .i64 S.fe, .bool S.dead]
def fileCells (v : Value) (f : Fl) : List Value := [v, .int .i64 (f.unsure : Int), .bool f.named]

/-! ### rows that lie outside X -/
def Row (w : World) (X : Nat → Prop) (t : TypeId) (v : Value) (n : Nat) (xs : List Value) : Prop := w.ownsRow 0 t 1 v n xs ∧ ∀ j, v.ownBlock = some j → ¬ X j
section
variable {w w' : World} {X : Nat → Prop} {t : TypeId} {v : Value} {n : Nat} {xs : List Value}
theorem Row.nil (w : World) (X : Nat → Prop) (t : TypeId) : Row w X t (.slice none 0 0) 0 [] := ⟨World.ownsRow_nil _ _ _ _, fun j h => by cases h⟩
theorem Row.lt (h : Row w X t v n xs) {j : Nat} (hj : v.ownBlock = some j) : j < w.heap.size := (h.1.lt j hj).2
theorem Row.len (h : Row w X t v n xs) : xs.length = n := by have := h.1.1; omega
theorem Row.stay (h : Row w X t v n xs) (hk : ∀ j, v.ownBlock = some j → w'.heap[j]? = w.heap[j]?) : Row w' X t v n xs := by
  refine ⟨⟨h.1.1, ?_⟩, h.2⟩
  rcases h.1.2 with hn | ⟨g, cap, cur, rfl, hb, hgg, rest⟩
  · exact .inl hn
  · exact .inr ⟨g, cap, cur, rfl, hb, by rw [hk g rfl]; exact hgg, rest⟩
theorem Row.form (h : Row w X t v n xs) : ∃ A c, v = .slice A n c ∧ n ≤ c ∧ c ≤ maxLen := by
  rcases h.1.2 with ⟨rfl, rfl⟩ | ⟨g, cap, cur, rfl, _, _, h2, h3, _⟩
  · exact ⟨none, 0, rfl, Nat.le_refl _, Nat.zero_le _⟩
  · exact ⟨_, _, rfl, h2, h3⟩
theorem Row.sh {A : Option Addr} {c : Nat} (h : Row w X t (.slice A n c) n xs) : Sh w w.heap.size A n xs := Sh.of_own h.1
theorem Row.cast {n' : Nat} {xs' : List Value} (h : Row w X t v n xs) (hn : n = n') (hx : xs = xs') : Row w X t v n' xs' := by subst hn; subst hx; exact h
/-- Rows of unlike elements are apart. -/
theorem Row.ne_blk (h : Row w X t v n xs) {b : Nat} {t' : TypeId} {ys : List Value} (hb : Blk w b t' ys) (ht : t ≠ t') : v.ownBlock ≠ some b := by
  intro e
  rcases h.1.2 with ⟨rfl, _⟩ | ⟨g, cap, cur, rfl, _, hh, _⟩
  · cases e
  · have : g = b := by simpa [Value.ownBlock] using e
    subst this
    unfold Blk at hb
    rw [hb] at hh
    simp at hh
    exact ht hh.2.symm
theorem Row.ne_row (h : Row w X t v n xs) {Y : Nat → Prop} {t' : TypeId} {v' : Value} {n' : Nat} {ys : List Value} (h' : Row w Y t' v' n' ys) (ht : t ≠ t') {j : Nat} (hj : v'.ownBlock = some j) : v.ownBlock ≠ some j := by
  intro e
  rcases h.1.2 with ⟨rfl, _⟩ | ⟨g, cap, cur, rfl, _, hh, _⟩
  · cases e
  · rcases h'.1.2 with ⟨rfl, _⟩ | ⟨g', cap', cur', rfl, _, hh', _⟩
    · cases hj
    · have e1 : g = j := by simpa [Value.ownBlock] using e
      have e2 : g' = j := by simpa [Value.ownBlock] using hj
      subst e1
      subst e2
      rw [hh] at hh'
      simp at hh'
      exact ht hh'.2
theorem Row.ne_names (h : Row w X t v n xs) {b : Nat} {N : NL} (hb : NamesAt w b N) : v.ownBlock ≠ some b := hb.ne_row h.1
theorem Row.head {b c : Nat} (h : Row w X t (.slice (some ⟨b, 0, none⟩) n c) n xs) {k : Nat} (hk : k ≤ n) : Row w X t (.slice (some ⟨b, 0, none⟩) k c) k (xs.take k) := by
  refine ⟨⟨by have := h.len; simp; omega, ?_⟩, h.2⟩
  rcases h.1.2 with ⟨e, _⟩ | ⟨g, cap, cur, e, hb, hh, h1, h2, h3, h4⟩
  · cases e
  · injection e with e1 _ e3
    injection e1 with e1
    injection e1 with e1
    subst e1
    subst e3
    refine .inr ⟨_, _, cur, rfl, hb, hh, by omega, h2, h3, ?_⟩
    rw [← h4, List.take_take]
    congr 1
    omega
end
theorem Blk.stay {w w' : World} {b : Nat} {t : TypeId} {xs : List Value} (h : Blk w b t xs) (hk : w'.heap[b]? = w.heap[b]?) : Blk w' b t xs := hk.trans h
theorem NamesAt.stay {w w' : World} {b : Nat} {N : NL} (h : NamesAt w b N) (hk : w'.heap[b]? = w.heap[b]?) : NamesAt w' b N := by
  obtain ⟨es, clock, hb, r⟩ := h
  exact ⟨es, clock, hk.trans hb, r⟩

/-- The closure v is the turn. -/
def TurnAt (w : World) (X : Nat → Prop) (fr v : Value) : Tn → Prop
  | .create k b => ∃ p q s, v = .func (.func 47) #[] #[ptrTo p, ptrTo q] ∧ (Blk w p 62 [ptrTo b] ∧ ¬ X p ∧ fr.ownBlock ≠ some p) ∧ (Blk w q 9 [.string s] ∧ ¬ X q) ∧ s.data.toList = k ∧ s.size ≤ maxLen
  | .rename k m => ∃ p q s r, v = .func (.func 60) #[] #[ptrTo p, ptrTo q] ∧ (Blk w p 9 [.string s] ∧ ¬ X p) ∧ (Blk w q 9 [.string r] ∧ ¬ X q) ∧ s.data.toList = k ∧ s.size ≤ maxLen ∧ r.data.toList = m ∧ r.size ≤ maxLen
  | .remove k => ∃ p s, v = .func (.func 49) #[] #[ptrTo p] ∧ (Blk w p 9 [.string s] ∧ ¬ X p) ∧ s.data.toList = k ∧ s.size ≤ maxLen
theorem TurnAt.stay {w w' : World} {X Y : Nat → Prop} {fr fr' v : Value} {t : Tn} (h : TurnAt w X fr v t)
    (hk : ∀ p xs, Blk w p 9 xs → ¬ X p → w'.heap[p]? = w.heap[p]? ∧ ¬ Y p)
    (hf : ∀ p xs, Blk w p 62 xs → ¬ X p → fr.ownBlock ≠ some p → w'.heap[p]? = w.heap[p]? ∧ ¬ Y p ∧ fr'.ownBlock ≠ some p) : TurnAt w' Y fr' v t := by
  cases t with
  | create k b =>
    obtain ⟨p, q, s, e, ⟨h1, h2, h3⟩, ⟨h4, h5⟩, r⟩ := h
    have a := hf p _ h1 h2 h3
    have b := hk q _ h4 h5
    exact ⟨p, q, s, e, ⟨h1.stay a.1, a.2.1, a.2.2⟩, ⟨h4.stay b.1, b.2⟩, r⟩
  | rename k m =>
    obtain ⟨p, q, s, r, e, ⟨h1, h2⟩, ⟨h4, h5⟩, z⟩ := h
    have a := hk p _ h1 h2
    have b := hk q _ h4 h5
    exact ⟨p, q, s, r, e, ⟨h1.stay a.1, a.2⟩, ⟨h4.stay b.1, b.2⟩, z⟩
  | remove k =>
    obtain ⟨p, s, e, ⟨h1, h2⟩, z⟩ := h
    have a := hk p _ h1 h2
    exact ⟨p, s, e, ⟨h1.stay a.1, a.2⟩, z⟩
/-- The closures vs are the turns. -/
def TurnsAt (w : World) (X : Nat → Prop) (fr : Value) : List Value → List Tn → Prop
  | [], [] => True
  | v :: vs, t :: ts => TurnAt w X fr v t ∧ TurnsAt w X fr vs ts
  | _, _ => False
theorem TurnsAt.map {w w' : World} {X Y : Nat → Prop} {fr fr' : Value} (h : ∀ v t, TurnAt w X fr v t → TurnAt w' Y fr' v t) : ∀ {vs : List Value} {ts : List Tn}, TurnsAt w X fr vs ts → TurnsAt w' Y fr' vs ts
  | [], [], _ => trivial
  | _ :: _, _ :: _, ⟨h1, h2⟩ => ⟨h _ _ h1, TurnsAt.map h h2⟩
theorem TurnsAt.snoc {w : World} {X : Nat → Prop} {fr v : Value} {t : Tn} (h : TurnAt w X fr v t) : ∀ {vs : List Value} {ts : List Tn}, TurnsAt w X fr vs ts → TurnsAt w X fr (vs ++ [v]) (ts ++ [t])
  | [], [], _ => ⟨h, trivial⟩
  | _ :: _, _ :: _, ⟨h1, h2⟩ => ⟨h1, TurnsAt.snoc h h2⟩
theorem TurnsAt.at {w : World} {X : Nat → Prop} {fr : Value} : ∀ {vs : List Value} {ts : List Tn}, TurnsAt w X fr vs ts → ∀ {k : Nat}, k < ts.length → ∃ v t, vs[k]? = some v ∧ ts[k]? = some t ∧ TurnAt w X fr v t
  | [], [], _, k, hk => by simp at hk
  | v :: vs, t :: ts, ⟨h1, h2⟩, 0, _ => ⟨v, t, rfl, rfl, h1⟩
  | v :: vs, t :: ts, ⟨h1, h2⟩, k + 1, hk => by
    obtain ⟨v', t', e1, e2, e3⟩ := TurnsAt.at h2 (k := k) (by simpa using hk)
    exact ⟨v', t', by simpa using e1, by simpa using e2, e3⟩

/-- The file f lies in memory, its bytes in v. -/
structure FileAt (w : World) (X : Nat → Prop) (v : Value) (f : Fl) : Prop where
  blk : Blk w f.blk 65 (fileCells v f)
  out : ¬ X f.blk
  row : Row w X 5 v f.data.length (by8 f.data)
theorem FileAt.stay {w w' : World} {X : Nat → Prop} {v : Value} {f : Fl} (h : FileAt w X v f) (hk : w'.heap[f.blk]? = w.heap[f.blk]?) (hr : ∀ j, v.ownBlock = some j → w'.heap[j]? = w.heap[j]?) : FileAt w' X v f :=
  ⟨h.blk.stay hk, h.out, h.row.stay hr⟩
/-- Two files have neither a block nor bytes in common. -/
def Apart (L : Lay) (f f' : Fl) : Prop := f.blk ≠ f'.blk ∧ ∀ j, (L.row f.blk).ownBlock = some j → (L.row f'.blk).ownBlock ≠ some j
theorem Apart.symm {L : Lay} {f f' : Fl} (h : Apart L f f') : Apart L f' f := ⟨h.1.symm, fun j hj e => h.2 j e hj⟩

/-- The disk S lies at block g, laid as L says; its blocks are outside X. -/
structure DAt (w : World) (X : Nat → Prop) (g : Nat) (L : Lay) (S : St) : Prop where
  gX : ¬ X g
  old : ∀ b, X b → b < w.heap.size
  cells : Blk w g 61 (cellsOf L S)
  fr : Row w X 62 L.fr S.fs.length (S.fs.map fun f => ptrTo f.blk)
  nm : NamesAt w L.nm S.names
  nmX : ¬ X L.nm
  sm : NamesAt w L.sm S.sure
  smX : ¬ X L.sm
  nsm : L.nm ≠ L.sm
  wr : ∃ vs, Row w X 95 L.wr S.waits.length vs ∧ TurnsAt w X L.fr vs S.waits
  fo : ∀ f ∈ S.fs, FileAt w X (L.row f.blk) f
  nd : S.fs.Pairwise (Apart L)
end Go.Proofs.Ytekhockdgglndaa
