/-
  THE STATE OF A DISK, AND THE BLOCKS THAT HOLD IT.
-/
import Derived.Test.YthdfoahnkkkbmaaDMem
namespace Go.Proofs.Ythdfoahnkkkbmaa
set_option linter.unusedVariables false
set_option linter.unusedSimpArgs false
open Go.RowKit Go.Maps

/-! ### what a disk is -/
/-- A file: its block, its bytes, how many of the last ones aren't sure, and whether it was named when names were made sure. -/
structure Fl where
  blk : Nat
  data : List Int
  unsure : Nat
  named : Bool
/-- A turn of the names. -/
inductive Tn where
  | create (k : Nm) (b : Nat)
  | rename (k m : Nm)
  | remove (k : Nm)
def Tn.act : Tn → NL → NL
  | .create k b, N => nput k b N
  | .rename k m, N => match nat? k N with | some b => nput m b (ndel k N) | none => N
  | .remove k, N => ndel k N
/-- A turn that fits. -/
def Tn.ok : Tn → NL → Prop
  | .rename k _, N => ∃ b, nat? k N = some b
  | _, _ => True
def acts (l : List Tn) (N : NL) : NL := l.foldl (fun N t => t.act N) N
structure St where
  cap : Int
  fs : List Fl
  names : NL
  sure : NL
  waits : List Tn
  calls : Nat
  fuse : Nat
  fault : Nat
  fe : Int
  dead : Bool
/-- Where it lies. -/
structure Lay where
  fr : Value
  wr : Value
  nm : Nat
  sm : Nat
  row : Nat → Value
def Lay.up (L : Lay) (b : Nat) (v : Value) : Lay := { L with row := fun c => if c = b then v else L.row c }
theorem Lay.up_same (L : Lay) (b : Nat) (v : Value) : (L.up b v).row b = v := by simp [Lay.up]
theorem Lay.up_other (L : Lay) {b c : Nat} (v : Value) (h : c ≠ b) : (L.up b v).row c = L.row c := by simp [Lay.up, h]

def cellsOf (L : Lay) (S : St) : List Value :=
  [.int .i64 S.cap, L.fr, .map (some L.nm), .map (some L.sm), L.wr, .int .i64 (S.calls : Int), .int .i64 (S.fuse : Int), .int .i64 (S.fault : Int), .int .i64 S.fe, .bool S.dead]
def fileCells (v : Value) (f : Fl) : List Value := [v, .int .i64 (f.unsure : Int), .bool f.named]

/-! ### rows that lie outside X -/
def Row (w : World) (X : Nat → Prop) (t : TypeId) (v : Value) (n : Nat) (xs : List Value) : Prop := w.ownsRow 0 t 1 v n xs ∧ ∀ j, v.ownBlock = some j → ¬ X j
section
variable {w w' : World} {X : Nat → Prop} {t : TypeId} {v : Value} {n : Nat} {xs : List Value}
theorem Row.nil (w : World) (X : Nat → Prop) (t : TypeId) : Row w X t (.slice none 0 0) 0 [] := ⟨World.ownsRow_nil _ _ _ _, fun j h => by cases h⟩
theorem Row.lt (h : Row w X t v n xs) {j : Nat} (hj : v.ownBlock = some j) : j < w.heap.size := (h.1.lt j hj).2
theorem Row.len (h : Row w X t v n xs) : xs.length = n := by have := h.1.1; omega
theorem Row.stay (h : Row w X t v n xs) (hk : ∀ j, v.ownBlock = some j → w'.heap[j]? = w.heap[j]?) : Row w' X t v n xs := by
  refine ⟨⟨h.1.1, ?_⟩, h.2⟩
  rcases h.1.2 with hn | ⟨g, cap, cur, rfl, hb, hgg, rest⟩
  · exact .inl hn
  · exact .inr ⟨g, cap, cur, rfl, hb, by rw [hk g rfl]; exact hgg, rest⟩
theorem Row.form (h : Row w X t v n xs) : ∃ A c, v = .slice A n c ∧ n ≤ c ∧ c ≤ maxLen := by
  rcases h.1.2 with ⟨rfl, rfl⟩ | ⟨g, cap, cur, rfl, _, _, h2, h3, _⟩
  · exact ⟨none, 0, rfl, Nat.le_refl _, Nat.zero_le _⟩
  · exact ⟨_, _, rfl, h2, h3⟩
theorem Row.sh {A : Option Addr} {c : Nat} (h : Row w X t (.slice A n c) n xs) : Sh w w.heap.size A n xs := Sh.of_own h.1
theorem Row.cast {n' : Nat} {xs' : List Value} (h : Row w X t v n xs) (hn : n = n') (hx : xs = xs') : Row w X t v n' xs' := by subst hn; subst hx; exact h
/-- Rows of unlike elements are apart. -/
theorem Row.ne_blk (h : Row w X t v n xs) {b : Nat} {t' : TypeId} {ys : List Value} (hb : Blk w b t' ys) (ht : t ≠ t') : v.ownBlock ≠ some b := by
  intro e
  rcases h.1.2 with ⟨rfl, _⟩ | ⟨g, cap, cur, rfl, _, hh, _⟩
  · cases e
  · have : g = b := by simpa [Value.ownBlock] using e
    subst this
    unfold Blk at hb
    rw [hb] at hh
    simp at hh
    exact ht hh.2.symm
theorem Row.ne_row (h : Row w X t v n xs) {Y : Nat → Prop} {t' : TypeId} {v' : Value} {n' : Nat} {ys : List Value} (h' : Row w Y t' v' n' ys) (ht : t ≠ t') {j : Nat} (hj : v'.ownBlock = some j) : v.ownBlock ≠ some j := by
  intro e
  rcases h.1.2 with ⟨rfl, _⟩ | ⟨g, cap, cur, rfl, _, hh, _⟩
  · cases e
  · rcases h'.1.2 with ⟨rfl, _⟩ | ⟨g', cap', cur', rfl, _, hh', _⟩
    · cases hj
    · have e1 : g = j := by simpa [Value.ownBlock] using e
      have e2 : g' = j := by simpa [Value.ownBlock] using hj
      subst e1
      subst e2
      rw [hh] at hh'
      simp at hh'
      exact ht hh'.2
theorem Row.ne_names (h : Row w X t v n xs) {b : Nat} {N : NL} (hb : NamesAt w b N) : v.ownBlock ≠ some b := hb.ne_row h.1
theorem Row.head {b c : Nat} (h : Row w X t (.slice (some ⟨b, 0, none⟩) n c) n xs) {k : Nat} (hk : k ≤ n) : Row w X t (.slice (some ⟨b, 0, none⟩) k c) k (xs.take k) := by
  refine ⟨⟨by have := h.len; simp; omega, ?_⟩, h.2⟩
  rcases h.1.2 with ⟨e, _⟩ | ⟨g, cap, cur, e, hb, hh, h1, h2, h3, h4⟩
  · cases e
  · injection e with e1 _ e3
    injection e1 with e1
    injection e1 with e1
    subst e1
    subst e3
    refine .inr ⟨_, _, cur, rfl, hb, hh, by omega, h2, h3, ?_⟩
    rw [← h4, List.take_take]
    congr 1
    omega
end
theorem Blk.stay {w w' : World} {b : Nat} {t : TypeId} {xs : List Value} (h : Blk w b t xs) (hk : w'.heap[b]? = w.heap[b]?) : Blk w' b t xs := hk.trans h
theorem NamesAt.stay {w w' : World} {b : Nat} {N : NL} (h : NamesAt w b N) (hk : w'.heap[b]? = w.heap[b]?) : NamesAt w' b N := by
  obtain ⟨es, clock, hb, r⟩ := h
  exact ⟨es, clock, hk.trans hb, r⟩

/-- Two files have neither a block nor bytes in common. -/
def Apart (L : Lay) (f f' : Fl) : Prop := f.blk ≠ f'.blk ∧ ∀ j, (L.row f.blk).ownBlock = some j → (L.row f'.blk).ownBlock ≠ some j
theorem Apart.symm {L : Lay} {f f' : Fl} (h : Apart L f f') : Apart L f' f := ⟨h.1.symm, fun j hj e => h.2 j e hj⟩

end Go.Proofs.Ythdfoahnkkkbmaa
