/-
  CONTRACT OF 'do': a turn is done, and waits.
-/
import Derived.Test.YtfhbolhmfhgeaaaDDo
namespace Go.Proofs.Ytfhbolhmfhgeaaa
set_option linter.unusedVariables false
set_option linter.unusedSimpArgs false
open Go.RowKit Go.Maps

def St.turned (S : St) (t : Tn) : St := { S with names := t.act S.names, waits := S.waits ++ [t] }
section
variable {w : World} {X : Nat → Prop} {g : Nat} {L : Lay} {S : St}
/-- Behind the closure. -/
theorem do_step (h : DAt w X g L S) (N : NL) (w1 : World) (h1 : NamesAt w1 L.nm N) (hg1 : w.grownBy w1 (some L.nm)) :
    ∃ vs, DAt w1 X g L { S with names := N } ∧ Row w1 X 99 L.wr S.waits.length vs ∧ (∀ b, X b → b < w1.heap.size) ∧ w1.cell? ⟨g, 4, none⟩ = some L.wr := by
  have D := h.names hg1 h1
  obtain ⟨vs, hr, _⟩ := D.wr
  exact ⟨vs, D, hr, D.old, D.cells.cell 4⟩
theorem do_cell {S1 : St} {w1 w2 : World} {n : Nat} {vs : List Value} {u : Value} (h : DAt w1 X g L S1) (hr : Row w1 X 99 L.wr n vs) (hg2 : (w1.alloc (.cells #[u] 99)).grownBy w2 L.wr.ownBlock) : w2.cell? ⟨g, 4, none⟩ = some L.wr ∧ w2.frozen? ⟨g, 4, none⟩ = false := by
  have hb := (h.alloc (.cells #[u] 99)).cells.keep hg2 (fun e => hr.ne_blk h.cells (by decide) e)
  exact ⟨hb.cell 4, hb.nf 4⟩
/-- Behind all of it. -/
theorem do_close (h : DAt w X g L S) {v : Value} {t : Tn} (ht : TurnAt w X L.fr v t) (w1 w2 : World) (v2 : Value) (vs : List Value) (ht' : TurnAt w X L.fr v t) (D1 : DAt w1 X g L { S with names := t.act S.names }) (hg1 : w.grownBy w1 (some L.nm)) (hrow : Row w1 X 99 L.wr S.waits.length vs)
    (hrow2 : Row w2 X 99 v2 (S.waits.length + 1) (vs ++ [v])) (hg2 : (w1.alloc (.cells #[v] 99)).grownBy w2 L.wr.ownBlock) (hl2 : v2.ownBlock = L.wr.ownBlock ∨ v2.ownBlock = some (w1.heap.size + 1)) :
    (∃ L', DAt (w2.setCell ⟨g, 4, none⟩ v2) X g L' (S.turned t)) ∧ Keeps X w (w2.setCell ⟨g, 4, none⟩ v2) := by
  have hga : w1.grownBy w2 L.wr.ownBlock := grown_trans (World.grownBy_alloc w1 _ _) hg2
  have hk : ∀ k, k < w1.heap.size → k ≠ g → L.wr.ownBlock ≠ some k → (w2.setCell ⟨g, 4, none⟩ v2).heap[k]? = w1.heap[k]? := fun k h1 h2 h3 => (Below.heap_setCell _ _ _ _ h2).trans (hga.block k h1 (fun e => h3 e.symm))
  have hb2 : Blk w2 g 77 (cellsOf L { S with names := t.act S.names }) := D1.cells.keep hga (fun e => hrow.ne_blk D1.cells (by decide) e)
  obtain ⟨vs', hr', ht1⟩ := D1.wr
  have hvs : vs' = vs := by
    have e1 := hr'.1
    have e2 := hrow.1
    rcases e1.2 with ⟨q1, q2⟩ | ⟨a, b, c, q1, _, q2, _, _, _, q3⟩
    · have a1 := hr'.len
      have a2 := hrow.len
      rw [q2] at a1 a2
      rw [List.eq_nil_of_length_eq_zero a1, List.eq_nil_of_length_eq_zero a2]
    · rcases e2.2 with ⟨p1, p2⟩ | ⟨a', b', c', p1, _, p2, _, _, _, p3⟩
      · have a1 := hr'.len
        have a2 := hrow.len
        rw [p2] at a1 a2
        rw [List.eq_nil_of_length_eq_zero a1, List.eq_nil_of_length_eq_zero a2]
      · rw [p1] at q1
        injection q1 with q1
        injection q1 with q1
        injection q1 with q1
        subst q1
        rw [p2] at q2
        injection q2 with q2
        injection q2 with q2
        subst q2
        rw [← q3, ← p3]
  subst hvs
  have hrow3 : Row (w2.setCell ⟨g, 4, none⟩ v2) X 99 v2 (S.waits.length + 1) (vs' ++ [v]) := hrow2.stay fun j hj => Below.heap_setCell _ _ _ _ (fun e => hrow2.ne_blk hb2 (by decide) (by rw [hj]; simp at e; rw [e]))
  have htn : TurnAt w1 X L.fr v t := ht.stay (fun p xs hb hX => ⟨hg1.block _ hb.lt (fun e => h.nm.ne_blk hb (by injection e with e; exact e.symm)), hX⟩) (fun p xs hb hX hne => ⟨hg1.block _ hb.lt (fun e => h.nm.ne_blk hb (by injection e with e; exact e.symm)), hX, hne⟩)
  refine ⟨⟨{ L with wr := v2 }, D1.turns (ts' := S.waits ++ [t]) (by have := hga.size; simpa using this) hk (hb2.set 4 v2) ⟨vs' ++ [v], by simpa using hrow3, ?_⟩⟩, ?_⟩
  · exact (ht1.map fun v' t' h' => D1.closures hk h' hrow).snoc (D1.closures hk htn hrow)
  · exact (((Keeps.refl X w).grown hg1 h.old (fun k hk => by cases hk; exact h.nmX)).grown hga D1.old (fun k hk hX => hrow.2 k hk hX)).grown (grown_set w2 g 4 v2) (fun b hb => Nat.lt_of_lt_of_le (D1.old b hb) hga.size) (fun k hk => by cases hk; exact h.gX)

set_option maxRecDepth 100000 in
set_option maxHeartbeats 1600000 in
theorem do_any (h : DAt w X g L S) {v : Value} {t : Tn} (ht : TurnAt w X L.fr v t) (hok : t.ok S.names) (hn : S.names.length ≤ 1000000) (hw : S.waits.length ≤ 1000000) :
    Calls Try.prog 52 #[ptrTo g, v] w fun e w' => e = .returned (.tuple #[]) ∧ (∃ L', DAt w' X g L' (S.turned t)) ∧ Keeps X w w' := by
  have heq := fun w (r : Option Nat) => run_eql_map_nil (P := Try.prog) w 68 9 78 r underlyingM
  cases t with
  | create k b =>
    obtain ⟨p, q, s, hv, ⟨hp, _⟩, ⟨hq, _⟩, hk, hs⟩ := id ht
    have c2 : w.cell? ⟨g, 2, none⟩ = some (.map (some L.nm)) := h.cells.cell 2
    have CL := Lib.hid (do_close h ht)
    have HT := Lib.hid ht
    subst hv
    have HC := Lib.hid (show Calls Try.prog 53 #[.map (some L.nm), ptrTo p, ptrTo q] w (Turns w L.nm S.names (.create k b)) by rw [← hk]; exact create1_any L.nm p q b s S.names w h.nm hp hq hs hn)
    have HS := Lib.hid (do_step h)
    have hw1 : S.waits.length ≤ 1099511627776 := by omega
    clear h ht hp hq hk hs
    unfold ptrTo at *
    go_enter Try.func52, Try.ntmps52
    go_wp2_with (first
      | (go_at_call 53; refine HC.out.mono ?_; rintro e w1 ⟨rfl, h1, hg1⟩; obtain ⟨vs, D1, hrow, hX, c4⟩ := HS.out _ w1 h1 hg1; have D1 := Lib.hid D1)
      | (at_builtin; refine wpList_rowpush rfl (.tmp 23) (.tmp 25) 70 rfl rowT w1 X _ _ vs _ rfl hrow rfl rfl hX hw1 (by omega) ?_; intro v2 w2 hrow2 hg2 hl2; obtain ⟨A2, cc2, rfl, _, _⟩ := hrow2.form; obtain ⟨k4, f4⟩ := do_cell D1.out hrow hg2; have HL := Lib.hid hl2; clear hl2)
      | go_in)
    first | go_ret | go_end0
    exact ⟨rfl, CL.out w1 w2 _ vs HT.out D1.out hg1 hrow hrow2 hg2 HL.out⟩
  | rename k m =>
    obtain ⟨p, q, s, r, hv, ⟨hp, _⟩, ⟨hq, _⟩, hk, hs, hm, hr⟩ := id ht
    obtain ⟨b, hb⟩ := hok
    have c2 : w.cell? ⟨g, 2, none⟩ = some (.map (some L.nm)) := h.cells.cell 2
    have CL := Lib.hid (do_close h ht)
    have HT := Lib.hid ht
    subst hv
    have HC := Lib.hid (by
      have ea : Tn.act (.rename k m) S.names = nput m b (ndel k S.names) := (by simp only [Tn.act, hb])
      show Calls Try.prog 61 #[.map (some L.nm), ptrTo p, ptrTo q] w (Turns w L.nm S.names (.rename k m))
      unfold Turns
      rw [ea, ← hk, ← hm]
      exact rename1_any L.nm p q b s r S.names w h.nm hp hq hs hr (by rw [hk]; exact hb) hn)
    have HS := Lib.hid (do_step h)
    have hw1 : S.waits.length ≤ 1099511627776 := by omega
    clear h ht hp hq hk hs hm hr hb
    unfold ptrTo at *
    go_enter Try.func52, Try.ntmps52
    go_wp2_with (first
      | (go_at_call 61; refine HC.out.mono ?_; rintro e w1 ⟨rfl, h1, hg1⟩; obtain ⟨vs, D1, hrow, hX, c4⟩ := HS.out _ w1 h1 hg1; have D1 := Lib.hid D1)
      | (at_builtin; refine wpList_rowpush rfl (.tmp 23) (.tmp 25) 70 rfl rowT w1 X _ _ vs _ rfl hrow rfl rfl hX hw1 (by omega) ?_; intro v2 w2 hrow2 hg2 hl2; obtain ⟨A2, cc2, rfl, _, _⟩ := hrow2.form; obtain ⟨k4, f4⟩ := do_cell D1.out hrow hg2; have HL := Lib.hid hl2; clear hl2)
      | go_in)
    first | go_ret | go_end0
    exact ⟨rfl, CL.out w1 w2 _ vs HT.out D1.out hg1 hrow hrow2 hg2 HL.out⟩
  | remove k =>
    obtain ⟨p, s, hv, ⟨hp, _⟩, hk, hs⟩ := id ht
    have c2 : w.cell? ⟨g, 2, none⟩ = some (.map (some L.nm)) := h.cells.cell 2
    have CL := Lib.hid (do_close h ht)
    have HT := Lib.hid ht
    subst hv
    have HC := Lib.hid (show Calls Try.prog 62 #[.map (some L.nm), ptrTo p] w (Turns w L.nm S.names (.remove k)) by rw [← hk]; exact remove1_any L.nm p s S.names w h.nm hp hs)
    have HS := Lib.hid (do_step h)
    have hw1 : S.waits.length ≤ 1099511627776 := by omega
    clear h ht hp hk hs
    unfold ptrTo at *
    go_enter Try.func52, Try.ntmps52
    go_wp2_with (first
      | (go_at_call 62; refine HC.out.mono ?_; rintro e w1 ⟨rfl, h1, hg1⟩; obtain ⟨vs, D1, hrow, hX, c4⟩ := HS.out _ w1 h1 hg1; have D1 := Lib.hid D1)
      | (at_builtin; refine wpList_rowpush rfl (.tmp 23) (.tmp 25) 70 rfl rowT w1 X _ _ vs _ rfl hrow rfl rfl hX hw1 (by omega) ?_; intro v2 w2 hrow2 hg2 hl2; obtain ⟨A2, cc2, rfl, _, _⟩ := hrow2.form; obtain ⟨k4, f4⟩ := do_cell D1.out hrow hg2; have HL := Lib.hid hl2; clear hl2)
      | go_in)
    first | go_ret | go_end0
    exact ⟨rfl, CL.out w1 w2 _ vs HT.out D1.out hg1 hrow hrow2 hg2 HL.out⟩
end
end Go.Proofs.Ytfhbolhmfhgeaaa
