/-
  WORDS FOR LatticeNews and LatticeAlls: the document's tables stay where only the lattice's block turns.
-/
import Derived.Test.YtnhdpegjkkaabaaOlQ
import Derived.Test.YtnhdpegjkkaabaaOqA
import Derived.Test.YtnhdpegjkkaabaaOqD
import Derived.Test.YtnhdpegjkkaabaaLtH
namespace Go.Proofs.Ytnhdpegjkkaabaa
set_option linter.unusedVariables false
set_option linter.unusedSimpArgs false
open Go.RowKit Go.Maps

theorem Own.only {w w' : World} {B n size g : Nat} {e : TypeId} {v : Value} {xs : List Value} (h : Own w B e size v n xs) (ho : Only g w w') (hg : g < B) : Own w' B e size v n xs := by
  refine ⟨⟨h.1.1, ?_⟩, by rw [ho.size]; exact h.2⟩
  rcases h.1.2 with h1 | ⟨b, cap, cur, h1, h2, h3, h4⟩
  · exact .inl h1
  · exact .inr ⟨b, cap, cur, h1, h2, (ho.block b (by omega)).trans h3, h4⟩
theorem RowsI.only {w w' : World} {B n g : Nat} {f : Nat → Nat → Int} {rows : List Value} (h : RowsI w B n f rows) (ho : Only g w w') (hg : g < B) : RowsI w' B n f rows := fun j hj => by
  obtain ⟨P, c, e, hw⟩ := h j hj
  exact ⟨P, c, e, hw.only ho hg⟩
theorem TabsOwn.only {w w' : World} {B g : Nat} {o : Od} {js ms : Value} (h : TabsOwn w B o js ms) (ho : Only g w w') (hg : g < B) : TabsOwn w' B o js ms := by
  obtain ⟨B', J, c, M, d, rj, rm, hB, e1, e2, h1, h2, h3, h4, h5, h6⟩ := h
  exact ⟨B', J, c, M, d, rj, rm, hB, e1, e2, h1.only ho (by omega), h2, h3.only ho (by omega), h4.only ho (by omega), h5, h6.only ho (by omega)⟩
theorem RnewTo.some {w w' : World} {l : List OPr} {e : Ending} (h : RnewTo w l e w') {o : Od} (ho : (newO l).1 = some o) : Below w.heap.size w w' ∧ ∃ v m, e = .returned (.tuple #[.agg #[v, m], .int .i64 0, .int .i64 0]) ∧ RefAt w' o v m := by
  obtain ⟨h1, h2⟩ := h
  refine ⟨h1, ?_⟩
  split at h2
  · rename_i heq
    rw [heq] at ho
    cases ho
  · rename_i heq
    rw [heq] at ho
    cases ho
    obtain ⟨v, m, e, h3, _⟩ := h2
    exact ⟨v, m, e, h3⟩
theorem RnewTo.own {w w' : World} {l : List OPr} {e : Ending} (h : RnewTo w l e w') {o : Od} (ho : (newO l).1 = Option.some o) : Below w.heap.size w w' ∧ ∃ v m, e = .returned (.tuple #[.agg #[v, m], .int .i64 0, .int .i64 0]) ∧ RefOwn w' w.heap.size o v m := by
  obtain ⟨h1, h2⟩ := h
  refine ⟨h1, ?_⟩
  split at h2
  · rename_i heq
    rw [heq] at ho
    cases ho
  · rename_i heq
    rw [heq] at ho
    cases ho
    obtain ⟨v, m, e, _, h3⟩ := h2
    exact ⟨v, m, e, h3⟩
theorem RnewTo.none {w w' : World} {l : List OPr} {e : Ending} (h : RnewTo w l e w') (ho : (newO l).1 = none) : Below w.heap.size w w' ∧ e = .returned (.tuple #[.agg #[.slice none 0 0, .slice none 0 0], .int .i64 ((newO l).2.1 : Int), .int .i64 ((newO l).2.2 : Int)]) := by
  obtain ⟨h1, h2⟩ := h
  refine ⟨h1, ?_⟩
  split at h2
  · rename_i heq
    rw [heq]
    exact h2
  · rename_i heq
    rw [heq] at ho
    cases ho
/-- Where New is OK; where it isn't. -/
theorem rlatTo_is {w w' : World} {o : Od} {v m : Value} {e : Ending} (h : RLatTo w o v m e w') (k : LNew o.ns.length (rmost o) 0 0 0) : Below w.heap.size w w' ∧ ∃ js ms, e = .returned (.tuple #[.agg #[v, m, js, ms], .int .i64 0, .int .i64 0, .int .i64 0]) ∧ TabsOwn w' w.heap.size o js ms := by
  obtain ⟨hb, a, b, c, hn, he⟩ := h
  obtain ⟨_, _, rfl⟩ := hn.uniq k
  rw [if_pos rfl] at he
  obtain ⟨js, ms, h1, _, h3⟩ := he
  exact ⟨hb, js, ms, h1, h3⟩
theorem rlatTo_err {w w' : World} {o : Od} {v m : Value} {e : Ending} (h : RLatTo w o v m e w') {a b c : Nat} (k : LNew o.ns.length (rmost o) a b c) (hc : c ≠ 0) : Below w.heap.size w w' ∧ e = .returned (.tuple #[.agg #[.slice none 0 0, .slice none 0 0, .slice none 0 0, .slice none 0 0], .int .i64 (a : Int), .int .i64 (b : Int), .int .i64 (c : Int)]) := by
  obtain ⟨hb, a', b', c', hn, he⟩ := h
  obtain ⟨rfl, rfl, rfl⟩ := hn.uniq k
  rw [if_neg hc] at he
  exact ⟨hb, he⟩
theorem rows_lo {w : World} {B n : Nat} {f : Nat → Nat → Int} {rows : List Value} {M : Option Addr} {c : Nat} (hv : Own w B 36 1 (.slice M n c) n rows) (hl : rows.length = n) (h : RowsI w B n f rows) (hn : 0 < n) :
    ∃ (mb : Nat) (rb rc : Nat → Nat), M = some ⟨mb, 0, none⟩ ∧ B ≤ mb ∧ ∀ x, x < n → B ≤ rb x ∧ w.cell? ⟨mb, x, none⟩ = some (.slice (some ⟨rb x, 0, none⟩) n (rc x)) ∧ ∀ y, y < n → w.cell? ⟨rb x, y, none⟩ = some (.int .i64 (f x y)) := by
  obtain ⟨g, cap, hg, hgB, _⟩ := hv.1.form hn
  have hM : M = some ⟨g, 0, none⟩ := by injection hg
  subst hM
  have h2 : ∀ x, ∃ r : Nat × Nat, x < n → B ≤ r.1 ∧ w.cell? ⟨g, x, none⟩ = some (.slice (some ⟨r.1, 0, none⟩) n r.2) ∧ ∀ y, y < n → w.cell? ⟨r.1, y, none⟩ = some (.int .i64 (f x y)) := by
    intro x
    by_cases hx : x < n
    · obtain ⟨P, d, e, ho⟩ := h x (by omega)
      obtain ⟨q, cap2, hq, hqB, _⟩ := ho.1.form hn
      have hP : P = some ⟨q, 0, none⟩ := by injection hq
      subst hP
      refine ⟨(q, d), fun _ => ⟨hqB, ?_, fun y hy => ?_⟩⟩
      · obtain ⟨b, off, eb, _, hc⟩ := hv.sh.2 hn
        cases eb
        have := hc x _ e
        rwa [Nat.zero_add] at this
      · obtain ⟨b, off, eb, _, hc⟩ := ho.sh.2 hn
        cases eb
        have := hc y (.int .i64 (f x y)) (by unfold tints; rw [List.getElem?_map, List.getElem?_range hy]; rfl)
        rwa [Nat.zero_add] at this
    · exact ⟨(0, 0), fun h => absurd h hx⟩
  obtain ⟨r, hr⟩ := Classical.axiomOfChoice h2
  exact ⟨g, fun x => (r x).1, fun x => (r x).2, rfl, hgB, hr⟩
theorem TabsOwn.rows {w : World} {B : Nat} {o : Od} {js ms : Value} (h : TabsOwn w B o js ms) (hn : 0 < o.ns.length) :
    ∃ (jb jc mb mc : Nat) (rb rc sb sc : Nat → Nat), js = .slice (some ⟨jb, 0, none⟩) o.ns.length jc ∧ ms = .slice (some ⟨mb, 0, none⟩) o.ns.length mc ∧ B ≤ jb ∧ B ≤ mb ∧
      (∀ x, x < o.ns.length → B ≤ rb x ∧ w.cell? ⟨jb, x, none⟩ = some (.slice (some ⟨rb x, 0, none⟩) o.ns.length (rc x)) ∧ ∀ y, y < o.ns.length → w.cell? ⟨rb x, y, none⟩ = some (.int .i64 (rjoinI (rmost o) o.ns.length x y))) ∧
      (∀ x, x < o.ns.length → B ≤ sb x ∧ w.cell? ⟨mb, x, none⟩ = some (.slice (some ⟨sb x, 0, none⟩) o.ns.length (sc x)) ∧ ∀ y, y < o.ns.length → w.cell? ⟨sb x, y, none⟩ = some (.int .i64 (rjoinI (oflip (rmost o)) o.ns.length x y))) := by
  obtain ⟨B', J, c, M, d, rj, rm, hB, rfl, rfl, h1, h2, h3, h4, h5, h6⟩ := h
  obtain ⟨jb, rb, rc, rfl, b1, k1⟩ := rows_lo h1 h2 h3 hn
  obtain ⟨mb, sb, sc, rfl, b2, k2⟩ := rows_lo h4 h5 h6 hn
  exact ⟨jb, c, mb, d, rb, rc, sb, sc, rfl, rfl, by omega, by omega, fun x hx => ⟨Nat.le_trans hB (k1 x hx).1, (k1 x hx).2⟩, fun x hx => ⟨Nat.le_trans hB (k2 x hx).1, (k2 x hx).2⟩⟩
theorem lnTo_is2 {w w' : World} {X : Nat → Prop} {og : Nat} {o : Od} {e : Ending} (h : LnTo w X og o e w') (k : LNew o.ns.length (rmost o) 0 0 0) :
    Below w.heap.size w w' ∧ ∃ g, e = .returned (.tuple #[.pointer (some ⟨g, 0, none⟩), .int .i64 0, .int .i64 0, .int .i64 0]) ∧ w.heap.size ≤ g ∧ g < w'.heap.size ∧ LtAt w' (fun b => X b ∨ b = g) g og o true 0 := by
  obtain ⟨h1, h2, h3⟩ := lnTo_is h k
  exact ⟨h1, _, h2, Nat.le_refl _, h3.c.lt, h3⟩
theorem TabsOwn.below {w w' : World} {B : Nat} {o : Od} {js ms : Value} (h : TabsOwn w B o js ms) (hb : Below w.heap.size w w') : TabsOwn w' B o js ms := by
  obtain ⟨B', J, c, M, d, rj, rm, hB, e1, e2, h1, h2, h3, h4, h5, h6⟩ := h
  exact ⟨B', J, c, M, d, rj, rm, hB, e1, e2, h1.below hb, h2, h3.below hb, h4.below hb, h5, h6.below hb⟩
theorem news_bound {k s t n : Nat} (h : k = 2 * (s * n + t)) (hs : s ≤ 64) (ht : t ≤ 64) (hn : n ≤ 64) : k ≤ 1000000 := by
  have := Nat.mul_le_mul hs hn
  omega
/-- What holds in the worlds of LatticeNews once both lattices are there. -/
structure NewsS (w3 W : World) (X : Nat → Prop) (g og G B k : Nat) (o : Od) (v m js ms : Value) : Prop where
  la : LtAt W X g og o true k
  b3 : Below w3.heap.size w3 W
  tb : TabsOwn W B o js ms
  yb : Blk W G 33 [v, m, js, ms]
  r3 : RefAt w3 o v m
  g3 : w3.heap.size ≤ g
  gB : g < B
  gG : g < G
section
variable {w3 W W' : World} {X : Nat → Prop} {g og G B k k' : Nat} {o : Od} {v m js ms : Value}
theorem NewsS.only (h : NewsS w3 W X g og G B k o v m js ms) (hm : LtAt W' X g og o true k') (ho : Only g W W') : NewsS w3 W' X g og G B k' o v m js ms :=
  ⟨hm, h.b3.trans ((ho.below h.g3).mono (Nat.le_refl _)), h.tb.only ho h.gB, h.yb.stay (ho.block _ (by have := h.gG; omega)), h.r3, h.g3, h.gB, h.gG⟩
theorem NewsS.below (h : NewsS w3 W X g og G B k o v m js ms) (hb : Below W.heap.size W W') : NewsS w3 W' X g og G B k o v m js ms :=
  ⟨h.la.stay hb, h.b3.trans (hb.mono h.b3.size), h.tb.below hb, h.yb.stay (hb.block _ h.yb.lt), h.r3, h.g3, h.gB, h.gG⟩
theorem NewsS.drew (h : NewsS w3 W X g og G B k o v m js ms) : NewsS w3 W.drew X g og G B k o v m js ms := h.below ((Quiet.one _ 1).below _)
theorem below_drewL {B : Nat} {a b : World} (h : Below B a b) : Below B a b.drew := h.trans ((Quiet.one _ 1).below _)
theorem NewsS.lat (h : NewsS w3 W X g og G B k o v m js ms) : LatAt W o v m js ms := h.tb.lat (h.r3.stay h.b3)
theorem NewsS.cells (h : NewsS w3 W X g og G B k o v m js ms) : W.cell? ⟨G, 0, none⟩ = some v ∧ W.cell? ⟨G, 1, none⟩ = some m ∧ W.cell? ⟨G, 2, none⟩ = some js ∧ W.cell? ⟨G, 3, none⟩ = some ms := ⟨h.yb.cell 0, h.yb.cell 1, h.yb.cell 2, h.yb.cell 3⟩
end
end Go.Proofs.Ytnhdpegjkkaabaa
