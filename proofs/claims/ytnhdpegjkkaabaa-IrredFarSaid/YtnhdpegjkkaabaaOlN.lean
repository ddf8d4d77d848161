/-
  CONTRACT OF the document's lattice 'New': words.
-/
import Derived.Test.YtnhdpegjkkaabaaOlB
import Derived.Maps.AppendAt
namespace Go.Proofs.Ytnhdpegjkkaabaa
set_option linter.unusedVariables false
set_option linter.unusedSimpArgs false
open Go.RowKit

section
variable {P : Program} {ops : Array Oper} {rest : List Oper} {o : Oper} {a : Act} {Q : Exit → Act → World → Prop}
/-- Append of one: where the row lies behind it. -/
theorem wp_push_f {K : Act → World → Prop} (s x : Operand) (t : TypeId) (ho : o.op = .call { callee := .builtin .append, args := #[s, x], argTypes := #[t, t] })
    {e : TypeId} {size bytes : Nat} (hT : RowT P t e size bytes) (w : World) (B : Nat) (v : Value) (n : Nat) (xs us : List Value) (hs : a.eval s = v) (hown : Own w B e size v n xs)
    {G : Nat} (hx : a.eval x = .slice (some ⟨G, 0, none⟩) 1 1) (hG : G = w.heap.size) (hl : us.length = size) (h1 : ∀ u ∈ us, u.oneCell' = true)
    (hlen : n ≤ 1000000000) (hby : bytes ≤ 256)
    (h : ∀ v' w', Own w' B e size v' (n + 1) (xs ++ us) → (w.alloc (.cells us.toArray e)).grownBy w' v.ownBlock → (v'.ownBlock = v.ownBlock ∨ v'.ownBlock = some (w.heap.size + 1)) → K (a.put o.dst v') w') :
    o.wp P a (w.alloc (.cells us.toArray e)) K Q := by
  subst hG
  obtain ⟨ht, i, z, hi, hz, hsize, hbytes, hzs, hpos⟩ := hT
  have hbb : (n + 1) * bytes ≤ 140737488355328 := Nat.le_trans (Nat.mul_le_mul (show n + 1 ≤ 1000000001 by omega) hby) (by decide)
  obtain ⟨v', w', hr, h2, h3, _, h5⟩ := run_append_own_at (P := P) (w.alloc (.cells us.toArray e)) B t o.type e i z size bytes ht hi hz hsize hbytes hzs hpos v n xs (hown.1.alloc _) ⟨w.heap.size, 0, none⟩ 1 1 us (by simpa using hl)
    (fun j y hj => by
      rw [Addr.add_lit, Nat.zero_add, World.cell?_alloc_at _ _ _ _ rfl]
      simpa using hj) h1 (by unfold maxLen; omega) hbb (by have := hown.2; simp; omega)
  have hge : B ≤ (w.alloc (.cells us.toArray e)).heap.size := by have := hown.2; simp; omega
  unfold Oper.wp execOp
  simp only [ho, resolve, invoke, builtin, Sem.run_bind, Sem.run_pure, Result.andThen_ok, List.map_toArray, List.map_cons, List.map_nil, hs, hx, hr]
  exact h v' w' ⟨h2, Nat.le_trans hge h3.size⟩ h3 (by simpa using h5)
end
/-- Two rows in blocks of their own. -/
def Ap (a b : Value) : Prop := ∀ k, a.ownBlock = some k → b.ownBlock ≠ some k
theorem Ap.symm {a b : Value} (h : Ap a b) : Ap b a := fun k h1 h2 => h k h2 h1
theorem Ap.none {a : Value} : Ap (.slice none 0 0) a := fun k h => by cases h
theorem Own.side {a b : World} {B n size : Nat} {e : TypeId} {v : Value} {xs : List Value} {row : Option Nat} (h : Own a B e size v n xs) (hg : a.grownBy b row) (hne : ∀ j, v.ownBlock = some j → row ≠ some j) : Own b B e size v n xs := by
  refine ⟨h.1.kept hg ?_, Nat.le_trans h.2 hg.size⟩
  rcases h.1.2 with ⟨rfl, _⟩ | ⟨q, cap, cur, rfl, _, hq, _⟩
  · exact .inl rfl
  · exact .inr fun he => hne q rfl he.symm
/-- One of two rows grows. -/
theorem pair_push {w w' : World} {B n m size : Nat} {e : TypeId} {v u v' : Value} {xs ys us : List Value} (hv : Own w B e size v n xs) (hu : Own w B e size u m ys) (hA : Ap v u)
    (hg : (w.alloc (.cells us.toArray e)).grownBy w' v.ownBlock) (hf : v'.ownBlock = v.ownBlock ∨ v'.ownBlock = some (w.heap.size + 1)) : Own w' B e size u m ys ∧ Ap v' u := by
  refine ⟨(hu.alloc _).side hg fun j hj e => hA j e hj, fun k h1 h2 => ?_⟩
  rcases hf with h | h
  · exact hA k (h ▸ h1) h2
  · rw [h] at h1
    injection h1 with h1
    have := (hu.1.lt k h2).2
    omega
theorem push_below {w0 w w' : World} {B0 B n size : Nat} {e : TypeId} {v : Value} {xs us : List Value} (hv : Own w B e size v n xs) (hb : Below B0 w0 w) (hB : B0 ≤ B) (h0 : B0 ≤ w.heap.size) (hg : (w.alloc (.cells us.toArray e)).grownBy w' v.ownBlock) : Below B0 w0 w' :=
  (hb.alloc h0 _).grown hg (by simp; omega) fun k hk => Nat.le_trans hB (hv.block_ge k hk)
/-- Rows of numbers, each the call's own. -/
def RowsI (w : World) (B n : Nat) (f : Nat → Nat → Int) (rows : List Value) : Prop := ∀ j, j < rows.length → ∃ P c, rows[j]? = some (.slice P n c) ∧ Own w B 3 1 (.slice P n c) n (tints n (f j))
theorem RowsI.nil (w : World) (B n : Nat) (f : Nat → Nat → Int) : RowsI w B n f [] := fun j hj => absurd hj (Nat.not_lt_zero _)
theorem RowsI.below {w w' : World} {B n : Nat} {f : Nat → Nat → Int} {rows : List Value} (h : RowsI w B n f rows) (hb : Below w.heap.size w w') : RowsI w' B n f rows := fun j hj => by
  obtain ⟨P, c, e, ho⟩ := h j hj
  exact ⟨P, c, e, ho.below hb⟩
theorem RowsI.other {w w' : World} {B n : Nat} {f : Nat → Nat → Int} {rows xs : List Value} {v : Value} {B' m size : Nat} {t : TypeId} (h : RowsI w B n f rows) (hv : Own w B' t size v m xs) (hne : 3 ≠ t) (hg : w.grownBy w' v.ownBlock) : RowsI w' B n f rows := fun j hj => by
  obtain ⟨P, c, e, ho⟩ := h j hj
  exact ⟨P, c, e, ho.other hv hne hg⟩
theorem RowsI.set {w : World} {B n : Nat} {f : Nat → Nat → Int} {rows : List Value} (h : RowsI w B n f rows) {p : Addr} (hp : p.block < B) (u : Value) : RowsI (w.setCell p u) B n f rows := fun j hj => by
  obtain ⟨P, c, e, ho⟩ := h j hj
  exact ⟨P, c, e, ho.setq hp u⟩
theorem RowsI.snoc {w : World} {B n : Nat} {f : Nat → Nat → Int} {rows : List Value} (h : RowsI w B n f rows) {P : Option Addr} {c : Nat} (ho : Own w B 3 1 (.slice P n c) n (tints n (f rows.length))) : RowsI w B n f (rows ++ [.slice P n c]) := fun j hj => by
  rcases Nat.lt_or_ge j rows.length with e | e
  · obtain ⟨Q, d, h1, h2⟩ := h j e
    exact ⟨Q, d, by rw [List.getElem?_append_left e]; exact h1, h2⟩
  · have : j = rows.length := by simp at hj; omega
    subst this
    exact ⟨P, c, by simp, ho⟩
theorem TabAt.of_rows {w : World} {B n : Nat} {f : Nat → Nat → Int} {rows : List Value} {M : Option Addr} {c : Nat} (hv : Own w B 36 1 (.slice M n c) n rows) (hl : rows.length = n) (h : RowsI w B n f rows) : TabAt w M n f := fun hn => by
  obtain ⟨b, off, e, hb, hc⟩ := hv.sh.2 hn
  refine ⟨b, off, e, hb, fun a ha => ?_⟩
  obtain ⟨P, d, h1, h2⟩ := h a (by rw [hl]; exact ha)
  exact ⟨P, d, hc a _ h1, h2.sh⟩
theorem rowII : RowT Try.prog 31 36 1 24 := RowT.mk (z := .slice none 0 0) Try.underlying31 (by kernel_rfl) rfl (by omega)
theorem zeroLA (w : World) : (zeroValue 33).run Try.prog w = .ok (.agg #[.slice none 0 0, .slice none 0 0, .slice none 0 0, .slice none 0 0]) w := by kernel_rfl
/-- The result's block takes what is stored, and is handed back. -/
def set4 (W : World) (R : Nat) (x0 x1 x2 x3 : Value) : World := (((W.setCell ⟨R, 0, none⟩ x0).setCell ⟨R, 1, none⟩ x1).setCell ⟨R, 2, none⟩ x2).setCell ⟨R, 3, none⟩ x3
theorem results_la {tmps : Array Value} {w : World} {G : Nat} {x0 x1 x2 x3 y z u : Value} (hp : tmps.getD 2 undef = .pointer (some ⟨G, 0, none⟩)) (hy : tmps.getD 3 undef = y) (hz : tmps.getD 4 undef = z) (hu : tmps.getD 5 undef = u)
    (c0 : w.cell? ⟨G, 0, none⟩ = some x0) (c1 : w.cell? ⟨G, 1, none⟩ = some x1) (c2 : w.cell? ⟨G, 2, none⟩ = some x2) (c3 : w.cell? ⟨G, 3, none⟩ = some x3) : (results Try.f28 tmps).run Try.prog w = .ok (.tuple #[.agg #[x0, x1, x2, x3], y, z, u]) w := by
  have hr : Try.f28.results = #[.cell 2 33, .tmp 3, .tmp 4, .tmp 5] := rfl
  have hl : (loadVar 33 ⟨G, 0, none⟩).run Try.prog w = .ok (.agg #[x0, x1, x2, x3]) w := run_loadVar_mid w G 0 33 [x0, x1, x2, x3] _ (fun j u hj => by
    match j, hj with
    | 0, hj => cases hj; exact c0
    | 1, hj => cases hj; exact c1
    | 2, hj => cases hj; exact c2
    | 3, hj => cases hj; exact c3
    | j + 4, hj => simp at hj) Try.underlying33 rfl (by kernel_rfl)
  have hp' : tmps[2]?.getD undef = .pointer (some ⟨G, 0, none⟩) := by simpa using hp
  subst hy
  subst hz
  subst hu
  simp [results, hr, hp', asAddr, hl]
theorem la_done {Q : Ending → World → Prop} {w0 W : World} {R : Nat} {x0 x1 x2 x3 y z u p q r s : Value} {a : Act} (hp : a.tmps.getD 2 undef = .pointer (some ⟨R, 0, none⟩)) (h3 : a.tmps.getD 3 undef = y) (h4 : a.tmps.getD 4 undef = z) (h5 : a.tmps.getD 5 undef = u) (hd : a.defers = [])
    (hR : Blk w0 R 33 [p, q, r, s]) (hb : Below w0.heap.size w0 W) (hQ : Q (.returned (.tuple #[.agg #[x0, x1, x2, x3], y, z, u])) (set4 W R x0 x1 x2 x3)) :
    bodyPost Try.prog Try.f28 Q Exit.ret a (set4 W R x0 x1 x2 x3) := by
  have hW : Blk W R 33 [p, q, r, s] := hR.stay (hb.block _ hR.lt)
  have h2 := (((hW.set 0 x0).set 1 x1).set 2 x2).set 3 x3
  exact bodyPost_ret (results_la hp h3 h4 h5 (h2.cell 0) (h2.cell 1) (h2.cell 2) (h2.cell 3)) hd hQ
theorem la_cells {w0 W : World} {R : Nat} {p q r s : Value} (hR : Blk w0 R 33 [p, q, r, s]) (hb : Below w0.heap.size w0 W) :
    (W.cell? ⟨R, 0, none⟩ = some p ∧ W.cell? ⟨R, 1, none⟩ = some q ∧ W.cell? ⟨R, 2, none⟩ = some r ∧ W.cell? ⟨R, 3, none⟩ = some s) ∧ W.frozen? ⟨R, 0, none⟩ = false ∧ W.frozen? ⟨R, 1, none⟩ = false ∧ W.frozen? ⟨R, 2, none⟩ = false ∧ W.frozen? ⟨R, 3, none⟩ = false := by
  have hW : Blk W R 33 [p, q, r, s] := hR.stay (hb.block _ hR.lt)
  exact ⟨⟨hW.cell 0, hW.cell 1, hW.cell 2, hW.cell 3⟩, hW.nf 0, hW.nf 1, hW.nf 2, hW.nf 3⟩
/-- The document's tables, in blocks of the call's own. -/
def TabsOwn (w : World) (B : Nat) (o : Od) (js ms : Value) : Prop := ∃ (B' : Nat) (J : Option Addr) (c : Nat) (M : Option Addr) (d : Nat) (rj rm : List Value), B ≤ B' ∧ js = .slice J o.ns.length c ∧ ms = .slice M o.ns.length d ∧
  Own w B' 36 1 (.slice J o.ns.length c) o.ns.length rj ∧ rj.length = o.ns.length ∧ RowsI w B' o.ns.length (rjoinI (rmost o) o.ns.length) rj ∧
  Own w B' 36 1 (.slice M o.ns.length d) o.ns.length rm ∧ rm.length = o.ns.length ∧ RowsI w B' o.ns.length (rjoinI (oflip (rmost o)) o.ns.length) rm
theorem TabsOwn.lat {w : World} {B : Nat} {o : Od} {v m js ms : Value} (h : TabsOwn w B o js ms) (hr : RefAt w o v m) : LatAt w o v m js ms := by
  obtain ⟨B', J, c, M, d, rj, rm, _, rfl, rfl, h1, h2, h3, h4, h5, h6⟩ := h
  exact ⟨hr, ⟨J, c, rfl, TabAt.of_rows h1 h2 h3⟩, ⟨M, d, rfl, TabAt.of_rows h4 h5 h6⟩⟩
/-- What the document's New answers. -/
def RLatTo (w : World) (o : Od) (v m : Value) (e : Ending) (w' : World) : Prop :=
  Below w.heap.size w w' ∧ ∃ a b c : Nat, LNew o.ns.length (rmost o) a b c ∧
    if c = 0 then ∃ js ms, e = .returned (.tuple #[.agg #[v, m, js, ms], .int .i64 0, .int .i64 0, .int .i64 0]) ∧ LatAt w' o v m js ms ∧ TabsOwn w' w.heap.size o js ms
    else e = .returned (.tuple #[.agg #[.slice none 0 0, .slice none 0 0, .slice none 0 0, .slice none 0 0], .int .i64 (a : Int), .int .i64 (b : Int), .int .i64 (c : Int)])
theorem rlat_bad {w w' : World} {o : Od} {v m : Value} {a b c : Nat} (hb : Below w.heap.size w w') (h : LNew o.ns.length (rmost o) a b c) (hc : c ≠ 0) : RLatTo w o v m (.returned (.tuple #[.agg #[.slice none 0 0, .slice none 0 0, .slice none 0 0, .slice none 0 0], .int .i64 (a : Int), .int .i64 (b : Int), .int .i64 (c : Int)])) w' :=
  ⟨hb, a, b, c, h, by rw [if_neg hc]⟩
theorem rlat_ok {w w' : World} {o : Od} {v m js ms : Value} (hb : Below w.heap.size w w') (h : LNew o.ns.length (rmost o) 0 0 0) (hl : LatAt w' o v m js ms ∧ TabsOwn w' w.heap.size o js ms) : RLatTo w o v m (.returned (.tuple #[.agg #[v, m, js, ms], .int .i64 0, .int .i64 0, .int .i64 0])) w' :=
  ⟨hb, 0, 0, 0, h, by rw [if_pos rfl]; exact ⟨js, ms, rfl, hl⟩⟩
theorem set4_below {w W : World} {R : Nat} {x0 x1 x2 x3 : Value} (hb : Below w.heap.size w W) (hR : w.heap.size ≤ R) : Below w.heap.size w (set4 W R x0 x1 x2 x3) :=
  (((hb.setCell (p := ⟨R, 0, none⟩) hR x0).setCell (p := ⟨R, 1, none⟩) hR x1).setCell (p := ⟨R, 2, none⟩) hR x2).setCell (p := ⟨R, 3, none⟩) hR x3
theorem lat_close {w W : World} {R B : Nat} {o : Od} {v m : Value} {J M : Option Addr} {c d : Nat} {rj rm : List Value} {x0 x1 x2 x3 : Value} (h : RefAt w o v m) (hb : Below w.heap.size w W) (hR : w.heap.size ≤ R) (hB : R < B)
    (hj : Own W B 36 1 (.slice J o.ns.length c) o.ns.length rj) (lj : rj.length = o.ns.length) (tj : RowsI W B o.ns.length (rjoinI (rmost o) o.ns.length) rj)
    (hm : Own W B 36 1 (.slice M o.ns.length d) o.ns.length rm) (lm : rm.length = o.ns.length) (tm : RowsI W B o.ns.length (rjoinI (oflip (rmost o)) o.ns.length) rm) :
    LatAt (set4 W R x0 x1 x2 x3) o v m (.slice J o.ns.length c) (.slice M o.ns.length d) ∧ TabsOwn (set4 W R x0 x1 x2 x3) w.heap.size o (.slice J o.ns.length c) (.slice M o.ns.length d) := by
  have ht : TabsOwn (set4 W R x0 x1 x2 x3) w.heap.size o (.slice J o.ns.length c) (.slice M o.ns.length d) :=
    ⟨B, J, c, M, d, rj, rm, by omega, rfl, rfl, (((hj.setq (p := ⟨R, 0, none⟩) hB x0).setq (p := ⟨R, 1, none⟩) hB x1).setq (p := ⟨R, 2, none⟩) hB x2).setq (p := ⟨R, 3, none⟩) hB x3, lj, (((tj.set (p := ⟨R, 0, none⟩) hB x0).set (p := ⟨R, 1, none⟩) hB x1).set (p := ⟨R, 2, none⟩) hB x2).set (p := ⟨R, 3, none⟩) hB x3,
      (((hm.setq (p := ⟨R, 0, none⟩) hB x0).setq (p := ⟨R, 1, none⟩) hB x1).setq (p := ⟨R, 2, none⟩) hB x2).setq (p := ⟨R, 3, none⟩) hB x3, lm, (((tm.set (p := ⟨R, 0, none⟩) hB x0).set (p := ⟨R, 1, none⟩) hB x1).set (p := ⟨R, 2, none⟩) hB x2).set (p := ⟨R, 3, none⟩) hB x3⟩
  exact ⟨ht.lat (h.stay (set4_below hb hR)), ht⟩
/-- What a round of the tables leaves: both rows are laid behind those ahead. -/
theorem tab_close {w2 w3 w5 : World} {L n a : Nat} {f g : Nat → Nat → Int} {rj rm : List Value} {x y vj vm vj' vm' : Value} {P Q : Option Addr} {c d : Nat}
    (hbl : Blk w2 L 33 [x, y, vj, vm]) (oj : Own w2 (L + 1) 36 1 vj a rj) (om : Own w2 (L + 1) 36 1 vm a rm) (hA : Ap vj vm)
    (tj : RowsI w2 (L + 1) n f rj) (tm : RowsI w2 (L + 1) n g rm) (lj : rj.length = a) (lm : rm.length = a)
    (pj : Own w2 (L + 1) 3 1 (.slice P n c) n (tints n (f a))) (pm : Own w2 (L + 1) 3 1 (.slice Q n d) n (tints n (g a)))
    (o3 : Own w3 (L + 1) 36 1 vj' (a + 1) (rj ++ [.slice P n c])) (g3 : (w2.alloc (.cells #[.slice P n c] 36)).grownBy w3 vj.ownBlock) (f3 : vj'.ownBlock = vj.ownBlock ∨ vj'.ownBlock = some (w2.heap.size + 1))
    (o5 : Own w5 (L + 1) 36 1 vm' (a + 1) (rm ++ [.slice Q n d])) (g5 : ((w3.setCell ⟨L, 2, none⟩ vj').alloc (.cells #[.slice Q n d] 36)).grownBy w5 vm.ownBlock) (f5 : vm'.ownBlock = vm.ownBlock ∨ vm'.ownBlock = some ((w3.setCell ⟨L, 2, none⟩ vj').heap.size + 1)) :
    Blk (w5.setCell ⟨L, 3, none⟩ vm') L 33 [x, y, vj', vm'] ∧ Own (w5.setCell ⟨L, 3, none⟩ vm') (L + 1) 36 1 vj' (a + 1) (rj ++ [.slice P n c]) ∧ Own (w5.setCell ⟨L, 3, none⟩ vm') (L + 1) 36 1 vm' (a + 1) (rm ++ [.slice Q n d]) ∧ Ap vj' vm' ∧
    RowsI (w5.setCell ⟨L, 3, none⟩ vm') (L + 1) n f (rj ++ [.slice P n c]) ∧ RowsI (w5.setCell ⟨L, 3, none⟩ vm') (L + 1) n g (rm ++ [.slice Q n d]) ∧ (∀ {B0 : Nat} {w0 : World}, Below B0 w0 w2 → B0 ≤ L → Below B0 w0 (w5.setCell ⟨L, 3, none⟩ vm')) := by
  have hp : (⟨L, 2, none⟩ : Addr).block < L + 1 := Nat.lt_succ_self _
  have hp3 : (⟨L, 3, none⟩ : Addr).block < L + 1 := Nat.lt_succ_self _
  have a2 : Below w2.heap.size w2 (w2.alloc (.cells #[.slice P n c] 36)) := (Below.refl _ _).alloc (Nat.le_refl _) _
  obtain ⟨om3, ap3⟩ := pair_push (us := [.slice P n c]) oj om hA g3 f3
  have tj3 := ((tj.below a2).other (oj.alloc _) (by decide) g3).snoc (P := P) (c := c) (by rw [lj]; exact (pj.alloc _).other (oj.alloc _) (by decide) g3)
  have tm3 := (tm.below a2).other (oj.alloc _) (by decide) g3
  have pm3 := (pm.alloc (.cells #[.slice P n c] 36)).other (oj.alloc _) (by decide) g3
  have bl3 : Blk w3 L 33 [x, y, vj, vm] := row_block (us := [.slice P n c]) hbl oj (by omega) g3
  have bl4 := bl3.set 2 vj'
  have o4 := o3.setq hp vj'
  have om4 := om3.setq hp vj'
  have tj4 := tj3.set hp vj'
  have tm4 := tm3.set hp vj'
  have pm4 := pm3.setq hp vj'
  obtain ⟨w4, hw4⟩ : ∃ w4, w3.setCell ⟨L, 2, none⟩ vj' = w4 := ⟨_, rfl⟩
  rw [hw4] at bl4 o4 om4 tj4 tm4 pm4 g5 f5
  have a4 : Below w4.heap.size w4 (w4.alloc (.cells #[.slice Q n d] 36)) := (Below.refl _ _).alloc (Nat.le_refl _) _
  obtain ⟨oj5, ap5⟩ := pair_push (us := [.slice Q n d]) om4 o4 ap3.symm g5 f5
  have tm5 := ((tm4.below a4).other (om4.alloc _) (by decide) g5).snoc (P := Q) (c := d) (by rw [lm]; exact (pm4.alloc _).other (om4.alloc _) (by decide) g5)
  have tj5 := (tj4.below a4).other (om4.alloc _) (by decide) g5
  have bl5 : Blk w5 L 33 [x, y, vj', vm] := row_block (us := [.slice Q n d]) bl4 om4 (by omega) g5
  refine ⟨bl5.set 3 vm', oj5.setq hp3 _, o5.setq hp3 _, ap5.symm, tj5.set hp3 _, tm5.set hp3 _, fun {B0 w0} hb hB => ?_⟩
  have b3 := push_below (us := [.slice P n c]) oj hb (by omega) (by have := hbl.lt; omega) g3
  have b4 : Below B0 w0 w4 := hw4 ▸ b3.setCell (p := ⟨L, 2, none⟩) hB vj'
  exact (push_below (us := [.slice Q n d]) om4 b4 (by omega) (by have := bl4.lt; omega) g5).setCell (p := ⟨L, 3, none⟩) hB vm'
end Go.Proofs.Ytnhdpegjkkaabaa
