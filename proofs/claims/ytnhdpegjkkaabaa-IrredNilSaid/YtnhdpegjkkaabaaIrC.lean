/-
  WORDS FOR layer 15's laws: what is asked of irreducibles, wherever they lie; what 'made' makes.
-/
import Derived.Test.YtnhdpegjkkaabaaOiR
import Derived.Test.YtnhdpegjkkaabaaOiD
import Derived.Test.YtnhdpegjkkaabaaOiE
import Derived.Test.YtnhdpegjkkaabaaLtN
namespace Go.Proofs.Ytnhdpegjkkaabaa
set_option linter.unusedVariables false
set_option linter.unusedSimpArgs false
open Go.RowKit Go.Maps

/-- Of the blocks that lay there only those in M turn. -/
structure Trn (M : Nat → Prop) (w w' : World) : Prop where
  os : w'.os = w.os
  tape : w'.tape = w.tape
  output : w'.output = w.output
  size : w.heap.size ≤ w'.heap.size
  block : ∀ k, k < w.heap.size → ¬ M k → w'.heap[k]? = w.heap[k]?
section
variable {M N : Nat → Prop} {a b c : World}
theorem Trn.refl (M : Nat → Prop) (w : World) : Trn M w w := ⟨rfl, rfl, rfl, Nat.le_refl _, fun _ _ _ => rfl⟩
theorem Trn.trans (h : Trn M a b) (k : Trn M b c) : Trn M a c :=
  ⟨k.os.trans h.os, k.tape.trans h.tape, k.output.trans h.output, Nat.le_trans h.size k.size, fun i hi hM => (k.block i (Nat.lt_of_lt_of_le hi h.size) hM).trans (h.block i hi hM)⟩
theorem Trn.of_below (h : Below a.heap.size a b) : Trn M a b := ⟨h.os, h.tape, h.output, h.size, fun k hk _ => h.block k hk⟩
theorem Trn.of_only {g : Nat} (h : Only g a b) (hM : M g) : Trn M a b := ⟨h.os, h.tape, h.output, Nat.le_of_eq h.size.symm, fun k _ hk => h.block k fun e => hk (e ▸ hM)⟩
theorem Trn.more (h : Trn M a b) (hM : ∀ k, M k → N k) : Trn N a b := ⟨h.os, h.tape, h.output, h.size, fun k hk hn => h.block k hk fun e => hn (hM k e)⟩
theorem Trn.below {B : Nat} (h : Trn M a b) (hM : ∀ k, M k → B ≤ k) (hB : B ≤ a.heap.size) : Below B a b :=
  ⟨h.os, h.tape, h.output, h.size, fun k hk => h.block k (by omega) fun e => by have := hM k e; omega⟩
theorem Trn.drew (h : Trn M a b) : Trn M a b.drew := h.trans (.of_below ((Quiet.one b 1).below _))
end
/-- A call's answer; what holds goes on to hold. -/
def IrTo (M : Nat → Prop) (P : World → Prop) (w : World) (v : Value) (e : Ending) (w' : World) : Prop := e = .returned v ∧ P w' ∧ Trn M w w'
def irElem (o : Od) (i : Int) : Int := if inI (irr (rmost o) o.ns.length).length i then ((ir (rmost o) o.ns.length i.toNat : Nat) : Int) else -1
def irSet (o : Od) (e : Int) : Nat := if inI o.ns.length e then setS (rmost o) o.ns.length e.toNat else 0
def irApart (o : Od) (a b : Int) : Int := if inI o.ns.length a && inI o.ns.length b then ((apartS (setS (rmost o) o.ns.length a.toNat) (setS (rmost o) o.ns.length b.toNat) : Nat) : Int) else -1
/-- The irreducibles of o at block g: what each call answers. Their calls turn blocks in M alone; they rest on blocks in D. -/
structure IrC (o : Od) (M D : Nat → Prop) (g : Nat) (P : World → Prop) : Prop where
  stay : ∀ {w w'} {N : Nat → Prop}, P w → Trn N w w' → (∀ k, N k → ¬ D k) → P w'
  len : ∀ {w}, P w → Calls Try.prog 13 #[.pointer (some ⟨g, 0, none⟩)] w (IrTo M P w (.int .i64 ((irr (rmost o) o.ns.length).length : Int)))
  elem : ∀ {w} (i : Int), P w → Calls Try.prog 14 #[.pointer (some ⟨g, 0, none⟩), .int .i64 i] w (IrTo M P w (.int .i64 (irElem o i)))
  set : ∀ {w} (e : Int), P w → Calls Try.prog 15 #[.pointer (some ⟨g, 0, none⟩), .int .i64 e] w (IrTo M P w (.int .u64 (irSet o e : Nat)))
  of : ∀ {w} (s : Nat), s < 2 ^ 64 → P w → Calls Try.prog 19 #[.pointer (some ⟨g, 0, none⟩), .int .u64 (s : Int)] w (IrTo M P w (.int .i64 (ofS (rmost o) o.ns.length s : Nat)))
  down : ∀ {w} (s : Nat), s < 2 ^ 64 → P w → Calls Try.prog 21 #[.pointer (some ⟨g, 0, none⟩), .int .u64 (s : Int)] w (IrTo M P w (.int .u64 (downS (rmost o) o.ns.length s : Nat)))
  is_ : ∀ {w} (s : Nat), s < 2 ^ 64 → P w → Calls Try.prog 23 #[.pointer (some ⟨g, 0, none⟩), .int .u64 (s : Int)] w (IrTo M P w (.bool (decide (downS (rmost o) o.ns.length s = s))))
  apart : ∀ {w} (a b : Int), P w → Calls Try.prog 17 #[.pointer (some ⟨g, 0, none⟩), .int .i64 a, .int .i64 b] w (IrTo M P w (.int .i64 (irApart o a b)))
theorem IrC.stayB {o : Od} {M D : Nat → Prop} {g : Nat} {P : World → Prop} (h : IrC o M D g P) {w w' : World} (hp : P w) (hb : Below w.heap.size w w') : P w' := h.stay (N := fun _ => False) hp (.of_below hb) (fun _ h => h.elim)
/-- What New makes of a lattice. -/
def IrNew : Prop := ∀ (w : World) (X : Nat → Prop) (gl og k : Nat) (o : Od), LtAt w X gl og o true k → k ≤ 1000 → 0 < o.ns.length → Lat o.ns.length (rmost o) (jn (rmost o) o.ns.length) (mn (rmost o) o.ns.length) →
  Calls Try.prog 24 #[.pointer (some ⟨gl, 0, none⟩)] w fun e w' => ∃ (g : Nat) (M D : Nat → Prop) (P : World → Prop), e = .returned (.pointer (some ⟨g, 0, none⟩)) ∧ IrC o M D g P ∧ P w' ∧ Trn (fun b => b = gl) w w' ∧ (∀ k, M k → k < w'.heap.size ∧ (k = gl ∨ w.heap.size ≤ k)) ∧ (∀ k, D k → ¬ X k ∨ k = gl ∨ w.heap.size ≤ k)
theorem Own.tr {w w' : World} {B n size : Nat} {e : TypeId} {v : Value} {xs : List Value} {M : Nat → Prop} (h : Own w B e size v n xs) (ho : Trn M w w') (hM : ∀ k, M k → k < B) : Own w' B e size v n xs := by
  refine ⟨⟨h.1.1, ?_⟩, Nat.le_trans h.2 ho.size⟩
  rcases h.1.2 with h1 | ⟨b, cap, cur, h1, h2, h3, h4⟩
  · exact .inl h1
  · exact .inr ⟨b, cap, cur, h1, h2, (ho.block b (Array.getElem?_eq_some_iff.1 h3).1 (fun e => by have := hM b e; omega)).trans h3, h4⟩
theorem RowsI.tr {w w' : World} {B n : Nat} {f : Nat → Nat → Int} {rows : List Value} {M : Nat → Prop} (h : RowsI w B n f rows) (ho : Trn M w w') (hM : ∀ k, M k → k < B) : RowsI w' B n f rows := fun j hj => by
  obtain ⟨P, c, e, hw⟩ := h j hj
  exact ⟨P, c, e, hw.tr ho hM⟩
theorem TabsOwn.tr {w w' : World} {B : Nat} {o : Od} {js ms : Value} {M : Nat → Prop} (h : TabsOwn w B o js ms) (ho : Trn M w w') (hM : ∀ k, M k → k < B) : TabsOwn w' B o js ms := by
  obtain ⟨B', J, c, N, d, rj, rm, hB, e1, e2, h1, h2, h3, h4, h5, h6⟩ := h
  have hM' : ∀ k, M k → k < B' := fun k hk => Nat.lt_of_lt_of_le (hM k hk) hB
  exact ⟨B', J, c, N, d, rj, rm, hB, e1, e2, h1.tr ho hM', h2, h3.tr ho hM', h4.tr ho hM', h5, h6.tr ho hM'⟩
theorem RowsAt.tr {w w' : World} {B n : Nat} {F : Nat → Nat → Bool} {rows : List Value} {M : Nat → Prop} (h : RowsAt w B n F rows) (ho : Trn M w w') (hM : ∀ k, M k → k < B) : RowsAt w' B n F rows := fun j hj => by
  obtain ⟨P, c, e, hw⟩ := h j hj
  exact ⟨P, c, e, hw.tr ho hM⟩
theorem RefOwn.tr {w w' : World} {B : Nat} {o : Od} {v m : Value} {M : Nat → Prop} (h : RefOwn w B o v m) (ho : Trn M w w') (hM : ∀ k, M k → k < B) : RefOwn w' B o v m := by
  obtain ⟨hw, B1, A, c, N, d, B2, rows, h1, h2, e1, e2, h3, h4, h5, h6⟩ := h
  exact ⟨hw, B1, A, c, N, d, B2, rows, h1, h2, e1, e2, h3.tr ho fun k hk => Nat.lt_of_lt_of_le (hM k hk) h1, h4.tr ho fun k hk => Nat.lt_of_lt_of_le (hM k hk) h2, h5, h6.tr ho fun k hk => Nat.lt_of_lt_of_le (hM k hk) h2⟩
/-- The document's lattice as it lay in w5, where only blocks in N, or newer ones, have turned since. -/
structure RfAt (w5 : World) (N : Nat → Prop) (B : Nat) (W : World) (o : Od) (v m js ms : Value) : Prop where
  hr : RefOwn w5 B o v m
  ht : TabsOwn w5 B o js ms
  nb : ∀ k, N k → k < B
  t : Trn N w5 W
section
variable {w5 W W' : World} {N M : Nat → Prop} {B : Nat} {o : Od} {v m js ms : Value}
theorem RfAt.lat (h : RfAt w5 N B W o v m js ms) : LatAt W o v m js ms := (h.ht.tr h.t h.nb).lat (h.hr.tr h.t h.nb).ref
theorem RfAt.tr (h : RfAt w5 N B W o v m js ms) (t : Trn M W W') (hM : ∀ k, M k → N k ∨ w5.heap.size ≤ k) : RfAt w5 N B W' o v m js ms :=
  ⟨h.hr, h.ht, h.nb, ⟨t.os.trans h.t.os, t.tape.trans h.t.tape, t.output.trans h.t.output, Nat.le_trans h.t.size t.size, fun k hk hg => (t.block k (Nat.lt_of_lt_of_le hk h.t.size) (fun e => by
      rcases hM k e with e | e
      · exact hg e
      · omega)).trans (h.t.block k hk hg)⟩⟩
theorem RfAt.below (h : RfAt w5 N B W o v m js ms) (hb : Below W.heap.size W W') : RfAt w5 N B W' o v m js ms := h.tr (M := fun _ => False) (.of_below hb) (fun _ h => h.elim)
theorem RfAt.cell (h : RfAt w5 N B W o v m js ms) {p : Addr} {u : Value} (hp : B ≤ p.block) (hc : w5.cell? p = some u) : W.cell? p = some u := by
  have hlt := World.block_lt_of_cell? _ _ hc
  rw [World.cell?_of_block (w := w5) (h.t.block p.block hlt fun e => by have := h.nb _ e; omega)]
  exact hc
end
theorem irElem_in {o : Od} {i : Nat} (hi : i < (irr (rmost o) o.ns.length).length) : irElem o (i : Int) = (ir (rmost o) o.ns.length i : Nat) := by
  unfold irElem
  rw [inI_nat, decide_eq_true hi]
  rfl
theorem irElem_out {o : Od} {i : Int} (hi : inI (irr (rmost o) o.ns.length).length i = false) : irElem o i = -1 := by
  unfold irElem
  rw [hi]
  rfl
theorem irSet_in {o : Od} {e : Nat} (he : e < o.ns.length) : irSet o (e : Int) = setS (rmost o) o.ns.length e := by
  unfold irSet
  rw [inI_nat, decide_eq_true he]
  rfl
theorem irSet_out {o : Od} {e : Int} (he : inI o.ns.length e = false) : irSet o e = 0 := by
  unfold irSet
  rw [he]
  rfl
theorem irApart_in {o : Od} {a b : Nat} (ha : a < o.ns.length) (hb : b < o.ns.length) : irApart o (a : Int) (b : Int) = (apartS (setS (rmost o) o.ns.length a) (setS (rmost o) o.ns.length b) : Nat) := by
  unfold irApart
  rw [inI_nat, inI_nat, decide_eq_true ha, decide_eq_true hb]
  rfl
theorem irApart_out {o : Od} {a b : Int} (h : (inI o.ns.length a && inI o.ns.length b) = false) : irApart o a b = -1 := by
  unfold irApart
  rw [h]
  rfl
theorem results_md {tmps : Array Value} {w : World} {G : Nat} {x0 x1 x2 x3 y : Value} (hp : tmps.getD 3 undef = .pointer (some ⟨G, 0, none⟩)) (hy : tmps.getD 2 undef = y)
    (c0 : w.cell? ⟨G, 0, none⟩ = some x0) (c1 : w.cell? ⟨G, 1, none⟩ = some x1) (c2 : w.cell? ⟨G, 2, none⟩ = some x2) (c3 : w.cell? ⟨G, 3, none⟩ = some x3) : (results Try.f11 tmps).run Try.prog w = .ok (.tuple #[y, .agg #[x0, x1, x2, x3]]) w := by
  have hr : Try.f11.results = #[.tmp 2, .cell 3 33] := rfl
  have hl : (loadVar 33 ⟨G, 0, none⟩).run Try.prog w = .ok (.agg #[x0, x1, x2, x3]) w := run_loadVar_mid w G 0 33 [x0, x1, x2, x3] _ (fun j u hj => by
    match j, hj with
    | 0, hj => cases hj; exact c0
    | 1, hj => cases hj; exact c1
    | 2, hj => cases hj; exact c2
    | 3, hj => cases hj; exact c3
    | j + 4, hj => simp at hj) Try.underlying33 rfl (by kernel_rfl)
  have hp' : tmps[3]?.getD undef = .pointer (some ⟨G, 0, none⟩) := by simpa using hp
  subst hy
  simp [results, hr, hp', asAddr, hl]
theorem md_done {Q : Ending → World → Prop} {w0 W : World} {R : Nat} {x0 x1 x2 x3 y p q r s : Value} {a : Act} (hp : a.tmps.getD 3 undef = .pointer (some ⟨R, 0, none⟩)) (h2 : a.tmps.getD 2 undef = y) (hd : a.defers = [])
    (hR : Blk w0 R 33 [p, q, r, s]) (hb : Below w0.heap.size w0 W) (hQ : Q (.returned (.tuple #[y, .agg #[x0, x1, x2, x3]])) (set4 W R x0 x1 x2 x3)) :
    bodyPost Try.prog Try.f11 Q Exit.ret a (set4 W R x0 x1 x2 x3) := by
  have hW : Blk W R 33 [p, q, r, s] := hR.stay (hb.block _ hR.lt)
  have h2' := (((hW.set 0 x0).set 1 x1).set 2 x2).set 3 x3
  exact bodyPost_ret (results_md hp h2 (h2'.cell 0) (h2'.cell 1) (h2'.cell 2) (h2'.cell 3)) hd hQ
theorem RefOwn.lo {w : World} {B B' : Nat} {o : Od} {v m : Value} (h : RefOwn w B o v m) (hB : B' ≤ B) : RefOwn w B' o v m := by
  obtain ⟨hw, B1, A, c, N, d, B2, rows, h1, h2, r⟩ := h
  exact ⟨hw, B1, A, c, N, d, B2, rows, Nat.le_trans hB h1, Nat.le_trans hB h2, r⟩
theorem TabsOwn.lo {w : World} {B B' : Nat} {o : Od} {js ms : Value} (h : TabsOwn w B o js ms) (hB : B' ≤ B) : TabsOwn w B' o js ms := by
  obtain ⟨B1, J, c, N, d, rj, rm, h1, r⟩ := h
  exact ⟨B1, J, c, N, d, rj, rm, Nat.le_trans hB h1, r⟩
theorem RefOwn.below {w w' : World} {B : Nat} {o : Od} {v m : Value} (h : RefOwn w B o v m) (hb : Below w.heap.size w w') : RefOwn w' B o v m := h.tr (M := fun _ => False) (.of_below hb) (fun _ h => h.elim)
theorem set4_tr {W : World} {R : Nat} {x0 x1 x2 x3 : Value} : Trn (fun b => b = R) W (set4 W R x0 x1 x2 x3) := by
  have h : ∀ (w : World) (j : Nat) (u : Value), Trn (fun b => b = R) w (w.setCell ⟨R, j, none⟩ u) := fun w j u => .of_only ((Only.refl R w).setCell j u) rfl
  exact (((h W 0 x0).trans (h _ 1 x1)).trans (h _ 2 x2)).trans (h _ 3 x3)
/-- What 'made' makes, where the pairs make a lattice. -/
def MadeTo (w : World) (o : Od) (e : Ending) (w' : World) : Prop := Below w.heap.size w w' ∧ ∃ (g B : Nat) (M D N : Nat → Prop) (P : World → Prop) (w5 : World) (A1 A2 A3 A4 : Option Addr) (c1 c2 c3 c4 : Nat),
  e = .returned (.tuple #[.pointer (some ⟨g, 0, none⟩), .agg #[.slice A1 o.ns.length c1, .slice A2 o.ns.length c2, .slice A3 o.ns.length c3, .slice A4 o.ns.length c4]]) ∧ IrC o M D g P ∧ P w' ∧ (∀ k, M k → w.heap.size ≤ k ∧ k < w'.heap.size ∧ (N k ∨ w5.heap.size ≤ k)) ∧
  RfAt w5 N B w' o (.slice A1 o.ns.length c1) (.slice A2 o.ns.length c2) (.slice A3 o.ns.length c3) (.slice A4 o.ns.length c4)
/-- What holds in the worlds of layer 15's laws. -/
structure IrS (w w5 : World) (N M D : Nat → Prop) (B g G : Nat) (P : World → Prop) (o : Od) (v m js ms : Value) (W : World) : Prop where
  c : IrC o M D g P
  p : P W
  r : RfAt w5 N B W o v m js ms
  y : Blk W G 33 [v, m, js, ms]
  gM : ¬ M G
  b : Below w.heap.size w W
  hM : ∀ k, M k → w.heap.size ≤ k ∧ (N k ∨ w5.heap.size ≤ k)
section
variable {w w5 W W' : World} {N M D : Nat → Prop} {B g G : Nat} {P : World → Prop} {o : Od} {v m js ms : Value}
theorem IrS.tr (h : IrS w w5 N M D B g G P o v m js ms W) (hp : P W') (t : Trn M W W') : IrS w w5 N M D B g G P o v m js ms W' :=
  ⟨h.c, hp, h.r.tr t fun k hk => (h.hM k hk).2, h.y.stay (t.block G h.y.lt h.gM), h.gM, h.b.trans (t.below (fun k hk => (h.hM k hk).1) h.b.size), h.hM⟩
theorem IrS.below (h : IrS w w5 N M D B g G P o v m js ms W) (hb : Below W.heap.size W W') : IrS w w5 N M D B g G P o v m js ms W' :=
  ⟨h.c, h.c.stayB h.p hb, h.r.below hb, h.y.stay (hb.block _ h.y.lt), h.gM, h.b.trans (hb.mono h.b.size), h.hM⟩
theorem IrS.drew (h : IrS w w5 N M D B g G P o v m js ms W) : IrS w w5 N M D B g G P o v m js ms W.drew := h.below ((Quiet.one _ 1).below _)
theorem IrS.cells (h : IrS w w5 N M D B g G P o v m js ms W) : W.cell? ⟨G, 0, none⟩ = some v ∧ W.cell? ⟨G, 1, none⟩ = some m ∧ W.cell? ⟨G, 2, none⟩ = some js ∧ W.cell? ⟨G, 3, none⟩ = some ms := ⟨h.y.cell 0, h.y.cell 1, h.y.cell 2, h.y.cell 3⟩
end
/-- Behind 'made' its lattice is laid into a variable. -/
theorem IrS.start {w w1 w' : World} {o : Od} {g B : Nat} {M D N : Nat → Prop} {P : World → Prop} {w5 : World} {v m js ms : Value} (hb : Below w.heap.size w w') (hc : IrC o M D g P) (hp : P w') (hw : w.heap.size ≤ w1.heap.size) (hM : ∀ k, M k → w1.heap.size ≤ k ∧ k < w'.heap.size ∧ (N k ∨ w5.heap.size ≤ k)) (hr : RfAt w5 N B w' o v m js ms) :
    IrS w w5 N M D B g w'.heap.size P o v m js ms (w'.alloc (.cells #[v, m, js, ms] 33)) := by
  have ba : Below w'.heap.size w' (w'.alloc (.cells #[v, m, js, ms] 33)) := (Below.refl _ _).alloc (Nat.le_refl _) _
  exact ⟨hc, hc.stayB hp ba, hr.below ba, Blk.new _ _ _, fun e => by have := (hM _ e).2.1; omega, hb.trans (ba.mono hb.size), fun k hk => ⟨Nat.le_trans hw (hM k hk).1, (hM k hk).2.2⟩⟩
set_option maxRecDepth 100000 in
set_option maxHeartbeats 1600000 in
theorem made_any (HI : IrNew) (A : Option Addr) (n c : Nat) (L : List OPa) (w : World) (hL : ShP w w.heap.size A n L) (hn : n ≤ 1000) (hnc : n ≤ c) (hs : ∀ t ∈ L, t.1.1.size ≤ 1000000 ∧ t.1.2.size ≤ 1000000) {o : Od} (ho : (newO (L.map (·.1))).1 = some o) (h0 : 0 < o.ns.length) (hLt : Lat o.ns.length (rmost o) (jn (rmost o) o.ns.length) (mn (rmost o) o.ns.length)) :
    Calls Try.prog 11 #[.slice A n c] w (MadeTo w o) := by
  have osd := newO_osd ho
  have osa := newO_osa ho
  obtain ⟨_, _, _, hln⟩ := lnew_ex (n := o.ns.length) (F := rmost o) osd.pord
  have hz := (hln.zero_iff osd.pord).2 ⟨h0, hLt⟩
  rw [hz] at hln
  have hln0 := hln.zero
  have hs' : ∀ t ∈ L, t.1.1.size ≤ maxLen ∧ t.1.2.size ≤ maxLen := fun t ht => by have := hs t ht; unfold maxLen; omega
  have HN1 := Lib.hid (fun (w1 : World) (b : Below w.heap.size w w1) => (onew_any A n c L w1 (hL.up b) (by unfold maxLen; omega) hs').mono fun e w' h => newTo_some h ho)
  have HR1 := Lib.hid (fun (w1 : World) (b : Below w.heap.size w w1) => (rnew_any A n c L w1 (hL.up b) hn hnc hs).mono fun e w' h => RnewTo.own h ho)
  have HL := Lib.hid (fun (w1 : World) (X : Nat → Prop) (og : Nat) (h : OrdAt w1 X og o) => (lnew_any h osd osa).mono fun e w' h => lnTo_is2 h hln0)
  have HQ := Lib.hid (fun (w1 : World) (v m : Value) (h : RefAt w1 o v m) => (rlnew_any h).mono fun e w' h => rlatTo_is h hln0)
  have HIN := Lib.hid (fun (w1 : World) (X : Nat → Prop) (gl og : Nat) (h : LtAt w1 X gl og o true 0) => HI w1 X gl og 0 o h (by omega) h0 hLt)
  have hzl := zeroLA
  have b0 : Below w.heap.size w (w.alloc (.cells #[.slice none 0 0, .slice none 0 0, .slice none 0 0, .slice none 0 0] 33)) := (Below.refl _ _).alloc (Nat.le_refl _) _
  have hR0 : Blk (w.alloc (.cells #[.slice none 0 0, .slice none 0 0, .slice none 0 0, .slice none 0 0] 33)) w.heap.size 33 [.slice none 0 0, .slice none 0 0, .slice none 0 0, .slice none 0 0] := Blk.new _ _ _
  have HB0 := Lib.hid b0
  have HR0 := Lib.hid hR0
  clear osd osa hln hln0 hz ho h0 hLt hs hs' hL HI b0 hR0
  go_enter Try.func11, Try.ntmps11
  go_wp2_with (first
    | (go_at_call 29; (with_reducible refine (HN1.out _ HB0.out).mono ?_); rintro e w2 ⟨b2, og, rfl, hO⟩; have B2 := Lib.hid (HB0.out.trans (b2.mono HB0.out.size)); have HO := Lib.hid hO; have HS2 := Lib.hid b2.size; have HR2 := Lib.hid (HR0.out.stay (b2.block _ HR0.out.lt)); clear b2 hO)
    | (go_at_call 30; (with_reducible refine (HL.out _ _ _ HO.out).mono ?_); rintro e w3 ⟨b3, gA, rfl, hgA, hgA3, hm⟩; have B3 := Lib.hid (B2.out.trans (b3.mono B2.out.size)); have HGA := Lib.hid (And.intro hgA hgA3); have HA3 := Lib.hid hm; have HR3 := Lib.hid (HR2.out.stay (b3.block _ HR2.out.lt)); clear b3 hgA hgA3 hm)
    | (go_at_call 27; (with_reducible refine (HR1.out _ B3.out).mono ?_); rintro e w4 ⟨b4, v, m, rfl, hr⟩; obtain ⟨A1, c1, rfl, _⟩ := hr.ref.nm; obtain ⟨A2, c2, rfl, _⟩ := hr.ref.mt; have HB4 := Lib.hid b4; have B4 := Lib.hid (B3.out.trans (b4.mono B3.out.size)); have ba := ((Below.refl w4.heap.size w4).alloc (Nat.le_refl _) (.cells #[.slice A1 o.ns.length c1, .slice A2 o.ns.length c2] 30)); have HBA := Lib.hid ba; have HQo := Lib.hid (HQ.out _ _ _ (hr.ref.stay ba)); have HRF := Lib.hid hr; have hbl := (Blk.new w4 30 [.slice A1 o.ns.length c1, .slice A2 o.ns.length c2]); have d0 := hbl.cell 0; have d1 := hbl.cell 1; clear b4 hr ba hbl)
    | (go_at_call 28; (with_reducible refine HQo.out.mono ?_); rintro e w5 ⟨b5, js, ms, rfl, hT⟩; have HT := Lib.hid hT; obtain ⟨_, A3, c3, A4, c4, _, _, _, rfl, rfl, _⟩ := hT; have HB5 := Lib.hid b5; clear b5 d0 d1)
    | go_in)
  have ba5 := (Below.refl w5.heap.size w5).alloc (Nat.le_refl _) (.cells #[.slice A1 o.ns.length c1, .slice A2 o.ns.length c2, .slice A3 o.ns.length c3, .slice A4 o.ns.length c4] 33)
  have hY := Blk.new w5 33 [.slice A1 o.ns.length c1, .slice A2 o.ns.length c2, .slice A3 o.ns.length c3, .slice A4 o.ns.length c4]
  have hA := HBA.out.trans (HB5.out.mono HBA.out.size)
  have hA := hA.trans (ba5.mono hA.size)
  have hT := HT.out.below ba5
  have hr := HRF.out.below hA
  have h34 := HB4.out.trans (hA.mono HB4.out.size)
  have hX := HA3.out.stay h34
  have hR := HR3.out.stay (h34.block _ HR3.out.lt)
  have hBW := B3.out.trans (h34.mono B3.out.size)
  have s2 : w.heap.size + 1 ≤ w2.heap.size := by have := HS2.out; simpa using this
  have s3 := HGA.out
  have s4 := HB4.out.size
  have s5 : w4.heap.size + 1 ≤ w5.heap.size := by have := HB5.out.size; simpa using this
  obtain ⟨W0, eW0⟩ : ∃ W0, w5.alloc (.cells #[.slice A1 o.ns.length c1, .slice A2 o.ns.length c2, .slice A3 o.ns.length c3, .slice A4 o.ns.length c4] 33) = W0 := ⟨_, rfl⟩
  obtain ⟨G, eG⟩ : ∃ G, w5.heap.size = G := ⟨_, rfl⟩
  obtain ⟨R, eR⟩ : ∃ R, w.heap.size = R := ⟨_, rfl⟩
  have hx0 : (w.alloc (.cells #[.slice none 0 0, .slice none 0 0, .slice none 0 0, .slice none 0 0] 33)).heap.size = R + 1 := by rw [← eR]; simp
  rw [hx0] at hX
  rw [eW0] at hT hr hX hR hBW hY
  rw [eG] at hY s5
  rw [eR] at s2 hBW hR
  have hRF : RfAt W0 (fun b => b = gA ∨ b = R) w3.heap.size W0 o (.slice A1 o.ns.length c1) (.slice A2 o.ns.length c2) (.slice A3 o.ns.length c3) (.slice A4 o.ns.length c4) :=
    ⟨hr, hT.lo (by simp; omega), fun k hk => by omega, Trn.refl _ _⟩
  have HC := Lib.hid (HIN.out W0.drew _ gA og (hX.quiet (Quiet.one _ 1)))
  have HRF0 := Lib.hid hRF
  have HBW0 := Lib.hid hBW
  have HR9 := Lib.hid hR
  have HYL := Lib.hid (show G < W0.heap.size from hY.lt)
  have HCL := Lib.hid (fun (W : World) (h : Trn (fun b => b = gA) W0.drew W) => And.intro ((hY.stay (((Quiet.one W0 1).below W0.heap.size).block G hY.lt)).stay (h.block G (by have := hY.lt; simpa using this) (by omega))) ((hR.stay (((Quiet.one W0 1).below W0.heap.size).block R hR.lt)).stay (h.block R (by have := hR.lt; simpa using this) (by omega))))
  have HS := Lib.hid (And.intro s2 (And.intro s3 (And.intro s4 s5)))
  obtain ⟨d0, d1, d2, d3⟩ : W0.cell? ⟨G, 0, none⟩ = some (.slice A1 o.ns.length c1) ∧ W0.cell? ⟨G, 1, none⟩ = some (.slice A2 o.ns.length c2) ∧ W0.cell? ⟨G, 2, none⟩ = some (.slice A3 o.ns.length c3) ∧ W0.cell? ⟨G, 3, none⟩ = some (.slice A4 o.ns.length c4) := ⟨hY.cell 0, hY.cell 1, hY.cell 2, hY.cell 3⟩
  rw [eW0, eG, eR]
  clear eW0 HN1 HR1 HL HQ HIN B2 B3 HR2 HR3 HS2 HGA HA3 HB4 B4 HBA HQo HRF HT HB5 ba5 hY hA hT hr h34 hX hR hBW s2 s3 s4 s5 hRF HB0 HR0 hx0
  go_region_with (first
    | (go_at_call 24; (with_reducible refine HC.out.mono ?_); rintro e w6 ⟨g, M, D, P, rfl, hc, hp, ht, hM, hD⟩; have hcl := HCL.out _ ht; have HIC := Lib.hid hc; have HP := Lib.hid hp; have HTR := Lib.hid ht; have HM := Lib.hid hM; have HD := Lib.hid hD; obtain ⟨q0, q1, q2, q3⟩ : w6.cell? ⟨G, 0, none⟩ = some (.slice A1 o.ns.length c1) ∧ w6.cell? ⟨G, 1, none⟩ = some (.slice A2 o.ns.length c2) ∧ w6.cell? ⟨G, 2, none⟩ = some (.slice A3 o.ns.length c3) ∧ w6.cell? ⟨G, 3, none⟩ = some (.slice A4 o.ns.length c4) := ⟨hcl.1.cell 0, hcl.1.cell 1, hcl.1.cell 2, hcl.1.cell 3⟩; obtain ⟨⟨r0, r1, r2, r3⟩, g0, g1, g2, g3⟩ := la_cells hcl.2 (Below.refl _ _); have HRR := Lib.hid hcl.2; clear hcl hc hp ht hM hD)
    | fail)
  all_goals go_wp2
  all_goals
    refine md_done rfl rfl rfl HRR.out (Below.refl _ _) ?_
    obtain ⟨s2, ⟨s3, s4⟩, s5, s6⟩ := HS.out
    have hyl := HYL.out
    have hd0 : W0.drew.heap.size = W0.heap.size := by simp
    have hs6 : (set4 w6 R (.slice A1 o.ns.length c1) (.slice A2 o.ns.length c2) (.slice A3 o.ns.length c3) (.slice A4 o.ns.length c4)).heap.size = w6.heap.size := by simp [set4]
    have hT : Trn (fun b => b = gA ∨ b = R) W0 (set4 w6 R (.slice A1 o.ns.length c1) (.slice A2 o.ns.length c2) (.slice A3 o.ns.length c3) (.slice A4 o.ns.length c4)) :=
      ((Trn.of_below ((Quiet.one W0 1).below _)).trans (HTR.out.more fun k hk => .inl hk)).trans (set4_tr.more fun k hk => .inr hk)
    refine ⟨?_, g, w3.heap.size, M, D, fun b => b = gA ∨ b = R, P, W0, A1, A2, A3, A4, c1, c2, c3, c4, rfl, HIC.out, HIC.out.stay HP.out set4_tr (fun k hk hd => ?_), fun k hk => ?_, HRF0.out.tr hT fun k hk => .inl hk⟩
    · rw [eR]
      exact HBW0.out.trans (hT.below (fun k hk => by omega) (by omega))
    · have := HD.out k hd
      omega
    · have := HM.out k hk
      rw [eR, hs6]
      omega
end Go.Proofs.Ytnhdpegjkkaabaa
