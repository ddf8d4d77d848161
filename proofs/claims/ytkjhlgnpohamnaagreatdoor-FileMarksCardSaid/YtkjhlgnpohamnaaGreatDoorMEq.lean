import Derived.Test.YtkjhlgnpohamnaaGreatDoorSq
import Derived.Test.YtkjhlgnpohamnaaGreatDoorEpM
import Derived.Test.YtkjhlgnpohamnaaGreatDoorMLx
import Derived.Deep.MidRow
import Derived.Test.YtkjhlgnpohamnaaGreatDoorMEz
import Derived.BigQuiet
import Derived.BigRegion
namespace Go.Proofs.YtkjhlgnpohamnaaGreatDoor
set_option linter.unusedVariables false
set_option linter.unusedSimpArgs false
open Go.RowKit
def exV (x : Ex) (lv : Value) : Value:=.agg #[.int .i64 x.k,.int .i64 x.a,.int .i64 x.m,.string x.nm,.string x.lb,lv]
def exC (x : Ex) (lv : Value) : List Value:=[.int .i64 x.k,.int .i64 x.a,.int .i64 x.m,.string x.nm,.string x.lb,lv]
theorem zeroEx' (w : World) : (zeroValue 77).run Tryz.prog w = .ok (.agg #[.int .i64 0,.int .i64 0,.int .i64 0,.string ⟨#[]⟩,.string ⟨#[]⟩,.slice none 0 0]) w:=by kernel_rfl
theorem rowEx : RowT Tryz.prog 75 77 6 80:=RowT.mk (z:=exV Ex.nul (.slice none 0 0)) Tryz.underlying75 (by kernel_rfl) rfl (by omega)
inductive Shx (w : World) (S : Nat → Prop) : Value → List Ex → Prop
 | emp (A : Option Addr) (c : Nat) : Shx w S (.slice A 0 c) []
 | row (b off n c : Nat) (l : List Ex) (vs : Nat → Value) (hl : l.length = n) (hn : 0 < n) (hnc : n ≤ c) (hb : S b) (hlt : b < w.heap.size)
   (hc : ∀ j x,l[j]? = some x → w.rangeAt b (off + j * 6) (exC x (vs j)))
   (hs : ∀ j x,l[j]? = some x → Shx w S (vs j) x.l) : Shx w S (.slice (some ⟨b,off,none⟩) n c) l
theorem Shx.keep {w w' : World} {S S' : Nat → Prop} {lv : Value} {l : List Ex} (h : Shx w S lv l) (hS : ∀ b,S b → b < w.heap.size → S' b ∧ b < w'.heap.size ∧ w'.heap[b]? = w.heap[b]?) : Shx w' S' lv l:=by
 induction h with
 | emp A c => exact .emp A c
 | row b off n c l vs hl hn hnc hb hlt hc hs ih =>
  obtain ⟨h1,h2,h3⟩:=hS b hb hlt
  exact .row b off n c l vs hl hn hnc h1 h2 (fun j x hx i v hv => (World.cell?_of_block (a:=⟨b,_,none⟩) h3).trans (hc j x hx i v hv)) (fun j x hx => ih j x hx)
theorem Shx.under {w w' : World} {S : Nat → Prop} {lv : Value} {l : List Ex} {B : Nat} (h : Shx w S lv l) (hb : Below B w w') (hS : ∀ b,S b → b < w.heap.size → b < B) : Shx w' S lv l:=
 h.keep fun b h1 h2 => ⟨h1,Nat.lt_of_lt_of_le h2 hb.size,hb.block b (hS b h1 h2)⟩
theorem Shx.grown {w w' : World} {S : Nat → Prop} {lv : Value} {l : List Ex} {r : Option Nat} (h : Shx w S lv l) (hg : w.grownBy w' r) (hS : ∀ b,S b → b < w.heap.size → some b ≠ r) : Shx w' S lv l:=
 h.keep fun b h1 h2 => ⟨h1,Nat.lt_of_lt_of_le h2 hg.size,hg.block b h2 (hS b h1 h2)⟩
theorem Shx.weak {w : World} {S S' : Nat → Prop} {lv : Value} {l : List Ex} (h : Shx w S lv l) (hS : ∀ b,S b → b < w.heap.size → S' b) : Shx w S' lv l:=
 h.keep fun b h1 h2 => ⟨hS b h1 h2,h2,rfl⟩
theorem Shx.len {w : World} {S : Nat → Prop} {lv : Value} {l : List Ex} (h : Shx w S lv l) : ∃ A c,lv = .slice A l.length c ∧ l.length ≤ c:=by
 cases h with
 | emp A c => exact ⟨A,c,rfl,Nat.zero_le _⟩
 | row b off n c l vs hl hn hnc hb hlt hc hs => exact ⟨_,c,by rw [hl],by omega⟩
theorem Shx.one {w : World} {S : Nat → Prop} {lv : Value} {l : List Ex} (h : Shx w S lv l) : lv.oneCell' = true:=by
 obtain ⟨A,c,rfl,_⟩:=h.len
 rfl
theorem Shx.at {w : World} {S : Nat → Prop} {A : Option Addr} {n c : Nat} {l : List Ex} (h : Shx w S (.slice A n c) l) {j : Nat} (hj : j < n) :
  ∃ b off x lv,A = some ⟨b,off,none⟩ ∧ l[j]? = some x ∧ n ≤ c ∧ w.rangeAt b (off + j * 6) (exC x lv) ∧ Shx w S lv x.l ∧ S b ∧ b < w.heap.size:=by
 cases h with
 | emp A c => omega
 | row b off n c l vs hl hn hnc hb hlt hc hs =>
  have h1 : j < l.length:=by omega
  exact ⟨b,off,l[j],vs j,rfl,List.getElem?_eq_getElem h1,hnc,hc j _ (List.getElem?_eq_getElem h1),hs j _ (List.getElem?_eq_getElem h1),hb,hlt⟩
theorem Shx.nil {w : World} {S : Nat → Prop} : Shx w S (.slice none 0 0) []:=.emp _ _
theorem exC_one (x : Ex) {lv : Value} (h : lv.oneCell' = true) : ∀ u ∈ exC x lv,u.oneCell' = true:=by
 intro u hu
 simp [exC] at hu
 rcases hu with rfl | rfl | rfl | rfl | rfl | rfl
 all_goals first | rfl | exact h
def xcs (L : List (Ex × Value)) : List Value:=L.flatMap fun p => exC p.1 p.2
theorem xcs_snoc (L : List (Ex × Value)) (p : Ex × Value) : xcs (L ++ [p]) = xcs L ++ exC p.1 p.2:=by simp [xcs]
theorem xcs_cons (L : List (Ex × Value)) (p : Ex × Value) : xcs (p :: L) = exC p.1 p.2 ++ xcs L:=by simp [xcs]
theorem xcs_at {L : List (Ex × Value)} {k : Nat} {p : Ex × Value} (h : L[k]? = some p) {i : Nat} {v : Value} (hv : (exC p.1 p.2)[i]? = some v) : (xcs L)[k * 6 + i]? = some v:=by
 induction L generalizing k with
 | nil => simp at h
 | cons q L ih =>
  rw [xcs_cons]
  have hi : i < 6:=by have:=(List.getElem?_eq_some_iff.1 hv).1; simpa [exC] using this
  cases k with
  | zero =>
   cases h
   rw [List.getElem?_append_left (by simp [exC]; omega),Nat.zero_mul,Nat.zero_add]
   exact hv
  | succ k =>
   have:=ih (k:=k) (by simpa using h)
   rw [List.getElem?_append_right (by simp [exC]; omega),← this]
   congr 1
   simp [exC]
   omega
theorem Shx.of_own {w : World} {B : Nat} {S : Nat → Prop} {v : Value} {L : List (Ex × Value)} {n : Nat} (h : Own w B 77 6 v n (xcs L)) (hn : L.length = n) (hs : ∀ p ∈ L,Shx w S p.2 p.1.l) (hS : ∀ b,B ≤ b → b < w.heap.size → v.ownBlock = some b → S b) : Shx w S v (L.map (·.1)):=by
 rcases Nat.eq_zero_or_pos n with h0 | h0
 ·subst h0
  have : L = []:=List.eq_nil_of_length_eq_zero hn
  subst this
  obtain ⟨A,c,rfl⟩:=h.form
  exact .emp A c
 ·obtain ⟨g,cap,hv,hle,hlt⟩:=h.1.form h0
  subst hv
  have hcap:=(h.cap).1
  have hc : ∀ j u,(xcs L)[j]? = some u → w.cell? ⟨g,0 + j,none⟩ = some u:=fun j u hu => by
   have:=h.1.cells (g:=g) rfl j u hu
   rwa [Addr.add_lit] at this
  refine .row g 0 n cap _ (fun j => ((L[j]?).map (·.2)).getD undef) (by simp [hn]) h0 hcap (hS g hle hlt rfl) hlt (fun j x hx i u hu => ?_) (fun j x hx => ?_)
  ·rw [List.getElem?_map] at hx
   obtain ⟨p,hp,rfl⟩:=Option.map_eq_some_iff.1 hx
   rw [hp] at hu
   have:=hc _ _ (xcs_at hp hu)
   rw [Nat.add_assoc]
   exact this
  ·rw [List.getElem?_map] at hx
   obtain ⟨p,hp,rfl⟩:=Option.map_eq_some_iff.1 hx
   simp only [hp,Option.map_some,Option.getD_some]
   exact hs p (List.mem_of_getElem? hp)
theorem Shx.lit {w : World} {S : Nat → Prop} (L : List (Ex × Value)) (hn : 0 < L.length) (hs : ∀ p ∈ L,Shx w S p.2 p.1.l) (hS : S w.heap.size) {C : Array Value} (hC : C = (xcs L).toArray) : Shx (w.alloc (.cells C 77)) S (.slice (some ⟨w.heap.size,0,none⟩) L.length L.length) (L.map (·.1)):=by
 subst hC
 refine .row w.heap.size 0 L.length L.length _ (fun j => ((L[j]?).map (·.2)).getD undef) (by simp) hn nLe hS (by simp) (fun j x hx i u hu => ?_) (fun j x hx => ?_)
 ·rw [List.getElem?_map] at hx
  obtain ⟨p,hp,rfl⟩:=Option.map_eq_some_iff.1 hx
  rw [hp] at hu
  rw [World.cell?_alloc_at _ _ _ _ rfl]
  have:=xcs_at hp hu
  simpa [Nat.zero_add] using this
 ·rw [List.getElem?_map] at hx
  obtain ⟨p,hp,rfl⟩:=Option.map_eq_some_iff.1 hx
  simp only [hp,Option.map_some,Option.getD_some]
  exact (hs p (List.mem_of_getElem? hp)).keep fun b h1 h2 => ⟨h1,by simp; omega,by rw [World.alloc,Array.getElem?_push_lt h2,Array.getElem?_eq_getElem h2]⟩
structure Slot (w : World) (G : Nat) (x : Ex) (lv : Value) : Prop where
 cs : w.rangeAt G 0 (exC x lv)
 fz : ∀ j,j < 6 → w.frozen? ⟨G,j,none⟩ = false
 lt : G < w.heap.size
theorem Slot.there {w : World} {G : Nat} {x : Ex} {lv : Value} (h : Slot w G x lv) : w.there G 0 6:=fun j hj => by
 refine ⟨?_,by rw [Nat.zero_add]; exact h.fz j hj⟩
 have : ∃ v,(exC x lv)[j]? = some v:=⟨_,List.getElem?_eq_getElem (by simpa [exC] using hj)⟩
 obtain ⟨v,hv⟩:=this
 rw [h.cs j v hv]
 rfl
theorem Slot.keep {w w' : World} {G : Nat} {x : Ex} {lv : Value} (h : Slot w G x lv) (hk : w'.heap[G]? = w.heap[G]?) (hs : w.heap.size ≤ w'.heap.size) : Slot w' G x lv:=
 ⟨fun j v hv => (World.cell?_of_block (a:=⟨G,_,none⟩) hk).trans (h.cs j v hv),fun j hj => (World.frozen?_of_block (a:=⟨G,j,none⟩) hk).trans (h.fz j hj),Nat.lt_of_lt_of_le h.lt hs⟩
theorem Slot.grown {w w' : World} {G : Nat} {x : Ex} {lv : Value} {r : Option Nat} (h : Slot w G x lv) (hg : w.grownBy w' r) (hr : some G ≠ r) : Slot w' G x lv:=h.keep (hg.block G h.lt hr) hg.size
theorem Slot.below {w w' : World} {G : Nat} {x : Ex} {lv : Value} {B : Nat} (h : Slot w G x lv) (hg : Below B w w') (hr : G < B) : Slot w' G x lv:=h.keep (hg.block G hr) hg.size
theorem Slot.new (w : World) (x : Ex) (lv : Value) (t : TypeId) {C : Array Value} (hC : C = (exC x lv).toArray) : Slot (w.alloc (.cells C t)) w.heap.size x lv:=by
 subst hC
 refine ⟨fun j v hv => by rw [Nat.zero_add,World.cell?_alloc_at _ _ _ _ rfl]; simpa using hv,fun j hj => World.frozen?_alloc_new w _ _ j,by simp⟩
section
variable {P : Program} {ops : Array Oper} {rest : List Oper} {o : Oper} {a : Act} {w : World} {Q : Exit → Act → World → Prop}
theorem info_ex : (Tryz.prog.info? 77).map (·.size) = some 6:=by kernel_rfl
theorem wpList_stx (hgd : o.guard = none) (x y : Operand) (ho : o.op = .store 77 x y) (G : Nat) (hx : a.eval x = .pointer (some ⟨G,0,none⟩)) {z e : Ex} {zv lv : Value} (hs : Slot w G z zv) (hy : a.eval y = exV e lv) (h1 : lv.oneCell' = true)
  (h : ∀ w',w.grownBy w' (some G) → Slot w' G e lv → wpList Tryz.prog ops Q rest (a.put o.dst undef) w') : wpList Tryz.prog ops Q (o :: rest) a w:=by
 refine wpList_store_mid hgd 77 x y ho G 0 (exC e lv).toArray hx hy hs.there info_ex (all_oneCell_toArray (exC_one e h1)) ?_
 refine h _ ?_ ⟨World.rangeAt_setCells_same w G 0 _ hs.there,fun j hj => by rw [World.frozen?_setCells]; exact hs.fz j hj,?_⟩
 ·have : ∀ (vs : List Value) (o : Nat) (w : World),w.grownBy (w.setCells G o vs) (some G):=by
   intro vs
   induction vs with
   | nil => intro o w; exact World.grownBy.refl _ _
   | cons v r ih =>
    intro o w
    have h1 : w.grownBy (w.setCell ⟨G,o,none⟩ v) (some G):=⟨rfl,rfl,rfl,by simp,fun k hk hne => heap_setCell_other _ _ _ _ (fun e => hne (by rw [e]))⟩
    exact h1.trans (ih (o + 1) _)
  exact this _ _ _
 ·have : ∀ (vs : List Value) (o : Nat) (w : World),(w.setCells G o vs).heap.size = w.heap.size:=by
   intro vs
   induction vs with
   | nil => intro o w; rfl
   | cons v r ih => intro o w; exact (ih (o + 1) _).trans (by simp)
  rw [this]; exact hs.lt
theorem wpList_ldx (hgd : o.guard = none) (x : Operand) (ho : o.op = .load 77 x) (G off : Nat) (hx : a.eval x = .pointer (some ⟨G,off,none⟩)) {e : Ex} {lv : Value} (hs : w.rangeAt G off (exC e lv))
  (h : wpList Tryz.prog ops Q rest (a.put o.dst (exV e lv)) w) : wpList Tryz.prog ops Q (o :: rest) a w:=
 wpList_load_mid hgd 77 x ho G off hx (exC e lv) _ hs Tryz.underlying77 rfl info_ex h
end
theorem ld_ex {w : World} {G off : Nat} {e : Ex} {lv : Value} (hs : w.rangeAt G off (exC e lv)) : (loadVar 77 ⟨G,off,none⟩).run Tryz.prog w = .ok (exV e lv) w:=
 run_loadVar_mid w G off 77 (exC e lv) _ hs Tryz.underlying77 rfl info_ex
def wdT (T : ByteArray) (L : List Tk) (i : Nat) : ByteArray:=match L[i]? with
 | some t => T.extract t.2.1.toNat t.2.2.toNat
 | none => ⟨#[]⟩
def rowT (T : ByteArray) (L : List Tk) : Rw:=
 { n:=L.length,wd:=wdT T L,kd:=fun i => match L[i]? with
   | some t => t.1
   | none => 0,ps:=fun i => match L[i]? with
   | some t => t.2.1
   | none => (T.size : Int),idn:=fun i => idB (wdT T L i) }
structure TokOk (T : ByteArray) (L : List Tk) : Prop where
 len : L.length ≤ 1000000
 sz : T.size ≤ 1000000
 tok : ∀ t ∈ L,0 ≤ t.2.1 ∧ t.2.1 ≤ t.2.2 ∧ t.2.2 ≤ (T.size : Int)
theorem row_ok (T : ByteArray) (L : List Tk) : (rowT T L).Ok:=by
 have h : ∀ i,L.length ≤ i → L[i]? = none:=fun i hi => List.getElem?_eq_none hi
 refine ⟨fun i hi => ?_,fun i hi => ?_,fun i hi => ?_⟩
 ·show wdT T L i = _
  unfold wdT
  rw [h i hi]
 ·simp only [rowT,h i hi]
 ·show idB (wdT T L i) = false
  unfold wdT
  rw [h i hi]
  simp [idB,identL,bts]
def levC : List Value:=[.string ⟨#[]⟩,.string ⟨#[]⟩,.string ⟨#[124,124]⟩,.string ⟨#[]⟩,.string ⟨#[38,38]⟩,.string ⟨#[]⟩,.string ⟨#[61,61]⟩,.string ⟨#[60]⟩,.string ⟨#[43]⟩,.string ⟨#[45]⟩,.string ⟨#[42]⟩,.string ⟨#[]⟩]
structure Vars (w : World) : Prop where
 lev : w.rangeAt 1 0 levC
 rng : ∃ tp p,w.cell? ⟨3,0,none⟩ = some (.iface tp p)
structure Cx where
 g : Nat
 T : ByteArray
 A : Option Addr
 c : Nat
 L : List Tk
abbrev Cx.R (C : Cx) : Rw:=rowT C.T C.L
abbrev Cx.ptr (C : Cx) : Value:=.pointer (some ⟨C.g,0,none⟩)
structure Cur (C : Cx) (w : World) (p : Nat) : Prop where
 t : w.cell? ⟨C.g,0,none⟩ = some (.string C.T)
 l : w.cell? ⟨C.g,1,none⟩ = some (.slice C.A C.L.length C.c)
 pl : w.cell? ⟨C.g,2,none⟩ = some (.int .i64 (p : Int))
 fz : w.frozen? ⟨C.g,2,none⟩ = false
 sh : ShT w C.g C.A C.L.length C.L
 lt : C.g < w.heap.size
 le : p ≤ C.L.length
 vars : Vars w
 far : 3 < C.g
theorem Vars.keep {w w' : World} (h : Vars w) (h0 : w'.heap[1]? = w.heap[1]?) (h2 : w'.heap[3]? = w.heap[3]?) : Vars w':=by
 obtain ⟨tp,p,hr⟩:=h.rng
 exact ⟨fun j v hv => (World.cell?_of_block (a:=⟨1,_,none⟩) h0).trans (h.lev j v hv),tp,p,(World.cell?_of_block (a:=⟨3,_,none⟩) h2).trans hr⟩
theorem Vars.size {w : World} (h : Vars w) : 3 < w.heap.size:=by
 obtain ⟨tp,p,hr⟩:=h.rng
 exact World.block_lt_of_cell? _ _ hr
theorem Vars.under {w w' : World} (h : Vars w) {B : Nat} (hb : Below B w w') (hB : 3 < B) : Vars w':=h.keep (hb.block 1 (by omega)) (hb.block 3 hB)
theorem Cur.under {C : Cx} {w w' : World} {p : Nat} (h : Cur C w p) (hb : Below w.heap.size w w') : Cur C w' p:=by
 have hc : ∀ j,w'.cell? ⟨C.g,j,none⟩ = w.cell? ⟨C.g,j,none⟩:=fun j => hb.cell (p:=⟨C.g,j,none⟩) h.lt
 exact ⟨(hc 0).trans h.t,(hc 1).trans h.l,(hc 2).trans h.pl,(World.frozen?_of_block (a:=⟨C.g,2,none⟩) (hb.block C.g h.lt)).trans h.fz,h.sh.up hb (Nat.le_of_lt h.lt),Nat.lt_of_lt_of_le h.lt hb.size,h.le,
  h.vars.under hb (by have:=h.lt; have:=h.far; omega),h.far⟩
theorem ShT.keep {w w' : World} {B n : Nat} {A : Option Addr} {L : List Tk} (h : ShT w B A n L) (hk : ∀ b,b < B → w'.heap[b]? = w.heap[b]?) : ShT w' B A n L:=
 ⟨h.1,fun hn => by
  obtain ⟨b,off,e,hlt,hc⟩:=h.2 hn
  refine ⟨b,off,e,hlt,fun k t ht => ?_⟩
  obtain ⟨h0,h1,h2⟩:=hc k t ht
  have hb:=hk b hlt
  exact ⟨(World.cell?_of_block (a:=⟨b,_,none⟩) hb).trans h0,(World.cell?_of_block (a:=⟨b,_,none⟩) hb).trans h1,(World.cell?_of_block (a:=⟨b,_,none⟩) hb).trans h2⟩⟩
theorem Cur.grown {C : Cx} {w w' : World} {p : Nat} {r : Option Nat} (h : Cur C w p) (hg : w.grownBy w' r) (hr : ∀ k,r = some k → C.g < k) : Cur C w' p:=by
 have hb : ∀ b,b ≤ C.g → w'.heap[b]? = w.heap[b]?:=fun b hb => hg.block b (Nat.lt_of_le_of_lt hb h.lt) (fun e => by have:=hr b e.symm; omega)
 have hc : ∀ j,w'.cell? ⟨C.g,j,none⟩ = w.cell? ⟨C.g,j,none⟩:=fun j => World.cell?_of_block (a:=⟨C.g,j,none⟩) (hb C.g nLe)
 exact ⟨(hc 0).trans h.t,(hc 1).trans h.l,(hc 2).trans h.pl,(World.frozen?_of_block (a:=⟨C.g,2,none⟩) (hb _ nLe)).trans h.fz,h.sh.keep fun b h1 => hb b (Nat.le_of_lt h1),Nat.lt_of_lt_of_le h.lt hg.size,h.le,
  h.vars.keep (hb 1 (by have:=h.far; omega)) (hb 3 (by have:=h.far; omega)),h.far⟩
theorem Cur.move {C : Cx} {w : World} {p q : Nat} (h : Cur C w p) (hq : q ≤ C.L.length) : Cur C (w.setCell ⟨C.g,2,none⟩ (.int .i64 (q : Int))) q ∧ w.grownBy (w.setCell ⟨C.g,2,none⟩ (.int .i64 (q : Int))) (some C.g):=by
 have hg : w.grownBy (w.setCell ⟨C.g,2,none⟩ (.int .i64 (q : Int))) (some C.g):=⟨rfl,rfl,rfl,by simp,fun k hk hne => heap_setCell_other _ _ _ _ (fun e => hne (by rw [e]))⟩
 have hb : ∀ b,b < C.g → (w.setCell ⟨C.g,2,none⟩ (.int .i64 (q : Int))).heap[b]? = w.heap[b]?:=fun b hb => hg.block b (Nat.lt_trans hb h.lt) (fun e => by injection e; omega)
 refine ⟨⟨?_,?_,World.cell?_setCell_same _ _ _ h.pl,by rw [World.frozen?_setCell]; exact h.fz,h.sh.keep hb,by simpa using h.lt,hq,h.vars.keep (hb 1 (by have:=h.far; omega)) (hb 3 h.far),h.far⟩,hg⟩
 ·rw [World.cell?_setCell_other _ _ _ _ (off_ne3 (by omega))]; exact h.t
 ·rw [World.cell?_setCell_other _ _ _ _ (off_ne3 (by omega))]; exact h.l
theorem gb_trans {a b c : World} {r : Option Nat} (h : a.grownBy b r) (k : b.grownBy c r) : a.grownBy c r:=
 ⟨k.os.trans h.os,k.tape.trans h.tape,k.output.trans h.output,Nat.le_trans h.size k.size,fun i hi hne => (k.block i (Nat.lt_of_lt_of_le hi h.size) hne).trans (h.block i hi hne)⟩
theorem gb_then {a b c : World} {row row' : Option Nat} (h : a.grownBy b row) (k : b.grownBy c row') (hr : ∀ j,row' = some j → a.heap.size ≤ j ∨ row = some j) : a.grownBy c row:=
 ⟨k.os.trans h.os,k.tape.trans h.tape,k.output.trans h.output,Nat.le_trans h.size k.size,fun i hi hne => (k.block i (Nat.lt_of_lt_of_le hi h.size) (fun e => by
  rcases hr i e.symm with h1 | h1
  ·omega
  ·exact hne h1.symm)).trans (h.block i hi hne)⟩
theorem fr_below {w w1 w2 : World} {g : Nat} (h : w.grownBy w1 (some g)) (hb : Below w1.heap.size w1 w2) : w.grownBy w2 (some g):=
 gb_then (row':=none) h ⟨hb.os,hb.tape,hb.output,hb.size,fun k hk _ => hb.block k hk⟩ (fun j e => by cases e)
theorem below_fr {w w1 : World} (hb : Below w.heap.size w w1) (r : Option Nat) : w.grownBy w1 r:=⟨hb.os,hb.tape,hb.output,hb.size,fun k hk _ => hb.block k hk⟩
theorem fr_new {w w1 w2 : World} {g k : Nat} (h : w.grownBy w1 (some g)) (hb : w1.grownBy w2 (some k)) (hk : w.heap.size ≤ k) : w.grownBy w2 (some g):=
 gb_then h hb (fun j e => .inl (by cases e; exact hk))
set_option maxRecDepth 10000 in
theorem done_any (C : Cx) (hC : TokOk C.T C.L) (p : Nat) (w : World) (h : Cur C w p) :
  CP 30 #[C.ptr] w fun e w' => e = .returned (.bool (decide (p = C.L.length))) ∧ Quiet w w':=by
 have c2:=h.pl
 have c1:=h.l
 have hle:=h.le
 have H:=Lh h
 clear h
 by_cases hp : p = C.L.length
 ·have hd : decide ((p : Int) = (C.L.length : Int)) = true:=by simp [hp]
  rw [show decide (p = C.L.length) = true by simp [hp]]
  go_enter Tryz.func30,Tryz.ntmps30
  go_wp2
  go_quiet (fail)
  go_wp2
  go_ret
  exact ⟨by first | rfl | (congr 2; simpa using hd),⟨_,rfl⟩⟩
 ·have hd : decide ((p : Int) = (C.L.length : Int)) = false:=by simp; omega
  rw [show decide (p = C.L.length) = false by simp [hp]]
  go_enter Tryz.func30,Tryz.ntmps30
  go_wp2
  go_quiet (fail)
  go_wp2
  go_ret
  exact ⟨by first | rfl | (congr 2; simpa using hd),⟨_,rfl⟩⟩
def Cx.tok (C : Cx) (p : Nat) : Tk:=match C.L[p]? with
 | some t => t
 | none => (0,(C.T.size : Int),(C.T.size : Int))
theorem tok_end {t : Tk} {w W : World} {G : Nat} {x y z : Value} {a : Act} (hp : a.tmps.getD 2 undef = .pointer (some ⟨G,0,none⟩)) (hd : a.defers = []) (hb : Below w.heap.size w W) (hG : w.heap.size ≤ G) (hc : ∀ j,j < 3 → (W.cell? ⟨G,j,none⟩).isSome = true)
  (hx : x = .int .i64 t.1) (hy : y = .int .i64 t.2.1) (hz : z = .int .i64 t.2.2) :
  bodyPost Tryz.prog Tryz.f65 (TokTo t w) Exit.ret a (((W.setCell ⟨G,0,none⟩ x).setCell ⟨G,1,none⟩ y).setCell ⟨G,2,none⟩ z):=by
 subst hx; subst hy; subst hz
 obtain ⟨e0,e1,e2⟩:=tok_set W G (.int .i64 t.1) (.int .i64 t.2.1) (.int .i64 t.2.2) (hc 0 (by omega)) (hc 1 (by omega)) (hc 2 (by omega))
 have hr : Tryz.f65.results = #[.cell 2 60]:=rfl
 have hl:=tok_load _ G 0 _ _ _ e0 e1 e2
 have hp' : a.tmps[2]?.getD undef = .pointer (some ⟨G,0,none⟩):=by simpa using hp
 exact bodyPost_ret (v:=.agg #[.int .i64 t.1,.int .i64 t.2.1,.int .i64 t.2.2]) (by simp [results,hr,hp',asAddr,hl]) hd ⟨rfl,((hb.setCell (by exact hG) _).setCell (by exact hG) _).setCell (by exact hG) _⟩
theorem tok_room (w : World) (q j : Nat) (hj : j < 3) : (((w.alloc (.cells #[.int .i64 0,.int .i64 0,.int .i64 0] 60)).drewN q).cell? ⟨w.heap.size,j,none⟩).isSome = true:=by
 show ((w.alloc (.cells #[.int .i64 0,.int .i64 0,.int .i64 0] 60)).cell? ⟨w.heap.size,j,none⟩).isSome = true
 rw [World.cell?_alloc_at _ _ _ _ rfl]
 match j,hj with
 | 0,_ => rfl
 | 1,_ => rfl
 | 2,_ => rfl
set_option maxRecDepth 10000 in
theorem token_any (C : Cx) (hC : TokOk C.T C.L) (p : Nat) (w : World) (h : Cur C w p) :
  CP 65 #[C.ptr] w (TokTo (C.tok p) w):=by
 have hz:=zeroTok
 have hle:=h.le
 have hsz:=hC.sz
 have hln:=hC.len
 have b1 : Below w.heap.size w (w.alloc (.cells #[.int .i64 0,.int .i64 0,.int .i64 0] 60)):=bAl
 have h1:=h.under b1
 have HD:=Lh (done_any C hC p _ h1)
 have H:=Lh h1
 have HB:=Lh b1
 clear h b1 h1
 by_cases hp : p = C.L.length
 ·have HT : Hid (C.tok p = (0,(C.T.size : Int),(C.T.size : Int))):=Lh (by
   unfold Cx.tok
   rw [List.getElem?_eq_none (by omega)])
  rw [show decide (p = C.L.length) = true by simp [hp]] at HD
  go_enter Tryz.func65,Tryz.ntmps65
  go_wp2_with (first
   | (go_at_call 30; refine HD.out.mono ?_; rintro e w2 ⟨rfl,q,rfl⟩)
   | fail)
  have c0:=H.out.t
  go_region
  go_wp2
  exact tok_end rfl rfl (HB.out.trans (Quiet.below ⟨_,rfl⟩ _)) nLe (fun j hj => tok_room w _ j hj) (by rw [HT.out]) (by rw [HT.out]) (by rw [HT.out])
 ·have hlt : p < C.L.length:=by omega
  obtain ⟨b,off,t,hA,hbb,ht,d0,d1,d2⟩:=H.out.sh.at hlt
  have HT : Hid (C.tok p = t):=Lh (by unfold Cx.tok; rw [ht])
  rw [show decide (p = C.L.length) = false by simp [hp]] at HD
  have e0:=H.out.t
  have e1:=H.out.l
  have e2:=H.out.pl
  rw [hA] at e1
  go_enter Tryz.func65,Tryz.ntmps65
  go_wp2_with (first
   | (go_at_call 30; refine HD.out.mono ?_; rintro e w2 ⟨rfl,q,rfl⟩)
   | fail)
  go_region
  go_wp2
  exact tok_end rfl rfl (HB.out.trans (Quiet.below ⟨_,rfl⟩ _)) nLe (fun j hj => tok_room w _ j hj) (by rw [HT.out]) (by rw [HT.out]) (by rw [HT.out])
theorem Cx.tok_wd (C : Cx) (hC : TokOk C.T C.L) (p : Nat) : ∃ x y : Nat,C.tok p = (C.R.kd p,(x : Int),(y : Int)) ∧ C.R.ps p = (x : Int) ∧ x ≤ y ∧ y ≤ C.T.size ∧ C.T.extract x y = C.R.wd p:=by
 cases ht : C.L[p]? with
 | none =>
  refine ⟨C.T.size,C.T.size,?_,?_,Nat.le_refl _,Nat.le_refl _,?_⟩
  ·simp only [Cx.tok,Cx.R,rowT,ht]
  ·simp only [Cx.R,rowT,ht]
  ·show _ = wdT C.T C.L p
   simp only [wdT,ht]
   apply ByteArray.ext
   simp
 | some t =>
  obtain ⟨h0,h1,h2⟩:=hC.tok t (List.mem_of_getElem? ht)
  refine ⟨t.2.1.toNat,t.2.2.toNat,?_,?_,by omega,by omega,?_⟩
  ·simp only [Cx.tok,Cx.R,rowT,ht]
   rw [show ((t.2.1.toNat : Nat) : Int) = t.2.1 by omega,show ((t.2.2.toNat : Nat) : Int) = t.2.2 by omega]
  ·simp only [Cx.R,rowT,ht]
   omega
  ·show _ = wdT C.T C.L p
   simp only [wdT,ht]
set_option maxRecDepth 10000 in
theorem peek_any (C : Cx) (hC : TokOk C.T C.L) (p : Nat) (w : World) (h : Cur C w p) :
  CP 56 #[C.ptr] w fun e w' => e = .returned (.string (C.R.wd p)) ∧ Below w.heap.size w w':=by
 have HT:=Lh (token_any C hC p w h)
 obtain ⟨x,y,h1,h2,h3,h4,h5⟩:=C.tok_wd hC p
 rw [h1] at HT
 have hz:=zeroTok
 have hT:=h.t
 have hlt:=h.lt
 have hsz:=hC.sz
 have H5:=Lh h5
 clear h1 h2 h5 h
 go_enter Tryz.func56,Tryz.ntmps56
 go_wp2_with (first
  | (go_at_call 65; refine HT.out.mono ?_; rintro e w2 ⟨rfl,b2⟩; have c0:=(b2.cell (p:=⟨C.g,0,none⟩) hlt).trans hT; have hs2:=b2.size; have B2:=Lh b2; clear b2; dsimp only)
  | fail)
 obtain ⟨w3,hw3⟩ : ∃ w3,w3 = w2.alloc (.cells #[.int .i64 (C.R.kd p),.int .i64 (x : Int),.int .i64 (y : Int)] 60):=⟨_,rfl⟩
 rw [← hw3]
 have k0 : w3.cell? ⟨C.g,0,none⟩ = some (.string C.T):=by rw [hw3,World.cell?_alloc_past _ _ _ (by show C.g < _; omega)]; exact c0
 have k1 : w3.cell? ⟨w2.heap.size,1,none⟩ = some (.int .i64 (x : Int)):=by rw [hw3,World.cell?_alloc_at _ _ _ _ rfl]; rfl
 have k2 : w3.cell? ⟨w2.heap.size,2,none⟩ = some (.int .i64 (y : Int)):=by rw [hw3,World.cell?_alloc_at _ _ _ _ rfl]; rfl
 have HB3 : Hid (Below w.heap.size w w3):=Lh (by rw [hw3]; exact B2.out.alloc hs2 _)
 clear hw3 c0
 go_quiet (fail)
 go_wp2
 go_ret
 exact ⟨by show Ending.returned (.string (C.T.extract x y)) = _; rw [H5.out],HB3.out.trans (Quiet.below ⟨_,rfl⟩ _)⟩
theorem field_tok0 (a b c : Value) (w : World) : (Instr.field 60 (.agg #[a,b,c]) 0).run Tryz.prog w = .ok a w:=by kernel_rfl
theorem field_tok1 (a b c : Value) (w : World) : (Instr.field 60 (.agg #[a,b,c]) 1).run Tryz.prog w = .ok b w:=by kernel_rfl
set_option maxRecDepth 10000 in
theorem kind_any (C : Cx) (hC : TokOk C.T C.L) (p : Nat) (w : World) (h : Cur C w p) :
  CP 164 #[C.ptr] w fun e w' => e = .returned (.int .i64 (C.R.kd p)) ∧ Below w.heap.size w w':=by
 have HT:=Lh (token_any C hC p w h)
 obtain ⟨x,y,h1,h2,h3,h4,h5⟩:=C.tok_wd hC p
 rw [h1] at HT
 clear h1 h2 h5 h
 have hf0:=field_tok0
 have hf1:=field_tok1
 go_enter Tryz.func164,Tryz.ntmps164
 go_wp2_with (first
  | (go_at_call 65; refine HT.out.mono ?_; rintro e w2 ⟨rfl,b2⟩; dsimp only)
  | fail)
 go_ret
 exact ⟨rfl,b2⟩
set_option maxRecDepth 10000 in
theorem pos_any (C : Cx) (hC : TokOk C.T C.L) (p : Nat) (w : World) (h : Cur C w p) :
  CP 32 #[C.ptr] w fun e w' => e = .returned (.int .i64 (C.R.ps p)) ∧ Below w.heap.size w w':=by
 have HT:=Lh (token_any C hC p w h)
 obtain ⟨x,y,h1,h2,h3,h4,h5⟩:=C.tok_wd hC p
 rw [h1] at HT
 rw [h2]
 clear h1 h2 h5 h
 have hf0:=field_tok0
 have hf1:=field_tok1
 go_enter Tryz.func32,Tryz.ntmps32
 go_wp2_with (first
  | (go_at_call 65; refine HT.out.mono ?_; rintro e w2 ⟨rfl,b2⟩; dsimp only)
  | fail)
 go_ret
 exact ⟨rfl,b2⟩
set_option maxRecDepth 10000 in
theorem end_any (C : Cx) (hC : TokOk C.T C.L) (p : Nat) (w : World) (h : Cur C w (p + 1)) {t : Tk} (ht : C.L[p]? = some t) :
  CP 120 #[C.ptr] w fun e w' => e = .returned (.int .i64 t.2.2) ∧ Below w.heap.size w w':=by
 have hlt : p < C.L.length:=(List.getElem?_eq_some_iff.1 ht).1
 have hln:=hC.len
 obtain ⟨b,off,t',hA,hbb,ht',d0,d1,d2⟩:=h.sh.at hlt
 rw [ht] at ht'
 cases ht'
 have e1:=h.l
 have e2:=h.pl
 rw [hA] at e1
 have hd : decide (((p + 1 : Nat) : Int) = 0) = false:=by simp; omega
 have hw : IntKind.i64.wrap (((p + 1 : Nat) : Int) - 1) = (p : Int):=by rw [IntWalk.i64_in _ (by omega)]; omega
 clear ht h
 go_enter Tryz.func120,Tryz.ntmps120
 go_wp2
 go_quiet (fail)
 go_wp2
 go_ret
 exact ⟨rfl,Quiet.below ⟨_,rfl⟩ _⟩
def TakeTo (C : Cx) (p : Nat) (y : Bool) (w : World) (e : Ending) (w' : World) : Prop:=e = .returned (.bool y) ∧ Cur C w' (if y = true then p + 1 else p) ∧ w.grownBy w' (some C.g) ∧ (y = false → Below w.heap.size w w')
theorem toList_ne {s : ByteArray} (h : s.size ≠ 0) : (s.toList == []) = false:=by rw [toList_nil]; simp [h]
set_option maxRecDepth 10000 in
theorem take_any (C : Cx) (hC : TokOk C.T C.L) (p : Nat) (w : World) (h : Cur C w p) (s : ByteArray) (hs : s.size ≠ 0) (hp : ((C.R.wd p).toList == s.toList) = true → p < C.L.length) :
  CP 119 #[C.ptr,.string s] w (TakeTo C p ((C.R.wd p).toList == s.toList) w):=by
 have HP:=Lh (peek_any C hC p w h)
 have hn:=toList_ne hs
 have hln:=hC.len
 have H:=Lh h
 clear h
 cases hq : ((C.R.wd p).toList == s.toList) with
 | true =>
  have hlt:=hp hq
  go_enter Tryz.func119,Tryz.ntmps119
  go_wp2_with (first
   | (go_at_call 56; refine HP.out.mono ?_; rintro e w2 ⟨rfl,b2⟩; have H2:=Lh (H.out.under b2); have c2:=H2.out.pl; have f2:=H2.out.fz; have B2:=Lh b2; clear b2; dsimp only)
   | fail)
  have hm:=H2.out.move (q:=p + 1) hlt
  go_ret
  exact ⟨rfl,hm.1,gb_trans (below_fr B2.out _) hm.2,fun h => by cases h⟩
 | false =>
  go_enter Tryz.func119,Tryz.ntmps119
  go_wp2_with (first
   | (go_at_call 56; refine HP.out.mono ?_; rintro e w2 ⟨rfl,b2⟩; dsimp only)
   | fail)
  go_ret
  exact ⟨rfl,H.out.under b2,below_fr b2 _,fun _ => b2⟩
theorem takeNone_any (C : Cx) (hC : TokOk C.T C.L) (p : Nat) (w : World) (h : Cur C w p) :
  CP 119 #[C.ptr,.string ⟨#[]⟩] w fun e w' => e = .returned (.bool false) ∧ w = w':=by
 have e0:=empty_toList
 go_enter Tryz.func119,Tryz.ntmps119
 go_wp2
 go_ret
 exact ⟨rfl,rfl⟩
def IdTo (C : Cx) (p : Nat) (w : World) (e : Ending) (w' : World) : Prop:=
 e = .returned (.tuple #[.string (if C.R.idn p = true then C.R.wd p else ⟨#[]⟩),.bool (C.R.idn p)]) ∧ Cur C w' (if C.R.idn p = true then p + 1 else p) ∧ w.grownBy w' (some C.g)
set_option maxRecDepth 10000 in
theorem identC_any (C : Cx) (hC : TokOk C.T C.L) (p : Nat) (w : World) (h : Cur C w p) :
  CP 93 #[C.ptr] w (IdTo C p w):=by
 have HP:=Lh (peek_any C hC p w h)
 have hln:=hC.len
 have H:=Lh h
 have hid : ∀ w',CP 79 #[.string (C.R.wd p)] w' fun e w'' => e = .returned (.bool (C.R.idn p)) ∧ Below w'.heap.size w' w'':=fun w' => ident_any _ w'
 have HI:=Lh hid
 unfold IdTo
 clear h hid
 cases hq : C.R.idn p with
 | true =>
  have hlt : p < C.L.length:=(row_ok C.T C.L).id_lt hq
  rw [hq] at HI
  go_enter Tryz.func93,Tryz.ntmps93
  go_wp2_with (first
   | (go_at_call 56; refine HP.out.mono ?_; rintro e w2 ⟨rfl,b2⟩; have H2:=Lh (H.out.under b2); have B2:=Lh b2; clear b2; dsimp only)
   | (go_at_call 79; refine (HI.out _).mono ?_; rintro e w3 ⟨rfl,b3⟩; have H3:=Lh (H2.out.under b3); have c2:=H3.out.pl; have f2:=H3.out.fz; have B3:=Lh b3; clear b3; dsimp only)
   | fail)
  have hm:=H3.out.move (q:=p + 1) hlt
  go_ret2
  exact ⟨rfl,hm.1,gb_trans (gb_trans (below_fr B2.out _) (below_fr B3.out _)) hm.2⟩
 | false =>
  rw [hq] at HI
  go_enter Tryz.func93,Tryz.ntmps93
  go_wp2_with (first
   | (go_at_call 56; refine HP.out.mono ?_; rintro e w2 ⟨rfl,b2⟩; have H2:=Lh (H.out.under b2); have B2:=Lh b2; clear b2; dsimp only)
   | (go_at_call 79; refine (HI.out _).mono ?_; rintro e w3 ⟨rfl,b3⟩; have H3:=Lh (H2.out.under b3); have B3:=Lh b3; clear b3; dsimp only)
   | fail)
  go_ret2
  exact ⟨rfl,H3.out,gb_trans (below_fr B2.out _) (below_fr B3.out _)⟩
end Go.Proofs.YtkjhlgnpohamnaaGreatDoor
