import Derived.Test.YtjoclbeoafeebaaSq
import Derived.Test.YtjoclbeoafeebaaMEz
import Derived.Test.YtjoclbeoafeebaaMLx
import Derived.Deep.MidRow
import Derived.BigQuiet
import Derived.BigRegion
namespace Go.Proofs.Ytjoclbeoafeebaa
set_option linter.unusedVariables false
set_option linter.unusedSimpArgs false
open Go.RowKit
def exV(x:Ex)(lv:Value):Value:=.agg #[.int .i64 x.k,.int .i64 x.a,.int .i64 x.m,.string x.nm,.string x.lb,lv]
def exC(x:Ex)(lv:Value):List Value:=[.int .i64 x.k,.int .i64 x.a,.int .i64 x.m,.string x.nm,.string x.lb,lv]
theorem J8(w:World):(zeroValue 81).run Try.prog w=.ok (.agg #[.int .i64 0,.int .i64 0,.int .i64 0,.string ⟨#[]⟩,.string ⟨#[]⟩,.slice none 0 0]) w:=by kernel_rfl
theorem rowEx:Kq Try.prog 79 81 6 80:=Kq.mk (z:=exV Ex.nul (.slice none 0 0)) Try.underlying79 (by kernel_rfl) rfl (by omega)
inductive Shx (w:World) (S:Nat→Prop):Value→List Ex→Prop
 | emp (A:Option Addr) (c:Nat):Shx w S (.slice A 0 c) []
 | row (b off n c:Nat) (l:List Ex) (vs:Nat→Value) (hl:l.length=n) (hn:0<n) (hnc:n≤c) (hb:S b) (hlt:b<w.heap.size)
   (hc:∀ j x,l[j]?=some x→w.rangeAt b (off+j*6) (exC x (vs j)))
   (hs:∀ j x,l[j]?=some x→Shx w S (vs j) x.l):Shx w S (.slice (some ⟨b,off,none⟩) n c) l
theorem Shx.keep{w w':World}{S S':Nat→Prop}{lv:Value}{l:List Ex}(h:Shx w S lv l)(hS:∀ b,S b→b<w.heap.size→S' b∧b<w'.heap.size∧w'.heap[b]?=w.heap[b]?):Shx w' S' lv l:=by
 induction h with
 | emp A c=>exact .emp A c
 | row b off n c l vs hl hn hnc hb hlt hc hs ih =>
  obtain ⟨h1,h2,h3⟩:=hS b hb hlt
  exact .row b off n c l vs hl hn hnc h1 h2 (fun j x hx i v hv=>(World.cell?_of_block (a:=⟨b,_,none⟩) h3).trans (hc j x hx i v hv)) (fun j x hx=>ih j x hx)
theorem Shx.under{w w':World}{S:Nat→Prop}{lv:Value}{l:List Ex}{B:Nat}(h:Shx w S lv l)(hb:Below B w w')(hS:∀ b,S b→b<w.heap.size→b<B):Shx w' S lv l:=
 h.keep fun b h1 h2=>⟨h1,Nat.lt_of_lt_of_le h2 hb.size,hb.block b (hS b h1 h2)⟩
theorem Shx.grown{w w':World}{S:Nat→Prop}{lv:Value}{l:List Ex}{r:Option Nat}(h:Shx w S lv l)(hg:w.grownBy w' r)(hS:∀ b,S b→b<w.heap.size→some b≠r):Shx w' S lv l:=
 h.keep fun b h1 h2=>⟨h1,Nat.lt_of_lt_of_le h2 hg.size,hg.block b h2 (hS b h1 h2)⟩
theorem Shx.weak{w:World}{S S':Nat→Prop}{lv:Value}{l:List Ex}(h:Shx w S lv l)(hS:∀ b,S b→b<w.heap.size→S' b):Shx w S' lv l:=
 h.keep fun b h1 h2=>⟨hS b h1 h2,h2,rfl⟩
theorem Shx.len{w:World}{S:Nat→Prop}{lv:Value}{l:List Ex}(h:Shx w S lv l):∃ A c,lv=.slice A l.length c∧l.length≤c:=by
 cases h with
 | emp A c=>exact ⟨A,c,rfl,Nat.zero_le _⟩
 | row b off n c l vs hl hn hnc hb hlt hc hs=>exact ⟨_,c,by rw [hl],by omega⟩
theorem Shx.one{w:World}{S:Nat→Prop}{lv:Value}{l:List Ex}(h:Shx w S lv l):lv.oneCell'=true:=by
 obtain ⟨A,c,rfl,_⟩:=h.len
 rfl
theorem Shx.at{w:World}{S:Nat→Prop}{A:Option Addr}{n c:Nat}{l:List Ex}(h:Shx w S (.slice A n c) l){j:Nat}(hj:j<n) :
  ∃ b off x lv,A=some ⟨b,off,none⟩∧l[j]?=some x∧n≤c∧w.rangeAt b (off+j*6) (exC x lv)∧Shx w S lv x.l∧S b∧b<w.heap.size:=by
 cases h with
 | emp A c=>omega
 | row b off n c l vs hl hn hnc hb hlt hc hs =>
  have h1:j<l.length:=by omega
  exact ⟨b,off,l[j],vs j,rfl,List.getElem?_eq_getElem h1,hnc,hc j _ (List.getElem?_eq_getElem h1),hs j _ (List.getElem?_eq_getElem h1),hb,hlt⟩
theorem Shx.nil{w:World}{S:Nat→Prop}:Shx w S (.slice none 0 0) []:=.emp _ _
theorem Ym(x:Ex){lv:Value}(h:lv.oneCell'=true):∀ u∈exC x lv,u.oneCell'=true:=by
 intro u hu
 simp [exC] at hu
 rcases hu with rfl | rfl | rfl | rfl | rfl | rfl
 all_goals first | rfl | exact h
def xcs(L:List (Ex×Value)):List Value:=L.flatMap fun p=>exC p.1 p.2
theorem xcs_snoc(L:List (Ex×Value))(p:Ex×Value):xcs (L++[p])=xcs L++exC p.1 p.2:=by simp [xcs]
theorem xcs_cons(L:List (Ex×Value))(p:Ex×Value):xcs (p::L)=exC p.1 p.2++xcs L:=by simp [xcs]
theorem xcs_at{L:List (Ex×Value)}{k:Nat}{p:Ex×Value}(h:L[k]?=some p){i:Nat}{v:Value}(hv:(exC p.1 p.2)[i]?=some v):(xcs L)[k*6+i]?=some v:=by
 induction L generalizing k with
 | nil=>simp at h
 | cons q L ih =>
  rw [xcs_cons]
  have hi:i<6:=by have:=(List.getElem?_eq_some_iff.1 hv).1;simpa [exC] using this
  cases k with
  | zero =>
   cases h
   rw [List.getElem?_append_left (by simp [exC];omega),Nat.zero_mul,Nat.zero_add]
   exact hv
  | succ k =>
   have:=ih (k:=k) (by simpa using h)
   rw [List.getElem?_append_right (by simp [exC];omega),← this]
   congr 1
   simp [exC]
   omega
theorem Shx.of_own{w:World}{B:Nat}{S:Nat→Prop}{v:Value}{L:List (Ex×Value)}{n:Nat}(h:Own w B 81 6 v n (xcs L))(hn:L.length=n)(hs:∀ p∈L,Shx w S p.2 p.1.l)(hS:∀ b,B≤b→b<w.heap.size→v.ownBlock=some b→S b):Shx w S v (L.map (·.1)):=by
 rcases Nat.eq_zero_or_pos n with h0 | h0
 ·subst h0
  have:L=[]:=List.eq_nil_of_length_eq_zero hn
  subst this
  obtain ⟨A,c,rfl⟩:=h.form
  exact .emp A c
 ·obtain ⟨g,cap,hv,hle,hlt⟩:=h.1.form h0
  subst hv
  have hcap:=(h.cap).1
  have hc:∀ j u,(xcs L)[j]?=some u→w.cell? ⟨g,0+j,none⟩=some u:=fun j u hu=>by
   have:=h.1.cells (g:=g) rfl j u hu
   rwa [Addr.add_lit] at this
  refine .row g 0 n cap _ (fun j=>((L[j]?).map (·.2)).getD undef) (by simp [hn]) h0 hcap (hS g hle hlt rfl) hlt (fun j x hx i u hu=>?_) (fun j x hx=>?_)
  ·rw [List.getElem?_map] at hx
   obtain ⟨p,hp,rfl⟩:=Option.map_eq_some_iff.1 hx
   rw [hp] at hu
   have:=hc _ _ (xcs_at hp hu)
   rw [Nat.add_assoc]
   exact this
  ·rw [List.getElem?_map] at hx
   obtain ⟨p,hp,rfl⟩:=Option.map_eq_some_iff.1 hx
   simp only [hp,Option.map_some,Option.getD_some]
   exact hs p (List.mem_of_getElem? hp)
theorem Shx.lit{w:World}{S:Nat→Prop}(L:List (Ex×Value))(hn:0<L.length)(hs:∀ p∈L,Shx w S p.2 p.1.l)(hS:S w.heap.size){C:Array Value}(hC:C=(xcs L).toArray):Shx (w.alloc (.cells C 81)) S (.slice (some ⟨w.heap.size,0,none⟩) L.length L.length) (L.map (·.1)):=by
 subst hC
 refine .row w.heap.size 0 L.length L.length _ (fun j=>((L[j]?).map (·.2)).getD undef) (by simp) hn nLe hS (by simp) (fun j x hx i u hu=>?_) (fun j x hx=>?_)
 ·rw [List.getElem?_map] at hx
  obtain ⟨p,hp,rfl⟩:=Option.map_eq_some_iff.1 hx
  rw [hp] at hu
  rw [World.cell?_alloc_at _ _ _ _ rfl]
  have:=xcs_at hp hu
  simpa [Nat.zero_add] using this
 ·rw [List.getElem?_map] at hx
  obtain ⟨p,hp,rfl⟩:=Option.map_eq_some_iff.1 hx
  simp only [hp,Option.map_some,Option.getD_some]
  exact (hs p (List.mem_of_getElem? hp)).keep fun b h1 h2=>⟨h1,by simp;omega,by rw [World.alloc,Array.getElem?_push_lt h2,Array.getElem?_eq_getElem h2]⟩
structure Kp (w:World) (G:Nat) (x:Ex) (lv:Value):Prop where
 cs:w.rangeAt G 0 (exC x lv)
 fz:∀ j,j<6→w.frozen? ⟨G,j,none⟩=false
 lt:G<w.heap.size
theorem Kp.there{w:World}{G:Nat}{x:Ex}{lv:Value}(h:Kp w G x lv):w.there G 0 6:=fun j hj=>by
 refine ⟨?_,by rw [Nat.zero_add];exact h.fz j hj⟩
 have:∃ v,(exC x lv)[j]?=some v:=⟨_,List.getElem?_eq_getElem (by simpa [exC] using hj)⟩
 obtain ⟨v,hv⟩:=this
 rw [h.cs j v hv]
 rfl
theorem Kp.keep{w w':World}{G:Nat}{x:Ex}{lv:Value}(h:Kp w G x lv)(hk:w'.heap[G]?=w.heap[G]?)(hs:w.heap.size≤w'.heap.size):Kp w' G x lv:=
 ⟨fun j v hv=>(World.cell?_of_block (a:=⟨G,_,none⟩) hk).trans (h.cs j v hv),fun j hj=>(World.frozen?_of_block (a:=⟨G,j,none⟩) hk).trans (h.fz j hj),Nat.lt_of_lt_of_le h.lt hs⟩
theorem Kp.grown{w w':World}{G:Nat}{x:Ex}{lv:Value}{r:Option Nat}(h:Kp w G x lv)(hg:w.grownBy w' r)(hr:some G≠r):Kp w' G x lv:=h.keep (hg.block G h.lt hr) hg.size
theorem Kp.below{w w':World}{G:Nat}{x:Ex}{lv:Value}{B:Nat}(h:Kp w G x lv)(hg:Below B w w')(hr:G<B):Kp w' G x lv:=h.keep (hg.block G hr) hg.size
theorem Kp.new(w:World)(x:Ex)(lv:Value)(t:TypeId){C:Array Value}(hC:C=(exC x lv).toArray):Kp (w.alloc (.cells C t)) w.heap.size x lv:=by
 subst hC
 refine ⟨fun j v hv=>by rw [Nat.zero_add,World.cell?_alloc_at _ _ _ _ rfl];simpa using hv,fun j hj=>World.frozen?_alloc_new w _ _ j,by simp⟩
section
variable {P:Program} {ops:Array Oper} {rest:List Oper} {o:Oper} {a:Act} {w:World} {Q:Exit→Act→World→Prop}
theorem Z6:(Try.prog.info? 81).map (·.size)=some 6:=by kernel_rfl
theorem Qdn(hgd:o.guard=none)(x y:Operand)(ho:o.op=.store 81 x y)(G:Nat)(hx:a.eval x=.pointer (some ⟨G,0,none⟩)){z e:Ex}{zv lv:Value}(hs:Kp w G z zv)(hy:a.eval y=exV e lv)(h1:lv.oneCell'=true)
  (h:∀ w',w.grownBy w' (some G)→Kp w' G e lv→wpList Try.prog ops Q rest (a.put o.dst undef) w'):wpList Try.prog ops Q (o::rest) a w:=by
 refine wpList_store_mid hgd 81 x y ho G 0 (exC e lv).toArray hx hy hs.there Z6 (all_oneCell_toArray (Ym e h1)) ?_
 refine h _ ?_ ⟨World.rangeAt_setCells_same w G 0 _ hs.there,fun j hj=>by rw [World.frozen?_setCells];exact hs.fz j hj,?_⟩
 ·have:∀ (vs:List Value) (o:Nat) (w:World),w.grownBy (w.setCells G o vs) (some G):=by
   intro vs
   induction vs with
   | nil=>intro o w;exact World.grownBy.refl _ _
   | cons v r ih =>
    intro o w
    have h1:w.grownBy (w.setCell ⟨G,o,none⟩ v) (some G):=⟨rfl,rfl,rfl,by simp,fun k hk hne=>heap_setCell_other _ _ _ _ (fun e=>hne (by rw [e]))⟩
    exact h1.trans (ih (o+1) _)
  exact this _ _ _
 ·have:∀ (vs:List Value) (o:Nat) (w:World),(w.setCells G o vs).heap.size=w.heap.size:=by
   intro vs
   induction vs with
   | nil=>intro o w;rfl
   | cons v r ih=>intro o w;exact (ih (o+1) _).trans (by simp)
  rw [this];exact hs.lt
theorem Qj7(hgd:o.guard=none)(x:Operand)(ho:o.op=.load 81 x)(G off:Nat)(hx:a.eval x=.pointer (some ⟨G,off,none⟩)){e:Ex}{lv:Value}(hs:w.rangeAt G off (exC e lv))
  (h:wpList Try.prog ops Q rest (a.put o.dst (exV e lv)) w):wpList Try.prog ops Q (o::rest) a w:=
 wpList_load_mid hgd 81 x ho G off hx (exC e lv) _ hs Try.underlying81 rfl Z6 h
end
def wdT(T:ByteArray)(L:List Tk)(i:Nat):ByteArray:=match L[i]? with
 | some t=>T.extract t.2.1.toNat t.2.2.toNat
 | none=>⟨#[]⟩
def Qax(T:ByteArray)(L:List Tk):Rw:=
 { n:=L.length,wd:=wdT T L,kd:=fun i=>match L[i]? with
   | some t=>t.1
   | none=>0,ps:=fun i=>match L[i]? with
   | some t=>t.2.1
   | none=>(T.size:Int),idn:=fun i=>idB (wdT T L i) }
structure TokOk (T:ByteArray) (L:List Tk):Prop where
 len:L.length≤1000000
 sz:T.size≤1000000
 tok:∀ t∈L,0≤t.2.1∧t.2.1≤t.2.2∧t.2.2≤(T.size:Int)
theorem Qo(T:ByteArray)(L:List Tk):(Qax T L).Ok:=by
 have h:∀ i,L.length≤i→L[i]?=none:=fun i hi=>List.getElem?_eq_none hi
 refine ⟨fun i hi=>?_,fun i hi=>?_,fun i hi=>?_⟩
 ·show wdT T L i=_
  unfold wdT
  rw [h i hi]
 ·simp only [Qax,h i hi]
 ·show idB (wdT T L i)=false
  unfold wdT
  rw [h i hi]
  simp [idB,Ku,bts]
structure Cx where
 g:Nat
 T:ByteArray
 A:Option Addr
 c:Nat
 L:List Tk
abbrev Cx.R (C:Cx):Rw:=Qax C.T C.L
theorem ShT.keep{w w':World}{B n:Nat}{A:Option Addr}{L:List Tk}(h:ShT w B A n L)(hk:∀ b,b<B→w'.heap[b]?=w.heap[b]?):ShT w' B A n L:=
 ⟨h.1,fun hn=>by
  obtain ⟨b,off,e,hlt,hc⟩:=h.2 hn
  refine ⟨b,off,e,hlt,fun k t ht=>?_⟩
  obtain ⟨h0,h1,h2⟩:=hc k t ht
  have hb:=hk b hlt
  exact ⟨(World.cell?_of_block (a:=⟨b,_,none⟩) hb).trans h0,(World.cell?_of_block (a:=⟨b,_,none⟩) hb).trans h1,(World.cell?_of_block (a:=⟨b,_,none⟩) hb).trans h2⟩⟩
theorem gb_trans{a b c:World}{r:Option Nat}(h:a.grownBy b r)(k:b.grownBy c r):a.grownBy c r:=
 ⟨k.os.trans h.os,k.tape.trans h.tape,k.output.trans h.output,Nat.le_trans h.size k.size,fun i hi hne=>(k.block i (Nat.lt_of_lt_of_le hi h.size) hne).trans (h.block i hi hne)⟩
def Cx.tok(C:Cx)(p:Nat):Tk:=match C.L[p]? with
 | some t=>t
 | none=>(0,(C.T.size:Int),(C.T.size:Int))
end Go.Proofs.Ytjoclbeoafeebaa
