import Derived.Test.YtjoclbeoafeebaaSq
import Derived.Test.YtjoclbeoafeebaaMEp
import Derived.Test.YtjoclbeoafeebaaMem
import Derived.Test.YtjoclbeoafeebaaMEu
namespace Go.Proofs.Ytjoclbeoafeebaa
set_option linter.unusedVariables false
set_option linter.unusedSimpArgs false
structure An where
 so:Bool
 lk:Bool
 lb:ByteArray
 fr:Int
 to:Int
def An.nul:An:=⟨false,false,⟨#[]⟩,0,0⟩
inductive St where
 | mk (k a:Int) (nm:ByteArray) (ty:Int) (an:An) (e:Ex) (l r:List St)
def St.k:St→Int
 | .mk k _ _ _ _ _ _ _=>k
def St.a:St→Int
 | .mk _ a _ _ _ _ _ _=>a
def St.nm:St→ByteArray
 | .mk _ _ nm _ _ _ _ _=>nm
def St.ty:St→Int
 | .mk _ _ _ ty _ _ _ _=>ty
def St.an:St→An
 | .mk _ _ _ _ an _ _ _=>an
def St.e:St→Ex
 | .mk _ _ _ _ _ e _ _=>e
def St.l:St→List St
 | .mk _ _ _ _ _ _ l _=>l
def St.r:St→List St
 | .mk _ _ _ _ _ _ _ r=>r
def St.setL(s:St)(l:List St):St:=.mk s.k s.a s.nm s.ty s.an s.e l s.r
def St.setR(s:St)(r:List St):St:=.mk s.k s.a s.nm s.ty s.an s.e s.l r
def St.nul:St:=.mk 0 0 ⟨#[]⟩ 0 An.nul Ex.nul [] []
theorem St.lt_l{x:St}{k a ty:Int}{nm:ByteArray}{an:An}{e:Ex}{l r:List St}(h:x∈l):SizeOf.sizeOf x<SizeOf.sizeOf (St.mk k a nm ty an e l r):=by
 have:=List.sizeOf_lt_of_mem h
 simp
 omega
theorem St.lt_r{x:St}{k a ty:Int}{nm:ByteArray}{an:An}{e:Ex}{l r:List St}(h:x∈r):SizeOf.sizeOf x<SizeOf.sizeOf (St.mk k a nm ty an e l r):=by
 have:=List.sizeOf_lt_of_mem h
 simp
 omega
theorem St.ind{P:St→Prop}(h:∀ k a nm ty an e l r,(∀ x∈l,P x)→(∀ x∈r,P x)→P (.mk k a nm ty an e l r)):∀ s,P s
 | .mk k a nm ty an e l r=>h k a nm ty an e l r (fun x hx=>St.ind h x) (fun x hx=>St.ind h x)
termination_by s=>SizeOf.sizeOf s
decreasing_by
 ·exact St.lt_l hx
 ·exact St.lt_r hx
def Rw.en(R:Rw)(p:Nat):Int:=if p=0 then 0 else R.ps (p-1)+((R.wd (p-1)).size:Int)
abbrev wLet:ByteArray:=⟨#[108,101,116]⟩
abbrev wIf:ByteArray:=⟨#[105,102]⟩
abbrev wWhile:ByteArray:=⟨#[119,104,105,108,101]⟩
abbrev wDo:ByteArray:=⟨#[100,111]⟩
abbrev Qek:ByteArray:=⟨#[58]⟩
abbrev wEq:ByteArray:=⟨#[61]⟩
abbrev Jr:ByteArray:=⟨#[59]⟩
abbrev Qc9:ByteArray:=⟨#[40]⟩
abbrev Qda:ByteArray:=⟨#[41]⟩
abbrev Uy:ByteArray:=⟨#[123]⟩
abbrev Km:ByteArray:=⟨#[125]⟩
abbrev lLet:List UInt8:=[108,101,116]
abbrev lIf:List UInt8:=[105,102]
abbrev Qdr:List UInt8:=[119,104,105,108,101]
abbrev lDo:List UInt8:=[100,111]
abbrev Qfz:List UInt8:=[101,108,115,101]
abbrev Qla:List UInt8:=[114,101,116,117,114,110]
abbrev lInt:List UInt8:=[105,110,116]
abbrev Qkd:List UInt8:=[98,111,111,108]
def tyS(R:Rw)(p:Nat):Int×(Nat×Int):=if R.is p lInt=true then (0,(p+1,0)) else if R.is p Qkd=true then (1,(p+1,0)) else (0,(p,11))
def Yz(R:Rw)(p:Nat):An×(Nat×Int):=
 if (R.is p [64,61] || R.is p [64])=true then
  (if R.idn (p+1)=true then (⟨true,R.is p [64,61],R.wd (p+1),R.ps (p+1),R.en (p+2)⟩,(p+2,0)) else (An.nul,(p+1,11)))
 else (⟨false,false,⟨#[]⟩,R.en p,R.en p⟩,(p,0))
def nmS(R:Rw)(p:Nat):ByteArray×(Nat×Int):=if R.idn p=true then (R.wd p,(p+1,0)) else (⟨#[]⟩,(p,11))
def exS(R:Rw)(F p:Nat):Ex×(Nat×Int):=((rd R F (.lev 1) p 0).e,((rd R F (.lev 1) p 0).p,(rd R F (.lev 1) p 0).r))
def mu(R:Rw)(x:Nat×Int)(l:List ByteArray):Nat×Int:=if x.2=0 then Qbn R x.1 l else x
def pty(R:Rw)(x:Nat×Int):Int×(Nat×Int):=if x.2=0 then tyS R x.1 else (0,x)
def pmk(R:Rw)(x:Nat×Int):An×(Nat×Int):=if x.2=0 then Yz R x.1 else (An.nul,x)
def pnm(R:Rw)(x:Nat×Int):ByteArray×(Nat×Int):=if x.2=0 then nmS R x.1 else (⟨#[]⟩,x)
def pex(R:Rw)(F:Nat)(x:Nat×Int):Ex×(Nat×Int):=if x.2=0 then exS R F x.1 else (Ex.nul,x)
def letS(R:Rw)(F:Nat)(a:Int)(x:Nat×Int):St×(Nat×Int):=
 let y2:=pnm R (mu R x [wLet])
 let y4:=pty R (mu R y2.2 [Qek])
 let y5:=pmk R y4.2
 let y7:=pex R F (mu R y5.2 [wEq])
 (.mk 0 a y2.1 y4.1 y5.1 y7.1 [] [],mu R y7.2 [Jr])
def askS(R:Rw)(F:Nat)(k a:Int)(s:ByteArray)(x:Nat×Int):St×(Nat×Int):=
 let y:=pex R F (mu R x [s,Qc9])
 (.mk k a ⟨#[]⟩ 0 An.nul y.1 [] [],mu R y.2 [Qda])
def doS(R:Rw)(a:Int)(x:Nat×Int):St×(Nat×Int):=
 let y:=pnm R (mu R x [wDo])
 (.mk 4 a y.1 0 An.nul Ex.nul [] [],mu R y.2 [Jr])
def plS(R:Rw)(F:Nat)(a:Int)(x:Nat×Int):St×(Nat×Int):=
 let y:=pex R F x
 if y.2.2=0 then
  if y.1.k=2 then
   let z:=pex R F (mu R y.2 [wEq])
   (.mk 1 a y.1.nm 0 An.nul z.1 [] [],mu R z.2 [Jr])
  else if y.1.k=3 then (.mk 5 a ⟨#[]⟩ 0 An.nul y.1 [] [],mu R y.2 [Jr])
  else (.mk 0 a ⟨#[]⟩ 0 An.nul Ex.nul [] [],(y.2.1,11))
 else (.mk 0 a ⟨#[]⟩ 0 An.nul Ex.nul [] [],y.2)
def hdS(R:Rw)(F p:Nat):St×(Nat×Int):=
 if R.is p lLet=true then letS R F (R.ps p) (p,0)
 else if R.is p lIf=true then askS R F 2 (R.ps p) wIf (p,0)
 else if R.is p Qdr=true then askS R F 3 (R.ps p) wWhile (p,0)
 else if R.is p lDo=true then doS R (R.ps p) (p,0)
 else plS R F (R.ps p) (p,0)
def Qf0(R:Rw)(p:Nat):Bool:=R.is p [125] || R.is p Qla || decide (p=R.n)
structure Bk where
 of:St
 ah:List St
 ot:Bool
structure Mc where
 row:List St
 op:List Bk
 p:Nat
 r:Int
def Mc.enter(R:Rw)(D:Int)(m:Mc)(b:Bk):Mc:=
 let x:=mu R (m.p,if m.r=0∧R.is m.p [123]=true∧32-(m.op.length:Int)≤D then 12 else m.r) [Uy]
 ⟨[],m.op++[b],x.1,x.2⟩
def Bk.shut(b:Bk)(row:List St):St:=if b.ot=true then b.of.setR row else b.of.setL row
def Mc.leave(R:Rw)(D:Int)(m:Mc)(b:Bk):Mc:=
 let x:=mu R (m.p,m.r) [Km]
 if b.of.k=2∧b.ot=false∧R.is x.1 Qfz=true then Mc.enter R D ⟨m.row,m.op.dropLast,x.1+1,x.2⟩ ⟨b.shut m.row,b.ah,true⟩
 else ⟨b.ah++[b.shut m.row],m.op.dropLast,x.1,x.2⟩
def Mc.step(R:Rw)(F:Nat)(D:Int)(m:Mc):Mc:=
 match m.op.getLast? with
 | some b=>if Qf0 R m.p=true then m.leave R D b else
   if (hdS R F m.p).1.k=2∨(hdS R F m.p).1.k=3 then Mc.enter R D ⟨m.row,m.op,(hdS R F m.p).2.1,(hdS R F m.p).2.2⟩ ⟨(hdS R F m.p).1,m.row,false⟩
   else ⟨m.row++[(hdS R F m.p).1],m.op,(hdS R F m.p).2.1,(hdS R F m.p).2.2⟩
 | none =>
   if (hdS R F m.p).1.k=2∨(hdS R F m.p).1.k=3 then Mc.enter R D ⟨m.row,m.op,(hdS R F m.p).2.1,(hdS R F m.p).2.2⟩ ⟨(hdS R F m.p).1,m.row,false⟩
   else ⟨m.row++[(hdS R F m.p).1],m.op,(hdS R F m.p).2.1,(hdS R F m.p).2.2⟩
inductive Qhq (R:Rw) (F:Nat) (D:Int) (dn:Mc→Bool):Mc→Mc→Prop
 | here (m:Mc) (h:dn m=true):Qhq R F D dn m m
 | err (m:Mc) (h:dn m=false) (hr:¬ (m.step R F D).r=0):Qhq R F D dn m (m.step R F D)
 | on (m x:Mc) (h:dn m=false) (hr:(m.step R F D).r=0) (hx:Qhq R F D dn (m.step R F D) x):Qhq R F D dn m x
inductive Ms where
 | row (acc:List St)
 | st
 | blk
structure Gs where
 s:St
 l:List St
 p:Nat
 r:Int
def Yn(s:St)(l:List St)(p:Nat):Gs:=⟨s,l,p,0⟩
def Kr(p:Nat)(r:Int):Gs:=⟨St.nul,[],p,r⟩
def rs(R:Rw)(F:Nat):Nat→Ms→Nat→Int→Gs
 | 0,_,p,_=>Kr p 99
 | f+1,.row acc,p,d =>
  if Qf0 R p=true then Yn St.nul acc p else
  let g:=rs R F f .st p d
  if g.r=0 then rs R F f (.row (acc++[g.s])) g.p d else Kr g.p g.r
 | f+1,.blk,p,d =>
  if R.is p [123]=true then
   if 32≤d then Kr p 12 else
   let g:=rs R F f (.row []) (p+1) (d+1)
   if g.r=0 then (if R.is g.p [125]=true then Yn St.nul g.l (g.p+1) else Kr g.p 11) else Kr g.p g.r
  else Kr p 11
 | f+1,.st,p,d =>
  if (hdS R F p).2.2=0 then
   if (hdS R F p).1.k=2∨(hdS R F p).1.k=3 then
    let g:=rs R F f .blk (hdS R F p).2.1 d
    if g.r=0 then
     if (hdS R F p).1.k=2∧R.is g.p Qfz=true then
      let g2:=rs R F f .blk (g.p+1) d
      if g2.r=0 then Yn (((hdS R F p).1.setL g.l).setR g2.l) [] g2.p else Kr g2.p g2.r
     else Yn ((hdS R F p).1.setL g.l) [] g.p
    else Kr g.p g.r
   else Yn (hdS R F p).1 [] (hdS R F p).2.1
  else Kr (hdS R F p).2.1 (hdS R F p).2.2
open Go.RowKit
structure Tn (M:Nat→Prop) (w w':World):Prop where
 os:w'.os=w.os
 tape:w'.tape=w.tape
 output:w'.output=w.output
 size:w.heap.size≤w'.heap.size
 block:∀ k,k<w.heap.size→¬ M k→w'.heap[k]?=w.heap[k]?
section
variable {w w' a b c:World} {M M':Nat→Prop}
theorem Tn.refl(M:Nat→Prop)(w:World):Tn M w w:=⟨rfl,rfl,rfl,Nat.le_refl _,fun _ _ _=>rfl⟩
theorem Tn.trans(h:Tn M a b)(k:Tn M b c):Tn M a c:=
 ⟨k.os.trans h.os,k.tape.trans h.tape,k.output.trans h.output,Nat.le_trans h.size k.size,fun i hi hM=>(k.block i (Nat.lt_of_lt_of_le hi h.size) hM).trans (h.block i hi hM)⟩
theorem Tn.weak(h:Tn M a b)(hM:∀ k,k<a.heap.size→M k→M' k):Tn M' a b:=⟨h.os,h.tape,h.output,h.size,fun i hi hn=>h.block i hi fun hm=>hn (hM i hi hm)⟩
theorem Tn.then_(h:Tn M a b)(k:Tn M' b c)(hM:∀ i,i<a.heap.size→M' i→M i):Tn M a c:=
 ⟨k.os.trans h.os,k.tape.trans h.tape,k.output.trans h.output,Nat.le_trans h.size k.size,fun i hi hm=>(k.block i (Nat.lt_of_lt_of_le hi h.size) fun h'=>hm (hM i hi h')).trans (h.block i hi hm)⟩
theorem Tn.of_below(M:Nat→Prop)(h:Below a.heap.size a b):Tn M a b:=⟨h.os,h.tape,h.output,h.size,fun i hi _=>h.block i hi⟩
theorem Tn.of_gb{r:Option Nat}(h:a.grownBy b r)(hM:∀ k,r=some k→k<a.heap.size→M k):Tn M a b:=
 ⟨h.os,h.tape,h.output,h.size,fun i hi hm=>h.block i hi fun e=>hm (hM i e.symm hi)⟩
theorem Tn.gb{g:Nat}(h:Tn (fun k=>k=g) a b):a.grownBy b (some g):=⟨h.os,h.tape,h.output,h.size,fun i hi hm=>h.block i hi fun e=>hm (by rw [e])⟩
theorem Tn.below{B:Nat}(h:Tn M a b)(hB:B≤a.heap.size)(hM:∀ k,k<B→¬ M k):Below B a b:=⟨h.os,h.tape,h.output,h.size,fun i hi=>h.block i (by omega) (hM i hi)⟩
theorem Tn.alloc(M:Nat→Prop)(w:World)(o:Obj):Tn M w (w.alloc o):=Tn.of_below M bAl
theorem Tn.set(w:World)(G j:Nat)(v:Value)(hM:M G):Tn M w (w.setCell ⟨G,j,none⟩ v):=
 Tn.of_gb (r:=some G) ⟨rfl,rfl,rfl,by simp,fun k hk hne=>heap_setCell_other _ _ _ _ (fun e=>hne (by rw [e]))⟩ fun k e _=>by injection e with e;rwa [← e]
theorem Tn.sets(G:Nat)(vs:List Value)(hM:M G):∀ (o:Nat) (w:World),Tn M w (w.setCells G o vs):=by
 induction vs with
 | nil=>intro o w;exact Tn.refl _ _
 | cons v r ih=>intro o w;exact (Tn.set w G o v hM).trans (ih (o+1) _)
theorem Tn.drew(M:Nat→Prop)(w:World):Tn M w w.drew:=⟨rfl,rfl,rfl,Nat.le_refl _,fun _ _ _=>rfl⟩
theorem Tn.cell(h:Tn M w w'){G j:Nat}(hl:G<w.heap.size)(hM:¬ M G):w'.cell? ⟨G,j,none⟩=w.cell? ⟨G,j,none⟩:=World.cell?_of_block (a:=⟨G,j,none⟩) (h.block G hl hM)
theorem Shx.turn{S S':Nat→Prop}{lv:Value}{l:List Ex}(h:Shx w S lv l)(ht:Tn M w w')(hS:∀ b,S b→b<w.heap.size→S' b∧¬ M b):Shx w' S' lv l:=
 h.keep fun b h1 h2=>⟨(hS b h1 h2).1,Nat.lt_of_lt_of_le h2 ht.size,ht.block b h2 (hS b h1 h2).2⟩
end
structure Var (w:World) (G:Nat) (cs:List Value):Prop where
 rg:w.rangeAt G 0 cs
 fz:∀ j,j<cs.length→w.frozen? ⟨G,j,none⟩=false
 lt:G<w.heap.size
section
variable {w w':World} {G:Nat} {cs:List Value}
theorem Var.at(h:Var w G cs)(j:Nat){v:Value}(hv:cs[j]?=some v):w.cell? ⟨G,j,none⟩=some v:=by
 have:=h.rg j v hv
 rwa [Nat.zero_add] at this
theorem Var.keep(h:Var w G cs)(hk:w'.heap[G]?=w.heap[G]?)(hs:w.heap.size≤w'.heap.size):Var w' G cs:=
 ⟨fun j v hv=>(World.cell?_of_block (a:=⟨G,_,none⟩) hk).trans (h.rg j v hv),fun j hj=>(World.frozen?_of_block (a:=⟨G,j,none⟩) hk).trans (h.fz j hj),Nat.lt_of_lt_of_le h.lt hs⟩
theorem Var.turn{M:Nat→Prop}(h:Var w G cs)(ht:Tn M w w')(hM:¬ M G):Var w' G cs:=h.keep (ht.block G h.lt hM) ht.size
theorem Var.under(h:Var w G cs)(hb:Below w.heap.size w w'):Var w' G cs:=h.keep (hb.block G h.lt) hb.size
theorem Var.new(w:World)(cs:List Value)(t:TypeId){c:Array Value}(hc:c=cs.toArray):Var (w.alloc (.cells c t)) w.heap.size cs:=by
 subst hc
 refine ⟨fun j v hv=>by rw [Nat.zero_add,World.cell?_alloc_at _ _ _ _ rfl];simpa using hv,fun j hj=>World.frozen?_alloc_new w _ _ j,by simp⟩
theorem Var.there(h:Var w G cs){o n:Nat}(hn:o+n≤cs.length):w.there G o n:=fun j hj=>by
 have:∃ v,cs[o+j]?=some v:=⟨_,List.getElem?_eq_getElem (by omega)⟩
 obtain ⟨v,hv⟩:=this
 rw [h.at (o+j) hv]
 exact ⟨rfl,h.fz _ (by omega)⟩
theorem Qel(G:Nat):∀ (vs:List Value) (o:Nat) (w:World),(w.setCells G o vs).heap.size=w.heap.size:=by
 intro vs
 induction vs with
 | nil=>intro o w;rfl
 | cons v r ih=>intro o w;exact (ih (o+1) _).trans (by simp)
def spl(cs:List Value)(o:Nat)(us:List Value):List Value:=cs.take o++us++cs.drop (o+us.length)
theorem Var.sets(h:Var w G cs)(o:Nat)(us:List Value)(hl:o+us.length≤cs.length):Var (w.setCells G o us) G (spl cs o us):=by
 have hlen:(spl cs o us).length=cs.length:=by unfold spl;simp;omega
 refine ⟨fun j v hv=>?_,fun j hj=>by rw [World.frozen?_setCells];exact h.fz j (by omega),by rw [Qel];exact h.lt⟩
 rw [Nat.zero_add]
 unfold spl at hv
 rcases Nat.lt_or_ge j o with h1 | h1
 ·rw [List.append_assoc,List.getElem?_append_left (by simp;omega),List.getElem?_take,if_pos h1] at hv
  have hr:w.rangeAt G 0 (cs.take o):=fun i u hu=>by
   rw [List.getElem?_take] at hu
   split at hu
   ·exact h.rg i u hu
   ·cases hu
  have:=World.rangeAt_setCells_apart hr G o us (.inr (.inl (by simp;omega))) j v (by rw [List.getElem?_take,if_pos h1];exact hv)
  rwa [Nat.zero_add] at this
 ·rcases Nat.lt_or_ge j (o+us.length) with h2 | h2
  ·rw [List.getElem?_append_left (by simp;omega),List.getElem?_append_right (by simp;omega)] at hv
   have:=World.rangeAt_setCells_same w G o us (h.there hl) (j-o) v (by rw [← hv];congr 1;simp;omega)
   rwa [show o+(j-o)=j by omega] at this
  ·rw [List.getElem?_append_right (by simp;omega),List.getElem?_drop] at hv
   have hj:cs[j]?=some v:=by rw [← hv];congr 1;simp;omega
   have hr:w.rangeAt G j [v]:=fun i u hu=>by
    have:i=0:=by have:=(List.getElem?_eq_some_iff.1 hu).1;simpa using this
    subst this
    rw [← Option.some.inj hu]
    exact h.at j hj
   have:=World.rangeAt_setCells_apart hr G o us (.inr (.inr h2)) 0 v rfl
   simpa using this
theorem Var.set(h:Var w G cs)(j:Nat)(v:Value)(hj:j<cs.length):Var (w.setCell ⟨G,j,none⟩ v) G (cs.set j v):=by
 refine ⟨fun i u hu=>?_,fun i hi=>by rw [World.frozen?_setCell];exact h.fz i (by simpa using hi),by simpa using h.lt⟩
 rw [Nat.zero_add]
 by_cases hij:j=i
 ·subst hij
  rw [List.getElem?_set_self hj] at hu
  rw [← Option.some.inj hu]
  exact World.cell?_setCell_same _ _ _ (h.at j (List.getElem?_eq_getElem hj))
 ·rw [List.getElem?_set_ne hij] at hu
  rw [World.cell?_setCell_other _ _ _ _ (fun e=>by injection e with _ e1;first | exact hij e1 | exact hij e1.symm)]
  exact h.at i hu
variable {P:Program} {ops:Array Oper} {rest:List Oper} {o:Oper} {a:Act} {Q:Exit→Act→World→Prop}
theorem Qa(hgd:o.guard=none)(T:TypeId)(x y:Operand)(ho:o.op=.store T x y){off:Nat}(hx:a.eval x=.pointer (some ⟨G,off,none⟩)){us:List Value}(hs:Var w G cs)(hy:a.eval y=.agg us.toArray)
  (hT:(P.info? T).map (·.size)=some us.toArray.size) (hl:off+us.length≤cs.length) (h1:∀ u∈us,u.oneCell'=true)
  (h:∀ w',Tn (fun k=>k=G) w w'→Var w' G (spl cs off us)→wpList P ops Q rest (a.put o.dst undef) w'):wpList P ops Q (o::rest) a w:=by
 refine wpList_store_mid hgd T x y ho G off us.toArray hx hy (hs.there (by simpa using hl)) hT (all_oneCell_toArray h1) ?_
 exact h _ (Tn.sets (M:=fun k=>k=G) G _ rfl _ _) (hs.sets off us hl)
theorem Qf1{v:Value}(h:v.oneCell'=true):v.cells=#[v]:=by
 cases v <;> first | rfl | simp [Value.oneCell'] at h
theorem Qr(hgd:o.guard=none)(T:TypeId)(x y:Operand)(ho:o.op=.store T x y){off:Nat}(hx:a.eval x=.pointer (some ⟨G,off,none⟩)){v:Value}(hs:Var w G cs)(hy:a.eval y=v)
  (hT:(P.info? T).map (·.size)=some 1) (hl:off<cs.length) (h1:v.oneCell'=true)
  (h:∀ w',Tn (fun k=>k=G) w w'→Var w' G (cs.set off v)→wpList P ops Q rest (a.put o.dst undef) w'):wpList P ops Q (o::rest) a w:=by
 have hth:=hs.there (o:=off) (n:=1) (by omega)
 have hrun:(storeVar T ⟨G,off,none⟩ v).run P w=.ok () (w.setCell ⟨G,off,none⟩ v):=by
  have:=run_storeCells_cells (P:=P) G off [v] 0 w (fun j hj=>by simpa using (hth j (by simpa using hj)).1) (fun j hj=>by simpa using (hth j (by simpa using hj)).2) (fun u hu=>by rw [List.mem_singleton.1 hu];exact h1)
  cases hq:P.info? T with
  | none=>simp [hq] at hT
  | some i =>
   have hs:1=i.size:=by simp [hq] at hT;omega
   simp only [Nat.add_zero] at this
   simp [storeVar,sizeOf,typeInfo,hq,Qf1 h1,← hs,this]
   rfl
 refine wpList_plain hgd fun K hK=>?_
 unfold Oper.wp execOp
 simp only [ho,hx,hy,Instr.storeAt,Instr.sureAddr,Sem.run_bind,Sem.run_pure,Result.andThen_ok,hrun]
 exact hK _ _ (h _ (Tn.set w G off v rfl) (hs.set off v hl))
theorem Qb(hgd:o.guard=none)(T:TypeId)(x:Operand)(ho:o.op=.load T x)(G off:Nat)(hx:a.eval x=.pointer (some ⟨G,off,none⟩))(cs:List Value){d:TypeDesc}(hs:w.rangeAt G off cs)(hu:P.underlying T=some d)(hd:d.isRow=true)
  (hT:(P.info? T).map (·.size)=some cs.length) (h:wpList P ops Q rest (a.put o.dst (.agg cs.toArray)) w):wpList P ops Q (o::rest) a w:=
 wpList_load_mid hgd T x ho G off hx cs d hs hu hd hT h
theorem ldV(T:TypeId){off:Nat}{cs:List Value}(hs:w.rangeAt G off cs){d:TypeDesc}(hu:P.underlying T=some d)(hd:d.isRow=true)(hT:(P.info? T).map (·.size)=some cs.length):(loadVar T ⟨G,off,none⟩).run P w=.ok (.agg cs.toArray) w:=
 run_loadVar_mid w G off T cs d hs hu hd hT
end
structure Tv where
 e:Value
 l:Value
 r:Value
def Tv.nul:Tv:=⟨.slice none 0 0,.slice none 0 0,.slice none 0 0⟩
def anC(x:An):List Value:=[.bool x.so,.bool x.lk,.string x.lb,.int .i64 x.fr,.int .i64 x.to]
def stC(x:St)(v:Tv):List Value:=[.int .i64 x.k,.int .i64 x.a,.string x.nm,.int .i64 x.ty,.bool x.an.so,.bool x.an.lk,.string x.an.lb,.int .i64 x.an.fr,.int .i64 x.an.to,
 .int .i64 x.e.k,.int .i64 x.e.a,.int .i64 x.e.m,.string x.e.nm,.string x.e.lb,v.e,v.l,v.r]
def stV(x:St)(v:Tv):Value:=.agg #[.int .i64 x.k,.int .i64 x.a,.string x.nm,.int .i64 x.ty,.bool x.an.so,.bool x.an.lk,.string x.an.lb,.int .i64 x.an.fr,.int .i64 x.an.to,
 .int .i64 x.e.k,.int .i64 x.e.a,.int .i64 x.e.m,.string x.e.nm,.string x.e.lb,v.e,v.l,v.r]
theorem Qem(x:St)(v:Tv):(stC x v).length=17:=rfl
theorem Jy:(Try.prog.info? 133).map (·.size)=some 17:=by kernel_rfl
theorem Qen:(Try.prog.info? 73).map (·.size)=some 5:=by kernel_rfl
theorem Qf2(w:World):(zeroValue 133).run Try.prog w=.ok (.agg #[.int .i64 0,.int .i64 0,.string ⟨#[]⟩,.int .i64 0,.bool false,.bool false,.string ⟨#[]⟩,.int .i64 0,.int .i64 0,
 .int .i64 0,.int .i64 0,.int .i64 0,.string ⟨#[]⟩,.string ⟨#[]⟩,.slice none 0 0,.slice none 0 0,.slice none 0 0]) w:=by kernel_rfl
theorem rowSt:Kq Try.prog 78 133 17 208:=Kq.mk (z:=stV St.nul Tv.nul) Try.underlying78 (by kernel_rfl) rfl (by omega)
inductive ShS (w:World) (S:Nat→Prop):Value→List St→Prop
 | emp (A:Option Addr) (c:Nat):ShS w S (.slice A 0 c) []
 | row (b off n c:Nat) (l:List St) (vs:Nat→Tv) (hl:l.length=n) (hn:0<n) (hnc:n≤c) (hb:S b) (hlt:b<w.heap.size)
   (hc:∀ j x,l[j]?=some x→w.rangeAt b (off+j*17) (stC x (vs j)))
   (he:∀ j x,l[j]?=some x→Shx w S (vs j).e x.e.l)
   (hs:∀ j x,l[j]?=some x→ShS w S (vs j).l x.l)
   (hr:∀ j x,l[j]?=some x→ShS w S (vs j).r x.r):ShS w S (.slice (some ⟨b,off,none⟩) n c) l
section
variable {w w':World} {S S':Nat→Prop} {lv:Value} {l:List St}
theorem ShS.keep(h:ShS w S lv l)(hS:∀ b,S b→b<w.heap.size→S' b∧b<w'.heap.size∧w'.heap[b]?=w.heap[b]?):ShS w' S' lv l:=by
 induction h with
 | emp A c=>exact .emp A c
 | row b off n c l vs hl hn hnc hb hlt hc he hs hr ih1 ih2 =>
  obtain ⟨h1,h2,h3⟩:=hS b hb hlt
  exact .row b off n c l vs hl hn hnc h1 h2 (fun j x hx i v hv=>(World.cell?_of_block (a:=⟨b,_,none⟩) h3).trans (hc j x hx i v hv)) (fun j x hx=>(he j x hx).keep hS) (fun j x hx=>ih1 j x hx) (fun j x hx=>ih2 j x hx)
theorem ShS.turn{M:Nat→Prop}(h:ShS w S lv l)(ht:Tn M w w')(hS:∀ b,S b→b<w.heap.size→S' b∧¬ M b):ShS w' S' lv l:=
 h.keep fun b h1 h2=>⟨(hS b h1 h2).1,Nat.lt_of_lt_of_le h2 ht.size,ht.block b h2 (hS b h1 h2).2⟩
theorem ShS.weak(h:ShS w S lv l)(hS:∀ b,S b→b<w.heap.size→S' b):ShS w S' lv l:=h.keep fun b h1 h2=>⟨hS b h1 h2,h2,rfl⟩
theorem ShS.under(h:ShS w S lv l)(hb:Below w.heap.size w w'):ShS w' S lv l:=h.keep fun b h1 h2=>⟨h1,Nat.lt_of_lt_of_le h2 hb.size,hb.block b h2⟩
theorem ShS.len(h:ShS w S lv l):∃ A c,lv=.slice A l.length c∧l.length≤c:=by
 cases h with
 | emp A c=>exact ⟨A,c,rfl,Nat.zero_le _⟩
 | row b off n c l vs hl hn hnc hb hlt hc hs=>exact ⟨_,c,by rw [hl],by omega⟩
theorem ShS.one(h:ShS w S lv l):lv.oneCell'=true:=by
 obtain ⟨A,c,rfl,_⟩:=h.len
 rfl
theorem ShS.nil:ShS w S (.slice none 0 0) []:=.emp _ _
structure TrS (w:World) (S:Nat→Prop) (x:St) (v:Tv):Prop where
 e:Shx w S v.e x.e.l
 l:ShS w S v.l x.l
 r:ShS w S v.r x.r
variable {x:St} {v:Tv}
theorem TrS.keep(h:TrS w S x v)(hS:∀ b,S b→b<w.heap.size→S' b∧b<w'.heap.size∧w'.heap[b]?=w.heap[b]?):TrS w' S' x v:=⟨h.e.keep hS,h.l.keep hS,h.r.keep hS⟩
theorem TrS.turn{M:Nat→Prop}(h:TrS w S x v)(ht:Tn M w w')(hS:∀ b,S b→b<w.heap.size→S' b∧¬ M b):TrS w' S' x v:=⟨h.e.turn ht hS,h.l.turn ht hS,h.r.turn ht hS⟩
theorem TrS.weak(h:TrS w S x v)(hS:∀ b,S b→b<w.heap.size→S' b):TrS w S' x v:=⟨h.e.weak hS,h.l.weak hS,h.r.weak hS⟩
theorem TrS.one(h:TrS w S x v):∀ u∈stC x v,u.oneCell'=true:=by
 have h1:=h.e.one
 have h2:=h.l.one
 have h3:=h.r.one
 intro u hu
 simp [stC] at hu
 rcases hu with rfl | rfl | rfl | rfl | rfl | rfl | rfl | rfl | rfl | rfl | rfl | rfl | rfl | rfl | rfl | rfl | rfl
 all_goals first | rfl | assumption
theorem ShS.at{A:Option Addr}{n c:Nat}(h:ShS w S (.slice A n c) l){j:Nat}(hj:j<n) :
  ∃ b off x v,A=some ⟨b,off,none⟩∧l[j]?=some x∧n≤c∧w.rangeAt b (off+j*17) (stC x v)∧TrS w S x v∧S b∧b<w.heap.size:=by
 cases h with
 | emp A c=>omega
 | row b off n c l vs hl hn hnc hb hlt hc he hs hr =>
  have h1:j<l.length:=by omega
  have h2:=List.getElem?_eq_getElem h1
  exact ⟨b,off,l[j],vs j,rfl,h2,hnc,hc j _ h2,⟨he j _ h2,hs j _ h2,hr j _ h2⟩,hb,hlt⟩
end
def scs(L:List (St×Tv)):List Value:=L.flatMap fun p=>stC p.1 p.2
theorem scs_snoc(L:List (St×Tv))(p:St×Tv):scs (L++[p])=scs L++stC p.1 p.2:=by simp [scs]
theorem scs_cons(L:List (St×Tv))(p:St×Tv):scs (p::L)=stC p.1 p.2++scs L:=by simp [scs]
theorem scs_at{L:List (St×Tv)}{k:Nat}{p:St×Tv}(h:L[k]?=some p){i:Nat}{v:Value}(hv:(stC p.1 p.2)[i]?=some v):(scs L)[k*17+i]?=some v:=by
 induction L generalizing k with
 | nil=>simp at h
 | cons q L ih =>
  rw [scs_cons]
  have hi:i<17:=by have:=(List.getElem?_eq_some_iff.1 hv).1;rwa [Qem] at this
  cases k with
  | zero =>
   cases h
   rw [List.getElem?_append_left (by rw [Qem];omega),Nat.zero_mul,Nat.zero_add]
   exact hv
  | succ k =>
   have:=ih (k:=k) (by simpa using h)
   rw [List.getElem?_append_right (by rw [Qem];omega),← this]
   congr 1
   rw [Qem]
   omega
theorem ShS.of_own{w:World}{B:Nat}{S:Nat→Prop}{v:Value}{L:List (St×Tv)}{n:Nat}(h:Own w B 133 17 v n (scs L))(hn:L.length=n)(hs:∀ p∈L,TrS w S p.1 p.2)(hS:∀ b,B≤b→b<w.heap.size→v.ownBlock=some b→S b):ShS w S v (L.map (·.1)):=by
 rcases Nat.eq_zero_or_pos n with h0 | h0
 ·subst h0
  have:L=[]:=List.eq_nil_of_length_eq_zero hn
  subst this
  obtain ⟨A,c,rfl⟩:=h.form
  exact .emp A c
 ·obtain ⟨g,cap,hv,hle,hlt⟩:=h.1.form h0
  subst hv
  have hcap:=(h.cap).1
  have hc:∀ j u,(scs L)[j]?=some u→w.cell? ⟨g,0+j,none⟩=some u:=fun j u hu=>by
   have:=h.1.cells (g:=g) rfl j u hu
   rwa [Addr.add_lit] at this
  have hp:∀ (j:Nat) (x:St),(L.map (·.1))[j]?=some x→TrS w S x (((L[j]?).map Prod.snd).getD Tv.nul):=fun j x hx=>by
   rw [List.getElem?_map] at hx
   obtain ⟨p,hp,rfl⟩:=Option.map_eq_some_iff.1 hx
   simp only [hp,Option.map_some,Option.getD_some]
   exact hs p (List.mem_of_getElem? hp)
  refine .row g 0 n cap _ (fun j=>((L[j]?).map Prod.snd).getD Tv.nul) (by simp [hn]) h0 hcap (hS g hle hlt rfl) hlt (fun j x hx i u hu=>?_) (fun j x hx=>(hp j x hx).e) (fun j x hx=>(hp j x hx).l) (fun j x hx=>(hp j x hx).r)
  rw [List.getElem?_map] at hx
  obtain ⟨p,hp,rfl⟩:=Option.map_eq_some_iff.1 hx
  rw [hp] at hu
  have:=hc _ _ (scs_at hp hu)
  rw [Nat.add_assoc]
  exact this
theorem Own.turn{w w':World}{B n size:Nat}{e:TypeId}{v:Value}{xs:List Value}{M:Nat→Prop}(h:Own w B e size v n xs)(ht:Tn M w w')(hM:∀ k,v.ownBlock=some k→¬ M k):Own w' B e size v n xs:=by
 refine ⟨⟨h.1.1,?_⟩,Nat.le_trans h.2 ht.size⟩
 rcases h.1.2 with h1 | ⟨g,cap,cur,rfl,h2,h3,h4⟩
 ·exact .inl h1
 ·exact .inr ⟨g,cap,cur,rfl,h2,(ht.block g (Array.getElem?_eq_some_iff.1 h3).1 (hM g rfl)).trans h3,h4⟩
theorem Qj{F:Func}{i:Nat}(T:TypeId)(hr:F.results=#[.cell i T]){a:Act}{W:World}{G:Nat}{cs:List Value}{d:TypeDesc}{Q:Ending→World→Prop}(hp:a.tmps.getD i undef=.pointer (some ⟨G,0,none⟩))(hd:a.defers=[])(hs:Var W G cs)
  (hu:Try.prog.underlying T=some d) (hrow:d.isRow=true) (hT:(Try.prog.info? T).map (·.size)=some cs.length) (hQ:Q (.returned (.agg cs.toArray)) W):bodyPost Try.prog F Q Exit.ret a W:=by
 have hl:=ldV (P:=Try.prog) T hs.rg hu hrow hT
 have hp':a.tmps[i]?.getD undef=.pointer (some ⟨G,0,none⟩):=by simpa using hp
 exact bodyPost_ret (v:=.agg cs.toArray) (by simp [results,hr,hp',asAddr,hl]) hd hQ
end Go.Proofs.Ytjoclbeoafeebaa
