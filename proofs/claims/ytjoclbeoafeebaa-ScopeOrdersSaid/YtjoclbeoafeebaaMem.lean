import Derived.Below
import Derived.Laws.OwnMore
import Derived.Deep.AppendLies
import Derived.Deep.Draws
import Derived.WalkKit
import Derived.Test.YtjoclbeoafeebaaRows
import Derived.BigQuiet
import Derived.Deep.QuietTactic
import Derived.Lib.Hide
import Derived.Deep.Quiet
import Derived.RegionTactic
import Derived.Deep.RegionHeld3
namespace Go.Proofs.Ytjoclbeoafeebaa
set_option linter.unusedVariables false
set_option linter.unusedSimpArgs false
open Go.RowKit
def Sh(w:World)(B:Nat)(A:Option Addr)(n:Nat)(xs:List Value):Prop:=
 xs.length=n∧(0<n→∃ b off,A=some ⟨b,off,none⟩∧b<B∧∀ k u,xs[k]?=some u→w.cell? ⟨b,off+k,none⟩=some u)
section
variable {w w':World} {B B' n:Nat} {A:Option Addr} {xs:List Value}
theorem Sh.len(h:Sh w B A n xs):xs.length=n:=h.1
theorem Sh.nil(w:World)(B:Nat)(A:Option Addr):Sh w B A 0 []:=⟨rfl,fun h=>absurd h (by omega)⟩
theorem Sh.at(h:Sh w B A n xs){k:Nat}(hk:k<n):∃ b off u,A=some ⟨b,off,none⟩∧b<B∧xs[k]?=some u∧w.cell? ⟨b,off+k,none⟩=some u:=by
 obtain ⟨b,off,e,hb,hc⟩:=h.2 (by omega)
 have hl:k<xs.length:=by rw [h.1];exact hk
 exact ⟨b,off,xs[k],e,hb,List.getElem?_eq_getElem hl,hc k _ (List.getElem?_eq_getElem hl)⟩
theorem Sh.keep(h:Sh w B A n xs)(hk:∀ p:Addr,p.block<B→w'.cell? p=w.cell? p):Sh w' B A n xs:=
 ⟨h.1,fun hn=>by
  obtain ⟨b,off,e,hb,hc⟩:=h.2 hn
  exact ⟨b,off,e,hb,fun k u hu=>(hk _ hb).trans (hc k u hu)⟩⟩
theorem Sh.more(h:Sh w B A n xs)(hB:B≤B'):Sh w B' A n xs:=
 ⟨h.1,fun hn=>by
  obtain ⟨b,off,e,hb,hc⟩:=h.2 hn
  exact ⟨b,off,e,by omega,hc⟩⟩
theorem Sh.below(h:Sh w B A n xs)(hb:Below B w w'):Sh w' B A n xs:=h.keep fun _ hp=>hb.cell hp
theorem Sh.up(h:Sh w B A n xs)(hb:Below B' w w')(hB:B≤B'):Sh w' B A n xs:=h.keep fun _ hp=>hb.cell (by omega)
theorem Sh.drewN(h:Sh w B A n xs)(k:Nat):Sh (w.drewN k) B A n xs:=h
theorem Sh.drew(h:Sh w B A n xs):Sh w.drew B A n xs:=h
theorem Sh.head(h:Sh w B A n xs){k:Nat}(hk:k≤n):Sh w B A k (xs.take k):=by
 refine ⟨by simp [h.1];omega,fun hn=>?_⟩
 obtain ⟨b,off,e,hb,hc⟩:=h.2 (by omega)
 refine ⟨b,off,e,hb,fun j u hu=>hc j u ?_⟩
 rw [List.getElem?_take] at hu
 split at hu
 ·exact hu
 ·cases hu
theorem Sh.piece(h:Sh w B A n xs){lo hi:Nat}(hlo:lo≤hi)(hhi:hi≤n){A':Option Addr}
  (hA:∀ b off,A=some ⟨b,off,none⟩→lo<hi→A'=some ⟨b,off+lo,none⟩):Sh w B A' (hi-lo) ((xs.take hi).drop lo):=by
 refine ⟨by simp [h.1];omega,fun hn=>?_⟩
 obtain ⟨b,off,e,hb,hc⟩:=h.2 (by omega)
 refine ⟨b,off+lo,hA b off e (by omega),hb,fun k u hu=>?_⟩
 rw [Nat.add_assoc]
 refine hc _ u ?_
 rw [List.getElem?_drop,List.getElem?_take] at hu
 split at hu
 ·exact hu
 ·cases hu
theorem Sh.of_own{base:Nat}{e:TypeId}{c:Nat}(h:w.ownsRow base e 1 (.slice A n c) n xs):Sh w w.heap.size A n xs:=by
 refine ⟨by have:=h.1;omega,fun hn=>?_⟩
 obtain ⟨g,cap,hv,_,hlt⟩:=h.form hn
 have hA:A=some ⟨g,0,none⟩:=by injection hv
 subst hA
 refine ⟨g,0,rfl,hlt,fun k u hu=>?_⟩
 have:=h.cells (g:=g) rfl k u hu
 simp only [Addr.add] at this
 split at this
 ·rename_i h0;subst h0;simpa using this
 ·simpa using this
end
theorem Sh.lit(w:World)(xs:List Value)(e:TypeId):Sh (w.alloc (.cells xs.toArray e)) (w.heap.size+1) (some ⟨w.heap.size,0,none⟩) xs.length xs:=
 ⟨rfl,fun _=>⟨w.heap.size,0,rfl,by omega,fun k u hu=>by
  rw [Nat.zero_add,World.cell?_alloc_at _ _ _ _ rfl]
  simpa using hu⟩⟩
theorem Sh.alloc{w:World}{B n:Nat}{A:Option Addr}{xs:List Value}(h:Sh w B A n xs)(hB:B≤w.heap.size)(o:Obj):Sh (w.alloc o) B A n xs:=
 h.below ((Below.refl B w).alloc hB o)
def by8(l:List Int):List Value:=l.map (Value.int .u8)
theorem by8_get? (l:List Int) (k:Nat):(by8 l)[k]?=(l[k]?).map (Value.int .u8):=by simp [by8]
theorem Qb9(l:List Int):(by8 l).length=l.length:=by simp [by8]
theorem by8_take(a:List Int)(k:Nat):(by8 a).take k=by8 (a.take k):=by simp [by8]
theorem by8_drop(a:List Int)(k:Nat):(by8 a).drop k=by8 (a.drop k):=by simp [by8]
theorem Sh.byte{w:World}{B n:Nat}{A:Option Addr}{l:List Int}(h:Sh w B A n (by8 l)){k:Nat}(hk:k<n) :
  ∃ b off,A=some ⟨b,off,none⟩∧b<B∧w.cell? ⟨b,off+k,none⟩=some (.int .u8 (l.getD k 0)):=by
 obtain ⟨b,off,u,e,hb,hu,hc⟩:=h.at hk
 refine ⟨b,off,e,hb,hc.trans ?_⟩
 rw [by8_get?] at hu
 obtain ⟨x,hx,rfl⟩:=Option.map_eq_some_iff.1 hu
 simp [hx]
def Quiet(w w':World):Prop:=∃ q,w'=w.drewN q
theorem Quiet.refl(w:World):Quiet w w:=⟨0,rfl⟩
theorem Quiet.one(w:World)(q:Nat):Quiet w (w.drewN q):=⟨q,rfl⟩
theorem Quiet.two(w:World)(q r:Nat):Quiet w ((w.drewN q).drewN r):=⟨q+r,World.drewN_drewN w q r⟩
theorem Quiet.trans{a b c:World}(h:Quiet a b)(k:Quiet b c):Quiet a c:=by
 obtain ⟨q,rfl⟩:=h
 obtain ⟨r,rfl⟩:=k
 exact Quiet.two _ _ _
theorem Quiet.below{a b:World}(h:Quiet a b)(B:Nat):Below B a b:=by
 obtain ⟨q,rfl⟩:=h
 exact ⟨rfl,rfl,rfl,Nat.le_refl _,fun _ _=>rfl⟩
theorem Quiet.size{a b:World}(h:Quiet a b):b.heap.size=a.heap.size:=by
 obtain ⟨q,rfl⟩:=h
 rfl
def Kq(P:Program)(t e:TypeId)(size bytes:Nat):Prop:=
 P.underlying t=some (.slice e)∧∃ i z,P.info? e=some i∧i.zero=some z∧i.size=size∧i.bytes=bytes∧z.cells.size=size∧0<size
theorem Kq.mk{P:Program}{t e:TypeId}{z:Value}{size bytes:Nat}(h:P.underlying t=some (.slice e))
  (hi:(P.info? e).map (fun i=>(i.zero,i.size,i.bytes))=some (some z,size,bytes)) (hz:z.cells.size=size) (hs:0<size):Kq P t e size bytes:=by
 obtain ⟨i,h1,h2,h3,h4⟩:=info_parts hi
 exact ⟨h,i,z,h1,h2,h3,h4,hz,hs⟩
def Own(w:World)(B:Nat)(e:TypeId)(size:Nat)(v:Value)(n:Nat)(xs:List Value):Prop:=w.ownsRow B e size v n xs∧B≤w.heap.size
section
variable {w w':World} {B n size:Nat} {e:TypeId} {v:Value} {xs:List Value}
theorem Own.form(h:Own w B e size v n xs):∃ A c,v=.slice A n c:=by
 rcases h.1.2 with ⟨rfl,rfl⟩ | ⟨g,cap,cur,rfl,_⟩
 ·exact ⟨_,_,rfl⟩
 ·exact ⟨_,_,rfl⟩
theorem Own.len(h:Own w B e size v n xs):xs.length=n*size:=h.1.1
theorem Own.len1{l:List Int}(h:Own w B e 1 v n (by8 l)):l.length=n:=by have:=h.1.1;rw [Qb9] at this;omega
theorem Own.cast{n':Nat}{xs':List Value}(h:Own w B e size v n xs)(hn:n=n')(hx:xs=xs'):Own w B e size v n' xs':=by
 subst hn;subst hx;exact h
theorem Own.cap{A:Option Addr}{c:Nat}(h:Own w B e size (.slice A n c) n xs):n≤c∧c≤maxLen:=by
 rcases h.1.2 with ⟨h1,rfl⟩ | ⟨g,cap,cur,h1,_,_,h2,h3,_⟩
 ·injection h1 with _ _ h1
  subst h1
  exact ⟨Nat.le_refl _,Nat.zero_le _⟩
 ·injection h1 with _ _ h1
  subst h1
  exact ⟨h2,h3⟩
theorem Own.nil(w:World)(B:Nat)(e:TypeId)(size:Nat)(hB:B≤w.heap.size):Own w B e size (.slice none 0 0) 0 []:=⟨World.ownsRow_nil _ _ _ _,hB⟩
theorem Own.empty(w:World)(B:Nat)(e:TypeId)(size:Nat)(hB:B≤w.heap.size):Own (w.alloc (.cells #[] e)) B e size (.slice (some ⟨w.heap.size,0,none⟩) 0 0) 0 []:=
 ⟨⟨by simp,.inr ⟨w.heap.size,0,#[],rfl,hB,heap_alloc_new w _,Nat.le_refl _,Nat.zero_le _,by simp,by simp⟩⟩,by simp;omega⟩
theorem Own.alloc(h:Own w B e size v n xs)(o:Obj):Own (w.alloc o) B e size v n xs:=⟨h.1.alloc o,by have:=h.2;simp;omega⟩
theorem Own.drew(h:Own w B e size v n xs):Own w.drew B e size v n xs:=h
theorem Own.drewN(h:Own w B e size v n xs)(k:Nat):Own (w.drewN k) B e size v n xs:=h
theorem Own.below(h:Own w B e size v n xs)(hb:Below w.heap.size w w'):Own w' B e size v n xs:=
 ⟨h.1.kept (row:=none) ⟨hb.os,hb.tape,hb.output,hb.size,fun k hk _=>hb.block k hk⟩ (by cases hv:v.ownBlock <;> simp),Nat.le_trans h.2 hb.size⟩
theorem Own.sh{A:Option Addr}{c:Nat}(h:Own w B e 1 (.slice A n c) n xs):Sh w w.heap.size A n xs:=Sh.of_own h.1
theorem Own.quiet(h:Own w B e size v n xs)(hq:Quiet w w'):Own w' B e size v n xs:=by
 obtain ⟨q,rfl⟩:=hq
 exact h
theorem Own.lower{B':Nat}(h:Own w B e size v n xs)(hB:B'≤B):Own w B' e size v n xs:=by
 refine ⟨⟨h.1.1,?_⟩,Nat.le_trans hB h.2⟩
 rcases h.1.2 with h1 | ⟨g,cap,cur,h1,h2,h3⟩
 ·exact .inl h1
 ·exact .inr ⟨g,cap,cur,h1,Nat.le_trans hB h2,h3⟩
end
section
variable {P:Program} {ops:Array Oper} {rest:List Oper} {o:Oper} {a:Act} {Q:Exit→Act→World→Prop}
theorem wp_push{K:Act→World→Prop}(s x:Operand)(t:TypeId)(ho:o.op=.call { callee:=.builtin .append,args:=#[s,x],argTypes:=#[t,t] })
  {e:TypeId} {size bytes:Nat} (hT:Kq P t e size bytes) (W0 w:World) (B:Nat) (v:Value) (n:Nat) (xs us:List Value) (hs:a.eval s=v) (hown:Own w B e size v n xs)
  (hx:a.eval x=.slice (some ⟨w.heap.size,0,none⟩) 1 1) (hl:us.length=size) (h1:∀ u∈us,u.oneCell'=true) (hb:Below B W0 w)
  (hlen:n≤1099511627776) (hby:bytes≤64)
  (h:∀ v' w',Own w' B e size v' (n+1) (xs++us)→Below B W0 w'→K (a.put o.dst v') w') :
  o.wp P a (w.alloc (.cells us.toArray e)) K Q:=by
 obtain ⟨ht,i,z,hi,hz,hsize,hbytes,hzs,hpos⟩:=hT
 have hbb:(n+1)*bytes≤140737488355328:=Nat.le_trans (Nat.mul_le_mul (show n+1≤1099511627777 by omega) hby) (by decide)
 refine wp_append_own _ s x t ho B e i z size bytes ht hi hz hsize hbytes hzs hpos v n xs hs (hown.1.alloc _) ⟨w.heap.size,0,none⟩ 1 1 us hx (by simpa using hl) ?_ h1
  (by unfold maxLen;omega) hbb (by have:=hown.2;simp;omega) ?_
 ·intro j u hu
  rw [Addr.add_lit,Nat.zero_add,World.cell?_alloc_at _ _ _ _ rfl]
  simpa using hu
 ·intro v' w' ho' hg' _
  have hge:B≤(w.alloc (.cells us.toArray e)).heap.size:=by have:=hown.2;simp;omega
  exact h v' w' ⟨ho',Nat.le_trans hge hg'.size⟩ ((hb.alloc hown.2 _).grown hg' hge (fun q hq=>(hown.1.lt q hq).1))
theorem Jw(hw:Region.wanted o (yielded ops a.tmps)=true){w:World}
  (h:∀ K:Act→World→Prop,(∀ a w,wpList P ops Q rest a w→K a w)→o.wp P a w K Q):wpList P ops Q (o::rest) a w:=
 wpList_step fun K hK=>by rw [if_pos hw];exact h K hK
theorem Zd(hgd:Region.wanted o (yielded ops a.tmps)=true)(s x:Operand)(t:TypeId)(ho:o.op=.call { callee:=.builtin .append,args:=#[s,x],argTypes:=#[t,t] })
  {e:TypeId} {size bytes:Nat} (hT:Kq P t e size bytes) (W0 w:World) (B:Nat) (v:Value) (n:Nat) (xs us:List Value) (hs:a.eval s=v) (hown:Own w B e size v n xs)
  (hx:a.eval x=.slice (some ⟨w.heap.size,0,none⟩) 1 1) (hl:us.length=size) (h1:∀ u∈us,u.oneCell'=true) (hb:Below B W0 w)
  (hlen:n≤1099511627776) (hby:bytes≤64)
  (h:∀ v' w',Own w' B e size v' (n+1) (xs++us)→Below B W0 w'→wpList P ops Q rest (a.put o.dst v') w') :
  wpList P ops Q (o::rest) a (w.alloc (.cells us.toArray e)):=
 Jw hgd fun _ hK=>wp_push s x t ho hT W0 w B v n xs us hs hown hx hl h1 hb hlen hby fun v' w' h2 h3=>hK _ _ (h v' w' h2 h3)
end
def IsRow(k:IntKind)(w:World)(a:Option Addr)(len cap:Nat)(zs:List Int):Prop:=
 (a=none∧len=0∧cap=0∧zs=[]) ∨
 ∃ x,a=some x∧len≤cap∧cap≤maxLen∧zs.length=cap∧(∀ i,i<zs.length→w.cell? (x.add i)=some (.int k (zs.getD i 0)))∧∀ n∈zs,(Lit.int k n).wf=true
theorem IsRow.sh{k:IntKind}{w:World}{a:Option Addr}{len cap:Nat}{zs:List Int}(h:IsRow k w a len cap zs) :
  len≤cap∧cap≤maxLen∧zs.length=cap∧Sh w w.heap.size a len ((zs.take len).map (Value.int k))∧∀ n∈zs.take len,(Lit.int k n).wf=true:=by
 rcases h with ⟨rfl,rfl,rfl,rfl⟩ | ⟨x,rfl,hl,hm,hz,hcell,hwz⟩
 ·exact ⟨Nat.le_refl _,Nat.zero_le _,rfl,Sh.nil _ _ _,fun n hn=>by simp at hn⟩
 ·refine ⟨hl,hm,hz,⟨by simp;omega,fun hn=>?_⟩,fun n hn=>hwz n (List.mem_of_mem_take hn)⟩
  obtain ⟨b,off,spot⟩:=x
  have hc0:=hcell 0 (by omega)
  have hspot:spot=none:=by simpa [Addr.add] using World.cell?_spot hc0
  subst hspot
  refine ⟨b,off,rfl,?_,fun j u hu=>?_⟩
  ·have:=World.block_lt_of_cell? _ _ hc0
   simpa [Addr.add] using this
  ·have hj:j<len∧j<zs.length:=by
    have:=(List.getElem?_eq_some_iff.1 hu).1
    simp at this
    omega
   have hc:=hcell j hj.2
   rw [Addr.add_lit] at hc
   rw [hc]
   simp only [List.getElem?_map,List.getElem?_take,if_pos hj.1,List.getElem?_eq_getElem hj.2,Option.map_some] at hu
   rw [← hu]
   simp [hj.2]
theorem Je{a b:Bool}(h:a=b):Ending.returned (.bool a)=.returned (.bool b):=by rw [h]
section
variable {P:Program} {ops:Array Oper} {rest:List Oper} {o:Oper} {a:Act} {Q:Exit→Act→World→Prop}
theorem Qld{K:Act→World→Prop}(s x:Operand)(t:TypeId)(ho:o.op=.call { callee:=.builtin .append,args:=#[s,x],argTypes:=#[t,t] })
  {e:TypeId} {size bytes:Nat} (hT:Kq P t e size bytes) (w:World) (B:Nat) (v:Value) (n:Nat) (xs us:List Value) (hs:a.eval s=v) (hown:Own w B e size v n xs)
  {G:Nat} (hx:a.eval x=.slice (some ⟨G,0,none⟩) 1 1) (hG:G=w.heap.size) (hl:us.length=size) (h1:∀ u∈us,u.oneCell'=true)
  (hlen:n≤1099511627776) (hby:bytes≤64)
  (h:∀ v' w',Own w' B e size v' (n+1) (xs++us)→(w.alloc (.cells us.toArray e)).grownBy w' v.ownBlock→K (a.put o.dst v') w') :
  o.wp P a (w.alloc (.cells us.toArray e)) K Q:=by
 subst hG
 obtain ⟨ht,i,z,hi,hz,hsize,hbytes,hzs,hpos⟩:=hT
 have hbb:(n+1)*bytes≤140737488355328:=Nat.le_trans (Nat.mul_le_mul (show n+1≤1099511627777 by omega) hby) (by decide)
 refine wp_append_own _ s x t ho B e i z size bytes ht hi hz hsize hbytes hzs hpos v n xs hs (hown.1.alloc _) ⟨w.heap.size,0,none⟩ 1 1 us hx (by simpa using hl) ?_ h1
  (by unfold maxLen;omega) hbb (by have:=hown.2;simp;omega) ?_
 ·intro j u hu
  rw [Addr.add_lit,Nat.zero_add,World.cell?_alloc_at _ _ _ _ rfl]
  simpa using hu
 ·intro v' w' ho' hg' _
  have hge:B≤(w.alloc (.cells us.toArray e)).heap.size:=by have:=hown.2;simp;omega
  exact h v' w' ⟨ho',Nat.le_trans hge hg'.size⟩ hg'
theorem Q4(hgd:Region.wanted o (yielded ops a.tmps)=true)(s x:Operand)(t:TypeId)(ho:o.op=.call { callee:=.builtin .append,args:=#[s,x],argTypes:=#[t,t] })
  {e:TypeId} {size bytes:Nat} (hT:Kq P t e size bytes) (w:World) (B:Nat) (v:Value) (n:Nat) (xs us:List Value) (hs:a.eval s=v) (hown:Own w B e size v n xs)
  {G:Nat} (hx:a.eval x=.slice (some ⟨G,0,none⟩) 1 1) (hG:G=w.heap.size) (hl:us.length=size) (h1:∀ u∈us,u.oneCell'=true)
  (hlen:n≤1099511627776) (hby:bytes≤64)
  (h:∀ v' w',Own w' B e size v' (n+1) (xs++us)→(w.alloc (.cells us.toArray e)).grownBy w' v.ownBlock→wpList P ops Q rest (a.put o.dst v') w') :
  wpList P ops Q (o::rest) a (w.alloc (.cells us.toArray e)):=
 Jw hgd fun _ hK=>Qld s x t ho hT w B v n xs us hs hown hx hG hl h1 hlen hby fun v' w' h2 h3=>hK _ _ (h v' w' h2 h3)
end
section
variable {a b c:World}
theorem Own.other{B B' n n' size size':Nat}{e e':TypeId}{v v':Value}{xs xs':List Value}(h:Own a B e size v n xs)(h':Own a B' e' size' v' n' xs')(hne:e≠e')(hg:a.grownBy b v'.ownBlock):Own b B e size v n xs:=by
 refine ⟨h.1.kept hg ?_,Nat.le_trans h.2 hg.size⟩
 rcases h.1.2 with ⟨rfl,_⟩ | ⟨q,cap,cur,rfl,_,hq,_⟩
 ·exact .inl rfl
 ·refine .inr fun he=>?_
  rcases h'.1.2 with ⟨rfl,_⟩ | ⟨q',cap',cur',rfl,_,hq',_⟩
  ·cases he
  ·simp only [Value.ownBlock,Option.some.injEq] at he
   subst he
   rw [hq] at hq'
   injection hq' with hq'
   injection hq' with _ e1
   exact hne e1
theorem Own.block_ge{B n size:Nat}{e:TypeId}{v:Value}{xs:List Value}(h:Own a B e size v n xs):∀ k,v.ownBlock=some k→B≤k:=fun k hk=>(h.1.lt k hk).1
end
def tame(o:Oper):Bool:=match o.op with
 | .move _ | .assign _ | .pick .. | .binOp .. | .unOp .. | .convert .. | .slice .. | .fieldAddr .. | .field .. | .indexAddr .. | .index .. | .extract ..=>true
 | .call c=>(match c.callee with | .builtin .len=>true | _=>false)
 | _=>false
section
variable {P:Program} {ops:Array Oper} {md:Region.Mode}
theorem upon_value{s:Sem Value}{C:World→Prop}{w:World}{v:Value}
  (h:Oper.quietUpon P C w v ((do pure (Next.value (← s)):Sem Next).run P w)):(do pure (Next.value (← s)):Sem Next).run P w=.ok (.value v) w:=by
 simp only [Sem.run_bind,Sem.run_pure] at h ⊢
 cases hs:s.run P w with
 | ok x w' =>
  rw [hs] at h
  simp only [Result.andThen,Oper.quietUpon] at h ⊢
  obtain ⟨rfl,rfl⟩:=h
  rfl
 | halt x w' =>
  rw [hs] at h
  simp [Result.andThen,Oper.quietUpon] at h
theorem Qdh{o:Oper}{a:Act}{C:World→Prop}{w:World}{v:Value}(ht:tame o=true)(h:o.quietAt P a C w v):(execOp a.eval o).run P w=.ok (.value v) w:=by
 unfold Oper.quietAt at h
 unfold tame at ht
 split at ht
 case h_1 x ho=>simp only [execOp,ho] at h ⊢;simp only [Sem.run_pure,Oper.quietUpon] at h ⊢;rw [h.2]
 case h_2 x ho=>simp only [execOp,ho] at h ⊢;simp only [Sem.run_pure,Oper.quietUpon] at h ⊢;rw [h.2]
 case h_3 c x y ho =>
  simp only [execOp,ho] at h ⊢
  simp only [Sem.run_bind,Sem.run_pure] at h ⊢
  cases hs:(asBool (a.eval c)).run P w with
  | ok b w' =>
   rw [hs] at h
   simp only [Result.andThen,Oper.quietUpon] at h ⊢
   obtain ⟨rfl,rfl⟩:=h
   rfl
  | halt x w' =>
   rw [hs] at h
   simp [Result.andThen,Oper.quietUpon] at h
 case h_4 ho=>simp only [execOp,ho] at h ⊢;exact upon_value h
 case h_5 ho=>simp only [execOp,ho] at h ⊢;exact upon_value h
 case h_6 ho=>simp only [execOp,ho] at h ⊢;exact upon_value h
 case h_7 ho=>simp only [execOp,ho] at h ⊢;exact upon_value h
 case h_8 ho=>simp only [execOp,ho] at h ⊢;exact upon_value h
 case h_9 ho=>simp only [execOp,ho] at h ⊢;exact upon_value h
 case h_10 ho=>simp only [execOp,ho] at h ⊢;exact upon_value h
 case h_11 ho=>simp only [execOp,ho] at h ⊢;exact upon_value h
 case h_12 ho=>simp only [execOp,ho] at h ⊢;exact upon_value h
 case h_13 c ho =>
  split at ht
  ·rename_i hc
   simp only [execOp,ho,resolve,hc,Sem.run_bind,Sem.run_pure,Result.andThen_ok,invoke,builtin] at h ⊢
   have h':=upon_value (s:=Builtin.len_ c.argTypes o.type (c.args.map a.eval)) (by simpa only [Sem.run_bind,Sem.run_pure] using h)
   simpa only [Sem.run_bind,Sem.run_pure] using h'
  ·cases ht
 case h_14=>cases ht
def segB(md:Region.Mode)(ops:Array Oper):Nat→Nat→Array Bool→Bool
 | 0,_,_=>true
 | m+1,k,listed=>(Region.ready md ops listed).contains k&&Region.free md ops listed k&&(match ops[k]? with | some o=>tame o | none=>false)&&segB md ops m (k+1) (listed.setIfInBounds k true)
def Qc7:Nat→Nat→Array Bool→Array Bool
 | 0,_,listed=>listed
 | m+1,k,listed=>Qc7 m (k+1) (listed.setIfInBounds k true)
variable {Q:Exit→Act→World→Prop}
theorem Qfm(hs:Region.noSelect ops=true)(hQ:∀ c (a:Act) d v w,Q (.panic c) (a.put d v) w→Q (.panic c) a w)(w:World)(fuel:Nat):∀ (l:List Oper) (k:Nat) (listed:Array Bool) (a:Act),
  (∀ j,j<l.length→l[j]?=ops[k+j]?)→segB md ops l.length k listed=true →
  wpQuiet P ops (fun _=>True) (fun a'=>wpAny P md ops Q fuel (Qc7 l.length k listed) a' w) l a→wpAny P md ops Q (fuel+l.length) listed a w
 | [],_,_,_,_,_,h=>h
 | o::l,k,listed,a,hl,hB,h=>by
  have h0:ops[k]?=some o:=by simpa using (hl 0 (by simp)).symm
  simp only [List.length_cons,segB,Bool.and_eq_true,h0] at hB
  obtain ⟨⟨⟨hr,hf⟩,ht⟩,hB'⟩:=hB
  have hl':∀ j,j<l.length→l[j]?=ops[k+1+j]?:=fun j hj=>by
   have:=hl (j+1) (by simp;omega)
   simpa [Nat.add_assoc,Nat.add_comm 1 j] using this
  have next:∀ v,Yields P ops o v a→wpQuiet P ops (fun _=>True) (fun a'=>wpAny P md ops Q fuel (Qc7 (l.length+1) k listed) a' w) l (a.put o.dst v)→wpAny P md ops Q (fuel+(l.length+1)) listed a w:=fun v hy hK =>
   wpAny_take h0 hs hf hr (fun c a' w' hp=>hQ c _ _ _ w' hp) hy (Qfm hs hQ w fuel l (k+1) _ _ hl' hB' hK)
  unfold wpQuiet at h
  by_cases hw:Region.wanted o (yielded ops a.tmps)=true
  ·rw [if_pos hw] at h
   obtain ⟨v,hv,hK⟩:=h
   exact next v (.inl ⟨hw,fun w'=>Qdh ht (hv w' trivial)⟩) hK
  ·rw [if_neg hw] at h
   exact next undef (.inr ⟨by simpa using hw,rfl⟩) h
theorem Qj0{L:List Oper}(k m fuel:Nat){listed:Array Bool}{a:Act}{w:World}(hB:(Region.noSelect L.toArray&&segB md L.toArray m k listed&&decide (k+m≤L.length))=true)
  (hQ:∀ c (a:Act) d v w,Q (.panic c) (a.put d v) w→Q (.panic c) a w)
  (h:wpQuiet P L.toArray (fun _=>True) (fun a'=>wpAny P md L.toArray Q fuel (Qc7 m k listed) a' w) ((L.drop k).take m) a):wpAny P md L.toArray Q (fuel+m) listed a w:=by
 simp only [Bool.and_eq_true,decide_eq_true_eq] at hB
 obtain ⟨⟨hs,hB⟩,hle⟩:=hB
 have hlen:((L.drop k).take m).length=m:=by simp;omega
 have hseg:=Qfm (P:=P) (md:=md) hs hQ w fuel ((L.drop k).take m) k listed a (fun j hj=>by
  rw [hlen] at hj
  simp [List.getElem?_take,hj,List.getElem?_drop]) (by rw [hlen];exact hB) (by rw [hlen];exact h)
 rwa [hlen] at hseg
theorem Jc{L:List Oper}{id:Nat}{a:Act}{w:World}(hm:P.follows .mixedOrders=true)(n:Nat)(hn:L.length=n)
  (h:wpAny P .any L.toArray Q n (Array.replicate n false) a w.drew):(Code.region id L.toArray true).wp P Q a w:=
 wp_region_any hm (by simpa [hn] using h)
end
end Go.Proofs.Ytjoclbeoafeebaa
namespace Go.Proofs.Ytjoclbeoafeebaa
set_option linter.unusedVariables false
set_option linter.unusedSimpArgs false
section
variable {P:Program} {ops:Array Oper} {Q:Exit→Act→World→Prop} {md:Region.Mode} {S:World→Prop} {z:Nat}
def Clo(md:Region.Mode)(ops:Array Oper)(listed:Array Bool):Prop:=∀ (j:Nat) (o:Oper),ops[j]?=some o→listed.getD j true=true→∀ e∈o.after,Region.binds md e=true→listed.getD e.on false=true
def cloB(md:Region.Mode)(ops:Array Oper)(listed:Array Bool):Bool:=(List.range ops.size).all fun j=>match ops[j]? with
 | some o=>!listed.getD j true || o.after.all fun e=>!Region.binds md e || listed.getD e.on false
 | none=>true
theorem Clo.of{listed:Array Bool}(h:cloB md ops listed=true):Clo md ops listed:=fun j o ho hj e he hb=>by
 have h1:=List.all_eq_true.1 h j (List.mem_range.2 (Array.getElem?_eq_some_iff.1 ho).1)
 simp only [ho,hj,Bool.not_true,Bool.false_or,Array.all_eq_true_iff_forall_mem,Bool.or_eq_true] at h1
 exact (h1 e he).resolve_left (by simp [hb])
theorem Clo.step{listed:Array Bool}{j:Nat}(h:Clo md ops listed)(hj:j∈Region.ready md ops listed):Clo md ops (listed.setIfInBounds j true):=fun k o ho hk e he hb=>by
 by_cases hkj:k=j
 ·subst hkj
  obtain ⟨_,o',ho',hall⟩:=mem_ready.1 hj
  obtain rfl:o=o':=Option.some.inj (ho.symm.trans ho')
  exact getD_set_true (hall e he hb)
 ·rw [getD_set_ne true (Ne.symm hkj)] at hk
  exact getD_set_true (h k o ho hk e he hb)
def Qfn(md:Region.Mode)(ops:Array Oper):Nat→List Nat→Bool
 | _,[]=>true
 | j,k::r=>(match ops[j]? with | some o=>o.after.any (fun e=>Region.binds md e&&e.on==k) | none=>false)&&Qfn md ops k r
theorem Qle{listed:Array Bool}{j:Nat}(h:listed.getD j false=true):listed.getD j true=true:=by
 rcases Nat.lt_or_ge j listed.size with h' | h'
 ·simpa [h'] using h
 ·simp [Array.getElem?_eq_none h']
theorem Qfo{listed:Array Bool}(hC:Clo md ops listed):∀ (l:List Nat) (j:Nat),(∀ o,ops[j]?=some o→∀ e∈o.after,Region.binds md e=true→listed.getD e.on false=true)→Qfn md ops j l=true→∀ k∈l,listed.getD k false=true:=by
 intro l
 induction l with
 | nil=>intro j _ _ k hk;cases hk
 | cons x r ih =>
  intro j hj hc k hk
  simp only [Qfn,Bool.and_eq_true] at hc
  obtain ⟨h1,h2⟩:=hc
  have hx:listed.getD x false=true:=by
   split at h1
   ·rename_i o ho
    obtain ⟨e,he,hb⟩:=Array.any_eq_true'.1 h1
    simp only [Bool.and_eq_true,beq_iff_eq] at hb
    rw [← hb.2]
    exact hj o ho e he hb.1
   ·cases h1
  rcases List.mem_cons.1 hk with rfl | hk
  ·exact hx
  ·exact ih x (fun o ho e he hb=>hC x o ho (Qle hx) e he hb) h2 k hk
def Yk(P:Program)(md:Region.Mode)(ops:Array Oper)(Q:Exit→Act→World→Prop)(S:World→Prop)(z:Nat):Nat→Array Bool→Act→World→Prop
 | 0,listed,a,w=>Region.ready md ops listed=[]∧Q .normal a w
 | fuel+1,listed,a,w =>
  (Region.ready md ops listed=[]→Q .normal a w) ∧
  ∀ i∈Region.ready md ops listed,wpOp P ops Q i (fun a' w'=>(i≠z→S w')∧Yk P md ops Q S z fuel (listed.setIfInBounds i true) a' w') a w
theorem Qdi:∀ (fuel:Nat) (listed:Array Bool) (a:Act) (w:World),Yk P md ops Q S z fuel listed a w→wpAny P md ops Q fuel listed a w
 | 0,_,_,_,h=>h
 | fuel+1,_,_,_,h=>⟨h.1,fun i hi=>wpOp_mono (fun a' w' h'=>Qdi fuel _ a' w' h'.2) (h.2 i hi)⟩
theorem Qfp{i:Nat}{oi:Oper}{v:Value}{path:List Nat}(hi:ops[i]?=some oi)(hsel:∀ (j:Nat) (o:Oper) cs b,ops[j]?=some o→o.op≠.select cs b)(hz:i≠z)
  (hp:Qfn md ops z path=true) (hip:i∈path) (hQ:∀ c a w,Q (.panic c) (a.put oi.dst v) w→Q (.panic c) a w) :
  ∀ (fuel:Nat) (listed:Array Bool) (a:Act) (w:World),
   (∀ j oj,ops[j]?=some oj→j≠i→listed.getD j true=false→(∀ e∈oj.after,Region.binds md e=true→e.on≠i)→oi.apart ops oj=true) →
   i∈Region.ready md ops listed→Clo md ops listed→YieldsIf P ops S oi v a→S w →
   Yk P md ops Q S z fuel (listed.setIfInBounds i true) (a.put oi.dst v) w→Yk P md ops Q S z (fuel+1) listed a w:=by
 intro fuel
 induction fuel with
 | zero =>
  intro listed a w _ hr _ hy hS H
  refine ⟨fun h=>(by rw [h] at hr;cases hr),fun j hj=>?_⟩
  by_cases hji:j=i
  ·subst hji;exact hy.wpOp hi hS ⟨fun _=>hS,H⟩
  ·have:=ready_mono hj hji
   rw [H.1] at this
   cases this
 | succ fuel ih =>
  intro listed a w hfree hr hcl hy hS H
  refine ⟨fun h=>(by rw [h] at hr;cases hr),fun j hj=>?_⟩
  by_cases hji:j=i
  ·subst hji;exact hy.wpOp hi hS ⟨fun _=>hS,H⟩
  ·have h1:=H.2 j (ready_mono hj hji)
   obtain ⟨hjun,oj,hoj,hall⟩:=mem_ready.1 hj
   have h0i:=(mem_ready.1 hr).1
   have clash:listed.getD i false=true→False:=fun h1=>by
    have h2:=Qle h1
    rw [h0i] at h2
    cases h2
   have hjz:j≠z:=fun e=>by
    subst e
    exact clash (Qfo hcl path j (fun o ho e he hb=>by
     obtain rfl:o=oj:=Option.some.inj (ho.symm.trans hoj)
     exact hall e he hb) hp i hip)
   have hnot:∀ e∈oj.after,Region.binds md e=true→e.on≠i:=fun e he hb heq=>clash (by rw [← heq];exact hall e he hb)
   have h2:=wpOp_putIf hoj (hfree j oj hoj hji hjun hnot) (fun cs b=>hsel i oi cs b hi) (fun cs b=>hsel j oj cs b hoj) hQ hy h1
   have hfree':∀ k ok,ops[k]?=some ok→k≠i→(listed.setIfInBounds j true).getD k true=false →
     (∀ e∈ok.after,Region.binds md e=true→e.on≠i)→oi.apart ops ok=true:=fun k ok hk hki hun hno=>by
    refine hfree k ok hk hki ?_ hno
    by_cases hjk:j=k
    ·subst hjk;exact hjun
    ·rw [getD_set_ne true hjk] at hun;exact hun
   refine wpOp_mono (fun a' w' h3=>⟨fun hn=>h3.2.1 hn,ih (listed.setIfInBounds j true) a' w' hfree' (ready_mono hr (Ne.symm hji)) (hcl.step hj) h3.1 (h3.2.1 hjz) ?_⟩) h2
   rw [Array.setIfInBounds_comm _ _ hji]
   exact h3.2.2
end
section
variable {P:Program} {L:List Oper} {Q:Exit→Act→World→Prop} {md:Region.Mode} {S:World→Prop} {z:Nat}
theorem Qf{i:Nat}{oi:Oper}{v:Value}{fuel:Nat}{listed:Array Bool}{a:Act}{w:World}(path:List Nat)(hi:L[i]?=some oi)
  (hB:(Region.noSelect L.toArray&&Region.free md L.toArray listed i&&(Region.ready md L.toArray listed).contains i&&cloB md L.toArray listed&&Qfn md L.toArray z path&&path.contains i&&(i != z))=true)
  (hQ:∀ c a w,Q (.panic c) (a.put oi.dst v) w→Q (.panic c) a w) (hy:YieldsIf P L.toArray S oi v a) (hS:S w)
  (h:Yk P md L.toArray Q S z fuel (listed.setIfInBounds i true) (a.put oi.dst v) w):Yk P md L.toArray Q S z (fuel+1) listed a w:=by
 simp only [Bool.and_eq_true] at hB
 obtain ⟨⟨⟨⟨⟨⟨h1,h2⟩,h3⟩,h4⟩,h5⟩,h6⟩,h7⟩:=hB
 have hi':L.toArray[i]?=some oi:=by simpa using hi
 exact Qfp hi' (Region.noSelect_spec h1) (by simpa using h7) h5 (by simpa using h6) hQ fuel listed a w (Region.free_spec hi' h2) (by simpa using h3) (Clo.of h4) hy hS h
theorem Uw{i:Nat}{o:Oper}{fuel:Nat}{listed:Array Bool}{a:Act}{w:World}(ho:L[i]?=some o)
  (h:∀ K':Act→World→Prop,Shut (∀ a w,(i≠z→S w)→((i≠z→S w)→Yk P md L.toArray Q S z fuel (listed.setIfInBounds i true) a w)→K' a w)→if Region.wanted o (yielded L.toArray a.tmps)=true then Oper.wp P o a w K' Q else K' (a.put o.dst undef) w) :
  wpOp P L.toArray Q i (fun a' w'=>(i≠z→S w')∧Yk P md L.toArray Q S z fuel (listed.setIfInBounds i true) a' w') a w:=
 wpOp_step (by simpa using ho) (fun K' hK=>h K' (fun a w hS hW=>hK a w ⟨hS,hW hS⟩))
theorem Qt{i:Nat}{o:Oper}{fuel:Nat}{listed:Array Bool}{a:Act}{w:World}(hr:Region.ready md L.toArray listed=[i])(ho:L[i]?=some o)
  (h:∀ K':Act→World→Prop,Shut (∀ a w,(i≠z→S w)→((i≠z→S w)→Yk P md L.toArray Q S z fuel (listed.setIfInBounds i true) a w)→K' a w)→if Region.wanted o (yielded L.toArray a.tmps)=true then Oper.wp P o a w K' Q else K' (a.put o.dst undef) w) :
  Yk P md L.toArray Q S z (fuel+1) listed a w:=
 ⟨fun h0=>(by rw [hr] at h0;cases h0),fun j hj=>by rw [hr] at hj;rw [List.mem_singleton.1 hj];exact Uw ho h⟩
theorem Qdj{i j:Nat}{o o':Oper}{fuel:Nat}{listed:Array Bool}{a:Act}{w:World}(hr:Region.ready md L.toArray listed=[i,j])(ho:L[i]?=some o)(ho':L[j]?=some o')
  (h:∀ K':Act→World→Prop,Shut (∀ a w,(i≠z→S w)→((i≠z→S w)→Yk P md L.toArray Q S z fuel (listed.setIfInBounds i true) a w)→K' a w)→if Region.wanted o (yielded L.toArray a.tmps)=true then Oper.wp P o a w K' Q else K' (a.put o.dst undef) w)
  (h':∀ K':Act→World→Prop,Shut (∀ a w,(j≠z→S w)→((j≠z→S w)→Yk P md L.toArray Q S z fuel (listed.setIfInBounds j true) a w)→K' a w)→if Region.wanted o' (yielded L.toArray a.tmps)=true then Oper.wp P o' a w K' Q else K' (a.put o'.dst undef) w) :
  Yk P md L.toArray Q S z (fuel+1) listed a w:=
 ⟨fun h0=>(by rw [hr] at h0;cases h0),fun k hk=>by
  rw [hr] at hk
  rcases List.mem_cons.1 hk with rfl | hk
  ·exact Uw ho h
  ·rw [List.mem_singleton.1 hk];exact Uw ho' h'⟩
theorem Ze{listed:Array Bool}{a:Act}{w:World}{fuel:Nat}(hr:Region.ready md L.toArray listed=[])(h:Q .normal a w):Yk P md L.toArray Q S z fuel listed a w:=by
 cases fuel with
 | zero=>exact ⟨hr,h⟩
 | succ n=>exact ⟨fun _=>h,by rw [hr];simp⟩
theorem Zh(S:World→Prop)(z:Nat){id:Nat}{a:Act}{w:World}(hm:P.follows .mixedOrders=true)(n:Nat)(hn:L.length=n)
  (h:Yk P .any L.toArray Q S z n (Array.replicate n false) a w.drew):(Code.region id L.toArray true).wp P Q a w:=
 wp_region_any hm (by simpa [hn] using Qdi _ _ _ _ h)
end
end Go.Proofs.Ytjoclbeoafeebaa
