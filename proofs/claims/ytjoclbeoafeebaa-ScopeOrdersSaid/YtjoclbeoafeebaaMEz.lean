import Derived.Test.YtjoclbeoafeebaaSq
import Derived.Test.YtjoclbeoafeebaaMem
import Derived.Lib.ParseIntB
import Derived.Test.YtjoclbeoafeebaaLxR
import Derived.Laws.BytesArg
import Derived.Lib.ConvBytes
import Derived.Laws.Concat
import Derived.OpenShut
set_option maxHeartbeats 3200000
set_option maxRecDepth 10000
namespace Go.Proofs.Ytjoclbeoafeebaa
set_option linter.unusedVariables false
set_option linter.unusedSimpArgs false
inductive Ex where
 | mk (k a m:Int) (nm lb:ByteArray) (l:List Ex)
def Ex.k:Ex→Int
 | .mk k _ _ _ _ _=>k
def Ex.a:Ex→Int
 | .mk _ a _ _ _ _=>a
def Ex.m:Ex→Int
 | .mk _ _ m _ _ _=>m
def Ex.nm:Ex→ByteArray
 | .mk _ _ _ nm _ _=>nm
def Ex.lb:Ex→ByteArray
 | .mk _ _ _ _ lb _=>lb
def Ex.l:Ex→List Ex
 | .mk _ _ _ _ _ l=>l
def Ex.nul:Ex:=.mk 0 0 0 ⟨#[]⟩ ⟨#[]⟩ []
theorem Ex.lt_of{x:Ex}{k a m:Int}{nm lb:ByteArray}{l:List Ex}(h:x∈l):SizeOf.sizeOf x<SizeOf.sizeOf (Ex.mk k a m nm lb l):=by
 have:=List.sizeOf_lt_of_mem h
 simp
 omega
theorem Ex.ind{P:Ex→Prop}(h:∀ k a m nm lb l,(∀ x∈l,P x)→P (.mk k a m nm lb l)):∀ e,P e
 | .mk k a m nm lb l=>h k a m nm lb l fun x hx=>Ex.ind h x
termination_by e=>SizeOf.sizeOf e
decreasing_by exact Ex.lt_of hx
def Ex.ht:Ex→Nat
 | .mk k a m nm lb l=>(l.attach.map fun x=>x.1.ht).foldr max 0+1
termination_by e=>SizeOf.sizeOf e
decreasing_by exact Ex.lt_of x.2
def hts(l:List Ex):Nat:=(l.map Ex.ht).foldr max 0
theorem Ex.ht_eq(e:Ex):e.ht=hts e.l+1:=by
 cases e
 rw [Ex.ht]
 unfold hts Ex.l
 rw [List.attach_map_val (f:=Ex.ht)]
theorem Qlw:hts []=0:=rfl
theorem Y8(x:Ex)(l:List Ex):hts (x::l)=max x.ht (hts l):=rfl
theorem hts_app(l k:List Ex):hts (l++k)=max (hts l) (hts k):=by
 induction l with
 | nil=>simp [Qlw]
 | cons x l ih=>rw [List.cons_append,Y8,Y8,ih];omega
theorem hts_mem{x:Ex}{l:List Ex}(h:x∈l):x.ht≤hts l:=by
 induction l with
 | nil=>cases h
 | cons y l ih =>
  rw [Y8]
  rcases List.mem_cons.1 h with rfl | h
  ·omega
  ·have:=ih h;omega
def Ex.leaf(e:Ex):Prop:=(e.k=0∨e.k=1∨e.k=2)→e.l=[]
def Ex.wfx:Ex→Prop
 | .mk k a m nm lb l=>((k=0∨k=1∨k=2)→l=[])∧l.length≤1000000∧∀ x (h:x∈l),x.wfx
termination_by e=>SizeOf.sizeOf e
decreasing_by exact Ex.lt_of h
theorem Ex.wfx_eq(e:Ex):e.wfx↔e.leaf∧e.l.length≤1000000∧∀ x∈e.l,x.wfx:=by
 cases e
 rw [Ex.wfx]
 rfl
def Ex.sh(c:Int):Ex→Ex
 | .mk k a m nm lb l=>.mk k (a+c) m nm lb (l.attach.map fun x=>x.1.sh c)
termination_by e=>SizeOf.sizeOf e
decreasing_by exact Ex.lt_of x.2
structure Rw where
 n:Nat
 wd:Nat→ByteArray
 kd:Nat→Int
 ps:Nat→Int
 idn:Nat→Bool
def Rw.is(R:Rw)(i:Nat)(l:List UInt8):Bool:=(R.wd i).toList==l
def Qit(l:Nat)(s:ByteArray):Bool:=
 if l=1 then s.toList==[124,124] else if l=2 then s.toList==[38,38] else if l=3 then s.toList==[61,61] || s.toList==[60]
 else if l=4 then s.toList==[43] || s.toList==[45] else s.toList==[42]
def numB(s:ByteArray):Option Int:=
 match Lib.parseIntB 64 s.data.toList with
 | .ok v=>some v
 | _=>none
structure Gt where
 e:Ex
 p:Nat
 r:Int
def good(e:Ex)(p:Nat):Gt:=⟨e,p,0⟩
def bad(p:Nat)(r:Int):Gt:=⟨Ex.nul,p,r⟩
def hld(e:Ex)(p q:Nat):Gt:=if 32<e.ht then bad q 12 else good e p
def eNum(a v:Int):Ex:=.mk 0 a v ⟨#[]⟩ ⟨#[]⟩ []
def Qj5(a v:Int):Ex:=.mk 1 a v ⟨#[]⟩ ⟨#[]⟩ []
def Qfv(a:Int)(s:ByteArray):Ex:=.mk 2 a 0 s ⟨#[]⟩ []
def Jz(a:Int)(s:ByteArray)(l:List Ex):Ex:=.mk 3 a 0 s ⟨#[]⟩ l
def eUn(a:Int)(s:ByteArray)(x:Ex):Ex:=.mk 4 a 0 s ⟨#[]⟩ [x]
def Qcc(s:ByteArray)(x y:Ex):Ex:=.mk 5 x.a 0 s ⟨#[]⟩ [x,y]
def Qaf(a:Int)(s:ByteArray)(x:Ex):Ex:=.mk 6 a 0 ⟨#[]⟩ s [x]
def Qc8(l:List Ex):Ex:=.mk 3 0 0 ⟨#[]⟩ ⟨#[]⟩ l
def dot(s t:ByteArray):ByteArray:=s++(⟨#[46]⟩++t)
inductive Md where
 | lev (l:Nat)
 | loop (l:Nat) (e:Ex)
 | sg
 | pr
 | gr
 | op
 | nm
 | ar
 | an (acc:List Ex)
def Rw.name(R:Rw)(a:Nat):Bool×ByteArray×Nat:=
 if R.idn a=false then (false,⟨#[]⟩,a)
 else if R.is (a+1) [46]=true then
  if R.idn (a+2)=true then (true,dot (R.wd a) (R.wd (a+2)),a+3) else (false,⟨#[]⟩,a+2)
 else (true,R.wd a,a+1)
def rd(R:Rw):Nat→Md→Nat→Nat→Gt
 | 0,_,a,_=>bad a 99
 | f+1,.lev l,a,d =>
  if 6≤l then rd R f .sg a d else
  let g:=rd R f (.lev (l+1)) a d
  if g.r=0 then rd R f (.loop l g.e) g.p d else bad g.p g.r
 | f+1,.loop l e,a,d =>
  if Qit l (R.wd a)=true then
   let g:=rd R f (.lev (l+1)) (a+1) d
   if g.r=0 then
    let h:=hld (Qcc (R.wd a) e g.e) g.p a
    if h.r=0 then rd R f (.loop l h.e) h.p d else bad h.p h.r
   else bad g.p g.r
  else good e a
 | f+1,.sg,a,d =>
  if (R.is a [33] || R.is a [45])=true then
   if d=32 then bad a 12 else
   let g:=rd R f .sg (a+1) (d+1)
   if g.r=0 then hld (eUn (R.ps a) (R.wd a) g.e) g.p a else bad g.p g.r
  else rd R f .pr a d
 | f+1,.pr,a,d =>
  if R.kd a=3 then
   match numB (R.wd a) with
   | some v=>good (eNum (R.ps a) v) (a+1)
   | none=>bad a 18
  else if R.is a [116,114,117,101]=true then good (Qj5 (R.ps a) 1) (a+1)
  else if R.is a [102,97,108,115,101]=true then good (Qj5 (R.ps a) 0) (a+1)
  else if R.is a [40]=true then
   let g:=rd R f .gr a d
   if g.r=0 then (if R.is g.p [41]=true then good g.e (g.p+1) else bad g.p 11) else bad g.p g.r
  else if R.is a [100,101,99,108,97,115,115,105,102,121]=true then rd R f .op a d
  else rd R f .nm a d
 | f+1,.gr,a,d =>
  if R.is a [40]=true then
   if d=32 then bad a 12 else
   let g:=rd R f (.lev 1) (a+1) (d+1)
   if g.r=0 then good g.e g.p else bad g.p g.r
  else bad a 11
 | f+1,.op,a,d =>
  let g:=rd R f .gr (a+1) d
  if g.r=0 then
   if R.is g.p [44]=true then
    if R.is (g.p+1) [64]=true then
     if R.idn (g.p+2)=true then
      if R.is (g.p+3) [41]=true then hld (Qaf (R.ps a) (R.wd (g.p+2)) g.e) (g.p+4) a
      else bad (g.p+3) 11
     else bad (g.p+2) 11
    else bad (g.p+1) 11
   else bad g.p 11
  else bad g.p g.r
 | f+1,.nm,a,d =>
  let x:=R.name a
  if x.1=true then
   if R.is x.2.2 [40]=true then
    let g:=rd R f .ar x.2.2 d
    if g.r=0 then hld (Jz (R.ps a) x.2.1 g.e.l) g.p a else bad g.p g.r
   else good (Qfv (R.ps a) x.2.1) x.2.2
  else bad x.2.2 11
 | f+1,.ar,a,d =>
  if d=32 then bad a 12
  else if R.is (a+1) [41]=true then good (Qc8 []) (a+2)
  else rd R f (.an []) (a+1) (d+1)
 | f+1,.an acc,a,d =>
  let g:=rd R f (.lev 1) a d
  if g.r=0 then
   if R.is g.p [44]=true then rd R f (.an (acc++[g.e])) (g.p+1) d
   else if R.is g.p [41]=true then good (Qc8 (acc++[g.e])) (g.p+1)
   else bad g.p 11
  else bad g.p g.r
section
variable {R:Rw} {f l a d:Nat} {e:Ex} {acc:List Ex}
theorem rd_0(m:Md):rd R 0 m a d=bad a 99:=by cases m <;> rfl
theorem Qee(h:6≤l):rd R (f+1) (.lev l) a d=rd R f .sg a d:=by
 show (if 6≤l then _ else _)=_
 rw [if_pos h]
theorem Qiu(h:¬ 6≤l):rd R (f+1) (.lev l) a d=if (rd R f (.lev (l+1)) a d).r=0 then rd R f (.loop l (rd R f (.lev (l+1)) a d).e) (rd R f (.lev (l+1)) a d).p d else bad (rd R f (.lev (l+1)) a d).p (rd R f (.lev (l+1)) a d).r:=by
 show (if 6≤l then _ else _)=_
 rw [if_neg h]
end
structure Rw.Ok (R:Rw):Prop where
 end_is:∀ i,R.n≤i→R.wd i=⟨#[]⟩
 end_kd:∀ i,R.n≤i→R.kd i=0
 end_id:∀ i,R.n≤i→R.idn i=false
theorem Kt:(⟨#[]⟩:ByteArray).toList=[]:=by
 rw [ByteArray.toList,ByteArray.toList.loop]
 rfl
theorem Rw.Ok.is_lt{R:Rw}(h:R.Ok){i:Nat}{c:UInt8}{l:List UInt8}(hi:R.is i (c::l)=true):i<R.n:=by
 rcases Nat.lt_or_ge i R.n with h1 | h1
 ·exact h1
 ·unfold Rw.is at hi
  rw [h.end_is i h1,Kt] at hi
  simp at hi
theorem Rw.Ok.sgnL_lt{R:Rw}(h:R.Ok){i l:Nat}(hi:Qit l (R.wd i)=true):i<R.n:=by
 rcases Nat.lt_or_ge i R.n with h1 | h1
 ·exact h1
 ·rw [h.end_is i h1] at hi
  unfold Qit at hi
  rw [Kt] at hi
  revert hi
  repeat' split
  all_goals simp
theorem Rw.Ok.id_lt{R:Rw}(h:R.Ok){i:Nat}(hi:R.idn i=true):i<R.n:=by
 rcases Nat.lt_or_ge i R.n with h1 | h1
 ·exact h1
 ·rw [h.end_id i h1] at hi;cases hi
theorem Rw.Ok.kd_lt{R:Rw}(h:R.Ok){i:Nat}(hi:R.kd i=3):i<R.n:=by
 rcases Nat.lt_or_ge i R.n with h1 | h1
 ·exact h1
 ·rw [h.end_kd i h1] at hi;cases hi
theorem Rw.Ok.name_lt{R:Rw}(h:R.Ok){a:Nat}(ha:a≤R.n):(R.name a).2.2≤R.n∧a≤(R.name a).2.2∧((R.name a).1=true→a<(R.name a).2.2):=by
 unfold Rw.name
 by_cases h1:R.idn a=false
 ·rw [if_pos h1];exact ⟨ha,Nat.le_refl _,fun h=>by cases h⟩
 ·rw [if_neg h1]
  have:=h.id_lt (i:=a) (by simpa using h1)
  by_cases h2:R.is (a+1) [46]=true
  ·rw [if_pos h2]
   have:=h.is_lt h2
   by_cases h3:R.idn (a+2)=true
   ·rw [if_pos h3]
    have:=h.id_lt h3
    exact ⟨by show a+3≤_;omega,by show a≤a+3;omega,fun _=>by show a<a+3;omega⟩
   ·rw [if_neg h3]
    exact ⟨by show a+2≤_;omega,by show a≤a+2;omega,fun h=>by cases h⟩
  ·rw [if_neg h2]
   exact ⟨by show a+1≤_;omega,by show a≤a+1;omega,fun _=>by show a<a+1;omega⟩
theorem Qj6(e:Ex)(p q:Nat):((hld e p q).r=0∧(hld e p q).p=p∧(hld e p q).e=e∧e.ht≤32)∨((hld e p q).r=12∧(hld e p q).p=q∧(hld e p q).e=Ex.nul):=by
 unfold hld
 by_cases h:32<e.ht
 ·rw [if_pos h];exact .inr ⟨rfl,rfl,rfl⟩
 ·rw [if_neg h];exact .inl ⟨rfl,rfl,rfl,by omega⟩
def Md.strict:Md→Bool
 | .loop _ _=>false
 | _=>true
def InR(R:Rw)(m:Md)(a:Nat)(g:Gt):Prop:=a≤g.p∧g.p≤R.n∧(g.r=0→m.strict=true→a<g.p)
def Md.there:Md→Bool
 | .op=>true
 | .ar=>true
 | _=>false
theorem Ko{R:Rw}(hR:R.Ok):∀ (f:Nat) (m:Md) (a d:Nat),a≤R.n→(m.there=true→a<R.n)→InR R m a (rd R f m a d):=by
 intro f
 induction f with
 | zero=>intro m a d ha _;rw [rd_0];exact ⟨Nat.le_refl _,ha,fun h=>by cases h⟩
 | succ f ih =>
  intro m a d ha hth
  have bd:∀ (m m':Md) (b:Nat) (r:Int),r≠0→∀ p,a≤p→p≤R.n→InR R m a (bad p r):=fun m m' b r hr p h1 h2=>⟨h1,h2,fun h=>absurd h hr⟩
  have gd:∀ (m:Md) (e:Ex) p,a<p→p≤R.n→InR R m a (good e p):=fun m e p h1 h2=>⟨Nat.le_of_lt h1,h2,fun _ _=>h1⟩
  have hl:∀ (m:Md) (e:Ex) p,a<p→p≤R.n→InR R m a (hld e p a):=fun m e p h1 h2=>by
   unfold hld
   split
   ·exact bd m m a 12 (by decide) a nLe ha
   ·exact gd m e p h1 h2
  cases m with
  | lev l =>
   by_cases h6:6≤l
   ·rw [Qee h6];exact ih .sg a d ha (fun h=>by cases h)
   ·rw [Qiu h6]
    have h1:=ih (.lev (l+1)) a d ha (fun h=>by cases h)
    generalize rd R f (.lev (l+1)) a d=g at h1 ⊢
    by_cases h0:g.r=0
    ·rw [if_pos h0]
     have h2:=ih (.loop l g.e) g.p d h1.2.1 (fun h=>by cases h)
     have h3:=h1.2.2 h0 rfl
     exact ⟨Nat.le_trans h1.1 h2.1,h2.2.1,fun _ _=>Nat.lt_of_lt_of_le h3 h2.1⟩
    ·rw [if_neg h0];exact bd _ .sg 0 _ h0 _ h1.1 h1.2.1
  | loop l e =>
   simp only [rd]
   by_cases hs:Qit l (R.wd a)=true
   ·rw [if_pos hs]
    have hlt:=hR.sgnL_lt hs
    have h1:=ih (.lev (l+1)) (a+1) d hlt (fun h=>by cases h)
    generalize rd R f (.lev (l+1)) (a+1) d=g at h1 ⊢
    by_cases h0:g.r=0
    ·rw [if_pos h0]
     rcases Qj6 (Qcc (R.wd a) e g.e) g.p a with ⟨e1,e2,e3,_⟩ | ⟨e1,e2,e3⟩
     ·rw [if_pos e1,e2,e3]
      have h2:=ih (.loop l (Qcc (R.wd a) e g.e)) g.p d h1.2.1 (fun h=>by cases h)
      have:=h1.1
      exact ⟨by have:=h2.1;omega,h2.2.1,fun _ h=>by cases h⟩
     ·rw [if_neg (by rw [e1];decide),e2]
      refine bd _ .sg 0 _ (by rw [e1];decide) _ nLe ha
    ·rw [if_neg h0];exact bd _ .sg 0 _ h0 _ (by have:=h1.1;omega) h1.2.1
   ·rw [if_neg hs];exact ⟨Nat.le_refl _,ha,fun _ h=>by cases h⟩
  | sg =>
   simp only [rd]
   by_cases hs:(R.is a [33] || R.is a [45])=true
   ·rw [if_pos hs]
    have hlt:a<R.n:=by
     rcases Bool.or_eq_true_iff.1 hs with h | h
     ·exact hR.is_lt h
     ·exact hR.is_lt h
    by_cases hd:d=32
    ·rw [if_pos hd];exact bd _ .sg 0 _ (by decide) _ nLe ha
    ·rw [if_neg hd]
     have h1:=ih .sg (a+1) (d+1) hlt (fun h=>by cases h)
     generalize rd R f .sg (a+1) (d+1)=g at h1 ⊢
     by_cases h0:g.r=0
     ·rw [if_pos h0];exact hl _ _ _ (by have:=h1.1;omega) h1.2.1
     ·rw [if_neg h0];exact bd _ .sg 0 _ h0 _ (by have:=h1.1;omega) h1.2.1
   ·rw [if_neg hs];exact ih .pr a d ha (fun h=>by cases h)
  | pr =>
   simp only [rd]
   by_cases hk:R.kd a=3
   ·rw [if_pos hk]
    have:=hR.kd_lt hk
    split
    ·exact gd _ _ _ (Nat.lt_succ_self _) this
    ·exact bd _ .sg 0 _ (by decide) _ nLe ha
   ·rw [if_neg hk]
    split
    ·rename_i h;exact gd _ _ _ (Nat.lt_succ_self _) (hR.is_lt h)
    ·split
     ·rename_i h;exact gd _ _ _ (Nat.lt_succ_self _) (hR.is_lt h)
     ·split
      ·have h1:=ih .gr a d ha (fun h=>by cases h)
       generalize rd R f .gr a d=g at h1 ⊢
       by_cases h0:g.r=0
       ·rw [if_pos h0]
        have:=h1.2.2 h0 rfl
        split
        ·rename_i h;exact gd _ _ _ (by omega) (hR.is_lt h)
        ·exact bd _ .sg 0 _ (by decide) _ h1.1 h1.2.1
       ·rw [if_neg h0];exact bd _ .sg 0 _ h0 _ h1.1 h1.2.1
      ·split
       ·rename_i h
        have h1:=ih .op a d ha (fun _=>hR.is_lt h)
        exact ⟨h1.1,h1.2.1,fun h _=>h1.2.2 h rfl⟩
       ·have h1:=ih .nm a d ha (fun h=>by cases h)
        exact ⟨h1.1,h1.2.1,fun h _=>h1.2.2 h rfl⟩
  | gr =>
   simp only [rd]
   split
   ·rename_i h
    have hlt:=hR.is_lt h
    split
    ·exact bd _ .sg 0 _ (by decide) _ nLe ha
    ·have h1:=ih (.lev 1) (a+1) (d+1) hlt (fun h=>by cases h)
     generalize rd R f (.lev 1) (a+1) (d+1)=g at h1 ⊢
     by_cases h0:g.r=0
     ·rw [if_pos h0];exact gd _ _ _ (by have:=h1.1;omega) h1.2.1
     ·rw [if_neg h0];exact bd _ .sg 0 _ h0 _ (by have:=h1.1;omega) h1.2.1
   ·exact bd _ .sg 0 _ (by decide) _ nLe ha
  | op =>
   simp only [rd]
   ·have hlt:=hth rfl
    have h1:=ih .gr (a+1) d hlt (fun h=>by cases h)
    generalize rd R f .gr (a+1) d=g at h1 ⊢
    by_cases h0:g.r=0
    ·rw [if_pos h0]
     have h2:=h1.1
     have h3:=h1.2.1
     split
     ·rename_i h
      have:=hR.is_lt h
      split
      ·rename_i h
       have:=hR.is_lt h
       split
       ·rename_i h
        have:=hR.id_lt h
        split
        ·rename_i h
         have:=hR.is_lt h
         exact hl _ _ _ (by omega) (by omega)
        ·exact bd _ .sg 0 _ (by decide) _ (by omega) (by omega)
       ·exact bd _ .sg 0 _ (by decide) _ (by omega) (by omega)
      ·exact bd _ .sg 0 _ (by decide) _ (by omega) (by omega)
     ·exact bd _ .sg 0 _ (by decide) _ (by omega) (by omega)
    ·rw [if_neg h0];exact bd _ .sg 0 _ h0 _ (by have:=h1.1;omega) h1.2.1
  | nm =>
   simp only [rd]
   have hn:=hR.name_lt ha
   split
   ·rename_i h
    have hlt:=hn.2.2 h
    split
    ·rename_i h
     have h1:=ih .ar (R.name a).2.2 d hn.1 (fun _=>hR.is_lt h)
     generalize rd R f .ar (R.name a).2.2 d=g at h1 ⊢
     by_cases h0:g.r=0
     ·rw [if_pos h0];exact hl _ _ _ (by have:=h1.1;omega) h1.2.1
     ·rw [if_neg h0];exact bd _ .sg 0 _ h0 _ (by have:=h1.1;omega) h1.2.1
    ·exact gd _ _ _ hlt hn.1
   ·exact bd _ .sg 0 _ (by decide) _ hn.2.1 hn.1
  | ar =>
   simp only [rd]
   split
   ·exact bd _ .sg 0 _ (by decide) _ nLe ha
   ·split
    ·rename_i h;exact gd _ _ _ (by omega) (hR.is_lt h)
    ·have h1:=ih (.an []) (a+1) (d+1) (hth rfl) (fun h=>by cases h)
     have:=h1.1
     exact ⟨by omega,h1.2.1,fun _ _=>by omega⟩
  | an acc =>
   simp only [rd]
   have h1:=ih (.lev 1) a d ha (fun h=>by cases h)
   generalize rd R f (.lev 1) a d=g at h1 ⊢
   by_cases h0:g.r=0
   ·rw [if_pos h0]
    have h2:=h1.2.2 h0 rfl
    split
    ·rename_i h
     have h3:=ih (.an (acc++[g.e])) (g.p+1) d (hR.is_lt h) (fun h=>by cases h)
     have:=h3.1
     exact ⟨by omega,h3.2.1,fun _ _=>by omega⟩
    ·split
     ·rename_i h;exact gd _ _ _ (by omega) (hR.is_lt h)
     ·exact bd _ .sg 0 _ (by decide) _ h1.1 h1.2.1
   ·rw [if_neg h0];exact bd _ .sg 0 _ h0 _ h1.1 h1.2.1
open Go.ChangeShapes Go.RowKit
def Byt8(l:List Int):Prop:=∀ x∈l,0≤x∧x<256
theorem convS{w:World}{B:Nat}(s:ByteArray)(bs:List Int)(hb:bts s=bs)(hs:s.size≤1000000)(hB:B≤w.heap.size):∃ wl c,(convert 9 124 (.string s)).run Try.prog w=.ok (.slice (some ⟨w.heap.size,0,none⟩) s.size c) wl ∧
  Sh wl wl.heap.size (some ⟨w.heap.size,0,none⟩) s.size (by8 bs)∧Below B w wl∧s.size≤c∧c≤maxLen:=by
 refine ⟨Lib.bytesWorld w 5 s,grownCap w s.size 0 5,?_,?_,?_,?_,?_⟩
 ·exact Lib.run_convert_string_bytes w 9 124 5 s (u:=.string) (by kernel_rfl) Try.underlying124 (by kernel_rfl)
 ·subst hb
  refine ⟨by rw [Qb9,J3],fun hn=>⟨w.heap.size,0,rfl,by rw [Lib.bytesWorld_size];omega,fun k u hu=>?_⟩⟩
  rw [by8_get?] at hu
  obtain ⟨x,hx,rfl⟩:=Option.map_eq_some_iff.1 hu
  have hk:k<s.size:=by have:=(List.getElem?_eq_some_iff.1 hx).1;rwa [J3] at this
  rw [Nat.zero_add,Lib.bytesWorld_cell w _ s k hk]
  unfold bts at hx
  rw [List.getElem?_map] at hx
  obtain ⟨y,hy,rfl⟩:=Option.map_eq_some_iff.1 hx
  rw [List.getD,hy]
  rfl
 ·refine ⟨rfl,rfl,rfl,?_,fun k hk=>?_⟩
  ·rw [Lib.bytesWorld_size];omega
  ·exact Lib.bytesWorld_at_old w _ s k (by omega)
 ·exact grownCap_ge w s.size 0 _
 ·exact grownCap_le_maxLen w s.size 0 _ (by unfold maxLen;omega)
theorem Byt8.take{l:List Int}(h:Byt8 l)(n:Nat):Byt8 (l.take n):=fun x hx=>h x (List.mem_of_mem_take hx)
theorem Byt8.drop{l:List Int}(h:Byt8 l)(n:Nat):Byt8 (l.drop n):=fun x hx=>h x (List.mem_of_mem_drop hx)
end Go.Proofs.Ytjoclbeoafeebaa
namespace Go.Proofs.Ytjoclbeoafeebaa
set_option linter.unusedVariables false
set_option linter.unusedSimpArgs false
open Go.RowKit
theorem bts_at2{t:ByteArray}{bs:List Int}{e:Nat}(hb:bts t=bs)(he:e<t.size):((t[e]'he).toNat:Int)=bs.getD e 0:=by
 subst hb
 have h1:e<t.data.size:=he
 have h2:(bts t)[e]?=some (((t.data[e]'h1).toNat:Nat):Int):=by unfold bts;rw [List.getElem?_map,Array.getElem?_toList,Array.getElem?_eq_getElem h1];rfl
 rw [List.getD,h2]
 rfl
def kws:List (List UInt8):=[[105,109,112,111,114,116],[108,97,116,116,105,99,101],[101,102,102,101,99,116,115],[118,97,114],[102,110],[108,101,116],[105,102],[101,108,115,101],[119,104,105,108,101],[114,101,116,117,114,110],[100,111],[116,114,117,101],[102,97,108,115,101],[105,110,116],[98,111,111,108],[100,101,99,108,97,115,115,105,102,121]]
def kwB(s:ByteArray):Bool:=kws.any fun l=>s.toList==l
theorem Qhl(s:ByteArray)(w:World):CP 58 #[.string s] w fun e w'=>e=.returned (.bool (kwB s))∧w=w':=by
 by_cases hk:kwB s=true
 ·have hm:∃ l∈kws,s.toList=l:=by
   obtain ⟨l,hl,he⟩:=List.any_eq_true.1 hk
   exact ⟨l,hl,by simpa using he⟩
  obtain ⟨l,hl,he⟩:=hm
  rw [hk]
  have e1:=Lh he
  simp only [kws,List.mem_cons,List.not_mem_nil,or_false] at hl
  clear hk he
  have hq:∀ l',(s.toList==l')=(l==l'):=fun l'=>by rw [e1.out]
  clear e1
  rcases hl with rfl | rfl | rfl | rfl | rfl | rfl | rfl | rfl | rfl | rfl | rfl | rfl | rfl | rfl | rfl | rfl
  all_goals
   go_enter Try.func58,Try.ntmps58
   go_wp2
   go_ret
   exact ⟨rfl,rfl⟩
 ·have hk':kwB s=false:=by simpa using hk
  rw [hk']
  have hall:∀ l∈kws,(s.toList==l)=false:=fun l hl=>by
   have:=List.any_eq_false.1 hk' l hl
   simpa using this
  simp only [kws,List.mem_cons,List.not_mem_nil,or_false,forall_eq_or_imp,forall_eq] at hall
  obtain ⟨h1,h2,h3,h4,h5,h6,h7,h8,h9,h10,h11,h12,h13,h14,h15,h16⟩:=hall
  clear hk hk'
  go_enter Try.func58,Try.ntmps58
  go_wp2
  go_ret
  exact ⟨rfl,rfl⟩
theorem kw_of{s:ByteArray}{k:Nat}(hk:k<16)(h:(kws.getD k []==s.toList)=true):kwB s=true:=by
 refine List.any_eq_true.2 ⟨kws.getD k [],?_,?_⟩
 ·have:k<kws.length:=hk
  simp [List.getD,this]
 ·have:kws.getD k []=s.toList:=by simpa using h
  rw [this];simp
theorem kw_no{s:ByteArray}(h:∀ j,j<16→(kws.getD j []==s.toList)=false):kwB s=false:=by
 refine List.any_eq_false.2 fun l hl=>?_
 obtain ⟨j,hj,rfl⟩:=List.getElem_of_mem hl
 have:=h j hj
 have hg:kws.getD j []=kws[j]:=by simp [List.getD,hj]
 rw [hg] at this
 intro e
 have e':s.toList=kws[j]:=by simpa using e
 rw [e'] at this
 simp at this
theorem Qfw(s:ByteArray)(w:World):CP 62 #[.string s] w fun e w'=>e=.returned (.bool (kwB s))∧Below w.heap.size w w':=by
 have c0:(w.alloc (.cells zkw 9)).cell? ⟨w.heap.size,0,none⟩=some (.string ⟨#[105,109,112,111,114,116]⟩):=by rw [World.cell?_alloc_at _ _ _ _ rfl];rfl
 have c1:(w.alloc (.cells zkw 9)).cell? ⟨w.heap.size,1,none⟩=some (.string ⟨#[108,97,116,116,105,99,101]⟩):=by rw [World.cell?_alloc_at _ _ _ _ rfl];rfl
 have c2:(w.alloc (.cells zkw 9)).cell? ⟨w.heap.size,2,none⟩=some (.string ⟨#[101,102,102,101,99,116,115]⟩):=by rw [World.cell?_alloc_at _ _ _ _ rfl];rfl
 have c3:(w.alloc (.cells zkw 9)).cell? ⟨w.heap.size,3,none⟩=some (.string ⟨#[118,97,114]⟩):=by rw [World.cell?_alloc_at _ _ _ _ rfl];rfl
 have c4:(w.alloc (.cells zkw 9)).cell? ⟨w.heap.size,4,none⟩=some (.string ⟨#[102,110]⟩):=by rw [World.cell?_alloc_at _ _ _ _ rfl];rfl
 have c5:(w.alloc (.cells zkw 9)).cell? ⟨w.heap.size,5,none⟩=some (.string ⟨#[108,101,116]⟩):=by rw [World.cell?_alloc_at _ _ _ _ rfl];rfl
 have c6:(w.alloc (.cells zkw 9)).cell? ⟨w.heap.size,6,none⟩=some (.string ⟨#[105,102]⟩):=by rw [World.cell?_alloc_at _ _ _ _ rfl];rfl
 have c7:(w.alloc (.cells zkw 9)).cell? ⟨w.heap.size,7,none⟩=some (.string ⟨#[101,108,115,101]⟩):=by rw [World.cell?_alloc_at _ _ _ _ rfl];rfl
 have c8:(w.alloc (.cells zkw 9)).cell? ⟨w.heap.size,8,none⟩=some (.string ⟨#[119,104,105,108,101]⟩):=by rw [World.cell?_alloc_at _ _ _ _ rfl];rfl
 have c9:(w.alloc (.cells zkw 9)).cell? ⟨w.heap.size,9,none⟩=some (.string ⟨#[114,101,116,117,114,110]⟩):=by rw [World.cell?_alloc_at _ _ _ _ rfl];rfl
 have c10:(w.alloc (.cells zkw 9)).cell? ⟨w.heap.size,10,none⟩=some (.string ⟨#[100,111]⟩):=by rw [World.cell?_alloc_at _ _ _ _ rfl];rfl
 have c11:(w.alloc (.cells zkw 9)).cell? ⟨w.heap.size,11,none⟩=some (.string ⟨#[116,114,117,101]⟩):=by rw [World.cell?_alloc_at _ _ _ _ rfl];rfl
 have c12:(w.alloc (.cells zkw 9)).cell? ⟨w.heap.size,12,none⟩=some (.string ⟨#[102,97,108,115,101]⟩):=by rw [World.cell?_alloc_at _ _ _ _ rfl];rfl
 have c13:(w.alloc (.cells zkw 9)).cell? ⟨w.heap.size,13,none⟩=some (.string ⟨#[105,110,116]⟩):=by rw [World.cell?_alloc_at _ _ _ _ rfl];rfl
 have c14:(w.alloc (.cells zkw 9)).cell? ⟨w.heap.size,14,none⟩=some (.string ⟨#[98,111,111,108]⟩):=by rw [World.cell?_alloc_at _ _ _ _ rfl];rfl
 have c15:(w.alloc (.cells zkw 9)).cell? ⟨w.heap.size,15,none⟩=some (.string ⟨#[100,101,99,108,97,115,115,105,102,121]⟩):=by rw [World.cell?_alloc_at _ _ _ _ rfl];rfl
 obtain ⟨w1,hw1⟩:∃ w1,w.alloc (.cells zkw 9)=w1:=⟨_,rfl⟩
 have hb:Below w.heap.size w w1:=by rw [← hw1];exact bAl
 rw [hw1] at c0 c1 c2 c3 c4 c5 c6 c7 c8 c9 c10 c11 c12 c13 c14 c15
 have HB:=Lh hb
 have HW:=Lh hw1
 clear hb hw1
 go_enter Try.func62,Try.ntmps62
 go_wp2
 rw [HW.out]
 go_loopw [4] (fun i wr=>∃ k:Nat,i=.int .i64 (k:Int)∧k≤16∧(∀ j,j<k→(kws.getD j []==s.toList)=false)∧wr=w1) (fun i _=>16-(intOf i).toNat)
 case atStart=>exact ⟨0,rfl,by omega,fun j hj=>absurd hj (by omega),rfl⟩
 case round =>
  obtain ⟨k,rfl,hk,hno,rfl⟩:=hrel
  have HN:=Lh hno
  clear hno HW
  by_cases hlt:k<16
  ·have hk16:k=0∨k=1∨k=2∨k=3∨k=4∨k=5∨k=6∨k=7∨k=8∨k=9∨k=10∨k=11∨k=12∨k=13∨k=14∨k=15:=by omega
   cases hv:(kws.getD k []==s.toList) with
   | true =>
    have HK:=Lh (kw_of hlt hv)
    rcases hk16 with rfl | rfl | rfl | rfl | rfl | rfl | rfl | rfl | rfl | rfl | rfl | rfl | rfl | rfl | rfl | rfl
    all_goals
     simp only [kws,List.getD_cons_zero,List.getD_cons_succ] at hv
     go_wp2
     go_ret
     exact ⟨Je HK.out.symm,HB.out⟩
   | false =>
    have HA:Hid (∀ j,j<k+1→(kws.getD j []==s.toList)=false):=Lh fun j hj=>by
     rcases Nat.lt_or_ge j k with e | e
     ·exact HN.out j e
     ·obtain rfl:j=k:=by omega
      exact hv
    rcases hk16 with rfl | rfl | rfl | rfl | rfl | rfl | rfl | rfl | rfl | rfl | rfl | rfl | rfl | rfl | rfl | rfl
    all_goals
     simp only [kws,List.getD_cons_zero,List.getD_cons_succ] at hv
     go_wp2
     go_roundw
     case rel=>exact ⟨_+1,by go_num,by omega,HA.out,(by trivial)⟩
     case measure=>simp [intOf]
  ·obtain rfl:k=16:=by omega
   have HK:=Lh (kw_no HN.out)
   go_wp2
   go_ret
   exact ⟨Je HK.out.symm,HB.out⟩
def Ku:List Int→Bool
 | []=>false
 | c::r=>kd c==2&&r.all fun x=>kd x==2 || kd x==3
theorem Yl(c:Int)(r:List Int):Ku (c::r)=(kd c==2&&r.all fun x=>kd x==2 || kd x==3):=rfl
def idB(s:ByteArray):Bool:=decide (s.size≤24)&&!(kwB s)&&Ku (bts s)
theorem run_full{p:Int→Bool}{l:List Int}:(Yw p l==l.length)=l.all p:=by
 induction l with
 | nil=>rfl
 | cons x l ih =>
  cases h:p x
  ·rw [Qhf h]
   simp [h]
  ·rw [Qbw h,List.length_cons,List.all_cons,h,← ih]
   simp
theorem Qlx{bs:List Int}(h:0<bs.length):Ku bs=(tk bs==2&&((tl bs:Int)==(bs.length:Int))):=by
 cases bs with
 | nil=>simp at h
 | cons c r =>
  have hr:=Qbv c
  by_cases h2:kd c=2
  ·have e1:tk (c::r)=2:=by rw [Qaz,if_pos (by omega),h2]
   have e2:tl (c::r)=1+Yw (Zc 2) r:=by rw [Ux,if_pos (by omega),h2]
   have e3:(r.all fun x=>kd x==2 || kd x==3)=r.all (Zc 2):=rfl
   rw [Yl]
   rw [h2,e1,e2,e3,← run_full]
   have:(((1+Yw (Zc 2) r:Nat):Int)==(((c::r).length:Nat):Int))=(Yw (Zc 2) r==r.length):=by
    rw [List.length_cons]
    by_cases e:Yw (Zc 2) r=r.length
    ·rw [e];simp;omega
    ·have h1:¬ (((1+Yw (Zc 2) r:Nat):Int)=((r.length+1:Nat):Int)):=by omega
     rw [beq_eq_false_iff_ne.2 e,beq_eq_false_iff_ne.2 h1]
   rw [this]
  ·have e1:(tk (c::r)==2)=false:=by
    rw [Qaz]
    split
    ·simpa using h2
    ·split
     ·rfl
     ·simpa using h2
   rw [Yl]
   rw [e1]
   simp [h2]
theorem ident_no{bs:List Int}{j:Nat}(hj:j<bs.length)(h:kd (bs.getD j 0)≠2∧(j=0∨kd (bs.getD j 0)≠3)):Ku bs=false:=by
 cases bs with
 | nil=>simp at hj
 | cons c r =>
  rw [Yl]
  cases j with
  | zero =>
   have h1:¬ kd c=2:=by simpa using h.1
   simp [h1]
  | succ j =>
   have hjr:j<r.length:=by simpa using hj
   have hx:(c::r).getD (j+1) 0=r[j]:=by simp [List.getD,hjr]
   rw [hx] at h
   have:(r.all fun x=>kd x==2 || kd x==3)=false:=by
    refine List.all_eq_false.2 ⟨r[j],List.getElem_mem _,?_⟩
    simp
    exact ⟨h.1,by rcases h.2 with e | e <;> first | omega | exact e⟩
   rw [this]
   simp
theorem Qly{bs:List Int}(h0:0<bs.length)(h:∀ j,j<bs.length→kd (bs.getD j 0)=2∨(j≠0∧kd (bs.getD j 0)=3)):Ku bs=true:=by
 cases bs with
 | nil=>simp at h0
 | cons c r =>
  rw [Yl]
  have hc:kd c=2:=by
   rcases h 0 (by simp) with e | e
   ·simpa using e
   ·exact absurd rfl e.1
  have hr:(r.all fun x=>kd x==2 || kd x==3)=true:=by
   refine List.all_eq_true.2 fun x hx=>?_
   obtain ⟨j,hj,rfl⟩:=List.getElem_of_mem hx
   have:=h (j+1) (by simpa using hj)
   have hg:(c::r).getD (j+1) 0=r[j]:=by simp [List.getD,hj]
   rw [hg] at this
   rcases this with e | e
   ·simp [e]
   ·simp [e.2]
  rw [hr,hc]
  rfl
theorem Qdm{s:ByteArray}:(s.toList==[])=decide (s.size=0):=by
 rw [ByteArray.toList_eq]
 have:s.size=s.data.toList.length:=rfl
 cases h:s.data.toList with
 | nil=>rw [this,h];rfl
 | cons a l=>rw [this,h];simp
theorem Qcd(s:ByteArray)(w:World):CP 39 #[.string s] w fun e w'=>e=.returned (.bool (idB s))∧Below w.heap.size w w':=by
 have hkw:=Lh (Qhl s)
 by_cases h0:s.size=0
 ·have hn:(s.toList==[])=true:=by rw [Qdm,h0];rfl
  have hid:idB s=false:=by
   have:bts s=[]:=List.eq_nil_of_length_eq_zero (by rw [J3,h0])
   unfold idB
   rw [this]
   simp [Ku]
  have HI:=Lh hid
  clear h0 hid
  go_enter Try.func39,Try.ntmps39
  go_wp2
  go_ret
  exact ⟨Je HI.out.symm,Below.refl _ _⟩
 ·have hn:(s.toList==[])=false:=by rw [Qdm];simpa using h0
  by_cases h24:24<s.size
  ·have h24':(24:Int)<(s.size:Int):=by omega
   have hid:idB s=false:=by unfold idB;rw [show decide (s.size≤24)=false by simp;omega];rfl
   have HI:=Lh hid
   clear hid
   go_enter Try.func39,Try.ntmps39
   go_wp2
   go_ret
   exact ⟨Je HI.out.symm,Below.refl _ _⟩
  ·have h24':¬ (24:Int)<(s.size:Int):=by omega
   cases hk:kwB s with
   | true =>
    have hid:idB s=false:=by unfold idB;rw [hk];simp
    have HI:=Lh hid
    have HK:=Lh hk
    clear hid hk
    go_enter Try.func39,Try.ntmps39
    go_wp2_with (first
     | (go_at_call 58;refine (hkw.out _).mono ?_;rintro e w' ⟨rfl,rfl⟩;rw [HK.out])
     | fail)
    go_ret
    exact ⟨Je HI.out.symm,Below.refl _ _⟩
   | false =>
    have hlen:0<(bts s).length:=by rw [J3];omega
    have hid:idB s=(tk (bts s)==2&&((tl (bts s):Int)==(s.size:Int))):=by
     unfold idB
     rw [hk,Qlx hlen,J3,show decide (s.size≤24)=true by simp;omega]
     simp
    have HI:=Lh hid
    have HK:=Lh hk
    obtain ⟨wl,cc,hcv,hxw,hbw,hc1,hc2⟩:=convS (w:=w) (B:=w.heap.size) s (bts s) rfl (by omega) nLe
    have hto:=Qhj _ s.size cc 0 (bts s) wl hxw (by omega) hc1 hc2 (by omega)
    rw [List.drop_zero,Nat.zero_add] at hto
    have HT:=Lh hto
    have HBW:=Lh hbw
    have hz:=Y6
    obtain ⟨K,hK⟩:∃ K,tk (bts s)=K:=⟨_,rfl⟩
    obtain ⟨T,hT⟩:∃ T,tl (bts s)=T:=⟨_,rfl⟩
    rw [hK,hT] at HT HI
    clear hid hk hto hbw hxw hc1 hc2 hK hT hlen
    have hcs:((K==2)=false)∨((K==2)=true∧((T:Int)==(s.size:Int))=false)∨((K==2)=true∧((T:Int)==(s.size:Int))=true):=by
     cases h2:(K==2)
     ·exact .inl rfl
     ·cases h3:((T:Int)==(s.size:Int))
      ·exact .inr (.inl ⟨rfl,rfl⟩)
      ·exact .inr (.inr ⟨rfl,rfl⟩)
    obtain ⟨r,hr⟩:∃ r,idB s=r:=⟨_,rfl⟩
    rw [hr] at HI ⊢
    clear hr
    rcases hcs with h2 | ⟨h2,h3⟩ | ⟨h2,h3⟩
    all_goals
     simp only [h2] at HI
     try simp only [h3] at HI
     go_enter Try.func39,Try.ntmps39
     go_wp2_with (first
      | (go_at_call 58;refine (hkw.out _).mono ?_;rintro e w' ⟨rfl,rfl⟩;rw [HK.out])
      | (go_at_call 59;refine HT.out.mono ?_;rintro e w1 ⟨rfl,b1⟩;have B1:=Lh b1;clear b1;dsimp only)
      | fail)
     go_ret
     exact ⟨Je HI.out.symm,HBW.out.trans (B1.out.mono HBW.out.size)⟩
theorem Q1(s:ByteArray)(w:World)(hs:s.size≤1000000):CP 45 #[.string s] w fun e w'=>e=.returned (.bool (idB s))∧Below w.heap.size w w':=by
 have hkw:=Lh (Qfw s)
 have hbl:=Lh (J3 s)
 go_enter Try.func45,Try.ntmps45
 go_wp2
 go_loopw [3] (fun i wr=>∃ k:Nat,i=.int .i64 (k:Int)∧k≤s.size∧(∀ j,j<k→kd ((bts s).getD j 0)=2∨(j≠0∧kd ((bts s).getD j 0)=3))∧wr=w) (fun i _=>s.size-(intOf i).toNat)
 case atStart=>exact ⟨0,rfl,Nat.zero_le _,fun j hj=>absurd hj (Nat.not_lt_zero _),rfl⟩
 case round =>
  obtain ⟨k,rfl,hk,hall,rfl⟩:=hrel
  have HA:=Lh hall
  clear hall
  by_cases hlt:k<s.size
  ·have hx:((s[k]'hlt).toNat:Int)=(bts s).getD k 0:=bts_at2 rfl hlt
   obtain ⟨x,hx0⟩:∃ x,(bts s).getD k 0=x:=⟨_,rfl⟩
   rw [hx0] at hx
   have HX:=Lh hx0
   clear hx0
   by_cases hok:kd x=2∨(k≠0∧kd x=3)
   ·have HO:Hid (∀ j,j<k+1→kd ((bts s).getD j 0)=2∨(j≠0∧kd ((bts s).getD j 0)=3)):=Lh fun j hj=>by
     rcases Nat.lt_or_ge j k with e | e
     ·exact HA.out j e
     ·obtain rfl:j=k:=by omega
      rw [HX.out];exact hok
    have hok':(kd x==2)=true∨((kd x==2)=false∧((k:Int)==0)=false∧(kd x==3)=true):=by
     by_cases h2:kd x=2
     ·exact .inl (by simp [h2])
     ·rcases hok with h | ⟨h,h3⟩
      ·exact absurd h h2
      ·exact .inr ⟨by simpa using h2,by simp;omega,by simp [h3]⟩
    clear hok
    rcases hok' with l2 | ⟨l2,h0,l3⟩
    all_goals
     go_wp2_with (first
      | (go_at_call 60;refine (Jk _ _).mono ?_;rintro e1 w' ⟨rfl,rfl⟩;rw [l2])
      | (go_at_call 61;refine (Jq _ _).mono ?_;rintro e1 w' ⟨rfl,rfl⟩;rw [l3])
      | fail)
     go_roundw
     case rel=>exact ⟨k+1,by go_num,hlt,HO.out,(by trivial)⟩
     case measure=>simp [intOf];omega
   ·have hno:Ku (bts s)=false:=ident_no (j:=k) (by rw [hbl.out];exact hlt) (by
     rw [HX.out]
     by_cases h2:kd x=2
     ·exact absurd (.inl h2) hok
     ·refine ⟨h2,?_⟩
      by_cases h3:k=0
      ·exact .inl h3
      ·exact .inr fun h=>hok (.inr ⟨h3,h⟩))
    have hid:idB s=false:=by unfold idB;rw [hno];simp
    have HI:=Lh hid
    have hok':(kd x==2)=false∧(((k:Int)==0)=true∨(((k:Int)==0)=false∧(kd x==3)=false)):=by
     have h2:kd x≠2:=fun h=>hok (.inl h)
     refine ⟨by simpa using h2,?_⟩
     by_cases h3:k=0
     ·exact .inl (by simp [h3])
     ·exact .inr ⟨by simp;omega,by simpa using fun h=>hok (.inr ⟨h3,h⟩)⟩
    clear hok hno hid
    obtain ⟨l2,hh⟩:=hok'
    rcases hh with h0 | ⟨h0,l3⟩
    all_goals
     go_wp2_with (first
      | (go_at_call 60;refine (Jk _ _).mono ?_;rintro e1 w' ⟨rfl,rfl⟩;rw [l2])
      | (go_at_call 61;refine (Jq _ _).mono ?_;rintro e1 w' ⟨rfl,rfl⟩;rw [l3])
      | fail)
     go_ret
     exact ⟨Je HI.out.symm,Below.refl _ _⟩
  ·obtain rfl:k=s.size:=by omega
   by_cases h1:1≤s.size
   ·have hyes:Ku (bts s)=true:=Qly (by rw [hbl.out];omega) (by rw [hbl.out];exact HA.out)
    have hid:idB s=(decide (s.size≤24)&&!(kwB s)):=by unfold idB;rw [hyes];simp
    have HI:=Lh hid
    have h1':(1:Int)≤(s.size:Int):=by omega
    clear hyes hid
    by_cases h24:s.size≤24
    ·have h24':(s.size:Int)≤24:=by omega
     have HD:=Lh (show decide (s.size≤24)=true by simpa using h24)
     go_wp2_with (first
      | (go_at_call 62;refine (hkw.out _).mono ?_;rintro e1 w1 ⟨rfl,b1⟩)
      | fail)
     go_ret
     exact ⟨Je (by rw [HI.out,HD.out];rfl),b1⟩
    ·have h24':¬ (s.size:Int)≤24:=by omega
     have HD:=Lh (show decide (s.size≤24)=false by simpa using h24)
     go_wp2
     go_ret
     exact ⟨Je (by rw [HI.out,HD.out];rfl),Below.refl _ _⟩
   ·have hid:idB s=false:=by
     have:bts s=[]:=List.eq_nil_of_length_eq_zero (by rw [J3];omega)
     unfold idB
     rw [this]
     simp [Ku]
    have HI:=Lh hid
    have h1':¬ (1:Int)≤(s.size:Int):=by omega
    clear hid
    go_wp2
    go_ret
    exact ⟨Je HI.out.symm,Below.refl _ _⟩
end Go.Proofs.Ytjoclbeoafeebaa
