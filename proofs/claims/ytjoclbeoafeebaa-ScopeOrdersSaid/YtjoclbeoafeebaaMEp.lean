import Derived.Test.YtjoclbeoafeebaaSq
import Derived.Test.YtjoclbeoafeebaaMEz
import Derived.Test.YtjoclbeoafeebaaMEq
import Derived.Test.YtjoclbeoafeebaaShelf
namespace Go.Proofs.Ytjoclbeoafeebaa
set_option linter.unusedVariables false
set_option linter.unusedSimpArgs false
def Ex.cnt:Ex→Nat
 | .mk k a m nm lb l=>(l.attach.map fun x=>x.1.cnt).foldr (·+·) 0+1
termination_by e=>SizeOf.sizeOf e
decreasing_by exact Ex.lt_of x.2
def Qhm(l:List Ex):Nat:=(l.map Ex.cnt).foldr (·+·) 0
theorem Ex.cnt_eq(e:Ex):e.cnt=Qhm e.l+1:=by
 cases e
 rw [Ex.cnt]
 unfold Qhm Ex.l
 rw [List.attach_map_val (f:=Ex.cnt)]
theorem Qbx:Qhm []=0:=rfl
theorem Kv(x:Ex)(l:List Ex):Qhm (x::l)=x.cnt+Qhm l:=rfl
theorem Qiv(l k:List Ex):Qhm (l++k)=Qhm l+Qhm k:=by
 induction l with
 | nil=>simp [Qbx]
 | cons x l ih=>rw [List.cons_append,Kv,Kv,ih];omega
theorem cnts_len(l:List Ex):l.length≤Qhm l:=by
 induction l with
 | nil=>exact Nat.le_refl _
 | cons x l ih=>rw [Kv,List.length_cons,Ex.cnt_eq];omega
def under(F:List Ex):List Ex:=F.flatMap Ex.l
def Fine(e:Ex):Prop:=e.wfx∧e.ht≤32
def Md.pre:Md→Prop
 | .loop _ e=>Fine e
 | .an acc=>∀ x∈acc,Fine x
 | _=>True
def Qlz(m:Md)(a:Nat)(g:Gt):Prop:=g.r=0→match m with
 | .loop _ e=>Fine g.e∧g.e.cnt+a≤g.p+e.cnt
 | .ar=>(∀ x∈g.e.l,Fine x)∧Qhm g.e.l+a+1≤g.p
 | .an acc=>(∀ x∈g.e.l,Fine x)∧Qhm g.e.l+a≤g.p+Qhm acc
 | _=>Fine g.e∧g.e.cnt+a≤g.p
theorem Qfx{e:Ex}(hl:e.l=[]):Fine e∧e.cnt=1:=by
 refine ⟨⟨(e.wfx_eq).2 ⟨fun _=>hl,by rw [hl];simp,fun x hx=>by rw [hl] at hx;cases hx⟩,?_⟩,?_⟩
 ·rw [Ex.ht_eq,hl];decide
 ·rw [Ex.cnt_eq,hl];rfl
theorem Qef{e:Ex}(hk:¬ (e.k=0∨e.k=1∨e.k=2))(hl:∀ x∈e.l,Fine x)(hn:e.l.length≤1000000):e.wfx:=
 (e.wfx_eq).2 ⟨fun h=>absurd h hk,hn,fun x hx=>(hl x hx).1⟩
theorem Ql0{s:ByteArray}{x y:Ex}(hx:Fine x)(hy:Fine y):(Qcc s x y).wfx:=Qef (show ¬ ((5:Int)=0∨(5:Int)=1∨(5:Int)=2) by decide) (fun z hz=>by
 have:z=x∨z=y:=by simpa [Qcc,Ex.l] using hz
 rcases this with rfl | rfl
 ·exact hx
 ·exact hy) (by simp [Qcc,Ex.l])
theorem un_wfx{a:Int}{s:ByteArray}{x:Ex}(hx:Fine x):(eUn a s x).wfx:=Qef (show ¬ ((4:Int)=0∨(4:Int)=1∨(4:Int)=2) by decide) (fun z hz=>by
 have:z=x:=by simpa [eUn,Ex.l] using hz
 rw [this];exact hx) (by simp [eUn,Ex.l])
theorem Qiw{a:Int}{s:ByteArray}{x:Ex}(hx:Fine x):(Qaf a s x).wfx:=Qef (show ¬ ((6:Int)=0∨(6:Int)=1∨(6:Int)=2) by decide) (fun z hz=>by
 have:z=x:=by simpa [Qaf,Ex.l] using hz
 rw [this];exact hx) (by simp [Qaf,Ex.l])
theorem Qeg{a:Int}{s:ByteArray}{l:List Ex}(hl:∀ x∈l,Fine x)(hn:l.length≤1000000):(Jz a s l).wfx:=Qef (show ¬ ((3:Int)=0∨(3:Int)=1∨(3:Int)=2) by decide) hl hn
theorem bin_cnt(s:ByteArray)(x y:Ex):(Qcc s x y).cnt=x.cnt+y.cnt+1:=by rw [Ex.cnt_eq];show x.cnt+(y.cnt+0)+1=_;omega
theorem un_cnt(a:Int)(s:ByteArray)(x:Ex):(eUn a s x).cnt=x.cnt+1:=by rw [Ex.cnt_eq];rfl
theorem open_cnt(a:Int)(s:ByteArray)(x:Ex):(Qaf a s x).cnt=x.cnt+1:=by rw [Ex.cnt_eq];rfl
theorem call_cnt(a:Int)(s:ByteArray)(l:List Ex):(Jz a s l).cnt=Qhm l+1:=by rw [Ex.cnt_eq];rfl
theorem Q9{m:Md}{a p:Nat}{r:Int}(h:r≠0):Qlz m a (bad p r):=fun e=>absurd e h
theorem Qeh{m:Md}{e:Ex}{a p q:Nat}(hm:∀ g:Gt,Qlz m a g=(g.r=0→Fine g.e∧g.e.cnt+a≤g.p))(hw:e.wfx)(hc:e.cnt+a≤p):Qlz m a (hld e p q):=by
 rw [hm]
 intro h0
 rcases Qj6 e p q with ⟨_,h2,h3,h4⟩ | ⟨h1,_,_⟩
 ·rw [h2,h3];exact ⟨⟨hw,h4⟩,hc⟩
 ·rw [h1] at h0;cases h0
theorem Kw{R:Rw}(hR:R.Ok)(hn:R.n≤1000000):∀ (f:Nat) (m:Md) (a d:Nat),a≤R.n→(m.there=true→a<R.n)→m.pre→Qlz m a (rd R f m a d):=by
 intro f
 induction f with
 | zero=>intro m a d ha _ _;rw [rd_0];exact Q9 (by decide)
 | succ f ih =>
  intro m a d ha hth hpre
  cases m with
  | lev l =>
   by_cases h6:6≤l
   ·rw [Qee h6];exact ih .sg a d ha (fun h=>by cases h) trivial
   ·rw [Qiu h6]
    have h1:=Ko hR f (.lev (l+1)) a d ha (fun h=>by cases h)
    have h2:=ih (.lev (l+1)) a d ha (fun h=>by cases h) trivial
    generalize rd R f (.lev (l+1)) a d=g at h1 h2 ⊢
    by_cases h0:g.r=0
    ·rw [if_pos h0]
     have h3:=h2 h0
     have h4:=ih (.loop l g.e) g.p d h1.2.1 (fun h=>by cases h) h3.1
     intro hr
     have h5:=h4 hr
     exact ⟨h5.1,by have:=h5.2;have:=h3.2;omega⟩
    ·rw [if_neg h0];exact Q9 h0
  | loop l e =>
   simp only [rd]
   by_cases hs:Qit l (R.wd a)=true
   ·rw [if_pos hs]
    have hlt:=hR.sgnL_lt hs
    have h1:=Ko hR f (.lev (l+1)) (a+1) d hlt (fun h=>by cases h)
    have h2:=ih (.lev (l+1)) (a+1) d hlt (fun h=>by cases h) trivial
    generalize rd R f (.lev (l+1)) (a+1) d=g at h1 h2 ⊢
    by_cases h0:g.r=0
    ·rw [if_pos h0]
     have h3:=h2 h0
     rcases Qj6 (Qcc (R.wd a) e g.e) g.p a with ⟨e1,e2,e3,e4⟩ | ⟨e1,e2,e3⟩
     ·rw [if_pos e1,e2,e3]
      have h4:=ih (.loop l (Qcc (R.wd a) e g.e)) g.p d h1.2.1 (fun h=>by cases h) ⟨Ql0 hpre h3.1,e4⟩
      intro hr
      have h5:=h4 hr
      refine ⟨h5.1,?_⟩
      have h6:=h5.2
      rw [bin_cnt] at h6
      have:=h3.2
      omega
     ·rw [if_neg (by rw [e1];decide),e1];exact Q9 (by decide)
    ·rw [if_neg h0];exact Q9 h0
   ·rw [if_neg hs];exact fun _=>⟨hpre,by show e.cnt+a≤a+e.cnt;omega⟩
  | sg =>
   simp only [rd]
   by_cases hs:(R.is a [33] || R.is a [45])=true
   ·rw [if_pos hs]
    have hlt:a<R.n:=by
     rcases Bool.or_eq_true_iff.1 hs with h | h
     ·exact hR.is_lt h
     ·exact hR.is_lt h
    by_cases hd:d=32
    ·rw [if_pos hd];exact Q9 (by decide)
    ·rw [if_neg hd]
     have h2:=ih .sg (a+1) (d+1) hlt (fun h=>by cases h) trivial
     generalize rd R f .sg (a+1) (d+1)=g at h2 ⊢
     by_cases h0:g.r=0
     ·rw [if_pos h0]
      have h3:=h2 h0
      exact Qeh (m:=.sg) (fun _=>rfl) (un_wfx h3.1) (by rw [un_cnt];have:=h3.2;omega)
     ·rw [if_neg h0];exact Q9 h0
   ·rw [if_neg hs];exact ih .pr a d ha (fun h=>by cases h) trivial
  | pr =>
   simp only [rd]
   have hleaf:∀ e:Ex,e.l=[]→Qlz .pr a (good e (a+1)):=fun e he _=>by
    have:=Qfx he
    exact ⟨this.1,by rw [show (good e (a+1)).e=e from rfl,show (good e (a+1)).p=a+1 from rfl,this.2];omega⟩
   split
   ·split
    ·exact hleaf _ rfl
    ·exact Q9 (by decide)
   ·split
    ·exact hleaf _ rfl
    ·split
     ·exact hleaf _ rfl
     ·split
      ·have h2:=ih .gr a d ha (fun h=>by cases h) trivial
       generalize rd R f .gr a d=g at h2 ⊢
       by_cases h0:g.r=0
       ·rw [if_pos h0]
        have h3:=h2 h0
        split
        ·exact fun _=>⟨h3.1,by show g.e.cnt+a≤g.p+1;have:=h3.2;omega⟩
        ·exact Q9 (by decide)
       ·rw [if_neg h0];exact Q9 h0
      ·split
       ·rename_i h
        exact ih .op a d ha (fun _=>hR.is_lt h) trivial
       ·exact ih .nm a d ha (fun h=>by cases h) trivial
  | gr =>
   simp only [rd]
   split
   ·rename_i h
    have hlt:=hR.is_lt h
    split
    ·exact Q9 (by decide)
    ·have h2:=ih (.lev 1) (a+1) (d+1) hlt (fun h=>by cases h) trivial
     generalize rd R f (.lev 1) (a+1) (d+1)=g at h2 ⊢
     by_cases h0:g.r=0
     ·rw [if_pos h0]
      have h3:=h2 h0
      exact fun _=>⟨h3.1,by show g.e.cnt+a≤g.p;have:=h3.2;omega⟩
     ·rw [if_neg h0];exact Q9 h0
   ·exact Q9 (by decide)
  | op =>
   simp only [rd]
   have hlt:=hth rfl
   have h2:=ih .gr (a+1) d hlt (fun h=>by cases h) trivial
   generalize rd R f .gr (a+1) d=g at h2 ⊢
   by_cases h0:g.r=0
   ·rw [if_pos h0]
    have h3:=h2 h0
    split
    ·split
     ·split
      ·split
       ·exact Qeh (m:=.op) (fun _=>rfl) (Qiw h3.1) (by rw [open_cnt];have:=h3.2;omega)
       ·exact Q9 (by decide)
      ·exact Q9 (by decide)
     ·exact Q9 (by decide)
    ·exact Q9 (by decide)
   ·rw [if_neg h0];exact Q9 h0
  | nm =>
   simp only [rd]
   have hnl:=hR.name_lt ha
   split
   ·rename_i h
    have hlt:=hnl.2.2 h
    split
    ·rename_i h
     have h1:=Ko hR f .ar (R.name a).2.2 d hnl.1 (fun _=>hR.is_lt h)
     have h2:=ih .ar (R.name a).2.2 d hnl.1 (fun _=>hR.is_lt h) trivial
     generalize rd R f .ar (R.name a).2.2 d=g at h1 h2 ⊢
     by_cases h0:g.r=0
     ·rw [if_pos h0]
      have h3:=h2 h0
      have h4:=h3.2
      have h5:=cnts_len g.e.l
      have h6:=h1.2.1
      exact Qeh (m:=.nm) (fun _=>rfl) (Qeg h3.1 (by omega)) (by rw [call_cnt];omega)
     ·rw [if_neg h0];exact Q9 h0
    ·intro _
     have:=Qfx (e:=Qfv (R.ps a) (R.name a).2.1) rfl
     exact ⟨this.1,by show (Qfv (R.ps a) (R.name a).2.1).cnt+a≤(R.name a).2.2;rw [this.2];omega⟩
   ·exact Q9 (by decide)
  | ar =>
   simp only [rd]
   split
   ·exact Q9 (by decide)
   ·split
    ·exact fun _=>⟨(fun x hx=>by cases hx),by show 0+a+1≤a+2;omega⟩
    ·have h2:=ih (.an []) (a+1) (d+1) (hth rfl) (fun h=>by cases h) (fun x hx=>by cases hx)
     intro hr
     have h3:=h2 hr
     exact ⟨h3.1,by have h4:=h3.2;rw [Qbx] at h4;omega⟩
  | an acc =>
   simp only [rd]
   have h1:=Ko hR f (.lev 1) a d ha (fun h=>by cases h)
   have h2:=ih (.lev 1) a d ha (fun h=>by cases h) trivial
   generalize rd R f (.lev 1) a d=g at h1 h2 ⊢
   by_cases h0:g.r=0
   ·rw [if_pos h0]
    have h3:=h2 h0
    have hacc:∀ x∈acc++[g.e],Fine x:=fun x hx=>by
     rcases List.mem_append.1 hx with h | h
     ·exact hpre x h
     ·rw [List.mem_singleton.1 h];exact h3.1
    split
    ·rename_i h
     have h4:=ih (.an (acc++[g.e])) (g.p+1) d (hR.is_lt h) (fun h=>by cases h) hacc
     intro hr
     have h5:=h4 hr
     refine ⟨h5.1,?_⟩
     have h6:=h5.2
     rw [Qiv,Kv,Qbx] at h6
     have:=h3.2
     omega
    ·split
     ·refine fun _=>⟨hacc,?_⟩
      show Qhm (acc++[g.e])+a≤g.p+1+Qhm acc
      rw [Qiv,Kv,Qbx]
      have:=h3.2
      omega
     ·exact Q9 (by decide)
   ·rw [if_neg h0];exact Q9 h0
open Go.RowKit
theorem Jx{ops:Array Oper}{rest:List Oper}{o:Oper}{a:Act}{w:World}{Q:Exit→Act→World→Prop}(hgd:o.guard=none)(x:Operand)(ho:o.op=.load 81 x)(G off:Nat)(hx:a.eval x=.pointer (some ⟨G,off,none⟩)){e:Ex}{lv:Value}(hs:w.rangeAt G off (exC e lv))
  (h:wpList Try.prog ops Q rest (a.put o.dst (.agg #[.int .i64 e.k,.int .i64 e.a,.int .i64 e.m,.string e.nm,.string e.lb,lv])) w):wpList Try.prog ops Q (o::rest) a w:=
 Qj7 hgd x ho G off hx hs h
def Qbn(R:Rw):Nat→List ByteArray→Nat×Int
 | p,[]=>(p,0)
 | p,s::r=>if R.is p s.toList=true then Qbn R (p+1) r else (p,11)
theorem Sh.gb{w w':World}{B n:Nat}{A:Option Addr}{xs:List Value}{r:Option Nat}(h:Sh w B A n xs)(hB:B≤w.heap.size)(hg:w.grownBy w' r)(hr:∀ b off,A=some ⟨b,off,none⟩→some b≠r):Sh w' B A n xs:=by
 refine ⟨h.1,fun hn=>?_⟩
 obtain ⟨b,off,e,hb,hc⟩:=h.2 hn
 exact ⟨b,off,e,hb,fun k u hu=>(World.cell?_of_block (a:=⟨b,_,none⟩) (hg.block b (by omega) (hr b off e))).trans (hc k u hu)⟩
def Ql1(s:ByteArray):Prop:=s.data.toList≠[]∧∀ c∈s.data.toList,48≤c.toNat∧c.toNat≤57
theorem Qix(M:Nat):∀ (l:List UInt8) (acc:Nat),(∀ c∈l,48≤c.toNat∧c.toNat≤57)→(∃ u,Lib.parseUintM M acc l=.ok u)∨Lib.parseUintM M acc l=.range
 | [],acc,_=>.inl ⟨acc,by unfold Lib.parseUintM;rfl⟩
 | c::l,acc,h=>by
  unfold Lib.parseUintM
  rw [if_pos (h c (by simp))]
  split
  ·exact .inr rfl
  ·split
   ·exact .inr rfl
   ·exact Qix M l _ fun x hx=>h x (by simp [hx])
def numG(R:Rw)(p:Nat):Gt:=match numB (R.wd p) with
 | some v=>good (eNum (R.ps p) v) (p+1)
 | none=>bad p 18
theorem Qdo(w:World):Kp (w.alloc (.cells z6 81)) w.heap.size Ex.nul (.slice none 0 0):=Kp.new w Ex.nul (.slice none 0 0) 81 rfl
end Go.Proofs.Ytjoclbeoafeebaa
