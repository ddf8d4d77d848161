import Derived.Test.YtjoclbeoafeebaaStM
import Derived.Test.YtjoclbeoafeebaaMSz
import Derived.Test.YtjoclbeoafeebaaStN
namespace Go.Proofs.Ytjoclbeoafeebaa
set_option linter.unusedVariables false
set_option linter.unusedSimpArgs false
structure NmT where
 nm:ByteArray
 a:Int
def NmT.nul:NmT:=⟨⟨#[]⟩,0⟩
structure VrT where
 nm:ByteArray
 a:Int
 ty:Int
 an:An
structure PrT where
 lo:ByteArray
 hi:ByteArray
 a:Int
structure FnT where
 nm:ByteArray
 a:Int
 ps:List VrT
 ty:Int
 an:An
 rs:Bool
 rl:List NmT
 bd:List St
 re:Ex
structure MoT where
 im:List NmT
 hl:Bool
 la:List PrT
 he:Bool
 ef:List NmT
 va:List VrT
 fn:List FnT
def MoT.nul:MoT:=⟨[],false,[],false,[],[],[]⟩
abbrev wImp:ByteArray:=⟨#[105,109,112,111,114,116]⟩
abbrev wLat:ByteArray:=⟨#[108,97,116,116,105,99,101]⟩
abbrev wEff:ByteArray:=⟨#[101,102,102,101,99,116,115]⟩
abbrev wVar:ByteArray:=⟨#[118,97,114]⟩
abbrev wFn:ByteArray:=⟨#[102,110]⟩
abbrev Qmc:ByteArray:=⟨#[114,101,116,117,114,110]⟩
abbrev Qay:List UInt8:=[105,109,112,111,114,116]
abbrev Uo:List UInt8:=[108,97,116,116,105,99,101]
abbrev Ut:List UInt8:=[101,102,102,101,99,116,115]
abbrev Qa4:List UInt8:=[118,97,114]
abbrev lFn:List UInt8:=[102,110]
def tkW(R:Rw)(x:Nat×Int)(l:List UInt8):Bool:=if x.2=0 then R.is x.1 l else false
def tkX(x:Nat×Int)(b:Bool):Nat×Int:=if b=true then (x.1+1,x.2) else x
def fnm(R:Rw)(x:Nat×Int):NmT×(Nat×Int):=if x.2=0 then (if R.idn x.1=true then (⟨R.wd x.1,R.ps x.1⟩,(x.1+1,0)) else (NmT.nul,(x.1,11))) else (NmT.nul,x)
def fvr(R:Rw)(x:Nat×Int):VrT×(Nat×Int):=
 let y:=fnm R x
 let z:=pty R (mu R y.2 [Qek])
 let u:=pmk R z.2
 (⟨y.1.nm,y.1.a,z.1,u.1⟩,u.2)
def fpr(R:Rw)(x:Nat×Int):PrT×(Nat×Int):=
 let y:=fnm R x
 if tkW R y.2 [60]=true then (⟨y.1.nm,(fnm R (tkX y.2 true)).1.nm,y.1.a⟩,(fnm R (tkX y.2 true)).2)
 else (⟨y.1.nm,⟨#[]⟩,y.1.a⟩,y.2)
section
variable {σ:Type} (R:Rw) (one:σ→Nat×Int→σ×(Nat×Int))
def Qbo:Nat→σ→Nat×Int→σ×(Nat×Int)
 | 0,s,x=>(s,x)
 | f+1,s,x=>if x.2=0 then (if R.is x.1 [125]=true then (s,(x.1+1,0)) else Qbo f (one s x).1 (mu R (one s x).2 [Jr])) else (s,x)
def lns(f:Nat)(s:σ)(x:Nat×Int):σ×(Nat×Int):=Qbo R one f s (mu R x [Uy])
def Qlb:Nat→σ→Nat×Int→σ×(Nat×Int)
 | 0,s,x=>(s,x)
 | f+1,s,x=>if tkW R x [44]=true then Qlb f (one s (tkX x true)).1 (one s (tkX x true)).2 else (s,x)
def lst(e:ByteArray)(f:Nat)(s:σ)(x:Nat×Int):σ×(Nat×Int):=
 if tkW R x e.toList=true then (s,tkX x true)
 else ((Qlb R one f (one s x).1 (one s x).2).1,mu R (Qlb R one f (one s x).1 (one s x).2).2 [e])
end
def onN(R:Rw)(s:List NmT)(x:Nat×Int):List NmT×(Nat×Int):=(s++[(fnm R x).1],(fnm R x).2)
def onP(R:Rw)(s:List PrT)(x:Nat×Int):List PrT×(Nat×Int):=(s++[(fpr R x).1],(fpr R x).2)
def onV(R:Rw)(s:List VrT)(x:Nat×Int):List VrT×(Nat×Int):=
 let x':=if s.length=8 then (x.1,3) else x
 (s++[(fvr R x').1],(fvr R x').2)
def prow(R:Rw)(F f:Nat)(x:Nat×Int):List St×(Nat×Int):=
 if x.2=0 then (if (rs R F f (.row []) x.1 1).r=0 then ((rs R F f (.row []) x.1 1).l,((rs R F f (.row []) x.1 1).p,0)) else ([],((rs R F f (.row []) x.1 1).p,(rs R F f (.row []) x.1 1).r))) else ([],x)
def ffn(R:Rw)(F f:Nat)(x:Nat×Int):FnT×(Nat×Int):=
 let n:=fnm R (mu R x [wFn])
 let ps:=lst R (onV R) Qda f [] (mu R n.2 [Qc9])
 let ty:=pty R (mu R ps.2 [Qek])
 let an:=pmk R ty.2
 let b:=tkW R an.2 [47]
 let rl:=if b=true then lst R (onN R) Km f [] (mu R (tkX an.2 true) [Uy]) else ([],an.2)
 let bd:=prow R F f (mu R rl.2 [Uy])
 let re:=pex R F (mu R bd.2 [Qmc])
 (⟨n.1.nm,n.1.a,ps.1,ty.1,an.1,b,rl.1,bd.1,re.1⟩,mu R re.2 [Jr,Km])
def fit(R:Rw)(F f:Nat)(m:MoT)(p:Nat):MoT×(Nat×Int):=
 if R.is p Qay=true then
  let n:=fnm R (mu R (p,0) [wImp])
  ({ m with im:=m.im++[n.1] },mu R n.2 [Jr])
 else if R.is p Uo=true then
  let y:=lns R (onP R) f m.la (mu R (p,if m.hl=true then 11 else 0) [wLat])
  ({ m with hl:=true,la:=y.1 },y.2)
 else if R.is p Ut=true then
  let y:=lns R (onN R) f m.ef (mu R (p,if m.he=true then 11 else 0) [wEff])
  ({ m with he:=true,ef:=y.1 },y.2)
 else if R.is p Qa4=true then
  let v:=fvr R (mu R (p,0) [wVar])
  ({ m with va:=m.va++[v.1] },mu R v.2 [Jr])
 else if R.is p lFn=true then
  let g:=ffn R F f (p,0)
  ({ m with fn:=m.fn++[g.1] },g.2)
 else (m,(p,11))
def Qdv(R:Rw)(F f:Nat):Nat→MoT→Nat×Int→MoT×(Nat×Int)
 | 0,m,x=>(m,x)
 | k+1,m,x=>if x.2=0∧¬ x.1=R.n then Qdv R F f k (fit R F f m x.1).1 (fit R F f m x.1).2 else (m,x)
def Qck(R:Rw)(L:List Tk)(n F f:Nat):MoT×Int×Int:=
 if 16384<n then (MoT.nul,16384,3)
 else if Qhk L=true then (MoT.nul,(Qfu L).2.1,10)
 else if (Qdv R F f f MoT.nul (0,0)).2.2=0 then ((Qdv R F f f MoT.nul (0,0)).1,R.ps (Qdv R F f f MoT.nul (0,0)).2.1,0)
 else (MoT.nul,R.ps (Qdv R F f f MoT.nul (0,0)).2.1,(Qdv R F f f MoT.nul (0,0)).2.2)
section
variable {R:Rw} {x y:Nat×Int}
theorem tk_up(hR:R.Ok){c:UInt8}{t:List UInt8}(h:x.1≤R.n)(hb:tkW R x (c::t)=true):Up R 1 x (tkX x true):=by
 unfold tkW at hb
 split at hb
 ·rename_i h0
  have:=hR.is_lt hb
  exact ⟨by show x.1≤x.1+1;omega,by show x.1+1≤R.n;omega,fun _=>⟨h0,Nat.le_refl _⟩⟩
 ·cases hb
theorem Qbf(hR:R.Ok)(h:x.1≤R.n):Up R 1 x (fnm R x).2:=by
 unfold fnm
 by_cases h0:x.2=0
 ·rw [if_pos h0]
  cases hi:R.idn x.1 with
  | true =>
   have:=hR.id_lt hi
   exact ⟨by show x.1≤x.1+1;omega,by show x.1+1≤R.n;omega,fun _=>⟨h0,Nat.le_refl _⟩⟩
  | false =>
   rw [if_neg (by decide)]
   exact Up.bad h (by decide)
 ·rw [if_neg h0]
  exact Up.stay h h0
theorem Qcl(hR:R.Ok)(h:x.1≤R.n):Up R 1 x (fvr R x).2:=by
 unfold fvr
 have h1:=Qbf hR h
 have h2:=mw hR 58 [] h1.n
 have h3:=Qi1 hR h2.n
 have h4:=Qds hR h3.n
 exact (((h1.trans h2).trans h3).trans h4).weak (by omega)
theorem fpr_up(hR:R.Ok)(h:x.1≤R.n):Up R 1 x (fpr R x).2:=by
 unfold fpr
 dsimp only
 have h1:=Qbf hR h
 cases hb:tkW R (fnm R x).2 [60] with
 | true =>
  rw [if_pos rfl]
  have h2:=tk_up hR h1.n hb
  exact ((h1.trans h2).trans (Qbf hR h2.n)).weak (by omega)
 | false =>
  rw [if_neg (by decide)]
  exact h1
theorem Qf5(hR:R.Ok)(s:List NmT)(h:x.1≤R.n):Up R 1 x (onN R s x).2:=Qbf hR h
theorem Qmd(hR:R.Ok)(s:List PrT)(h:x.1≤R.n):Up R 1 x (onP R s x).2:=fpr_up hR h
theorem onV_up(hR:R.Ok)(s:List VrT)(h:x.1≤R.n):Up R 1 x (onV R s x).2:=by
 unfold onV
 by_cases h8:s.length=8
 ·rw [if_pos h8]
  have:=Qcl hR (x:=(x.1,3)) h
  exact ⟨this.le,this.n,fun e=>absurd (show (3:Int)=0 from (this.st e).1) (by decide)⟩
 ·rw [if_neg h8]
  exact Qcl hR h
theorem lnsL_up{σ:Type}{one:σ→Nat×Int→σ×(Nat×Int)}(hR:R.Ok)(ho:∀ s (x:Nat×Int),x.1≤R.n→Up R 0 x (one s x).2):∀ (f:Nat) (s:σ) (x:Nat×Int),x.1≤R.n→Up R 0 x (Qbo R one f s x).2:=by
 intro f
 induction f with
 | zero=>intro s x h;exact Up.refl h
 | succ f ih =>
  intro s x h
  unfold Qbo
  by_cases h0:x.2=0
  ·rw [if_pos h0]
   cases hi:R.is x.1 [125] with
   | true =>
    have:=hR.is_lt hi
    exact ⟨by show x.1≤x.1+1;omega,by show x.1+1≤R.n;omega,fun _=>⟨h0,by show x.1+0≤x.1+1;omega⟩⟩
   | false =>
    rw [if_neg (by decide)]
    have h1:=ho s x h
    have h2:=mw hR 59 [] h1.n
    exact ((h1.trans h2).trans (ih _ _ h2.n)).weak (Nat.zero_le _)
  ·rw [if_neg h0]
   exact Up.refl h
theorem Qi2{σ:Type}{one:σ→Nat×Int→σ×(Nat×Int)}(hR:R.Ok)(ho:∀ s (x:Nat×Int),x.1≤R.n→Up R 0 x (one s x).2)(f:Nat)(s:σ)(h:x.1≤R.n):Up R 1 x (lns R one f s x).2:=by
 have h1:=mw hR 123 [] h
 exact (h1.trans (lnsL_up hR ho f s _ h1.n)).weak (by omega)
theorem lstL_up{σ:Type}{one:σ→Nat×Int→σ×(Nat×Int)}(hR:R.Ok)(ho:∀ s (x:Nat×Int),x.1≤R.n→Up R 0 x (one s x).2):∀ (f:Nat) (s:σ) (x:Nat×Int),x.1≤R.n→Up R 0 x (Qlb R one f s x).2:=by
 intro f
 induction f with
 | zero=>intro s x h;exact Up.refl h
 | succ f ih =>
  intro s x h
  unfold Qlb
  cases hb:tkW R x [44] with
  | true =>
   rw [if_pos rfl]
   have h1:=tk_up hR h hb
   have h2:=ho s _ h1.n
   exact ((h1.trans h2).trans (ih _ _ h2.n)).weak (Nat.zero_le _)
  | false =>
   rw [if_neg (by decide)]
   exact Up.refl h
theorem Qi3{σ:Type}{one:σ→Nat×Int→σ×(Nat×Int)}(hR:R.Ok)(ho:∀ s (x:Nat×Int),x.1≤R.n→Up R 0 x (one s x).2)(c:UInt8)(t:List UInt8)(f:Nat)(s:σ)(h:x.1≤R.n):Up R 1 x (lst R one ⟨(c::t).toArray⟩ f s x).2:=by
 unfold lst
 rw [wd1]
 cases hb:tkW R x (c::t) with
 | true =>
  rw [if_pos rfl]
  exact tk_up hR h hb
 | false =>
  rw [if_neg (by decide)]
  have h1:=ho s x h
  have h2:=lstL_up hR ho f (one s x).1 _ h1.n
  have h3:=mw hR c t h2.n
  exact ((h1.trans h2).trans h3).weak (by omega)
theorem rs_le(hR:R.Ok){F:Nat}:∀ (f:Nat) (m:Ms) (p:Nat) (d:Int),p≤R.n→p≤(rs R F f m p d).p∧(rs R F f m p d).p≤R.n:=by
 intro f
 induction f with
 | zero=>intro m p d h;unfold rs;exact ⟨Nat.le_refl _,h⟩
 | succ f ih =>
  intro m p d h
  cases m with
  | row acc =>
   rw [Qdt]
   split
   ·exact ⟨Nat.le_refl _,h⟩
   ·have h1:=ih .st p d h
    split
    ·have h2:=ih (.row (acc++[(rs R F f .st p d).s])) _ d h1.2
     exact ⟨Nat.le_trans h1.1 h2.1,h2.2⟩
    ·exact h1
  | blk =>
   rw [Qdu]
   split
   ·rename_i h0
    have hlt:=hR.is_lt h0
    split
    ·exact ⟨Nat.le_refl _,h⟩
    ·have h1:=ih (.row []) (p+1) (d+1) (by omega)
     split
     ·split
      ·rename_i h3
       have:=hR.is_lt h3
       exact ⟨by show p≤(rs R F f (.row []) (p+1) (d+1)).p+1;omega,by show (rs R F f (.row []) (p+1) (d+1)).p+1≤R.n;omega⟩
      ·exact ⟨by show p≤(rs R F f (.row []) (p+1) (d+1)).p;omega,h1.2⟩
     ·exact ⟨by show p≤(rs R F f (.row []) (p+1) (d+1)).p;omega,h1.2⟩
   ·exact ⟨Nat.le_refl _,h⟩
  | st =>
   rw [Qke]
   have h0:=Ql6 hR F h
   have h0l:p≤(hdS R F p).2.1:=h0.le
   have h0n:(hdS R F p).2.1≤R.n:=h0.n
   split
   ·split
    ·have h1:=ih .blk (hdS R F p).2.1 d h0n
     split
     ·split
      ·rename_i h3
       have hlt:=hR.is_lt h3.2
       have h2:=ih .blk ((rs R F f .blk (hdS R F p).2.1 d).p+1) d (by omega)
       split
       ·exact ⟨by show p≤(rs R F f .blk ((rs R F f .blk (hdS R F p).2.1 d).p+1) d).p;omega,h2.2⟩
       ·exact ⟨by show p≤(rs R F f .blk ((rs R F f .blk (hdS R F p).2.1 d).p+1) d).p;omega,h2.2⟩
      ·exact ⟨Nat.le_trans h0l h1.1,h1.2⟩
     ·exact ⟨Nat.le_trans h0l h1.1,h1.2⟩
    ·exact ⟨h0l,h0n⟩
   ·exact ⟨h0l,h0n⟩
theorem prow_up(hR:R.Ok)(F f:Nat)(h:x.1≤R.n):Up R 0 x (prow R F f x).2:=by
 unfold prow
 by_cases h0:x.2=0
 ·rw [if_pos h0]
  have:=rs_le hR (F:=F) f (.row []) x.1 1 h
  by_cases h1:(rs R F f (.row []) x.1 1).r=0
  ·rw [if_pos h1]
   exact ⟨this.1,this.2,fun _=>⟨h0,by show x.1+0≤_;exact this.1⟩⟩
  ·rw [if_neg h1]
   exact ⟨this.1,this.2,fun e=>absurd e h1⟩
 ·rw [if_neg h0]
  exact Up.refl h
theorem ffn_up(hR:R.Ok)(F f:Nat)(h:x.1≤R.n):Up R 1 x (ffn R F f x).2:=by
 unfold ffn
 have h1:=mw hR 102 [110] h
 have h2:=Qbf hR h1.n
 have h3:=mw hR 40 [] h2.n
 have h4:=Qi3 hR (fun s x hx=>(onV_up hR s hx).weak (Nat.zero_le 1)) 41 [] f [] h3.n
 have h5:=mw hR 58 [] h4.n
 have h6:=Qi1 hR h5.n
 have h7:=Qds hR h6.n
 have h17:=((((((h1.trans h2).trans h3).trans h4).trans h5).trans h6).trans h7)
 have hn:(pmk R (pty R (mu R (lst R (onV R) Qda f [] (mu R (fnm R (mu R x [wFn])).2 [Qc9])).2 [Qek])).2).2.1≤R.n:=h7.n
 obtain ⟨z,hz⟩:∃ z,pmk R (pty R (mu R (lst R (onV R) Qda f [] (mu R (fnm R (mu R x [wFn])).2 [Qc9])).2 [Qek])).2=z:=⟨_,rfl⟩
 have hz':Up R 1 x z.2:=by rw [← hz];exact h17.weak (by omega)
 dsimp only
 rw [hz]
 have h8:Up R 0 z.2 (if tkW R z.2 [47]=true then lst R (onN R) Km f [] (mu R (tkX z.2 true) [Uy]) else ([],z.2)).2:=by
  cases hb:tkW R z.2 [47] with
  | true =>
   rw [if_pos rfl]
   have k1:=tk_up hR hz'.n hb
   have k2:=mw hR 123 [] k1.n
   exact ((k1.trans k2).trans (Qi3 hR (fun s x hx=>(Qf5 hR s hx).weak (Nat.zero_le 1)) 125 [] f [] k2.n)).weak (Nat.zero_le _)
  | false =>
   rw [if_neg (by decide)]
   exact Up.refl hz'.n
 have h9:=mw hR 123 [] h8.n
 have h10:=prow_up hR F f h9.n
 have h11:=mw hR 114 [101,116,117,114,110] h10.n
 have h12:=Qf3 hR F h11.n
 have h13:=mu_up hR [Jr,Km] (fun s hs=>by
  rcases List.mem_cons.1 hs with rfl | hs
  ·exact ⟨59,[],wd1 59 []⟩
  ·rw [List.mem_singleton.1 hs];exact ⟨125,[],wd1 125 []⟩) _ h12.n
 exact ((((((hz'.trans h8).trans h9).trans h10).trans h11).trans h12).trans h13).weak (by simp)
theorem fit_up(hR:R.Ok)(F f:Nat)(m:MoT){p:Nat}(h:p≤R.n):Up R 1 (p,0) (fit R F f m p).2:=by
 unfold fit
 have hbad:∀ (b:Bool) (z:Nat×Int),Up R 1 (p,if b=true then 11 else 0) z→Up R 1 (p,0) z:=fun b z hz=>⟨hz.le,hz.n,fun e=>⟨rfl,(hz.st e).2⟩⟩
 split
 ·have h1:=mw hR 105 [109,112,111,114,116] (x:=(p,0)) h
  have h2:=Qbf hR h1.n
  exact ((h1.trans h2).trans (mw hR 59 [] h2.n)).weak (by omega)
 ·split
  ·refine hbad m.hl _ ?_
   have h1:=mw hR 108 [97,116,116,105,99,101] (x:=(p,if m.hl=true then 11 else 0)) h
   exact (h1.trans (Qi2 hR (fun s x hx=>(Qmd hR s hx).weak (Nat.zero_le 1)) f m.la h1.n)).weak (by omega)
  ·split
   ·refine hbad m.he _ ?_
    have h1:=mw hR 101 [102,102,101,99,116,115] (x:=(p,if m.he=true then 11 else 0)) h
    exact (h1.trans (Qi2 hR (fun s x hx=>(Qf5 hR s hx).weak (Nat.zero_le 1)) f m.ef h1.n)).weak (by omega)
   ·split
    ·have h1:=mw hR 118 [97,114] (x:=(p,0)) h
     have h2:=Qcl hR h1.n
     exact ((h1.trans h2).trans (mw hR 59 [] h2.n)).weak (by omega)
    ·split
     ·exact ffn_up hR F f h
     ·exact Up.bad h (by decide)
end
open Go.RowKit
def nmC(x:NmT):List Value:=[.string x.nm,.int .i64 x.a]
def prC(x:PrT):List Value:=[.string x.lo,.string x.hi,.int .i64 x.a]
def vrC(x:VrT):List Value:=[.string x.nm,.int .i64 x.a,.int .i64 x.ty,.bool x.an.so,.bool x.an.lk,.string x.an.lb,.int .i64 x.an.fr,.int .i64 x.an.to]
structure FnV where
 ps:Value
 rl:Value
 bd:Value
 re:Value
def FnV.nul:FnV:=⟨.slice none 0 0,.slice none 0 0,.slice none 0 0,.slice none 0 0⟩
def FnT.nul:FnT:=⟨⟨#[]⟩,0,[],0,An.nul,false,[],[],Ex.nul⟩
def fnC(x:FnT)(v:FnV):List Value:=[.string x.nm,.int .i64 x.a,v.ps,.int .i64 x.ty,.bool x.an.so,.bool x.an.lk,.string x.an.lb,.int .i64 x.an.fr,.int .i64 x.an.to,.bool x.rs,v.rl,v.bd,
 .int .i64 x.re.k,.int .i64 x.re.a,.int .i64 x.re.m,.string x.re.nm,.string x.re.lb,v.re]
theorem Qcm(x:NmT):∀ u∈nmC x,u.oneCell'=true:=by
 intro u hu;simp [nmC] at hu;rcases hu with rfl | rfl <;> rfl
theorem Yx(x:PrT):∀ u∈prC x,u.oneCell'=true:=by
 intro u hu;simp [prC] at hu;rcases hu with rfl | rfl | rfl <;> rfl
theorem Jj(x:VrT):∀ u∈vrC x,u.oneCell'=true:=by
 intro u hu;simp [vrC] at hu;rcases hu with rfl | rfl | rfl | rfl | rfl | rfl | rfl | rfl <;> rfl
theorem Qeo:(Try.prog.info? 53).map (·.size)=some 2:=by kernel_rfl
theorem Ke:(Try.prog.info? 127).map (·.size)=some 3:=by kernel_rfl
theorem Yo:(Try.prog.info? 75).map (·.size)=some 8:=by kernel_rfl
theorem Zr:(Try.prog.info? 83).map (·.size)=some 18:=by kernel_rfl
theorem Q7:(Try.prog.info? 51).map (·.size)=some 7:=by kernel_rfl
theorem Qkg:Kq Try.prog 46 53 2 24:=Kq.mk (z:=.agg #[.string ⟨#[]⟩,.int .i64 0]) Try.underlying46 (by kernel_rfl) rfl (by omega)
theorem Qbp:Kq Try.prog 47 127 3 40:=Kq.mk (z:=.agg #[.string ⟨#[]⟩,.string ⟨#[]⟩,.int .i64 0]) Try.underlying47 (by kernel_rfl) rfl (by omega)
theorem Qf6:Kq Try.prog 48 75 8 72:=Kq.mk (z:=.agg #[.string ⟨#[]⟩,.int .i64 0,.int .i64 0,.bool false,.bool false,.string ⟨#[]⟩,.int .i64 0,.int .i64 0]) Try.underlying48 (by kernel_rfl) rfl (by omega)
theorem Qkh:Kq Try.prog 49 83 18 232:=Kq.mk (z:=.agg #[.string ⟨#[]⟩,.int .i64 0,.slice none 0 0,.int .i64 0,.bool false,.bool false,.string ⟨#[]⟩,.int .i64 0,.int .i64 0,.bool false,.slice none 0 0,.slice none 0 0,
 .int .i64 0,.int .i64 0,.int .i64 0,.string ⟨#[]⟩,.string ⟨#[]⟩,.slice none 0 0]) Try.underlying49 (by kernel_rfl) rfl (by omega)
def nms(l:List NmT):List Value:=l.flatMap nmC
def prs(l:List PrT):List Value:=l.flatMap prC
def vrs(l:List VrT):List Value:=l.flatMap vrC
def fns(l:List (FnT×FnV)):List Value:=l.flatMap fun q=>fnC q.1 q.2
theorem Qb0(l:List NmT)(x:NmT):nms (l++[x])=nms l++nmC x:=by simp [nms]
theorem Ua(l:List PrT)(x:PrT):prs (l++[x])=prs l++prC x:=by simp [prs]
theorem Qag(l:List VrT)(x:VrT):vrs (l++[x])=vrs l++vrC x:=by simp [vrs]
theorem Qep(l:List (FnT×FnV))(q:FnT×FnV):fns (l++[q])=fns l++fnC q.1 q.2:=by simp [fns]
def ShV(w:World)(S:Nat→Prop)(lv:Value)(n:Nat)(cs:List Value):Prop:=
 ∃ A c,lv=.slice A n c∧n≤c∧(0<n→∃ b off,A=some ⟨b,off,none⟩∧S b∧b<w.heap.size∧w.rangeAt b off cs)
section
variable {w w':World} {S S':Nat→Prop} {lv:Value} {n:Nat} {cs:List Value}
theorem ShV.nil:ShV w S (.slice none 0 0) 0 cs:=⟨none,0,rfl,Nat.le_refl _,fun h=>absurd h (by omega)⟩
theorem ShV.keep(h:ShV w S lv n cs)(hS:∀ b,S b→b<w.heap.size→S' b∧b<w'.heap.size∧w'.heap[b]?=w.heap[b]?):ShV w' S' lv n cs:=by
 obtain ⟨A,c,e,hc,hr⟩:=h
 refine ⟨A,c,e,hc,fun hn=>?_⟩
 obtain ⟨b,off,e2,hb,hlt,hrg⟩:=hr hn
 obtain ⟨k1,k2,k3⟩:=hS b hb hlt
 exact ⟨b,off,e2,k1,k2,fun i v hv=>(World.cell?_of_block (a:=⟨b,_,none⟩) k3).trans (hrg i v hv)⟩
theorem ShV.turn{M:Nat→Prop}(h:ShV w S lv n cs)(ht:Tn M w w')(hS:∀ b,S b→b<w.heap.size→S' b∧¬ M b):ShV w' S' lv n cs:=
 h.keep fun b h1 h2=>⟨(hS b h1 h2).1,Nat.lt_of_lt_of_le h2 ht.size,ht.block b h2 (hS b h1 h2).2⟩
theorem ShV.weak(h:ShV w S lv n cs)(hS:∀ b,S b→b<w.heap.size→S' b):ShV w S' lv n cs:=h.keep fun b h1 h2=>⟨hS b h1 h2,h2,rfl⟩
theorem ShV.under(h:ShV w S lv n cs)(hb:Below w.heap.size w w'):ShV w' S lv n cs:=h.keep fun b h1 h2=>⟨h1,Nat.lt_of_lt_of_le h2 hb.size,hb.block b h2⟩
theorem ShV.one(h:ShV w S lv n cs):lv.oneCell'=true:=by
 obtain ⟨A,c,rfl,_⟩:=h
 rfl
theorem ShV.of_own{B size:Nat}{e:TypeId}(h:Own w B e size lv n cs)(hS:∀ b,B≤b→b<w.heap.size→lv.ownBlock=some b→S b):ShV w S lv n cs:=by
 rcases Nat.eq_zero_or_pos n with h0 | h0
 ·subst h0
  obtain ⟨A,c,rfl⟩:=h.form
  exact ⟨A,c,rfl,Nat.zero_le _,fun h=>absurd h (by omega)⟩
 ·obtain ⟨g,cap,hv,hle,hlt⟩:=h.1.form h0
  subst hv
  refine ⟨_,cap,rfl,(h.cap).1,fun _=>⟨g,0,rfl,hS g hle hlt rfl,hlt,fun j u hu=>?_⟩⟩
  have:=h.1.cells (g:=g) rfl j u hu
  rwa [Addr.add_lit] at this
end
structure FnS (w:World) (S:Nat→Prop) (x:FnT) (v:FnV):Prop where
 ps:ShV w S v.ps x.ps.length (vrs x.ps)
 rl:ShV w S v.rl x.rl.length (nms x.rl)
 bd:ShS w S v.bd x.bd
 re:Shx w S v.re x.re.l
section
variable {w w':World} {S S':Nat→Prop} {x:FnT} {v:FnV}
theorem FnS.keep(h:FnS w S x v)(hS:∀ b,S b→b<w.heap.size→S' b∧b<w'.heap.size∧w'.heap[b]?=w.heap[b]?):FnS w' S' x v:=⟨h.ps.keep hS,h.rl.keep hS,h.bd.keep hS,h.re.keep hS⟩
theorem FnS.turn{M:Nat→Prop}(h:FnS w S x v)(ht:Tn M w w')(hS:∀ b,S b→b<w.heap.size→S' b∧¬ M b):FnS w' S' x v:=⟨h.ps.turn ht hS,h.rl.turn ht hS,h.bd.turn ht hS,h.re.turn ht hS⟩
theorem FnS.weak(h:FnS w S x v)(hS:∀ b,S b→b<w.heap.size→S' b):FnS w S' x v:=h.keep fun b h1 h2=>⟨hS b h1 h2,h2,rfl⟩
theorem Qeq{x:FnT}{v:FnV}(h1:v.ps.oneCell'=true)(h2:v.rl.oneCell'=true)(h3:v.bd.oneCell'=true)(h4:v.re.oneCell'=true):∀ u∈fnC x v,u.oneCell'=true:=by
 intro u hu
 simp [fnC] at hu
 rcases hu with rfl | rfl | rfl | rfl | rfl | rfl | rfl | rfl | rfl | rfl | rfl | rfl | rfl | rfl | rfl | rfl | rfl | rfl
 all_goals first | rfl | assumption
theorem FnS.one(h:FnS w S x v):∀ u∈fnC x v,u.oneCell'=true:=Qeq h.ps.one h.rl.one h.bd.one h.re.one
end
structure MoV where
 im:Value
 la:Value
 ef:Value
 va:Value
 fn:Value
def MoV.nul:MoV:=⟨.slice none 0 0,.slice none 0 0,.slice none 0 0,.slice none 0 0,.slice none 0 0⟩
def moC(hl he:Bool)(v:MoV):List Value:=[v.im,.bool hl,v.la,.bool he,v.ef,v.va,v.fn]
section
variable {C:Cx} {G:Nat} {hl he:Bool} {v:MoV} {w w':World} {x:Nat×Int}
end
def MoV.rows(v:MoV)(b:Nat):Prop:=v.im.ownBlock=some b∨v.la.ownBlock=some b∨v.ef.ownBlock=some b∨v.va.ownBlock=some b∨v.fn.ownBlock=some b
def MoX(G:Nat)(v:MoV):Nat→Prop:=fun b=>G<b∧¬ v.rows b
structure MoS (G:Nat) (w:World) (m:MoT) (v:MoV) (FL:List (FnT×FnV)) (k:Nat):Prop where
 im:Own w (G+1) 53 2 v.im m.im.length (nms m.im)
 la:Own w (G+1) 127 3 v.la m.la.length (prs m.la)
 ef:Own w (G+1) 53 2 v.ef m.ef.length (nms m.ef)
 va:Own w (G+1) 75 8 v.va m.va.length (vrs m.va)
 fn:Own w (G+1) 83 18 v.fn FL.length (fns FL)
 fl:FL.map (·.1)=m.fn
 fs:∀ q∈FL,FnS w (MoX G v) q.1 q.2
 ap:Apt v.im v.ef
 li:m.im.length≤k
 ll:m.la.length≤k
 le:m.ef.length≤k
 lv:m.va.length≤k
 lf:FL.length≤k
section
variable {G:Nat} {w w':World} {m:MoT} {v:MoV} {FL:List (FnT×FnV)} {k k':Nat}
theorem MoS.row_lt(h:MoS G w m v FL k){b:Nat}(hb:v.rows b):G<b∧b<w.heap.size:=by
 rcases hb with hb | hb | hb | hb | hb
 ·exact h.im.1.lt b hb
 ·exact h.la.1.lt b hb
 ·exact h.ef.1.lt b hb
 ·exact h.va.1.lt b hb
 ·exact h.fn.1.lt b hb
theorem MoS.turn{M:Nat→Prop}(h:MoS G w m v FL k)(ht:Tn M w w')(hM:∀ k,G<k→k<w.heap.size→¬ M k):MoS G w' m v FL k:=by
 have hr:∀ b,v.rows b→¬ M b:=fun b hb=>hM b (h.row_lt hb).1 (h.row_lt hb).2
 exact ⟨h.im.turn ht (fun k hk=>hr k (.inl hk)),h.la.turn ht (fun k hk=>hr k (.inr (.inl hk))),h.ef.turn ht (fun k hk=>hr k (.inr (.inr (.inl hk)))),h.va.turn ht (fun k hk=>hr k (.inr (.inr (.inr (.inl hk))))),h.fn.turn ht (fun k hk=>hr k (.inr (.inr (.inr (.inr hk))))),
  h.fl,fun q hq=>(h.fs q hq).turn ht fun b hb hl=>⟨hb,hM b hb.1 hl⟩,h.ap,h.li,h.ll,h.le,h.lv,h.lf⟩
theorem MoS.cap(h:MoS G w m v FL k)(hk:k≤k'):MoS G w m v FL k':=⟨h.im,h.la,h.ef,h.va,h.fn,h.fl,h.fs,h.ap,Nat.le_trans h.li hk,Nat.le_trans h.ll hk,Nat.le_trans h.le hk,Nat.le_trans h.lv hk,Nat.le_trans h.lf hk⟩
end
theorem Qki(R:Rw)(p:Nat)(l:List UInt8):tkW R (p,0) l=R.is p l:=by unfold tkW;rw [if_pos rfl]
theorem tkW1(R:Rw)(p:Nat){r:Int}(hr:¬ r=0)(l:List UInt8):tkW R (p,r) l=false:=by unfold tkW;rw [if_neg hr]
theorem zeroPr(w:World):(zeroValue 127).run Try.prog w=.ok (.agg #[.string ⟨#[]⟩,.string ⟨#[]⟩,.int .i64 0]) w:=by kernel_rfl
def VrT.nul:VrT:=⟨⟨#[]⟩,0,0,An.nul⟩
def PrT.nul:PrT:=⟨⟨#[]⟩,⟨#[]⟩,0⟩
section
variable {σ:Type} {R:Rw} {one:σ→Nat×Int→σ×(Nat×Int)} {s:σ} {x:Nat×Int} {g:Nat}
theorem Zs(h:¬ x.2=0):Qbo R one g s x=(s,x):=by
 cases g with
 | zero=>rfl
 | succ g=>unfold Qbo;rw [if_neg h]
theorem Qi4{p:Nat}(h:R.is p [125]=true):Qbo R one (g+1) s (p,0)=(s,(p+1,0)):=by unfold Qbo;rw [if_pos rfl,if_pos h]
theorem Qme{p:Nat}(h:R.is p [125]=false):Qbo R one (g+1) s (p,0)=Qbo R one g (one s (p,0)).1 (mu R (one s (p,0)).2 [Jr]):=by
 conv=>lhs;unfold Qbo
 rw [if_pos rfl,if_neg (by rw [h];decide)]
theorem Qer(h:tkW R x [44]=false):Qlb R one g s x=(s,x):=by
 cases g with
 | zero=>rfl
 | succ g=>unfold Qlb;rw [if_neg (by rw [h];decide)]
theorem lstL_on(h:tkW R x [44]=true):Qlb R one (g+1) s x=Qlb R one g (one s (tkX x true)).1 (one s (tkX x true)).2:=by
 conv=>lhs;unfold Qlb
 rw [if_pos h]
end
theorem Qf7(w:World):(zeroValue 83).run Try.prog w=.ok (.agg #[.string ⟨#[]⟩,.int .i64 0,.slice none 0 0,.int .i64 0,.bool false,.bool false,.string ⟨#[]⟩,.int .i64 0,.int .i64 0,.bool false,.slice none 0 0,.slice none 0 0,.int .i64 0,.int .i64 0,.int .i64 0,.string ⟨#[]⟩,.string ⟨#[]⟩,.slice none 0 0]) w:=by kernel_rfl
def moV(hl he:Bool)(v:MoV):Value:=.agg #[v.im,.bool hl,v.la,.bool he,v.ef,v.va,v.fn]
theorem Qbg(w:World):(zeroValue 51).run Try.prog w=.ok (.agg #[.slice none 0 0,.bool false,.slice none 0 0,.bool false,.slice none 0 0,.slice none 0 0,.slice none 0 0]) w:=by kernel_rfl
structure Zx (w:World) (S:Nat→Prop) (m:MoT) (v:MoV):Prop where
 im:ShV w S v.im m.im.length (nms m.im)
 la:ShV w S v.la m.la.length (prs m.la)
 ef:ShV w S v.ef m.ef.length (nms m.ef)
 va:ShV w S v.va m.va.length (vrs m.va)
 fn:∃ FL:List (FnT×FnV),FL.map (·.1)=m.fn∧ShV w S v.fn FL.length (fns FL)∧∀ q∈FL,FnS w S q.1 q.2
theorem Zx.keep{w w':World}{S S':Nat→Prop}{m:MoT}{v:MoV}(h:Zx w S m v)(hS:∀ b,S b→b<w.heap.size→S' b∧b<w'.heap.size∧w'.heap[b]?=w.heap[b]?):Zx w' S' m v:=by
 obtain ⟨FL,h1,h2,h3⟩:=h.fn
 exact ⟨h.im.keep hS,h.la.keep hS,h.ef.keep hS,h.va.keep hS,FL,h1,h2.keep hS,fun q hq=>(h3 q hq).keep hS⟩
theorem Zx.under{w w':World}{S:Nat→Prop}{m:MoT}{v:MoV}(h:Zx w S m v)(hb:Below w.heap.size w w'):Zx w' S m v:=h.keep fun b h1 h2=>⟨h1,Nat.lt_of_lt_of_le h2 hb.size,hb.block b h2⟩
theorem Zx.weak{w:World}{S S':Nat→Prop}{m:MoT}{v:MoV}(h:Zx w S m v)(hS:∀ b,S b→b<w.heap.size→S' b):Zx w S' m v:=h.keep fun b h1 h2=>⟨hS b h1 h2,h2,rfl⟩
theorem Zx.nul{w:World}{S:Nat→Prop}:Zx w S MoT.nul MoV.nul:=⟨.nil,.nil,.nil,.nil,[],rfl,.nil,fun q hq=>by cases hq⟩
def FpTo(X:MoT×Int×Int)(w:World)(e:Ending)(w':World):Prop:=
 ∃ v,e=.returned (.tuple #[moV X.1.hl X.1.he v,.int .i64 X.2.1,.int .i64 X.2.2])∧Zx w' (fun b=>w.heap.size≤b) X.1 v∧Below w.heap.size w w'
theorem Qes{F:Func}{i j k:Nat}(T:TypeId)(hr:F.results=#[.cell i T,.tmp j,.tmp k]){a:Act}{W:World}{G:Nat}{cs:List Value}{d:TypeDesc}{r s:Value}{Q:Ending→World→Prop}(hp:a.tmps.getD i undef=.pointer (some ⟨G,0,none⟩))(hj:a.tmps.getD j undef=r)(hk:a.tmps.getD k undef=s)(hd:a.defers=[])(hs:Var W G cs)
  (hu:Try.prog.underlying T=some d) (hrow:d.isRow=true) (hT:(Try.prog.info? T).map (·.size)=some cs.length) (hQ:Q (.returned (.tuple #[.agg cs.toArray,r,s])) W):bodyPost Try.prog F Q Exit.ret a W:=by
 have hl:=ldV (P:=Try.prog) T hs.rg hu hrow hT
 have hp':a.tmps[i]?.getD undef=.pointer (some ⟨G,0,none⟩):=by simpa using hp
 have hj':a.tmps[j]?.getD undef=r:=by simpa using hj
 have hk':a.tmps[k]?.getD undef=s:=by simpa using hk
 exact bodyPost_ret (v:=.tuple #[.agg cs.toArray,r,s]) (by simp [results,hr,hp',hj',hk',asAddr,hl]) hd hQ
theorem Qi5{R:Rw}{F f g:Nat}{m:MoT}{x:Nat×Int}(h:¬ (x.2=0∧¬ x.1=R.n)):Qdv R F f g m x=(m,x):=by
 cases g with
 | zero=>rfl
 | succ g=>unfold Qdv;rw [if_neg h]
theorem fits_on{R:Rw}{F f g:Nat}{m:MoT}{p:Nat}(h:¬ p=R.n):Qdv R F f (g+1) m (p,0)=Qdv R F f g (fit R F f m p).1 (fit R F f m p).2:=by
 conv=>lhs;unfold Qdv
 rw [if_pos ⟨rfl,h⟩]
theorem Zt{m:MoT}{v:MoV}{hl he:Bool}(h1:v.im.oneCell'=true)(h2:v.la.oneCell'=true)(h3:v.ef.oneCell'=true)(h4:v.va.oneCell'=true)(h5:v.fn.oneCell'=true):∀ u∈moC hl he v,u.oneCell'=true:=by
 intro u hu
 simp [moC] at hu
 rcases hu with rfl | rfl | rfl | rfl | rfl | rfl | rfl
 all_goals first | rfl | assumption
theorem Zx.one{w:World}{S:Nat→Prop}{m:MoT}{v:MoV}(h:Zx w S m v)(hl he:Bool):∀ u∈moC hl he v,u.oneCell'=true:=by
 obtain ⟨FL,_,h2,_⟩:=h.fn
 exact Zt (m:=m) h.im.one h.la.one h.ef.one h.va.one h2.one
end Go.Proofs.Ytjoclbeoafeebaa
