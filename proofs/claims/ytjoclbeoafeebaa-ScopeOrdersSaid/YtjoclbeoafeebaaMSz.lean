import Derived.Test.YtjoclbeoafeebaaStM
namespace Go.Proofs.Ytjoclbeoafeebaa
set_option linter.unusedVariables false
set_option linter.unusedSimpArgs false
structure Up (R:Rw) (k:Nat) (x y:Nat×Int):Prop where
 le:x.1≤y.1
 n:y.1≤R.n
 st:y.2=0→x.2=0∧x.1+k≤y.1
section
variable {R:Rw} {k j:Nat} {x y z:Nat×Int}
theorem Up.refl(h:x.1≤R.n):Up R 0 x x:=⟨Nat.le_refl _,h,fun e=>⟨e,Nat.le_refl _⟩⟩
theorem Up.trans(h:Up R k x y)(h':Up R j y z):Up R (k+j) x z:=⟨Nat.le_trans h.le h'.le,h'.n,fun e=>by
 obtain ⟨e1,e2⟩:=h'.st e
 obtain ⟨e3,e4⟩:=h.st e1
 exact ⟨e3,by omega⟩⟩
theorem Up.weak(h:Up R k x y)(hj:j≤k):Up R j x y:=⟨h.le,h.n,fun e=>⟨(h.st e).1,by have:=(h.st e).2;omega⟩⟩
theorem Up.bad(h:x.1≤R.n){r:Int}(hr:¬ r=0):Up R k x (x.1,r):=⟨Nat.le_refl _,h,fun e=>absurd e hr⟩
theorem Up.stay(h:x.1≤R.n)(hr:¬ x.2=0):Up R k x x:=⟨Nat.le_refl _,h,fun e=>absurd e hr⟩
theorem mu_up(hR:R.Ok):∀ (l:List ByteArray),(∀ s∈l,∃ c t,s.toList=c::t)→∀ (x:Nat×Int),x.1≤R.n→Up R l.length x (mu R x l)
 | [],_,x,h=>by
  unfold mu
  split
  ·rename_i e
   show Up R 0 x (x.1,0)
   exact ⟨Nat.le_refl _,h,fun _=>⟨e,Nat.le_refl _⟩⟩
  ·exact Up.refl h
 | s::l,hl,x,h=>by
  by_cases hr:x.2=0
  ·obtain ⟨p,r⟩:=x
   dsimp only at hr h
   subst hr
   obtain ⟨c,t,hc⟩:=hl s List.mem_cons_self
   have hl':∀ s∈l,∃ c t,s.toList=c::t:=fun q hq=>hl q (List.mem_cons_of_mem _ hq)
   cases hi:R.is p s.toList with
   | true =>
    have hlt:=hR.is_lt (hc▸hi)
    have e:mu R (p,0) (s::l)=mu R (p+1,0) l:=by
     unfold mu
     rw [if_pos rfl,if_pos rfl]
     show (if R.is p s.toList=true then _ else _)=_
     rw [if_pos hi]
    rw [e]
    have h1:Up R 1 (p,0) (p+1,0):=⟨Nat.le_succ _,hlt,fun _=>⟨rfl,Nat.le_refl _⟩⟩
    exact (h1.trans (mu_up hR l hl' (p+1,0) hlt)).weak (by simp;omega)
   | false =>
    have e:mu R (p,0) (s::l)=(p,11):=by
     unfold mu
     rw [if_pos rfl]
     show (if R.is p s.toList=true then _ else _)=_
     rw [if_neg (by rw [hi];decide)]
    rw [e]
    exact Up.bad (x:=(p,0)) h (by decide)
  ·unfold mu
   rw [if_neg hr]
   exact Up.stay h hr
theorem mu1(hR:R.Ok)(s:ByteArray)(c:UInt8)(t:List UInt8)(hs:s.toList=c::t)(h:x.1≤R.n):Up R 1 x (mu R x [s]):=mu_up hR [s] (fun q hq=>by rw [List.mem_singleton.1 hq];exact ⟨c,t,hs⟩) x h
theorem pnm_up(hR:R.Ok)(h:x.1≤R.n):Up R 1 x (pnm R x).2:=by
 unfold pnm nmS
 split
 ·rename_i e
  split
  ·rename_i hi
   exact ⟨Nat.le_succ _,hR.id_lt hi,fun _=>⟨e,Nat.le_refl _⟩⟩
  ·exact Up.bad h (by decide)
 ·exact Up.stay h (by assumption)
theorem Qi1(hR:R.Ok)(h:x.1≤R.n):Up R 1 x (pty R x).2:=by
 unfold pty tyS
 split
 ·rename_i e
  split
  ·rename_i hi
   exact ⟨Nat.le_succ _,hR.is_lt hi,fun _=>⟨e,Nat.le_refl _⟩⟩
  ·split
   ·rename_i hi
    exact ⟨Nat.le_succ _,hR.is_lt hi,fun _=>⟨e,Nat.le_refl _⟩⟩
   ·exact Up.bad h (by decide)
 ·exact Up.stay h (by assumption)
theorem Qds(hR:R.Ok)(h:x.1≤R.n):Up R 0 x (pmk R x).2:=by
 unfold pmk Yz
 split
 ·rename_i e
  split
  ·rename_i ha
   have hlt:x.1<R.n:=by
    rw [Bool.or_eq_true] at ha
    exact ha.elim hR.is_lt hR.is_lt
   split
   ·rename_i hi
    exact ⟨by show x.1≤x.1+2;omega,by have:=hR.id_lt hi;show x.1+2≤R.n;omega,fun _=>⟨e,by show x.1+0≤x.1+2;omega⟩⟩
   ·exact ⟨by show x.1≤x.1+1;omega,by show x.1+1≤R.n;omega,fun h=>by cases h⟩
  ·exact ⟨Nat.le_refl _,h,fun _=>⟨e,Nat.le_refl _⟩⟩
 ·exact Up.stay h (by assumption)
theorem Qf3(hR:R.Ok)(F:Nat)(h:x.1≤R.n):Up R 0 x (pex R F x).2:=by
 unfold pex exS
 split
 ·rename_i e
  have hi:=Ko hR F (.lev 1) x.1 0 h (fun h=>by cases h)
  exact ⟨hi.1,hi.2.1,fun _=>⟨e,hi.1⟩⟩
 ·exact Up.stay h (by assumption)
theorem wd1(c:UInt8)(t:List UInt8):(⟨(c::t).toArray⟩:ByteArray).toList=c::t:=by rw [ByteArray.toList_eq]
theorem mw(hR:R.Ok)(c:UInt8)(t:List UInt8)(h:x.1≤R.n):Up R 1 x (mu R x [⟨(c::t).toArray⟩]):=mu1 hR _ c t (wd1 c t) h
theorem Ql6(hR:R.Ok)(F:Nat){p:Nat}(h:p≤R.n):Up R 1 (p,0) (hdS R F p).2:=by
 have h0:((p,0):Nat×Int).1≤R.n:=h
 unfold hdS
 split
 ·unfold letS
  dsimp only
  have u1:=mw (x:=(p,0)) hR 108 [101,116] h0
  have u2:=pnm_up hR u1.n
  have u3:=mw hR 58 [] u2.n
  have u4:=Qi1 hR u3.n
  have u5:=Qds hR u4.n
  have u6:=mw hR 61 [] u5.n
  have u7:=Qf3 hR F u6.n
  have u8:=mw hR 59 [] u7.n
  exact (((((((u1.trans u2).trans u3).trans u4).trans u5).trans u6).trans u7).trans u8).weak (by omega)
 have ask:∀ (k a:Int) (c:UInt8) (t:List UInt8),Up R 1 (p,0) (askS R F k a ⟨(c::t).toArray⟩ (p,0)).2:=fun k a c t=>by
  unfold askS
  dsimp only
  have u1:=mu_up hR [⟨(c::t).toArray⟩,Qc9] (fun s hs=>by
   rcases List.mem_cons.1 hs with e | hs
   ·exact ⟨c,t,by rw [e,wd1]⟩
   ·exact ⟨40,[],by rw [List.mem_singleton.1 hs];exact wd1 40 []⟩) (p,0) h0
  have u2:=Qf3 hR F u1.n
  have u3:=mw hR 41 [] u2.n
  exact ((u1.trans u2).trans u3).weak (by omega)
 split
 ·exact ask _ _ 105 [102]
 split
 ·exact ask _ _ 119 [104,105,108,101]
 split
 ·unfold doS
  dsimp only
  have u1:=mw (x:=(p,0)) hR 100 [111] h0
  have u2:=pnm_up hR u1.n
  have u3:=mw hR 59 [] u2.n
  exact ((u1.trans u2).trans u3).weak (by omega)
 ·unfold plS
  dsimp only
  have u1:=Qf3 (x:=(p,0)) hR F h0
  split
  ·split
   ·have u2:=mw hR 61 [] u1.n
    have u3:=Qf3 hR F u2.n
    have u4:=mw hR 59 [] u3.n
    exact (((u1.trans u2).trans u3).trans u4).weak (by omega)
   split
   ·have u2:=mw hR 59 [] u1.n
    exact (u1.trans u2).weak (by omega)
   ·exact ⟨u1.le,u1.n,fun e=>by cases e⟩
  ·rename_i hr
   exact ⟨u1.le,u1.n,fun e=>absurd e hr⟩
structure Mc.Fit (R:Rw) (m:Mc):Prop where
 n:m.p≤R.n
 row:m.row.length≤m.p
 op:m.op.length≤m.p
 ah:∀ b∈m.op,b.ah.length≤m.p
end
section
variable {R:Rw} {F f:Nat} {D:Int} {dn:Mc→Bool}
theorem Qdt{acc:List St}{p:Nat}{d:Int}:rs R F (f+1) (.row acc) p d =
  if Qf0 R p=true then Yn St.nul acc p
  else if (rs R F f .st p d).r=0 then rs R F f (.row (acc++[(rs R F f .st p d).s])) (rs R F f .st p d).p d
  else Kr (rs R F f .st p d).p (rs R F f .st p d).r:=by simp only [rs]
theorem Qdu{p:Nat}{d:Int}:rs R F (f+1) .blk p d =
  if R.is p [123]=true then
   if 32≤d then Kr p 12
   else if (rs R F f (.row []) (p+1) (d+1)).r=0 then
    (if R.is (rs R F f (.row []) (p+1) (d+1)).p [125]=true then Yn St.nul (rs R F f (.row []) (p+1) (d+1)).l ((rs R F f (.row []) (p+1) (d+1)).p+1) else Kr (rs R F f (.row []) (p+1) (d+1)).p 11)
   else Kr (rs R F f (.row []) (p+1) (d+1)).p (rs R F f (.row []) (p+1) (d+1)).r
  else Kr p 11:=by simp only [rs]
theorem Qke{p:Nat}{d:Int}:rs R F (f+1) .st p d =
  if (hdS R F p).2.2=0 then
   if (hdS R F p).1.k=2∨(hdS R F p).1.k=3 then
    if (rs R F f .blk (hdS R F p).2.1 d).r=0 then
     if (hdS R F p).1.k=2∧R.is (rs R F f .blk (hdS R F p).2.1 d).p Qfz=true then
      if (rs R F f .blk ((rs R F f .blk (hdS R F p).2.1 d).p+1) d).r=0 then Yn (((hdS R F p).1.setL (rs R F f .blk (hdS R F p).2.1 d).l).setR (rs R F f .blk ((rs R F f .blk (hdS R F p).2.1 d).p+1) d).l) [] (rs R F f .blk ((rs R F f .blk (hdS R F p).2.1 d).p+1) d).p
      else Kr (rs R F f .blk ((rs R F f .blk (hdS R F p).2.1 d).p+1) d).p (rs R F f .blk ((rs R F f .blk (hdS R F p).2.1 d).p+1) d).r
     else Yn ((hdS R F p).1.setL (rs R F f .blk (hdS R F p).2.1 d).l) [] (rs R F f .blk (hdS R F p).2.1 d).p
    else Kr (rs R F f .blk (hdS R F p).2.1 d).p (rs R F f .blk (hdS R F p).2.1 d).r
   else Yn (hdS R F p).1 [] (hdS R F p).2.1
  else Kr (hdS R F p).2.1 (hdS R F p).2.2:=by simp only [rs]
def Goes(R:Rw)(F:Nat)(D:Int)(dn:Mc→Bool)(m m':Mc):Prop:=∀ x,Qhq R F D dn m' x→Qhq R F D dn m x
def Errs(R:Rw)(F:Nat)(D:Int)(dn:Mc→Bool)(m:Mc)(p:Nat)(r:Int):Prop:=¬ r=0∧∃ x,Qhq R F D dn m x∧x.p=p∧x.r=r
theorem Goes.refl(m:Mc):Goes R F D dn m m:=fun x h=>h
theorem Goes.trans{a b c:Mc}(h:Goes R F D dn a b)(k:Goes R F D dn b c):Goes R F D dn a c:=fun x hx=>h x (k x hx)
theorem Goes.step{m:Mc}(hd:dn m=false)(hr:(m.step R F D).r=0):Goes R F D dn m (m.step R F D):=fun x hx=>.on m x hd hr hx
theorem Errs.step{m:Mc}(hd:dn m=false)(hr:¬ (m.step R F D).r=0):Errs R F D dn m (m.step R F D).p (m.step R F D).r:=⟨hr,_,.err m hd hr,rfl,rfl⟩
theorem Y9{x:Nat×Int}(h:¬ x.2=0)(l:List ByteArray):mu R x l=x:=by unfold mu;rw [if_neg h]
theorem Qhr{p:Nat}{c:UInt8}{t:List UInt8}(h:R.is p (c::t)=true):mu R (p,0) [⟨(c::t).toArray⟩]=(p+1,0):=by
 unfold mu
 rw [if_pos rfl]
 show (if R.is p (⟨(c::t).toArray⟩:ByteArray).toList=true then _ else _)=_
 rw [wd1,if_pos h]
 rfl
theorem muz_no{p:Nat}{c:UInt8}{t:List UInt8}(h:R.is p (c::t)=false):mu R (p,0) [⟨(c::t).toArray⟩]=(p,11):=by
 unfold mu
 rw [if_pos rfl]
 show (if R.is p (⟨(c::t).toArray⟩:ByteArray).toList=true then _ else _)=_
 rw [wd1,if_neg (by rw [h];decide)]
theorem Kn{p:Nat}{l k:List UInt8}(h:R.is p l=true)(hk:k≠l):R.is p k=false:=by
 unfold Rw.is at h ⊢
 have h':(R.wd p).toList=l:=by simpa using h
 rw [h']
 simpa using Ne.symm hk
end
end Go.Proofs.Ytjoclbeoafeebaa
