import Derived.Test.YtjoclbeoafeebaaMEp
import Derived.Deep.RegionHeld3
import Derived.Test.YtjoclbeoafeebaaSq
import Derived.Test.YtjoclbeoafeebaaMEq
namespace Go.Proofs.Ytjoclbeoafeebaa
set_option linter.unusedVariables false
set_option linter.unusedSimpArgs false
open Go.RowKit
def wiG(R:Rw)(g:Gt)(ss:List ByteArray):Gt:=if g.r=0 then (if (Qbn R g.p ss).2=0 then good g.e (Qbn R g.p ss).1 else bad (Qbn R g.p ss).1 (Qbn R g.p ss).2) else bad g.p g.r
theorem Qj8{R:Rw}{f l a d:Nat}{e:Ex}(h:Qit l (R.wd a)=false):rd R (f+1) (.loop l e) a d=good e a:=by
 simp only [rd]
 rw [if_neg (by rw [h];decide)]
theorem Qhn{R:Rw}{f l a d:Nat}{e:Ex}{g:Gt}(h:Qit l (R.wd a)=true)(hg:rd R f (.lev (l+1)) (a+1) d=g):rd R (f+1) (.loop l e) a d =
  if g.r=0 then (if (hld (Qcc (R.wd a) e g.e) g.p a).r=0 then rd R f (.loop l (hld (Qcc (R.wd a) e g.e) g.p a).e) (hld (Qcc (R.wd a) e g.e) g.p a).p d else bad (hld (Qcc (R.wd a) e g.e) g.p a).p (hld (Qcc (R.wd a) e g.e) g.p a).r) else bad g.p g.r:=by
 simp only [rd]
 rw [if_pos h,hg]
theorem Kp.drew{w:World}{G:Nat}{x:Ex}{lv:Value}(h:Kp w G x lv):Kp w.drew G x lv:=⟨h.cs,h.fz,h.lt⟩
theorem Qi(w:World)(B:Nat):Below B w w.drew:=⟨rfl,rfl,rfl,Nat.le_refl _,fun _ _=>rfl⟩
theorem Qiy{R:Rw}{f a d:Nat}(h:(R.is a [33] || R.is a [45])=false):rd R (f+1) .sg a d=rd R f .pr a d:=by
 simp only [rd]
 rw [if_neg (by rw [h];decide)]
theorem Qj9{R:Rw}{f a d:Nat}(h:(R.is a [33] || R.is a [45])=true)(hd:d=32):rd R (f+1) .sg a d=bad a 12:=by
 simp only [rd]
 rw [if_pos h,if_pos hd]
theorem Ql2{R:Rw}{f a d:Nat}{g:Gt}(h:(R.is a [33] || R.is a [45])=true)(hd:¬ d=32)(hg:rd R f .sg (a+1) (d+1)=g):rd R (f+1) .sg a d=if g.r=0 then hld (eUn (R.ps a) (R.wd a) g.e) g.p a else bad g.p g.r:=by
 simp only [rd]
 rw [if_pos h,if_neg hd,hg]
theorem Qka{R:Rw}{f a d:Nat}(h:R.is a [40]=true)(hd:d=32):rd R (f+1) .gr a d=bad a 12:=by
 simp only [rd]
 rw [if_pos h,if_pos hd]
theorem Ql3{R:Rw}{f a d:Nat}{g:Gt}(h:R.is a [40]=true)(hd:¬ d=32)(hg:rd R f (.lev 1) (a+1) (d+1)=g):rd R (f+1) .gr a d=if g.r=0 then good g.e g.p else bad g.p g.r:=by
 simp only [rd]
 rw [if_pos h,if_neg hd,hg]
theorem Ql4{R:Rw}{p:Nat}{r:Int}(ss:List ByteArray)(h:r≠0):wiG R (bad p r) ss=bad p r:=by
 unfold wiG
 rw [if_neg (show ¬ (bad p r).r=0 from h)]
 rfl
theorem Qiz(R:Rw)(p:Nat)(s:ByteArray)(l:List UInt8)(hs:s.toList=l):Qbn R p [s]=if R.is p l=true then (p+1,0) else (p,11):=by
 unfold Qbn Qbn
 rw [hs]
theorem tl41:(⟨#[41]⟩:ByteArray).toList=[41]:=by rw [ByteArray.toList_eq]
section
variable {P:Program} {ops:Array Oper} {rest:List Oper} {o:Oper} {a:Act} {Q:Exit→Act→World→Prop}
theorem Yc(hgd:Region.wanted o (yielded ops a.tmps)=true)(s x:Operand)(t:TypeId)(ho:o.op=.call { callee:=.builtin .append,args:=#[s,x],argTypes:=#[t,t] })
  {e:TypeId} {size bytes:Nat} (hT:Kq P t e size bytes) (w:World) (B:Nat) (v:Value) (n:Nat) (xs us:List Value) (hs:a.eval s=v) (hown:Own w B e size v n xs)
  {G:Nat} (hx:a.eval x=.slice (some ⟨G,0,none⟩) 1 1) (hG:G=w.heap.size) (hl:us.length=size) (h1:∀ u∈us,u.oneCell'=true)
  (hlen:n≤1000000000) (hby:bytes≤128)
  (h:∀ v' w',Own w' B e size v' (n+1) (xs++us)→(w.alloc (.cells us.toArray e)).grownBy w' v.ownBlock→(v'.ownBlock=v.ownBlock∨v'.ownBlock=some (w.heap.size+1))→wpList P ops Q rest (a.put o.dst v') w') :
  wpList P ops Q (o::rest) a (w.alloc (.cells us.toArray e)):=by
 refine Jw hgd fun K hK=>?_
 subst hG
 obtain ⟨ht,i,z,hi,hz,hsize,hbytes,hzs,hpos⟩:=hT
 have hbb:(n+1)*bytes≤140737488355328:=Nat.le_trans (Nat.mul_le_mul (show n+1≤1000000001 by omega) hby) (by decide)
 obtain ⟨v',w',hr,h2,h3,_,h5⟩:=run_append_own_at (P:=P) (w.alloc (.cells us.toArray e)) B t o.type e i z size bytes ht hi hz hsize hbytes hzs hpos v n xs (hown.1.alloc _) ⟨w.heap.size,0,none⟩ 1 1 us (by simpa using hl)
  (fun j y hj=>by
   rw [Addr.add_lit,Nat.zero_add,World.cell?_alloc_at _ _ _ _ rfl]
   simpa using hj) h1 (by unfold maxLen;omega) hbb (by have:=hown.2;simp;omega)
 have hge:B≤(w.alloc (.cells us.toArray e)).heap.size:=by have:=hown.2;simp;omega
 unfold Oper.wp execOp
 simp only [ho,resolve,invoke,builtin,Sem.run_bind,Sem.run_pure,Result.andThen_ok,List.map_toArray,List.map_cons,List.map_nil,hs,hx,hr]
 exact hK _ _ (h v' w' ⟨h2,Nat.le_trans hge h3.size⟩ h3 (by simpa using h5))
end
theorem Own.gb{w w':World}{B n size g:Nat}{e:TypeId}{v:Value}{xs:List Value}(h:Own w B e size v n xs)(hg:w.grownBy w' (some g))(hB:g<B):Own w' B e size v n xs:=
 ⟨h.1.kept hg (.inr fun he=>by have:=h.block_ge g he;omega),Nat.le_trans h.2 hg.size⟩
theorem Own.newvar{w w':World}{B n size:Nat}{e:TypeId}{v:Value}{xs:List Value}(h:Own w B e size v n xs)(o:Obj)(hg:(w.alloc o).grownBy w' (some w.heap.size)):Own w' B e size v n xs:=
 ⟨(h.alloc o).1.kept hg (.inr fun he=>by have:=(h.1.lt _ he).2;omega),Nat.le_trans (h.alloc o).2 hg.size⟩
theorem Qdp{R:Rw}{f a d:Nat}(hd:d=32):rd R (f+1) .ar a d=bad a 12:=by
 simp only [rd]
 rw [if_pos hd]
theorem Qdq{R:Rw}{f a d:Nat}(hd:¬ d=32)(h:R.is (a+1) [41]=true):rd R (f+1) .ar a d=good (Qc8 []) (a+2):=by
 simp only [rd]
 rw [if_neg hd,if_pos h]
theorem Qfy{R:Rw}{f a d:Nat}(hd:¬ d=32)(h:R.is (a+1) [41]=false):rd R (f+1) .ar a d=rd R f (.an []) (a+1) (d+1):=by
 simp only [rd]
 rw [if_neg hd,if_neg (by rw [h];decide)]
theorem rd_an{R:Rw}{f a d:Nat}{acc:List Ex}{g:Gt}(hg:rd R f (.lev 1) a d=g):rd R (f+1) (.an acc) a d =
  if g.r=0 then (if R.is g.p [44]=true then rd R f (.an (acc++[g.e])) (g.p+1) d else if R.is g.p [41]=true then good (Qc8 (acc++[g.e])) (g.p+1) else bad g.p 11) else bad g.p g.r:=by
 simp only [rd]
 rw [hg]
theorem Qei{R:Rw}{f a d:Nat}{y:Bool×ByteArray×Nat}{g:Gt}(hn:R.name a=y)(hg:rd R f .ar y.2.2 d=g):rd R (f+1) .nm a d =
  if y.1=true then (if R.is y.2.2 [40]=true then (if g.r=0 then hld (Jz (R.ps a) y.2.1 g.e.l) g.p a else bad g.p g.r) else good (Qfv (R.ps a) y.2.1) y.2.2) else bad y.2.2 11:=by
 simp only [rd]
 rw [hn,hg]
theorem Qho{T:ByteArray}{L:List Tk}(h:TokOk T L)(i:Nat):((Qax T L).wd i).size≤1000000:=by
 have hs:=h.sz
 show (wdT T L i).size≤_
 unfold wdT
 cases L[i]? with
 | none=>exact Nat.zero_le _
 | some t =>
  show (T.extract t.2.1.toNat t.2.2.toNat).size≤_
  rw [ByteArray.size_extract]
  omega
theorem Ql5{R:Rw}{f a d:Nat}(h:R.kd a=3):rd R (f+1) .pr a d=numG R a:=by
 simp only [rd]
 rw [if_pos h]
 rfl
theorem Qkb{R:Rw}{f a d:Nat}(h:¬ R.kd a=3)(ht:R.is a [116,114,117,101]=true):rd R (f+1) .pr a d=good (Qj5 (R.ps a) 1) (a+1):=by
 simp only [rd]
 rw [if_neg h,if_pos ht]
theorem Qhp{R:Rw}{f a d:Nat}(h:¬ R.kd a=3)(ht:R.is a [116,114,117,101]=false)(hf:R.is a [102,97,108,115,101]=true):rd R (f+1) .pr a d=good (Qj5 (R.ps a) 0) (a+1):=by
 simp only [rd]
 rw [if_neg h,if_neg (by rw [ht];decide),if_pos hf]
theorem Qce{R:Rw}{f a d:Nat}(h:¬ R.kd a=3)(ht:R.is a [116,114,117,101]=false)(hf:R.is a [102,97,108,115,101]=false)(hb:R.is a [40]=true):rd R (f+1) .pr a d=wiG R (rd R f .gr a d) [⟨#[41]⟩]:=by
 simp only [rd]
 rw [if_neg h,if_neg (by rw [ht];decide),if_neg (by rw [hf];decide),if_pos hb]
 unfold wiG
 rw [Qiz R _ _ _ tl41]
 by_cases h0:(rd R f .gr a d).r=0
 ·rw [if_pos h0,if_pos h0]
  by_cases h1:R.is (rd R f .gr a d).p [41]=true
  ·rw [if_pos h1,if_pos h1];rfl
  ·rw [if_neg h1,if_neg h1];rfl
 ·rw [if_neg h0,if_neg h0]
theorem Qkc{R:Rw}{f a d:Nat}(h:¬ R.kd a=3)(ht:R.is a [116,114,117,101]=false)(hf:R.is a [102,97,108,115,101]=false)(hb:R.is a [40]=false)(hd:R.is a [100,101,99,108,97,115,115,105,102,121]=true):rd R (f+1) .pr a d=rd R f .op a d:=by
 simp only [rd]
 rw [if_neg h,if_neg (by rw [ht];decide),if_neg (by rw [hf];decide),if_neg (by rw [hb];decide),if_pos hd]
theorem Qcf{R:Rw}{f a d:Nat}(h:¬ R.kd a=3)(ht:R.is a [116,114,117,101]=false)(hf:R.is a [102,97,108,115,101]=false)(hb:R.is a [40]=false)(hd:R.is a [100,101,99,108,97,115,115,105,102,121]=false):rd R (f+1) .pr a d=rd R f .nm a d:=by
 simp only [rd]
 rw [if_neg h,if_neg (by rw [ht];decide),if_neg (by rw [hf];decide),if_neg (by rw [hb];decide),if_neg (by rw [hd];decide)]
theorem mem_toks(bs:List Int):∀ (m u:Nat),bs.length-u≤m→∀ t∈U9 bs u,∃ v,u≤v∧v<bs.length∧t=(tk (bs.drop v),(v:Int),((v+tl (bs.drop v):Nat):Int)):=by
 intro m
 induction m with
 | zero=>intro u h t ht;rw [Qab (by omega)] at ht;cases ht
 | succ m ih =>
  intro u h t ht
  by_cases hu:u<bs.length
  ·rw [Qhg hu] at ht
   rcases List.mem_cons.1 ht with rfl | ht
   ·exact ⟨u,Nat.le_refl _,hu,rfl⟩
   ·have:=Qlg (bs.drop u)
    obtain ⟨v,h1,h2,h3⟩:=ih (u+tl (bs.drop u)) (by omega) t ht
    exact ⟨v,by omega,h2,h3⟩
  ·rw [Qab (by omega)] at ht;cases ht
theorem Qi0{bs:List Int}{t:Tk}(h:t∈Yr bs 0):∃ v,v<bs.length∧t=(tk (bs.drop v),(v:Int),((v+tl (bs.drop v):Nat):Int)):=by
 obtain ⟨v,_,h2,h3⟩:=mem_toks bs _ 0 nLe t (List.mem_filter.1 h).1
 exact ⟨v,h2,h3⟩
theorem Qby(bs:List Int):(Yr bs 0).length≤bs.length:=by
 have h1:=Qec bs bs.length 0 (by omega)
 have h2:(Yr bs 0).length≤(U9 bs 0).length:=List.length_filter_le _ _
 omega
theorem Qej{T:ByteArray}{bs:List Int}(hb:bts T=bs)(hn:bs.length≤1000000):TokOk T (Yr bs 0):=by
 have hs:T.size=bs.length:=by rw [← hb,J3]
 have:=Qby bs
 refine ⟨by omega,by omega,fun t ht=>?_⟩
 obtain ⟨v,hv,rfl⟩:=Qi0 ht
 have:=tl_in hv
 exact ⟨by show (0:Int)≤(v:Int);omega,by show (v:Int)≤((v+tl (bs.drop v):Nat):Int);omega,by show ((v+tl (bs.drop v):Nat):Int)≤(T.size:Int);omega⟩
theorem ext_bts(T:ByteArray)(a b:Nat):(T.extract a b).data.toList.map (fun u=>(u.toNat:Int))=((bts T).take b).drop a:=by
 unfold bts
 have:(T.extract a b).data.toList=(T.data.toList.take b).drop a:=by simp [List.drop_take]
 rw [this,List.map_drop,List.map_take]
theorem runB_mem(p:Int→Bool)(l:List Int):∀ x∈l.take (Yw p l),p x=true:=by
 induction l with
 | nil=>intro x hx;cases hx
 | cons y l ih =>
  intro x hx
  cases h:p y
  ·rw [Qhf h] at hx;cases hx
  ·rw [Qbw h,List.take_succ_cons] at hx
   rcases List.mem_cons.1 hx with rfl | hx
   ·exact h
   ·exact ih x hx
theorem live_dig{T:ByteArray}{bs:List Int}(hb:bts T=bs)(p:Nat)(h:(Qax T (Yr bs 0)).kd p=3):((Qax T (Yr bs 0)).wd p).data.toList≠[]∧∀ c∈((Qax T (Yr bs 0)).wd p).data.toList,48≤c.toNat∧c.toNat≤57:=by
 cases hp:(Yr bs 0)[p]? with
 | none =>
  have:(Qax T (Yr bs 0)).kd p=0:=by simp only [Qax,hp]
  rw [this] at h;cases h
 | some t =>
  have hk:(Qax T (Yr bs 0)).kd p=t.1:=by simp only [Qax,hp]
  have hw:(Qax T (Yr bs 0)).wd p=T.extract t.2.1.toNat t.2.2.toNat:=by
   show wdT T (Yr bs 0) p=_
   simp only [wdT,hp]
  rw [hk] at h
  rw [hw]
  obtain ⟨v,hv,rfl⟩:=Qi0 (List.mem_of_getElem? hp)
  obtain ⟨c,r,hd⟩:∃ c r,bs.drop v=c::r:=by
   cases hh:bs.drop v with
   | nil=>have:=congrArg List.length hh;simp at this;omega
   | cons c r=>exact ⟨c,r,rfl⟩
  have h3:tk (c::r)=3:=by rw [← hd];exact h
  have hkc:kd c=3:=by
   rw [Qaz] at h3
   by_cases h4:kd c<4
   ·rwa [if_pos h4] at h3
   ·rw [if_neg h4] at h3
    split at h3
    ·cases h3
    ·omega
  have htl:tl (bs.drop v)=1+Yw (Zc 3) r:=by rw [hd,Ux,if_pos (by omega),hkc]
  have hlist:(T.extract v (v+tl (bs.drop v))).data.toList.map (fun u=>(u.toNat:Int))=c::r.take (Yw (Zc 3) r):=by
   rw [ext_bts,hb,List.drop_take,htl,hd,show v+(1+Yw (Zc 3) r)-v=Yw (Zc 3) r+1 by omega,List.take_succ_cons]
  have hall:∀ x∈c::r.take (Yw (Zc 3) r),48≤x∧x≤57:=fun x hx=>by
   rcases List.mem_cons.1 hx with rfl | hx
   ·exact (kd_3 x).1 hkc
   ·have:=runB_mem (Zc 3) r x hx
    have h9:kd x=3:=by simpa [Zc] using this
    exact (kd_3 x).1 h9
  show (T.extract v (v+tl (bs.drop v))).data.toList≠[]∧∀ c∈(T.extract v (v+tl (bs.drop v))).data.toList,48≤c.toNat∧c.toNat≤57
  refine ⟨fun e=>?_,fun u hu=>?_⟩
  ·rw [e] at hlist;cases hlist
  ·have:=hall (u.toNat:Int) (by rw [← hlist];exact List.mem_map.2 ⟨u,hu,rfl⟩)
   omega
theorem bad_live(bs:List Int):((Yr bs 0).find? fun t=>t.1==5)=((U9 bs 0).find? fun t=>t.1==5):=by
 unfold Yr
 rw [List.find?_filter]
 congr 1
 funext t
 cases h:(t.1==5)
 ·simp
 ·have:t.1=5:=by simpa using h
  simp [lv,this]
theorem Sh.bel{w w':World}{B n:Nat}{A:Option Addr}{xs:List Value}(h:Sh w B A n xs)(hb:Below B w w'):Sh w' B A n xs:=h.below hb
theorem Qu{B:Nat}{w w1 w2:World}{g:Nat}(h:Below B w w1)(k:w1.grownBy w2 (some g))(hg:B≤g)(hB:B≤w1.heap.size):Below B w w2:=
 ⟨k.os.trans h.os,k.tape.trans h.tape,k.output.trans h.output,Nat.le_trans h.size k.size,fun j hj=>(k.block j (by omega) (fun e=>by injection e;omega)).trans (h.block j hj)⟩
theorem Kp.six{w:World}{G:Nat}{x:Ex}{lv:Value}(h:Kp w G x lv):w.cell? ⟨G,0,none⟩=some (.int .i64 x.k)∧w.cell? ⟨G,1,none⟩=some (.int .i64 x.a)∧w.cell? ⟨G,2,none⟩=some (.int .i64 x.m)∧w.cell? ⟨G,3,none⟩=some (.string x.nm)∧w.cell? ⟨G,4,none⟩=some (.string x.lb)∧w.cell? ⟨G,5,none⟩=some lv:=by
 have h0:=h.cs 0 _ rfl
 have h1:=h.cs 1 _ rfl
 have h2:=h.cs 2 _ rfl
 have h3:=h.cs 3 _ rfl
 have h4:=h.cs 4 _ rfl
 have h5:=h.cs 5 _ rfl
 simp only [Nat.zero_add] at h0 h1 h2 h3 h4 h5
 exact ⟨h0,h1,h2,h3,h4,h5⟩
end Go.Proofs.Ytjoclbeoafeebaa
