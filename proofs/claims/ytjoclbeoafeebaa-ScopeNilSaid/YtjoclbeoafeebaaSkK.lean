import Derived.Test.YtjoclbeoafeebaaSq
import Derived.Test.YtjoclbeoafeebaaSkH
set_option maxHeartbeats 800000
set_option maxRecDepth 10000
namespace Go.Proofs.Ytjoclbeoafeebaa
set_option linter.unusedVariables false
set_option linter.unusedSimpArgs false
open Go.RowKit Go.Maps
theorem KM.At.mono{m:KM}{w:World}{b n n':Nat}{f:m.κ→Option m.α}(h:m.At w b n f)(hn:n≤n'):m.At w b n' f:=by
 obtain ⟨D,h,r⟩:=h
 exact ⟨D,World.ownsMap.mono h hn,r⟩
section
variable {m:KM} {b n:Nat} {f:m.κ→Option m.α} {ops:Array Oper} {rest:List Oper} {o:Oper} {a:Act} {Q:Exit→Act→World→Prop}
theorem Qin(w:World)(hg:o.guard=none)(x y z:Operand)(hop:o.op=Op.mapUpdate m.T x y z)(hm:a.eval x=.map (some b))(h:m.At w b n f)(hn:n<1000000000){k:m.κ}{l:Lit}(hx:a.eval y=m.kv k)(hk:keyOf Try.prog m.K (m.kv k)=some l){c:m.α}(hv:a.eval z=m.vv c)
  (g:m.κ→Option m.α) (hg1:g k=some c) (hg2:∀ j,j≠k→g j=f j)
  (hK:∀ w',m.At w' b (n+1) g→w.grownBy w' (some b)→w'.heap.size=w.heap.size→wpList Try.prog ops Q rest (a.put o.dst undef) w'):wpList Try.prog ops Q (o::rest) a w:=by
 refine wpList_plain hg fun K' hK'=>?_
 obtain ⟨w',hrun,r1,r2,r3⟩:=h.store hn hk c g hg1 hg2
 unfold Oper.wp
 simp [execOp,hop,hm,hx,hv,hrun,Result.andThen]
 exact hK' _ _ (hK w' r1 r2 r3)
end
/-! ### the maker -/
structure MkA where
 G:Nat
 B:Option Addr
 m:Nat
 d:Nat
 A:Option Addr
 n:Nat
 c:Nat
def MkA.cs(X:MkA):List Value:=[.pointer (some ⟨X.G+2,0,none⟩),.slice X.B X.m X.d,.slice X.A X.n X.c,.map (some (X.G+3))]
def nmF(l:List ByteArray)(s:ByteArray):Option Int:=(Zg l s).map fun (i:Nat)=>(i:Int)
structure Mk (X:MkA) (l:List ByteArray) (qi:Nat) (f:Int×ByteArray→Option Int) (qo:Nat) (g:Int×ByteArray→Option (Int×Int)) (la ef:Int) (w:World):Prop where
 me:Var w (X.G+4) X.cs
 sc:Var w (X.G+2) (scC X.n X.G (X.G+1) la ef)
 nm:mNum.At w (X.G+3) l.length (nmF l)
 im:Qhb.At w (X.G+1) qi f
 ow:mOwn.At w X.G qo g
section
variable {X:MkA} {l:List ByteArray} {qi qo:Nat} {f:Int×ByteArray→Option Int} {g:Int×ByteArray→Option (Int×Int)} {la ef:Int} {w w':World}
theorem Mk.lt(h:Mk X l qi f qo g la ef w):X.G+4<w.heap.size:=h.me.lt
theorem Mk.low(h:Mk X l qi f qo g la ef w){B:Nat}(hB:X.G+5≤B)(hb:Below B w w'):Mk X l qi f qo g la ef w':=
 ⟨h.me.keep (hb.block _ (by omega)) hb.size,h.sc.keep (hb.block _ (by omega)) hb.size,h.nm.stay (hb.block _ (by omega)),h.im.stay (hb.block _ (by omega)),h.ow.stay (hb.block _ (by omega))⟩
theorem Mk.under(h:Mk X l qi f qo g la ef w)(hb:Below w.heap.size w w'):Mk X l qi f qo g la ef w':=h.low h.lt hb
theorem Mk.drew(h:Mk X l qi f qo g la ef w):Mk X l qi f qo g la ef w.drew:=h.under ((Quiet.one _ 1).below _)
theorem Mk.putN(h:Mk X l qi f qo g la ef w){l':List ByteArray}(ha:mNum.At w' (X.G+3) l'.length (nmF l'))(hg:w.grownBy w' (some (X.G+3))):Mk X l' qi f qo g la ef w':=
 ⟨h.me.keep (hg.block _ h.me.lt (by intro e;injection e with e;omega)) hg.size,h.sc.keep (hg.block _ h.sc.lt (by intro e;injection e with e;omega)) hg.size,ha,h.im.stay (hg.block _ h.im.lt (by intro e;injection e with e;omega)),h.ow.stay (hg.block _ h.ow.lt (by intro e;injection e with e;omega))⟩
theorem Mk.putI(h:Mk X l qi f qo g la ef w){qi':Nat}{f':Int×ByteArray→Option Int}(ha:Qhb.At w' (X.G+1) qi' f')(hg:w.grownBy w' (some (X.G+1))):Mk X l qi' f' qo g la ef w':=
 ⟨h.me.keep (hg.block _ h.me.lt (by intro e;injection e with e;omega)) hg.size,h.sc.keep (hg.block _ h.sc.lt (by intro e;injection e with e;omega)) hg.size,h.nm.stay (hg.block _ h.nm.lt (by intro e;injection e with e;omega)),ha,h.ow.stay (hg.block _ h.ow.lt (by intro e;injection e with e;omega))⟩
theorem Mk.putO(h:Mk X l qi f qo g la ef w){qo':Nat}{g':Int×ByteArray→Option (Int×Int)}(ha:mOwn.At w' X.G qo' g')(hg:w.grownBy w' (some X.G)):Mk X l qi f qo' g' la ef w':=
 ⟨h.me.keep (hg.block _ h.me.lt (by intro e;injection e with e;omega)) hg.size,h.sc.keep (hg.block _ h.sc.lt (by intro e;injection e with e;omega)) hg.size,h.nm.stay (hg.block _ h.nm.lt (by intro e;injection e with e;omega)),h.im.stay (hg.block _ h.im.lt (by intro e;injection e with e;omega)),ha⟩
end
def Bg(X:MkA)(w w':World):Prop:=Tn (fun j=>X.G≤j∧j≤X.G+4) w w'
section
variable {X:MkA} {a b c:World}
theorem Bg.refl(X:MkA)(a:World):Bg X a a:=Tn.refl _ a
theorem Bg.trans(h:Bg X a b)(k:Bg X b c):Bg X a c:=Tn.trans h k
theorem Bg.of(h:Below a.heap.size a b):Bg X a b:=Tn.of_below _ h
theorem Bg.drew(a:World):Bg X a a.drew:=Tn.drew _ a
theorem Bg.gb{r:Nat}(hg:a.grownBy b (some r))(h1:X.G≤r)(h2:r≤X.G+4):Bg X a b:=Tn.of_gb hg fun k e _=>by injection e with e;omega
theorem Bg.lo(h:Bg X a b)(hX:X.G≤a.heap.size):Below X.G a b:=Tn.below h hX fun k hk e=>by omega
end
def Yt(X:MkA)(R:Option Qb6)(P:World→Prop)(w:World)(e:Ending)(w':World):Prop:=e=.returned (.tuple #[.int .i64 (Uq R).1,.int .i64 (Uq R).2.1,.int .i64 (Uq R).2.2])∧Bg X w w'∧(R=none→P w')
theorem Yt.bad{X:MkA}{R:Option Qb6}{P:World→Prop}{w w':World}{i:Nat}{a b:Int}(hR:R=some (i,a,b))(hb:Bg X w w'):Yt X R P w (.returned (.tuple #[.int .i64 (i:Int),.int .i64 a,.int .i64 b])) w':=by
 subst hR
 exact ⟨rfl,hb,fun h=>by cases h⟩
theorem Yt.good{X:MkA}{R:Option Qb6}{P:World→Prop}{w w':World}(hR:R=none)(hb:Bg X w w')(hP:P w'):Yt X R P w (.returned (.tuple #[.int .i64 0,.int .i64 0,.int .i64 0])) w':=by
 subst hR
 exact ⟨rfl,hb,fun _=>hP⟩
theorem nmF_app{l:List ByteArray}{s:ByteArray}(h:s∉l):nmF (l++[s]) s=some (l.length:Int)∧∀ t,t≠s→nmF (l++[s]) t=nmF l t:=by
 unfold nmF
 refine ⟨by rw [Qb5 h,if_pos rfl];rfl,fun t ht=>by rw [Qb5 h,if_neg ht]⟩
theorem Qio{X:MkA}{N:List ByteArray}{qi qo:Nat}{f:Int×ByteArray→Option Int}{g:Int×ByteArray→Option (Int×Int)}{la ef:Int}{w:World}(h:Mk X [] qi f qo g la ef w)(hB:Sh w X.G X.B X.m (Z0 N))(hm:X.m≤1000)(hsz:∀ s∈N,s.size≤1000000) :
  CP 23 #[.pointer (some ⟨X.G+4,0,none⟩)] w (Yt X (sc1 [] N 0) (Mk X N qi f qo g la ef) w):=by
 have hNm:N.length=X.m:=by have:=hB.len;simpa [Z0] using this
 have c1:w.cell? ⟨X.G+4,1,none⟩=some (.slice X.B X.m X.d):=h.me.at 1 rfl
 obtain ⟨R,hR⟩:∃ R,sc1 [] N 0=R:=⟨_,rfl⟩
 rw [hR]
 have HM0:=Lh h
 have HR0:=Lh (show sc1 (N.take 0) (N.drop 0) 0=R from hR)
 have HBB:=Lh hB
 have HNm:=Lh hNm
 have HSZ:=Lh hsz
 have hgl:X.G+4<w.heap.size:=h.lt
 have HB0:=Lh (Bg.refl X w)
 clear h hB hR hNm hsz
 go_enter Try.func23,Try.ntmps23
 go_wp2
 clear c1
 go_loopw [14] (fun i wr=>∃ k:Nat,i=.int .i64 (k:Int)∧k≤X.m∧Hid (sc1 (N.take k) (N.drop k) k=R)∧Hid (Mk X (N.take k) qi f qo g la ef wr)∧Hid (Bg X w wr)) (fun i _=>X.m-(intOf i).toNat)
 case atStart=>exact ⟨0,rfl,Nat.zero_le _,HR0,HM0,HB0⟩
 case round =>
  clear HR0 HM0 HB0
  obtain ⟨k,rfl,hk,HR,HM,HB⟩:=hrel
  by_cases hlt:k<X.m
  ·obtain ⟨b0,off0,u,hA0,hb0,hu,hc0⟩:=HBB.out.at hlt
   have hkl:k<N.length:=by rw [HNm.out];exact hlt
   obtain ⟨s,hs⟩:∃ s,N[k]=s:=⟨_,rfl⟩
   have hu2:u=.string s:=by
    unfold Z0 at hu
    rw [List.getElem?_map,List.getElem?_eq_getElem hkl,hs] at hu
    cases hu
    rfl
   subst hu2
   rw [hA0]
   have hsm:s∈N:=by rw [← hs];exact List.getElem_mem _
   have hs2:=HSZ.out s hsm
   have hr:=HR.out
   rw [List.drop_eq_getElem_cons hkl,hs,sc1,show N.take k++[s]=N.take (k+1) by rw [← hs,List.take_succ_eq_append_getElem hkl]] at hr
   have HTK:=Lh (show N.take (k+1)=N.take k++[s] by rw [← hs,List.take_succ_eq_append_getElem hkl])
   have HLEN:=Lh (show (N.take k).length=k by rw [List.length_take];omega)
   have hc1:wr.cell? ⟨b0,off0+k,none⟩=some (.string s):=(World.cell?_of_block (a:=⟨b0,_,none⟩) ((HB.out.lo (by omega)).block b0 hb0)).trans hc0
   clear hc0 hu hs hkl
   by_cases hid:idB s=true
   ·rw [if_pos hid] at hr
    by_cases hin:(Zg (N.take k) s).isSome=true
    ·rw [if_pos hin] at hr
     have HR2:=Lh hr.symm
     have HI:=Lh (show ∀ w,CP 39 #[.string s] w fun e w'=>e=.returned (.bool true)∧Below w.heap.size w w' from fun w=>by have:=Qcd s w;rwa [hid] at this)
     have hsome:(nmF (N.take k) s).isSome=true:=by unfold nmF;rw [Option.isSome_map];exact hin
     have HS:=Lh hsome
     clear hr hid hin hsome
     go_wp2_with (first
      | (go_at_call 39;refine (HI.out _).mono ?_;rintro e w2 ⟨rfl,b2⟩;have HM2:=HM.out.under b2;have hlk:=Qc1 HM2.nm hs2;rw [HS.out] at hlk;have g3:w2.cell? ⟨X.G+4,3,none⟩=some (.map (some (X.G+3))):=HM2.me.at 3 rfl;have HB2:=Lh (HB.out.trans (Bg.of b2)))
      | go_in)
     go_ret3
     exact Yt.bad HR2.out HB2.out
    ·rw [if_neg hin] at hr
     have HR2:=Lh hr
     have HI:=Lh (show ∀ w,CP 39 #[.string s] w fun e w'=>e=.returned (.bool true)∧Below w.heap.size w w' from fun w=>by have:=Qcd s w;rwa [hid] at this)
     have hnone:(nmF (N.take k) s).isSome=false:=by unfold nmF;rw [Option.isSome_map];simpa using hin
     have HS:=Lh hnone
     have HAP:=Lh (nmF_app (l:=N.take k) (s:=s) (fun hh=>hin (Qy.2 hh)))
     obtain ⟨lk,hlk⟩:=keyS hs2
     clear hr hid hin hnone
     go_wp2_with (first
      | (go_at_call 39;refine (HI.out _).mono ?_;rintro e w2 ⟨rfl,b2⟩;have HM2:=Lh (HM.out.under b2);have hlk2:=Qc1 HM2.out.nm hs2;rw [HS.out] at hlk2;have g3:w2.cell? ⟨X.G+4,3,none⟩=some (.map (some (X.G+3))):=HM2.out.me.at 3 rfl;have HB2:=Lh (HB.out.trans (Bg.of b2)))
      | (at_mapUpdate;refine Qin (m:=mNum) _ rfl _ _ _ rfl rfl HM2.out.nm (by rw [HLEN.out];omega) (k:=s) rfl hlk (c:=(k:Int)) rfl (nmF (N.take (k+1))) (by rw [HTK.out,HAP.out.1,HLEN.out];rfl) (fun j hj=>by rw [HTK.out,HAP.out.2 j hj]) ?_;intro w3 ha hg hsz3;have HM3:=Lh (HM2.out.putN (l':=N.take (k+1)) (by rw [HTK.out,List.length_append];rw [HTK.out] at ha;exact ha) hg);have HB3:=Lh (HB2.out.trans (Bg.gb hg (by omega) (by omega))))
      | go_in)
     go_roundw
     case rel=>exact ⟨k+1,by go_num,hlt,HR2,HM3,HB3⟩
     case measure=>simp [intOf];omega
   ·rw [if_neg hid] at hr
    have HR2:=Lh hr.symm
    have hid2:idB s=false:=by simpa using hid
    have HI:=Lh (show ∀ w,CP 39 #[.string s] w fun e w'=>e=.returned (.bool false)∧Below w.heap.size w w' from fun w=>by have:=Qcd s w;rwa [hid2] at this)
    clear hr hid hid2
    go_wp2_with (first
     | (go_at_call 39;refine (HI.out _).mono ?_;rintro e w2 ⟨rfl,b2⟩;have HB2:=Lh (HB.out.trans (Bg.of b2)))
     | go_in)
    go_ret3
    exact Yt.bad HR2.out HB2.out
  ·obtain rfl:X.m=k:=by omega
   have hr:=HR.out
   rw [List.drop_eq_nil_of_le (by rw [HNm.out];exact Nat.le_refl _),sc1] at hr
   have HE:=Lh hr.symm
   have HM2:=Lh (show Mk X N qi f qo g la ef wr by have:=HM.out;rwa [List.take_of_length_le (by rw [HNm.out];exact Nat.le_refl _)] at this)
   clear hr
   go_wp2
   go_ret3
   exact Yt.good HE.out HB.out HM2.out
theorem Qjy{X:MkA}{l:List ByteArray}{qi qo:Nat}{f:Int×ByteArray→Option Int}{g:Int×ByteArray→Option (Int×Int)}{la ef:Int}{w:World}(h:Mk X l qi f qo g la ef w)(hq:qo<999999999){i:Int}{s:ByteArray}{a b:Int}(h1:-9223372036854775808≤i)(h2:i≤9223372036854775807)(hs:s.size≤1000000)
  (g':Int×ByteArray→Option (Int×Int)) (hg1:g (i,s)=none→g' (i,s)=some (a,b)) (hg2:∀ j,j≠(i,s)→g' j=g j) :
  CP 44 #[.pointer (some ⟨X.G+4,0,none⟩),.agg #[.int .i64 i,.string s],.agg #[.int .i64 a,.int .i64 b]] w fun e w'=>e=.returned (.bool (!(g (i,s)).isSome))∧Tn (fun j=>j=X.G) w w'∧(g (i,s)=none→Mk X l qi f (qo+1) g' la ef w'):=by
 have hzt:=Qoh
 have b1:Below w.heap.size w (w.alloc (.cells #[.int .i64 i,.string s] 102)):=bAl
 have b2:Below (w.alloc (.cells #[.int .i64 i,.string s] 102)).heap.size (w.alloc (.cells #[.int .i64 i,.string s] 102)) ((w.alloc (.cells #[.int .i64 i,.string s] 102)).alloc (.cells #[.int .i64 a,.int .i64 b] 107)):=bAl
 have hwl:=h.lt
 have hs1:(w.alloc (.cells #[.int .i64 i,.string s] 102)).heap.size=w.heap.size+1:=by simp
 have V1:=(Var.new w [.int .i64 i,.string s] 102 rfl).under b2
 have V2:=Var.new (w.alloc (.cells #[.int .i64 i,.string s] 102)) [.int .i64 a,.int .i64 b] 107 rfl
 have h':=(h.under b1).under b2
 have HB:=Lh (b1.trans (b2.mono b1.size))
 have hs2:((w.alloc (.cells #[.int .i64 i,.string s] 102)).alloc (.cells #[.int .i64 a,.int .i64 b] 107)).heap.size=w.heap.size+2:=by simp
 rw [hs1] at V2
 clear h b1 b2
 cases hf:g (i,s) with
 | some t =>
  go_enter Try.func44,Try.ntmps44
  go_wp2
  obtain ⟨w2,hw2⟩:∃ w2,(w.alloc (.cells #[.int .i64 i,.string s] 102)).alloc (.cells #[.int .i64 a,.int .i64 b] 107)=w2:=⟨_,rfl⟩
  rw [hw2] at V1 V2 h' HB hs2
  rw [hw2]
  clear hw2 hs1
  have n0:w2.cell? ⟨w.heap.size,0,none⟩=some (.int .i64 i):=V1.at 0 rfl
  have n1:w2.cell? ⟨w.heap.size,1,none⟩=some (.string s):=V1.at 1 rfl
  have t0:w2.cell? ⟨w.heap.size+1,0,none⟩=some (.int .i64 a):=V2.at 0 rfl
  have t1:w2.cell? ⟨w.heap.size+1,1,none⟩=some (.int .i64 b):=V2.at 1 rfl
  have m0:w2.cell? ⟨X.G+4,0,none⟩=some (.pointer (some ⟨X.G+2,0,none⟩)):=h'.me.at 0 rfl
  have s1:w2.cell? ⟨X.G+2,1,none⟩=some (.map (some X.G)):=h'.sc.at 1 rfl
  have b3:Below w2.heap.size w2 (w2.alloc (.cells #[.int .i64 0,.int .i64 0] 107)):=bAl
  have kc:∀ p:Addr,p.block<w2.heap.size→(w2.alloc (.cells #[.int .i64 0,.int .i64 0] 107)).cell? p=w2.cell? p:=fun p hp=>b3.cell hp
  have n0a:=(kc ⟨w.heap.size,0,none⟩ (by show w.heap.size<_;omega)).trans n0
  have n1a:=(kc ⟨w.heap.size,1,none⟩ (by show w.heap.size<_;omega)).trans n1
  have m0a:=(kc ⟨X.G+4,0,none⟩ (by show X.G+4<_;omega)).trans m0
  have s1a:=(kc ⟨X.G+2,1,none⟩ (by show X.G+2<_;omega)).trans s1
  have hlk:=Jl h'.ow h1 h2 hs
  have hlk1:=Jl (h'.ow.stay (w':=w2.drew) rfl) h1 h2 hs
  have hlk2:=Jl (h'.ow.stay (w':=(w2.alloc (.cells #[.int .i64 0,.int .i64 0] 107)).drew) (b3.block _ h'.ow.lt)) h1 h2 hs
  have HM:=Lh h'
  clear kc b3 h' V1 V2
  obtain ⟨q0,q1⟩:=t
  rw [hf] at hlk hlk1 hlk2
  dsimp only [Option.getD,Option.isSome] at hlk hlk1 hlk2
  go_region
  all_goals
   go_wp2
   go_ret
   exact ⟨rfl,(Tn.of_below (fun j=>j=X.G) HB.out).trans ((Tn.alloc (fun j=>j=X.G) w2 (.cells #[.int .i64 q0,.int .i64 q1] 107)).trans (Tn.drew _ _)),fun hh=>absurd hh (by simp)⟩
 | none =>
  have HG:=Lh (hg1 hf)
  go_enter Try.func44,Try.ntmps44
  go_wp2
  obtain ⟨w2,hw2⟩:∃ w2,(w.alloc (.cells #[.int .i64 i,.string s] 102)).alloc (.cells #[.int .i64 a,.int .i64 b] 107)=w2:=⟨_,rfl⟩
  rw [hw2] at V1 V2 h' HB hs2
  rw [hw2]
  clear hw2 hs1
  have n0:w2.cell? ⟨w.heap.size,0,none⟩=some (.int .i64 i):=V1.at 0 rfl
  have n1:w2.cell? ⟨w.heap.size,1,none⟩=some (.string s):=V1.at 1 rfl
  have t0:w2.cell? ⟨w.heap.size+1,0,none⟩=some (.int .i64 a):=V2.at 0 rfl
  have t1:w2.cell? ⟨w.heap.size+1,1,none⟩=some (.int .i64 b):=V2.at 1 rfl
  have m0:w2.cell? ⟨X.G+4,0,none⟩=some (.pointer (some ⟨X.G+2,0,none⟩)):=h'.me.at 0 rfl
  have s1:w2.cell? ⟨X.G+2,1,none⟩=some (.map (some X.G)):=h'.sc.at 1 rfl
  have b3:Below w2.heap.size w2 (w2.alloc (.cells #[.int .i64 0,.int .i64 0] 107)):=bAl
  have kc:∀ p:Addr,p.block<w2.heap.size→(w2.alloc (.cells #[.int .i64 0,.int .i64 0] 107)).cell? p=w2.cell? p:=fun p hp=>b3.cell hp
  have n0a:=(kc ⟨w.heap.size,0,none⟩ (by show w.heap.size<_;omega)).trans n0
  have n1a:=(kc ⟨w.heap.size,1,none⟩ (by show w.heap.size<_;omega)).trans n1
  have m0a:=(kc ⟨X.G+4,0,none⟩ (by show X.G+4<_;omega)).trans m0
  have s1a:=(kc ⟨X.G+2,1,none⟩ (by show X.G+2<_;omega)).trans s1
  have hlk:=Jl h'.ow h1 h2 hs
  have hlk1:=Jl (h'.ow.stay (w':=w2.drew) rfl) h1 h2 hs
  have hlk2:=Jl (h'.ow.stay (w':=(w2.alloc (.cells #[.int .i64 0,.int .i64 0] 107)).drew) (b3.block _ h'.ow.lt)) h1 h2 hs
  have HM:=Lh h'
  clear kc b3 h' V1 V2
  rw [hf] at hlk hlk1 hlk2
  dsimp only [Option.getD,Option.isSome] at hlk hlk1 hlk2
  have b4:Below w2.heap.size w2 (w2.alloc (.cells #[.int .i64 0,.int .i64 0] 107)).drew:=((Tn.alloc (fun _=>False) w2 (.cells #[.int .i64 0,.int .i64 0] 107)).trans (Tn.drew _ _)).below nLe (fun _ _ h=>h)
  obtain ⟨lk,hkk⟩:=keyN h1 h2 hs
  have HM4:=Lh (HM.out.under b4)
  have HB4:=Lh (bTr HB b4)
  have kc:∀ p:Addr,p.block<w2.heap.size→(w2.alloc (.cells #[.int .i64 0,.int .i64 0] 107)).drew.cell? p=w2.cell? p:=fun p hp=>b4.cell hp
  have u0:=(kc ⟨w.heap.size,0,none⟩ (by show w.heap.size<_;omega)).trans n0
  have u1:=(kc ⟨w.heap.size,1,none⟩ (by show w.heap.size<_;omega)).trans n1
  have v0:=(kc ⟨w.heap.size+1,0,none⟩ (by show w.heap.size+1<_;omega)).trans t0
  have v1:=(kc ⟨w.heap.size+1,1,none⟩ (by show w.heap.size+1<_;omega)).trans t1
  have m0b:=(kc ⟨X.G+4,0,none⟩ (by show X.G+4<_;omega)).trans m0
  have s1b:=(kc ⟨X.G+2,1,none⟩ (by show X.G+2<_;omega)).trans s1
  clear kc b4
  go_region
  all_goals
   obtain ⟨w4,hw4⟩:∃ w4,(w2.alloc (.cells #[.int .i64 0,.int .i64 0] 107)).drew=w4:=⟨_,rfl⟩
   rw [hw4] at HM4 HB4 u0 u1 v0 v1 m0b s1b
   rw [hw4]
   clear hw4 hlk hlk1 hlk2 n0 n1 t0 t1 m0 s1 n0a n1a m0a s1a
   obtain ⟨w5,hrun,hat,hgr,hsz⟩:=KM.At.store (m:=mOwn) HM4.out.drew.ow (by omega) (k:=(i,s)) hkk (a,b) g' HG.out hg2
   have hrun2:(Instr.mapUpdate 58 (.map (some X.G)) (.agg #[.int .i64 i,.string s]) (.agg #[.int .i64 a,.int .i64 b])).run Try.prog w4.drew=.ok () w5:=hrun
   have HM5:=Lh (HM4.out.drew.putO hat hgr)
   have HB5:=Lh (((Tn.of_below (fun j=>j=X.G) HB4.out).trans (Tn.drew _ w4)).trans (Tn.of_gb hgr fun k e _=>(by injection e with e;exact e.symm)))
   clear hrun hat hgr hsz
   go_wp2
   go_region
   go_wp2
   go_ret
   exact ⟨rfl,HB5.out,fun _=>HM5.out⟩
end Go.Proofs.Ytjoclbeoafeebaa
