import Derived.Test.YtjoclbeoafeebaaSq
import Derived.Test.YtjoclbeoafeebaaSkK
import Derived.Test.YtjoclbeoafeebaaScI
set_option maxHeartbeats 1600000
set_option maxRecDepth 100000
namespace Go.Proofs.Ytjoclbeoafeebaa
set_option linter.unusedVariables false
set_option linter.unusedSimpArgs false
open Go.RowKit Go.Maps
theorem Jm:(Try.prog.info? 51).map (·.size)=some 7:=by kernel_rfl
theorem Y4.rg{w:World}{S:Nat→Prop}{A:Option Addr}{n:Nat}{ML:List OMo}(h:Y4 w S A n ML){i:Nat}(hi:i<n):∃ b off q,A=some ⟨b,off,none⟩∧ML[i]?=some q∧q∈ML∧Zx w S q.1 q.2∧w.rangeAt b (off+i*7) (moC q.1.hl q.1.he q.2):=by
 obtain ⟨b,off,e,_,_,hr⟩:=h.cs (by omega)
 have hl:i<ML.length:=by rw [h.len];exact hi
 have hg:ML[i]?=some ML[i]:=List.getElem?_eq_getElem hl
 refine ⟨b,off,ML[i],e,hg,List.getElem_mem _,h.sh _ (List.getElem_mem _),fun j u hu=>?_⟩
 have:=hr _ _ (Qns hg hu)
 rwa [← Nat.add_assoc] at this
theorem Zx.ones{w:World}{S:Nat→Prop}{m:MoT}{v:MoV}(h:Zx w S m v)(hl he:Bool):∀ u∈moC hl he v,u.oneCell'=true:=by
 obtain ⟨FL,_,h2,_⟩:=h.fn
 intro u hu
 simp [moC] at hu
 rcases hu with rfl | rfl | rfl | rfl | rfl | rfl | rfl
 ·exact h.im.one
 ·rfl
 ·exact h.la.one
 ·rfl
 ·exact h.ef.one
 ·exact h.va.one
 ·exact h2.one
structure Rd (X:MkA) (S:Nat→Prop) (N:List ByteArray) (ML:List OMo) (w:World):Prop where
 sh:Y4 w S X.A X.n ML
 lo:∀ b,S b→b<X.G
 hn:X.n≤64
 len:N.length=X.n
 sz:∀ s∈N,s.size≤1000000
 nsz:∀ q∈ML,(∀ x∈q.1.im,x.nm.size≤1000000)∧(∀ x∈q.1.va,x.nm.size≤1000000)∧∀ x∈q.1.fn,x.nm.size≤1000000
 cnt:∀ q∈ML,q.1.im.length≤1000000∧q.1.va.length≤1000000∧q.1.fn.length≤1000000
theorem Rd.low{X:MkA}{S:Nat→Prop}{N:List ByteArray}{ML:List OMo}{w w':World}(h:Rd X S N ML w)(hb:Below X.G w w'):Rd X S N ML w':=
 ⟨h.sh.keep fun b h1 h2=>⟨h1,Nat.lt_of_lt_of_le h2 hb.size,hb.block b (h.lo b h1)⟩,h.lo,h.hn,h.len,h.sz,h.nsz,h.cnt⟩
theorem Rd.lowG{X:MkA}{S:Nat→Prop}{N:List ByteArray}{ML:List OMo}{w w':World}(h:Rd X S N ML w)(hX:X.G≤w.heap.size)(hb:Bg X w w'):Rd X S N ML w':=h.low (hb.lo hX)
theorem Qon{N:List ByteArray}{s:ByteArray}(h:(Zg N s).isSome=true):(nmF N s).getD 0=(Zl N s:Int):=by
 unfold nmF Zl
 cases e:Zg N s with
 | none=>rw [e] at h;cases h
 | some i=>rfl
theorem Qk5{N:List ByteArray}{s:ByteArray}:(nmF N s).isSome=(Zg N s).isSome:=by unfold nmF;rw [Option.isSome_map]
theorem Qoo{X:MkA}{S:Nat→Prop}{N:List ByteArray}{ML:List OMo}{qo:Nat}{g:Int×ByteArray→Option (Int×Int)}{la ef:Int}{w:World}(h:Mk X N 0 (fun _=>none) qo g la ef w)(hr:Rd X S N ML w) :
  CP 24 #[.pointer (some ⟨X.G+4,0,none⟩)] w (Yt X (sc2 N (Qm ML) 0) (Mk X N (X.n*1000000) (Qc5 N (Qm ML)) qo g la ef) w):=by
 have hzm:=Qbg
 have hzn:=Qba
 have c2:w.cell? ⟨X.G+4,2,none⟩=some (.slice X.A X.n X.c):=h.me.at 2 rfl
 have HLn:=Lh hr.sh.len
 have hn64:=hr.hn
 obtain ⟨R,hR⟩:∃ R,sc2 N (Qm ML) 0=R:=⟨_,rfl⟩
 rw [hR]
 have HM0:=Lh (show Mk X N (0*1000000) (Y5 (Qij N) (Qm ML) 0 fun _=>none) qo g la ef w by rw [Qg3];exact h)
 have HR0:=Lh (show sc2 N ((Qm ML).drop 0) 0=R from hR)
 have HRD:=Lh hr
 have hgl:X.G+4<w.heap.size:=h.lt
 have hgw:X.G≤w.heap.size:=by omega
 have HB0:=Lh (Bg.refl X w)
 clear h hr hR
 go_enter Try.func24,Try.ntmps24
 go_wp2
 clear c2
 go_loopw [18] (fun i wr=>∃ k:Nat,i=.int .i64 (k:Int)∧k≤X.n∧Hid (sc2 N ((Qm ML).drop k) k=R)∧Hid (Mk X N (k*1000000) (Y5 (Qij N) (Qm ML) k fun _=>none) qo g la ef wr)∧Hid (Bg X w wr)) (fun i _=>X.n-(intOf i).toNat)
 case atStart=>exact ⟨0,rfl,Nat.zero_le _,HR0,HM0,HB0⟩
 case round =>
  clear HR0 HM0 HB0
  obtain ⟨k,rfl,hk,HR,HM,HB⟩:=hrel
  have HRW:=Lh (HRD.out.lowG hgw HB.out)
  by_cases hlt:k<X.n
  ·obtain ⟨b0,off0,q,hA0,hq,hqm,hms,hrg⟩:=HRW.out.sh.rg hlt
   rw [hA0]
   have ht:=HR.out
   rw [Zm hq,sc2] at ht
   obtain ⟨R1,hR1⟩:∃ R1,Qe7 N [] q.1.sm.im=R1:=⟨_,rfl⟩
   rw [hR1] at ht
   have HT2:=Lh ht
   have HR1:=Lh (show Qe7 N ((q.1.im.take 0).map (·.nm)) ((q.1.im.drop 0).map NmT.sn)=R1 from hR1)
   have HQ:=Lh hq
   have HMS:=Lh hms
   have HONE:=Lh (hms.ones q.1.hl q.1.he)
   have HRG:=Lh hrg
   obtain ⟨hbi,_,_⟩:=HRW.out.cnt q hqm
   have HNS:=Lh (HRW.out.nsz q hqm).1
   obtain ⟨IA,ic,hiv,_⟩:=hms.im
   clear ht hR1 hq hqm hms hrg HR
   go_wp2_with (first
    | (refine Qb rfl 51 (.tmp 21) rfl b0 (off0+k*7) rfl (moC q.1.hl q.1.he q.2) HRG.out Try.underlying51 rfl Jm ?_)
    | (refine Qa rfl 51 (.tmp 6) (.tmp 22) rfl (G:=wr.heap.size) (off:=0) rfl (us:=moC q.1.hl q.1.he q.2) (Var.new wr (moC false false MoV.nul) 51 rfl) rfl Jm (Nat.le_refl 7) HONE.out ?_;intro w2 ht hs;have tb:=((Tn.alloc (fun k=>k=wr.heap.size) wr (.cells (moC false false MoV.nul).toArray 51)).trans ht).below nLe (by intro k hk e;omega);have HM2:=Lh (HM.out.under tb);have HB2:=Lh (HB.out.trans (Bg.of tb));have hb0:w2.cell? ⟨wr.heap.size,0,none⟩=some (.slice IA q.1.im.length ic):=(hs.at 0 rfl).trans (congrArg some hiv);clear ht hs tb)
    | go_in)
   have HIV:=Lh hiv
   have HRA:=Lh (show Qe7 N ((q.1.im.take 0).map (·.nm)) ((q.1.im.drop 0).map NmT.sn)=R1 from HR1.out)
   have HMA:=Lh (show Mk X N (k*1000000+0) (Y5 (Qij N) (Qm ML) k (Qii N ((q.1.im.take 0).map (·.nm)))) qo g la ef w2 by rw [Nat.add_zero,List.take_zero,List.map_nil,impD_nil];exact HM2.out)
   clear hiv HM2 HM HB HR1
   go_loopw [26] (fun i wr=>∃ j:Nat,i=.int .i64 (j:Int)∧j≤q.1.im.length∧Hid (Qe7 N ((q.1.im.take j).map (·.nm)) ((q.1.im.drop j).map NmT.sn)=R1)∧Hid (Mk X N (k*1000000+j) (Y5 (Qij N) (Qm ML) k (Qii N ((q.1.im.take j).map (·.nm)))) qo g la ef wr)∧Hid (Bg X w wr)) (fun i _=>q.1.im.length-(intOf i).toNat)
   case atStart=>exact ⟨0,rfl,Nat.zero_le _,HRA,HMA,HB2⟩
   case round =>
    clear HRA HMA HB2
    obtain ⟨j,rfl,hj,HR,HM,HB⟩:=hrel
    by_cases hlt3:j<q.1.im.length
    ·obtain ⟨b1,off1,q1,hA1,hq1,_,hms,_⟩:=(HRD.out.lowG hgw HB.out).sh.rg hlt
     obtain rfl:q1=q:=by have:=HQ.out;rw [this] at hq1;cases hq1;rfl
     obtain ⟨ib,io,ic',x,hv,hx,hxm,d0,d1⟩:=hms.im.nm hlt3
     rw [HIV.out] at hv
     injection hv with e1 _ e3
     subst e1
     subst e3
     have hxs:=HNS.out x hxm
     have hr:=HR.out
     obtain ⟨hl2,hl3⟩:=List.getElem?_eq_some_iff.1 hx
     have hxj:q1.1.im[j]?=some x:=by rw [← hx]
     have hdr:q1.1.im.drop j=x::q1.1.im.drop (j+1):=by rw [List.drop_eq_getElem_cons hl2,hl3]
     have htk:(q1.1.im.take (j+1)).map (·.nm)=(q1.1.im.take j).map (·.nm)++[x.nm]:=by rw [List.take_add_one,hxj];simp
     rw [hdr,List.map_cons,Qe7,show ((q1.1.im.take j).map (·.nm))++[(NmT.sn x).1]=(q1.1.im.take (j+1)).map (·.nm) from htk.symm] at hr
     have HTK:=Lh htk
     obtain ⟨D,hD⟩:∃ D,(q1.1.im.take j).map (·.nm)=D:=⟨_,rfl⟩
     rw [hD] at hr HM HTK
     have b3:Below wr.heap.size wr (wr.alloc (.cells #[.string x.nm,.int .i64 x.a] 53)):=bAl
     have HM3:=HM.out.under b3
     have HB3:=HB.out.trans (Bg.of b3)
     have V3:=Var.new wr [.string x.nm,.int .i64 x.a] 53 rfl
     clear hms hx hxm hq1 hdr htk hD hl3 hxj b3
     go_wp2
     obtain ⟨w3,hw3⟩:∃ w3,wr.alloc (.cells #[.string x.nm,.int .i64 x.a] 53)=w3:=⟨_,rfl⟩
     rw [hw3] at HM3 HB3 V3
     rw [hw3]
     clear hw3
     have m3:w3.cell? ⟨X.G+4,3,none⟩=some (.map (some (X.G+3))):=HM3.me.at 3 rfl
     have v0:w3.cell? ⟨wr.heap.size,0,none⟩=some (.string x.nm):=V3.at 0 rfl
     have hlk:=Qc1 HM3.drew.nm hxs
     have HM4:=Lh HM3.drew
     have HB4:=Lh (HB3.trans (Bg.drew w3))
     have V4:=V3.keep (w':=w3.drew) rfl nLe
     rw [Qk5] at hlk
     cases hkn:(Zg N x.nm).isSome with
     | false =>
      rw [if_neg (show ¬ (Zg N (NmT.sn x).1).isSome=true by rw [show (NmT.sn x).1=x.nm from rfl,hkn];decide)] at hr
      rw [hkn] at hlk
      have HE:=Lh (show R=some (k,x.a,13) by rw [← HT2.out,← hr];rfl)
      clear hr hkn HM3 HB3 V3
      go_region
      obtain ⟨w4,hw4⟩:∃ w4,w3.drew=w4:=⟨_,rfl⟩
      rw [hw4] at HB4 V4
      rw [hw4]
      have v1:w4.cell? ⟨wr.heap.size,1,none⟩=some (.int .i64 x.a):=V4.at 1 rfl
      clear hw4 HM4 hlk v0 m3
      go_wp2
      go_region
      go_wp2
      go_ret3
      exact Yt.bad HE.out (HB4.out.trans (Bg.drew w4))
     | true =>
      rw [if_pos (show (Zg N (NmT.sn x).1).isSome=true from hkn)] at hr
      rw [hkn,Qon hkn] at hlk
      clear HM3 HB3 V3
      go_region
      obtain ⟨w4,hw4⟩:∃ w4,w3.drew=w4:=⟨_,rfl⟩
      rw [hw4] at HB4 V4 HM4
      rw [hw4]
      have v1:w4.cell? ⟨wr.heap.size,1,none⟩=some (.int .i64 x.a):=V4.at 1 rfl
      have v0:w4.cell? ⟨wr.heap.size,0,none⟩=some (.string x.nm):=V4.at 0 rfl
      clear hw4 hlk m3
      have m0:w4.cell? ⟨X.G+4,0,none⟩=some (.pointer (some ⟨X.G+2,0,none⟩)):=HM4.out.me.at 0 rfl
      have s2:w4.cell? ⟨X.G+2,2,none⟩=some (.map (some (X.G+1))):=HM4.out.sc.at 2 rfl
      have hlk:=Qg4 (i:=(k:Int)) HM4.out.drew.im (by omega) (by omega) hxs
      rw [Z5,Qik] at hlk
      have HM5:=Lh HM4.out.drew
      have HB5:=Lh (HB4.out.trans (Bg.drew w4))
      have V5:=V4.keep (w':=w4.drew) rfl nLe
      cases hin:(Zg D x.nm).isSome with
      | true =>
       rw [if_pos (show (Zg D (NmT.sn x).1).isSome=true from hin)] at hr
       rw [hin] at hlk
       have HE:=Lh (show R=some (k,x.a,7) by rw [← HT2.out,← hr];rfl)
       clear hr hin hkn
       go_wp2
       go_region
       obtain ⟨w5,hw5⟩:∃ w5,w4.drew=w5:=⟨_,rfl⟩
       rw [hw5] at HB5 V5
       rw [hw5]
       have v1:w5.cell? ⟨wr.heap.size,1,none⟩=some (.int .i64 x.a):=V5.at 1 rfl
       clear hw5 HM5 HM4 hlk v0 m0 s2
       go_wp2
       go_region
       go_wp2
       go_ret3
       exact Yt.bad HE.out (HB5.out.trans (Bg.drew w5))
      | false =>
       rw [if_neg (show ¬ (Zg D (NmT.sn x).1).isSome=true by rw [show (NmT.sn x).1=x.nm from rfl,hin];decide)] at hr
       rw [hin] at hlk
       have HR2:=Lh hr
       have hnotin:x.nm∉D:=fun hh=>by have:=Qy.2 hh;rw [hin] at this;cases this
       clear hr hin
       go_wp2
       go_region
       obtain ⟨w5,hw5⟩:∃ w5,w4.drew=w5:=⟨_,rfl⟩
       rw [hw5] at HB5 V5 HM5
       rw [hw5]
       have v0:w5.cell? ⟨wr.heap.size,0,none⟩=some (.string x.nm):=V5.at 0 rfl
       have m0:w5.cell? ⟨X.G+4,0,none⟩=some (.pointer (some ⟨X.G+2,0,none⟩)):=HM5.out.me.at 0 rfl
       have s2:w5.cell? ⟨X.G+2,2,none⟩=some (.map (some (X.G+1))):=HM5.out.sc.at 2 rfl
       clear hw5 HM4 hlk v1
       obtain ⟨lk,hkk⟩:=keyN (i:=(k:Int)) (by omega) (by omega) hxs
       obtain ⟨w6,hrun,hat,hgr,hsz⟩:=KM.At.store (m:=Qhb) HM5.out.drew.im (by omega) (k:=((k:Int),x.nm)) hkk (Zl N x.nm:Int) (Y5 (Qij N) (Qm ML) k (Qii N (D++[x.nm]))) ((Z5 (F:=Qij N) (M:=Qm ML) (i:=k)).trans impD_new) (fun y hy=>Qbc (fun t ht=>impD_old ht) hy)
       have hrun2:(Instr.mapUpdate 59 (.map (some (X.G+1))) (.agg #[.int .i64 (k:Int),.string x.nm]) (.int .i64 (Zl N x.nm:Int))).run Try.prog w5.drew=.ok () w6:=hrun
       have HM6:=Lh (show Mk X N (k*1000000+(j+1)) (Y5 (Qij N) (Qm ML) k (Qii N ((q1.1.im.take (j+1)).map (·.nm)))) qo g la ef w6 by rw [HTK.out,← Nat.add_assoc];exact HM5.out.drew.putI hat hgr)
       have HB6:=Lh ((HB5.out.trans (Bg.drew w5)).trans (Bg.gb hgr (by omega) (by omega)))
       clear hrun hat hgr hsz hnotin
       go_wp2
       go_region
       go_wp2
       go_roundw
       case rel=>exact ⟨j+1,by go_num,hlt3,HR2,HM6,HB6⟩
       case measure=>simp [intOf];omega
    ·obtain rfl:j=q.1.im.length:=by omega
     have hr:=HR.out
     rw [List.drop_length,List.map_nil,Qe7] at hr
     have HT3:=Lh (show sc2 N ((Qm ML).drop (k+1)) (k+1)=R by have:=HT2.out;rw [← hr] at this;exact this)
     have HM7:=Lh (show Mk X N ((k+1)*1000000) (Y5 (Qij N) (Qm ML) (k+1) fun _=>none) qo g la ef wr by
      have h7:=HM.out
      rw [List.take_length,show Y5 (Qij N) (Qm ML) k (Qii N (q.1.im.map (·.nm)))=Y5 (Qij N) (Qm ML) (k+1) (fun _=>none) by
       rw [← Qg2 (Zo HQ.out)]
       congr 1
       unfold Qij
       congr 1
       show _=(q.1.im.map NmT.sn).map (·.1)
       rw [List.map_map]
       rfl] at h7
      exact ⟨h7.me,h7.sc,h7.nm,h7.im.mono (by omega),h7.ow⟩)
     clear hr
     go_wp2
     go_roundw
     case rel=>exact ⟨k+1,by go_num,hlt,HT3,HM7,HB⟩
     case measure=>simp [intOf];omega
  ·obtain rfl:X.n=k:=by omega
   have hr:=HR.out
   rw [List.drop_eq_nil_of_le (by rw [Qw,HLn.out];exact Nat.le_refl _),sc2] at hr
   have HE:=Lh hr.symm
   have HM2:=Lh (show Mk X N (X.n*1000000) (Qc5 N (Qm ML)) qo g la ef wr by have:=HM.out;unfold Qc5;rw [Qw,HLn.out];exact this)
   clear hr
   go_wp2
   go_ret3
   exact Yt.good HE.out HB.out HM2.out
theorem Rd.ok{X:MkA}{S:Nat→Prop}{N:List ByteArray}{ML:List OMo}{w:World}(h:Rd X S N ML w)(h2:sc2 N (Qm ML) 0=none):Qhd N (Qm ML):=
 ⟨by rw [Qw,h.sh.len,h.len],by rw [Qw,h.sh.len];exact h.hn,Qjn h2,h.sz⟩
theorem Qip{X:MkA}{S:Nat→Prop}{N:List ByteArray}{ML:List OMo}{qi qo:Nat}{g:Int×ByteArray→Option (Int×Int)}{la ef:Int}{w:World}(h:Mk X N qi (Qc5 N (Qm ML)) qo g la ef w)(hr:Rd X S N ML w)(hok:Qhd N (Qm ML)) :
  CP 25 #[.pointer (some ⟨X.G+4,0,none⟩)] w (Yt X (sc3 (edg N (Qm ML)) (Qm ML).length N (Qm ML) 0) (Mk X N qi (Qc5 N (Qm ML)) qo g la ef) w):=by
 have hzm:=Qbg
 have hzn:=Qba
 have hz:=Qea
 have c0:w.cell? ⟨X.G+4,0,none⟩=some (.pointer (some ⟨X.G+2,0,none⟩)):=h.me.at 0 rfl
 have HLn:=Lh hr.sh.len
 have hn64:=hr.hn
 have hMl:(Qm ML).length=X.n:=by rw [Qw,hr.sh.len]
 obtain ⟨R,hR⟩:∃ R,sc3 (edg N (Qm ML)) (Qm ML).length N (Qm ML) 0=R:=⟨_,rfl⟩
 rw [hR]
 have HR0:=Lh (show sc3 (edg N (Qm ML)) (Qm ML).length N ((Qm ML).drop 0) 0=R from hR)
 have HFAR:=Lh (far_any (show Var w (X.G+2) (scC (Qm ML).length X.G (X.G+1) la ef) by rw [hMl];exact h.sc) h.im hok)
 have HEQ:=Lh (fun (i f:Nat) (hp:(i,f)∈edg N (Qm ML))=>far_iff (n:=(Qm ML).length) hok.edge hp)
 have HLEN:=Lh hok.len
 have HIM:=Lh hok.im
 have HM0:=Lh h
 have HRD:=Lh hr
 have hgl:X.G+4<w.heap.size:=h.lt
 have hgw:X.G≤w.heap.size:=by omega
 clear h hr hR hok
 go_enter Try.func25,Try.ntmps25
 go_wp2_with (first
  | (go_at_call 40;refine HFAR.out.mono ?_;rintro e w1 ⟨l,rfl,hl0,b1⟩;have b2:Below w1.heap.size w1 (w1.alloc (.cells (t64 fun _=>0).toArray 85)):=bAl;have HM1:=Lh ((HM0.out.under b1).under b2);have HB1:=Lh ((Bg.of (X:=X) b1).trans (Bg.of b2));have HS1:w.heap.size≤w1.heap.size:=b1.size;have HL1:=Lh hl0;clear hl0 b1 b2)
  | (refine Qa rfl 85 (.tmp 5) (.tmp 14) rfl (G:=w1.heap.size) (off:=0) rfl (us:=t64 l) (Var.new w1 (t64 fun _=>0) 85 rfl) rfl (Kj l) (by rw [Q8,Q8];exact Nat.le_refl _) (U7 l) ?_;intro w2 ht hs;rw [Uj (by rw [Q8,Q8])] at hs;have tb:=ht.below (B:=w1.heap.size) (by simp) (fun k hk e=>by omega);have HM2:=Lh (HM1.out.low (show X.G+5≤w1.heap.size by omega) tb);have HV2:=Lh hs;have HB2:=Lh (show Bg X w w2 from Tn.then_ HB1.out ht (fun i hi e=>(by omega)));have c2:w2.cell? ⟨X.G+4,2,none⟩=some (.slice X.A X.n X.c):=HM2.out.me.at 2 rfl;clear hs ht tb)
  | go_in)
 obtain ⟨FB,hFB⟩:∃ FB,w1.heap.size=FB:=⟨_,rfl⟩
 rw [hFB] at HV2 HS1
 rw [hFB]
 clear hFB HFAR HM1 HB1 HM0 c0 c2
 go_loopw [20] (fun i wr=>∃ k:Nat,i=.int .i64 (k:Int)∧k≤X.n∧Hid (sc3 (edg N (Qm ML)) (Qm ML).length N ((Qm ML).drop k) k=R)∧Hid (Mk X N qi (Qc5 N (Qm ML)) qo g la ef wr)∧Hid (Var wr FB (t64 l))∧Hid (Bg X w wr)) (fun i _=>X.n-(intOf i).toNat)
 case atStart=>exact ⟨0,rfl,Nat.zero_le _,HR0,HM2,HV2,HB2⟩
 case round =>
  clear HR0 HM2 HV2 HB2
  obtain ⟨k,rfl,hk,HR,HM,HV,HB⟩:=hrel
  have HRW:=Lh (HRD.out.lowG hgw HB.out)
  by_cases hlt:k<X.n
  ·obtain ⟨b0,off0,q,hA0,hq,hqm,hms,hrg⟩:=HRW.out.sh.rg hlt
   rw [hA0]
   have ht:=HR.out
   rw [Zm hq,sc3] at ht
   obtain ⟨R1,hR1⟩:∃ R1,Qfk (edg N (Qm ML)) (Qm ML).length N k q.1.sm.im=R1:=⟨_,rfl⟩
   rw [hR1] at ht
   have HT2:=Lh ht
   have HR1:=Lh (show Qfk (edg N (Qm ML)) (Qm ML).length N k ((q.1.im.drop 0).map NmT.sn)=R1 from hR1)
   have HQ:=Lh hq
   have HONE:=Lh (hms.ones q.1.hl q.1.he)
   have HRG:=Lh hrg
   obtain ⟨hbi,_,_⟩:=HRW.out.cnt q hqm
   have HNS:=Lh (HRW.out.nsz q hqm).1
   obtain ⟨IA,ic,hiv,_⟩:=hms.im
   clear ht hR1 hq hqm hms hrg HR
   go_wp2_with (first
    | (refine Qb rfl 51 (.tmp 23) rfl b0 (off0+k*7) rfl (moC q.1.hl q.1.he q.2) HRG.out Try.underlying51 rfl Jm ?_)
    | (refine Qa rfl 51 (.tmp 7) (.tmp 24) rfl (G:=wr.heap.size) (off:=0) rfl (us:=moC q.1.hl q.1.he q.2) (Var.new wr (moC false false MoV.nul) 51 rfl) rfl Jm (Nat.le_refl 7) HONE.out ?_;intro w2 ht hs;have tb:=((Tn.alloc (fun k=>k=wr.heap.size) wr (.cells (moC false false MoV.nul).toArray 51)).trans ht).below nLe (by intro k hk e;omega);have HM2:=Lh (HM.out.under tb);have HV2:=Lh (HV.out.under tb);have HB2:=Lh (HB.out.trans (Bg.of tb));have hb0:w2.cell? ⟨wr.heap.size,0,none⟩=some (.slice IA q.1.im.length ic):=(hs.at 0 rfl).trans (congrArg some hiv);clear ht hs tb)
    | go_in)
   have HIV:=Lh hiv
   clear hiv HM HB HV
   go_loopw [28] (fun i wr=>∃ j:Nat,i=.int .i64 (j:Int)∧j≤q.1.im.length∧Hid (Qfk (edg N (Qm ML)) (Qm ML).length N k ((q.1.im.drop j).map NmT.sn)=R1)∧Hid (Mk X N qi (Qc5 N (Qm ML)) qo g la ef wr)∧Hid (Var wr FB (t64 l))∧Hid (Bg X w wr)) (fun i _=>q.1.im.length-(intOf i).toNat)
   case atStart=>exact ⟨0,rfl,Nat.zero_le _,HR1,HM2,HV2,HB2⟩
   case round =>
    clear HR1 HM2 HV2 HB2
    obtain ⟨j,rfl,hj,HR,HM,HV,HB⟩:=hrel
    by_cases hlt3:j<q.1.im.length
    ·obtain ⟨b1,off1,q1,hA1,hq1,hqm1,hms,_⟩:=(HRD.out.lowG hgw HB.out).sh.rg hlt
     obtain rfl:q1=q:=by have:=HQ.out;rw [this] at hq1;cases hq1;rfl
     obtain ⟨ib,io,ic',x,hv,hx,hxm,d0,d1⟩:=hms.im.nm hlt3
     rw [HIV.out] at hv
     injection hv with e1 _ e3
     subst e1
     subst e3
     have hxs:=HNS.out x hxm
     have hr:=HR.out
     obtain ⟨hl2,hl3⟩:=List.getElem?_eq_some_iff.1 hx
     rw [List.drop_eq_getElem_cons hl2,hl3,List.map_cons,Qfk] at hr
     have hin:x.nm∈N:=HIM.out q1.1.sm (List.mem_of_getElem? (Zo HQ.out)) (NmT.sn x) (List.mem_map.2 ⟨x,hxm,rfl⟩)
     have hio:(Zg N x.nm).isSome=true:=Qy.2 hin
     have hl64:Zl N x.nm<64:=by have:=K3 hin;have:=HLEN.out;omega
     have k64:k<64:=by omega
     have heq:=HEQ.out k (Zl N x.nm) (K4.2 ⟨q1.1.sm,Zo HQ.out,NmT.sn x,List.mem_map.2 ⟨x,hxm,rfl⟩,rfl⟩)
     rw [show Zl N (NmT.sn x).1=Zl N x.nm from rfl,← heq,← HL1.out.bit _ _ k64] at hr
     have hbt:=otestS (HL1.out.lt (Zl N x.nm)) k64
     have b3:Below wr.heap.size wr (wr.alloc (.cells #[.string x.nm,.int .i64 x.a] 53)):=bAl
     have HM3:=HM.out.under b3
     have HF3:=HV.out.under b3
     have HB3:=HB.out.trans (Bg.of b3)
     have V3:=Var.new wr [.string x.nm,.int .i64 x.a] 53 rfl
     clear hms hx hxm hq1 hqm1 hl3 b3 heq hin
     go_wp2
     obtain ⟨w3,hw3⟩:∃ w3,wr.alloc (.cells #[.string x.nm,.int .i64 x.a] 53)=w3:=⟨_,rfl⟩
     rw [hw3] at HM3 HB3 V3 HF3
     rw [hw3]
     clear hw3
     have m3:w3.cell? ⟨X.G+4,3,none⟩=some (.map (some (X.G+3))):=HM3.me.at 3 rfl
     have v0:w3.cell? ⟨wr.heap.size,0,none⟩=some (.string x.nm):=V3.at 0 rfl
     have hlk:=num_look HM3.drew.nm hxs
     rw [Qon hio] at hlk
     have hf:w3.cell? ⟨FB,Zl N x.nm,none⟩=some (.int .u64 (l (Zl N x.nm):Int)):=HF3.at _ (U6 l hl64)
     have HM4:=Lh HM3.drew
     have HF4:=Lh (HF3.keep (w':=w3.drew) rfl nLe)
     have HB4:=Lh (HB3.trans (Bg.drew w3))
     have V4:=V3.keep (w':=w3.drew) rfl nLe
     obtain ⟨tz,hto⟩:∃ tz,Zl N x.nm=tz:=⟨_,rfl⟩
     rw [hto] at hlk hf hbt hr hl64
     obtain ⟨lv,hlv⟩:∃ lv,l tz=lv:=⟨_,rfl⟩
     rw [hlv] at hf hbt hr
     cases hc:lv.testBit k with
     | true =>
      rw [hc] at hbt
      rw [if_pos hc] at hr
      have HE:=Lh (show R=some (k,x.a,14) by rw [← HT2.out,← hr];rfl)
      clear hr hc hto hlv hio HM3 HF3
      go_region
      obtain ⟨w4,hw4⟩:∃ w4,w3.drew=w4:=⟨_,rfl⟩
      rw [hw4] at HB4 V4
      rw [hw4]
      have v1:w4.cell? ⟨wr.heap.size,1,none⟩=some (.int .i64 x.a):=V4.at 1 rfl
      clear hw4 HM4 HF4 hlk v0 m3 hf
      go_wp2
      go_region
      go_wp2
      go_ret3
      exact Yt.bad HE.out (HB4.out.trans (Bg.drew w4))
     | false =>
      rw [hc] at hbt
      rw [if_neg (by rw [hc];decide)] at hr
      have HR2:=Lh hr
      clear hr hc hto hlv hio HM3 HF3
      go_region
      obtain ⟨w4,hw4⟩:∃ w4,w3.drew=w4:=⟨_,rfl⟩
      rw [hw4] at HB4 HM4 HF4
      rw [hw4]
      clear hw4 hlk v0 m3 hf V4
      go_wp2
      go_roundw
      case rel=>exact ⟨j+1,by go_num,hlt3,HR2,HM4,HF4,HB4⟩
      case measure=>simp [intOf];omega
    ·obtain rfl:j=q.1.im.length:=by omega
     have hr:=HR.out
     rw [List.drop_length,List.map_nil,Qfk] at hr
     have HT3:=Lh (show sc3 (edg N (Qm ML)) (Qm ML).length N ((Qm ML).drop (k+1)) (k+1)=R by have:=HT2.out;rw [← hr] at this;exact this)
     clear hr
     go_wp2
     go_roundw
     case rel=>exact ⟨k+1,by go_num,hlt,HT3,HM,HV,HB⟩
     case measure=>simp [intOf];omega
  ·obtain rfl:X.n=k:=by omega
   have hr:=HR.out
   rw [List.drop_eq_nil_of_le (by rw [Qw,HLn.out];exact Nat.le_refl _),sc3] at hr
   have HE:=Lh hr.symm
   clear hr
   go_wp2
   go_ret3
   exact Yt.good HE.out HB.out HM.out
end Go.Proofs.Ytjoclbeoafeebaa
