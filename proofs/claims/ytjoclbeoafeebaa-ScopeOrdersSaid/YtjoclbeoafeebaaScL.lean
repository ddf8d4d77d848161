import Derived.Test.YtjoclbeoafeebaaSq
import Derived.Test.YtjoclbeoafeebaaSgN
import Derived.Test.YtjoclbeoafeebaaFiS
set_option maxHeartbeats 1600000
set_option maxRecDepth 100000
namespace Go.Proofs.Ytjoclbeoafeebaa
set_option linter.unusedVariables false
set_option linter.unusedSimpArgs false
open Go.RowKit
def NmT.sn(x:NmT):SNm:=(x.nm,x.a)
def VrT.sn(x:VrT):SNm:=(x.nm,x.a)
def FnT.sn(x:FnT):SNm:=(x.nm,x.a)
def MoT.sm(m:MoT):SMd:=⟨m.im.map NmT.sn,m.hl,m.he,m.va.map VrT.sn,m.fn.map FnT.sn⟩
/-! ### rows of modules -/
abbrev OMo:=MoT×MoV
def mos(ML:List OMo):List Value:=ML.flatMap fun q=>moC q.1.hl q.1.he q.2
theorem mos_snoc(ML:List OMo)(q:OMo):mos (ML++[q])=mos ML++moC q.1.hl q.1.he q.2:=by simp [mos]
theorem Qns:∀ {ML:List OMo} {k:Nat} {q:OMo} {j:Nat} {u:Value},ML[k]?=some q→(moC q.1.hl q.1.he q.2)[j]?=some u→(mos ML)[k*7+j]?=some u
 | [],k,q,j,u,h,_=>by cases h
 | a::L,0,q,j,u,h,hu=>by
  cases h
  have hj:j<7:=(List.getElem?_eq_some_iff.1 hu).1
  show (moC a.1.hl a.1.he a.2++mos L)[0*7+j]?=some u
  rw [List.getElem?_append_left (by show 0*7+j<7;omega),show 0*7+j=j by omega]
  exact hu
 | a::L,k+1,q,j,u,h,hu=>by
  have:=Qns (ML:=L) (k:=k) (q:=q) (by simpa using h) hu
  show (moC a.1.hl a.1.he a.2++mos L)[(k+1)*7+j]?=some u
  rw [List.getElem?_append_right (by show 7≤(k+1)*7+j;omega),show (k+1)*7+j-(moC a.1.hl a.1.he a.2).length=k*7+j by show (k+1)*7+j-7=_;omega]
  exact this
structure Y4 (w:World) (S:Nat→Prop) (A:Option Addr) (n:Nat) (ML:List OMo):Prop where
 len:ML.length=n
 cs:0<n→∃ b off,A=some ⟨b,off,none⟩∧S b∧b<w.heap.size∧w.rangeAt b off (mos ML)
 sh:∀ q∈ML,Zx w S q.1 q.2
section
variable {w w':World} {S S':Nat→Prop} {A:Option Addr} {n:Nat} {ML:List OMo}
theorem Y4.keep(h:Y4 w S A n ML)(hS:∀ b,S b→b<w.heap.size→S' b∧b<w'.heap.size∧w'.heap[b]?=w.heap[b]?):Y4 w' S' A n ML:=by
 refine ⟨h.len,fun hn=>?_,fun q hq=>(h.sh q hq).keep hS⟩
 obtain ⟨b,off,e,hb,hlt,hr⟩:=h.cs hn
 obtain ⟨k1,k2,k3⟩:=hS b hb hlt
 exact ⟨b,off,e,k1,k2,fun i v hv=>(World.cell?_of_block (a:=⟨b,_,none⟩) k3).trans (hr i v hv)⟩
theorem Y4.under(h:Y4 w S A n ML)(hb:Below w.heap.size w w'):Y4 w' S A n ML:=h.keep fun b h1 h2=>⟨h1,Nat.lt_of_lt_of_le h2 hb.size,hb.block b h2⟩
theorem Y4.weak(h:Y4 w S A n ML)(hS:∀ b,S b→b<w.heap.size→S' b):Y4 w S' A n ML:=h.keep fun b h1 h2=>⟨hS b h1 h2,h2,rfl⟩
theorem Y4.at(h:Y4 w S A n ML){i:Nat}(hi:i<n):∃ b off q,A=some ⟨b,off,none⟩∧ML[i]?=some q∧q∈ML∧Zx w S q.1 q.2∧w.cell? ⟨b,off+i*7,none⟩=some q.2.im∧w.cell? ⟨b,off+i*7+1,none⟩=some (.bool q.1.hl)∧w.cell? ⟨b,off+i*7+3,none⟩=some (.bool q.1.he)∧w.cell? ⟨b,off+i*7+5,none⟩=some q.2.va∧w.cell? ⟨b,off+i*7+6,none⟩=some q.2.fn:=by
 obtain ⟨b,off,e,_,_,hr⟩:=h.cs (by omega)
 have hl:i<ML.length:=by rw [h.len];exact hi
 have hg:ML[i]?=some ML[i]:=List.getElem?_eq_getElem hl
 have hc:=fun j u (hu:(moC ML[i].1.hl ML[i].1.he ML[i].2)[j]?=some u)=>(by
  have:=hr _ _ (Qns hg hu)
  rwa [← Nat.add_assoc] at this:w.cell? ⟨b,off+i*7+j,none⟩=some u)
 exact ⟨b,off,ML[i],e,hg,List.getElem_mem _,h.sh _ (List.getElem_mem _),hc 0 _ rfl,hc 1 _ rfl,hc 3 _ rfl,hc 5 _ rfl,hc 6 _ rfl⟩
end
theorem nms_at:∀ {L:List NmT} {k:Nat} {x:NmT},L[k]?=some x→(nms L)[k*2]?=some (.string x.nm)∧(nms L)[k*2+1]?=some (.int .i64 x.a)
 | [],k,x,h=>by cases h
 | a::L,0,x,h=>by cases h;exact ⟨rfl,rfl⟩
 | a::L,k+1,x,h=>by
  have:=nms_at (L:=L) (k:=k) (x:=x) (by simpa using h)
  have h2:∀ j,(nms (a::L))[j+2]?=(nms L)[j]?:=fun j=>rfl
  rw [show (k+1)*2=k*2+2 by omega,show k*2+2+1=(k*2+1)+2 by omega,h2,h2]
  exact this
theorem ShV.nm{w:World}{S:Nat→Prop}{v:Value}{L:List NmT}(h:ShV w S v L.length (nms L)){k:Nat}(hk:k<L.length):∃ b off c x,v=.slice (some ⟨b,off,none⟩) L.length c∧L[k]?=some x∧x∈L∧w.cell? ⟨b,off+k*2,none⟩=some (.string x.nm)∧w.cell? ⟨b,off+k*2+1,none⟩=some (.int .i64 x.a):=by
 obtain ⟨A,c,e,_,hr⟩:=h
 obtain ⟨b,off,rfl,_,_,hc⟩:=hr (by omega)
 have hg:L[k]?=some L[k]:=List.getElem?_eq_getElem hk
 obtain ⟨h0,h1⟩:=nms_at hg
 exact ⟨b,off,c,L[k],e,hg,List.getElem_mem _,hc _ _ h0,hc _ _ h1⟩
/-! ### the pairs,module by module -/
def Qfl(N:List ByteArray)(i:Nat)(l:List SNm):List (Nat×Nat):=l.map fun x=>(i,Zl N x.1)
theorem edg_take(N:List ByteArray)(M:List SMd){i:Nat}{m:SMd}(h:M[i]?=some m):edg N (M.take (i+1))=edg N (M.take i)++Qfl N i m.im:=by
 have hi:=(List.getElem?_eq_some_iff.1 h).1
 unfold edg
 rw [List.take_add_one,h]
 show List.flatMap _ (M.take i++[m]).zipIdx=_
 rw [List.zipIdx_append,List.flatMap_append,List.length_take,Nat.min_eq_left (by omega)]
 simp [Qfl]
theorem Qcw(a b:List (Nat×Nat))(S:Nat→Bool):Yq (a++b) S=Yq b (Yq a S):=by unfold Yq;rw [List.foldl_append]
theorem Qgu{N:List ByteArray}{i:Nat}:∀ {l:List SNm} {S:Nat→Bool},S i=false→Yq (Qfl N i l) S=S
 | [],_,_=>rfl
 | x::l,S,h=>by
  show Yq (Qfl N i l) (g1 S (i,Zl N x.1))=S
  have:g1 S (i,Zl N x.1)=S:=by unfold g1;rw [if_neg (by rw [h];decide)]
  rw [this]
  exact Qgu h
theorem Qnt(N:List ByteArray)(i:Nat)(l:List SNm)(x:SNm):Qfl N i (l++[x])=Qfl N i l++[(i,Zl N x.1)]:=by simp [Qfl]
def Qm(ML:List OMo):List SMd:=ML.map fun q=>q.1.sm
theorem Qw(ML:List OMo):(Qm ML).length=ML.length:=by simp [Qm]
theorem Zo{ML:List OMo}{i:Nat}{q:OMo}(h:ML[i]?=some q):(Qm ML)[i]?=some q.1.sm:=by simp [Qm,h]
def ImIn(N:List ByteArray)(ML:List OMo):Prop:=∀ q∈ML,q.1.im.length≤1000000∧∀ x∈q.1.im,x.nm∈N
theorem Qku(A B:Option Addr)(n m c d:Nat)(ML:List OMo)(N:List ByteArray)(f g:Nat)(S0:Nat→Prop)(w:World)(hL:Y4 w S0 A n ML)(hn:n≤1000000)(hB:Sh w w.heap.size B m (Z0 N))(hnm:m=n)(hf:f<n)(hg:g<n)(hI:ImIn N ML) :
  CP 46 #[.slice B m d,.slice A n c,.int .i64 (f:Int),.int .i64 (g:Int)] w fun e w'=>e=.returned (.bool (Jb (edg N (Qm ML)) f n g))∧Below w.heap.size w w':=by
 subst hnm
 have HLn:=Lh hL.len
 have hNm:N.length=m:=by have:=hB.len;simpa [Z0] using this
 obtain ⟨w1,hmk,ho1,hb1⟩:=Qd3 w m hn
 have HB1:=Lh hb1
 have HFIND:=Lh (fun (wx:World) (b:Below w.heap.size w wx) (s:ByteArray) (hs:s∈N)=>(by
  have:=Z4 B m d N s wx w.heap.size (hB.below b) (by unfold maxLen;omega)
  rw [Yg hs] at this
  exact this:CP 34 #[.slice B m d,.string s] wx fun e w'=>e=.returned (.int .i64 (Zl N s:Int))∧wx=w'))
 have HCEL:=Lh (fun (wx:World) (S:Nat→Bool) (ho:Own wx w.heap.size 4 1 (.slice (some ⟨w.heap.size,0,none⟩) m m) m (Ys m S)) (j:Nat) (hj:j<m)=>(by
  obtain ⟨b,off,u,e,hb,hu,hc⟩:=ho.sh.at hj
  cases e
  rw [Qjl hu,Nat.zero_add] at hc
  refine ⟨hc,?_⟩
  rcases ho.1.2 with ⟨e1,_⟩ | ⟨g,cap,cur,e1,_,hh,_⟩
  ·cases e1
  ·cases e1
   simp [World.frozen?,hh]:wx.cell? ⟨w.heap.size,j,none⟩=some (.bool (S j))∧wx.frozen? ⟨w.heap.size,j,none⟩=false))
 have HSET:=Lh (fun (wx:World) (S:Nat→Bool) (ho:Own wx w.heap.size 4 1 (.slice (some ⟨w.heap.size,0,none⟩) m m) m (Ys m S)) (j:Nat) (hj:j<m)=>(by
  have:=ho.set1q j (by omega) (.bool true)
  rw [Qgr m S hj] at this
  exact this:Own (wx.setCell ⟨w.heap.size,j,none⟩ (.bool true)) w.heap.size 4 1 (.slice (some ⟨w.heap.size,0,none⟩) m m) m (Ys m (Qks S j))))
 obtain ⟨E,hE⟩:∃ E,edg N (Qm ML)=E:=⟨_,rfl⟩
 have HE:=Lh hE
 rw [hE]
 obtain ⟨cf,ff⟩:=HCEL.out w1 _ ho1 f hf
 have O1:=Lh (show Own (w1.setCell ⟨w.heap.size,f,none⟩ (.bool true)) w.heap.size 4 1 (.slice (some ⟨w.heap.size,0,none⟩) m m) m (Ys m (Jb E f 0)) from by
  have:=HSET.out w1 _ ho1 f hf
  have e:Qks (fun _=>false) f=Jb E f 0:=by
   funext k
   unfold Qks Jb
   by_cases h:k=f <;> simp [h]
  rwa [e] at this)
 have HB2:=Lh (HB1.out.setCell (p:=⟨w.heap.size,f,none⟩) nLe (.bool true))
 have HNm:=Lh hNm
 have HII:=Lh hI
 have HLL:=Lh hL
 clear ho1 hb1 hB hNm hE hI hL
 go_enter Try.func46,Try.ntmps46
 go_wp2
 obtain ⟨w2,hw2⟩:∃ w2,w1.setCell ⟨w.heap.size,f,none⟩ (.bool true)=w2:=⟨_,rfl⟩
 rw [hw2] at O1 HB2
 rw [hw2]
 clear hw2 cf ff hmk
 go_loopw [10] (fun i wr=>∃ t:Nat,i=.int .i64 (t:Int)∧t≤m∧Hid (Own wr w.heap.size 4 1 (.slice (some ⟨w.heap.size,0,none⟩) m m) m (Ys m (Jb E f t)))∧Hid (Below w.heap.size w wr)) (fun i _=>m-(intOf i).toNat)
 case atStart=>exact ⟨0,rfl,Nat.zero_le _,O1,HB2⟩
 case round =>
  obtain ⟨t,rfl,ht,HO,HB⟩:=hrel
  obtain ⟨wa,hwa⟩:∃ wa,wa=wr:=⟨_,rfl⟩
  subst hwa
  by_cases hlt:t<m
  ·have HT:=Lh (show Jb E f (t+1)=Yq E (Jb E f t) from rfl)
   obtain ⟨S,hS⟩:∃ S,Jb E f t=S:=⟨_,rfl⟩
   rw [hS] at HO HT
   clear hS
   go_wp2
   go_loopw [11] (fun i wr=>∃ k:Nat,i=.int .i64 (k:Int)∧k≤m∧Hid (Own wr w.heap.size 4 1 (.slice (some ⟨w.heap.size,0,none⟩) m m) m (Ys m (Yq (edg N ((Qm ML).take k)) S)))∧Hid (Below w.heap.size w wr)) (fun i _=>m-(intOf i).toNat)
   case atStart=>exact ⟨0,rfl,Nat.zero_le _,HO,HB⟩
   case round =>
    obtain ⟨k,rfl,hk,HO2,HBB⟩:=hrel
    obtain ⟨wb,hwb⟩:∃ wb,wb=wr:=⟨_,rfl⟩
    subst hwb
    by_cases hlt2:k<m
    ·obtain ⟨b0,off0,q,hA0,hq,hqm,_⟩:=HLL.out.at hlt2
     have HTK:=Lh (edg_take N (Qm ML) (Zo hq))
     have HIq:=Lh (HII.out q hqm)
     have hlq:=HIq.out.1
     obtain ⟨S2,hS2⟩:∃ S2,Yq (edg N ((Qm ML).take k)) S=S2:=⟨_,rfl⟩
     have HG:=Lh (show Yq (edg N ((Qm ML).take (k+1))) S=Yq (Qfl N k q.1.sm.im) S2 by rw [HTK.out,Qcw,hS2])
     rw [hS2] at HO2
     have HQ:=Lh hq
     subst hA0
     clear hS2 HTK hq hqm
     go_wp2
     go_loopw [12] (fun i wr=>∃ j:Nat,i=.int .i64 (j:Int)∧j≤q.1.im.length∧Hid (Own wr w.heap.size 4 1 (.slice (some ⟨w.heap.size,0,none⟩) m m) m (Ys m (Yq (Qfl N k ((q.1.im.take j).map NmT.sn)) S2)))∧Hid (Below w.heap.size w wr)) (fun i _=>q.1.im.length-(intOf i).toNat)
     case atStart=>exact ⟨0,rfl,Nat.zero_le _,HO2,HBB⟩
     case round =>
      clear HO2
      obtain ⟨j,rfl,hj,HO3,HB3⟩:=hrel
      obtain ⟨wc,hwc⟩:∃ wc,wc=wr:=⟨_,rfl⟩
      subst hwc
      obtain ⟨b1,off1,q1,hA1,hq1,_,hms,c0,_⟩:=(HLL.out.under HB3.out).at hlt2
      obtain rfl:q1=q:=by have:=HQ.out;rw [this] at hq1;cases hq1;rfl
      cases hA1
      obtain ⟨S3,hS3⟩:∃ S3,Yq (Qfl N k ((q1.1.im.take j).map NmT.sn)) S2=S3:=⟨_,rfl⟩
      rw [hS3] at HO3
      obtain ⟨ca,_⟩:=HCEL.out wc S3 HO3.out k hlt2
      by_cases hlt3:j<q1.1.im.length
      ·obtain ⟨ib,io,ic,x,hv,hx,hxm,d0,d1⟩:=hms.im.nm hlt3
       rw [hv] at c0
       have m1:x.nm∈N:=HIq.out.2 x hxm
       have F1:=Lh (HFIND.out wc HB3.out x.nm m1)
       have l1:Zl N x.nm<m:=by rw [← HNm.out];exact K3 m1
       obtain ⟨cb,fb⟩:=HCEL.out wc S3 HO3.out _ l1
       have HSB:=Lh (HSET.out wc S3 HO3.out _ l1)
       have HTK:=Lh (show Yq (Qfl N k ((q1.1.im.take (j+1)).map NmT.sn)) S2=g1 S3 (k,Zl N x.nm) by
        rw [List.take_add_one,hx]
        show Yq (Qfl N k ((q1.1.im.take j++[x]).map NmT.sn)) S2=_
        rw [List.map_append,List.map_cons,List.map_nil,Qnt,Qcw,hS3]
        rfl)
       obtain ⟨y,hy⟩:∃ y,Zl N x.nm=y:=⟨_,rfl⟩
       rw [hy] at F1 l1 cb fb HSB HTK
       cases hs:S3 k with
       | true =>
        have HR1:=Lh (show g1 S3 (k,y)=Qks S3 y by unfold g1;rw [if_pos hs])
        rw [hs] at ca
        clear hs hy hS3 hms hx hxm m1 hv hq1
        go_wp2_with (first
         | (go_at_call 34;with_reducible refine F1.out.mono ?_;rintro e wx ⟨rfl,rfl⟩)
         | go_in)
        go_roundw
        case rel=>exact ⟨j+1,by go_num,hlt3,by rw [HTK.out,HR1.out];exact HSB,Lh (HB3.out.setCell (p:=⟨w.heap.size,y,none⟩) nLe _)⟩
        case measure=>simp [intOf];omega
       | false =>
        have HR1:=Lh (show Yq (Qfl N k q1.1.sm.im) S2=S3 by
         have e:q1.1.sm.im=(q1.1.im.take j).map NmT.sn++(q1.1.im.drop j).map NmT.sn:=by
          show q1.1.im.map NmT.sn=_
          rw [← List.map_append,List.take_append_drop]
         rw [e,show Qfl N k ((q1.1.im.take j).map NmT.sn++(q1.1.im.drop j).map NmT.sn)=Qfl N k ((q1.1.im.take j).map NmT.sn)++Qfl N k ((q1.1.im.drop j).map NmT.sn) by simp [Qfl],Qcw,hS3]
         exact Qgu hs)
        rw [hs] at ca
        clear hs hy hS3 hms hx hxm m1 hv hq1
        go_wp2
        go_roundw
        case rel=>exact ⟨k+1,by go_num,hlt2,by rw [HG.out,HR1.out];exact HO3,HB3⟩
        case measure=>simp [intOf];omega
      ·obtain rfl:j=q1.1.im.length:=by omega
       have HR1:=Lh (show Yq (Qfl N k q1.1.sm.im) S2=S3 by
        rw [List.take_length] at hS3
        exact hS3)
       obtain ⟨IA,ic,hv,_⟩:=hms.im
       rw [hv] at c0
       clear hS3 hms hv hq1
       go_wp2
       go_roundw
       case rel=>exact ⟨k+1,by go_num,hlt2,by rw [HG.out,HR1.out];exact HO3,HB3⟩
       case measure=>simp [intOf];omega
    ·obtain rfl:k=m:=by omega
     have hO:=HO2.out
     rw [List.take_of_length_le (by rw [Qw,HLn.out];exact Nat.le_refl _),HE.out] at hO
     have HO3:=Lh hO
     clear hO HO2
     go_wp2
     go_roundw
     case rel=>exact ⟨t+1,by go_num,hlt,by rw [HT.out];exact HO3,HBB⟩
     case measure=>simp [intOf];omega
  ·obtain rfl:t=m:=by omega
   obtain ⟨cz,_⟩:=HCEL.out wa _ HO.out g hg
   go_wp2
   go_ret
   exact ⟨rfl,HB.out⟩
theorem Zm{ML:List OMo}{k:Nat}{q:OMo}(h:ML[k]?=some q):(Qm ML).drop k=q.1.sm::(Qm ML).drop (k+1):=by
 have h2:=Zo h
 obtain ⟨hl,he⟩:=List.getElem?_eq_some_iff.1 h2
 rw [List.drop_eq_getElem_cons hl,he]
theorem Yh(A:Option Addr)(n c:Nat)(ML:List OMo)(S0:Nat→Prop)(w:World)(hL:Y4 w S0 A n ML)(hn:n≤1000000)(i:Nat)(hi:i≤1000000) :
  CP 17 #[.slice A n c,.int .i64 (i:Int)] w fun e w'=>e=.returned (.int .i64 (nth SMd.hl (Qm ML) i 0))∧w=w':=by
 have HLn:=Lh hL.len
 obtain ⟨R,hR⟩:∃ R,nth SMd.hl (Qm ML) i 0=R:=⟨_,rfl⟩
 rw [hR]
 have HR:=Lh hR
 clear hR
 go_enter Try.func17,Try.ntmps17
 go_wp2
 go_loopw [1,5] (fun iv kv wr=>∃ ii k:Nat,iv=.int .i64 (ii:Int)∧kv=.int .i64 (k:Int)∧ii≤1000000∧k≤n∧Hid (nth SMd.hl ((Qm ML).drop k) ii k=R)∧wr=w) (fun _ kv _=>n-(intOf kv).toNat)
 case atStart=>exact ⟨i,0,rfl,rfl,hi,Nat.zero_le _,HR,rfl⟩
 case round =>
  obtain ⟨ii,k,rfl,rfl,hii,hk,HT,rfl⟩:=hrel
  by_cases hlt:k<n
  ·obtain ⟨b,off,q,rfl,hq,_,_,_,c1,c3,_⟩:=hL.at hlt
   have ht:=HT.out
   rw [Zm hq,nth] at ht
   cases hb:q.1.hl with
   | true =>
    rw [if_pos (show q.1.sm.hl=true from hb)] at ht
    rw [hb] at c1
    by_cases h0:ii=0
    ·subst h0
     rw [if_pos rfl] at ht
     have HT2:=Lh ht
     clear ht hq hb
     go_wp2
     go_ret
     exact ⟨by rw [← HT2.out];rfl,rfl⟩
    ·rw [if_neg h0] at ht
     have HT2:=Lh ht
     have h00:¬ (ii:Int)=0:=by omega
     have h01:((ii:Int)==0)=false:=by simpa using h00
     clear ht hq hb
     go_wp2
     go_roundw
     case rel=>exact ⟨ii-1,k+1,congrArg (Value.int .i64) (by omega),by go_num,by omega,hlt,HT2,by first | rfl | trivial⟩
     case measure=>simp [intOf];omega
   | false =>
    rw [if_neg (by show ¬ q.1.sm.hl=true;rw [show q.1.sm.hl=false from hb];decide)] at ht
    rw [hb] at c1
    have HT2:=Lh ht
    clear ht hq hb
    go_wp2
    go_roundw
    case rel=>exact ⟨ii,k+1,rfl,by go_num,hii,hlt,HT2,by first | rfl | trivial⟩
    case measure=>simp [intOf];omega
  ·obtain rfl:k=n:=by omega
   have ht:=HT.out
   rw [List.drop_eq_nil_of_le (by rw [Qw,HLn.out];exact Nat.le_refl _),nth] at ht
   have HT2:=Lh ht
   clear ht
   go_wp2
   go_ret
   exact ⟨by rw [← HT2.out];rfl,rfl⟩
theorem Qao(A:Option Addr)(n c:Nat)(ML:List OMo)(S0:Nat→Prop)(w:World)(hL:Y4 w S0 A n ML)(hn:n≤1000000)(i:Nat)(hi:i≤1000000) :
  CP 19 #[.slice A n c,.int .i64 (i:Int)] w fun e w'=>e=.returned (.int .i64 (nth SMd.he (Qm ML) i 0))∧w=w':=by
 have HLn:=Lh hL.len
 obtain ⟨R,hR⟩:∃ R,nth SMd.he (Qm ML) i 0=R:=⟨_,rfl⟩
 rw [hR]
 have HR:=Lh hR
 clear hR
 go_enter Try.func19,Try.ntmps19
 go_wp2
 go_loopw [1,5] (fun iv kv wr=>∃ ii k:Nat,iv=.int .i64 (ii:Int)∧kv=.int .i64 (k:Int)∧ii≤1000000∧k≤n∧Hid (nth SMd.he ((Qm ML).drop k) ii k=R)∧wr=w) (fun _ kv _=>n-(intOf kv).toNat)
 case atStart=>exact ⟨i,0,rfl,rfl,hi,Nat.zero_le _,HR,rfl⟩
 case round =>
  obtain ⟨ii,k,rfl,rfl,hii,hk,HT,rfl⟩:=hrel
  by_cases hlt:k<n
  ·obtain ⟨b,off,q,rfl,hq,_,_,_,c1,c3,_⟩:=hL.at hlt
   have ht:=HT.out
   rw [Zm hq,nth] at ht
   cases hb:q.1.he with
   | true =>
    rw [if_pos (show q.1.sm.he=true from hb)] at ht
    rw [hb] at c3
    by_cases h0:ii=0
    ·subst h0
     rw [if_pos rfl] at ht
     have HT2:=Lh ht
     clear ht hq hb
     go_wp2
     go_ret
     exact ⟨by rw [← HT2.out];rfl,rfl⟩
    ·rw [if_neg h0] at ht
     have HT2:=Lh ht
     have h00:¬ (ii:Int)=0:=by omega
     have h01:((ii:Int)==0)=false:=by simpa using h00
     clear ht hq hb
     go_wp2
     go_roundw
     case rel=>exact ⟨ii-1,k+1,congrArg (Value.int .i64) (by omega),by go_num,by omega,hlt,HT2,by first | rfl | trivial⟩
     case measure=>simp [intOf];omega
   | false =>
    rw [if_neg (by show ¬ q.1.sm.he=true;rw [show q.1.sm.he=false from hb];decide)] at ht
    rw [hb] at c3
    have HT2:=Lh ht
    clear ht hq hb
    go_wp2
    go_roundw
    case rel=>exact ⟨ii,k+1,rfl,by go_num,hii,hlt,HT2,by first | rfl | trivial⟩
    case measure=>simp [intOf];omega
  ·obtain rfl:k=n:=by omega
   have ht:=HT.out
   rw [List.drop_eq_nil_of_le (by rw [Qw,HLn.out];exact Nat.le_refl _),nth] at ht
   have HT2:=Lh ht
   clear ht
   go_wp2
   go_ret
   exact ⟨by rw [← HT2.out];rfl,rfl⟩
end Go.Proofs.Ytjoclbeoafeebaa
