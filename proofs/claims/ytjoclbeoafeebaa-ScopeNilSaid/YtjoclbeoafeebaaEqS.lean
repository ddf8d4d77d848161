import Derived.Test.YtjoclbeoafeebaaSq
import Derived.Test.YtjoclbeoafeebaaEqP
import Derived.Test.YtjoclbeoafeebaaMem
set_option maxHeartbeats 3200000
set_option maxRecDepth 100000
namespace Go.Proofs.Ytjoclbeoafeebaa
set_option linter.unusedVariables false
set_option linter.unusedSimpArgs false
open Go.RowKit
def garP(w:World)(K:Nat):Nat:=match w.cell? ⟨K,6,none⟩ with
 | some (.int _ z)=>z.toNat
 | _=>0
def garR(w:World)(K:Nat):Int:=match w.cell? ⟨K,7,none⟩ with
 | some (.int _ z)=>z
 | _=>0
theorem Qhv{w:World}{K:Nat}{x:Ex}{lv:Value}{q:Nat}{r:Int}(h:Gar w K x lv (q:Int) r):garP w K=q:=by
 unfold garP
 rw [h.six.2.2.2.2.2.2.1]
 rfl
theorem Qhw{w:World}{K:Nat}{x:Ex}{lv:Value}{p r:Int}(h:Gar w K x lv p r):garR w K=r:=by
 unfold garR
 rw [h.six.2.2.2.2.2.2.2]
structure Qey (X:Ry) (w:World) (K:Nat) (wr:World) (x:Ex) (zv:Value) (q:Nat) (er:Int):Prop where
 c0:wr.cell? ⟨w.heap.size,0,none⟩=some (.string X.T)
 c1:wr.cell? ⟨w.heap.size,1,none⟩=some (.slice X.A X.L.length X.c)
 ga:Gar wr (w.heap.size+1) Ex.nul (.slice none 0 0) 0 0
 gk:Gar wr K x zv (q:Int) er
 sh:Shx wr (fun b=>w.heap.size+2≤b∧b≠K) zv x.l
 be:Below w.heap.size w wr
 kg:w.heap.size+2≤K
theorem Qey.below{X:Ry}{w wr w':World}{K q:Nat}{x:Ex}{zv:Value}{er:Int}(h:Qey X w K wr x zv q er)(hb:Below wr.heap.size wr w'):Qey X w K w' x zv q er:=by
 have h1:=h.ga.lt
 have h2:=h.gk.lt
 refine ⟨(hb.cell (p:=⟨w.heap.size,0,none⟩) (by show w.heap.size<_;omega)).trans h.c0,(hb.cell (p:=⟨w.heap.size,1,none⟩) (by show w.heap.size<_;omega)).trans h.c1,h.ga.below hb h1,h.gk.below hb h2,h.sh.under hb (fun b _ hb=>hb),h.be.trans (hb.mono h.be.size),h.kg⟩
theorem Qey.new{X:Ry}{w wr w':World}{K q:Nat}{x:Ex}{zv:Value}{er:Int}{o:Obj}(h:Qey X w K wr x zv q er)(hg:(wr.alloc o).grownBy w' (some wr.heap.size)):Qey X w K w' x zv q er:=by
 have h1:=h.ga.lt
 have h2:=h.gk.lt
 have hb:Below wr.heap.size wr (wr.alloc o):=bAl
 have ha:=h.below hb
 have hc:∀ j,w'.cell? ⟨w.heap.size,j,none⟩=(wr.alloc o).cell? ⟨w.heap.size,j,none⟩:=fun j=>World.cell?_of_block (a:=⟨w.heap.size,j,none⟩) (hg.block w.heap.size (by simp;omega) (by intro e;injection e;omega))
 refine ⟨(hc 0).trans ha.c0,(hc 1).trans ha.c1,ha.ga.grown hg (by intro e;injection e;omega),ha.gk.grown hg (by intro e;injection e;omega),?_,Qu ha.be hg h.be.size (by simp;have:=h.be.size;omega),h.kg⟩
 exact ((h.sh.weak (S':=fun b=>(w.heap.size+2≤b∧b≠K)∧b<wr.heap.size) (fun b h1 h2=>⟨h1,h2⟩)).under hb (fun b hb _=>hb.2)).grown hg (by intro b hb _ e;injection e with e;omega) |>.weak fun b hb _=>hb.1
theorem Qey.set{X:Ry}{w wr w':World}{K q q':Nat}{x y:Ex}{zv yv:Value}{er er':Int}(h:Qey X w K wr x zv q er)(hg:wr.grownBy w' (some K))(hk:Gar w' K y yv (q':Int) er')(hs:Shx wr (fun b=>w.heap.size+2≤b∧b≠K) yv y.l):Qey X w K w' y yv q' er':=by
 have h1:=h.ga.lt
 have h2:=h.kg
 have hc:∀ j,w'.cell? ⟨w.heap.size,j,none⟩=wr.cell? ⟨w.heap.size,j,none⟩:=fun j=>World.cell?_of_block (a:=⟨w.heap.size,j,none⟩) (hg.block w.heap.size (by omega) (by intro e;injection e;omega))
 exact ⟨(hc 0).trans h.c0,(hc 1).trans h.c1,h.ga.grown hg (by intro e;injection e;omega),hk,hs.grown hg (by intro b hb _ e;injection e with e;exact hb.2 e),Qu h.be hg (by omega) h.be.size,h.kg⟩
theorem rExprL(X:Ry)(f:Nat)(hE:∀ f'≤f,Qlc X f')(l d p:Nat)(w:World)(h1:1≤l)(h5:l≤5)(hd:d≤32)(hp:p≤X.L.length)(h:X.In w w.heap.size)(hf:16*(X.L.length-p)+(10-l)≤f+1) :
  CP 70 #[X.val,.int .i64 (p:Int),.int .i64 (l:Int),.int .i64 (d:Int)] w (Yi w (rd X.R (f+1) (.lev l) p d)):=by
 have hz:=Q2
 have hln:=h.2.len
 have hl5:¬ (5:Int)<(l:Int):=by omega
 have HI:=Lh h
 have H2:=Lh (Qx X w)
 have HEE:=Lh hE
 have hin:=Ko (Qo X.T X.L) f (.lev (l+1)) p d hp (fun h=>by cases h)
 have hfi:=Kw (Qo X.T X.L) (show X.R.n≤1000000 from hln) f (.lev (l+1)) p d hp (fun h=>by cases h) trivial
 have hrd:=Qiu (R:=X.R) (f:=f) (l:=l) (a:=p) (d:=d) (by omega)
 have hnul:=Qal (R:=X.R) f (.lev (l+1)) p d
 obtain ⟨g,hg⟩:∃ g,rd X.R f (.lev (l+1)) p d=g:=⟨_,rfl⟩
 have HE1:Hid (∀ W,Below w.heap.size w W→CP 70 #[X.val,.int .i64 (p:Int),.int .i64 ((l:Int)+1),.int .i64 (d:Int)] W (Yi W g)):=Lh fun W hW=>by
  rw [← hg]
  exact hE f nLe (l+1) d p W (by omega) (by omega) hd hp ((HI.out.up hW nLe).more hW.size) (by omega)
 rw [hg] at hin hfi hrd hnul
 obtain ⟨Y,hY⟩:∃ Y,rd X.R (f+1) (.lev l) p d=Y:=⟨_,rfl⟩
 rw [hY] at hrd ⊢
 have hgp:g.p≤X.L.length:=hin.2.1
 have hinv:g.r=0→Fine g.e∧∃ f',f'≤f∧16*(X.L.length-g.p)+15≤f'∧rd X.R f' (.loop l g.e) g.p d=Y:=fun h0=>by
  have h3:=hin.2.2 h0 rfl
  refine ⟨(hfi h0).1,f,Nat.le_refl _,by omega,?_⟩
  rw [if_pos h0] at hrd
  exact hrd.symm
 have hinv2:g.r≠0→Y=bad g.p g.r∧g.e=Ex.nul:=fun h0=>by
  rw [if_neg h0] at hrd
  exact ⟨hrd,hnul h0⟩
 have HINV:=Lh hinv
 have HINV2:=Lh hinv2
 clear h hE hg hY hin hfi hrd hnul hinv hinv2
 obtain ⟨W1,hW1⟩:∃ W1,((w.alloc (.cells #[.string X.T,.slice X.A X.L.length X.c] 92)).alloc (.cells z8 138))=W1:=⟨_,rfl⟩
 rw [hW1] at H2
 have HW1:=Lh hW1
 have hs1:=H2.out.sz
 obtain ⟨k0,k1⟩:=H2.out.row (Below.refl (w.heap.size+1) W1) (by omega)
 clear hW1
 go_enter Try.func70,Try.ntmps70
 go_wp2_with (first
  | (go_at_call 70;rw [HW1.out];refine (HE1.out _ H2.out.be).mono ?_;rintro e w2 ⟨lv,rfl,hx2,b2⟩;obtain ⟨A2,c2,rfl,_⟩:=hx2.len;have hone:=hx2.one;have HX2:=Lh hx2;have HD2:=Lh b2;have hs2:=b2.size;clear b2 hx2;dsimp only)
  | (refine Qe rfl (.tmp 9) (.tmp 22) rfl w2.heap.size rfl (Q3 w2) (e:=g.e) (lv:=.slice A2 g.e.l.length c2) (p:=(g.p:Int)) (r:=g.r) rfl hone ?_;intro w3 hg3 hs3;have HG3:=Lh hs3;have HH3:=Lh hg3;clear hg3 hs3)
  | fail)
 obtain ⟨K,hK⟩:∃ K,w2.heap.size=K:=⟨_,rfl⟩
 have hJ:Qey X w K w3 g.e (.slice A2 g.e.l.length c2) g.p g.r:=by
  have hb:Below w2.heap.size w2 (w2.alloc (.cells z8 138)):=bAl
  obtain ⟨q0,q1⟩:=H2.out.row HD2.out (by omega)
  have hc:∀ j,w3.cell? ⟨w.heap.size,j,none⟩=w2.cell? ⟨w.heap.size,j,none⟩:=fun j=>(World.cell?_of_block (a:=⟨w.heap.size,j,none⟩) (HH3.out.block w.heap.size (by simp;omega) (by intro e;injection e;omega))).trans (hb.cell (p:=⟨w.heap.size,j,none⟩) (by show w.heap.size<_;omega))
  have hbe:Below w.heap.size w w2:=H2.out.be.trans (HD2.out.mono H2.out.be.size)
  rw [hK] at HG3
  refine ⟨(hc 0).trans q0,(hc 1).trans q1,((H2.out.ga.below HD2.out (by omega)).below hb (by omega)).grown HH3.out (by intro e;injection e;omega),HG3.out,?_,Qu (hbe.alloc hbe.size _) HH3.out hbe.size (by simp;have:=hbe.size;omega),by omega⟩
  exact (((HX2.out.weak (S':=fun b=>W1.heap.size≤b∧b<w2.heap.size) (fun b h1 h2=>⟨h1,h2⟩)).under hb (fun b hb _=>hb.2)).grown HH3.out (by intro b hb _ e;injection e with e;omega)).weak fun b hb _=>by omega
 have J1:=Lh hJ
 have hKw:w.heap.size+2≤K:=hJ.kg
 rw [hK] at hs2 ⊢
 clear hJ HX2 HD2 HH3 HG3 H2 HW1 HE1 hK k0 k1 hone
 go_loopw [] (fun wr=>∃ (x:Ex) (zv:Value) (q:Nat) (er:Int),Qey X w K wr x zv q er∧q≤X.L.length ∧
   (er=0→Fine x∧∃ f',f'≤f∧16*(X.L.length-q)+15≤f'∧rd X.R f' (.loop l x) q d=Y)∧(er≠0→Y=bad q er∧x=Ex.nul)) (fun wr=>if garR wr K=0 then 1+(X.L.length-garP wr K) else 0)
 case atStart=>exact ⟨g.e,_,g.p,g.r,J1.out,hgp,HINV.out,HINV2.out⟩
 case round =>
  clear J1 HINV HINV2 hgp
  obtain ⟨x,zv,q,er,hJ,hq,hi1,hi2⟩:=hrel
  obtain ⟨Az,cz,rfl,_⟩:=hJ.sh.len
  have J:=Lh hJ
  have hone:=hJ.sh.one
  have k0:=hJ.c0
  have k1:=hJ.c1
  obtain ⟨m0,m1,m2,m3,m4,m5,m6,m7⟩:=hJ.gk.six
  have hmP:=Qhv hJ.gk
  have hmR:=Qhw hJ.gk
  have hszr:=hJ.be.size
  have hltA:=hJ.ga.lt
  have hltK:=hJ.gk.lt
  clear hJ
  by_cases h0:er=0
  ·subst h0
   obtain ⟨hfx,f',hf1,hf2,hf3⟩:=hi1 rfl
   have M1:=Lh hfx
   have M3:=Lh hf3
   have HSG:Hid (∀ W,Below w.heap.size w W→CP 81 #[X.val,.int .i64 (q:Int),.int .i64 (l:Int)] W fun e w'=>e=.returned (.bool (Qit l (X.R.wd q)))∧Below W.heap.size W w'):=Lh fun W hW=>Qmk X q l W ((HI.out.up hW nLe).more hW.size) (by omega) h1 h5
   obtain ⟨f'',rfl⟩:∃ f'',f'=f''+1:=⟨f'-1,by omega⟩
   clear hi1 hi2 hfx hf3
   cases hsg:Qit l (X.R.wd q) with
   | false =>
    rw [hsg] at HSG
    have M4:Hid (good x q=Y):=Lh (by rw [← M3.out,Qj8 hsg])
    go_wp2_with (first
     | (go_at_call 81;refine (HSG.out _ J.out.be).mono ?_;rintro e w4 ⟨rfl,b4⟩;have J4:=Lh (J.out.below b4);clear b4;dsimp only)
     | (refine Js rfl (.tmp 9) rfl K rfl J4.out.gk ?_)
     | (refine Qe rfl (.tmp 8) (.tmp 63) rfl (w.heap.size+1) rfl J4.out.ga (e:=x) (lv:=.slice Az x.l.length cz) (p:=(q:Int)) (r:=0) rfl hone ?_;intro w5 hg5 hs5;have HG5:=Lh hg5;have HS5:=Lh hs5;clear hg5 hs5)
     | fail)
    rw [← M4.out]
    refine Jo (i:=8) (by kernel_rfl) rfl rfl HS5.out ⟨_,rfl,?_,Qu J4.out.be HG5.out (by omega) J4.out.be.size⟩
    exact (J4.out.sh.grown HG5.out (by intro b hb _ e;injection e with e;omega)).weak fun b hb _=>by show w.heap.size≤b;omega
   | true =>
    rw [hsg] at HSG
    have hql2:q<X.L.length:=(Qo X.T X.L).sgnL_lt hsg
    obtain ⟨g2,hg2⟩:∃ g2,rd X.R f'' (.lev (l+1)) (q+1) d=g2:=⟨_,rfl⟩
    have hin:=Ko (Qo X.T X.L) f'' (.lev (l+1)) (q+1) d hql2 (fun h=>by cases h)
    have hfi:=Kw (Qo X.T X.L) (show X.R.n≤1000000 from hln) f'' (.lev (l+1)) (q+1) d hql2 (fun h=>by cases h) trivial
    have hnul:=Qal (R:=X.R) f'' (.lev (l+1)) (q+1) d
    have hly:=Qhn (e:=x) hsg hg2
    rw [M3.out] at hly
    rw [hg2] at hin hfi hnul
    have HEX:Hid (∀ W,Below w.heap.size w W→CP 70 #[X.val,.int .i64 ((q:Int)+1),.int .i64 ((l:Int)+1),.int .i64 (d:Int)] W (Yi W g2)):=Lh fun W hW=>by
     rw [← hg2]
     exact HEE.out f'' (by omega) (l+1) d (q+1) W (by omega) (by omega) hd hql2 ((HI.out.up hW nLe).more hW.size) (by omega)
    have M5:=Lh hin
    have M6:=Lh hfi
    have M7:=Lh hly
    have M8:=Lh hnul
    have hg2p:g2.p≤X.L.length:=hin.2.1
    have hg2q:q+1≤g2.p:=hin.1
    clear hg2 hin hfi hly hnul
    by_cases hr2:g2.r=0
    ·have hr2':(g2.r==0)=true:=by simp [hr2]
     have hr2'':decide (g2.r=0)=true:=by simp [hr2]
     obtain ⟨s,hs⟩:∃ s,X.R.wd q=s:=⟨_,rfl⟩
     have HAT:Hid (∀ W,Below w.heap.size w W→CP 51 #[X.val,.int .i64 (q:Int)] W fun e w'=>e=.returned (.string s)∧Below W.heap.size W w'):=Lh fun W hW=>by
      rw [← hs]
      exact Qg X q W ((HI.out.up hW nLe).more hW.size) (by omega)
     rw [hs] at M7
     have hfg:=(M6.out hr2).1
     have HWF:Hid ((Qcc s x g2.e).wfx):=Lh (Ql0 M1.out hfg)
     have HHT:Hid ((Qcc s x g2.e).ht≤1000000):=Lh (by rw [Ex.ht_eq];show max x.ht (max g2.e.ht 0)+1≤_;have:=hfg.2;have:=M1.out.2;omega)
     obtain ⟨E5,a5,n5,P5,R5,hx0,he5,hx5⟩:∃ (E5:Ex) (a5:Nat→Option Addr) (n5 P5:Nat) (R5:Int),(∀ W B (S:Nat→Prop),Shx W S (.slice (some ⟨B,0,none⟩) 2 2) [x,g2.e]→CP 82 #[.agg #[.int .i64 5,.int .i64 x.a,.int .i64 0,.string s,.string ⟨#[]⟩,.slice (some ⟨B,0,none⟩) 2 2],.int .i64 (g2.p:Int),.int .i64 (q:Int)] W fun e w'=>e=.returned (gV E5 (.slice (a5 B) n5 n5) (P5:Int) R5)∧Below W.heap.size W w')∧hld (Qcc s x g2.e) g2.p q=⟨E5,P5,R5⟩∧(∀ W B (S:Nat→Prop),Shx W S (.slice (some ⟨B,0,none⟩) 2 2) [x,g2.e]→Shx W S (.slice (a5 B) n5 n5) E5.l):=by
      by_cases hh32:32<(Qcc s x g2.e).ht
      ·exact ⟨Ex.nul,fun _=>none,0,q,12,fun W B S h=>Kx (Qcc s x g2.e) _ g2.p q W S HWF.out HHT.out h hh32,by unfold hld;rw [if_pos hh32];rfl,fun W B S h=>.nil⟩
      ·exact ⟨Qcc s x g2.e,fun B=>some ⟨B,0,none⟩,2,g2.p,0,fun W B S h=>Ky (Qcc s x g2.e) _ g2.p q W S HWF.out HHT.out h hh32,by unfold hld;rw [if_neg hh32];rfl,fun W B S h=>h⟩
     have hfin:(R5=0→P5=g2.p∧Fine E5∧rd X.R f'' (.loop l E5) P5 d=Y)∧(R5≠0→Y=bad P5 R5∧E5=Ex.nul)∧P5≤X.L.length:=by
      have h7:=M7.out
      rw [if_pos hr2,he5] at h7
      rcases Qj6 (Qcc s x g2.e) g2.p q with ⟨e1,e2,e3,e4⟩ | ⟨e1,e2,e3⟩
      ·rw [he5] at e1 e2 e3
       replace e1:R5=0:=e1
       replace e2:P5=g2.p:=e2
       replace e3:E5=Qcc s x g2.e:=e3
       refine ⟨fun h0=>⟨e2,by rw [e3];exact ⟨HWF.out,e4⟩,?_⟩,fun h0=>absurd e1 h0,by omega⟩
       rw [if_pos (show (⟨E5,P5,R5⟩:Gt).r=0 from e1)] at h7
       exact h7.symm
      ·rw [he5] at e1 e2 e3
       replace e1:R5=12:=e1
       replace e2:P5=q:=e2
       replace e3:E5=Ex.nul:=e3
       refine ⟨fun h0=>(by rw [e1] at h0;cases h0),fun h0=>⟨?_,e3⟩,by omega⟩
       rw [if_neg (show ¬ (⟨E5,P5,R5⟩:Gt).r=0 from h0)] at h7
       exact h7
     have HX0:=Lh hx0
     have HX5:=Lh hx5
     have HFIN:=Lh hfin
     clear hx0 hx5 he5 hfin hs hfg HWF HHT M7
     go_wp2_with (first
      | (go_at_call 81;refine (HSG.out _ J.out.be).mono ?_;rintro e w4 ⟨rfl,b4⟩;have J4:=Lh (J.out.below b4);have k0':=J4.out.c0;have k1':=J4.out.c1;have m6':=J4.out.gk.six.2.2.2.2.2.2.1;clear b4;dsimp only)
      | (go_at_call 70;refine (HEX.out _ J4.out.be).mono ?_;rintro e w5 ⟨lv2,rfl,hx5,b5⟩;obtain ⟨A5,c5,rfl,_⟩:=hx5.len;have hone5:=hx5.one;have J5:=Lh (J4.out.below b5);have T5:=Lh hx5;have hs5:=b5.size;clear hx5 b5;dsimp only)
      | (refine Qe rfl (.tmp 10) (.tmp 40) rfl w5.heap.size rfl (Q3 w5) (e:=g2.e) (lv:=.slice A5 g2.e.l.length c5) (p:=(g2.p:Int)) (r:=g2.r) rfl hone5 ?_;intro w6 hg6 hs6;have J6:=Lh (J5.out.new hg6);have G6:=Lh hs6;have H6:=Lh hg6;have n7:=hs6.six.2.2.2.2.2.2.2;clear hg6 hs6)
      | fail)
     obtain ⟨M,hM⟩:∃ M,w5.heap.size=M:=⟨_,rfl⟩
     have hKM:K<M:=by have:=J5.out.gk.lt;omega
     have T6:Hid (Shx w6 (fun b=>w.heap.size+2≤b∧b≠K) (.slice A5 g2.e.l.length c5) g2.e.l):=Lh (by
      have:=J4.out.gk.lt
      have:=J4.out.ga.lt
      exact (((T5.out.weak (S':=fun b=>w4.heap.size≤b∧b<w5.heap.size) (fun b h1 h2=>⟨h1,h2⟩)).under ((Below.refl w5.heap.size w5).alloc nLe _) (fun b hb _=>hb.2)).grown H6.out (by intro b hb _ e;injection e with e;omega)).weak fun b hb _=>by omega)
     rw [hM] at G6 n7 hs5 ⊢
     have hz6:=G6.out.lt
     have hwM:w.heap.size+2≤M:=by omega
     have KS:Hid (∀ W,Below w6.heap.size w6 W→W.cell? ⟨w.heap.size,0,none⟩=some (.string X.T)∧W.cell? ⟨w.heap.size,1,none⟩=some (.slice X.A X.L.length X.c)∧W.cell? ⟨K,0,none⟩=some (.int .i64 x.k)∧W.cell? ⟨K,1,none⟩=some (.int .i64 x.a)∧W.cell? ⟨K,2,none⟩=some (.int .i64 x.m)∧W.cell? ⟨K,3,none⟩=some (.string x.nm)∧W.cell? ⟨K,4,none⟩=some (.string x.lb)∧W.cell? ⟨K,5,none⟩=some (.slice Az x.l.length cz)∧W.cell? ⟨K,6,none⟩=some (.int .i64 (q:Int))∧W.cell? ⟨M,0,none⟩=some (.int .i64 g2.e.k)∧W.cell? ⟨M,1,none⟩=some (.int .i64 g2.e.a)∧W.cell? ⟨M,2,none⟩=some (.int .i64 g2.e.m)∧W.cell? ⟨M,3,none⟩=some (.string g2.e.nm)∧W.cell? ⟨M,4,none⟩=some (.string g2.e.lb)∧W.cell? ⟨M,5,none⟩=some (.slice A5 g2.e.l.length c5)∧W.cell? ⟨M,6,none⟩=some (.int .i64 (g2.p:Int))):=Lh fun W hW=>by
      have hJ:=J6.out.below hW
      obtain ⟨a0,a1,a2,a3,a4,a5,a6,a7⟩:=hJ.gk.six
      obtain ⟨b0,b1,b2,b3,b4,b5,b6,b7⟩:=(G6.out.below hW hz6).six
      exact ⟨hJ.c0,hJ.c1,a0,a1,a2,a3,a4,a5,a6,b0,b1,b2,b3,b4,b5,b6⟩
     have HBD:=Lh (Qi w6 w6.heap.size)
     have HSd:Hid ((w6.drew.cell? ⟨w.heap.size,0,none⟩=some (.string X.T)∧w6.drew.cell? ⟨w.heap.size,1,none⟩=some (.slice X.A X.L.length X.c)∧w6.drew.cell? ⟨K,0,none⟩=some (.int .i64 x.k)∧w6.drew.cell? ⟨K,1,none⟩=some (.int .i64 x.a)∧w6.drew.cell? ⟨K,2,none⟩=some (.int .i64 x.m)∧w6.drew.cell? ⟨K,3,none⟩=some (.string x.nm)∧w6.drew.cell? ⟨K,4,none⟩=some (.string x.lb)∧w6.drew.cell? ⟨K,5,none⟩=some (.slice Az x.l.length cz)∧w6.drew.cell? ⟨K,6,none⟩=some (.int .i64 (q:Int))∧w6.drew.cell? ⟨M,0,none⟩=some (.int .i64 g2.e.k)∧w6.drew.cell? ⟨M,1,none⟩=some (.int .i64 g2.e.a)∧w6.drew.cell? ⟨M,2,none⟩=some (.int .i64 g2.e.m)∧w6.drew.cell? ⟨M,3,none⟩=some (.string g2.e.nm)∧w6.drew.cell? ⟨M,4,none⟩=some (.string g2.e.lb)∧w6.drew.cell? ⟨M,5,none⟩=some (.slice A5 g2.e.l.length c5)∧w6.drew.cell? ⟨M,6,none⟩=some (.int .i64 (g2.p:Int)))):=Lh (KS.out _ HBD.out)
     clear k0 k1 k0' k1' m6' m0 m1 m2 m3 m4 m5 m6 m7 n7 J J4 J5 T5 H6 hM HSG HEX
     refine Zh (fun W=>W.cell? ⟨w.heap.size,0,none⟩=some (.string X.T)∧W.cell? ⟨w.heap.size,1,none⟩=some (.slice X.A X.L.length X.c)∧W.cell? ⟨K,0,none⟩=some (.int .i64 x.k)∧W.cell? ⟨K,1,none⟩=some (.int .i64 x.a)∧W.cell? ⟨K,2,none⟩=some (.int .i64 x.m)∧W.cell? ⟨K,3,none⟩=some (.string x.nm)∧W.cell? ⟨K,4,none⟩=some (.string x.lb)∧W.cell? ⟨K,5,none⟩=some (.slice Az x.l.length cz)∧W.cell? ⟨K,6,none⟩=some (.int .i64 (q:Int))∧W.cell? ⟨M,0,none⟩=some (.int .i64 g2.e.k)∧W.cell? ⟨M,1,none⟩=some (.int .i64 g2.e.a)∧W.cell? ⟨M,2,none⟩=some (.int .i64 g2.e.m)∧W.cell? ⟨M,3,none⟩=some (.string g2.e.nm)∧W.cell? ⟨M,4,none⟩=some (.string g2.e.lb)∧W.cell? ⟨M,5,none⟩=some (.slice A5 g2.e.l.length c5)∧W.cell? ⟨M,6,none⟩=some (.int .i64 (g2.p:Int))) 18 (by kernel_rfl) 19 rfl ?_
     refine Qf (i:=0) (v:=?v0) [17,12,2,1,0] rfl (by kernel_rfl) (fun _ _ _ h=>h) (Or.inl ⟨by rfl,?h0⟩) HSd.out ?r0
     case h0=>(intro w hSw;(try dsimp only at hSw);go_simp;first | done | with_reducible rfl)
     try simp only [Act.put,sA,sB,sC]
     refine Qf (i:=1) (v:=?v1) [17,12,2,1] rfl (by kernel_rfl) (fun _ _ _ h=>h) (Or.inl ⟨by rfl,?h1⟩) HSd.out ?r1
     case h1=>(intro w hSw;(try dsimp only at hSw);go_simp;first | done | with_reducible rfl)
     try simp only [Act.put,sA,sB,sC]
     refine Qf (i:=2) (v:=?v2) [17,12,2] rfl (by kernel_rfl) (fun _ _ _ h=>h) (Or.inl ⟨by rfl,?h2⟩) HSd.out ?r2
     case h2=>(intro w hSw;(try dsimp only at hSw);go_simp;first | done | with_reducible rfl)
     try simp only [Act.put,sA,sB,sC]
     refine Qf (i:=3) (v:=?v3) [17,12,6,3] rfl (by kernel_rfl) (fun _ _ _ h=>h) (Or.inl ⟨by rfl,?h3⟩) HSd.out ?r3
     case h3=>(intro w hSw;(try dsimp only at hSw);go_simp;first | done | with_reducible rfl)
     try simp only [Act.put,sA,sB,sC]
     refine Qf (i:=4) (v:=?v4) [17,12,6,5,4] rfl (by kernel_rfl) (fun _ _ _ h=>h) (Or.inl ⟨by rfl,?h4⟩) HSd.out ?r4
     case h4=>(intro w hSw;(try dsimp only at hSw);go_simp;first | done | with_reducible rfl)
     try simp only [Act.put,sA,sB,sC]
     refine Qf (i:=5) (v:=?v5) [17,12,6,5] rfl (by kernel_rfl) (fun _ _ _ h=>h) (Or.inl ⟨by rfl,?h5⟩) HSd.out ?r5
     case h5=>(intro w hSw;(try dsimp only at hSw);go_simp;first | done | with_reducible rfl)
     try simp only [Act.put,sA,sB,sC]
     refine Qf (i:=7) (v:=?v7) [17,12,11,8,7] rfl (by kernel_rfl) (fun _ _ _ h=>h) (Or.inl ⟨by rfl,?h7⟩) HSd.out ?r7
     case h7=>(intro w hSw;(try dsimp only at hSw);go_simp;first | done | with_reducible rfl)
     try simp only [Act.put,sA,sB,sC]
     refine Qf (i:=8) (v:=?v8) [17,12,11,8] rfl (by kernel_rfl) (fun _ _ _ h=>h) (Or.inl ⟨by rfl,?h8⟩) HSd.out ?r8
     case h8=>(intro w hSw;(try dsimp only at hSw);go_simp;first | done | with_reducible rfl)
     try simp only [Act.put,sA,sB,sC]
     refine Qf (i:=9) (v:=?v9) [17,12,11,10,9] rfl (by kernel_rfl) (fun _ _ _ h=>h) (Or.inl ⟨by rfl,?h9⟩) HSd.out ?r9
     case h9=>(intro w hSw;(try dsimp only at hSw);go_simp;first | done | with_reducible rfl)
     try simp only [Act.put,sA,sB,sC]
     refine Qf (i:=10) (v:=?v10) [17,12,11,10] rfl (by kernel_rfl) (fun _ _ _ h=>h) (Or.inl ⟨by rfl,?h10⟩) HSd.out ?r10
     case h10=>(intro w hSw;(try dsimp only at hSw);go_simp;first | done | with_reducible rfl)
     try simp only [Act.put,sA,sB,sC]
     refine Qf (i:=13) (v:=?v13) [17,14,13] rfl (by kernel_rfl) (fun _ _ _ h=>h) (Or.inl ⟨by rfl,?h13⟩) HSd.out ?r13
     case h13=>(intro w hSw;(try dsimp only at hSw);go_simp;first | done | with_reducible rfl)
     try simp only [Act.put,sA,sB,sC]
     refine Qf (i:=14) (v:=?v14) [17,14] rfl (by kernel_rfl) (fun _ _ _ h=>h) (Or.inl ⟨by rfl,?h14⟩) HSd.out ?r14
     case h14=>(intro w hSw;(try dsimp only at hSw);go_simp;first | done | with_reducible rfl)
     try simp only [Act.put,sA,sB,sC]
     refine Qf (i:=15) (v:=?v15) [17,16,15] rfl (by kernel_rfl) (fun _ _ _ h=>h) (Or.inl ⟨by rfl,?h15⟩) HSd.out ?r15
     case h15=>(intro w hSw;(try dsimp only at hSw);go_simp;first | done | with_reducible rfl)
     try simp only [Act.put,sA,sB,sC]
     refine Qf (i:=16) (v:=?v16) [17,16] rfl (by kernel_rfl) (fun _ _ _ h=>h) (Or.inl ⟨by rfl,?h16⟩) HSd.out ?r16
     case h16=>(intro w hSw;(try dsimp only at hSw);go_simp;first | done | with_reducible rfl)
     try simp only [Act.put,sA,sB,sC]
     refine Qdj (i:=6) (j:=11) (fuel:=4) (by kernel_rfl) rfl rfl (fun KK hKK=>?_) (fun KK hKK=>?_)
     ·go_simp
      refine (HAT.out _ (J6.out.be.trans (HBD.out.mono J6.out.be.size))).mono ?_
      rintro e w7 ⟨rfl,b7⟩
      have hb7:=HBD.out.trans b7
      refine hKK.out _ _ (fun _=>KS.out _ hb7) (fun _=>?_)
      have J7:=Lh (J6.out.below hb7)
      have HB7:=Lh hb7
      have T7:=Lh (T6.out.under hb7 (by intro b _ h;exact h))
      have X7:=Lh ((J6.out.sh.under hb7 (by intro b _ h;exact h)))
      have hs7:=hb7.size
      clear hKK KK b7 hb7
      try simp only [Act.put,sA,sB,sC]
      refine Qt (i:=11) (fuel:=3) (by kernel_rfl) rfl (fun KK hKK=>?_)
      go_simp
      have hb8:Below w6.heap.size w6 (w7.alloc (.cells #[.int .i64 x.k,.int .i64 x.a,.int .i64 x.m,.string x.nm,.string x.lb,.slice Az x.l.length cz,.int .i64 g2.e.k,.int .i64 g2.e.a,.int .i64 g2.e.m,.string g2.e.nm,.string g2.e.lb,.slice A5 g2.e.l.length c5] 81)):=HB7.out.alloc hs7 _
      refine hKK.out _ _ (fun _=>KS.out _ hb8) (fun _=>?_)
      have T8:=Lh (show Shx (w7.alloc (.cells #[.int .i64 x.k,.int .i64 x.a,.int .i64 x.m,.string x.nm,.string x.lb,.slice Az x.l.length cz,.int .i64 g2.e.k,.int .i64 g2.e.a,.int .i64 g2.e.m,.string g2.e.nm,.string g2.e.lb,.slice A5 g2.e.l.length c5] 81)) (fun b=>w.heap.size+2≤b∧b≠K) (.slice (some ⟨w7.heap.size,0,none⟩) 2 2) [x,g2.e] from Shx.lit (w:=w7) (S:=fun b=>w.heap.size+2≤b∧b≠K) [(x,.slice Az x.l.length cz),(g2.e,.slice A5 g2.e.l.length c5)] (by simp) (by intro y hy;rcases List.mem_cons.1 hy with rfl | hy;exact X7.out;rw [List.mem_singleton.1 hy];exact T7.out) (by have:=J7.out.gk.lt;show w.heap.size+2≤w7.heap.size∧w7.heap.size≠K;omega) rfl)
      have HB8:=Lh hb8
      obtain ⟨w8,hw8⟩:∃ w8,(w7.alloc (.cells #[.int .i64 x.k,.int .i64 x.a,.int .i64 x.m,.string x.nm,.string x.lb,.slice Az x.l.length cz,.int .i64 g2.e.k,.int .i64 g2.e.a,.int .i64 g2.e.m,.string g2.e.nm,.string g2.e.lb,.slice A5 g2.e.l.length c5] 81))=w8:=⟨_,rfl⟩
      obtain ⟨B,hB⟩:∃ B,w7.heap.size=B:=⟨_,rfl⟩
      rw [hw8] at T8 HB8 ⊢
      rw [hB] at T8 ⊢
      clear hKK KK hb8 hw8 hB T7 X7 HB7 J7 hs7
      try simp only [Act.put,sA,sB,sC]
      refine Qt (i:=12) (fuel:=2) (by kernel_rfl) rfl (fun KK hKK=>?_)
      go_simp
      refine hKK.out _ _ (fun _=>KS.out _ HB8.out) (fun _=>?_)
      clear hKK KK
      try simp only [Act.put,sA,sB,sC]
      refine Qt (i:=17) (fuel:=1) (by kernel_rfl) rfl (fun KK hKK=>?_)
      go_simp
      refine (HX0.out _ _ _ T8.out).mono ?_
      rintro e w9 ⟨rfl,b9⟩
      have hb9:=bTr HB8 b9
      refine hKK.out _ _ (fun _=>KS.out _ hb9) (fun _=>?_)
      have J9:=Lh (J6.out.below hb9)
      have T9:=Lh (T8.out.under b9 (by intro b _ h;exact h))
      obtain ⟨z0,z1,z2,z3,z4,z5,z6,z7⟩:=J9.out.gk.six
      have f0:=J9.out.gk.fz 0 (by omega)
      have f1:=J9.out.gk.fz 1 (by omega)
      have f2:=J9.out.gk.fz 2 (by omega)
      have f3:=J9.out.gk.fz 3 (by omega)
      have f4:=J9.out.gk.fz 4 (by omega)
      have f5:=J9.out.gk.fz 5 (by omega)
      have f6:=J9.out.gk.fz 6 (by omega)
      have f7:=J9.out.gk.fz 7 (by omega)
      clear hKK KK b9 hb9
      try simp only [Act.put,sA,sB,sC]
      refine Qt (i:=18) (fuel:=0) (by kernel_rfl) rfl (fun KK hKK=>?_)
      go_simp
      refine hKK.out _ _ (fun h=>absurd rfl h) (fun _=>?_)
      clear hKK KK
      try simp only [Act.put,sA,sB,sC]
      refine Ze (by kernel_rfl) ?_
      have HG9:=Gar.set8 (e:=E5) (lv:=.slice (a5 B) n5 n5) (p:=(P5:Int)) (r:=R5) J9.out.gk
      have HJ9:=Lh (J9.out.set HG9.2 HG9.1 (HX5.out _ _ _ T9.out))
      clear HG9 z0 z1 z2 z3 z4 z5 z6 z7 f0 f1 f2 f3 f4 f5 f6 f7
      go_wp2
      go_roundw
      case rel =>
       refine ⟨E5,_,P5,R5,HJ9.out,HFIN.out.2.2,fun h0=>?_,HFIN.out.2.1⟩
       obtain ⟨e1,e2,e3⟩:=HFIN.out.1 h0
       exact ⟨e2,f'',by omega,by omega,e3⟩
      case measure =>
       have e1:=Qhv HJ9.out.gk
       have e2:=Qhw HJ9.out.gk
       rw [e1,e2,hmP,hmR,if_pos rfl]
       by_cases h0:R5=0
       ·obtain ⟨e1,_,_⟩:=HFIN.out.1 h0
        rw [if_pos h0]
        omega
       ·rw [if_neg h0]
        omega
     ·go_simp
      have hb7:Below w6.heap.size w6 (w6.alloc (.cells #[.int .i64 x.k,.int .i64 x.a,.int .i64 x.m,.string x.nm,.string x.lb,.slice Az x.l.length cz,.int .i64 g2.e.k,.int .i64 g2.e.a,.int .i64 g2.e.m,.string g2.e.nm,.string g2.e.lb,.slice A5 g2.e.l.length c5] 81)).drew:=((Below.refl w6.heap.size w6).alloc nLe _).trans (Qi _ _)
      refine hKK.out _ _ (fun _=>KS.out _ hb7) (fun _=>?_)
      have T7:=Lh ((show Shx (w6.alloc (.cells #[.int .i64 x.k,.int .i64 x.a,.int .i64 x.m,.string x.nm,.string x.lb,.slice Az x.l.length cz,.int .i64 g2.e.k,.int .i64 g2.e.a,.int .i64 g2.e.m,.string g2.e.nm,.string g2.e.lb,.slice A5 g2.e.l.length c5] 81)) (fun b=>w.heap.size+2≤b∧b≠K) (.slice (some ⟨w6.heap.size,0,none⟩) 2 2) [x,g2.e] from Shx.lit (w:=w6) (S:=fun b=>w.heap.size+2≤b∧b≠K) [(x,.slice Az x.l.length cz),(g2.e,.slice A5 g2.e.l.length c5)] (by simp) (by intro y hy;rcases List.mem_cons.1 hy with rfl | hy;exact J6.out.sh;rw [List.mem_singleton.1 hy];exact T6.out) (by show w.heap.size+2≤w6.heap.size∧w6.heap.size≠K;omega) rfl).under (Qi _ (w6.heap.size+1)) (by intro b _ h;simpa using h))
      have HB7:=Lh hb7
      obtain ⟨w7,hw7⟩:∃ w7,(w6.alloc (.cells #[.int .i64 x.k,.int .i64 x.a,.int .i64 x.m,.string x.nm,.string x.lb,.slice Az x.l.length cz,.int .i64 g2.e.k,.int .i64 g2.e.a,.int .i64 g2.e.m,.string g2.e.nm,.string g2.e.lb,.slice A5 g2.e.l.length c5] 81)).drew=w7:=⟨_,rfl⟩
      obtain ⟨B,hB⟩:∃ B,w6.heap.size=B:=⟨_,rfl⟩
      rw [hw7] at T7 HB7 ⊢
      rw [hB] at T7 ⊢
      clear hKK KK hb7 hw7 hB
      try simp only [Act.put,sA,sB,sC]
      refine Qt (i:=6) (fuel:=3) (by kernel_rfl) rfl (fun KK hKK=>?_)
      go_simp
      refine (HAT.out _ (J6.out.be.trans (HB7.out.mono J6.out.be.size))).mono ?_
      rintro e w8 ⟨rfl,b8⟩
      have hb8:=bTr HB7 b8
      refine hKK.out _ _ (fun _=>KS.out _ hb8) (fun _=>?_)
      have HB8:=Lh hb8
      have T8:=Lh (T7.out.under b8 (by intro b _ h;exact h))
      clear hKK KK b8 hb8
      try simp only [Act.put,sA,sB,sC]
      refine Qt (i:=12) (fuel:=2) (by kernel_rfl) rfl (fun KK hKK=>?_)
      go_simp
      refine hKK.out _ _ (fun _=>KS.out _ HB8.out) (fun _=>?_)
      clear hKK KK
      try simp only [Act.put,sA,sB,sC]
      refine Qt (i:=17) (fuel:=1) (by kernel_rfl) rfl (fun KK hKK=>?_)
      go_simp
      refine (HX0.out _ _ _ T8.out).mono ?_
      rintro e w9 ⟨rfl,b9⟩
      have hb9:=bTr HB8 b9
      refine hKK.out _ _ (fun _=>KS.out _ hb9) (fun _=>?_)
      have J9:=Lh (J6.out.below hb9)
      have T9:=Lh (T8.out.under b9 (by intro b _ h;exact h))
      obtain ⟨z0,z1,z2,z3,z4,z5,z6,z7⟩:=J9.out.gk.six
      have f0:=J9.out.gk.fz 0 (by omega)
      have f1:=J9.out.gk.fz 1 (by omega)
      have f2:=J9.out.gk.fz 2 (by omega)
      have f3:=J9.out.gk.fz 3 (by omega)
      have f4:=J9.out.gk.fz 4 (by omega)
      have f5:=J9.out.gk.fz 5 (by omega)
      have f6:=J9.out.gk.fz 6 (by omega)
      have f7:=J9.out.gk.fz 7 (by omega)
      clear hKK KK b9 hb9
      try simp only [Act.put,sA,sB,sC]
      refine Qt (i:=18) (fuel:=0) (by kernel_rfl) rfl (fun KK hKK=>?_)
      go_simp
      refine hKK.out _ _ (fun h=>absurd rfl h) (fun _=>?_)
      clear hKK KK
      try simp only [Act.put,sA,sB,sC]
      refine Ze (by kernel_rfl) ?_
      have HG9:=Gar.set8 (e:=E5) (lv:=.slice (a5 B) n5 n5) (p:=(P5:Int)) (r:=R5) J9.out.gk
      have HJ9:=Lh (J9.out.set HG9.2 HG9.1 (HX5.out _ _ _ T9.out))
      clear HG9 z0 z1 z2 z3 z4 z5 z6 z7 f0 f1 f2 f3 f4 f5 f6 f7
      go_wp2
      go_roundw
      case rel =>
       refine ⟨E5,_,P5,R5,HJ9.out,HFIN.out.2.2,fun h0=>?_,HFIN.out.2.1⟩
       obtain ⟨e1,e2,e3⟩:=HFIN.out.1 h0
       exact ⟨e2,f'',by omega,by omega,e3⟩
      case measure =>
       have e1:=Qhv HJ9.out.gk
       have e2:=Qhw HJ9.out.gk
       rw [e1,e2,hmP,hmR,if_pos rfl]
       by_cases h0:R5=0
       ·obtain ⟨e1,_,_⟩:=HFIN.out.1 h0
        rw [if_pos h0]
        omega
       ·rw [if_neg h0]
        omega
    ·have hr2':(g2.r==0)=false:=by simp [hr2]
     have hr2'':decide (g2.r=0)=false:=by simp [hr2]
     have HY:=Lh (show Y=bad g2.p g2.r from by have h7:=M7.out;rw [if_neg hr2] at h7;exact h7)
     have HNU:=Lh (M8.out hr2)
     go_wp2_with (first
      | (go_at_call 81;refine (HSG.out _ J.out.be).mono ?_;rintro e w4 ⟨rfl,b4⟩;have J4:=Lh (J.out.below b4);have k0':=J4.out.c0;have k1':=J4.out.c1;have m6':=J4.out.gk.six.2.2.2.2.2.2.1;clear b4;dsimp only)
      | (go_at_call 70;refine (HEX.out _ J4.out.be).mono ?_;rintro e w5 ⟨lv2,rfl,hx5,b5⟩;obtain ⟨A5,c5,rfl,_⟩:=hx5.len;have hone5:=hx5.one;have J5:=Lh (J4.out.below b5);have T5:=Lh hx5;have hs5:=b5.size;clear hx5 b5;dsimp only)
      | (refine Qe rfl (.tmp 10) (.tmp 40) rfl w5.heap.size rfl (Q3 w5) (e:=g2.e) (lv:=.slice A5 g2.e.l.length c5) (p:=(g2.p:Int)) (r:=g2.r) rfl hone5 ?_;intro w6 hg6 hs6;have J6:=Lh (J5.out.new hg6);have G6:=Lh hs6;have n7:=hs6.six.2.2.2.2.2.2.2;clear hg6 hs6)
      | (refine Js rfl (.tmp 10) rfl w5.heap.size rfl G6.out ?_)
      | (refine Qe rfl (.tmp 8) (.tmp 44) rfl (w.heap.size+1) rfl J6.out.ga (e:=g2.e) (lv:=.slice A5 g2.e.l.length c5) (p:=(g2.p:Int)) (r:=g2.r) rfl hone5 ?_;intro w7 hg7 hs7;have HG7:=Lh hg7;have HS7:=Lh hs7;clear hg7 hs7)
      | fail)
     refine Jo (i:=8) (by kernel_rfl) rfl rfl HS7.out ⟨.slice A5 g2.e.l.length c5,?_,?_,Qu J6.out.be HG7.out (by omega) J6.out.be.size⟩
     ·rw [HY.out,HNU.out];rfl
     ·rw [HY.out,HNU.out]
      exact .emp _ _
  ·have h0':(er==0)=false:=by simp [h0]
   have h0'':decide (er=0)=false:=by simp [h0]
   have M4:=Lh (hi2 h0)
   clear hi1 hi2
   go_wp2_with (first
    | (refine Js rfl (.tmp 9) rfl K rfl J.out.gk ?_)
    | (refine Qe rfl (.tmp 8) (.tmp 63) rfl (w.heap.size+1) rfl J.out.ga (e:=x) (lv:=.slice Az x.l.length cz) (p:=(q:Int)) (r:=er) rfl hone ?_;intro w5 hg5 hs5;have HG5:=Lh hg5;have HS5:=Lh hs5;clear hg5 hs5)
    | fail)
   refine Jo (i:=8) (by kernel_rfl) rfl rfl HS5.out ⟨.slice Az x.l.length cz,?_,?_,Qu J.out.be HG5.out (by omega) J.out.be.size⟩
   ·rw [M4.out.1,M4.out.2];rfl
   ·rw [M4.out.1,M4.out.2]
    exact .emp _ _
def opG(R:Rw)(p:Nat)(g:Gt):Gt:=
 if R.is g.p [44]=true then if R.is (g.p+1) [64]=true then if R.idn (g.p+2)=true then if R.is (g.p+3) [41]=true then hld (Qaf (R.ps p) (R.wd (g.p+2)) g.e) (g.p+4) p
  else bad (g.p+3) 11 else bad (g.p+2) 11 else bad (g.p+1) 11 else bad g.p 11
theorem rd_op_no{R:Rw}{f a d:Nat}(h:R.is (a+1) [40]=false):rd R (f+2) .op a d=bad (a+1) 11:=by
 simp only [rd]
 rw [if_neg (show ¬ R.is (a+1) [40]=true by rw [h];decide),if_neg (show ¬ (bad (a+1) 11).r=0 from (show ¬ (11:Int)=0 by decide))]
 rfl
theorem Qkk{R:Rw}{f a d:Nat}(h:R.is (a+1) [40]=true)(hd:d=32):rd R (f+2) .op a d=bad (a+1) 12:=by
 simp only [rd]
 rw [if_pos h,if_pos hd,if_neg (show ¬ (bad (a+1) 12).r=0 from (show ¬ (12:Int)=0 by decide))]
 rfl
theorem Qmm{R:Rw}{f a d:Nat}{g:Gt}(h:R.is (a+1) [40]=true)(hd:¬ d=32)(hg:rd R f (.lev 1) (a+2) (d+1)=g):rd R (f+2) .op a d=if g.r=0 then opG R a g else bad g.p g.r:=by
 simp only [rd]
 rw [if_pos h,if_neg hd,show a+1+1=a+2 from rfl,hg]
 by_cases h0:g.r=0
 ·rw [if_pos h0,if_pos h0,if_pos (show (good g.e g.p).r=0 from rfl)]
  rfl
 ·rw [if_neg h0,if_neg h0,if_neg (show ¬ (bad g.p g.r).r=0 from h0)]
  rfl
theorem Two.lev{X:Ry}{w W1 w2 w3:World}{x:Ex}{v:Value}{q:Nat}{er:Int}{o:Obj}(h2:Two X w W1)(hD:Below W1.heap.size W1 w2)(hx:Shx w2 (fun b=>W1.heap.size≤b) v x.l)
  (hG:Gar w3 w2.heap.size x v (q:Int) er) (hg:(w2.alloc o).grownBy w3 (some w2.heap.size)):Qey X w w2.heap.size w3 x v q er:=by
 have hs1:=h2.sz
 have hs2:=hD.size
 have hb:Below w2.heap.size w2 (w2.alloc o):=bAl
 obtain ⟨q0,q1⟩:=h2.row hD (by omega)
 have hc:∀ j,w3.cell? ⟨w.heap.size,j,none⟩=w2.cell? ⟨w.heap.size,j,none⟩:=fun j=>(World.cell?_of_block (a:=⟨w.heap.size,j,none⟩) (hg.block w.heap.size (by simp;omega) (by intro e;injection e;omega))).trans (hb.cell (p:=⟨w.heap.size,j,none⟩) (by show w.heap.size<_;omega))
 have hbe:Below w.heap.size w w2:=h2.be.trans (hD.mono h2.be.size)
 refine ⟨(hc 0).trans q0,(hc 1).trans q1,((h2.ga.below hD (by omega)).below hb (by omega)).grown hg (by intro e;injection e;omega),hG,?_,Qu (hbe.alloc hbe.size _) hg hbe.size (by simp;have:=hbe.size;omega),by omega⟩
 exact (((hx.weak (S':=fun b=>W1.heap.size≤b∧b<w2.heap.size) (fun b h1 h2=>⟨h1,h2⟩)).under hb (fun b hb _=>hb.2)).grown hg (by intro b hb _ e;injection e with e;omega)).weak fun b hb _=>by omega
theorem Qey.alloc{X:Ry}{w wr:World}{K q:Nat}{x:Ex}{zv:Value}{er:Int}(h:Qey X w K wr x zv q er)(o:Obj):Qey X w K (wr.alloc o) x zv q er:=h.below bAl
theorem Qey.drew{X:Ry}{w wr:World}{K q:Nat}{x:Ex}{zv:Value}{er:Int}(h:Qey X w K wr x zv q er):Qey X w K wr.drew x zv q er:=h.below (Qi _ _)
theorem rOpen_no(X:Ry)(f d p:Nat)(w:World)(hp:p<X.L.length)(h:X.In w w.heap.size)(hc:X.R.is (p+1) [40]=false) :
  CP 99 #[X.val,.int .i64 (p:Int),.int .i64 (d:Int)] w (Yi w (rd X.R (f+2) .op p d)):=by
 have hz:=Q2
 have hzx:=J8
 have hln:=h.2.len
 have HI:=Lh h
 have H2:=Lh (Qx X w)
 rw [rd_op_no hc]
 have hc':((X.R.wd (p+1)).toList==[40])=false:=hc
 have HA:Hid (∀ W,Below w.heap.size w W→CP 51 #[X.val,.int .i64 ((p:Int)+1)] W fun e w'=>e=.returned (.string (X.R.wd (p+1)))∧Below W.heap.size W w'):=Lh fun W hW=>Qg X (p+1) W ((HI.out.up hW nLe).more hW.size) (by omega)
 obtain ⟨s,hs⟩:∃ s,X.R.wd (p+1)=s:=⟨_,rfl⟩
 rw [hs] at HA hc'
 clear h hs hc
 obtain ⟨W1,hW1⟩:∃ W1,((w.alloc (.cells #[.string X.T,.slice X.A X.L.length X.c] 92)).alloc (.cells z8 138))=W1:=⟨_,rfl⟩
 rw [hW1] at H2
 have HW1:=Lh hW1
 have hs1:=H2.out.sz
 obtain ⟨k0,k1⟩:=H2.out.row (Below.refl (w.heap.size+1) W1) (by omega)
 clear hW1
 go_enter Try.func99,Try.ntmps99
 go_wp2_with (first
  | (go_at_call 51;rw [HW1.out];refine (HA.out _ H2.out.be).mono ?_;rintro e w2 ⟨rfl,b2⟩;have HB2:=Lh (H2.out.be.trans (b2.mono H2.out.be.size));have HD2:=Lh b2;have HG2:=Lh (H2.out.ga.below b2 (by omega));have HR2:=Lh (H2.out.row b2 (by omega));obtain ⟨q0,q1⟩:=HR2.out;have hs2:=b2.size;clear b2;dsimp only)
  | (refine Qe rfl (.tmp 6) (.tmp 19) rfl (w.heap.size+1) rfl HG2.out (e:=Ex.nul) (lv:=.slice none 0 0) (p:=(p:Int)+1) (r:=11) rfl rfl ?_;intro w6 hg6 hs6;have HG6:=Lh hs6;have HB6:=Lh (Qu HB2.out hg6 (by omega) HB2.out.size);clear hg6 hs6)
  | fail)
 exact Jo (i:=6) (by kernel_rfl) rfl rfl HG6.out ⟨.slice none 0 0,rfl,.nil,HB6.out⟩
theorem Qkl(X:Ry)(f p:Nat)(w:World)(hp:p<X.L.length)(h:X.In w w.heap.size)(hc:X.R.is (p+1) [40]=true) :
  CP 99 #[X.val,.int .i64 (p:Int),.int .i64 32] w (Yi w (rd X.R (f+2) .op p 32)):=by
 have hz:=Q2
 have hzx:=J8
 have hln:=h.2.len
 have HI:=Lh h
 have H2:=Lh (Qx X w)
 rw [Qkk hc rfl]
 have hc':((X.R.wd (p+1)).toList==[40])=true:=hc
 have HA:Hid (∀ W,Below w.heap.size w W→CP 51 #[X.val,.int .i64 ((p:Int)+1)] W fun e w'=>e=.returned (.string (X.R.wd (p+1)))∧Below W.heap.size W w'):=Lh fun W hW=>Qg X (p+1) W ((HI.out.up hW nLe).more hW.size) (by omega)
 obtain ⟨s,hs⟩:∃ s,X.R.wd (p+1)=s:=⟨_,rfl⟩
 rw [hs] at HA hc'
 clear h hs hc
 obtain ⟨W1,hW1⟩:∃ W1,((w.alloc (.cells #[.string X.T,.slice X.A X.L.length X.c] 92)).alloc (.cells z8 138))=W1:=⟨_,rfl⟩
 rw [hW1] at H2
 have HW1:=Lh hW1
 have hs1:=H2.out.sz
 obtain ⟨k0,k1⟩:=H2.out.row (Below.refl (w.heap.size+1) W1) (by omega)
 clear hW1
 go_enter Try.func99,Try.ntmps99
 go_wp2_with (first
  | (go_at_call 51;rw [HW1.out];refine (HA.out _ H2.out.be).mono ?_;rintro e w2 ⟨rfl,b2⟩;have HB2:=Lh (H2.out.be.trans (b2.mono H2.out.be.size));have HD2:=Lh b2;have HG2:=Lh (H2.out.ga.below b2 (by omega));have HR2:=Lh (H2.out.row b2 (by omega));obtain ⟨q0,q1⟩:=HR2.out;have hs2:=b2.size;clear b2;dsimp only)
  | (refine Qe rfl (.tmp 6) (.tmp 24) rfl (w.heap.size+1) rfl HG2.out (e:=Ex.nul) (lv:=.slice none 0 0) (p:=(p:Int)+1) (r:=12) rfl rfl ?_;intro w6 hg6 hs6;have HG6:=Lh hs6;have HB6:=Lh (Qu HB2.out hg6 (by omega) HB2.out.size);clear hg6 hs6)
  | fail)
 exact Jo (i:=6) (by kernel_rfl) rfl rfl HG6.out ⟨.slice none 0 0,rfl,.nil,HB6.out⟩
theorem Qmn(X:Ry)(f:Nat)(hE:Qlc X f)(d p:Nat)(w:World)(hd:d≤32)(h32:¬ d=32)(hp:p<X.L.length)(h:X.In w w.heap.size)(hf16:16*(X.L.length-p)+1≤f+2)(hc:X.R.is (p+1) [40]=true)(hm:∀ i,(X.R.wd i).size≤1000000) :
  CP 99 #[X.val,.int .i64 (p:Int),.int .i64 (d:Int)] w (Yi w (rd X.R (f+2) .op p d)):=by
 have hz:=Q2
 have hzx:=J8
 have hln:=h.2.len
 have HI:=Lh h
 have H2:=Lh (Qx X w)
 have hp1:p+1<X.L.length:=(Qo X.T X.L).is_lt hc
 have d32:¬ (32:Int)≤(d:Int):=by omega
 have hc':((X.R.wd (p+1)).toList==[40])=true:=hc
 have HA:Hid (∀ W,Below w.heap.size w W→CP 51 #[X.val,.int .i64 ((p:Int)+1)] W fun e w'=>e=.returned (.string (X.R.wd (p+1)))∧Below W.heap.size W w'):=Lh fun W hW=>Qg X (p+1) W ((HI.out.up hW nLe).more hW.size) (by omega)
 obtain ⟨g,hg⟩:∃ g,rd X.R f (.lev 1) (p+2) (d+1)=g:=⟨_,rfl⟩
 have hin:=Ko (Qo X.T X.L) f (.lev 1) (p+2) (d+1) hp1 (fun h=>by cases h)
 have hfi:=Kw (Qo X.T X.L) (show X.R.n≤1000000 from hln) f (.lev 1) (p+2) (d+1) hp1 (fun h=>by cases h) trivial
 have hnul:=Qal (R:=X.R) f (.lev 1) (p+2) (d+1)
 have HEX:Hid (∀ W,Below w.heap.size w W→CP 70 #[X.val,.int .i64 ((p:Int)+2),.int .i64 1,.int .i64 ((d:Int)+1)] W (Yi W g)):=Lh fun W hW=>by
  rw [← hg]
  exact hE 1 (d+1) (p+2) W (by omega) (by omega) (by omega) hp1 ((HI.out.up hW nLe).more hW.size) (by omega)
 rw [Qmm hc h32 hg]
 rw [hg] at hin hfi hnul
 have hgp:g.p≤X.L.length:=hin.2.1
 have hfi:g.r=0→Fine g.e:=fun h=>(hfi h).1
 obtain ⟨s,hs⟩:∃ s,X.R.wd (p+1)=s:=⟨_,rfl⟩
 rw [hs] at HA hc'
 have HNU:=Lh hnul
 have HFI:=Lh hfi
 have HM:=Lh hm
 clear h hE hg hs hin hfi hnul hm hc
 obtain ⟨W1,hW1⟩:∃ W1,((w.alloc (.cells #[.string X.T,.slice X.A X.L.length X.c] 92)).alloc (.cells z8 138))=W1:=⟨_,rfl⟩
 rw [hW1] at H2
 have HW1:=Lh hW1
 have hs1:=H2.out.sz
 obtain ⟨k0,k1⟩:=H2.out.row (Below.refl (w.heap.size+1) W1) (by omega)
 clear hW1
 go_enter Try.func99,Try.ntmps99
 by_cases hr:g.r=0
 ·rw [if_pos hr]
  have hr2':(g.r==0)=true:=by simp [hr]
  have hr2'':decide (g.r=0)=true:=by simp [hr]
  go_wp2_with (first
   | (go_at_call 51;rw [HW1.out];refine (HA.out _ H2.out.be).mono ?_;rintro e w2 ⟨rfl,b2⟩;have HB2:=Lh (H2.out.be.trans (b2.mono H2.out.be.size));have HD2:=Lh b2;have HG2:=Lh (H2.out.ga.below b2 (by omega));have HR2:=Lh (H2.out.row b2 (by omega));obtain ⟨q0,q1⟩:=HR2.out;have hs2:=b2.size;clear b2;dsimp only)
   | (go_at_call 70;refine (HEX.out _ HB2.out).mono ?_;rintro e w3 ⟨lv,rfl,hx3,b3⟩;obtain ⟨A2,c2,rfl,_⟩:=hx3.len;have hone:=hx3.one;have HX3:=Lh hx3;have HD3:=Lh ((Below.refl W1.heap.size W1).trans ((HD2.out).trans (b3.mono HD2.out.size)));clear b3 hx3;dsimp only)
   | (refine Qe rfl (.tmp 7) (.tmp 30) rfl w3.heap.size rfl (Q3 w3) (e:=g.e) (lv:=(.slice A2 g.e.l.length c2)) (p:=(g.p:Int)) (r:=g.r) rfl hone ?_;intro w4 hg4 hs4;have J4:=Lh (H2.out.lev HD3.out (HX3.out.weak fun b hb _=>by have:=HD2.out.size;have hb:w2.heap.size≤b:=hb;show W1.heap.size≤b;omega) hs4 hg4);have m6:=hs4.six.2.2.2.2.2.2.1;have m7:=hs4.six.2.2.2.2.2.2.2;clear hg4 hs4)
   | fail)
  obtain ⟨K,hK⟩:∃ K,w3.heap.size=K:=⟨_,rfl⟩
  obtain ⟨U,hU⟩:∃ U,w4.heap.size=U:=⟨_,rfl⟩
  obtain ⟨w5,hw5⟩:∃ w5,w4.alloc (.cells #[.string ⟨#[44]⟩,.string ⟨#[64]⟩] 9)=w5:=⟨_,rfl⟩
  have JW:=Lh (J4.out.alloc (.cells #[.string ⟨#[44]⟩,.string ⟨#[64]⟩] 9))
  have u0:w5.cell? ⟨U,0,none⟩=some (.string ⟨#[44]⟩):=by rw [← hw5,← hU,World.cell?_alloc_at _ _ _ _ rfl];rfl
  have u1:w5.cell? ⟨U,1,none⟩=some (.string ⟨#[64]⟩):=by rw [← hw5,← hU,World.cell?_alloc_at _ _ _ _ rfl];rfl
  have hU5:U<w5.heap.size:=by rw [← hw5,← hU];simp
  rw [hw5,hK] at JW
  rw [hw5,hU,hK]
  have hKw:=JW.out.kg
  have US:=Lh (And.intro u0 u1)
  clear hw5 hU hK u0 u1 J4 HX3 HD3 HG2 HR2 HB2 HD2 HW1 H2 HA HEX k0 k1 q0 q1 m6 m7 hc' hs1 hs2
  go_loopw [8,10] (fun kv iv wr=>((kv=.int .i64 (g.p:Int)∧iv=.int .i64 0)∨(kv=.int .i64 ((g.p:Int)+1)∧iv=.int .i64 1∧X.R.is g.p [44]=true)∨(kv=.int .i64 ((g.p:Int)+2)∧iv=.int .i64 2∧X.R.is g.p [44]=true∧X.R.is (g.p+1) [64]=true))∧Qey X w K wr g.e (.slice A2 g.e.l.length c2) g.p g.r∧wr.cell? ⟨U,0,none⟩=some (.string ⟨#[44]⟩)∧wr.cell? ⟨U,1,none⟩=some (.string ⟨#[64]⟩)∧U<wr.heap.size) (fun _ iv _=>2-(intOf iv).toNat)
  case atStart=>exact ⟨.inl ⟨rfl,rfl⟩,JW.out,US.out.1,US.out.2,hU5⟩
  case round =>
   obtain ⟨hor,hJ,u0,u1,hUr⟩:=hrel
   have J:=Lh hJ
   have k0:=hJ.c0
   have k1:=hJ.c1
   have U0:=Lh u0
   have U1:=Lh u1
   clear hJ JW US hU5
   rcases hor with ⟨rfl,rfl⟩ | ⟨rfl,rfl,e1⟩ | ⟨rfl,rfl,e1,e2⟩
   ·cases hq:X.R.is g.p [44] with
    | false =>
     have hq':((X.R.wd (g.p+0)).toList==[44])=false:=hq
     have HAT:Hid (∀ W,Below w.heap.size w W→CP 51 #[X.val,.int .i64 ((g.p:Int))] W fun e w'=>e=.returned (.string (X.R.wd (g.p+0)))∧Below W.heap.size W w'):=Lh fun W hW=>Qg X (g.p+0) W ((HI.out.up hW nLe).more hW.size) (by omega)
     obtain ⟨s,hs⟩:∃ s,X.R.wd (g.p+0)=s:=⟨_,rfl⟩
     rw [hs] at HAT hq'
     clear hs
     have KS:Hid (∀ W,Below wr.heap.size wr W→W.cell? ⟨w.heap.size,0,none⟩=some (.string X.T)∧W.cell? ⟨w.heap.size,1,none⟩=some (.slice X.A X.L.length X.c)∧W.cell? ⟨U,0,none⟩=some (.string ⟨#[44]⟩)):=Lh fun W hW=>by
      have hJ:=J.out.below hW
      exact ⟨hJ.c0,hJ.c1,(hW.cell (p:=⟨U,0,none⟩) hUr).trans U0.out⟩
     have HBD:=Lh (Qi wr wr.heap.size)
     go_wp2_with fail
     refine Zh (fun W=>W.cell? ⟨w.heap.size,0,none⟩=some (.string X.T)∧W.cell? ⟨w.heap.size,1,none⟩=some (.slice X.A X.L.length X.c)∧W.cell? ⟨U,0,none⟩=some (.string ⟨#[44]⟩)) 7 (by kernel_rfl) 8 rfl ?_
     have HSd:Hid (wr.drew.cell? ⟨w.heap.size,0,none⟩=some (.string X.T)∧wr.drew.cell? ⟨w.heap.size,1,none⟩=some (.slice X.A X.L.length X.c)∧wr.drew.cell? ⟨U,0,none⟩=some (.string ⟨#[44]⟩)):=Lh (KS.out _ HBD.out)
     clear u0 u1 k0 k1
     refine Qf (i:=0) (v:=?vfalse00) [2,0] rfl (by kernel_rfl) (fun _ _ _ h=>h) (Or.inl ⟨by rfl,?hfalse00⟩) HSd.out ?rfalse00
     case hfalse00=>(intro w hSw;(try dsimp only at hSw);go_simp;first | done | with_reducible rfl)
     simp only [Act.put,sA,sB,sC]
     refine Qf (i:=1) (v:=?vfalse01) [2,1] rfl (by kernel_rfl) (fun _ _ _ h=>h) (Or.inl ⟨by rfl,?hfalse01⟩) HSd.out ?rfalse01
     case hfalse01=>(intro w hSw;(try dsimp only at hSw);go_simp;first | done | with_reducible rfl)
     simp only [Act.put,sA,sB,sC]
     refine Qf (i:=3) (v:=?vfalse03) [6,5,3] rfl (by kernel_rfl) (fun _ _ _ h=>h) (Or.inl ⟨by rfl,?hfalse03⟩) HSd.out ?rfalse03
     case hfalse03=>(intro w hSw;(try dsimp only at hSw);go_simp;first | done | with_reducible rfl)
     simp only [Act.put,sA,sB,sC]
     refine Qf (i:=4) (v:=?vfalse04) [6,5,4] rfl (by kernel_rfl) (fun _ _ _ h=>h) (Or.inl ⟨by rfl,?hfalse04⟩) HSd.out ?rfalse04
     case hfalse04=>(intro w hSw;(try dsimp only at hSw);go_simp;first | done | with_reducible rfl)
     simp only [Act.put,sA,sB,sC]
     refine Qf (i:=5) (v:=?vfalse05) [6,5] rfl (by kernel_rfl) (fun _ _ _ h=>h) (Or.inl ⟨by rfl,?hfalse05⟩) HSd.out ?rfalse05
     case hfalse05=>(intro w hSw;(try dsimp only at hSw);go_simp;first | done | with_reducible rfl)
     simp only [Act.put,sA,sB,sC]
     refine Qf (i:=6) (v:=?vfalse06) [6] rfl (by kernel_rfl) (fun _ _ _ h=>h) (Or.inl ⟨by rfl,?hfalse06⟩) HSd.out ?rfalse06
     case hfalse06=>(intro w hSw;(try dsimp only at hSw);go_simp;first | done | with_reducible rfl)
     simp only [Act.put,sA,sB,sC]
     refine Qt (i:=2) (fuel:=1) (by kernel_rfl) rfl (fun KK hKK=>?_)
     go_simp
     refine (HAT.out _ (J.out.be.trans (HBD.out.mono J.out.be.size))).mono ?_
     rintro e w4 ⟨rfl,b4⟩
     have hb4:=HBD.out.trans b4
     refine hKK.out _ _ (fun _=>KS.out _ hb4) (fun _=>?_)
     have J4:=Lh (J.out.below hb4)
     have V4:=Lh (show w4.cell? ⟨U,0,none⟩=some (.string ⟨#[44]⟩)∧w4.cell? ⟨U,1,none⟩=some (.string ⟨#[64]⟩) from ⟨(hb4.cell (p:=⟨U,0,none⟩) hUr).trans U0.out,(hb4.cell (p:=⟨U,1,none⟩) hUr).trans U1.out⟩)
     have W4:=Lh (Nat.lt_of_lt_of_le hUr hb4.size)
     clear hKK KK b4 hb4
     try simp only [Act.put,sA,sB,sC]
     refine Qt (i:=7) (fuel:=0) (by kernel_rfl) rfl (fun KK hKK=>?_)
     go_simp
     refine hKK.out _ _ (fun h=>absurd rfl h) (fun _=>?_)
     clear hKK KK
     try simp only [Act.put,sA,sB,sC]
     refine Ze (by kernel_rfl) ?_
     go_wp2_with (first
      | (refine Qe rfl (.tmp 6) (.tmp 51) rfl (w.heap.size+1) rfl J4.out.ga (e:=Ex.nul) (lv:=.slice none 0 0) (p:=(g.p:Int)) (r:=11) rfl rfl ?_;intro wz hgz hsz;have HGZ:=Lh hsz;have HBZ:=Lh (Qu J4.out.be hgz (by omega) J4.out.be.size);clear hgz hsz)
      | fail)
     rw [show opG X.R p g=bad g.p 11 by unfold opG;rw [if_neg (show ¬ X.R.is g.p [44]=true by rw [hq];decide)]]
     exact Jo (i:=6) (by kernel_rfl) rfl rfl HGZ.out ⟨.slice none 0 0,rfl,.nil,HBZ.out⟩
    | true =>
     have hq':((X.R.wd (g.p+0)).toList==[44])=true:=hq
     have HAT:Hid (∀ W,Below w.heap.size w W→CP 51 #[X.val,.int .i64 ((g.p:Int))] W fun e w'=>e=.returned (.string (X.R.wd (g.p+0)))∧Below W.heap.size W w'):=Lh fun W hW=>Qg X (g.p+0) W ((HI.out.up hW nLe).more hW.size) (by omega)
     obtain ⟨s,hs⟩:∃ s,X.R.wd (g.p+0)=s:=⟨_,rfl⟩
     rw [hs] at HAT hq'
     clear hs
     have KS:Hid (∀ W,Below wr.heap.size wr W→W.cell? ⟨w.heap.size,0,none⟩=some (.string X.T)∧W.cell? ⟨w.heap.size,1,none⟩=some (.slice X.A X.L.length X.c)∧W.cell? ⟨U,0,none⟩=some (.string ⟨#[44]⟩)):=Lh fun W hW=>by
      have hJ:=J.out.below hW
      exact ⟨hJ.c0,hJ.c1,(hW.cell (p:=⟨U,0,none⟩) hUr).trans U0.out⟩
     have HBD:=Lh (Qi wr wr.heap.size)
     go_wp2_with fail
     refine Zh (fun W=>W.cell? ⟨w.heap.size,0,none⟩=some (.string X.T)∧W.cell? ⟨w.heap.size,1,none⟩=some (.slice X.A X.L.length X.c)∧W.cell? ⟨U,0,none⟩=some (.string ⟨#[44]⟩)) 7 (by kernel_rfl) 8 rfl ?_
     have HSd:Hid (wr.drew.cell? ⟨w.heap.size,0,none⟩=some (.string X.T)∧wr.drew.cell? ⟨w.heap.size,1,none⟩=some (.slice X.A X.L.length X.c)∧wr.drew.cell? ⟨U,0,none⟩=some (.string ⟨#[44]⟩)):=Lh (KS.out _ HBD.out)
     clear u0 u1 k0 k1
     refine Qf (i:=0) (v:=?vtrue00) [2,0] rfl (by kernel_rfl) (fun _ _ _ h=>h) (Or.inl ⟨by rfl,?htrue00⟩) HSd.out ?rtrue00
     case htrue00=>(intro w hSw;(try dsimp only at hSw);go_simp;first | done | with_reducible rfl)
     simp only [Act.put,sA,sB,sC]
     refine Qf (i:=1) (v:=?vtrue01) [2,1] rfl (by kernel_rfl) (fun _ _ _ h=>h) (Or.inl ⟨by rfl,?htrue01⟩) HSd.out ?rtrue01
     case htrue01=>(intro w hSw;(try dsimp only at hSw);go_simp;first | done | with_reducible rfl)
     simp only [Act.put,sA,sB,sC]
     refine Qf (i:=3) (v:=?vtrue03) [6,5,3] rfl (by kernel_rfl) (fun _ _ _ h=>h) (Or.inl ⟨by rfl,?htrue03⟩) HSd.out ?rtrue03
     case htrue03=>(intro w hSw;(try dsimp only at hSw);go_simp;first | done | with_reducible rfl)
     simp only [Act.put,sA,sB,sC]
     refine Qf (i:=4) (v:=?vtrue04) [6,5,4] rfl (by kernel_rfl) (fun _ _ _ h=>h) (Or.inl ⟨by rfl,?htrue04⟩) HSd.out ?rtrue04
     case htrue04=>(intro w hSw;(try dsimp only at hSw);go_simp;first | done | with_reducible rfl)
     simp only [Act.put,sA,sB,sC]
     refine Qf (i:=5) (v:=?vtrue05) [6,5] rfl (by kernel_rfl) (fun _ _ _ h=>h) (Or.inl ⟨by rfl,?htrue05⟩) HSd.out ?rtrue05
     case htrue05=>(intro w hSw;(try dsimp only at hSw);go_simp;first | done | with_reducible rfl)
     simp only [Act.put,sA,sB,sC]
     refine Qf (i:=6) (v:=?vtrue06) [6] rfl (by kernel_rfl) (fun _ _ _ h=>h) (Or.inl ⟨by rfl,?htrue06⟩) HSd.out ?rtrue06
     case htrue06=>(intro w hSw;(try dsimp only at hSw);go_simp;first | done | with_reducible rfl)
     simp only [Act.put,sA,sB,sC]
     refine Qt (i:=2) (fuel:=1) (by kernel_rfl) rfl (fun KK hKK=>?_)
     go_simp
     refine (HAT.out _ (J.out.be.trans (HBD.out.mono J.out.be.size))).mono ?_
     rintro e w4 ⟨rfl,b4⟩
     have hb4:=HBD.out.trans b4
     refine hKK.out _ _ (fun _=>KS.out _ hb4) (fun _=>?_)
     have J4:=Lh (J.out.below hb4)
     have V4:=Lh (show w4.cell? ⟨U,0,none⟩=some (.string ⟨#[44]⟩)∧w4.cell? ⟨U,1,none⟩=some (.string ⟨#[64]⟩) from ⟨(hb4.cell (p:=⟨U,0,none⟩) hUr).trans U0.out,(hb4.cell (p:=⟨U,1,none⟩) hUr).trans U1.out⟩)
     have W4:=Lh (Nat.lt_of_lt_of_le hUr hb4.size)
     clear hKK KK b4 hb4
     try simp only [Act.put,sA,sB,sC]
     refine Qt (i:=7) (fuel:=0) (by kernel_rfl) rfl (fun KK hKK=>?_)
     go_simp
     refine hKK.out _ _ (fun h=>absurd rfl h) (fun _=>?_)
     clear hKK KK
     try simp only [Act.put,sA,sB,sC]
     refine Ze (by kernel_rfl) ?_
     go_wp2_with fail
     go_roundw
     case rel=>exact ⟨.inr (.inl ⟨rfl,rfl,by first | exact hq | trivial⟩),J4.out,V4.out.1,V4.out.2,W4.out⟩
     case measure=>simp [intOf]
   ·cases hq:X.R.is (g.p+1) [64] with
    | false =>
     have hq':((X.R.wd (g.p+1)).toList==[64])=false:=hq
     have HAT:Hid (∀ W,Below w.heap.size w W→CP 51 #[X.val,.int .i64 ((g.p:Int)+1)] W fun e w'=>e=.returned (.string (X.R.wd (g.p+1)))∧Below W.heap.size W w'):=Lh fun W hW=>Qg X (g.p+1) W ((HI.out.up hW nLe).more hW.size) (by omega)
     obtain ⟨s,hs⟩:∃ s,X.R.wd (g.p+1)=s:=⟨_,rfl⟩
     rw [hs] at HAT hq'
     clear hs
     have KS:Hid (∀ W,Below wr.heap.size wr W→W.cell? ⟨w.heap.size,0,none⟩=some (.string X.T)∧W.cell? ⟨w.heap.size,1,none⟩=some (.slice X.A X.L.length X.c)∧W.cell? ⟨U,1,none⟩=some (.string ⟨#[64]⟩)):=Lh fun W hW=>by
      have hJ:=J.out.below hW
      exact ⟨hJ.c0,hJ.c1,(hW.cell (p:=⟨U,1,none⟩) hUr).trans U1.out⟩
     have HBD:=Lh (Qi wr wr.heap.size)
     go_wp2_with fail
     refine Zh (fun W=>W.cell? ⟨w.heap.size,0,none⟩=some (.string X.T)∧W.cell? ⟨w.heap.size,1,none⟩=some (.slice X.A X.L.length X.c)∧W.cell? ⟨U,1,none⟩=some (.string ⟨#[64]⟩)) 7 (by kernel_rfl) 8 rfl ?_
     have HSd:Hid (wr.drew.cell? ⟨w.heap.size,0,none⟩=some (.string X.T)∧wr.drew.cell? ⟨w.heap.size,1,none⟩=some (.slice X.A X.L.length X.c)∧wr.drew.cell? ⟨U,1,none⟩=some (.string ⟨#[64]⟩)):=Lh (KS.out _ HBD.out)
     clear u0 u1 k0 k1
     refine Qf (i:=0) (v:=?vfalse10) [2,0] rfl (by kernel_rfl) (fun _ _ _ h=>h) (Or.inl ⟨by rfl,?hfalse10⟩) HSd.out ?rfalse10
     case hfalse10=>(intro w hSw;(try dsimp only at hSw);go_simp;first | done | with_reducible rfl)
     simp only [Act.put,sA,sB,sC]
     refine Qf (i:=1) (v:=?vfalse11) [2,1] rfl (by kernel_rfl) (fun _ _ _ h=>h) (Or.inl ⟨by rfl,?hfalse11⟩) HSd.out ?rfalse11
     case hfalse11=>(intro w hSw;(try dsimp only at hSw);go_simp;first | done | with_reducible rfl)
     simp only [Act.put,sA,sB,sC]
     refine Qf (i:=3) (v:=?vfalse13) [6,5,3] rfl (by kernel_rfl) (fun _ _ _ h=>h) (Or.inl ⟨by rfl,?hfalse13⟩) HSd.out ?rfalse13
     case hfalse13=>(intro w hSw;(try dsimp only at hSw);go_simp;first | done | with_reducible rfl)
     simp only [Act.put,sA,sB,sC]
     refine Qf (i:=4) (v:=?vfalse14) [6,5,4] rfl (by kernel_rfl) (fun _ _ _ h=>h) (Or.inl ⟨by rfl,?hfalse14⟩) HSd.out ?rfalse14
     case hfalse14=>(intro w hSw;(try dsimp only at hSw);go_simp;first | done | with_reducible rfl)
     simp only [Act.put,sA,sB,sC]
     refine Qf (i:=5) (v:=?vfalse15) [6,5] rfl (by kernel_rfl) (fun _ _ _ h=>h) (Or.inl ⟨by rfl,?hfalse15⟩) HSd.out ?rfalse15
     case hfalse15=>(intro w hSw;(try dsimp only at hSw);go_simp;first | done | with_reducible rfl)
     simp only [Act.put,sA,sB,sC]
     refine Qf (i:=6) (v:=?vfalse16) [6] rfl (by kernel_rfl) (fun _ _ _ h=>h) (Or.inl ⟨by rfl,?hfalse16⟩) HSd.out ?rfalse16
     case hfalse16=>(intro w hSw;(try dsimp only at hSw);go_simp;first | done | with_reducible rfl)
     simp only [Act.put,sA,sB,sC]
     refine Qt (i:=2) (fuel:=1) (by kernel_rfl) rfl (fun KK hKK=>?_)
     go_simp
     refine (HAT.out _ (J.out.be.trans (HBD.out.mono J.out.be.size))).mono ?_
     rintro e w4 ⟨rfl,b4⟩
     have hb4:=HBD.out.trans b4
     refine hKK.out _ _ (fun _=>KS.out _ hb4) (fun _=>?_)
     have J4:=Lh (J.out.below hb4)
     have V4:=Lh (show w4.cell? ⟨U,0,none⟩=some (.string ⟨#[44]⟩)∧w4.cell? ⟨U,1,none⟩=some (.string ⟨#[64]⟩) from ⟨(hb4.cell (p:=⟨U,0,none⟩) hUr).trans U0.out,(hb4.cell (p:=⟨U,1,none⟩) hUr).trans U1.out⟩)
     have W4:=Lh (Nat.lt_of_lt_of_le hUr hb4.size)
     clear hKK KK b4 hb4
     try simp only [Act.put,sA,sB,sC]
     refine Qt (i:=7) (fuel:=0) (by kernel_rfl) rfl (fun KK hKK=>?_)
     go_simp
     refine hKK.out _ _ (fun h=>absurd rfl h) (fun _=>?_)
     clear hKK KK
     try simp only [Act.put,sA,sB,sC]
     refine Ze (by kernel_rfl) ?_
     go_wp2_with (first
      | (refine Qe rfl (.tmp 6) (.tmp 51) rfl (w.heap.size+1) rfl J4.out.ga (e:=Ex.nul) (lv:=.slice none 0 0) (p:=(g.p:Int)+1) (r:=11) rfl rfl ?_;intro wz hgz hsz;have HGZ:=Lh hsz;have HBZ:=Lh (Qu J4.out.be hgz (by omega) J4.out.be.size);clear hgz hsz)
      | fail)
     rw [show opG X.R p g=bad (g.p+1) 11 by unfold opG;rw [if_pos e1,if_neg (show ¬ X.R.is (g.p+1) [64]=true by rw [hq];decide)]]
     exact Jo (i:=6) (by kernel_rfl) rfl rfl HGZ.out ⟨.slice none 0 0,rfl,.nil,HBZ.out⟩
    | true =>
     have hq':((X.R.wd (g.p+1)).toList==[64])=true:=hq
     have HAT:Hid (∀ W,Below w.heap.size w W→CP 51 #[X.val,.int .i64 ((g.p:Int)+1)] W fun e w'=>e=.returned (.string (X.R.wd (g.p+1)))∧Below W.heap.size W w'):=Lh fun W hW=>Qg X (g.p+1) W ((HI.out.up hW nLe).more hW.size) (by omega)
     obtain ⟨s,hs⟩:∃ s,X.R.wd (g.p+1)=s:=⟨_,rfl⟩
     rw [hs] at HAT hq'
     clear hs
     have KS:Hid (∀ W,Below wr.heap.size wr W→W.cell? ⟨w.heap.size,0,none⟩=some (.string X.T)∧W.cell? ⟨w.heap.size,1,none⟩=some (.slice X.A X.L.length X.c)∧W.cell? ⟨U,1,none⟩=some (.string ⟨#[64]⟩)):=Lh fun W hW=>by
      have hJ:=J.out.below hW
      exact ⟨hJ.c0,hJ.c1,(hW.cell (p:=⟨U,1,none⟩) hUr).trans U1.out⟩
     have HBD:=Lh (Qi wr wr.heap.size)
     go_wp2_with fail
     refine Zh (fun W=>W.cell? ⟨w.heap.size,0,none⟩=some (.string X.T)∧W.cell? ⟨w.heap.size,1,none⟩=some (.slice X.A X.L.length X.c)∧W.cell? ⟨U,1,none⟩=some (.string ⟨#[64]⟩)) 7 (by kernel_rfl) 8 rfl ?_
     have HSd:Hid (wr.drew.cell? ⟨w.heap.size,0,none⟩=some (.string X.T)∧wr.drew.cell? ⟨w.heap.size,1,none⟩=some (.slice X.A X.L.length X.c)∧wr.drew.cell? ⟨U,1,none⟩=some (.string ⟨#[64]⟩)):=Lh (KS.out _ HBD.out)
     clear u0 u1 k0 k1
     refine Qf (i:=0) (v:=?vtrue10) [2,0] rfl (by kernel_rfl) (fun _ _ _ h=>h) (Or.inl ⟨by rfl,?htrue10⟩) HSd.out ?rtrue10
     case htrue10=>(intro w hSw;(try dsimp only at hSw);go_simp;first | done | with_reducible rfl)
     simp only [Act.put,sA,sB,sC]
     refine Qf (i:=1) (v:=?vtrue11) [2,1] rfl (by kernel_rfl) (fun _ _ _ h=>h) (Or.inl ⟨by rfl,?htrue11⟩) HSd.out ?rtrue11
     case htrue11=>(intro w hSw;(try dsimp only at hSw);go_simp;first | done | with_reducible rfl)
     simp only [Act.put,sA,sB,sC]
     refine Qf (i:=3) (v:=?vtrue13) [6,5,3] rfl (by kernel_rfl) (fun _ _ _ h=>h) (Or.inl ⟨by rfl,?htrue13⟩) HSd.out ?rtrue13
     case htrue13=>(intro w hSw;(try dsimp only at hSw);go_simp;first | done | with_reducible rfl)
     simp only [Act.put,sA,sB,sC]
     refine Qf (i:=4) (v:=?vtrue14) [6,5,4] rfl (by kernel_rfl) (fun _ _ _ h=>h) (Or.inl ⟨by rfl,?htrue14⟩) HSd.out ?rtrue14
     case htrue14=>(intro w hSw;(try dsimp only at hSw);go_simp;first | done | with_reducible rfl)
     simp only [Act.put,sA,sB,sC]
     refine Qf (i:=5) (v:=?vtrue15) [6,5] rfl (by kernel_rfl) (fun _ _ _ h=>h) (Or.inl ⟨by rfl,?htrue15⟩) HSd.out ?rtrue15
     case htrue15=>(intro w hSw;(try dsimp only at hSw);go_simp;first | done | with_reducible rfl)
     simp only [Act.put,sA,sB,sC]
     refine Qf (i:=6) (v:=?vtrue16) [6] rfl (by kernel_rfl) (fun _ _ _ h=>h) (Or.inl ⟨by rfl,?htrue16⟩) HSd.out ?rtrue16
     case htrue16=>(intro w hSw;(try dsimp only at hSw);go_simp;first | done | with_reducible rfl)
     simp only [Act.put,sA,sB,sC]
     refine Qt (i:=2) (fuel:=1) (by kernel_rfl) rfl (fun KK hKK=>?_)
     go_simp
     refine (HAT.out _ (J.out.be.trans (HBD.out.mono J.out.be.size))).mono ?_
     rintro e w4 ⟨rfl,b4⟩
     have hb4:=HBD.out.trans b4
     refine hKK.out _ _ (fun _=>KS.out _ hb4) (fun _=>?_)
     have J4:=Lh (J.out.below hb4)
     have V4:=Lh (show w4.cell? ⟨U,0,none⟩=some (.string ⟨#[44]⟩)∧w4.cell? ⟨U,1,none⟩=some (.string ⟨#[64]⟩) from ⟨(hb4.cell (p:=⟨U,0,none⟩) hUr).trans U0.out,(hb4.cell (p:=⟨U,1,none⟩) hUr).trans U1.out⟩)
     have W4:=Lh (Nat.lt_of_lt_of_le hUr hb4.size)
     clear hKK KK b4 hb4
     try simp only [Act.put,sA,sB,sC]
     refine Qt (i:=7) (fuel:=0) (by kernel_rfl) rfl (fun KK hKK=>?_)
     go_simp
     refine hKK.out _ _ (fun h=>absurd rfl h) (fun _=>?_)
     clear hKK KK
     try simp only [Act.put,sA,sB,sC]
     refine Ze (by kernel_rfl) ?_
     go_wp2_with fail
     go_roundw
     case rel=>exact ⟨.inr (.inr ⟨by go_num,rfl,e1,by first | exact hq | trivial⟩),J4.out,V4.out.1,V4.out.2,W4.out⟩
     case measure=>simp [intOf]
   ·have hl2:g.p+1<X.L.length:=(Qo X.T X.L).is_lt e2
    have HA2:Hid (∀ W,Below w.heap.size w W→CP 51 #[X.val,.int .i64 ((g.p:Int)+2)] W fun e w'=>e=.returned (.string (X.R.wd (g.p+2)))∧Below W.heap.size W w'):=Lh fun W hW=>Qg X (g.p+2) W ((HI.out.up hW nLe).more hW.size) (by omega)
    have HA3:Hid (∀ W,Below w.heap.size w W→CP 51 #[X.val,.int .i64 ((g.p:Int)+2+1)] W fun e w'=>e=.returned (.string (X.R.wd (g.p+3)))∧Below W.heap.size W w'):=Lh fun W hW=>Qg X (g.p+3) W ((HI.out.up hW nLe).more hW.size) (by omega)
    have HIDN:Hid (∀ W,CP 45 #[.string (X.R.wd (g.p+2))] W fun e w'=>e=.returned (.bool (X.R.idn (g.p+2)))∧Below W.heap.size W w'):=Lh fun W=>Q1 _ W (HM.out _)
    clear u0 u1 U0 U1
    cases hid:X.R.idn (g.p+2) with
    | false =>
     rw [hid] at HIDN
     go_wp2_with (first
      | (go_at_call 51;with_reducible refine (HA2.out _ J.out.be).mono ?_;rintro e wx ⟨rfl,bx⟩;have JX:=Lh (J.out.below bx);have k0:=JX.out.c0;have k1:=JX.out.c1;clear bx;dsimp only)
      | (go_at_call 45;refine (HIDN.out _).mono ?_;rintro e wi ⟨rfl,bi⟩;have JI:=Lh (JX.out.below bi);have k0:=JI.out.c0;have k1:=JI.out.c1;clear bi;dsimp only)
      | (refine Qe rfl (.tmp 6) (.tmp 61) rfl (w.heap.size+1) rfl JI.out.ga (e:=Ex.nul) (lv:=.slice none 0 0) (p:=(g.p:Int)+2) (r:=11) rfl rfl ?_;intro wz hgz hsz;have HGZ:=Lh hsz;have HBZ:=Lh (Qu JI.out.be hgz (by omega) JI.out.be.size);clear hgz hsz)
      | fail)
     rw [show opG X.R p g=bad (g.p+2) 11 by unfold opG;rw [if_pos e1,if_pos e2,if_neg (show ¬ X.R.idn (g.p+2)=true by rw [hid];decide)]]
     exact Jo (i:=6) (by kernel_rfl) rfl rfl HGZ.out ⟨.slice none 0 0,rfl,.nil,HBZ.out⟩
    | true =>
     rw [hid] at HIDN
     have hl3:g.p+2<X.L.length:=(Qo X.T X.L).id_lt hid
     cases hcl:X.R.is (g.p+3) [41] with
     | false =>
      have hcl':((X.R.wd (g.p+3)).toList==[41])=false:=hcl
      obtain ⟨s3,hs3⟩:∃ s,X.R.wd (g.p+3)=s:=⟨_,rfl⟩
      rw [hs3] at HA3 hcl'
      clear hs3
      go_wp2_with (first
       | (go_at_call 51;with_reducible refine (HA2.out _ J.out.be).mono ?_;rintro e wx ⟨rfl,bx⟩;have JX:=Lh (J.out.below bx);have k0:=JX.out.c0;have k1:=JX.out.c1;clear bx;dsimp only)
       | (go_at_call 45;refine (HIDN.out _).mono ?_;rintro e wi ⟨rfl,bi⟩;have JI:=Lh (JX.out.below bi);have k0:=JI.out.c0;have k1:=JI.out.c1;clear bi;dsimp only)
       | (go_at_call 51;with_reducible refine (HA3.out _ JI.out.be).mono ?_;rintro e wy ⟨rfl,by'⟩;have J5:=Lh (JI.out.below by');clear by';dsimp only)
       | (refine Qe rfl (.tmp 6) (.tmp 69) rfl (w.heap.size+1) rfl J5.out.ga (e:=Ex.nul) (lv:=.slice none 0 0) (p:=(g.p:Int)+2+1) (r:=11) rfl rfl ?_;intro wz hgz hsz;have HGZ:=Lh hsz;have HBZ:=Lh (Qu J5.out.be hgz (by omega) J5.out.be.size);clear hgz hsz)
       | fail)
      rw [show opG X.R p g=bad (g.p+3) 11 by unfold opG;rw [if_pos e1,if_pos e2,if_pos hid,if_neg (show ¬ X.R.is (g.p+3) [41]=true by rw [hcl];decide)]]
      exact Jo (i:=6) (by kernel_rfl) rfl rfl HGZ.out ⟨.slice none 0 0,rfl,.nil,HBZ.out⟩
     | true =>
      have hcl':((X.R.wd (g.p+3)).toList==[41])=true:=hcl
      obtain ⟨s3,hs3⟩:∃ s,X.R.wd (g.p+3)=s:=⟨_,rfl⟩
      rw [hs3] at HA3 hcl'
      clear hs3
      have HP2:Hid (∀ W,Below w.heap.size w W→CP 38 #[X.val,.int .i64 (p:Int)] W fun e w'=>e=.returned (.int .i64 (X.R.ps p))∧Below W.heap.size W w'):=Lh fun W hW=>Qz X p W ((HI.out.up hW nLe).more hW.size) (by omega)
      have HOG:Hid (opG X.R p g=hld (Qaf (X.R.ps p) (X.R.wd (g.p+2)) g.e) (g.p+4) p):=Lh (by unfold opG;rw [if_pos e1,if_pos e2,if_pos hid,if_pos hcl])
      obtain ⟨sl,hsl⟩:∃ sl,X.R.wd (g.p+2)=sl:=⟨_,rfl⟩
      rw [hsl] at HA2 HIDN HOG
      have hfine:=HFI.out hr
      have HWF:Hid ((Qaf (X.R.ps p) sl g.e).wfx):=Lh (Qiw hfine)
      have HHT:Hid ((Qaf (X.R.ps p) sl g.e).ht≤1000000):=Lh (by rw [Ex.ht_eq];show max g.e.ht 0+1≤_;have:=hfine.2;omega)
      obtain ⟨E5,a5,n5,P5,R5,hx0,he5,hx5⟩:∃ (E5:Ex) (a5:Nat→Option Addr) (n5 P5:Nat) (R5:Int),(∀ W B (S:Nat→Prop),Shx W S (.slice (some ⟨B,0,none⟩) 1 1) [g.e]→CP 82 #[.agg #[.int .i64 6,.int .i64 (X.R.ps p),.int .i64 0,.string ⟨#[]⟩,.string sl,.slice (some ⟨B,0,none⟩) 1 1],.int .i64 ((g.p:Int)+2+2),.int .i64 (p:Int)] W fun e w'=>e=.returned (gV E5 (.slice (a5 B) n5 n5) (P5:Int) R5)∧Below W.heap.size W w')∧hld (Qaf (X.R.ps p) sl g.e) (g.p+4) p=⟨E5,P5,R5⟩∧(∀ W B (S:Nat→Prop),Shx W S (.slice (some ⟨B,0,none⟩) 1 1) [g.e]→Shx W S (.slice (a5 B) n5 n5) E5.l):=by
       by_cases hh32:32<(Qaf (X.R.ps p) sl g.e).ht
       ·exact ⟨Ex.nul,fun _=>none,0,p,12,fun W B S h=>Kx (Qaf (X.R.ps p) sl g.e) _ (g.p+4) p W S HWF.out HHT.out h hh32,by unfold hld;rw [if_pos hh32];rfl,fun W B S h=>.nil⟩
       ·exact ⟨Qaf (X.R.ps p) sl g.e,fun B=>some ⟨B,0,none⟩,1,g.p+4,0,fun W B S h=>Ky (Qaf (X.R.ps p) sl g.e) _ (g.p+4) p W S HWF.out HHT.out h hh32,by unfold hld;rw [if_neg hh32];rfl,fun W B S h=>h⟩
      rw [he5] at HOG
      have HX0:=Lh hx0
      have HX5:=Lh hx5
      clear hx0 hx5 he5 HWF HHT hfine hsl
      go_wp2_with (first
       | (go_at_call 51;with_reducible refine (HA2.out _ J.out.be).mono ?_;rintro e wx ⟨rfl,bx⟩;have JX:=Lh (J.out.below bx);have k0:=JX.out.c0;have k1:=JX.out.c1;clear bx;dsimp only)
       | (go_at_call 45;refine (HIDN.out _).mono ?_;rintro e wi ⟨rfl,bi⟩;have JI:=Lh (JX.out.below bi);have k0:=JI.out.c0;have k1:=JI.out.c1;clear bi;dsimp only)
       | (go_at_call 51;with_reducible refine (HA3.out _ JI.out.be).mono ?_;rintro e wy ⟨rfl,by'⟩;have J5:=Lh (JI.out.below by');clear by';dsimp only)
       | fail)
      clear k0 k1
      have J:=Lh J5.out
      have KS:Hid (∀ W,Below wy.heap.size wy W→W.cell? ⟨w.heap.size,0,none⟩=some (.string X.T)∧W.cell? ⟨w.heap.size,1,none⟩=some (.slice X.A X.L.length X.c)∧W.cell? ⟨K,0,none⟩=some (.int .i64 g.e.k)∧W.cell? ⟨K,1,none⟩=some (.int .i64 g.e.a)∧W.cell? ⟨K,2,none⟩=some (.int .i64 g.e.m)∧W.cell? ⟨K,3,none⟩=some (.string g.e.nm)∧W.cell? ⟨K,4,none⟩=some (.string g.e.lb)∧W.cell? ⟨K,5,none⟩=some (.slice A2 g.e.l.length c2)):=Lh fun W hW=>by
       have hJ:=J.out.below hW
       obtain ⟨a0,a1,a2,a3,a4,a5,a6,a7⟩:=hJ.gk.six
       exact ⟨hJ.c0,hJ.c1,a0,a1,a2,a3,a4,a5⟩
      have HBD:=Lh (Qi wy wy.heap.size)
      have HSd:Hid ((wy.drew.cell? ⟨w.heap.size,0,none⟩=some (.string X.T)∧wy.drew.cell? ⟨w.heap.size,1,none⟩=some (.slice X.A X.L.length X.c)∧wy.drew.cell? ⟨K,0,none⟩=some (.int .i64 g.e.k)∧wy.drew.cell? ⟨K,1,none⟩=some (.int .i64 g.e.a)∧wy.drew.cell? ⟨K,2,none⟩=some (.int .i64 g.e.m)∧wy.drew.cell? ⟨K,3,none⟩=some (.string g.e.nm)∧wy.drew.cell? ⟨K,4,none⟩=some (.string g.e.lb)∧wy.drew.cell? ⟨K,5,none⟩=some (.slice A2 g.e.l.length c2))):=Lh (KS.out _ HBD.out)
      have hwrap:IntKind.i64.wrap ((g.p:Int)+2+2)=(g.p:Int)+2+2:=IntWalk.i64_in _ (by omega)
      have hwy:=J.out.be.size
      have hwyg:=J.out.ga.lt
      have hwyk:=J.out.gk.lt
      refine Zh (fun W=>W.cell? ⟨w.heap.size,0,none⟩=some (.string X.T)∧W.cell? ⟨w.heap.size,1,none⟩=some (.slice X.A X.L.length X.c)∧W.cell? ⟨K,0,none⟩=some (.int .i64 g.e.k)∧W.cell? ⟨K,1,none⟩=some (.int .i64 g.e.a)∧W.cell? ⟨K,2,none⟩=some (.int .i64 g.e.m)∧W.cell? ⟨K,3,none⟩=some (.string g.e.nm)∧W.cell? ⟨K,4,none⟩=some (.string g.e.lb)∧W.cell? ⟨K,5,none⟩=some (.slice A2 g.e.l.length c2)) 12 (by kernel_rfl) 13 rfl ?_
      refine Qf (i:=0) (v:=?v0) [11,7,2,0] rfl (by kernel_rfl) (fun _ _ _ h=>h) (Or.inl ⟨by rfl,?h0⟩) HSd.out ?r0
      case h0=>(intro w hSw;(try dsimp only at hSw);go_simp;first | done | with_reducible rfl)
      simp only [Act.put,sA,sB,sC]
      refine Qf (i:=1) (v:=?v1) [11,7,2,1] rfl (by kernel_rfl) (fun _ _ _ h=>h) (Or.inl ⟨by rfl,?h1⟩) HSd.out ?r1
      case h1=>(intro w hSw;(try dsimp only at hSw);go_simp;first | done | with_reducible rfl)
      simp only [Act.put,sA,sB,sC]
      refine Qf (i:=3) (v:=?v3) [11,7,3] rfl (by kernel_rfl) (fun _ _ _ h=>h) (Or.inl ⟨by rfl,?h3⟩) HSd.out ?r3
      case h3=>(intro w hSw;(try dsimp only at hSw);go_simp;first | done | with_reducible rfl)
      simp only [Act.put,sA,sB,sC]
      refine Qf (i:=4) (v:=?v4) [11,7,6,5,4] rfl (by kernel_rfl) (fun _ _ _ h=>h) (Or.inl ⟨by rfl,?h4⟩) HSd.out ?r4
      case h4=>(intro w hSw;(try dsimp only at hSw);go_simp;first | done | with_reducible rfl)
      simp only [Act.put,sA,sB,sC]
      refine Qf (i:=5) (v:=?v5) [11,7,6,5] rfl (by kernel_rfl) (fun _ _ _ h=>h) (Or.inl ⟨by rfl,?h5⟩) HSd.out ?r5
      case h5=>(intro w hSw;(try dsimp only at hSw);go_simp;first | done | with_reducible rfl)
      simp only [Act.put,sA,sB,sC]
      refine Qf (i:=8) (v:=?v8) [11,9,8] rfl (by kernel_rfl) (fun _ _ _ h=>h) (Or.inl ⟨by rfl,?h8⟩) HSd.out ?r8
      case h8=>(intro w hSw;(try dsimp only at hSw);go_simp;first | done | with_reducible rfl)
      simp only [Act.put,sA,sB,sC]
      refine Qf (i:=9) (v:=?v9) [11,9] rfl (by kernel_rfl) (fun _ _ _ h=>h) (Or.inl ⟨by rfl,?h9⟩) HSd.out ?r9
      case h9=>(intro w hSw;(try dsimp only at hSw);go_simp;first | done | with_reducible rfl)
      simp only [Act.put,sA,sB,sC]
      refine Qf (i:=10) (v:=?v10) [11,10] rfl (by kernel_rfl) (fun _ _ _ h=>h) (Or.inl ⟨by rfl,?h10⟩) HSd.out ?r10
      case h10=>(intro w hSw;(try dsimp only at hSw);go_simp;first | done | with_reducible rfl)
      simp only [Act.put,sA,sB,sC]
      refine Qdj (i:=2) (j:=6) (fuel:=4) (by kernel_rfl) rfl rfl (fun KK hKK=>?_) (fun KK hKK=>?_)
      ·go_simp
       refine (HP2.out _ (J.out.be.trans (HBD.out.mono J.out.be.size))).mono ?_
       rintro e w7 ⟨rfl,b7⟩
       have hb7:=HBD.out.trans b7
       refine hKK.out _ _ (fun _=>KS.out _ hb7) (fun _=>?_)
       have HB7:=Lh hb7
       have T7:=Lh ((J.out.sh.under hb7 (by intro b _ h;exact h)))
       have hs7:=hb7.size
       clear hKK KK b7 hb7
       try simp only [Act.put,sA,sB,sC]
       refine Qt (i:=6) (fuel:=3) (by kernel_rfl) rfl (fun KK hKK=>?_)
       go_simp
       have hb8:Below wy.heap.size wy (w7.alloc (.cells #[.int .i64 g.e.k,.int .i64 g.e.a,.int .i64 g.e.m,.string g.e.nm,.string g.e.lb,.slice A2 g.e.l.length c2] 81)):=HB7.out.alloc hs7 _
       refine hKK.out _ _ (fun _=>KS.out _ hb8) (fun _=>?_)
       have T8:=Lh (show Shx (w7.alloc (.cells #[.int .i64 g.e.k,.int .i64 g.e.a,.int .i64 g.e.m,.string g.e.nm,.string g.e.lb,.slice A2 g.e.l.length c2] 81)) (fun b=>w.heap.size+2≤b∧b≠K) (.slice (some ⟨w7.heap.size,0,none⟩) 1 1) [g.e] from Shx.lit (w:=w7) (S:=(fun b=>w.heap.size+2≤b∧b≠K)) [(g.e,(.slice A2 g.e.l.length c2))] (by simp) (by intro y hy;rw [List.mem_singleton.1 hy];exact T7.out) (by show w.heap.size+2≤w7.heap.size∧w7.heap.size≠K;omega) rfl)
       have HB8:=Lh hb8
       obtain ⟨w8,hw8⟩:∃ w8,(w7.alloc (.cells #[.int .i64 g.e.k,.int .i64 g.e.a,.int .i64 g.e.m,.string g.e.nm,.string g.e.lb,.slice A2 g.e.l.length c2] 81))=w8:=⟨_,rfl⟩
       obtain ⟨B,hB⟩:∃ B,w7.heap.size=B:=⟨_,rfl⟩
       rw [hw8] at T8 HB8 ⊢
       rw [hB] at T8 ⊢
       clear hKK KK hb8 hw8 hB T7 HB7 hs7
       try simp only [Act.put,sA,sB,sC]
       refine Qt (i:=7) (fuel:=2) (by kernel_rfl) rfl (fun KK hKK=>?_)
       go_simp
       refine hKK.out _ _ (fun _=>KS.out _ HB8.out) (fun _=>?_)
       clear hKK KK
       try simp only [Act.put,sA,sB,sC]
       refine Qt (i:=11) (fuel:=1) (by kernel_rfl) rfl (fun KK hKK=>?_)
       go_simp
       with_reducible refine (HX0.out _ _ _ T8.out).mono ?_
       rintro e w9 ⟨rfl,b9⟩
       have hb9:=bTr HB8 b9
       refine hKK.out _ _ (fun _=>KS.out _ hb9) (fun _=>?_)
       have J9:=Lh (J.out.below hb9)
       have T9:=Lh (T8.out.under b9 (by intro b _ h;exact h))
       obtain ⟨z0,z1,z2,z3,z4,z5,z6,z7⟩:=J9.out.ga.six
       have f0:=J9.out.ga.fz 0 (by omega)
       have f1:=J9.out.ga.fz 1 (by omega)
       have f2:=J9.out.ga.fz 2 (by omega)
       have f3:=J9.out.ga.fz 3 (by omega)
       have f4:=J9.out.ga.fz 4 (by omega)
       have f5:=J9.out.ga.fz 5 (by omega)
       have f6:=J9.out.ga.fz 6 (by omega)
       have f7:=J9.out.ga.fz 7 (by omega)
       clear hKK KK b9 hb9
       try simp only [Act.put,sA,sB,sC]
       refine Qt (i:=12) (fuel:=0) (by kernel_rfl) rfl (fun KK hKK=>?_)
       go_simp
       refine hKK.out _ _ (fun h=>absurd rfl h) (fun _=>?_)
       clear hKK KK
       try simp only [Act.put,sA,sB,sC]
       refine Ze (by kernel_rfl) ?_
       have HG9:=Gar.set8 (e:=E5) (lv:=.slice (a5 B) n5 n5) (p:=(P5:Int)) (r:=R5) J9.out.ga
       have HG9a:=Lh HG9.1
       have HG9b:=Lh HG9.2
       clear HG9 z0 z1 z2 z3 z4 z5 z6 z7 f0 f1 f2 f3 f4 f5 f6 f7
       go_wp2
       rw [HOG.out]
       refine Jo (i:=6) (by kernel_rfl) rfl rfl HG9a.out ⟨_,rfl,?_,Qu J9.out.be HG9b.out (by omega) J9.out.be.size⟩
       exact (HX5.out _ _ _ (T9.out.grown HG9b.out (by intro b hb _ e;injection e with e;omega))).weak fun b hb _=>by show w.heap.size≤b;omega
      ·go_simp
       have hb7:Below wy.heap.size wy (wy.alloc (.cells #[.int .i64 g.e.k,.int .i64 g.e.a,.int .i64 g.e.m,.string g.e.nm,.string g.e.lb,.slice A2 g.e.l.length c2] 81)).drew:=((Below.refl wy.heap.size wy).alloc nLe _).trans (Qi _ _)
       refine hKK.out _ _ (fun _=>KS.out _ hb7) (fun _=>?_)
       have T7:=Lh ((show Shx (wy.alloc (.cells #[.int .i64 g.e.k,.int .i64 g.e.a,.int .i64 g.e.m,.string g.e.nm,.string g.e.lb,.slice A2 g.e.l.length c2] 81)) (fun b=>w.heap.size+2≤b∧b≠K) (.slice (some ⟨wy.heap.size,0,none⟩) 1 1) [g.e] from Shx.lit (w:=wy) (S:=(fun b=>w.heap.size+2≤b∧b≠K)) [(g.e,(.slice A2 g.e.l.length c2))] (by simp) (by intro y hy;rw [List.mem_singleton.1 hy];exact J.out.sh) (by show w.heap.size+2≤wy.heap.size∧wy.heap.size≠K;omega) rfl).under (Qi _ (wy.heap.size+1)) (by intro b _ h;simpa using h))
       have HB7:=Lh hb7
       obtain ⟨w7,hw7⟩:∃ w7,(wy.alloc (.cells #[.int .i64 g.e.k,.int .i64 g.e.a,.int .i64 g.e.m,.string g.e.nm,.string g.e.lb,.slice A2 g.e.l.length c2] 81)).drew=w7:=⟨_,rfl⟩
       obtain ⟨B,hB⟩:∃ B,wy.heap.size=B:=⟨_,rfl⟩
       rw [hw7] at T7 HB7 ⊢
       rw [hB] at T7 ⊢
       clear hKK KK hb7 hw7 hB
       try simp only [Act.put,sA,sB,sC]
       refine Qt (i:=2) (fuel:=3) (by kernel_rfl) rfl (fun KK hKK=>?_)
       go_simp
       refine (HP2.out _ (J.out.be.trans (HB7.out.mono J.out.be.size))).mono ?_
       rintro e w8 ⟨rfl,b8⟩
       have hb8:=bTr HB7 b8
       refine hKK.out _ _ (fun _=>KS.out _ hb8) (fun _=>?_)
       have HB8:=Lh hb8
       have T8:=Lh (T7.out.under b8 (by intro b _ h;exact h))
       clear hKK KK b8 hb8
       try simp only [Act.put,sA,sB,sC]
       refine Qt (i:=7) (fuel:=2) (by kernel_rfl) rfl (fun KK hKK=>?_)
       go_simp
       refine hKK.out _ _ (fun _=>KS.out _ HB8.out) (fun _=>?_)
       clear hKK KK
       try simp only [Act.put,sA,sB,sC]
       refine Qt (i:=11) (fuel:=1) (by kernel_rfl) rfl (fun KK hKK=>?_)
       go_simp
       with_reducible refine (HX0.out _ _ _ T8.out).mono ?_
       rintro e w9 ⟨rfl,b9⟩
       have hb9:=bTr HB8 b9
       refine hKK.out _ _ (fun _=>KS.out _ hb9) (fun _=>?_)
       have J9:=Lh (J.out.below hb9)
       have T9:=Lh (T8.out.under b9 (by intro b _ h;exact h))
       obtain ⟨z0,z1,z2,z3,z4,z5,z6,z7⟩:=J9.out.ga.six
       have f0:=J9.out.ga.fz 0 (by omega)
       have f1:=J9.out.ga.fz 1 (by omega)
       have f2:=J9.out.ga.fz 2 (by omega)
       have f3:=J9.out.ga.fz 3 (by omega)
       have f4:=J9.out.ga.fz 4 (by omega)
       have f5:=J9.out.ga.fz 5 (by omega)
       have f6:=J9.out.ga.fz 6 (by omega)
       have f7:=J9.out.ga.fz 7 (by omega)
       clear hKK KK b9 hb9
       try simp only [Act.put,sA,sB,sC]
       refine Qt (i:=12) (fuel:=0) (by kernel_rfl) rfl (fun KK hKK=>?_)
       go_simp
       refine hKK.out _ _ (fun h=>absurd rfl h) (fun _=>?_)
       clear hKK KK
       try simp only [Act.put,sA,sB,sC]
       refine Ze (by kernel_rfl) ?_
       have HG9:=Gar.set8 (e:=E5) (lv:=.slice (a5 B) n5 n5) (p:=(P5:Int)) (r:=R5) J9.out.ga
       have HG9a:=Lh HG9.1
       have HG9b:=Lh HG9.2
       clear HG9 z0 z1 z2 z3 z4 z5 z6 z7 f0 f1 f2 f3 f4 f5 f6 f7
       go_wp2
       rw [HOG.out]
       refine Jo (i:=6) (by kernel_rfl) rfl rfl HG9a.out ⟨_,rfl,?_,Qu J9.out.be HG9b.out (by omega) J9.out.be.size⟩
       exact (HX5.out _ _ _ (T9.out.grown HG9b.out (by intro b hb _ e;injection e with e;omega))).weak fun b hb _=>by show w.heap.size≤b;omega
 ·rw [if_neg hr]
  have hr2':(g.r==0)=false:=by simp [hr]
  have hr2'':decide (g.r=0)=false:=by simp [hr]
  go_wp2_with (first
   | (go_at_call 51;rw [HW1.out];refine (HA.out _ H2.out.be).mono ?_;rintro e w2 ⟨rfl,b2⟩;have HB2:=Lh (H2.out.be.trans (b2.mono H2.out.be.size));have HD2:=Lh b2;have HG2:=Lh (H2.out.ga.below b2 (by omega));have HR2:=Lh (H2.out.row b2 (by omega));obtain ⟨q0,q1⟩:=HR2.out;have hs2:=b2.size;clear b2;dsimp only)
   | (go_at_call 70;refine (HEX.out _ HB2.out).mono ?_;rintro e w3 ⟨lv,rfl,hx3,b3⟩;obtain ⟨A2,c2,rfl,_⟩:=hx3.len;have hone:=hx3.one;have HX3:=Lh hx3;have HD3:=Lh ((Below.refl W1.heap.size W1).trans ((HD2.out).trans (b3.mono HD2.out.size)));clear b3 hx3;dsimp only)
   | (refine Qe rfl (.tmp 7) (.tmp 30) rfl w3.heap.size rfl (Q3 w3) (e:=g.e) (lv:=(.slice A2 g.e.l.length c2)) (p:=(g.p:Int)) (r:=g.r) rfl hone ?_;intro w4 hg4 hs4;have J4:=Lh (H2.out.lev HD3.out (HX3.out.weak fun b hb _=>by have:=HD2.out.size;have hb:w2.heap.size≤b:=hb;show W1.heap.size≤b;omega) hs4 hg4);have m6:=hs4.six.2.2.2.2.2.2.1;have m7:=hs4.six.2.2.2.2.2.2.2;clear hg4 hs4)
   | (refine Js rfl (.tmp 7) rfl w3.heap.size rfl J4.out.gk ?_)
   | (refine Qe rfl (.tmp 6) (.tmp 34) rfl (w.heap.size+1) rfl J4.out.ga (e:=g.e) (lv:=(.slice A2 g.e.l.length c2)) (p:=(g.p:Int)) (r:=g.r) rfl hone ?_;intro wz hgz hsz;have HGZ:=Lh hsz;have HBZ:=Lh (Qu J4.out.be hgz (by omega) J4.out.be.size);clear hgz hsz)
   | fail)
  refine Jo (i:=6) (by kernel_rfl) rfl rfl HGZ.out ⟨(.slice A2 g.e.l.length c2),?_,?_,HBZ.out⟩
  ·rw [HNU.out hr];rfl
  ·rw [HNU.out hr]
   exact .emp _ _
end Go.Proofs.Ytjoclbeoafeebaa
