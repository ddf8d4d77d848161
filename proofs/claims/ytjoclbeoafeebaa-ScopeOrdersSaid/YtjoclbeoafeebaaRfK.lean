import Derived.Test.YtjoclbeoafeebaaSq
import Derived.Test.YtjoclbeoafeebaaRfN
set_option maxHeartbeats 3200000
set_option maxRecDepth 100000
namespace Go.Proofs.Ytjoclbeoafeebaa
set_option linter.unusedVariables false
set_option linter.unusedSimpArgs false
open Go.RowKit
theorem Qjf{P:Program}{C:Code}{Q:Exit→Act→World→Prop}{a:Act}{w:World}(F:Act→Nat→Act)(R:Nat→World→Prop)
  (h:C.wp P (fun e a' w'=>e=.normal∧∃ G,a'=F a G∧R G w') a w) (k:∀ G w',R G w'→Q .normal (F a G) w'):C.wp P Q a w:=
 Code.wp_mono (fun e a' w' h=>by
  obtain ⟨rfl,G,rfl,hR⟩:=h
  exact k G w' hR) h
theorem fpr_no{R:Rw}{q:Nat}(h:R.idn q=true)(h2:R.is (q+1) [60]=false):fpr R (q,0)=(⟨R.wd q,⟨#[]⟩,R.ps q⟩,(q+1,0)):=by
 unfold fpr
 rw [Ya h]
 dsimp only
 rw [Qki,if_neg (by rw [h2];decide)]
theorem fpr_1{R:Rw}{q:Nat}(h:R.idn q=false):(fpr R (q,0)).2=(q,11):=by
 unfold fpr
 rw [Qdz h]
 dsimp only
 rw [tkW1 R q (by decide),if_neg (by decide)]
theorem fpr_2{R:Rw}{q:Nat}(h:R.idn q=true)(h2:R.is (q+1) [60]=true)(h3:R.idn (q+1+1)=false):(fpr R (q,0)).2=(q+1+1,11):=by
 unfold fpr
 rw [Ya h]
 dsimp only
 rw [Qki,if_pos h2]
 show (fnm R (q+1+1,0)).2=_
 rw [Qdz h3]
theorem fpr_yes{R:Rw}{q:Nat}(h:R.idn q=true)(h2:R.is (q+1) [60]=true)(h3:R.idn (q+1+1)=true):fpr R (q,0)=(⟨R.wd q,R.wd (q+1+1),R.ps q⟩,(q+1+2,0)):=by
 unfold fpr
 rw [Ya h]
 dsimp only
 rw [Qki,if_pos h2]
 show ((⟨R.wd q,(fnm R (q+1+1,0)).1.nm,R.ps q⟩:PrT),(fnm R (q+1+1,0)).2)=_
 rw [Ya h3]
theorem onP_1{R:Rw}{s:List PrT}{q:Nat}(h:R.idn q=false):(onP R s (q,0)).2=(q,11):=fpr_1 h
theorem Qgp(X:Ry)(hm:∀ i,(X.R.wd i).size≤1000000)(f p:Nat)(m:MoT)(v:MoV)(S:Nat→Prop)(w:World)(hSw:∀ b,S b→b<w.heap.size)(hM:Zx w S m v)(hlm:m.la.length≤p)(h:X.In w w.heap.size)(hp:p≤X.L.length)(hf:X.L.length<f) :
  CP 52 #[.agg (ryC X).toArray,.agg (moC m.hl m.he v).toArray,.int .i64 (p:Int)] w (Qfj S ({ m with hl:=true,la:=(lns X.R (onP X.R) f m.la (p,0)).1 },(lns X.R (onP X.R) f m.la (p,0)).2) w):=by
 have hz:=Yp
 have hz2:=zeroPr
 have hln:=h.2.len
 have hok:=Qo X.T X.L
 have HAT:Hid (∀ q,q≤X.L.length→∀ W,Below w.heap.size w W→CP 51 #[.agg (ryC X).toArray,.int .i64 (q:Int)] W fun e w'=>e=.returned (.string (X.R.wd q))∧Below W.heap.size W w'):=Lh fun q hq W hW=>Qg X q W ((h.up hW nLe).more hW.size) (by omega)
 have HPO:Hid (∀ q,q≤X.L.length→∀ W,Below w.heap.size w W→CP 38 #[.agg (ryC X).toArray,.int .i64 (q:Int)] W fun e w'=>e=.returned (.int .i64 (X.R.ps q))∧Below W.heap.size W w'):=Lh fun q hq W hW=>Qz X q W ((h.up hW nLe).more hW.size) (by omega)
 have HNA:Hid (∀ q,q≤X.L.length→∀ W,Below w.heap.size w W→CP 55 #[.agg (ryC X).toArray,.int .i64 (q:Int)] W fun e w'=>e=.returned (.bool (X.R.idn q))∧Below W.heap.size W w'):=Lh fun q hq W hW=>Y1 X hm q W ((h.up hW nLe).more hW.size) (by omega)
 have HWD:Hid (∀ q s,q≤X.L.length→∀ W,Below w.heap.size w W→CP 56 #[.agg (ryC X).toArray,.int .i64 (q:Int),.string s] W fun e w'=>e=.returned (.int .i64 (if X.R.is q s.toList=true then 0 else 11))∧Below W.heap.size W w'):=Lh fun q s hq W hW=>K2 X q s W ((h.up hW nLe).more hW.size) (by omega)
 obtain ⟨hl,hhl⟩:∃ x,m.hl=x:=⟨_,rfl⟩
 obtain ⟨he,hhe⟩:∃ x,m.he=x:=⟨_,rfl⟩
 have HF:=Lh (Zv X w hl he v)
 have HOK:=Lh hok
 have HSS:=Lh hSw
 have HMM:=Lh hM
 have HHE:=Lh hhe
 obtain ⟨Y,hY⟩:∃ Y,lns X.R (onP X.R) f m.la (p,0)=Y:=⟨_,rfl⟩
 have HY:=Lh hY
 rw [hY,hhl,hhe]
 clear h hY hok hhl hhe hM hSw
 have HWB:=Lh (HWD.out p Uy hp)
 rw [show Uy.toList=[123] from wd1 123 []] at HWB
 show CP 52 #[.agg #[.string X.T,.slice X.A X.L.length X.c],.agg #[v.im,.bool hl,v.la,.bool he,v.ef,v.va,v.fn],.int .i64 (p:Int)] w _
 have HSET:Hid (∀ W W',F3 X w W (moC hl he v) (gtE 0 0)→Tn (fun k=>k=w.heap.size+1) W W'→Var W' (w.heap.size+1) ((moC hl he v).set 1 (.bool true))→F3 X w W' (moC true he v) (gtE 0 0)):=Lh fun W W' h1 h2 h3=>h1.set_m h2 h3
 cases c0:X.R.is p [123] with
 | false =>
  rw [c0,if_neg (by decide)] at HWB
  have HE:Hid (Y.2=(p,11)):=Lh (by rw [← HY.out];unfold lns;rw [Yb c0,Zs (show ¬ (11:Int)=0 by decide)])
  clear c0
  go_enter Try.func52,Try.ntmps52
  go_wp2_with (first
   | (refine Qr rfl 4 (.tmp 8) (.const (.bool true)) rfl (G:=w.heap.size+1) (off:=1) rfl (v:=.bool true) HF.out.vm rfl (by kernel_rfl) (by show 1<7;omega) rfl ?_;intro w3 ht hs;have HF:=Lh (HSET.out _ _ HF.out ht hs);clear ht hs)
   | (refine Qb rfl 92 (.tmp 3) rfl w.heap.size 0 rfl (ryC X) HF.out.vr.rg Try.underlying92 rfl Qd ?_)
   | (go_at_call 56;(with_reducible refine (HWB.out _ HF.out.b).mono ?_);rintro e w2 ⟨rfl,b2⟩;have HF:=Lh (HF.out.under b2);clear b2;dsimp only)
   | (refine Qa rfl 95 (.tmp 6) (.tmp 14) rfl (G:=w.heap.size+2) (off:=0) rfl (us:=gtE (p:Int) 11) HF.out.vo rfl Qc (Nat.le_refl 19) (Qn _ _) ?_;intro w90 ht hs;have HF:=Lh (HF.out.set_o (us:=gtE (p:Int) 11) ht hs);clear ht hs)
   | fail)
  exact Qj 95 rfl rfl rfl HF.out.vo Try.underlying95 rfl Qc (Jd HE.out (by decide) HF.out.b)
 | true =>
  rw [c0,if_pos rfl] at HWB
  have hpl:p<X.L.length:=HOK.out.is_lt c0
  have HY2:Hid (Qbo X.R (onP X.R) f m.la (p+1,0)=Y):=Lh (by rw [← HY.out];unfold lns;rw [Q5 c0])
  have HL0:=Lh (HMM.out.la.weak (S':=fun b=>S b∨w.heap.size+2<b) fun b hb _=>.inl hb)
  have HL:=Lh (((HL0.out.under ((Below.refl w.heap.size w).alloc nLe (.cells #[.string X.T,.slice X.A X.L.length X.c] 92))).under (bRf.alloc nLe (.cells #[v.im,.bool hl,v.la,.bool he,v.ef,v.va,v.fn] 51))).under (bRf.alloc nLe (.cells #[.slice none 0 0,.bool false,.slice none 0 0,.bool false,.slice none 0 0,.slice none 0 0,.slice none 0 0,.slice none 0 0,.string ⟨#[]⟩,.int .i64 0,.int .i64 0,.bool false,.bool false,.string ⟨#[]⟩,.int .i64 0,.int .i64 0,.slice none 0 0,.int .i64 0,.int .i64 0] 95)))
  clear c0 HY HL0
  go_enter Try.func52,Try.ntmps52
  go_wp2_with (first
   | (refine Qr rfl 4 (.tmp 8) (.const (.bool true)) rfl (G:=w.heap.size+1) (off:=1) rfl (v:=.bool true) HF.out.vm rfl (by kernel_rfl) (by show 1<7;omega) rfl ?_;intro w3 ht hs;have HL:=Lh (HL.out.turn (S':=fun b=>S b∨w.heap.size+2<b) ht fun b hb h2=>⟨hb,fun e=>by rcases hb with hb | hb;have:=HSS.out b hb;omega;omega⟩);have HF:=Lh (HSET.out _ _ HF.out ht hs);clear ht hs)
   | (refine Qb rfl 92 (.tmp 3) rfl w.heap.size 0 rfl (ryC X) HF.out.vr.rg Try.underlying92 rfl Qd ?_)
   | (go_at_call 56;(with_reducible refine (HWB.out _ HF.out.b).mono ?_);rintro e w2 ⟨rfl,b2⟩;have HL:=Lh (HL.out.under b2);have HF:=Lh (HF.out.under b2);clear b2;dsimp only)
   | fail)
  go_loopw [2] (fun a wr=>∃ (q g:Nat) (s:List PrT) (A:Option Addr) (c:Nat),a=.int .i64 (q:Int)∧q≤X.L.length∧X.L.length-q<g∧s.length≤q∧Hid (Qbo X.R (onP X.R) g s (q,0)=Y)∧Hid (ShV wr (fun b=>S b∨w.heap.size+2<b) (.slice A s.length c) s.length (prs s))∧Hid (F3 X w wr [v.im,.bool true,.slice A s.length c,.bool he,v.ef,v.va,v.fn] (gtE 0 0))) (fun a _=>X.L.length-(intOf a).toNat)
  case atStart =>
   obtain ⟨A1,c1,e1,_⟩:=HL.out
   exact ⟨p+1,f,m.la,A1,c1,rfl,hpl,by omega,by omega,HY2,Lh (by have:=HL.out;rwa [e1] at this),Lh (by have:=HF.out;unfold moC at this;rwa [e1] at this)⟩
  case round =>
   clear HL HF HY2 hlm hpl HWB
   obtain ⟨q,g,s,A,c,rfl,hq,hg,hsq,HY,HL,HF⟩:=hrel
   obtain ⟨wa,hwa⟩:∃ wa,wa=wr:=⟨_,rfl⟩
   subst hwa
   obtain ⟨g,rfl⟩:∃ g',g=g'+1:=⟨g-1,by omega⟩
   have HA0:=Lh (HAT.out q hq)
   have HNM:=Lh (HNA.out q hq)
   have HPN:=Lh (HPO.out q hq)
   obtain ⟨sg,hsg⟩:∃ x,X.R.wd q=x:=⟨_,rfl⟩
   have hC1:X.R.is q [125]=(sg.toList==[125]):=by rw [← hsg];rfl
   have HSG:=Lh hsg
   rw [hsg] at HA0
   clear hsg
   cases c1:(sg.toList==[125]) with
   | true =>
    have HE:Hid (Y=(s,(q+1,0))):=Lh (HY.out.symm.trans (Qi4 (hC1.trans c1)))
    clear hC1
    have HFIN:=Lh (fun (W:World) (hb:ShV W (fun b=>S b∨w.heap.size+2<b) (.slice A s.length c) s.length (prs s)) (hw:Below w.heap.size w W)=>(by
     have hm2:=(HMM.out.under hw).weak (S':=fun b=>S b∨w.heap.size≤b) fun b h _=>.inl h
     exact ⟨hm2.im,hb.weak fun b h _=>h.imp_right fun h=>by omega,hm2.ef,hm2.va,hm2.fn⟩:Zx W (fun b=>S b∨w.heap.size≤b) { m with hl:=true,la:=s } { v with la:=.slice A s.length c }))
    go_wp2_with (first
     | (refine Qb rfl 92 (.tmp 3) rfl w.heap.size 0 rfl (ryC X) HF.out.vr.rg Try.underlying92 rfl Qd ?_)
     | (go_at_call 51;(with_reducible refine (HA0.out _ HF.out.b).mono ?_);rintro e w2 ⟨rfl,b2⟩;have HL:=Lh (HL.out.under b2);have HF:=Lh (HF.out.under b2);clear b2;dsimp only)
     | (refine Qb rfl 51 (.tmp 4) rfl (w.heap.size+1) 0 rfl [v.im,.bool true,.slice A s.length c,.bool he,v.ef,v.va,v.fn] HF.out.vm.rg Try.underlying51 rfl Q7 ?_)
     | (refine Qa rfl 95 (.tmp 6) (.tmp 74) rfl (G:=w.heap.size+2) (off:=0) rfl (us:=gt [v.im,.bool true,.slice A s.length c,.bool he,v.ef,v.va,v.fn] Qk (vrC VrT.nul) Qk ((q:Int)+1) 0) HF.out.vo rfl Qc (Nat.le_refl 19) (Zy _ _ (Zt (m:=m) (hl:=true) (he:=he) (v:={ v with la:=.slice A s.length c }) HMM.out.im.one rfl HMM.out.ef.one HMM.out.va.one (by obtain ⟨_,_,h,_⟩:=HMM.out.fn;exact h.one)) rfl (Jj _) rfl) ?_;intro w90 ht hs;have HL:=Lh (HL.out.turn (S':=fun b=>S b∨w.heap.size+2<b) ht fun b hb h2=>⟨hb,fun e=>by rcases hb with hb | hb;have:=HSS.out b hb;omega;omega⟩);have HF:=Lh (HF.out.set_o (us:=gt [v.im,.bool true,.slice A s.length c,.bool he,v.ef,v.va,v.fn] Qk (vrC VrT.nul) Qk ((q:Int)+1) 0) ht hs);clear ht hs)
     | fail)
    rw [HE.out]
    have hfin:=HFIN.out _ HL.out HF.out.b
    rw [HHE.out] at hfin
    exact Qj 95 rfl rfl rfl HF.out.vo Try.underlying95 rfl Qc (Qgn (m:={ im:=m.im,hl:=true,la:=s,he:=he,ef:=m.ef,va:=m.va,fn:=m.fn }) (q:=q+1) hfin HF.out.b)
   | false =>
    have hn1:=hC1.trans c1
    have HE:=Lh (HY.out.symm.trans (Qme hn1))
    cases hi:X.R.idn q with
    | false =>
     rw [hi] at HNM
     have HE2:Hid (Y.2=(q,11)):=Lh (by
      rw [HE.out]
      have e:=onP_1 (s:=s) hi
      rw [e,Jg (x:=(q,11)) (show ¬ (11:Int)=0 by decide),Zs (show ¬ (11:Int)=0 by decide)])
     clear hC1 hn1 HE hi HPN
     go_wp2_with (first
      | (refine Qb rfl 92 (.tmp 3) rfl w.heap.size 0 rfl (ryC X) HF.out.vr.rg Try.underlying92 rfl Qd ?_)
      | (go_at_call 51;(with_reducible refine (HA0.out _ HF.out.b).mono ?_);rintro e w2 ⟨rfl,b2⟩;have HF:=Lh (HF.out.under b2);clear b2;dsimp only)
      | (go_at_call 55;(with_reducible refine (HNM.out _ HF.out.b).mono ?_);rintro e w2 ⟨rfl,b2⟩;have HF:=Lh (HF.out.under b2);clear b2;dsimp only)
      | (refine Qa rfl 95 (.tmp 6) (.tmp 26) rfl (G:=w.heap.size+2) (off:=0) rfl (us:=gtE (q:Int) 11) HF.out.vo rfl Qc (Nat.le_refl 19) (Qn _ _) ?_;intro w90 ht hs;have HF:=Lh (HF.out.set_o (us:=gtE (q:Int) 11) ht hs);clear ht hs)
      | fail)
     exact Qj 95 rfl rfl rfl HF.out.vo Try.underlying95 rfl Qc (Jd HE2.out (by decide) HF.out.b)
    | true =>
     rw [hi] at HNM
     have hql:q<X.L.length:=HOK.out.id_lt hi
     have HID:=Lh hi
     have HXQ:=Lh (show X.R.ps q=X.R.ps q from rfl)
     obtain ⟨xn,hxn⟩:∃ x,X.R.ps q=x:=⟨_,rfl⟩
     have HXN:=Lh hxn
     rw [hxn] at HPN
     clear hC1 hn1 hi hxn HXQ
     obtain ⟨SS,hSd⟩:∃ SS:World→Prop,SS=fun W=>F3 X w W [v.im,.bool true,.slice A s.length c,.bool he,v.ef,v.va,v.fn] (gtE 0 0):=⟨_,rfl⟩
     have HS:Hid (∀ W,F3 X w W [v.im,.bool true,.slice A s.length c,.bool he,v.ef,v.va,v.fn] (gtE 0 0)→SS W):=Lh fun W h=>by rw [hSd];exact h
     have hSF:∀ W,SS W→F3 X w W [v.im,.bool true,.slice A s.length c,.bool he,v.ef,v.va,v.fn] (gtE 0 0):=by rw [hSd];exact fun W h=>h
     have q0:∀ s:SW SS,s.w.cell? ⟨w.heap.size,0,none⟩=some (.string X.T):=fun s=>(hSF _ s.h).vr.at 0 rfl
     have q1:∀ s:SW SS,s.w.cell? ⟨w.heap.size,1,none⟩=some (.slice X.A X.L.length X.c):=fun s=>(hSF _ s.h).vr.at 1 rfl
     go_wp2_with (first
      | (refine Qb rfl 92 (.tmp 3) rfl w.heap.size 0 rfl (ryC X) HF.out.vr.rg Try.underlying92 rfl Qd ?_)
      | (go_at_call 51;(with_reducible refine (HA0.out _ HF.out.b).mono ?_);rintro e w2 ⟨rfl,b2⟩;have HL:=Lh (HL.out.under b2);have HF:=Lh (HF.out.under b2);clear b2;dsimp only)
      | (go_at_call 55;(with_reducible refine (HNM.out _ HF.out.b).mono ?_);rintro e w2 ⟨rfl,b2⟩;have HL:=Lh (HL.out.under b2);have HF:=Lh (HF.out.under b2);clear b2;dsimp only)
      | fail)
     refine Qjf (fun a G=>(((((((a.put (some 27) (.agg #[.string X.T,.slice X.A X.L.length X.c])).put (some 28) (.int .i64 (q:Int))).put (some 29) (.string sg)).put (some 30) (.agg #[.string X.T,.slice X.A X.L.length X.c])).put (some 31) (.int .i64 (q:Int))).put (some 32) (.int .i64 xn)).put (some 33) (.agg #[.string sg,.string ⟨#[]⟩,.int .i64 xn])).put (some 7) (.pointer (some ⟨G,0,none⟩))) (fun G W=>F3 X w W [v.im,.bool true,.slice A s.length c,.bool he,v.ef,v.va,v.fn] (gtE 0 0)∧Var W G (prC ⟨sg,⟨#[]⟩,xn⟩)∧ShV W (fun b=>(S b∨w.heap.size+2<b)∧b≠G) (.slice A s.length c) s.length (prs s)∧w.heap.size+2<G) ?_ ?_
     ·refine Jc (by kernel_rfl) 9 rfl ?_
      have HQ:=Lh (HF.out.under (Qi _ _))
      have HL:=Lh (HL.out.under (Qi _ _))
      obtain ⟨wx,hwx⟩:∃ wx,w2.drew=wx:=⟨_,rfl⟩
      rw [hwx] at HQ HL
      rw [hwx]
      obtain ⟨NB,hNB⟩:∃ NB,wx.heap.size=NB:=⟨_,rfl⟩
      have HL:=Lh (HL.out.weak (S':=fun b=>(S b∨w.heap.size+2<b)∧b<NB) fun b h1 h2=>⟨h1,by omega⟩)
      have HXS:=Lh (show NB≤wx.heap.size by omega)
      clear hNB
      have hbp:=fun (w:World)=>run_build (P:=Try.prog) w 127 #[(0,.string sg),(2,.int .i64 xn)] #[.string sg,.string ⟨#[]⟩,.int .i64 xn] (by kernel_rfl)
      have hS0:=HS.out _ HQ.out
      clear HF hwx
      refine J2 SS 8 (by kernel_rfl) ?_
      refine Qp 0 2 7 (by kernel_rfl) (fun _ _ d _ _ h=>by first | (cases d <;> exact h) | exact absurd h.1 (fun e=>nomatch e)) hS0 (fun hne=>?_)
      simp only [sD,sE,sF,sG]
      repeat (go_big_quiet_step (fail))
      refine wpQuiet_nil ?_
      refine Qp 3 2 5 (by kernel_rfl) (fun _ _ d _ _ h=>by first | (cases d <;> exact h) | exact absurd h.1 (fun e=>nomatch e)) hS0 (fun hne=>?_)
      simp only [sD,sE,sF,sG]
      repeat (go_big_quiet_step (fail))
      refine wpQuiet_nil ?_
      refine Z9 (i:=2) (j:=7) (fuel:=4) (by kernel_rfl) (by omega) (by omega) rfl rfl (fun KK hKK=>?_) (fun KK hKK=>?_)
      ·go_simp
       with_reducible refine (HA0.out _ HQ.out.b).mono ?_
       rintro e w2a ⟨rfl,bb⟩
       have HQ:=Lh (HQ.out.under bb)
       have HL:=Lh (HL.out.under bb)
       have HXS:=Lh (Nat.le_trans HXS.out bb.size)
       clear hS0 bb
       have hS0:=HS.out _ HQ.out
       refine hKK _ _ hS0 ?_
       clear hKK KK
       refine Z9 (i:=5) (j:=7) (fuel:=3) (by kernel_rfl) (by omega) (by omega) rfl rfl (fun KK hKK=>?_) (fun KK hKK=>?_)
       ·go_simp
        with_reducible refine (HPN.out _ HQ.out.b).mono ?_
        rintro e w5a ⟨rfl,bb⟩
        have HQ:=Lh (HQ.out.under bb)
        have HL:=Lh (HL.out.under bb)
        have HXS:=Lh (Nat.le_trans HXS.out bb.size)
        clear hS0 bb
        have hS0:=HS.out _ HQ.out
        refine hKK _ _ hS0 ?_
        clear hKK KK
        refine K9 6 (.agg #[.string sg,.string ⟨#[]⟩,.int .i64 xn]) (by kernel_rfl) (fun _ _ d _ _ h=>by first | (cases d <;> exact h) | exact absurd h.1 (fun e=>nomatch e)) rfl hS0 (.inl ⟨rfl,fun w' _=>by simp [execOp,Act.eval,hbp w',Result.andThen]⟩) ?_
        simp only [Act.put,sA,sB,sC]
        refine Ql (i:=7) (fuel:=1) (by kernel_rfl) (by omega) rfl (fun KK hKK=>?_)
        go_simp
        have hba:=(Below.refl w5a.heap.size w5a).alloc nLe (.cells #[.string ⟨#[]⟩,.string ⟨#[]⟩,.int .i64 0] 127)
        have HG:=Lh (Var.new w5a (prC PrT.nul) 127 (c:=#[.string ⟨#[]⟩,.string ⟨#[]⟩,.int .i64 0]) rfl)
        have HGL:=Lh (show w.heap.size+2<w5a.heap.size from HQ.out.lt)
        have HGX:=HXS
        have HQ:=Lh (HQ.out.under hba)
        have HL:=Lh (HL.out.under hba)
        have HXS:=Lh (Nat.le_trans HXS.out hba.size)
        obtain ⟨wA,hwA⟩:∃ wA,w5a.alloc (.cells #[.string ⟨#[]⟩,.string ⟨#[]⟩,.int .i64 0] 127)=wA:=⟨_,rfl⟩
        rw [hwA] at HG HQ HL HXS
        rw [hwA]
        obtain ⟨G,hG⟩:∃ G,w5a.heap.size=G:=⟨_,rfl⟩
        rw [hG] at HG HGL HGX
        rw [hG]
        clear hwA hG hba hS0
        have hS0:=HS.out _ HQ.out
        refine hKK _ _ hS0 ?_
        clear hKK KK
        refine Ja (i:=8) (fuel:=0) (by kernel_rfl) nLe rfl (fun KK hKK=>?_)
        refine Z2 rfl 127 (.tmp 7) (.tmp 33) rfl G 0 (prC ⟨sg,⟨#[]⟩,xn⟩) rfl rfl (HG.out.there (Nat.le_refl 3)) Ke (Yx _) ?_
        have ht:=Tn.sets (M:=fun k=>k=G) G (prC ⟨sg,⟨#[]⟩,xn⟩) rfl 0 wA
        have hs:=HG.out.sets 0 (prC ⟨sg,⟨#[]⟩,xn⟩) (Nat.le_refl 3)
        have hgl:=HGL.out
        have hgx:=HGX.out
        refine hKK _ _ ?_
        refine wpAny_done (by kernel_rfl) ?_ _
        exact ⟨rfl,G,rfl,HQ.out.set_n ht hgl,hs,HL.out.turn ht (fun b hb _=>⟨⟨hb.1,(by omega:b≠G)⟩,by omega⟩),hgl⟩
       ·go_simp
        have hba:=(Below.refl w2a.heap.size w2a).alloc nLe (.cells #[.string ⟨#[]⟩,.string ⟨#[]⟩,.int .i64 0] 127)
        have HG:=Lh (Var.new w2a (prC PrT.nul) 127 (c:=#[.string ⟨#[]⟩,.string ⟨#[]⟩,.int .i64 0]) rfl)
        have HGL:=Lh (show w.heap.size+2<w2a.heap.size from HQ.out.lt)
        have HGX:=HXS
        have HQ:=Lh (HQ.out.under hba)
        have HL:=Lh (HL.out.under hba)
        have HXS:=Lh (Nat.le_trans HXS.out hba.size)
        obtain ⟨wA,hwA⟩:∃ wA,w2a.alloc (.cells #[.string ⟨#[]⟩,.string ⟨#[]⟩,.int .i64 0] 127)=wA:=⟨_,rfl⟩
        rw [hwA] at HG HQ HL HXS
        rw [hwA]
        obtain ⟨G,hG⟩:∃ G,w2a.heap.size=G:=⟨_,rfl⟩
        rw [hG] at HG HGL HGX
        rw [hG]
        clear hwA hG hba hS0
        have hS0:=HS.out _ HQ.out
        refine hKK _ _ hS0 ?_
        clear hKK KK
        refine Ql (i:=5) (fuel:=2) (by kernel_rfl) (by omega) rfl (fun KK hKK=>?_)
        go_simp
        with_reducible refine (HPN.out _ HQ.out.b).mono ?_
        rintro e w5a ⟨rfl,bb⟩
        have HQ:=Lh (HQ.out.under bb)
        have HL:=Lh (HL.out.under bb)
        have HXS:=Lh (Nat.le_trans HXS.out bb.size)
        have HG:=Lh (HG.out.under bb)
        clear hS0 bb
        have hS0:=HS.out _ HQ.out
        refine hKK _ _ hS0 ?_
        clear hKK KK
        refine K9 6 (.agg #[.string sg,.string ⟨#[]⟩,.int .i64 xn]) (by kernel_rfl) (fun _ _ d _ _ h=>by first | (cases d <;> exact h) | exact absurd h.1 (fun e=>nomatch e)) rfl hS0 (.inl ⟨rfl,fun w' _=>by simp [execOp,Act.eval,hbp w',Result.andThen]⟩) ?_
        simp only [Act.put,sA,sB,sC]
        refine Ja (i:=8) (fuel:=0) (by kernel_rfl) nLe rfl (fun KK hKK=>?_)
        refine Z2 rfl 127 (.tmp 7) (.tmp 33) rfl G 0 (prC ⟨sg,⟨#[]⟩,xn⟩) rfl rfl (HG.out.there (Nat.le_refl 3)) Ke (Yx _) ?_
        have ht:=Tn.sets (M:=fun k=>k=G) G (prC ⟨sg,⟨#[]⟩,xn⟩) rfl 0 w5a
        have hs:=HG.out.sets 0 (prC ⟨sg,⟨#[]⟩,xn⟩) (Nat.le_refl 3)
        have hgl:=HGL.out
        have hgx:=HGX.out
        refine hKK _ _ ?_
        refine wpAny_done (by kernel_rfl) ?_ _
        exact ⟨rfl,G,rfl,HQ.out.set_n ht hgl,hs,HL.out.turn ht (fun b hb _=>⟨⟨hb.1,(by omega:b≠G)⟩,by omega⟩),hgl⟩
      ·go_simp
       have hba:=(Below.refl wx.heap.size wx).alloc nLe (.cells #[.string ⟨#[]⟩,.string ⟨#[]⟩,.int .i64 0] 127)
       have HG:=Lh (Var.new wx (prC PrT.nul) 127 (c:=#[.string ⟨#[]⟩,.string ⟨#[]⟩,.int .i64 0]) rfl)
       have HGL:=Lh (show w.heap.size+2<wx.heap.size from HQ.out.lt)
       have HGX:=HXS
       have HQ:=Lh (HQ.out.under hba)
       have HL:=Lh (HL.out.under hba)
       have HXS:=Lh (Nat.le_trans HXS.out hba.size)
       obtain ⟨wA,hwA⟩:∃ wA,wx.alloc (.cells #[.string ⟨#[]⟩,.string ⟨#[]⟩,.int .i64 0] 127)=wA:=⟨_,rfl⟩
       rw [hwA] at HG HQ HL HXS
       rw [hwA]
       obtain ⟨G,hG⟩:∃ G,wx.heap.size=G:=⟨_,rfl⟩
       rw [hG] at HG HGL HGX
       rw [hG]
       clear hwA hG hba hS0
       have hS0:=HS.out _ HQ.out
       refine hKK _ _ hS0 ?_
       clear hKK KK
       refine Ql (i:=2) (fuel:=3) (by kernel_rfl) (by omega) rfl (fun KK hKK=>?_)
       go_simp
       with_reducible refine (HA0.out _ HQ.out.b).mono ?_
       rintro e w2a ⟨rfl,bb⟩
       have HQ:=Lh (HQ.out.under bb)
       have HL:=Lh (HL.out.under bb)
       have HXS:=Lh (Nat.le_trans HXS.out bb.size)
       have HG:=Lh (HG.out.under bb)
       clear hS0 bb
       have hS0:=HS.out _ HQ.out
       refine hKK _ _ hS0 ?_
       clear hKK KK
       refine Ql (i:=5) (fuel:=2) (by kernel_rfl) (by omega) rfl (fun KK hKK=>?_)
       go_simp
       with_reducible refine (HPN.out _ HQ.out.b).mono ?_
       rintro e w5a ⟨rfl,bb⟩
       have HQ:=Lh (HQ.out.under bb)
       have HL:=Lh (HL.out.under bb)
       have HXS:=Lh (Nat.le_trans HXS.out bb.size)
       have HG:=Lh (HG.out.under bb)
       clear hS0 bb
       have hS0:=HS.out _ HQ.out
       refine hKK _ _ hS0 ?_
       clear hKK KK
       refine K9 6 (.agg #[.string sg,.string ⟨#[]⟩,.int .i64 xn]) (by kernel_rfl) (fun _ _ d _ _ h=>by first | (cases d <;> exact h) | exact absurd h.1 (fun e=>nomatch e)) rfl hS0 (.inl ⟨rfl,fun w' _=>by simp [execOp,Act.eval,hbp w',Result.andThen]⟩) ?_
       simp only [Act.put,sA,sB,sC]
       refine Ja (i:=8) (fuel:=0) (by kernel_rfl) nLe rfl (fun KK hKK=>?_)
       refine Z2 rfl 127 (.tmp 7) (.tmp 33) rfl G 0 (prC ⟨sg,⟨#[]⟩,xn⟩) rfl rfl (HG.out.there (Nat.le_refl 3)) Ke (Yx _) ?_
       have ht:=Tn.sets (M:=fun k=>k=G) G (prC ⟨sg,⟨#[]⟩,xn⟩) rfl 0 w5a
       have hs:=HG.out.sets 0 (prC ⟨sg,⟨#[]⟩,xn⟩) (Nat.le_refl 3)
       have hgl:=HGL.out
       have hgx:=HGX.out
       refine hKK _ _ ?_
       refine wpAny_done (by kernel_rfl) ?_ _
       exact ⟨rfl,G,rfl,HQ.out.set_n ht hgl,hs,HL.out.turn ht (fun b hb _=>⟨⟨hb.1,(by omega:b≠G)⟩,by omega⟩),hgl⟩
     ·rintro G wz ⟨hf,hv,hl',hgl⟩
      have HF:=Lh hf
      have HG:=Lh hv
      have HL1:=Lh hl'
      have HL:=Lh (hl'.weak (S':=fun b=>S b∨w.heap.size+2<b) fun b h _=>h.1)
      have HGL:=Lh hgl
      clear hf hv hl' hgl q0 q1 HS hSF hSd
      simp only [Act.put,sA,sB,sC]
      have HWE:Hid (∀ W,Below w.heap.size w W→CP 51 #[.agg (ryC X).toArray,.int .i64 ((q:Int)+1)] W fun e w'=>e=.returned (.string (X.R.wd (q+1)))∧Below W.heap.size W w'):=Lh (HAT.out (q+1) hql)
      obtain ⟨s1,hs1⟩:∃ x,X.R.wd (q+1)=x:=⟨_,rfl⟩
      have hC2:X.R.is (q+1) [60]=(s1.toList==[60]):=by rw [← hs1];rfl
      rw [hs1] at HWE
      clear hs1
      cases c2:(s1.toList==[60]) with
      | false =>
       have HPR:=Lh (fpr_no HID.out (hC2.trans c2))
       clear hC2
       have HE1:Hid (Qbo X.R (onP X.R) g (s++[⟨sg,⟨#[]⟩,xn⟩]) (mu X.R (q+1,0) [Jr])=Y):=Lh (by rw [HE.out];unfold onP;rw [HPR.out,HSG.out,HXN.out])
       have HWS:Hid (∀ W,Below w.heap.size w W→CP 56 #[.agg (ryC X).toArray,.int .i64 ((q:Int)+1),.string Jr] W fun e w'=>e=.returned (.int .i64 (if X.R.is (q+1) [59]=true then 0 else 11))∧Below W.heap.size W w'):=Lh fun W hW=>by
        have:=HWD.out (q+1) Jr hql W hW
        rwa [show Jr.toList=[59] from wd1 59 []] at this
       clear HE HPR
       cases hs2:X.R.is (q+1) [59] with
       | false =>
        rw [hs2,if_neg (by decide)] at HWS
        have HE2:Hid (Y.2=(q+1,11)):=Lh (by rw [← HE1.out,Yb hs2,Zs (show ¬ (11:Int)=0 by decide)])
        clear hs2 HE1
        go_wp2_with (first
         | (refine Qb rfl 92 (.tmp 3) rfl w.heap.size 0 rfl (ryC X) HF.out.vr.rg Try.underlying92 rfl Qd ?_)
         | (go_at_call 51;(with_reducible refine (HWE.out _ HF.out.b).mono ?_);rintro e w2 ⟨rfl,b2⟩;have HF:=Lh (HF.out.under b2);clear b2;dsimp only)
         | (go_at_call 56;(with_reducible refine (HWS.out _ HF.out.b).mono ?_);rintro e w2 ⟨rfl,b2⟩;have HF:=Lh (HF.out.under b2);clear b2;dsimp only)
         | (refine Qa rfl 95 (.tmp 6) (.tmp 60) rfl (G:=w.heap.size+2) (off:=0) rfl (us:=gtE ((q:Int)+1) 11) HF.out.vo rfl Qc (Nat.le_refl 19) (Qn _ _) ?_;intro w90 ht hs;have HF:=Lh (HF.out.set_o (us:=gtE ((q:Int)+1) 11) ht hs);clear ht hs)
         | fail)
        exact Qj 95 rfl rfl rfl HF.out.vo Try.underlying95 rfl Qc (Jd (q:=q+1) HE2.out (by decide) HF.out.b)
       | true =>
        rw [hs2,if_pos rfl] at HWS
        have hql2:q+1<X.L.length:=HOK.out.is_lt hs2
        have HE2:Hid (Qbo X.R (onP X.R) g (s++[(⟨sg,⟨#[]⟩,xn⟩:PrT)]) (q+1+1,0)=Y):=Lh (by rw [← HE1.out,Q5 hs2])
        clear hs2 HE1
        go_wp2_with (first
         | (refine Qb rfl 92 (.tmp 3) rfl w.heap.size 0 rfl (ryC X) HF.out.vr.rg Try.underlying92 rfl Qd ?_)
         | (go_at_call 51;(with_reducible refine (HWE.out _ HF.out.b).mono ?_);rintro e w2 ⟨rfl,b2⟩;have HG:=Lh (HG.out.under b2);have HL:=Lh (HL.out.under b2);have HF:=Lh (HF.out.under b2);clear b2;dsimp only)
         | (go_at_call 56;(with_reducible refine (HWS.out _ HF.out.b).mono ?_);rintro e w2 ⟨rfl,b2⟩;have HL:=Lh (HL.out.under b2);have HG:=Lh (HG.out.under b2);have HF:=Lh (HF.out.under b2);clear b2;dsimp only)
         | fail)
        have HQ:=Lh (And.intro (HF.out.under (Qi _ _)) (HG.out.under (Qi _ _)))
        have HL:=Lh (HL.out.under (Qi _ _))
        refine Jc (by kernel_rfl) 9 rfl ?_
        obtain ⟨wb,hwb⟩:∃ wb,w2.drew=wb:=⟨_,rfl⟩
        rw [hwb] at HQ HL
        rw [hwb]
        obtain ⟨NB,hNB⟩:∃ NB,wb.heap.size=NB:=⟨_,rfl⟩
        have HXS:=Lh (show NB≤wb.heap.size by omega)
        have HB3:=Lh (show w.heap.size+3≤NB by rw [← hNB];exact HQ.out.1.lt)
        obtain ⟨SS,hSd⟩:∃ SS:World→Prop,SS=fun W=>F3 X w W [v.im,.bool true,.slice A s.length c,.bool he,v.ef,v.va,v.fn] (gtE 0 0)∧Var W G (prC (⟨sg,⟨#[]⟩,xn⟩:PrT)):=⟨_,rfl⟩
        have HS:Hid (∀ W,(F3 X w W [v.im,.bool true,.slice A s.length c,.bool he,v.ef,v.va,v.fn] (gtE 0 0)∧Var W G (prC (⟨sg,⟨#[]⟩,xn⟩:PrT)))→SS W):=Lh fun W h=>by rw [hSd];exact h
        have hSF:∀ W,SS W→F3 X w W [v.im,.bool true,.slice A s.length c,.bool he,v.ef,v.va,v.fn] (gtE 0 0)∧Var W G (prC (⟨sg,⟨#[]⟩,xn⟩:PrT)):=by rw [hSd];exact fun W h=>h
        have q0:∀ x:SW SS,x.w.cell? ⟨w.heap.size+1,2,none⟩=some (.slice A s.length c):=fun x=>(hSF _ x.h).1.vm.at 2 rfl
        have q1:∀ x:SW SS,x.w.cell? ⟨G,0,none⟩=some (.string sg):=fun x=>(hSF _ x.h).2.at 0 rfl
        have q2:∀ x:SW SS,x.w.cell? ⟨G,1,none⟩=some (.string ⟨#[]⟩):=fun x=>(hSF _ x.h).2.at 1 rfl
        have q3:∀ x:SW SS,x.w.cell? ⟨G,2,none⟩=some (.int .i64 xn):=fun x=>(hSF _ x.h).2.at 2 rfl
        have HGB:=Lh (show G<NB by rw [← hNB];exact HQ.out.2.lt)
        clear hNB
        have hS0:=HS.out _ HQ.out
        clear HF HG hwb hSF hSd
        refine J2 SS 8 (by kernel_rfl) ?_
        refine Qp 1 2 7 (by kernel_rfl) (fun _ _ d _ _ h=>by first | (cases d <;> exact h) | exact absurd h.1 (fun e=>nomatch e)) hS0 (fun hne=>?_)
        simp only [sD,sE,sF,sG]
        repeat (go_big_quiet_step (fail))
        refine wpQuiet_nil ?_
        refine Qp 4 1 6 (by kernel_rfl) (fun _ _ d _ _ h=>by first | (cases d <;> exact h) | exact absurd h.1 (fun e=>nomatch e)) hS0 (fun hne=>?_)
        simp only [sD,sE,sF,sG]
        repeat (go_big_quiet_step (fail))
        refine wpQuiet_nil ?_
        refine Z9 (i:=0) (j:=5) (fuel:=5) (by kernel_rfl) (by omega) (by omega) rfl rfl (fun KK hKK=>?_) (fun KK hKK=>?_)
        ·go_simp
         have HO:=Lh (Own.empty wb NB 127 3 HXS.out)
         have hba:=(Below.refl wb.heap.size wb).alloc nLe (.cells #[] 127)
         have HQ:=Lh (And.intro (HQ.out.1.under hba) (HQ.out.2.under hba))
         have HL:=Lh (HL.out.under hba)
         have HOB:=Lh (show ∀ k,(Value.slice (some ⟨wb.heap.size,0,none⟩) 0 0).ownBlock=some k→k=wb.heap.size from fun k hk=>by cases hk;rfl)
         have HXS:=Lh (Nat.le_trans HXS.out hba.size)
         obtain ⟨wE,hwE⟩:∃ wE,wb.alloc (.cells #[] 127)=wE:=⟨_,rfl⟩
         obtain ⟨b0,hb0⟩:∃ b0,wb.heap.size=b0:=⟨_,rfl⟩
         have HBE:=Lh (show b0<wE.heap.size by rw [← hwE,← hb0];simp)
         rw [hwE] at HO HQ HL HXS
         rw [hb0] at HO HOB
         rw [hwE,hb0]
         clear hwE hba hS0
         have hS0:=HS.out _ HQ.out
         refine hKK _ _ hS0 ?_
         clear hKK KK
         refine Z9 (i:=3) (j:=5) (fuel:=4) (by kernel_rfl) (by omega) (by omega) rfl rfl (fun KK hKK=>?_) (fun KK hKK=>?_)
         ·refine Qs rfl (.tmp 63) (.tmp 65) 47 rfl Qbp wE NB _ 0 [] (prs s) rfl HO.out A s.length c rfl (Qa6 s) HL.out.cells Qa7 (by omega) (by omega) ?_
          intro v3 w3 ho3 hb3 hg3
          have HQ:=Lh (And.intro (HQ.out.1.low ⟨hb3.os,hb3.tape,hb3.output,hb3.size,fun k hk=>hb3.block k (by have:=HB3.out;omega)⟩) (HQ.out.2.keep (hb3.block G HGB.out) hb3.size))
          have HO:=Lh (ho3.cast (n':=s.length) (by omega) (List.nil_append _))
          obtain ⟨A3,c3,rfl⟩:=HO.out.form
          have HXS:=Lh (Nat.le_trans HXS.out hb3.size)
          clear hS0 ho3 hb3 hg3
          have hS0:=HS.out _ HQ.out
          refine hKK _ _ hS0 ?_
          clear hKK KK
          refine Ql (i:=5) (fuel:=3) (by kernel_rfl) (by omega) rfl (fun KK hKK=>?_)
          refine Q0 rfl 47 127 (.tmp 67) rfl (prC (⟨sg,⟨#[]⟩,xn⟩:PrT)) rfl (by simp [prC]) (by simp [prC]) Try.underlying47 Ke (by kernel_rfl) ?_
          have hba:=(Below.refl w3.heap.size w3).alloc nLe (.cells (prC (⟨sg,⟨#[]⟩,xn⟩:PrT)).toArray 127)
          have HLIT:=Lh (Var.new w3 (prC (⟨sg,⟨#[]⟩,xn⟩:PrT)) 127 (c:=(prC (⟨sg,⟨#[]⟩,xn⟩:PrT)).toArray) rfl)
          have HQ:=Lh (And.intro (HQ.out.1.under hba) (HQ.out.2.under hba))
          have HO:=Lh (HO.out.alloc (.cells (prC (⟨sg,⟨#[]⟩,xn⟩:PrT)).toArray 127))
          have HXS:=Lh (Nat.le_trans HXS.out hba.size)
          obtain ⟨wF,hwF⟩:∃ wF,w3.alloc (.cells (prC (⟨sg,⟨#[]⟩,xn⟩:PrT)).toArray 127)=wF:=⟨_,rfl⟩
          obtain ⟨G5,hG5⟩:∃ G5,w3.heap.size=G5:=⟨_,rfl⟩
          rw [hwF] at HQ HXS HLIT HO
          rw [hG5] at HLIT
          rw [hwF,hG5]
          clear hwF hba hS0
          have hS0:=HS.out _ HQ.out
          refine hKK _ _ hS0 ?_
          clear hKK KK
          refine Ql (i:=6) (fuel:=2) (by kernel_rfl) (by omega) rfl (fun KK hKK=>?_)
          refine Qs rfl (.tmp 66) (.tmp 68) 47 rfl Qbp wF NB _ s.length (prs s) (prC (⟨sg,⟨#[]⟩,xn⟩:PrT)) rfl HO.out (some ⟨G5,0,none⟩) 1 1 rfl rfl (fun _=>⟨G5,0,rfl,HLIT.out.rg⟩) (Yx _) (by omega) (by omega) ?_
          intro v6 w6 ho6 hb6 _
          obtain ⟨A6,c6,rfl⟩:=ho6.form
          have HQ:=Lh (And.intro (HQ.out.1.low ⟨hb6.os,hb6.tape,hb6.output,hb6.size,fun k hk=>hb6.block k (by have:=HB3.out;omega)⟩) (HQ.out.2.keep (hb6.block G HGB.out) hb6.size))
          have HO:=Lh (ho6.cast (show s.length+1=(s++[(⟨sg,⟨#[]⟩,xn⟩:PrT)]).length by simp) (Ua s (⟨sg,⟨#[]⟩,xn⟩:PrT)).symm)
          clear hS0
          have hS0:=HS.out _ HQ.out
          refine hKK _ _ hS0 ?_
          clear hKK KK ho6 hb6
          simp only [Act.put,sA,sB,sC]
          refine Qp 7 1 1 (by kernel_rfl) (fun _ _ d _ _ h=>by first | (cases d <;> exact h) | exact absurd h.1 (fun e=>nomatch e)) hS0 (fun hne=>?_)
          simp only [sD,sE,sF,sG]
          repeat (go_big_quiet_step (fail))
          refine wpQuiet_nil ?_
          refine Ja (i:=8) (fuel:=0) (by kernel_rfl) nLe rfl (fun KK hKK=>?_)
          refine Zb rfl 47 (.tmp 70) (.tmp 69) rfl (w.heap.size+1) 2 rfl (v:=.slice A6 (s.length+1) c6) (HQ.out.1.vm.there (by show 2+1≤7;omega)) rfl (by kernel_rfl) rfl ?_
          have ht:=Tn.set (M:=fun k=>k=w.heap.size+1) w6 (w.heap.size+1) 2 (.slice A6 (s.length+1) c6) rfl
          have HF:=Lh (HQ.out.1.set_m (us:=[v.im,.bool true,.slice A6 (s.length+1) c6,.bool he,v.ef,v.va,v.fn]) ht (HQ.out.1.vm.set 2 _ (by show 2<7;omega)))
          have hb3':=HB3.out
          have HL:=Lh ((ShV.of_own (S:=fun b=>S b∨w.heap.size+2<b) HO.out (fun b hb _ _=>.inr (by omega))).turn (S':=fun b=>S b∨w.heap.size+2<b) ht fun b hb h2=>⟨hb,fun e=>by rcases hb with hb | hb;have:=HSS.out b hb;omega;omega⟩)
          refine hKK _ _ ?_
          clear hKK KK q0 q1 q2 q3 HS hS0 ht HQ HO hb3'
          refine wpAny_done (by kernel_rfl) ?_ _
          try simp only [Act.put,sA,sB,sC]
          go_wp2_with fail
          go_roundw
          case rel=>exact ⟨q+1+1,g,s++[(⟨sg,⟨#[]⟩,xn⟩:PrT)],A6,c6,rfl,by omega,by omega,by simp;omega,HE2,Lh (by have:=HL.out;rw [show (s++[(⟨sg,⟨#[]⟩,xn⟩:PrT)]).length=s.length+1 from by simp] at this ⊢;exact this),Lh (by have:=HF.out;rw [show (s++[(⟨sg,⟨#[]⟩,xn⟩:PrT)]).length=s.length+1 from by simp];exact this)⟩
          case measure=>simp [intOf];omega
         ·refine Q0 rfl 47 127 (.tmp 67) rfl (prC (⟨sg,⟨#[]⟩,xn⟩:PrT)) rfl (by simp [prC]) (by simp [prC]) Try.underlying47 Ke (by kernel_rfl) ?_
          have hba:=(Below.refl wE.heap.size wE).alloc nLe (.cells (prC (⟨sg,⟨#[]⟩,xn⟩:PrT)).toArray 127)
          have HLIT:=Lh (Var.new wE (prC (⟨sg,⟨#[]⟩,xn⟩:PrT)) 127 (c:=(prC (⟨sg,⟨#[]⟩,xn⟩:PrT)).toArray) rfl)
          have HQ:=Lh (And.intro (HQ.out.1.under hba) (HQ.out.2.under hba))
          have HL:=Lh (HL.out.under hba)
          have HO:=Lh (HO.out.alloc (.cells (prC (⟨sg,⟨#[]⟩,xn⟩:PrT)).toArray 127))
          have HXS:=Lh (Nat.le_trans HXS.out hba.size)
          obtain ⟨wF,hwF⟩:∃ wF,wE.alloc (.cells (prC (⟨sg,⟨#[]⟩,xn⟩:PrT)).toArray 127)=wF:=⟨_,rfl⟩
          obtain ⟨G5,hG5⟩:∃ G5,wE.heap.size=G5:=⟨_,rfl⟩
          have HLN:=Lh (show (Value.slice (some ⟨b0,0,none⟩) 0 0).ownBlock=some G5→False from fun e=>by have:=HOB.out _ e;have:=HBE.out;omega)
          rw [hwF] at HQ HL HXS HLIT HO
          rw [hG5] at HLIT
          rw [hwF,hG5]
          clear hwF hba hS0
          have hS0:=HS.out _ HQ.out
          refine hKK _ _ hS0 ?_
          clear hKK KK
          refine Ql (i:=3) (fuel:=3) (by kernel_rfl) (by omega) rfl (fun KK hKK=>?_)
          refine Qs rfl (.tmp 63) (.tmp 65) 47 rfl Qbp wF NB _ 0 [] (prs s) rfl HO.out A s.length c rfl (Qa6 s) HL.out.cells Qa7 (by omega) (by omega) ?_
          intro v3 w3 ho3 hb3 hg3
          have HQ:=Lh (And.intro (HQ.out.1.low ⟨hb3.os,hb3.tape,hb3.output,hb3.size,fun k hk=>hb3.block k (by have:=HB3.out;omega)⟩) (HQ.out.2.keep (hb3.block G HGB.out) hb3.size))
          have HO:=Lh (ho3.cast (n':=s.length) (by omega) (List.nil_append _))
          have HLIT:=Lh (HLIT.out.keep (hg3.block _ HLIT.out.lt (fun e=>HLN.out e.symm)) hg3.size)
          obtain ⟨A3,c3,rfl⟩:=HO.out.form
          have HXS:=Lh (Nat.le_trans HXS.out hb3.size)
          clear hS0 ho3 hb3 hg3
          have hS0:=HS.out _ HQ.out
          refine hKK _ _ hS0 ?_
          clear hKK KK
          refine Ql (i:=6) (fuel:=2) (by kernel_rfl) (by omega) rfl (fun KK hKK=>?_)
          refine Qs rfl (.tmp 66) (.tmp 68) 47 rfl Qbp w3 NB _ s.length (prs s) (prC (⟨sg,⟨#[]⟩,xn⟩:PrT)) rfl HO.out (some ⟨G5,0,none⟩) 1 1 rfl rfl (fun _=>⟨G5,0,rfl,HLIT.out.rg⟩) (Yx _) (by omega) (by omega) ?_
          intro v6 w6 ho6 hb6 _
          obtain ⟨A6,c6,rfl⟩:=ho6.form
          have HQ:=Lh (And.intro (HQ.out.1.low ⟨hb6.os,hb6.tape,hb6.output,hb6.size,fun k hk=>hb6.block k (by have:=HB3.out;omega)⟩) (HQ.out.2.keep (hb6.block G HGB.out) hb6.size))
          have HO:=Lh (ho6.cast (show s.length+1=(s++[(⟨sg,⟨#[]⟩,xn⟩:PrT)]).length by simp) (Ua s (⟨sg,⟨#[]⟩,xn⟩:PrT)).symm)
          clear hS0
          have hS0:=HS.out _ HQ.out
          refine hKK _ _ hS0 ?_
          clear hKK KK ho6 hb6
          simp only [Act.put,sA,sB,sC]
          refine Qp 7 1 1 (by kernel_rfl) (fun _ _ d _ _ h=>by first | (cases d <;> exact h) | exact absurd h.1 (fun e=>nomatch e)) hS0 (fun hne=>?_)
          simp only [sD,sE,sF,sG]
          repeat (go_big_quiet_step (fail))
          refine wpQuiet_nil ?_
          refine Ja (i:=8) (fuel:=0) (by kernel_rfl) nLe rfl (fun KK hKK=>?_)
          refine Zb rfl 47 (.tmp 70) (.tmp 69) rfl (w.heap.size+1) 2 rfl (v:=.slice A6 (s.length+1) c6) (HQ.out.1.vm.there (by show 2+1≤7;omega)) rfl (by kernel_rfl) rfl ?_
          have ht:=Tn.set (M:=fun k=>k=w.heap.size+1) w6 (w.heap.size+1) 2 (.slice A6 (s.length+1) c6) rfl
          have HF:=Lh (HQ.out.1.set_m (us:=[v.im,.bool true,.slice A6 (s.length+1) c6,.bool he,v.ef,v.va,v.fn]) ht (HQ.out.1.vm.set 2 _ (by show 2<7;omega)))
          have hb3':=HB3.out
          have HL:=Lh ((ShV.of_own (S:=fun b=>S b∨w.heap.size+2<b) HO.out (fun b hb _ _=>.inr (by omega))).turn (S':=fun b=>S b∨w.heap.size+2<b) ht fun b hb h2=>⟨hb,fun e=>by rcases hb with hb | hb;have:=HSS.out b hb;omega;omega⟩)
          refine hKK _ _ ?_
          clear hKK KK q0 q1 q2 q3 HS hS0 ht HQ HO hb3'
          refine wpAny_done (by kernel_rfl) ?_ _
          try simp only [Act.put,sA,sB,sC]
          go_wp2_with fail
          go_roundw
          case rel=>exact ⟨q+1+1,g,s++[(⟨sg,⟨#[]⟩,xn⟩:PrT)],A6,c6,rfl,by omega,by omega,by simp;omega,HE2,Lh (by have:=HL.out;rw [show (s++[(⟨sg,⟨#[]⟩,xn⟩:PrT)]).length=s.length+1 from by simp] at this ⊢;exact this),Lh (by have:=HF.out;rw [show (s++[(⟨sg,⟨#[]⟩,xn⟩:PrT)]).length=s.length+1 from by simp];exact this)⟩
          case measure=>simp [intOf];omega
        ·refine Q0 rfl 47 127 (.tmp 67) rfl (prC (⟨sg,⟨#[]⟩,xn⟩:PrT)) rfl (by simp [prC]) (by simp [prC]) Try.underlying47 Ke (by kernel_rfl) ?_
         have hba:=(Below.refl wb.heap.size wb).alloc nLe (.cells (prC (⟨sg,⟨#[]⟩,xn⟩:PrT)).toArray 127)
         have HLIT:=Lh (Var.new wb (prC (⟨sg,⟨#[]⟩,xn⟩:PrT)) 127 (c:=(prC (⟨sg,⟨#[]⟩,xn⟩:PrT)).toArray) rfl)
         have HQ:=Lh (And.intro (HQ.out.1.under hba) (HQ.out.2.under hba))
         have HL:=Lh (HL.out.under hba)
         have HXS:=Lh (Nat.le_trans HXS.out hba.size)
         obtain ⟨wF,hwF⟩:∃ wF,wb.alloc (.cells (prC (⟨sg,⟨#[]⟩,xn⟩:PrT)).toArray 127)=wF:=⟨_,rfl⟩
         obtain ⟨G5,hG5⟩:∃ G5,wb.heap.size=G5:=⟨_,rfl⟩
         rw [hwF] at HQ HL HXS HLIT
         rw [hG5] at HLIT
         rw [hwF,hG5]
         clear hwF hba hS0
         have hS0:=HS.out _ HQ.out
         refine hKK _ _ hS0 ?_
         clear hKK KK
         have HG5L:=Lh (show G5<wF.heap.size from HLIT.out.lt)
         refine Ql (i:=0) (fuel:=4) (by kernel_rfl) (by omega) rfl (fun KK hKK=>?_)
         go_simp
         have HO:=Lh (Own.empty wF NB 127 3 HXS.out)
         have hba:=(Below.refl wF.heap.size wF).alloc nLe (.cells #[] 127)
         have HQ:=Lh (And.intro (HQ.out.1.under hba) (HQ.out.2.under hba))
         have HL:=Lh (HL.out.under hba)
         have HLIT:=Lh (HLIT.out.under hba)
         have HOB:=Lh (show ∀ k,(Value.slice (some ⟨wF.heap.size,0,none⟩) 0 0).ownBlock=some k→k=wF.heap.size from fun k hk=>by cases hk;rfl)
         have HXS:=Lh (Nat.le_trans HXS.out hba.size)
         obtain ⟨wE,hwE⟩:∃ wE,wF.alloc (.cells #[] 127)=wE:=⟨_,rfl⟩
         obtain ⟨b0,hb0⟩:∃ b0,wF.heap.size=b0:=⟨_,rfl⟩
         have HBE:=Lh (show b0<wE.heap.size by rw [← hwE,← hb0];simp)
         rw [hwE] at HO HQ HL HXS HLIT
         rw [hb0] at HO HOB HG5L
         rw [hwE,hb0]
         clear hwE hba hS0
         have hS0:=HS.out _ HQ.out
         refine hKK _ _ hS0 ?_
         clear hKK KK
         have HLN:=Lh (show (Value.slice (some ⟨b0,0,none⟩) 0 0).ownBlock=some G5→False from fun e=>by have:=HOB.out _ e;have:=HG5L.out;omega)
         refine Ql (i:=3) (fuel:=3) (by kernel_rfl) (by omega) rfl (fun KK hKK=>?_)
         refine Qs rfl (.tmp 63) (.tmp 65) 47 rfl Qbp wE NB _ 0 [] (prs s) rfl HO.out A s.length c rfl (Qa6 s) HL.out.cells Qa7 (by omega) (by omega) ?_
         intro v3 w3 ho3 hb3 hg3
         have HQ:=Lh (And.intro (HQ.out.1.low ⟨hb3.os,hb3.tape,hb3.output,hb3.size,fun k hk=>hb3.block k (by have:=HB3.out;omega)⟩) (HQ.out.2.keep (hb3.block G HGB.out) hb3.size))
         have HO:=Lh (ho3.cast (n':=s.length) (by omega) (List.nil_append _))
         have HLIT:=Lh (HLIT.out.keep (hg3.block _ HLIT.out.lt (fun e=>HLN.out e.symm)) hg3.size)
         obtain ⟨A3,c3,rfl⟩:=HO.out.form
         have HXS:=Lh (Nat.le_trans HXS.out hb3.size)
         clear hS0 ho3 hb3 hg3
         have hS0:=HS.out _ HQ.out
         refine hKK _ _ hS0 ?_
         clear hKK KK
         refine Ql (i:=6) (fuel:=2) (by kernel_rfl) (by omega) rfl (fun KK hKK=>?_)
         refine Qs rfl (.tmp 66) (.tmp 68) 47 rfl Qbp w3 NB _ s.length (prs s) (prC (⟨sg,⟨#[]⟩,xn⟩:PrT)) rfl HO.out (some ⟨G5,0,none⟩) 1 1 rfl rfl (fun _=>⟨G5,0,rfl,HLIT.out.rg⟩) (Yx _) (by omega) (by omega) ?_
         intro v6 w6 ho6 hb6 _
         obtain ⟨A6,c6,rfl⟩:=ho6.form
         have HQ:=Lh (And.intro (HQ.out.1.low ⟨hb6.os,hb6.tape,hb6.output,hb6.size,fun k hk=>hb6.block k (by have:=HB3.out;omega)⟩) (HQ.out.2.keep (hb6.block G HGB.out) hb6.size))
         have HO:=Lh (ho6.cast (show s.length+1=(s++[(⟨sg,⟨#[]⟩,xn⟩:PrT)]).length by simp) (Ua s (⟨sg,⟨#[]⟩,xn⟩:PrT)).symm)
         clear hS0
         have hS0:=HS.out _ HQ.out
         refine hKK _ _ hS0 ?_
         clear hKK KK ho6 hb6
         simp only [Act.put,sA,sB,sC]
         refine Qp 7 1 1 (by kernel_rfl) (fun _ _ d _ _ h=>by first | (cases d <;> exact h) | exact absurd h.1 (fun e=>nomatch e)) hS0 (fun hne=>?_)
         simp only [sD,sE,sF,sG]
         repeat (go_big_quiet_step (fail))
         refine wpQuiet_nil ?_
         refine Ja (i:=8) (fuel:=0) (by kernel_rfl) nLe rfl (fun KK hKK=>?_)
         refine Zb rfl 47 (.tmp 70) (.tmp 69) rfl (w.heap.size+1) 2 rfl (v:=.slice A6 (s.length+1) c6) (HQ.out.1.vm.there (by show 2+1≤7;omega)) rfl (by kernel_rfl) rfl ?_
         have ht:=Tn.set (M:=fun k=>k=w.heap.size+1) w6 (w.heap.size+1) 2 (.slice A6 (s.length+1) c6) rfl
         have HF:=Lh (HQ.out.1.set_m (us:=[v.im,.bool true,.slice A6 (s.length+1) c6,.bool he,v.ef,v.va,v.fn]) ht (HQ.out.1.vm.set 2 _ (by show 2<7;omega)))
         have hb3':=HB3.out
         have HL:=Lh ((ShV.of_own (S:=fun b=>S b∨w.heap.size+2<b) HO.out (fun b hb _ _=>.inr (by omega))).turn (S':=fun b=>S b∨w.heap.size+2<b) ht fun b hb h2=>⟨hb,fun e=>by rcases hb with hb | hb;have:=HSS.out b hb;omega;omega⟩)
         refine hKK _ _ ?_
         clear hKK KK q0 q1 q2 q3 HS hS0 ht HQ HO hb3'
         refine wpAny_done (by kernel_rfl) ?_ _
         try simp only [Act.put,sA,sB,sC]
         go_wp2_with fail
         go_roundw
         case rel=>exact ⟨q+1+1,g,s++[(⟨sg,⟨#[]⟩,xn⟩:PrT)],A6,c6,rfl,by omega,by omega,by simp;omega,HE2,Lh (by have:=HL.out;rw [show (s++[(⟨sg,⟨#[]⟩,xn⟩:PrT)]).length=s.length+1 from by simp] at this ⊢;exact this),Lh (by have:=HF.out;rw [show (s++[(⟨sg,⟨#[]⟩,xn⟩:PrT)]).length=s.length+1 from by simp];exact this)⟩
         case measure=>simp [intOf];omega
      | true =>
       have hq2:q+1<X.L.length:=HOK.out.is_lt (hC2.trans c2)
       have HI2:=Lh (hC2.trans c2)
       have HN2:Hid (∀ W,Below w.heap.size w W→CP 55 #[.agg (ryC X).toArray,.int .i64 ((q:Int)+1+1)] W fun e w'=>e=.returned (.bool (X.R.idn (q+1+1)))∧Below W.heap.size W w'):=Lh (HNA.out (q+1+1) hq2)
       have HA2:Hid (∀ W,Below w.heap.size w W→CP 51 #[.agg (ryC X).toArray,.int .i64 ((q:Int)+1+1)] W fun e w'=>e=.returned (.string (X.R.wd (q+1+1)))∧Below W.heap.size W w'):=Lh (HAT.out (q+1+1) hq2)
       clear hC2
       cases hi2:X.R.idn (q+1+1) with
       | false =>
        rw [hi2] at HN2
        have HPR:=Lh (fpr_2 HID.out HI2.out hi2)
        have HE2:Hid (Y.2=(q+1+1,11)):=Lh (by
         rw [HE.out]
         have e:(onP X.R s (q,0)).2=(q+1+1,11):=HPR.out
         rw [e,Jg (x:=(q+1+1,11)) (show ¬ (11:Int)=0 by decide),Zs (show ¬ (11:Int)=0 by decide)])
        clear HE HPR hi2
        go_wp2_with (first
         | (refine Qb rfl 92 (.tmp 3) rfl w.heap.size 0 rfl (ryC X) HF.out.vr.rg Try.underlying92 rfl Qd ?_)
         | (go_at_call 51;(with_reducible refine (HWE.out _ HF.out.b).mono ?_);rintro e w2 ⟨rfl,b2⟩;have HF:=Lh (HF.out.under b2);clear b2;dsimp only)
         | (go_at_call 55;(with_reducible refine (HN2.out _ HF.out.b).mono ?_);rintro e w2 ⟨rfl,b2⟩;have HF:=Lh (HF.out.under b2);clear b2;dsimp only)
         | (refine Qa rfl 95 (.tmp 6) (.tmp 47) rfl (G:=w.heap.size+2) (off:=0) rfl (us:=gtE ((q:Int)+1+1) 11) HF.out.vo rfl Qc (Nat.le_refl 19) (Qn _ _) ?_;intro w90 ht hs;have HF:=Lh (HF.out.set_o (us:=gtE ((q:Int)+1+1) 11) ht hs);clear ht hs)
         | fail)
        exact Qj 95 rfl rfl rfl HF.out.vo Try.underlying95 rfl Qc (Jd (q:=q+1+1) HE2.out (by decide) HF.out.b)
       | true =>
        rw [hi2] at HN2
        have hq3:q+1+1<X.L.length:=HOK.out.id_lt hi2
        have HPR:=Lh (fpr_yes HID.out HI2.out hi2)
        obtain ⟨sh,hsh⟩:∃ x,X.R.wd (q+1+1)=x:=⟨_,rfl⟩
        have HE1:Hid (Qbo X.R (onP X.R) g (s++[⟨sg,sh,xn⟩]) (mu X.R (q+1+2,0) [Jr])=Y):=Lh (by rw [HE.out];unfold onP;rw [HPR.out,HSG.out,HXN.out,hsh])
        rw [hsh] at HA2
        have HWS:Hid (∀ W,Below w.heap.size w W→CP 56 #[.agg (ryC X).toArray,.int .i64 ((q:Int)+1+2),.string Jr] W fun e w'=>e=.returned (.int .i64 (if X.R.is (q+1+2) [59]=true then 0 else 11))∧Below W.heap.size W w'):=Lh fun W hW=>by
         have:=HWD.out (q+1+2) Jr hq3 W hW
         rwa [show Jr.toList=[59] from wd1 59 []] at this
        clear HE HPR hi2 hsh
        go_wp2_with (first
         | (refine Qb rfl 92 (.tmp 3) rfl w.heap.size 0 rfl (ryC X) HF.out.vr.rg Try.underlying92 rfl Qd ?_)
         | (go_at_call 51;(with_reducible refine (HWE.out _ HF.out.b).mono ?_);rintro e w2 ⟨rfl,b2⟩;have HL:=Lh (HL.out.under b2);have HG:=Lh (HG.out.under b2);have HL1:=Lh (HL1.out.under b2);have HF:=Lh (HF.out.under b2);clear b2;dsimp only)
         | (go_at_call 55;(with_reducible refine (HN2.out _ HF.out.b).mono ?_);rintro e w2 ⟨rfl,b2⟩;have HL:=Lh (HL.out.under b2);have HG:=Lh (HG.out.under b2);have HL1:=Lh (HL1.out.under b2);have HF:=Lh (HF.out.under b2);clear b2;dsimp only)
         | (go_at_call 51;(with_reducible refine (HA2.out _ HF.out.b).mono ?_);rintro e w2 ⟨rfl,b2⟩;have HL:=Lh (HL.out.under b2);have HG:=Lh (HG.out.under b2);have HL1:=Lh (HL1.out.under b2);have HF:=Lh (HF.out.under b2);clear b2;dsimp only)
         | (refine Qr rfl 9 (.tmp 52) (.tmp 51) rfl (G:=G) (off:=1) rfl (v:=.string sh) HG.out rfl (by kernel_rfl) (by show 1<3;omega) rfl ?_;intro w3 ht hs;have HG:=Lh (show Var w3 G (prC ⟨sg,sh,xn⟩) from hs);have HL:=Lh (HL1.out.turn (S':=fun b=>S b∨w.heap.size+2<b) ht fun b hb h2=>⟨hb.1,hb.2⟩);have HF:=Lh (HF.out.set_n ht HGL.out);clear ht hs HL1;refine Hid.out ?_)
         | fail)
        refine Lh ?_
        cases hs2:X.R.is (q+1+2) [59] with
        | false =>
         rw [hs2,if_neg (by decide)] at HWS
         have HE2:Hid (Y.2=(q+1+2,11)):=Lh (by rw [← HE1.out,Yb hs2,Zs (show ¬ (11:Int)=0 by decide)])
         clear hs2 HE1
         go_wp2_with (first
          | (refine Qb rfl 92 (.tmp 3) rfl w.heap.size 0 rfl (ryC X) HF.out.vr.rg Try.underlying92 rfl Qd ?_)
          | (go_at_call 56;(with_reducible refine (HWS.out _ HF.out.b).mono ?_);rintro e w2 ⟨rfl,b2⟩;have HF:=Lh (HF.out.under b2);clear b2;dsimp only)
          | (refine Qa rfl 95 (.tmp 6) (.tmp 60) rfl (G:=w.heap.size+2) (off:=0) rfl (us:=gtE ((q:Int)+1+2) 11) HF.out.vo rfl Qc (Nat.le_refl 19) (Qn _ _) ?_;intro w90 ht hs;have HF:=Lh (HF.out.set_o (us:=gtE ((q:Int)+1+2) 11) ht hs);clear ht hs)
          | fail)
         exact Qj 95 rfl rfl rfl HF.out.vo Try.underlying95 rfl Qc (Jd (q:=q+1+2) HE2.out (by decide) HF.out.b)
        | true =>
         rw [hs2,if_pos rfl] at HWS
         have hql2:q+1+2<X.L.length:=HOK.out.is_lt hs2
         have HE2:Hid (Qbo X.R (onP X.R) g (s++[(⟨sg,sh,xn⟩:PrT)]) (q+1+2+1,0)=Y):=Lh (by rw [← HE1.out,Q5 hs2])
         clear hs2 HE1
         go_wp2_with (first
          | (refine Qb rfl 92 (.tmp 3) rfl w.heap.size 0 rfl (ryC X) HF.out.vr.rg Try.underlying92 rfl Qd ?_)
          | (go_at_call 56;(with_reducible refine (HWS.out _ HF.out.b).mono ?_);rintro e w2 ⟨rfl,b2⟩;have HL:=Lh (HL.out.under b2);have HG:=Lh (HG.out.under b2);have HF:=Lh (HF.out.under b2);clear b2;dsimp only)
          | fail)
         have HQ:=Lh (And.intro (HF.out.under (Qi _ _)) (HG.out.under (Qi _ _)))
         have HL:=Lh (HL.out.under (Qi _ _))
         refine Jc (by kernel_rfl) 9 rfl ?_
         obtain ⟨wb,hwb⟩:∃ wb,w2.drew=wb:=⟨_,rfl⟩
         rw [hwb] at HQ HL
         rw [hwb]
         obtain ⟨NB,hNB⟩:∃ NB,wb.heap.size=NB:=⟨_,rfl⟩
         have HXS:=Lh (show NB≤wb.heap.size by omega)
         have HB3:=Lh (show w.heap.size+3≤NB by rw [← hNB];exact HQ.out.1.lt)
         obtain ⟨SS,hSd⟩:∃ SS:World→Prop,SS=fun W=>F3 X w W [v.im,.bool true,.slice A s.length c,.bool he,v.ef,v.va,v.fn] (gtE 0 0)∧Var W G (prC (⟨sg,sh,xn⟩:PrT)):=⟨_,rfl⟩
         have HS:Hid (∀ W,(F3 X w W [v.im,.bool true,.slice A s.length c,.bool he,v.ef,v.va,v.fn] (gtE 0 0)∧Var W G (prC (⟨sg,sh,xn⟩:PrT)))→SS W):=Lh fun W h=>by rw [hSd];exact h
         have hSF:∀ W,SS W→F3 X w W [v.im,.bool true,.slice A s.length c,.bool he,v.ef,v.va,v.fn] (gtE 0 0)∧Var W G (prC (⟨sg,sh,xn⟩:PrT)):=by rw [hSd];exact fun W h=>h
         have q0:∀ x:SW SS,x.w.cell? ⟨w.heap.size+1,2,none⟩=some (.slice A s.length c):=fun x=>(hSF _ x.h).1.vm.at 2 rfl
         have q1:∀ x:SW SS,x.w.cell? ⟨G,0,none⟩=some (.string sg):=fun x=>(hSF _ x.h).2.at 0 rfl
         have q2:∀ x:SW SS,x.w.cell? ⟨G,1,none⟩=some (.string sh):=fun x=>(hSF _ x.h).2.at 1 rfl
         have q3:∀ x:SW SS,x.w.cell? ⟨G,2,none⟩=some (.int .i64 xn):=fun x=>(hSF _ x.h).2.at 2 rfl
         have HGB:=Lh (show G<NB by rw [← hNB];exact HQ.out.2.lt)
         clear hNB
         have hS0:=HS.out _ HQ.out
         clear HF HG hwb hSF hSd
         refine J2 SS 8 (by kernel_rfl) ?_
         refine Qp 1 2 7 (by kernel_rfl) (fun _ _ d _ _ h=>by first | (cases d <;> exact h) | exact absurd h.1 (fun e=>nomatch e)) hS0 (fun hne=>?_)
         simp only [sD,sE,sF,sG]
         repeat (go_big_quiet_step (fail))
         refine wpQuiet_nil ?_
         refine Qp 4 1 6 (by kernel_rfl) (fun _ _ d _ _ h=>by first | (cases d <;> exact h) | exact absurd h.1 (fun e=>nomatch e)) hS0 (fun hne=>?_)
         simp only [sD,sE,sF,sG]
         repeat (go_big_quiet_step (fail))
         refine wpQuiet_nil ?_
         refine Z9 (i:=0) (j:=5) (fuel:=5) (by kernel_rfl) (by omega) (by omega) rfl rfl (fun KK hKK=>?_) (fun KK hKK=>?_)
         ·go_simp
          have HO:=Lh (Own.empty wb NB 127 3 HXS.out)
          have hba:=(Below.refl wb.heap.size wb).alloc nLe (.cells #[] 127)
          have HQ:=Lh (And.intro (HQ.out.1.under hba) (HQ.out.2.under hba))
          have HL:=Lh (HL.out.under hba)
          have HOB:=Lh (show ∀ k,(Value.slice (some ⟨wb.heap.size,0,none⟩) 0 0).ownBlock=some k→k=wb.heap.size from fun k hk=>by cases hk;rfl)
          have HXS:=Lh (Nat.le_trans HXS.out hba.size)
          obtain ⟨wE,hwE⟩:∃ wE,wb.alloc (.cells #[] 127)=wE:=⟨_,rfl⟩
          obtain ⟨b0,hb0⟩:∃ b0,wb.heap.size=b0:=⟨_,rfl⟩
          have HBE:=Lh (show b0<wE.heap.size by rw [← hwE,← hb0];simp)
          rw [hwE] at HO HQ HL HXS
          rw [hb0] at HO HOB
          rw [hwE,hb0]
          clear hwE hba hS0
          have hS0:=HS.out _ HQ.out
          refine hKK _ _ hS0 ?_
          clear hKK KK
          refine Z9 (i:=3) (j:=5) (fuel:=4) (by kernel_rfl) (by omega) (by omega) rfl rfl (fun KK hKK=>?_) (fun KK hKK=>?_)
          ·refine Qs rfl (.tmp 63) (.tmp 65) 47 rfl Qbp wE NB _ 0 [] (prs s) rfl HO.out A s.length c rfl (Qa6 s) HL.out.cells Qa7 (by omega) (by omega) ?_
           intro v3 w3 ho3 hb3 hg3
           have HQ:=Lh (And.intro (HQ.out.1.low ⟨hb3.os,hb3.tape,hb3.output,hb3.size,fun k hk=>hb3.block k (by have:=HB3.out;omega)⟩) (HQ.out.2.keep (hb3.block G HGB.out) hb3.size))
           have HO:=Lh (ho3.cast (n':=s.length) (by omega) (List.nil_append _))
           obtain ⟨A3,c3,rfl⟩:=HO.out.form
           have HXS:=Lh (Nat.le_trans HXS.out hb3.size)
           clear hS0 ho3 hb3 hg3
           have hS0:=HS.out _ HQ.out
           refine hKK _ _ hS0 ?_
           clear hKK KK
           refine Ql (i:=5) (fuel:=3) (by kernel_rfl) (by omega) rfl (fun KK hKK=>?_)
           refine Q0 rfl 47 127 (.tmp 67) rfl (prC (⟨sg,sh,xn⟩:PrT)) rfl (by simp [prC]) (by simp [prC]) Try.underlying47 Ke (by kernel_rfl) ?_
           have hba:=(Below.refl w3.heap.size w3).alloc nLe (.cells (prC (⟨sg,sh,xn⟩:PrT)).toArray 127)
           have HLIT:=Lh (Var.new w3 (prC (⟨sg,sh,xn⟩:PrT)) 127 (c:=(prC (⟨sg,sh,xn⟩:PrT)).toArray) rfl)
           have HQ:=Lh (And.intro (HQ.out.1.under hba) (HQ.out.2.under hba))
           have HO:=Lh (HO.out.alloc (.cells (prC (⟨sg,sh,xn⟩:PrT)).toArray 127))
           have HXS:=Lh (Nat.le_trans HXS.out hba.size)
           obtain ⟨wF,hwF⟩:∃ wF,w3.alloc (.cells (prC (⟨sg,sh,xn⟩:PrT)).toArray 127)=wF:=⟨_,rfl⟩
           obtain ⟨G5,hG5⟩:∃ G5,w3.heap.size=G5:=⟨_,rfl⟩
           rw [hwF] at HQ HXS HLIT HO
           rw [hG5] at HLIT
           rw [hwF,hG5]
           clear hwF hba hS0
           have hS0:=HS.out _ HQ.out
           refine hKK _ _ hS0 ?_
           clear hKK KK
           refine Ql (i:=6) (fuel:=2) (by kernel_rfl) (by omega) rfl (fun KK hKK=>?_)
           refine Qs rfl (.tmp 66) (.tmp 68) 47 rfl Qbp wF NB _ s.length (prs s) (prC (⟨sg,sh,xn⟩:PrT)) rfl HO.out (some ⟨G5,0,none⟩) 1 1 rfl rfl (fun _=>⟨G5,0,rfl,HLIT.out.rg⟩) (Yx _) (by omega) (by omega) ?_
           intro v6 w6 ho6 hb6 _
           obtain ⟨A6,c6,rfl⟩:=ho6.form
           have HQ:=Lh (And.intro (HQ.out.1.low ⟨hb6.os,hb6.tape,hb6.output,hb6.size,fun k hk=>hb6.block k (by have:=HB3.out;omega)⟩) (HQ.out.2.keep (hb6.block G HGB.out) hb6.size))
           have HO:=Lh (ho6.cast (show s.length+1=(s++[(⟨sg,sh,xn⟩:PrT)]).length by simp) (Ua s (⟨sg,sh,xn⟩:PrT)).symm)
           clear hS0
           have hS0:=HS.out _ HQ.out
           refine hKK _ _ hS0 ?_
           clear hKK KK ho6 hb6
           simp only [Act.put,sA,sB,sC]
           refine Qp 7 1 1 (by kernel_rfl) (fun _ _ d _ _ h=>by first | (cases d <;> exact h) | exact absurd h.1 (fun e=>nomatch e)) hS0 (fun hne=>?_)
           simp only [sD,sE,sF,sG]
           repeat (go_big_quiet_step (fail))
           refine wpQuiet_nil ?_
           refine Ja (i:=8) (fuel:=0) (by kernel_rfl) nLe rfl (fun KK hKK=>?_)
           refine Zb rfl 47 (.tmp 70) (.tmp 69) rfl (w.heap.size+1) 2 rfl (v:=.slice A6 (s.length+1) c6) (HQ.out.1.vm.there (by show 2+1≤7;omega)) rfl (by kernel_rfl) rfl ?_
           have ht:=Tn.set (M:=fun k=>k=w.heap.size+1) w6 (w.heap.size+1) 2 (.slice A6 (s.length+1) c6) rfl
           have HF:=Lh (HQ.out.1.set_m (us:=[v.im,.bool true,.slice A6 (s.length+1) c6,.bool he,v.ef,v.va,v.fn]) ht (HQ.out.1.vm.set 2 _ (by show 2<7;omega)))
           have hb3':=HB3.out
           have HL:=Lh ((ShV.of_own (S:=fun b=>S b∨w.heap.size+2<b) HO.out (fun b hb _ _=>.inr (by omega))).turn (S':=fun b=>S b∨w.heap.size+2<b) ht fun b hb h2=>⟨hb,fun e=>by rcases hb with hb | hb;have:=HSS.out b hb;omega;omega⟩)
           refine hKK _ _ ?_
           clear hKK KK q0 q1 q2 q3 HS hS0 ht HQ HO hb3'
           refine wpAny_done (by kernel_rfl) ?_ _
           try simp only [Act.put,sA,sB,sC]
           go_wp2_with fail
           go_roundw
           case rel=>exact ⟨q+1+2+1,g,s++[(⟨sg,sh,xn⟩:PrT)],A6,c6,rfl,by omega,by omega,by simp;omega,HE2,Lh (by have:=HL.out;rw [show (s++[(⟨sg,sh,xn⟩:PrT)]).length=s.length+1 from by simp] at this ⊢;exact this),Lh (by have:=HF.out;rw [show (s++[(⟨sg,sh,xn⟩:PrT)]).length=s.length+1 from by simp];exact this)⟩
           case measure=>simp [intOf];omega
          ·refine Q0 rfl 47 127 (.tmp 67) rfl (prC (⟨sg,sh,xn⟩:PrT)) rfl (by simp [prC]) (by simp [prC]) Try.underlying47 Ke (by kernel_rfl) ?_
           have hba:=(Below.refl wE.heap.size wE).alloc nLe (.cells (prC (⟨sg,sh,xn⟩:PrT)).toArray 127)
           have HLIT:=Lh (Var.new wE (prC (⟨sg,sh,xn⟩:PrT)) 127 (c:=(prC (⟨sg,sh,xn⟩:PrT)).toArray) rfl)
           have HQ:=Lh (And.intro (HQ.out.1.under hba) (HQ.out.2.under hba))
           have HL:=Lh (HL.out.under hba)
           have HO:=Lh (HO.out.alloc (.cells (prC (⟨sg,sh,xn⟩:PrT)).toArray 127))
           have HXS:=Lh (Nat.le_trans HXS.out hba.size)
           obtain ⟨wF,hwF⟩:∃ wF,wE.alloc (.cells (prC (⟨sg,sh,xn⟩:PrT)).toArray 127)=wF:=⟨_,rfl⟩
           obtain ⟨G5,hG5⟩:∃ G5,wE.heap.size=G5:=⟨_,rfl⟩
           have HLN:=Lh (show (Value.slice (some ⟨b0,0,none⟩) 0 0).ownBlock=some G5→False from fun e=>by have:=HOB.out _ e;have:=HBE.out;omega)
           rw [hwF] at HQ HL HXS HLIT HO
           rw [hG5] at HLIT
           rw [hwF,hG5]
           clear hwF hba hS0
           have hS0:=HS.out _ HQ.out
           refine hKK _ _ hS0 ?_
           clear hKK KK
           refine Ql (i:=3) (fuel:=3) (by kernel_rfl) (by omega) rfl (fun KK hKK=>?_)
           refine Qs rfl (.tmp 63) (.tmp 65) 47 rfl Qbp wF NB _ 0 [] (prs s) rfl HO.out A s.length c rfl (Qa6 s) HL.out.cells Qa7 (by omega) (by omega) ?_
           intro v3 w3 ho3 hb3 hg3
           have HQ:=Lh (And.intro (HQ.out.1.low ⟨hb3.os,hb3.tape,hb3.output,hb3.size,fun k hk=>hb3.block k (by have:=HB3.out;omega)⟩) (HQ.out.2.keep (hb3.block G HGB.out) hb3.size))
           have HO:=Lh (ho3.cast (n':=s.length) (by omega) (List.nil_append _))
           have HLIT:=Lh (HLIT.out.keep (hg3.block _ HLIT.out.lt (fun e=>HLN.out e.symm)) hg3.size)
           obtain ⟨A3,c3,rfl⟩:=HO.out.form
           have HXS:=Lh (Nat.le_trans HXS.out hb3.size)
           clear hS0 ho3 hb3 hg3
           have hS0:=HS.out _ HQ.out
           refine hKK _ _ hS0 ?_
           clear hKK KK
           refine Ql (i:=6) (fuel:=2) (by kernel_rfl) (by omega) rfl (fun KK hKK=>?_)
           refine Qs rfl (.tmp 66) (.tmp 68) 47 rfl Qbp w3 NB _ s.length (prs s) (prC (⟨sg,sh,xn⟩:PrT)) rfl HO.out (some ⟨G5,0,none⟩) 1 1 rfl rfl (fun _=>⟨G5,0,rfl,HLIT.out.rg⟩) (Yx _) (by omega) (by omega) ?_
           intro v6 w6 ho6 hb6 _
           obtain ⟨A6,c6,rfl⟩:=ho6.form
           have HQ:=Lh (And.intro (HQ.out.1.low ⟨hb6.os,hb6.tape,hb6.output,hb6.size,fun k hk=>hb6.block k (by have:=HB3.out;omega)⟩) (HQ.out.2.keep (hb6.block G HGB.out) hb6.size))
           have HO:=Lh (ho6.cast (show s.length+1=(s++[(⟨sg,sh,xn⟩:PrT)]).length by simp) (Ua s (⟨sg,sh,xn⟩:PrT)).symm)
           clear hS0
           have hS0:=HS.out _ HQ.out
           refine hKK _ _ hS0 ?_
           clear hKK KK ho6 hb6
           simp only [Act.put,sA,sB,sC]
           refine Qp 7 1 1 (by kernel_rfl) (fun _ _ d _ _ h=>by first | (cases d <;> exact h) | exact absurd h.1 (fun e=>nomatch e)) hS0 (fun hne=>?_)
           simp only [sD,sE,sF,sG]
           repeat (go_big_quiet_step (fail))
           refine wpQuiet_nil ?_
           refine Ja (i:=8) (fuel:=0) (by kernel_rfl) nLe rfl (fun KK hKK=>?_)
           refine Zb rfl 47 (.tmp 70) (.tmp 69) rfl (w.heap.size+1) 2 rfl (v:=.slice A6 (s.length+1) c6) (HQ.out.1.vm.there (by show 2+1≤7;omega)) rfl (by kernel_rfl) rfl ?_
           have ht:=Tn.set (M:=fun k=>k=w.heap.size+1) w6 (w.heap.size+1) 2 (.slice A6 (s.length+1) c6) rfl
           have HF:=Lh (HQ.out.1.set_m (us:=[v.im,.bool true,.slice A6 (s.length+1) c6,.bool he,v.ef,v.va,v.fn]) ht (HQ.out.1.vm.set 2 _ (by show 2<7;omega)))
           have hb3':=HB3.out
           have HL:=Lh ((ShV.of_own (S:=fun b=>S b∨w.heap.size+2<b) HO.out (fun b hb _ _=>.inr (by omega))).turn (S':=fun b=>S b∨w.heap.size+2<b) ht fun b hb h2=>⟨hb,fun e=>by rcases hb with hb | hb;have:=HSS.out b hb;omega;omega⟩)
           refine hKK _ _ ?_
           clear hKK KK q0 q1 q2 q3 HS hS0 ht HQ HO hb3'
           refine wpAny_done (by kernel_rfl) ?_ _
           try simp only [Act.put,sA,sB,sC]
           go_wp2_with fail
           go_roundw
           case rel=>exact ⟨q+1+2+1,g,s++[(⟨sg,sh,xn⟩:PrT)],A6,c6,rfl,by omega,by omega,by simp;omega,HE2,Lh (by have:=HL.out;rw [show (s++[(⟨sg,sh,xn⟩:PrT)]).length=s.length+1 from by simp] at this ⊢;exact this),Lh (by have:=HF.out;rw [show (s++[(⟨sg,sh,xn⟩:PrT)]).length=s.length+1 from by simp];exact this)⟩
           case measure=>simp [intOf];omega
         ·refine Q0 rfl 47 127 (.tmp 67) rfl (prC (⟨sg,sh,xn⟩:PrT)) rfl (by simp [prC]) (by simp [prC]) Try.underlying47 Ke (by kernel_rfl) ?_
          have hba:=(Below.refl wb.heap.size wb).alloc nLe (.cells (prC (⟨sg,sh,xn⟩:PrT)).toArray 127)
          have HLIT:=Lh (Var.new wb (prC (⟨sg,sh,xn⟩:PrT)) 127 (c:=(prC (⟨sg,sh,xn⟩:PrT)).toArray) rfl)
          have HQ:=Lh (And.intro (HQ.out.1.under hba) (HQ.out.2.under hba))
          have HL:=Lh (HL.out.under hba)
          have HXS:=Lh (Nat.le_trans HXS.out hba.size)
          obtain ⟨wF,hwF⟩:∃ wF,wb.alloc (.cells (prC (⟨sg,sh,xn⟩:PrT)).toArray 127)=wF:=⟨_,rfl⟩
          obtain ⟨G5,hG5⟩:∃ G5,wb.heap.size=G5:=⟨_,rfl⟩
          rw [hwF] at HQ HL HXS HLIT
          rw [hG5] at HLIT
          rw [hwF,hG5]
          clear hwF hba hS0
          have hS0:=HS.out _ HQ.out
          refine hKK _ _ hS0 ?_
          clear hKK KK
          have HG5L:=Lh (show G5<wF.heap.size from HLIT.out.lt)
          refine Ql (i:=0) (fuel:=4) (by kernel_rfl) (by omega) rfl (fun KK hKK=>?_)
          go_simp
          have HO:=Lh (Own.empty wF NB 127 3 HXS.out)
          have hba:=(Below.refl wF.heap.size wF).alloc nLe (.cells #[] 127)
          have HQ:=Lh (And.intro (HQ.out.1.under hba) (HQ.out.2.under hba))
          have HL:=Lh (HL.out.under hba)
          have HLIT:=Lh (HLIT.out.under hba)
          have HOB:=Lh (show ∀ k,(Value.slice (some ⟨wF.heap.size,0,none⟩) 0 0).ownBlock=some k→k=wF.heap.size from fun k hk=>by cases hk;rfl)
          have HXS:=Lh (Nat.le_trans HXS.out hba.size)
          obtain ⟨wE,hwE⟩:∃ wE,wF.alloc (.cells #[] 127)=wE:=⟨_,rfl⟩
          obtain ⟨b0,hb0⟩:∃ b0,wF.heap.size=b0:=⟨_,rfl⟩
          have HBE:=Lh (show b0<wE.heap.size by rw [← hwE,← hb0];simp)
          rw [hwE] at HO HQ HL HXS HLIT
          rw [hb0] at HO HOB HG5L
          rw [hwE,hb0]
          clear hwE hba hS0
          have hS0:=HS.out _ HQ.out
          refine hKK _ _ hS0 ?_
          clear hKK KK
          have HLN:=Lh (show (Value.slice (some ⟨b0,0,none⟩) 0 0).ownBlock=some G5→False from fun e=>by have:=HOB.out _ e;have:=HG5L.out;omega)
          refine Ql (i:=3) (fuel:=3) (by kernel_rfl) (by omega) rfl (fun KK hKK=>?_)
          refine Qs rfl (.tmp 63) (.tmp 65) 47 rfl Qbp wE NB _ 0 [] (prs s) rfl HO.out A s.length c rfl (Qa6 s) HL.out.cells Qa7 (by omega) (by omega) ?_
          intro v3 w3 ho3 hb3 hg3
          have HQ:=Lh (And.intro (HQ.out.1.low ⟨hb3.os,hb3.tape,hb3.output,hb3.size,fun k hk=>hb3.block k (by have:=HB3.out;omega)⟩) (HQ.out.2.keep (hb3.block G HGB.out) hb3.size))
          have HO:=Lh (ho3.cast (n':=s.length) (by omega) (List.nil_append _))
          have HLIT:=Lh (HLIT.out.keep (hg3.block _ HLIT.out.lt (fun e=>HLN.out e.symm)) hg3.size)
          obtain ⟨A3,c3,rfl⟩:=HO.out.form
          have HXS:=Lh (Nat.le_trans HXS.out hb3.size)
          clear hS0 ho3 hb3 hg3
          have hS0:=HS.out _ HQ.out
          refine hKK _ _ hS0 ?_
          clear hKK KK
          refine Ql (i:=6) (fuel:=2) (by kernel_rfl) (by omega) rfl (fun KK hKK=>?_)
          refine Qs rfl (.tmp 66) (.tmp 68) 47 rfl Qbp w3 NB _ s.length (prs s) (prC (⟨sg,sh,xn⟩:PrT)) rfl HO.out (some ⟨G5,0,none⟩) 1 1 rfl rfl (fun _=>⟨G5,0,rfl,HLIT.out.rg⟩) (Yx _) (by omega) (by omega) ?_
          intro v6 w6 ho6 hb6 _
          obtain ⟨A6,c6,rfl⟩:=ho6.form
          have HQ:=Lh (And.intro (HQ.out.1.low ⟨hb6.os,hb6.tape,hb6.output,hb6.size,fun k hk=>hb6.block k (by have:=HB3.out;omega)⟩) (HQ.out.2.keep (hb6.block G HGB.out) hb6.size))
          have HO:=Lh (ho6.cast (show s.length+1=(s++[(⟨sg,sh,xn⟩:PrT)]).length by simp) (Ua s (⟨sg,sh,xn⟩:PrT)).symm)
          clear hS0
          have hS0:=HS.out _ HQ.out
          refine hKK _ _ hS0 ?_
          clear hKK KK ho6 hb6
          simp only [Act.put,sA,sB,sC]
          refine Qp 7 1 1 (by kernel_rfl) (fun _ _ d _ _ h=>by first | (cases d <;> exact h) | exact absurd h.1 (fun e=>nomatch e)) hS0 (fun hne=>?_)
          simp only [sD,sE,sF,sG]
          repeat (go_big_quiet_step (fail))
          refine wpQuiet_nil ?_
          refine Ja (i:=8) (fuel:=0) (by kernel_rfl) nLe rfl (fun KK hKK=>?_)
          refine Zb rfl 47 (.tmp 70) (.tmp 69) rfl (w.heap.size+1) 2 rfl (v:=.slice A6 (s.length+1) c6) (HQ.out.1.vm.there (by show 2+1≤7;omega)) rfl (by kernel_rfl) rfl ?_
          have ht:=Tn.set (M:=fun k=>k=w.heap.size+1) w6 (w.heap.size+1) 2 (.slice A6 (s.length+1) c6) rfl
          have HF:=Lh (HQ.out.1.set_m (us:=[v.im,.bool true,.slice A6 (s.length+1) c6,.bool he,v.ef,v.va,v.fn]) ht (HQ.out.1.vm.set 2 _ (by show 2<7;omega)))
          have hb3':=HB3.out
          have HL:=Lh ((ShV.of_own (S:=fun b=>S b∨w.heap.size+2<b) HO.out (fun b hb _ _=>.inr (by omega))).turn (S':=fun b=>S b∨w.heap.size+2<b) ht fun b hb h2=>⟨hb,fun e=>by rcases hb with hb | hb;have:=HSS.out b hb;omega;omega⟩)
          refine hKK _ _ ?_
          clear hKK KK q0 q1 q2 q3 HS hS0 ht HQ HO hb3'
          refine wpAny_done (by kernel_rfl) ?_ _
          try simp only [Act.put,sA,sB,sC]
          go_wp2_with fail
          go_roundw
          case rel=>exact ⟨q+1+2+1,g,s++[(⟨sg,sh,xn⟩:PrT)],A6,c6,rfl,by omega,by omega,by simp;omega,HE2,Lh (by have:=HL.out;rw [show (s++[(⟨sg,sh,xn⟩:PrT)]).length=s.length+1 from by simp] at this ⊢;exact this),Lh (by have:=HF.out;rw [show (s++[(⟨sg,sh,xn⟩:PrT)]).length=s.length+1 from by simp];exact this)⟩
          case measure=>simp [intOf];omega
end Go.Proofs.Ytjoclbeoafeebaa
