import Derived.Test.YtjoclbeoafeebaaSq
import Derived.Test.YtjoclbeoafeebaaRfI
set_option maxHeartbeats 3200000
set_option maxRecDepth 100000
namespace Go.Proofs.Ytjoclbeoafeebaa
set_option linter.unusedVariables false
set_option linter.unusedSimpArgs false
open Go.RowKit
theorem item_var(X:Ry)(hm:∀ i,(X.R.wd i).size≤1000000)(F f p:Nat)(m:MoT)(v:MoV)(S:Nat→Prop)(w:World)(hSw:∀ b,S b→b<w.heap.size)(hM:Zx w S m v)(h:X.In w w.heap.size)(hp:p<X.L.length)(hf:X.L.length<f)(hlm:m.va.length≤p)(h1:X.R.is p Qa4=true) :
  CP 37 #[.agg (ryC X).toArray,.agg (moC m.hl m.he v).toArray,.int .i64 (p:Int)] w (Qfj S (fit X.R F f m p) w):=by
 have hz:=Yp
 have hln:=h.2.len
 have hok:=Qo X.T X.L
 have HOK:=Lh hok
 have HSS:=Lh hSw
 have HMM:=Lh hM
 have HA0:Hid (∀ W,Below w.heap.size w W→CP 51 #[.agg (ryC X).toArray,.int .i64 (p:Int)] W fun e w'=>e=.returned (.string (X.R.wd p))∧Below W.heap.size W w'):=Lh fun W hW=>Qg X p W ((h.up hW nLe).more hW.size) (by omega)
 have HIN:=Lh h
 obtain ⟨s,hs⟩:∃ x,X.R.wd p=x:=⟨_,rfl⟩
 have g0:X.R.is p Qay=(s.toList==Qay):=by rw [← hs];rfl
 have g1:X.R.is p Uo=(s.toList==Uo):=by rw [← hs];rfl
 have g2:X.R.is p Ut=(s.toList==Ut):=by rw [← hs];rfl
 have g3:X.R.is p Qa4=(s.toList==Qa4):=by rw [← hs];rfl
 have g4:X.R.is p lFn=(s.toList==lFn):=by rw [← hs];rfl
 rw [hs] at HA0
 have HX:=Lh (Qm7 (F:=F) (f:=f) (m:=m) h1)
 have t0:(s.toList==Qay)=false:=g0.symm.trans (Zq h1 (by decide))
 have t1:(s.toList==Uo)=false:=g1.symm.trans (Zq h1 (by decide))
 have t2:(s.toList==Ut)=false:=g2.symm.trans (Zq h1 (by decide))
 have t3:(s.toList==Qa4)=true:=g3.symm.trans h1
 have t4:(s.toList==lFn)=false:=g4.symm.trans (Zq h1 (by decide))
 have hnv:=fun W (hW:Below w.heap.size w W)=>Qd1 X hm (p+1) W ((h.up hW nLe).more hW.size) hp
 have HWD:Hid (∀ q,q≤X.L.length→∀ W,Below w.heap.size w W→CP 56 #[.agg (ryC X).toArray,.int .i64 (q:Int),.string Jr] W fun e w'=>e=.returned (.int .i64 (if X.R.is q [59]=true then 0 else 11))∧Below W.heap.size W w'):=Lh fun q hq W hW=>by
  have:=K2 X q Jr W ((h.up hW nLe).more hW.size) (by omega)
  rwa [show Jr.toList=[59] from wd1 59 []] at this
 have hup:=Qcl hok (x:=(p+1,0)) hp
 obtain ⟨u,q',r',hz2⟩:∃ u q' r',fvr X.R (p+1,0)=(u,(q',r')):=⟨_,_,_,rfl⟩
 rw [hz2] at hnv hup HX
 have hq':q'≤X.L.length:=hup.n
 obtain ⟨Y,hY⟩:∃ Y,fit X.R F f m p=Y:=⟨_,rfl⟩
 rw [hY] at HX
 rw [hY]
 obtain ⟨hl,hhl⟩:∃ x,m.hl=x:=⟨_,rfl⟩
 obtain ⟨he,hhe⟩:∃ x,m.he=x:=⟨_,rfl⟩
 have HF:=Lh (Zv X w hl he v)
 have k1:(((w.alloc (.cells #[.string X.T,.slice X.A X.L.length X.c] 92)).alloc (.cells #[v.im,.bool hl,v.la,.bool he,v.ef,v.va,v.fn] 51)).alloc (.cells #[.slice none 0 0,.bool false,.slice none 0 0,.bool false,.slice none 0 0,.slice none 0 0,.slice none 0 0,.slice none 0 0,.string ⟨#[]⟩,.int .i64 0,.int .i64 0,.bool false,.bool false,.string ⟨#[]⟩,.int .i64 0,.int .i64 0,.slice none 0 0,.int .i64 0,.int .i64 0] 95)).cell? ⟨w.heap.size+1,1,none⟩=some (.bool hl):=HF.out.vm.at 1 rfl
 have HK:Hid (∀ W ms,F3 X w W (moC hl he v) ms→W.cell? ⟨w.heap.size+1,1,none⟩=some (.bool hl)∧W.cell? ⟨w.heap.size+1,3,none⟩=some (.bool he)):=Lh fun W ms h=>⟨h.vm.at 1 rfl,h.vm.at 3 rfl⟩
 rw [hhl,hhe]
 show CP 37 #[.agg #[.string X.T,.slice X.A X.L.length X.c],.agg #[v.im,.bool hl,v.la,.bool he,v.ef,v.va,v.fn],.int .i64 (p:Int)] w _
 clear hY hM h hSw hok hs g0 g1 g2 g3 g4 h1 hz2 hup
 obtain ⟨A,c,hve⟩:=HMM.out.va.frm
 have HVE:=Lh hve
 have HL0:=Lh (HMM.out.va.weak (S':=fun b=>S b∨w.heap.size+2<b) fun b hb _=>.inl hb)
 rw [hve] at HL0
 have HL:=Lh (((HL0.out.under ((Below.refl w.heap.size w).alloc nLe (.cells #[.string X.T,.slice X.A X.L.length X.c] 92))).under (bRf.alloc nLe (.cells #[v.im,.bool hl,v.la,.bool he,v.ef,v.va,v.fn] 51))).under (bRf.alloc nLe (.cells #[.slice none 0 0,.bool false,.slice none 0 0,.bool false,.slice none 0 0,.slice none 0 0,.slice none 0 0,.slice none 0 0,.string ⟨#[]⟩,.int .i64 0,.int .i64 0,.bool false,.bool false,.string ⟨#[]⟩,.int .i64 0,.int .i64 0,.slice none 0 0,.int .i64 0,.int .i64 0] 95)))
 clear HL0 hve
 by_cases hr:r'=0
 ·subst hr
  have HN:Hid (∀ W,Below w.heap.size w W→CP 57 #[.agg (ryC X).toArray,.int .i64 ((p:Int)+1)] W fun e w'=>e=.returned (.agg (gt moN Qk (vrC u) Qk (q':Int) 0).toArray)∧Below W.heap.size W w'):=Lh hnv
  have HW2:=Lh (HWD.out q' hq')
  clear hnv
  go_enter Try.func37,Try.ntmps37
  go_wp2_with (first
   | (refine Qb rfl 92 (.tmp 3) rfl w.heap.size 0 rfl (ryC X) HF.out.vr.rg Try.underlying92 rfl Qd ?_)
   | (go_at_call 51;(with_reducible refine (HA0.out _ HF.out.b).mono ?_);rintro e w2 ⟨rfl,b2⟩;have HL:=Lh (HL.out.under b2);have HF:=Lh (HF.out.under b2);clear b2;obtain ⟨k1,k3⟩:=HK.out _ _ HF.out;dsimp only)
   | (go_at_call 57;(with_reducible refine (HN.out _ HF.out.b).mono ?_);rintro e w8 ⟨rfl,b2⟩;have HL:=Lh (HL.out.under b2);have HF:=Lh (HF.out.under b2);clear b2;have hw8:=HF.out.lt;have HL1:=Lh (HL.out.weak (S':=fun b=>(S b∨w.heap.size+2<b)∧b≠w8.heap.size) fun b h1 h2=>⟨h1,by omega⟩);have HG:=Lh (Var.new w8 (gtE 0 0) 95 (c:=#[.slice none 0 0,.bool false,.slice none 0 0,.bool false,.slice none 0 0,.slice none 0 0,.slice none 0 0,.slice none 0 0,.string ⟨#[]⟩,.int .i64 0,.int .i64 0,.bool false,.bool false,.string ⟨#[]⟩,.int .i64 0,.int .i64 0,.slice none 0 0,.int .i64 0,.int .i64 0]) rfl);have HF:=Lh (HF.out.under (bRf.alloc nLe (.cells #[.slice none 0 0,.bool false,.slice none 0 0,.bool false,.slice none 0 0,.slice none 0 0,.slice none 0 0,.slice none 0 0,.string ⟨#[]⟩,.int .i64 0,.int .i64 0,.bool false,.bool false,.string ⟨#[]⟩,.int .i64 0,.int .i64 0,.slice none 0 0,.int .i64 0,.int .i64 0] 95)));have HL1:=Lh (HL1.out.under (bRf.alloc nLe (.cells #[.slice none 0 0,.bool false,.slice none 0 0,.bool false,.slice none 0 0,.slice none 0 0,.slice none 0 0,.slice none 0 0,.string ⟨#[]⟩,.int .i64 0,.int .i64 0,.bool false,.bool false,.string ⟨#[]⟩,.int .i64 0,.int .i64 0,.slice none 0 0,.int .i64 0,.int .i64 0] 95)));dsimp only;refine Hid.out ?_)
   | fail)
  refine Lh ?_
  go_wp2_with (first
   | (refine Qa rfl 95 (.tmp 8) (.tmp 86) rfl (G:=w8.heap.size) (off:=0) rfl (us:=gt moN Qk (vrC u) Qk (q':Int) 0) HG.out rfl Qc (Nat.le_refl 19) (Zy _ _ Ki rfl (Jj _) rfl) ?_;intro w9 ht hs;have HG:=Lh (show Var w9 w8.heap.size (gt moN Qk (vrC u) Qk (q':Int) 0) from hs);have HL:=Lh (HL1.out.turn (S':=fun b=>S b∨w.heap.size+2<b) ht fun b hb h2=>⟨hb.1,hb.2⟩);have HF:=Lh (HF.out.set_n ht (by omega));clear ht hs HL1;refine Hid.out ?_)
   | fail)
  obtain ⟨G,hG⟩:∃ G,w8.heap.size=G:=⟨_,rfl⟩
  have HG:Hid (Var w9 G (gt moN Qk (vrC u) Qk (q':Int) 0)):=Lh (by rw [← hG];exact HG.out)
  have hGw:w.heap.size+2<G:=by omega
  have j17:w9.cell? ⟨G,17,none⟩=some (.int .i64 (q':Int)):=HG.out.at 17 rfl
  have j18:w9.cell? ⟨G,18,none⟩=some (.int .i64 0):=HG.out.at 18 rfl
  rw [hG]
  clear hG
  cases h2:X.R.is q' [59] with
  | false =>
   rw [h2,if_neg (by decide)] at HW2
   have HE2:Hid (Y.2=(q',11)):=Lh (by rw [HX.out];exact Yb h2)
   clear HX h2
   refine Lh ?_
   go_wp2_with (first
    | (refine Qb rfl 92 (.tmp 3) rfl w.heap.size 0 rfl (ryC X) HF.out.vr.rg Try.underlying92 rfl Qd ?_)
    | (go_at_call 56;(with_reducible refine (HW2.out _ HF.out.b).mono ?_);rintro e w2 ⟨rfl,b2⟩;have HG:=Lh (HG.out.under b2);have HF:=Lh (HF.out.under b2);clear b2;have j17:=HG.out.at 17 (v:=.int .i64 (q':Int)) rfl;dsimp only)
    | (refine Qa rfl 95 (.tmp 6) (.tmp 98) rfl (G:=w.heap.size+2) (off:=0) rfl (us:=gtE (q':Int) 11) HF.out.vo rfl Qc (Nat.le_refl 19) (Qn _ _) ?_;intro w90 ht hs;have HF:=Lh (HF.out.set_o (us:=gtE (q':Int) 11) ht hs);clear ht hs)
    | fail)
   exact Qj 95 rfl rfl rfl HF.out.vo Try.underlying95 rfl Qc (Jd HE2.out (by decide) HF.out.b)
  | true =>
   rw [h2,if_pos rfl] at HW2
   have HE2:Hid (Y=({ m with va:=m.va++[u] },(q'+1,0))):=Lh (by rw [HX.out];exact congrArg (Prod.mk _) (Q5 h2))
   clear HX h2
   have HFIN:=Lh (fun (A6:Option Addr) (c6:Nat) (W:World) (hb:ShV W (fun b=>S b∨w.heap.size+2<b) (.slice A6 (m.va.length+1) c6) (m.va++[u]).length (vrs (m.va++[u]))) (hw:Below w.heap.size w W)=>(by
    have hm2:=(HMM.out.under hw).weak (S':=fun b=>S b∨w.heap.size≤b) fun b h _=>.inl h
    exact ⟨hm2.im,hm2.la,hm2.ef,hb.weak fun b h _=>h.imp_right fun h=>by omega,hm2.fn⟩:Zx W (fun b=>S b∨w.heap.size≤b) { m with va:=m.va++[u] } { v with va:=.slice A6 (m.va.length+1) c6 }))
   refine Lh ?_
   go_wp2_with (first
    | (refine Qb rfl 92 (.tmp 3) rfl w.heap.size 0 rfl (ryC X) HF.out.vr.rg Try.underlying92 rfl Qd ?_)
    | (go_at_call 56;(with_reducible refine (HW2.out _ HF.out.b).mono ?_);rintro e w2 ⟨rfl,b2⟩;have HL:=Lh (HL.out.under b2);have HG:=Lh (HG.out.under b2);have HF:=Lh (HF.out.under b2);clear b2;dsimp only)
    | fail)
   have HQ:=Lh (show F3 X w w2.drew [v.im,.bool hl,v.la,.bool he,v.ef,.slice A m.va.length c,v.fn] (gtE 0 0)∧Var w2.drew G (gt moN Qk (vrC u) Qk (q':Int) 0) by have:=HF.out.under (Qi _ _);unfold moC at this;rw [HVE.out] at this;exact ⟨this,HG.out.under (Qi _ _)⟩)
   have HL:=Lh (show ShV w2.drew (fun b=>S b∨w.heap.size+2<b) (.slice A m.va.length c) m.va.length (vrs m.va) from HL.out.under (Qi _ _))
   refine Jc (by kernel_rfl) 10 rfl ?_
   obtain ⟨wb,hwb⟩:∃ wb,w2.drew=wb:=⟨_,rfl⟩
   rw [hwb] at HQ HL
   rw [hwb]
   obtain ⟨NB,hNB⟩:∃ NB,wb.heap.size=NB:=⟨_,rfl⟩
   have HXS:=Lh (show NB≤wb.heap.size by omega)
   have HB3:=Lh (show w.heap.size+3≤NB by rw [← hNB];exact HQ.out.1.lt)
   obtain ⟨SS,hSd⟩:∃ SS:World→Prop,SS=fun W=>F3 X w W [v.im,.bool hl,v.la,.bool he,v.ef,.slice A m.va.length c,v.fn] (gtE 0 0)∧Var W G (gt moN Qk (vrC u) Qk (q':Int) 0):=⟨_,rfl⟩
   have HS:Hid (∀ W,(F3 X w W [v.im,.bool hl,v.la,.bool he,v.ef,.slice A m.va.length c,v.fn] (gtE 0 0)∧Var W G (gt moN Qk (vrC u) Qk (q':Int) 0))→SS W):=Lh fun W h=>by rw [hSd];exact h
   have hSF:∀ W,SS W→F3 X w W [v.im,.bool hl,v.la,.bool he,v.ef,.slice A m.va.length c,v.fn] (gtE 0 0)∧Var W G (gt moN Qk (vrC u) Qk (q':Int) 0):=by rw [hSd];exact fun W h=>h
   have q0:∀ x:SW SS,x.w.cell? ⟨w.heap.size+1,5,none⟩=some (.slice A m.va.length c):=fun x=>(hSF _ x.h).1.vm.at 5 rfl
   have q1:∀ x:SW SS,x.w.cell? ⟨G,8,none⟩=some (.string u.nm):=fun x=>(hSF _ x.h).2.at 8 rfl
   have q2:∀ x:SW SS,x.w.cell? ⟨G,9,none⟩=some (.int .i64 u.a):=fun x=>(hSF _ x.h).2.at 9 rfl
   have q3:∀ x:SW SS,x.w.cell? ⟨G,10,none⟩=some (.int .i64 u.ty):=fun x=>(hSF _ x.h).2.at 10 rfl
   have q4:∀ x:SW SS,x.w.cell? ⟨G,11,none⟩=some (.bool u.an.so):=fun x=>(hSF _ x.h).2.at 11 rfl
   have q5:∀ x:SW SS,x.w.cell? ⟨G,12,none⟩=some (.bool u.an.lk):=fun x=>(hSF _ x.h).2.at 12 rfl
   have q6:∀ x:SW SS,x.w.cell? ⟨G,13,none⟩=some (.string u.an.lb):=fun x=>(hSF _ x.h).2.at 13 rfl
   have q7:∀ x:SW SS,x.w.cell? ⟨G,14,none⟩=some (.int .i64 u.an.fr):=fun x=>(hSF _ x.h).2.at 14 rfl
   have q8:∀ x:SW SS,x.w.cell? ⟨G,15,none⟩=some (.int .i64 u.an.to):=fun x=>(hSF _ x.h).2.at 15 rfl
   have HGB:=Lh (show G<NB by rw [← hNB];exact HQ.out.2.lt)
   clear hNB
   have hS0:=HS.out _ HQ.out
   clear HF HG hwb hSF hSd j17 j18
   refine J2 SS 9 (by kernel_rfl) ?_
   refine Qp 1 2 8 (by kernel_rfl) (fun _ _ d _ _ h=>by first | (cases d <;> exact h) | exact absurd h.1 (fun e=>nomatch e)) hS0 (fun hne=>?_)
   simp only [sD,sE,sF,sG]
   repeat (go_big_quiet_step (fail))
   refine wpQuiet_nil ?_
   refine Qp 4 2 6 (by kernel_rfl) (fun _ _ d _ _ h=>by first | (cases d <;> exact h) | exact absurd h.1 (fun e=>nomatch e)) hS0 (fun hne=>?_)
   simp only [sD,sE,sF,sG]
   repeat (go_big_quiet_step (fail))
   refine wpQuiet_nil ?_
   refine Z9 (i:=0) (j:=6) (fuel:=5) (by kernel_rfl) (by omega) (by omega) rfl rfl (fun KK hKK=>?_) (fun KK hKK=>?_)
   ·go_simp
    have HO:=Lh (Own.empty wb NB 75 8 HXS.out)
    have hba:=(Below.refl wb.heap.size wb).alloc nLe (.cells #[] 75)
    have HQ:=Lh (And.intro (HQ.out.1.under hba) (HQ.out.2.under hba))
    have HL:=Lh (HL.out.under hba)
    have HOB:=Lh (show ∀ k,(Value.slice (some ⟨wb.heap.size,0,none⟩) 0 0).ownBlock=some k→k=wb.heap.size from fun k hk=>by cases hk;rfl)
    have HXS:=Lh (Nat.le_trans HXS.out hba.size)
    obtain ⟨wE,hwE⟩:∃ wE,wb.alloc (.cells #[] 75)=wE:=⟨_,rfl⟩
    obtain ⟨b0,hb0⟩:∃ b0,wb.heap.size=b0:=⟨_,rfl⟩
    have HBE:=Lh (show b0<wE.heap.size by rw [← hwE,← hb0];simp)
    rw [hwE] at HO HQ HL HXS
    rw [hb0] at HO HOB
    rw [hwE,hb0]
    clear hwE hba hS0
    have hS0:=HS.out _ HQ.out
    refine hKK _ _ hS0 ?_
    clear hKK KK
    refine Z9 (i:=3) (j:=6) (fuel:=4) (by kernel_rfl) (by omega) (by omega) rfl rfl (fun KK hKK=>?_) (fun KK hKK=>?_)
    ·refine Qs rfl (.tmp 99) (.tmp 101) 48 rfl Qf6 wE NB _ 0 [] (vrs m.va) rfl HO.out A m.va.length c rfl (Qh5 m.va) HL.out.cells Qh6 (by omega) (by omega) ?_
     intro v3 w3 ho3 hb3 hg3
     have HQ:=Lh (And.intro (HQ.out.1.low ⟨hb3.os,hb3.tape,hb3.output,hb3.size,fun k hk=>hb3.block k (by have:=HB3.out;omega)⟩) (HQ.out.2.keep (hb3.block G HGB.out) hb3.size))
     have HO:=Lh (ho3.cast (n':=m.va.length) (by omega) (List.nil_append _))
     obtain ⟨A3,c3,rfl⟩:=HO.out.form
     have HXS:=Lh (Nat.le_trans HXS.out hb3.size)
     clear hS0 ho3 hb3 hg3
     have hS0:=HS.out _ HQ.out
     refine hKK _ _ hS0 ?_
     clear hKK KK
     refine Ql (i:=6) (fuel:=3) (by kernel_rfl) (by omega) rfl (fun KK hKK=>?_)
     refine Q0 rfl 48 75 (.tmp 104) rfl (vrC u) rfl (by simp [vrC]) (by simp [vrC]) Try.underlying48 Yo (by kernel_rfl) ?_
     have hba:=(Below.refl w3.heap.size w3).alloc nLe (.cells (vrC u).toArray 75)
     have HLIT:=Lh (Var.new w3 (vrC u) 75 (c:=(vrC u).toArray) rfl)
     have HQ:=Lh (And.intro (HQ.out.1.under hba) (HQ.out.2.under hba))
     have HO:=Lh (HO.out.alloc (.cells (vrC u).toArray 75))
     have HXS:=Lh (Nat.le_trans HXS.out hba.size)
     obtain ⟨wF,hwF⟩:∃ wF,w3.alloc (.cells (vrC u).toArray 75)=wF:=⟨_,rfl⟩
     obtain ⟨G5,hG5⟩:∃ G5,w3.heap.size=G5:=⟨_,rfl⟩
     rw [hwF] at HQ HXS HLIT HO
     rw [hG5] at HLIT
     rw [hwF,hG5]
     clear hwF hba hS0
     have hS0:=HS.out _ HQ.out
     refine hKK _ _ hS0 ?_
     clear hKK KK
     refine Ql (i:=7) (fuel:=2) (by kernel_rfl) (by omega) rfl (fun KK hKK=>?_)
     refine Qs rfl (.tmp 102) (.tmp 105) 48 rfl Qf6 wF NB _ m.va.length (vrs m.va) (vrC u) rfl HO.out (some ⟨G5,0,none⟩) 1 1 rfl rfl (fun _=>⟨G5,0,rfl,HLIT.out.rg⟩) (Jj _) (by omega) (by omega) ?_
     intro v6 w6 ho6 hb6 _
     obtain ⟨A6,c6,rfl⟩:=ho6.form
     have HQ:=Lh (And.intro (HQ.out.1.low ⟨hb6.os,hb6.tape,hb6.output,hb6.size,fun k hk=>hb6.block k (by have:=HB3.out;omega)⟩) (HQ.out.2.keep (hb6.block G HGB.out) hb6.size))
     have HO:=Lh (ho6.cast (show m.va.length+1=(m.va++[u]).length by simp) (Qag m.va u).symm)
     clear hS0
     have hS0:=HS.out _ HQ.out
     refine hKK _ _ hS0 ?_
     clear hKK KK ho6 hb6
     simp only [Act.put,sA,sB,sC]
     refine Qp 8 1 1 (by kernel_rfl) (fun _ _ d _ _ h=>by first | (cases d <;> exact h) | exact absurd h.1 (fun e=>nomatch e)) hS0 (fun hne=>?_)
     simp only [sD,sE,sF,sG]
     repeat (go_big_quiet_step (fail))
     refine wpQuiet_nil ?_
     refine Ja (i:=9) (fuel:=0) (by kernel_rfl) nLe rfl (fun KK hKK=>?_)
     refine Zb rfl 48 (.tmp 107) (.tmp 106) rfl (w.heap.size+1) 5 rfl (v:=.slice A6 (m.va.length+1) c6) (HQ.out.1.vm.there (by show 5+1≤7;omega)) rfl (by kernel_rfl) rfl ?_
     have ht:=Tn.set (M:=fun k=>k=w.heap.size+1) w6 (w.heap.size+1) 5 (.slice A6 (m.va.length+1) c6) rfl
     have HG2:=Lh (HQ.out.2.turn ht (by omega))
     have HF:=Lh (HQ.out.1.set_m (us:=[v.im,.bool hl,v.la,.bool he,v.ef,.slice A6 (m.va.length+1) c6,v.fn]) ht (HQ.out.1.vm.set 5 _ (by show 5<7;omega)))
     have hb3':=HB3.out
     have HL:=Lh ((ShV.of_own (S:=fun b=>S b∨w.heap.size+2<b) HO.out (fun b hb _ _=>.inr (by omega))).turn (S':=fun b=>S b∨w.heap.size+2<b) ht fun b hb h2=>⟨hb,fun e=>by rcases hb with hb | hb;have:=HSS.out b hb;omega;omega⟩)
     refine hKK _ _ ?_
     clear hKK KK q0 q1 q2 q3 q4 q5 q6 q7 q8 HS hS0 ht HQ HO hb3'
     refine wpAny_done (by kernel_rfl) ?_ _
     try simp only [Act.put,sA,sB,sC]
     have HG:=HG2
     have j17:=HG.out.at 17 (v:=.int .i64 (q':Int)) rfl
     go_wp2_with (first
      | (refine Qb rfl 51 (.tmp 4) rfl (w.heap.size+1) 0 rfl [v.im,.bool hl,v.la,.bool he,v.ef,.slice A6 (m.va.length+1) c6,v.fn] HF.out.vm.rg Try.underlying51 rfl Q7 ?_)
      | (refine Qa rfl 95 (.tmp 6) (.tmp 112) rfl (G:=w.heap.size+2) (off:=0) rfl (us:=gt [v.im,.bool hl,v.la,.bool he,v.ef,.slice A6 (m.va.length+1) c6,v.fn] Qk (vrC VrT.nul) Qk ((q':Int)+1) 0) HF.out.vo rfl Qc (Nat.le_refl 19) (Zy _ _ (Zt (m:=m) (hl:=hl) (he:=he) (v:={ v with va:=.slice A6 (m.va.length+1) c6 }) HMM.out.im.one HMM.out.la.one HMM.out.ef.one rfl (by obtain ⟨_,_,h,_⟩:=HMM.out.fn;exact h.one)) rfl (Jj _) rfl) ?_;intro w90 ht hs;have HL:=Lh (HL.out.turn (S':=fun b=>S b∨w.heap.size+2<b) ht fun b hb h2=>⟨hb,fun e=>by rcases hb with hb | hb;have:=HSS.out b hb;omega;omega⟩);have HF:=Lh (HF.out.set_o (us:=gt [v.im,.bool hl,v.la,.bool he,v.ef,.slice A6 (m.va.length+1) c6,v.fn] Qk (vrC VrT.nul) Qk ((q':Int)+1) 0) ht hs);clear ht hs)
      | fail)
     rw [HE2.out]
     have hfin:=HFIN.out A6 c6 _ HL.out HF.out.b
     rw [hhl,hhe] at hfin
     rw [hhl,hhe]
     exact Qj 95 rfl rfl rfl HF.out.vo Try.underlying95 rfl Qc (Qgn (m:={ im:=m.im,hl:=hl,la:=m.la,he:=he,ef:=m.ef,va:=m.va++[u],fn:=m.fn }) (q:=q'+1) hfin HF.out.b)
    ·refine Q0 rfl 48 75 (.tmp 104) rfl (vrC u) rfl (by simp [vrC]) (by simp [vrC]) Try.underlying48 Yo (by kernel_rfl) ?_
     have hba:=(Below.refl wE.heap.size wE).alloc nLe (.cells (vrC u).toArray 75)
     have HLIT:=Lh (Var.new wE (vrC u) 75 (c:=(vrC u).toArray) rfl)
     have HQ:=Lh (And.intro (HQ.out.1.under hba) (HQ.out.2.under hba))
     have HL:=Lh (HL.out.under hba)
     have HO:=Lh (HO.out.alloc (.cells (vrC u).toArray 75))
     have HXS:=Lh (Nat.le_trans HXS.out hba.size)
     obtain ⟨wF,hwF⟩:∃ wF,wE.alloc (.cells (vrC u).toArray 75)=wF:=⟨_,rfl⟩
     obtain ⟨G5,hG5⟩:∃ G5,wE.heap.size=G5:=⟨_,rfl⟩
     have HLN:=Lh (show (Value.slice (some ⟨b0,0,none⟩) 0 0).ownBlock=some G5→False from fun e=>by have:=HOB.out _ e;have:=HBE.out;omega)
     rw [hwF] at HQ HL HXS HLIT HO
     rw [hG5] at HLIT
     rw [hwF,hG5]
     clear hwF hba hS0
     have hS0:=HS.out _ HQ.out
     refine hKK _ _ hS0 ?_
     clear hKK KK
     refine Ql (i:=3) (fuel:=3) (by kernel_rfl) (by omega) rfl (fun KK hKK=>?_)
     refine Qs rfl (.tmp 99) (.tmp 101) 48 rfl Qf6 wF NB _ 0 [] (vrs m.va) rfl HO.out A m.va.length c rfl (Qh5 m.va) HL.out.cells Qh6 (by omega) (by omega) ?_
     intro v3 w3 ho3 hb3 hg3
     have HQ:=Lh (And.intro (HQ.out.1.low ⟨hb3.os,hb3.tape,hb3.output,hb3.size,fun k hk=>hb3.block k (by have:=HB3.out;omega)⟩) (HQ.out.2.keep (hb3.block G HGB.out) hb3.size))
     have HO:=Lh (ho3.cast (n':=m.va.length) (by omega) (List.nil_append _))
     have HLIT:=Lh (HLIT.out.keep (hg3.block _ HLIT.out.lt (fun e=>HLN.out e.symm)) hg3.size)
     obtain ⟨A3,c3,rfl⟩:=HO.out.form
     have HXS:=Lh (Nat.le_trans HXS.out hb3.size)
     clear hS0 ho3 hb3 hg3
     have hS0:=HS.out _ HQ.out
     refine hKK _ _ hS0 ?_
     clear hKK KK
     refine Ql (i:=7) (fuel:=2) (by kernel_rfl) (by omega) rfl (fun KK hKK=>?_)
     refine Qs rfl (.tmp 102) (.tmp 105) 48 rfl Qf6 w3 NB _ m.va.length (vrs m.va) (vrC u) rfl HO.out (some ⟨G5,0,none⟩) 1 1 rfl rfl (fun _=>⟨G5,0,rfl,HLIT.out.rg⟩) (Jj _) (by omega) (by omega) ?_
     intro v6 w6 ho6 hb6 _
     obtain ⟨A6,c6,rfl⟩:=ho6.form
     have HQ:=Lh (And.intro (HQ.out.1.low ⟨hb6.os,hb6.tape,hb6.output,hb6.size,fun k hk=>hb6.block k (by have:=HB3.out;omega)⟩) (HQ.out.2.keep (hb6.block G HGB.out) hb6.size))
     have HO:=Lh (ho6.cast (show m.va.length+1=(m.va++[u]).length by simp) (Qag m.va u).symm)
     clear hS0
     have hS0:=HS.out _ HQ.out
     refine hKK _ _ hS0 ?_
     clear hKK KK ho6 hb6
     simp only [Act.put,sA,sB,sC]
     refine Qp 8 1 1 (by kernel_rfl) (fun _ _ d _ _ h=>by first | (cases d <;> exact h) | exact absurd h.1 (fun e=>nomatch e)) hS0 (fun hne=>?_)
     simp only [sD,sE,sF,sG]
     repeat (go_big_quiet_step (fail))
     refine wpQuiet_nil ?_
     refine Ja (i:=9) (fuel:=0) (by kernel_rfl) nLe rfl (fun KK hKK=>?_)
     refine Zb rfl 48 (.tmp 107) (.tmp 106) rfl (w.heap.size+1) 5 rfl (v:=.slice A6 (m.va.length+1) c6) (HQ.out.1.vm.there (by show 5+1≤7;omega)) rfl (by kernel_rfl) rfl ?_
     have ht:=Tn.set (M:=fun k=>k=w.heap.size+1) w6 (w.heap.size+1) 5 (.slice A6 (m.va.length+1) c6) rfl
     have HG2:=Lh (HQ.out.2.turn ht (by omega))
     have HF:=Lh (HQ.out.1.set_m (us:=[v.im,.bool hl,v.la,.bool he,v.ef,.slice A6 (m.va.length+1) c6,v.fn]) ht (HQ.out.1.vm.set 5 _ (by show 5<7;omega)))
     have hb3':=HB3.out
     have HL:=Lh ((ShV.of_own (S:=fun b=>S b∨w.heap.size+2<b) HO.out (fun b hb _ _=>.inr (by omega))).turn (S':=fun b=>S b∨w.heap.size+2<b) ht fun b hb h2=>⟨hb,fun e=>by rcases hb with hb | hb;have:=HSS.out b hb;omega;omega⟩)
     refine hKK _ _ ?_
     clear hKK KK q0 q1 q2 q3 q4 q5 q6 q7 q8 HS hS0 ht HQ HO hb3'
     refine wpAny_done (by kernel_rfl) ?_ _
     try simp only [Act.put,sA,sB,sC]
     have HG:=HG2
     have j17:=HG.out.at 17 (v:=.int .i64 (q':Int)) rfl
     go_wp2_with (first
      | (refine Qb rfl 51 (.tmp 4) rfl (w.heap.size+1) 0 rfl [v.im,.bool hl,v.la,.bool he,v.ef,.slice A6 (m.va.length+1) c6,v.fn] HF.out.vm.rg Try.underlying51 rfl Q7 ?_)
      | (refine Qa rfl 95 (.tmp 6) (.tmp 112) rfl (G:=w.heap.size+2) (off:=0) rfl (us:=gt [v.im,.bool hl,v.la,.bool he,v.ef,.slice A6 (m.va.length+1) c6,v.fn] Qk (vrC VrT.nul) Qk ((q':Int)+1) 0) HF.out.vo rfl Qc (Nat.le_refl 19) (Zy _ _ (Zt (m:=m) (hl:=hl) (he:=he) (v:={ v with va:=.slice A6 (m.va.length+1) c6 }) HMM.out.im.one HMM.out.la.one HMM.out.ef.one rfl (by obtain ⟨_,_,h,_⟩:=HMM.out.fn;exact h.one)) rfl (Jj _) rfl) ?_;intro w90 ht hs;have HL:=Lh (HL.out.turn (S':=fun b=>S b∨w.heap.size+2<b) ht fun b hb h2=>⟨hb,fun e=>by rcases hb with hb | hb;have:=HSS.out b hb;omega;omega⟩);have HF:=Lh (HF.out.set_o (us:=gt [v.im,.bool hl,v.la,.bool he,v.ef,.slice A6 (m.va.length+1) c6,v.fn] Qk (vrC VrT.nul) Qk ((q':Int)+1) 0) ht hs);clear ht hs)
      | fail)
     rw [HE2.out]
     have hfin:=HFIN.out A6 c6 _ HL.out HF.out.b
     rw [hhl,hhe] at hfin
     rw [hhl,hhe]
     exact Qj 95 rfl rfl rfl HF.out.vo Try.underlying95 rfl Qc (Qgn (m:={ im:=m.im,hl:=hl,la:=m.la,he:=he,ef:=m.ef,va:=m.va++[u],fn:=m.fn }) (q:=q'+1) hfin HF.out.b)
   ·refine Q0 rfl 48 75 (.tmp 104) rfl (vrC u) rfl (by simp [vrC]) (by simp [vrC]) Try.underlying48 Yo (by kernel_rfl) ?_
    have hba:=(Below.refl wb.heap.size wb).alloc nLe (.cells (vrC u).toArray 75)
    have HLIT:=Lh (Var.new wb (vrC u) 75 (c:=(vrC u).toArray) rfl)
    have HQ:=Lh (And.intro (HQ.out.1.under hba) (HQ.out.2.under hba))
    have HL:=Lh (HL.out.under hba)
    have HXS:=Lh (Nat.le_trans HXS.out hba.size)
    obtain ⟨wF,hwF⟩:∃ wF,wb.alloc (.cells (vrC u).toArray 75)=wF:=⟨_,rfl⟩
    obtain ⟨G5,hG5⟩:∃ G5,wb.heap.size=G5:=⟨_,rfl⟩
    rw [hwF] at HQ HL HXS HLIT
    rw [hG5] at HLIT
    rw [hwF,hG5]
    clear hwF hba hS0
    have hS0:=HS.out _ HQ.out
    refine hKK _ _ hS0 ?_
    clear hKK KK
    have HG5L:=Lh (show G5<wF.heap.size from HLIT.out.lt)
    refine Ql (i:=0) (fuel:=4) (by kernel_rfl) (by omega) rfl (fun KK hKK=>?_)
    go_simp
    have HO:=Lh (Own.empty wF NB 75 8 HXS.out)
    have hba:=(Below.refl wF.heap.size wF).alloc nLe (.cells #[] 75)
    have HQ:=Lh (And.intro (HQ.out.1.under hba) (HQ.out.2.under hba))
    have HL:=Lh (HL.out.under hba)
    have HLIT:=Lh (HLIT.out.under hba)
    have HOB:=Lh (show ∀ k,(Value.slice (some ⟨wF.heap.size,0,none⟩) 0 0).ownBlock=some k→k=wF.heap.size from fun k hk=>by cases hk;rfl)
    have HXS:=Lh (Nat.le_trans HXS.out hba.size)
    obtain ⟨wE,hwE⟩:∃ wE,wF.alloc (.cells #[] 75)=wE:=⟨_,rfl⟩
    obtain ⟨b0,hb0⟩:∃ b0,wF.heap.size=b0:=⟨_,rfl⟩
    have HBE:=Lh (show b0<wE.heap.size by rw [← hwE,← hb0];simp)
    rw [hwE] at HO HQ HL HXS HLIT
    rw [hb0] at HO HOB HG5L
    rw [hwE,hb0]
    clear hwE hba hS0
    have hS0:=HS.out _ HQ.out
    refine hKK _ _ hS0 ?_
    clear hKK KK
    have HLN:=Lh (show (Value.slice (some ⟨b0,0,none⟩) 0 0).ownBlock=some G5→False from fun e=>by have:=HOB.out _ e;have:=HG5L.out;omega)
    refine Ql (i:=3) (fuel:=3) (by kernel_rfl) (by omega) rfl (fun KK hKK=>?_)
    refine Qs rfl (.tmp 99) (.tmp 101) 48 rfl Qf6 wE NB _ 0 [] (vrs m.va) rfl HO.out A m.va.length c rfl (Qh5 m.va) HL.out.cells Qh6 (by omega) (by omega) ?_
    intro v3 w3 ho3 hb3 hg3
    have HQ:=Lh (And.intro (HQ.out.1.low ⟨hb3.os,hb3.tape,hb3.output,hb3.size,fun k hk=>hb3.block k (by have:=HB3.out;omega)⟩) (HQ.out.2.keep (hb3.block G HGB.out) hb3.size))
    have HO:=Lh (ho3.cast (n':=m.va.length) (by omega) (List.nil_append _))
    have HLIT:=Lh (HLIT.out.keep (hg3.block _ HLIT.out.lt (fun e=>HLN.out e.symm)) hg3.size)
    obtain ⟨A3,c3,rfl⟩:=HO.out.form
    have HXS:=Lh (Nat.le_trans HXS.out hb3.size)
    clear hS0 ho3 hb3 hg3
    have hS0:=HS.out _ HQ.out
    refine hKK _ _ hS0 ?_
    clear hKK KK
    refine Ql (i:=7) (fuel:=2) (by kernel_rfl) (by omega) rfl (fun KK hKK=>?_)
    refine Qs rfl (.tmp 102) (.tmp 105) 48 rfl Qf6 w3 NB _ m.va.length (vrs m.va) (vrC u) rfl HO.out (some ⟨G5,0,none⟩) 1 1 rfl rfl (fun _=>⟨G5,0,rfl,HLIT.out.rg⟩) (Jj _) (by omega) (by omega) ?_
    intro v6 w6 ho6 hb6 _
    obtain ⟨A6,c6,rfl⟩:=ho6.form
    have HQ:=Lh (And.intro (HQ.out.1.low ⟨hb6.os,hb6.tape,hb6.output,hb6.size,fun k hk=>hb6.block k (by have:=HB3.out;omega)⟩) (HQ.out.2.keep (hb6.block G HGB.out) hb6.size))
    have HO:=Lh (ho6.cast (show m.va.length+1=(m.va++[u]).length by simp) (Qag m.va u).symm)
    clear hS0
    have hS0:=HS.out _ HQ.out
    refine hKK _ _ hS0 ?_
    clear hKK KK ho6 hb6
    simp only [Act.put,sA,sB,sC]
    refine Qp 8 1 1 (by kernel_rfl) (fun _ _ d _ _ h=>by first | (cases d <;> exact h) | exact absurd h.1 (fun e=>nomatch e)) hS0 (fun hne=>?_)
    simp only [sD,sE,sF,sG]
    repeat (go_big_quiet_step (fail))
    refine wpQuiet_nil ?_
    refine Ja (i:=9) (fuel:=0) (by kernel_rfl) nLe rfl (fun KK hKK=>?_)
    refine Zb rfl 48 (.tmp 107) (.tmp 106) rfl (w.heap.size+1) 5 rfl (v:=.slice A6 (m.va.length+1) c6) (HQ.out.1.vm.there (by show 5+1≤7;omega)) rfl (by kernel_rfl) rfl ?_
    have ht:=Tn.set (M:=fun k=>k=w.heap.size+1) w6 (w.heap.size+1) 5 (.slice A6 (m.va.length+1) c6) rfl
    have HG2:=Lh (HQ.out.2.turn ht (by omega))
    have HF:=Lh (HQ.out.1.set_m (us:=[v.im,.bool hl,v.la,.bool he,v.ef,.slice A6 (m.va.length+1) c6,v.fn]) ht (HQ.out.1.vm.set 5 _ (by show 5<7;omega)))
    have hb3':=HB3.out
    have HL:=Lh ((ShV.of_own (S:=fun b=>S b∨w.heap.size+2<b) HO.out (fun b hb _ _=>.inr (by omega))).turn (S':=fun b=>S b∨w.heap.size+2<b) ht fun b hb h2=>⟨hb,fun e=>by rcases hb with hb | hb;have:=HSS.out b hb;omega;omega⟩)
    refine hKK _ _ ?_
    clear hKK KK q0 q1 q2 q3 q4 q5 q6 q7 q8 HS hS0 ht HQ HO hb3'
    refine wpAny_done (by kernel_rfl) ?_ _
    try simp only [Act.put,sA,sB,sC]
    have HG:=HG2
    have j17:=HG.out.at 17 (v:=.int .i64 (q':Int)) rfl
    go_wp2_with (first
     | (refine Qb rfl 51 (.tmp 4) rfl (w.heap.size+1) 0 rfl [v.im,.bool hl,v.la,.bool he,v.ef,.slice A6 (m.va.length+1) c6,v.fn] HF.out.vm.rg Try.underlying51 rfl Q7 ?_)
     | (refine Qa rfl 95 (.tmp 6) (.tmp 112) rfl (G:=w.heap.size+2) (off:=0) rfl (us:=gt [v.im,.bool hl,v.la,.bool he,v.ef,.slice A6 (m.va.length+1) c6,v.fn] Qk (vrC VrT.nul) Qk ((q':Int)+1) 0) HF.out.vo rfl Qc (Nat.le_refl 19) (Zy _ _ (Zt (m:=m) (hl:=hl) (he:=he) (v:={ v with va:=.slice A6 (m.va.length+1) c6 }) HMM.out.im.one HMM.out.la.one HMM.out.ef.one rfl (by obtain ⟨_,_,h,_⟩:=HMM.out.fn;exact h.one)) rfl (Jj _) rfl) ?_;intro w90 ht hs;have HL:=Lh (HL.out.turn (S':=fun b=>S b∨w.heap.size+2<b) ht fun b hb h2=>⟨hb,fun e=>by rcases hb with hb | hb;have:=HSS.out b hb;omega;omega⟩);have HF:=Lh (HF.out.set_o (us:=gt [v.im,.bool hl,v.la,.bool he,v.ef,.slice A6 (m.va.length+1) c6,v.fn] Qk (vrC VrT.nul) Qk ((q':Int)+1) 0) ht hs);clear ht hs)
     | fail)
    rw [HE2.out]
    have hfin:=HFIN.out A6 c6 _ HL.out HF.out.b
    rw [hhl,hhe] at hfin
    rw [hhl,hhe]
    exact Qj 95 rfl rfl rfl HF.out.vo Try.underlying95 rfl Qc (Qgn (m:={ im:=m.im,hl:=hl,la:=m.la,he:=he,ef:=m.ef,va:=m.va++[u],fn:=m.fn }) (q:=q'+1) hfin HF.out.b)
 ·have HN:Hid (∀ W,Below w.heap.size w W→CP 57 #[.agg (ryC X).toArray,.int .i64 ((p:Int)+1)] W fun e w'=>e=.returned (.agg (gtE (q':Int) r').toArray)∧Below W.heap.size W w'):=Lh fun W hW=>by
   have:=hnv W hW
   rwa [Qd0 rfl hr] at this
  have HE2:Hid (Y.2=(q',r')):=Lh (by rw [HX.out];exact Jg (x:=(q',r')) hr _)
  have hr1:(r'==0)=false:=by simp [hr]
  have hr2:(r' != 0)=true:=by simp [hr]
  have hr3:decide (r'=0)=false:=by simp [hr]
  have HRR:=Lh hr
  clear hnv HX hr
  go_enter Try.func37,Try.ntmps37
  go_wp2_with (first
   | (refine Qb rfl 92 (.tmp 3) rfl w.heap.size 0 rfl (ryC X) HF.out.vr.rg Try.underlying92 rfl Qd ?_)
   | (go_at_call 51;(with_reducible refine (HA0.out _ HF.out.b).mono ?_);rintro e w2 ⟨rfl,b2⟩;have HL:=Lh (HL.out.under b2);have HF:=Lh (HF.out.under b2);clear b2;obtain ⟨k1,k3⟩:=HK.out _ _ HF.out;dsimp only)
   | (go_at_call 57;(with_reducible refine (HN.out _ HF.out.b).mono ?_);rintro e w8 ⟨rfl,b2⟩;have HL:=Lh (HL.out.under b2);have HF:=Lh (HF.out.under b2);clear b2;have hw8:=HF.out.lt;have HL1:=Lh (HL.out.weak (S':=fun b=>(S b∨w.heap.size+2<b)∧b≠w8.heap.size) fun b h1 h2=>⟨h1,by omega⟩);have HG:=Lh (Var.new w8 (gtE 0 0) 95 (c:=#[.slice none 0 0,.bool false,.slice none 0 0,.bool false,.slice none 0 0,.slice none 0 0,.slice none 0 0,.slice none 0 0,.string ⟨#[]⟩,.int .i64 0,.int .i64 0,.bool false,.bool false,.string ⟨#[]⟩,.int .i64 0,.int .i64 0,.slice none 0 0,.int .i64 0,.int .i64 0]) rfl);have HF:=Lh (HF.out.under (bRf.alloc nLe (.cells #[.slice none 0 0,.bool false,.slice none 0 0,.bool false,.slice none 0 0,.slice none 0 0,.slice none 0 0,.slice none 0 0,.string ⟨#[]⟩,.int .i64 0,.int .i64 0,.bool false,.bool false,.string ⟨#[]⟩,.int .i64 0,.int .i64 0,.slice none 0 0,.int .i64 0,.int .i64 0] 95)));have HL1:=Lh (HL1.out.under (bRf.alloc nLe (.cells #[.slice none 0 0,.bool false,.slice none 0 0,.bool false,.slice none 0 0,.slice none 0 0,.slice none 0 0,.slice none 0 0,.string ⟨#[]⟩,.int .i64 0,.int .i64 0,.bool false,.bool false,.string ⟨#[]⟩,.int .i64 0,.int .i64 0,.slice none 0 0,.int .i64 0,.int .i64 0] 95)));dsimp only;refine Hid.out ?_)
   | fail)
  refine Lh ?_
  go_wp2_with (first
   | (refine Qa rfl 95 (.tmp 8) (.tmp 86) rfl (G:=w8.heap.size) (off:=0) rfl (us:=gtE (q':Int) r') HG.out rfl Qc (Nat.le_refl 19) (Qn _ _) ?_;intro w9 ht hs;have HG:=Lh (show Var w9 w8.heap.size (gtE (q':Int) r') from hs);have HL:=Lh (HL1.out.turn (S':=fun b=>S b∨w.heap.size+2<b) ht fun b hb h2=>⟨hb.1,hb.2⟩);have HF:=Lh (HF.out.set_n ht (by omega));clear ht hs HL1;refine Hid.out ?_)
   | fail)
  obtain ⟨G,hG⟩:∃ G,w8.heap.size=G:=⟨_,rfl⟩
  have HG:Hid (Var w9 G (gtE (q':Int) r')):=Lh (by rw [← hG];exact HG.out)
  have j18:w9.cell? ⟨G,18,none⟩=some (.int .i64 r'):=HG.out.at 18 rfl
  rw [hG]
  clear hG
  refine Lh ?_
  go_wp2_with (first
   | (refine Qb rfl 95 (.tmp 8) rfl G 0 rfl (gtE (q':Int) r') HG.out.rg Try.underlying95 rfl Qc ?_)
   | (refine Qa rfl 95 (.tmp 6) (.tmp 90) rfl (G:=w.heap.size+2) (off:=0) rfl (us:=gtE (q':Int) r') HF.out.vo rfl Qc (Nat.le_refl 19) (Qn _ _) ?_;intro w90 ht hs;have HF:=Lh (HF.out.set_o (us:=gtE (q':Int) r') ht hs);clear ht hs)
   | fail)
  exact Qj 95 rfl rfl rfl HF.out.vo Try.underlying95 rfl Qc (Jd HE2.out HRR.out HF.out.b)
structure MoT.Cap (m:MoT) (n:Nat):Prop where
 im:m.im.length≤n
 la:m.la.length≤n
 ef:m.ef.length≤n
 va:m.va.length≤n
 fn:m.fn.length≤n
theorem MoT.Cap.up{m:MoT}{n k:Nat}(h:m.Cap n)(hk:n≤k):m.Cap k:=
 ⟨Nat.le_trans h.im hk,Nat.le_trans h.la hk,Nat.le_trans h.ef hk,Nat.le_trans h.va hk,Nat.le_trans h.fn hk⟩
theorem MoT.nul_cap:MoT.nul.Cap 0:=⟨Nat.le_refl 0,Nat.le_refl 0,Nat.le_refl 0,Nat.le_refl 0,Nat.le_refl 0⟩
section
variable {R:Rw} {F f p:Nat} {m:MoT}
theorem lnsL_cap{τ:Type}{one:List τ→Nat×Int→List τ×(Nat×Int)}(hR:R.Ok)(ho:∀ s (x:Nat×Int),x.1≤R.n→Up R 1 x (one s x).2)(hl:∀ s x,(one s x).1.length=s.length+1) :
  ∀ (f:Nat) (s:List τ) (x:Nat×Int),x.1≤R.n→s.length≤x.1→(Qbo R one f s x).2.2=0→(Qbo R one f s x).1.length≤(Qbo R one f s x).2.1:=by
 intro f
 induction f with
 | zero=>intro s x _ h _;exact h
 | succ f ih =>
  intro s x hx h
  unfold Qbo
  by_cases h0:x.2=0
  ·rw [if_pos h0]
   cases hi:R.is x.1 [125] with
   | true =>
    rw [if_pos rfl]
    intro _
    show s.length≤x.1+1
    omega
   | false =>
    rw [if_neg (by decide)]
    intro he
    have h1:=ho s x hx
    have h3:Up R 2 x (mu R (one s x).2 [Jr]):=h1.trans (mw hR 59 [] h1.n)
    by_cases hb:(mu R (one s x).2 [Jr]).2=0
    ·have h4:=(h3.st hb).2
     exact ih _ _ h3.n (by rw [hl];omega) he
    ·rw [Zs hb] at he
     exact absurd he hb
  ·rw [if_neg h0]
   intro _
   exact h
theorem Qnb{τ:Type}{one:List τ→Nat×Int→List τ×(Nat×Int)}(hR:R.Ok)(ho:∀ s (x:Nat×Int),x.1≤R.n→Up R 1 x (one s x).2)(hl:∀ s x,(one s x).1.length=s.length+1)
  (f:Nat) (s:List τ) (x:Nat×Int) (hx:x.1≤R.n) (h:s.length≤x.1) (he:(lns R one f s x).2.2=0):(lns R one f s x).1.length≤(lns R one f s x).2.1:=by
 have h1:Up R 1 x (mu R x [Uy]):=mw hR 123 [] hx
 exact lnsL_cap hR ho hl f s _ h1.n (Nat.le_trans h h1.le) he
theorem onP_len(s:List PrT)(x:Nat×Int):(onP R s x).1.length=s.length+1:=by unfold onP;simp
theorem onN_len(s:List NmT)(x:Nat×Int):(onN R s x).1.length=s.length+1:=by unfold onN;simp
theorem Qnc(hR:R.Ok)(hp:p<R.n)(h:m.Cap p)(he:(fit R F f m p).2.2=0):(fit R F f m p).1.Cap (fit R F f m p).2.1∧p<(fit R F f m p).2.1∧(fit R F f m p).2.1≤R.n:=by
 have hn1:p+1≤R.n:=hp
 cases h0:R.is p Qay with
 | true =>
  rw [Qm4 h0] at he ⊢
  have h1:=Qbf hR (x:=(p+1,0)) hn1
  have h2:Up R 2 (p+1,0) (mu R (fnm R (p+1,0)).2 [Jr]):=h1.trans (mw hR 59 [] h1.n)
  have h3:p+1+2≤(mu R (fnm R (p+1,0)).2 [Jr]).1:=(h2.st he).2
  have hc:=h.up (k:=(mu R (fnm R (p+1,0)).2 [Jr]).1) (by omega)
  exact ⟨⟨by have:=h.im;show (m.im++[_]).length≤_;rw [List.length_append,List.length_singleton];dsimp only;omega,hc.la,hc.ef,hc.va,hc.fn⟩,by show p<(mu R (fnm R (p+1,0)).2 [Jr]).1;omega,h2.n⟩
 | false =>
  cases h1:R.is p Uo with
  | true =>
   cases hh:m.hl with
   | true=>rw [Qjg h1 hh] at he;exact absurd (show (11:Int)=0 from he) (by decide)
   | false =>
    rw [Qm5 h1 hh] at he ⊢
    have h2:=Qi2 hR (fun s x hx=>(Qmd hR s hx).weak (Nat.zero_le 1)) f m.la (x:=(p+1,0)) hn1
    have h3:p+1+1≤(lns R (onP R) f m.la (p+1,0)).2.1:=(h2.st he).2
    have hc:=h.up (k:=(lns R (onP R) f m.la (p+1,0)).2.1) (by omega)
    exact ⟨⟨hc.im,Qnb hR (fun s x hx=>Qmd hR s hx) onP_len f m.la _ hn1 (by have:=h.la;show m.la.length≤p+1;omega) he,hc.ef,hc.va,hc.fn⟩,by show p<(lns R (onP R) f m.la (p+1,0)).2.1;omega,h2.n⟩
  | false =>
   cases h2:R.is p Ut with
   | true =>
    cases hh:m.he with
    | true=>rw [Qjh h2 hh] at he;exact absurd (show (11:Int)=0 from he) (by decide)
    | false =>
     rw [Qm6 h2 hh] at he ⊢
     have h2:=Qi2 hR (fun s x hx=>(Qf5 hR s hx).weak (Nat.zero_le 1)) f m.ef (x:=(p+1,0)) hn1
     have h3:p+1+1≤(lns R (onN R) f m.ef (p+1,0)).2.1:=(h2.st he).2
     have hc:=h.up (k:=(lns R (onN R) f m.ef (p+1,0)).2.1) (by omega)
     exact ⟨⟨hc.im,hc.la,Qnb hR (fun s x hx=>Qf5 hR s hx) onN_len f m.ef _ hn1 (by have:=h.ef;show m.ef.length≤p+1;omega) he,hc.va,hc.fn⟩,by show p<(lns R (onN R) f m.ef (p+1,0)).2.1;omega,h2.n⟩
   | false =>
    cases h3:R.is p Qa4 with
    | true =>
     rw [Qm7 h3] at he ⊢
     have h1:=Qcl hR (x:=(p+1,0)) hn1
     have h2:Up R 2 (p+1,0) (mu R (fvr R (p+1,0)).2 [Jr]):=h1.trans (mw hR 59 [] h1.n)
     have h3:p+1+2≤(mu R (fvr R (p+1,0)).2 [Jr]).1:=(h2.st he).2
     have hc:=h.up (k:=(mu R (fvr R (p+1,0)).2 [Jr]).1) (by omega)
     exact ⟨⟨hc.im,hc.la,hc.ef,by have:=h.va;show (m.va++[_]).length≤_;rw [List.length_append,List.length_singleton];dsimp only;omega,hc.fn⟩,by show p<(mu R (fvr R (p+1,0)).2 [Jr]).1;omega,h2.n⟩
    | false =>
     cases h4:R.is p lFn with
     | true =>
      rw [fit_fn h4] at he ⊢
      have h2:=ffn_up hR F f (x:=(p,0)) (Nat.le_of_lt hp)
      have h3:p+1≤(ffn R F f (p,0)).2.1:=(h2.st he).2
      have hc:=h.up (k:=(ffn R F f (p,0)).2.1) (by omega)
      exact ⟨⟨hc.im,hc.la,hc.ef,hc.va,by have:=h.fn;show (m.fn++[_]).length≤_;rw [List.length_append,List.length_singleton];dsimp only;omega⟩,by show p<(ffn R F f (p,0)).2.1;omega,h2.n⟩
     | false =>
      rw [Qji h0 h1 h2 h3 h4] at he
      exact absurd (show (11:Int)=0 from he) (by decide)
end
theorem item_any(X:Ry)(hm:∀ i,(X.R.wd i).size≤1000000)(F f p:Nat)(m:MoT)(v:MoV)(S:Nat→Prop)(w:World)(hSw:∀ b,S b→b<w.heap.size)(hM:Zx w S m v)(h:X.In w w.heap.size)(hp:p<X.L.length)(hf:X.L.length<f)(hc:m.Cap p)(HFN:RFnC X F f) :
  CP 37 #[.agg (ryC X).toArray,.agg (moC m.hl m.he v).toArray,.int .i64 (p:Int)] w (Qfj S (fit X.R F f m p) w):=by
 cases h0:X.R.is p Qay with
 | true=>exact item_imp X hm F f p m v S w hSw hM h hp hf hc.im h0
 | false =>
  cases h1:X.R.is p Uo with
  | true =>
   cases hh:m.hl with
   | true=>have:=Qm8 X hm F f p m v S w hSw hM h hp hf h1 hh;rwa [hh] at this
   | false=>have:=item_lat X hm F f p m v S w hSw hM h hp hf hc.la h1 hh;rwa [hh] at this
  | false =>
   cases h2:X.R.is p Ut with
   | true =>
    cases hh:m.he with
    | true=>have:=Qm9 X hm F f p m v S w hSw hM h hp hf h2 hh;rwa [hh] at this
    | false=>have:=item_eff X hm F f p m v S w hSw hM h hp hf hc.ef h2 hh;rwa [hh] at this
   | false =>
    cases h3:X.R.is p Qa4 with
    | true=>exact item_var X hm F f p m v S w hSw hM h hp hf hc.va h3
    | false =>
     cases h4:X.R.is p lFn with
     | true=>exact item_fn X hm F f p m v S w hSw hM h hp hf hc.fn h4 HFN
     | false=>exact Qna X hm F f p m v S w hSw hM h hp hf h0 h1 h2 h3 h4
section
variable {R:Rw} {F f p q k:Nat} {r:Int} {x:Nat×Int}
def fz7(R:Rw)(F:Nat)(x:Nat×Int):Nat×Int:=mu R (pex R F (mu R x [Qmc])).2 [Jr,Km]
def fz6(R:Rw)(F f:Nat)(x:Nat×Int):Nat×Int:=fz7 R F (prow R F f (mu R x [Uy])).2
def fz5(R:Rw)(F f:Nat)(x:Nat×Int):Nat×Int:=fz6 R F f (if tkW R x [47]=true then lst R (onN R) Km f [] (mu R (tkX x true) [Uy]) else ([],x)).2
def fz3(R:Rw)(F f:Nat)(x:Nat×Int):Nat×Int:=fz5 R F f (pmk R (pty R (mu R x [Qek])).2).2
def fz2(R:Rw)(F f:Nat)(x:Nat×Int):Nat×Int:=fz3 R F f (lst R (onV R) Qda f [] (mu R x [Qc9])).2
theorem Qnd(x:Nat×Int):(ffn R F f x).2=fz2 R F f (fnm R (mu R x [wFn])).2:=rfl
theorem Qjj(h:¬ x.2=0):prow R F f x=([],x):=by unfold prow;rw [if_neg h]
theorem Qe5(h:¬ x.2=0):fz7 R F x=x:=by
 unfold fz7
 rw [Jg h,Qe0 h]
 dsimp only
 rw [Jg h]
theorem Qh7(h:¬ x.2=0):fz6 R F f x=x:=by
 unfold fz6
 rw [Jg h,Qjj h]
 exact Qe5 h
theorem Qe6(h:¬ x.2=0):fz5 R F f x=x:=by
 unfold fz5
 rw [show tkW R x [47]=false from tkW1 R x.1 h [47],if_neg (by decide)]
 exact Qh7 h
theorem Qh8(h:¬ x.2=0):fz3 R F f x=x:=by
 unfold fz3
 rw [Jg h,U2 h]
 dsimp only
 rw [Yy h]
 exact Qe6 h
theorem Qjk(h:¬ x.2=0):(lst R (onV R) Qda f [] x).2=x:=by
 have e:(onV R [] (x.1,x.2)).2=x:=by
  unfold onV
  rw [if_neg (show ¬ ([]:List VrT).length=8 by decide)]
  exact fvr_x h
 rw [show lst R (onV R) Qda f [] x=aft R (onV R) Qda f (onV R [] (x.1,x.2)) from Qmx h,U3 (by rw [e];exact h)]
 exact e
theorem Qne(h:¬ x.2=0):fz2 R F f x=x:=by
 unfold fz2
 rw [Jg h,Qjk h]
 exact Qh8 h
theorem e11:¬ (11:Int)=0:=by decide
theorem ffn_1(h:R.is p lFn=true)(h1:R.idn (p+1)=false):(ffn R F f (p,0)).2=(p+1,11):=by
 rw [Qnd,show mu R (p,0) [wFn]=(p+1,0) from Q5 h,Qdz h1]
 exact Qne e11
theorem ffn_a(h:R.is p lFn=true)(h1:R.idn (p+1)=true):(ffn R F f (p,0)).2=fz2 R F f (p+2,0):=by
 rw [Qnd,show mu R (p,0) [wFn]=(p+1,0) from Q5 h,Ya h1]
theorem fz2_no(h:R.is p [40]=false):fz2 R F f (p,0)=(p,11):=by
 unfold fz2
 rw [show mu R (p,0) [Qc9]=(p,11) from Yb h,Qjk e11]
 exact Qh8 e11
theorem fz2_yes(h:R.is p [40]=true):fz2 R F f (p,0)=fz3 R F f (lst R (onV R) Qda f [] (p+1,0)).2:=by
 unfold fz2
 rw [show mu R (p,0) [Qc9]=(p+1,0) from Q5 h]
theorem fz3_no(h:R.is p [58]=false):fz3 R F f (p,0)=(p,11):=by
 unfold fz3
 rw [show mu R (p,0) [Qek]=(p,11) from Yb h,U2 (x:=(p,11)) e11]
 dsimp only
 rw [Yy (x:=(p,11)) e11]
 exact Qe6 e11
theorem fz3_ty(h:R.is p [58]=true)(h1:tyI R (p+1)<0):fz3 R F f (p,0)=(p+1,11):=by
 have ht:pty R (p+1,0)=(0,(p+1,11)):=by unfold pty;rw [if_pos rfl,Qkp,if_pos h1]
 unfold fz3
 rw [show mu R (p,0) [Qek]=(p+1,0) from Q5 h,ht]
 dsimp only
 rw [Yy (x:=(p+1,11)) e11]
 exact Qe6 e11
theorem fz3_yes(h:R.is p [58]=true)(h1:¬ tyI R (p+1)<0):fz3 R F f (p,0)=fz5 R F f (Yz R (p+2)).2:=by
 have ht:pty R (p+1,0)=(tyI R (p+1),(p+2,0)):=by unfold pty;rw [if_pos rfl,Qkp,if_neg h1]
 unfold fz3
 rw [show mu R (p,0) [Qek]=(p+1,0) from Q5 h,ht]
 dsimp only
 rw [show pmk R (p+2,0)=Yz R (p+2) by unfold pmk;rw [if_pos rfl]]
theorem lstN_bad(h:¬ x.2=0):(lst R (onN R) Km f [] x).2=x:=by
 have e:(onN R [] (x.1,x.2)).2=x:=congrArg Prod.snd (Qmy (R:=R) (p:=x.1) h)
 rw [show lst R (onN R) Km f [] x=aft R (onN R) Km f (onN R [] (x.1,x.2)) from Qmx h,U3 (by rw [e];exact h)]
 exact e
theorem fz5_none(h:R.is p [47]=false):fz5 R F f (p,0)=fz6 R F f (p,0):=by
 unfold fz5
 rw [Qki,if_neg (by rw [h];decide)]
theorem fz5_no(h:R.is p [47]=true)(h1:R.is (p+1) [123]=false):fz5 R F f (p,0)=(p+1,11):=by
 unfold fz5
 rw [Qki,if_pos h,show mu R (tkX (p,0) true) [Uy]=(p+1,11) from Yb h1,lstN_bad e11]
 exact Qh7 e11
theorem fz5_yes(h:R.is p [47]=true)(h1:R.is (p+1) [123]=true):fz5 R F f (p,0)=fz6 R F f (lst R (onN R) Km f [] (p+2,0)).2:=by
 unfold fz5
 rw [Qki,if_pos h,show mu R (tkX (p,0) true) [Uy]=(p+2,0) from Q5 h1]
theorem fz6_no(h:R.is p [123]=false):fz6 R F f (p,0)=(p,11):=by
 unfold fz6
 rw [show mu R (p,0) [Uy]=(p,11) from Yb h,Qjj (x:=(p,11)) e11]
 exact Qe5 e11
theorem Qnf(h:R.is p [123]=true):fz6 R F f (p,0)=fz7 R F ((rs R F f (.row []) (p+1) 1).p,(rs R F f (.row []) (p+1) 1).r):=by
 have e:(prow R F f (p+1,0)).2=((rs R F f (.row []) (p+1) 1).p,(rs R F f (.row []) (p+1) 1).r):=by
  unfold prow
  rw [if_pos rfl]
  dsimp only
  by_cases h0:(rs R F f (.row []) (p+1) 1).r=0
  ·rw [if_pos h0,h0]
  ·rw [if_neg h0]
 unfold fz6
 rw [show mu R (p,0) [Uy]=(p+1,0) from Q5 h,e]
theorem fz7_no(h:R.is p Qla=false):fz7 R F (p,0)=(p,11):=by
 unfold fz7
 rw [show mu R (p,0) [Qmc]=(p,11) from Yb h,Qe0 (x:=(p,11)) e11]
 exact Jg (x:=(p,11)) e11 _
theorem Qng(h:R.is p Qla=true):fz7 R F (p,0)=mu R ((rd R F (.lev 1) (p+1) 0).p,(rd R F (.lev 1) (p+1) 0).r) [Jr,Km]:=by
 unfold fz7
 rw [show mu R (p,0) [Qmc]=(p+1,0) from Q5 h,show pex R F (p+1,0)=exS R F (p+1) by unfold pex;rw [if_pos rfl]]
 rfl
theorem mu2(x:Nat×Int)(a b:ByteArray):mu R x [a,b]=mu R (mu R x [a]) [b]:=by
 by_cases h:x.2=0
 ·unfold mu
  rw [if_pos h,if_pos h]
  unfold Qbn
  by_cases h1:R.is x.1 a.toList=true
  ·simp [h1,Qbn]
  ·simp [h1,Qbn]
 ·rw [Jg h,Jg h,Jg h]
theorem end_1(h:R.is p [59]=false):mu R (p,0) [Jr,Km]=(p,11):=by
 rw [mu2,show mu R (p,0) [Jr]=(p,11) from Yb h,Jg (x:=(p,11)) e11]
theorem end_2(h:R.is p [59]=true)(h1:R.is (p+1) [125]=false):mu R (p,0) [Jr,Km]=(p+1,11):=by
 rw [mu2,show mu R (p,0) [Jr]=(p+1,0) from Q5 h,show mu R (p+1,0) [Km]=(p+1,11) from Yb h1]
theorem end_3(h:R.is p [59]=true)(h1:R.is (p+1) [125]=true):mu R (p,0) [Jr,Km]=(p+2,0):=by
 rw [mu2,show mu R (p,0) [Jr]=(p+1,0) from Q5 h,show mu R (p+1,0) [Km]=(p+2,0) from Q5 h1]
theorem Qnh{ps:List VrT}{a:An}{j:Nat}{rl:List NmT}{g:Gs}{e:Gt}(h:R.is p lFn=true)(h1:R.idn (p+1)=true)(h2:R.is (p+2) [40]=true)(h3:lst R (onV R) Qda f [] (p+3,0)=(ps,(q,0)))(h4:R.is q [58]=true)(h5:¬ tyI R (q+1)<0)
  (h6:Yz R (q+2)=(a,(k,0))) (h7:(if R.is k [47]=true then lst R (onN R) Km f [] (mu R (k+1,0) [Uy]) else ([],(k,0)))=(rl,(j,0))) (h8:R.is j [123]=true) (hg:rs R F f (.row []) (j+1) 1=g) (h9:g.r=0) (h10:R.is g.p Qla=true)
  (he:rd R F (.lev 1) (g.p+1) 0=e) (h11:e.r=0) (h12:R.is e.p [59]=true) (h13:R.is (e.p+1) [125]=true) :
  ffn R F f (p,0)=(⟨R.wd (p+1),R.ps (p+1),ps,tyI R (q+1),a,R.is k [47],rl,g.l,e.e⟩,(e.p+2,0)):=by
 have ht:pty R (q+1,0)=(tyI R (q+1),(q+2,0)):=by unfold pty;rw [if_pos rfl,Qkp,if_neg h5]
 have hm:pmk R (q+2,0)=(a,(k,0)):=by unfold pmk;rw [if_pos rfl];exact h6
 have hb:prow R F f (j+1,0)=(g.l,(g.p,0)):=by
  unfold prow
  rw [if_pos rfl]
  dsimp only
  rw [hg,if_pos h9]
 have hx:pex R F (g.p+1,0)=(e.e,(e.p,0)):=by
  unfold pex exS
  rw [if_pos rfl]
  dsimp only
  rw [he,h11]
 have h7':(if tkW R (k,0) [47]=true then lst R (onN R) Km f [] (mu R (tkX (k,0) true) [Uy]) else ([],(k,0)))=(rl,(j,0)):=by rw [Qki];exact h7
 unfold ffn
 dsimp only
 rw [show mu R (p,0) [wFn]=(p+1,0) from Q5 h,Ya h1]
 dsimp only
 rw [show mu R (p+1+1,0) [Qc9]=(p+3,0) from Q5 h2,h3]
 dsimp only
 rw [show mu R (q,0) [Qek]=(q+1,0) from Q5 h4,ht]
 dsimp only
 rw [hm]
 dsimp only
 rw [h7',Qki]
 dsimp only
 rw [show mu R (j,0) [Uy]=(j+1,0) from Q5 h8,hb]
 dsimp only
 rw [show mu R (g.p,0) [Qmc]=(g.p+1,0) from Q5 h10,hx]
 dsimp only
 rw [end_3 h12 h13]
end
end Go.Proofs.Ytjoclbeoafeebaa
