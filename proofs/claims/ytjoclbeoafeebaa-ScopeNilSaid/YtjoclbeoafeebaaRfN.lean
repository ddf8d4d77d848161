import Derived.Test.YtjoclbeoafeebaaSq
import Derived.Test.YtjoclbeoafeebaaRfA
set_option maxHeartbeats 3200000
set_option maxRecDepth 100000
namespace Go.Proofs.Ytjoclbeoafeebaa
set_option linter.unusedVariables false
set_option linter.unusedSimpArgs false
open Go.RowKit
theorem Qh4{R:Rw}{s:List NmT}{q:Nat}(h:R.idn q=true):onN R s (q,0)=(s++[⟨R.wd q,R.ps q⟩],(q+1,0)):=by unfold onN;rw [Ya h]
theorem Qm1{R:Rw}{s:List NmT}{q:Nat}(h:R.idn q=false):(onN R s (q,0)).2=(q,11):=by unfold onN;rw [Qdz h]
theorem Qkr(X:Ry)(hm:∀ i,(X.R.wd i).size≤1000000)(f p:Nat)(w:World)(h:X.In w w.heap.size)(hp:p≤X.L.length)(hf:X.L.length<f) :
  CP 68 #[.agg (ryC X).toArray,.int .i64 (p:Int)] w (NlTo (lst X.R (onN X.R) Km f [] (p,0)) w):=by
 have hz:=Yp
 have hln:=h.2.len
 have hok:=Qo X.T X.L
 have HAT:Hid (∀ q,q≤X.L.length→∀ W,Below w.heap.size w W→CP 51 #[.agg (ryC X).toArray,.int .i64 (q:Int)] W fun e w'=>e=.returned (.string (X.R.wd q))∧Below W.heap.size W w'):=Lh fun q hq W hW=>Qg X q W ((h.up hW nLe).more hW.size) (by omega)
 have HPO:Hid (∀ q,q≤X.L.length→∀ W,Below w.heap.size w W→CP 38 #[.agg (ryC X).toArray,.int .i64 (q:Int)] W fun e w'=>e=.returned (.int .i64 (X.R.ps q))∧Below W.heap.size W w'):=Lh fun q hq W hW=>Qz X q W ((h.up hW nLe).more hW.size) (by omega)
 have HNA:Hid (∀ q,q≤X.L.length→∀ W,Below w.heap.size w W→CP 55 #[.agg (ryC X).toArray,.int .i64 (q:Int)] W fun e w'=>e=.returned (.bool (X.R.idn q))∧Below W.heap.size W w'):=Lh fun q hq W hW=>Y1 X hm q W ((h.up hW nLe).more hW.size) (by omega)
 have HF:=Lh (Qe3 X w)
 have HOK:=Lh hok
 obtain ⟨Y,hY⟩:∃ Y,lst X.R (onN X.R) Km f [] (p,0)=Y:=⟨_,rfl⟩
 have HY:Hid (prR X.R (onN X.R) Km f [] p=Y):=Lh (by rw [← hY];rfl)
 rw [hY]
 clear h hY hok
 show CP 68 #[.agg #[.string X.T,.slice X.A X.L.length X.c],.int .i64 (p:Int)] w _
 go_enter Try.func68,Try.ntmps68
 go_wp2_with fail
 obtain ⟨w1,hw1⟩:∃ w1,(w.alloc (.cells #[.string X.T,.slice X.A X.L.length X.c] 92)).alloc (.cells #[.slice none 0 0,.bool false,.slice none 0 0,.bool false,.slice none 0 0,.slice none 0 0,.slice none 0 0,.slice none 0 0,.string ⟨#[]⟩,.int .i64 0,.int .i64 0,.bool false,.bool false,.string ⟨#[]⟩,.int .i64 0,.int .i64 0,.slice none 0 0,.int .i64 0,.int .i64 0] 95)=w1:=⟨_,rfl⟩
 rw [hw1] at HF
 rw [hw1]
 clear hw1
 have hlt1:=HF.out.lt
 go_loopw [1,5] (fun a u wr=>∃ (q g:Nat) (s:List NmT) (uu:Value),a=.int .i64 (q:Int)∧u=uu∧q≤X.L.length∧X.L.length-q<g∧s.length≤q∧Hid (prR X.R (onN X.R) Km g s q=Y)∧Hid (Own wr (w.heap.size+2) 53 2 uu s.length (nms s))∧Hid (Fm X w wr (gtE 0 0))) (fun a _ _=>X.L.length-(intOf a).toNat)
 case atStart=>exact ⟨p,f,[],_,rfl,rfl,hp,by omega,Nat.zero_le _,HY,Lh (Own.nil _ _ _ _ (by omega)),HF⟩
 case round =>
  clear hp hf HY HF hlt1
  obtain ⟨q,g,s,uu,rfl,rfl,hq,hg,hs8,HY,HO,HF⟩:=hrel
  obtain ⟨wa,hwa⟩:∃ wa,wa=wr:=⟨_,rfl⟩
  subst hwa
  obtain ⟨A,c,rfl⟩:=HO.out.form
  have HA0:=Lh (HAT.out q hq)
  obtain ⟨sg,hsg⟩:∃ v,X.R.wd q=v:=⟨_,rfl⟩
  have hC1:X.R.is q [125]=(sg.toList==[125]):=by rw [← hsg];rfl
  have hC2:X.R.is q [44]=(sg.toList==[44]):=by rw [← hsg];rfl
  have HSG:=Lh hsg
  rw [hsg] at HA0
  clear hsg
  cases c1:(sg.toList==[125]) with
  | true =>
   have HE:Hid (Y=(s,(q+1,0))):=Lh (HY.out.symm.trans (Qmz (hC1.trans c1) (by decide)))
   clear hC1 hC2
   go_wp2_with (first
    | (refine Qb rfl 92 (.tmp 2) rfl w.heap.size 0 rfl (ryC X) HF.out.vr.rg Try.underlying92 rfl Qd ?_)
    | (go_at_call 51;(with_reducible refine (HA0.out _ HF.out.b).mono ?_);rintro e w2 ⟨rfl,b2⟩;have HF:=Lh (HF.out.under b2);have HO:=Lh (HO.out.below b2);clear b2;dsimp only)
    | (refine Qa rfl 95 (.tmp 4) (.tmp 42) rfl (G:=w.heap.size+1) (off:=0) rfl (us:=gt moN (.slice A s.length c) (vrC VrT.nul) Qk ((q:Int)+1) 0) HF.out.vo rfl Qc (Nat.le_refl 19) (Zy _ _ Ki rfl (Jj _) rfl) ?_;intro w90 ht hs;have HO:=Lh (HO.out.turn ht fun k hk e=>by have:=HO.out.block_ge k hk;omega);have HF:=Lh (HF.out.set_o (us:=gt moN (.slice A s.length c) (vrC VrT.nul) Qk ((q:Int)+1) 0) ht hs);clear ht hs)
    | fail)
   rw [HE.out]
   exact Qj 95 rfl rfl rfl HF.out.vo Try.underlying95 rfl Qc (nl_ok (q:=q+1) HO.out HF.out.b)
  | false =>
   have hn1:=hC1.trans c1
   by_cases hs0:s.length=0
   ·obtain rfl:s=[]:=List.eq_nil_of_length_eq_zero hs0
    have HO:Hid (Own wa (w.heap.size+2) 53 2 (.slice A 0 c) 0 []):=HO
    have HE:=Lh (HY.out.symm.trans (prR_0 hn1 hs0))
    clear hs0 hs8
    have HNM:=Lh (HNA.out q hq)
    have HPN:=Lh (HPO.out q hq)
    have HAN:=HA0
    cases hi:X.R.idn q with
    | false =>
     rw [hi] at HNM
     have HE2:Hid (Y.2=(q,11)):=Lh (by
      have e:=Qm1 (s:=[]) hi
      rw [HE.out,U3 (by rw [e];exact (show ¬ (11:Int)=0 by decide)),e])
     clear hC1 hC2 hn1 HE hi HPN HAN
     go_wp2_with (first
      | (refine Qb rfl 92 (.tmp 2) rfl w.heap.size 0 rfl (ryC X) HF.out.vr.rg Try.underlying92 rfl Qd ?_)
      | (go_at_call 51;(with_reducible refine (HA0.out _ HF.out.b).mono ?_);rintro e w2 ⟨rfl,b2⟩;have HF:=Lh (HF.out.under b2);have HO:=Lh (HO.out.below b2);clear b2;dsimp only)
      | (go_at_call 55;(with_reducible refine (HNM.out _ HF.out.b).mono ?_);rintro e w2 ⟨rfl,b2⟩;have HF:=Lh (HF.out.under b2);have HO:=Lh (HO.out.below b2);clear b2;dsimp only)
      | (refine Qa rfl 95 (.tmp 4) (.tmp 26) rfl (G:=w.heap.size+1) (off:=0) rfl (us:=gtE (q:Int) 11) HF.out.vo rfl Qc (Nat.le_refl 19) (Qn _ _) ?_;intro w90 ht hs;have HO:=Lh (HO.out.turn ht fun k hk e=>by have:=HO.out.block_ge k hk;omega);have HF:=Lh (HF.out.set_o (us:=gtE (q:Int) 11) ht hs);clear ht hs)
      | fail)
     exact Qj 95 rfl rfl rfl HF.out.vo Try.underlying95 rfl Qc (Qm0 HE2.out (by decide) HF.out.b)
    | true =>
     rw [hi] at HNM
     have hql:q<X.L.length:=HOK.out.id_lt hi
     have HE2:Hid (prR X.R (onN X.R) Km g [⟨sg,X.R.ps q⟩] (q+1)=Y):=Lh (by rw [HE.out,Qh4 hi,HSG.out];exact (Qjd (by simp)).symm)
     clear hC1 hC2 hn1 HE hi
     obtain ⟨xn,hxn⟩:∃ v,X.R.ps q=v:=⟨_,rfl⟩
     rw [hxn] at HE2 HPN
     clear hxn
     obtain ⟨SS,hSd⟩:∃ SS:World→Prop,SS=fun W=>Fm X w W (gtE 0 0):=⟨_,rfl⟩
     have HS:Hid (∀ W,Fm X w W (gtE 0 0)→SS W):=Lh fun W h=>by rw [hSd];exact h
     have hSF:∀ W,SS W→Fm X w W (gtE 0 0):=by rw [hSd];exact fun W h=>h
     have q0:∀ s:SW SS,s.w.cell? ⟨w.heap.size,0,none⟩=some (.string X.T):=fun s=>(hSF _ s.h).vr.at 0 rfl
     have q1:∀ s:SW SS,s.w.cell? ⟨w.heap.size,1,none⟩=some (.slice X.A X.L.length X.c):=fun s=>(hSF _ s.h).vr.at 1 rfl
     clear hSd hSF
     go_wp2_with (first
      | (refine Qb rfl 92 (.tmp 2) rfl w.heap.size 0 rfl (ryC X) HF.out.vr.rg Try.underlying92 rfl Qd ?_)
      | (go_at_call 51;(with_reducible refine (HA0.out _ HF.out.b).mono ?_);rintro e w2 ⟨rfl,b2⟩;have HF:=Lh (HF.out.under b2);have HO:=Lh (HO.out.below b2);clear b2;dsimp only)
      | (go_at_call 55;(with_reducible refine (HNM.out _ HF.out.b).mono ?_);rintro e w2 ⟨rfl,b2⟩;have HF:=Lh (HF.out.under b2);have HO:=Lh (HO.out.below b2);clear b2;dsimp only)
      | fail)
     have HQ:=Lh (HF.out.under (Qi _ _))
     have HO:=Lh (HO.out.drew)
     have hS0:=HS.out _ HQ.out
     clear HF
     refine Jc (by kernel_rfl) 11 rfl ?_
     refine J2 SS 10 (by kernel_rfl) ?_
     refine Qp 0 3 8 (by kernel_rfl) (fun _ _ d _ _ h=>by cases d <;> exact h) hS0 (fun hne=>?_)
     simp only [sD,sE,sF,sG]
     repeat (go_big_quiet_step (fail))
     refine wpQuiet_nil ?_
     refine Qp 4 2 6 (by kernel_rfl) (fun _ _ d _ _ h=>by cases d <;> exact h) hS0 (fun hne=>?_)
     simp only [sD,sE,sF,sG]
     repeat (go_big_quiet_step (fail))
     refine wpQuiet_nil ?_
     refine Ql (i:=3) (fuel:=5) (by kernel_rfl) (by omega) rfl (fun KK hKK=>?_)
     go_simp
     with_reducible refine (HAN.out _ HQ.out.b).mono ?_
     rintro e wy ⟨rfl,bb⟩
     have HO:=Lh (HO.out.below bb)
     have HQ:=Lh (HQ.out.under bb)
     clear bb hS0
     have hS0:=HS.out _ HQ.out
     refine hKK _ _ hS0 ?_
     clear hKK KK
     refine Ql (i:=6) (fuel:=4) (by kernel_rfl) (by omega) rfl (fun KK hKK=>?_)
     go_simp
     with_reducible refine (HPN.out _ HQ.out.b).mono ?_
     rintro e wy ⟨rfl,bb⟩
     have HO:=Lh (HO.out.below bb)
     have HQ:=Lh (HQ.out.under bb)
     clear bb hS0
     have hS0:=HS.out _ HQ.out
     refine hKK _ _ hS0 ?_
     clear hKK KK
     refine Qp 7 1 3 (by kernel_rfl) (fun _ _ d _ _ h=>by cases d <;> exact h) hS0 (fun hne=>?_)
     simp only [sD,sE,sF,sG]
     repeat (go_big_quiet_step (fail))
     refine wpQuiet_nil ?_
     refine Ql (i:=8) (fuel:=2) (by kernel_rfl) (by omega) rfl (fun KK hKK=>?_)
     refine Q0 rfl 46 53 (.tmp 34) rfl (nmC ⟨sg,xn⟩) rfl (by simp [nmC]) (by simp [nmC]) Try.underlying46 Qeo (by kernel_rfl) ?_
     refine hKK _ _ (HS.out _ (HQ.out.under bAl)) ?_
     clear hKK KK
     refine Ql (i:=9) (fuel:=1) (by kernel_rfl) (by omega) rfl (fun KK hKK=>?_)
     refine Ka rfl (.tmp 27) (.tmp 35) 46 rfl Qkg wy (w.heap.size+2) (.slice A 0 c) 0 [] (nmC ⟨sg,xn⟩) rfl HO.out rfl rfl rfl (Qcm _) (by omega) (by omega) ?_
     intro v6 w6 ho6 hg6 hv6
     obtain ⟨A6,c6,rfl⟩:=ho6.form
     have HLO:=Lh (((Below.refl (w.heap.size+2) wy).alloc HO.out.2 (.cells (nmC ⟨sg,xn⟩).toArray 53)).grown hg6 (by have:=HO.out.2;simp;omega) (fun k hk=>HO.out.block_ge k hk))
     have HF:=Lh (HQ.out.low HLO.out)
     have HO:=Lh (ho6.cast (show 0+1=([⟨sg,xn⟩]:List NmT).length by simp) (Qb0 [] ⟨sg,xn⟩).symm)
     refine hKK _ _ (HS.out _ HF.out) ?_
     clear hKK KK ho6 hg6 hv6 q0 q1 HS hS0 HLO
     refine Ja (i:=10) (fuel:=0) (by kernel_rfl) nLe rfl (fun KK hKK=>?_)
     go_simp
     refine hKK _ _ ?_
     clear hKK KK
     refine wpAny_done (by kernel_rfl) ?_ _
     try simp only [Act.put,sA,sB,sC]
     go_wp2_with fail
     go_roundw
     case rel=>exact ⟨q+1,g,[⟨sg,xn⟩],_,rfl,rfl,by omega,by omega,(by simp <;> omega),HE2,HO,HF⟩
     case measure=>simp [intOf];omega
   ·have hl0:0<s.length:=by omega
    cases c2:(sg.toList==[44]) with
    | false =>
     have HE:Hid (Y.2=(q,11)):=Lh (by rw [← HY.out,prR_no hn1 hs0 (hC2.trans c2)])
     clear hC1 hC2 hn1
     go_wp2_with (first
      | (refine Qb rfl 92 (.tmp 2) rfl w.heap.size 0 rfl (ryC X) HF.out.vr.rg Try.underlying92 rfl Qd ?_)
      | (go_at_call 51;(with_reducible refine (HA0.out _ HF.out.b).mono ?_);rintro e w2 ⟨rfl,b2⟩;have HF:=Lh (HF.out.under b2);have HO:=Lh (HO.out.below b2);clear b2;dsimp only)
      | (refine Qa rfl 95 (.tmp 4) (.tmp 18) rfl (G:=w.heap.size+1) (off:=0) rfl (us:=gtE (q:Int) 11) HF.out.vo rfl Qc (Nat.le_refl 19) (Qn _ _) ?_;intro w90 ht hs;have HO:=Lh (HO.out.turn ht fun k hk e=>by have:=HO.out.block_ge k hk;omega);have HF:=Lh (HF.out.set_o (us:=gtE (q:Int) 11) ht hs);clear ht hs)
      | fail)
     exact Qj 95 rfl rfl rfl HF.out.vo Try.underlying95 rfl Qc (Qm0 HE.out (by decide) HF.out.b)
    | true =>
     have hql:q<X.L.length:=HOK.out.is_lt (hC2.trans c2)
     obtain ⟨g,rfl⟩:∃ g',g=g'+1:=⟨g-1,by omega⟩
     have HE:=Lh (HY.out.symm.trans (prR_on hs0 (hC2.trans c2)))
     have HNM:Hid (∀ W,Below w.heap.size w W→CP 55 #[.agg (ryC X).toArray,.int .i64 ((q:Int)+1)] W fun e w'=>e=.returned (.bool (X.R.idn (q+1)))∧Below W.heap.size W w'):=Lh (HNA.out (q+1) hql)
     have HPN:Hid (∀ W,Below w.heap.size w W→CP 38 #[.agg (ryC X).toArray,.int .i64 ((q:Int)+1)] W fun e w'=>e=.returned (.int .i64 (X.R.ps (q+1)))∧Below W.heap.size W w'):=Lh (HPO.out (q+1) hql)
     have HAN:Hid (∀ W,Below w.heap.size w W→CP 51 #[.agg (ryC X).toArray,.int .i64 ((q:Int)+1)] W fun e w'=>e=.returned (.string (X.R.wd (q+1)))∧Below W.heap.size W w'):=Lh (HAT.out (q+1) hql)
     cases hi:X.R.idn (q+1) with
     | false =>
      rw [hi] at HNM
      have HE2:Hid (Y.2=(q+1,11)):=Lh (by
       have e:=Qm1 (s:=s) hi
       rw [HE.out,U3 (by rw [e];exact (show ¬ (11:Int)=0 by decide)),e])
      clear hC1 hC2 hn1 HE hi HPN HAN
      go_wp2_with (first
       | (refine Qb rfl 92 (.tmp 2) rfl w.heap.size 0 rfl (ryC X) HF.out.vr.rg Try.underlying92 rfl Qd ?_)
       | (go_at_call 51;(with_reducible refine (HA0.out _ HF.out.b).mono ?_);rintro e w2 ⟨rfl,b2⟩;have HF:=Lh (HF.out.under b2);have HO:=Lh (HO.out.below b2);clear b2;dsimp only)
       | (go_at_call 55;(with_reducible refine (HNM.out _ HF.out.b).mono ?_);rintro e w2 ⟨rfl,b2⟩;have HF:=Lh (HF.out.under b2);have HO:=Lh (HO.out.below b2);clear b2;dsimp only)
       | (refine Qa rfl 95 (.tmp 4) (.tmp 26) rfl (G:=w.heap.size+1) (off:=0) rfl (us:=gtE ((q:Int)+1) 11) HF.out.vo rfl Qc (Nat.le_refl 19) (Qn _ _) ?_;intro w90 ht hs;have HO:=Lh (HO.out.turn ht fun k hk e=>by have:=HO.out.block_ge k hk;omega);have HF:=Lh (HF.out.set_o (us:=gtE ((q:Int)+1) 11) ht hs);clear ht hs)
       | fail)
      exact Qj 95 rfl rfl rfl HF.out.vo Try.underlying95 rfl Qc (Qm0 (q:=q+1) HE2.out (by decide) HF.out.b)
     | true =>
      rw [hi] at HNM
      have hql2:q+1<X.L.length:=HOK.out.id_lt hi
      have HE2:Hid (prR X.R (onN X.R) Km g (s++[⟨X.R.wd (q+1),X.R.ps (q+1)⟩]) (q+1+1)=Y):=Lh (by rw [HE.out,Qh4 hi];exact (Qjd (by simp)).symm)
      clear hC1 hC2 hn1 HE hi
      obtain ⟨sn,hsn⟩:∃ v,X.R.wd (q+1)=v:=⟨_,rfl⟩
      obtain ⟨xn,hxn⟩:∃ v,X.R.ps (q+1)=v:=⟨_,rfl⟩
      rw [hxn,hsn] at HE2
      rw [hxn] at HPN
      rw [hsn] at HAN
      clear hxn hsn
      obtain ⟨SS,hSd⟩:∃ SS:World→Prop,SS=fun W=>Fm X w W (gtE 0 0):=⟨_,rfl⟩
      have HS:Hid (∀ W,Fm X w W (gtE 0 0)→SS W):=Lh fun W h=>by rw [hSd];exact h
      have hSF:∀ W,SS W→Fm X w W (gtE 0 0):=by rw [hSd];exact fun W h=>h
      have q0:∀ s:SW SS,s.w.cell? ⟨w.heap.size,0,none⟩=some (.string X.T):=fun s=>(hSF _ s.h).vr.at 0 rfl
      have q1:∀ s:SW SS,s.w.cell? ⟨w.heap.size,1,none⟩=some (.slice X.A X.L.length X.c):=fun s=>(hSF _ s.h).vr.at 1 rfl
      clear hSd hSF
      go_wp2_with (first
       | (refine Qb rfl 92 (.tmp 2) rfl w.heap.size 0 rfl (ryC X) HF.out.vr.rg Try.underlying92 rfl Qd ?_)
       | (go_at_call 51;(with_reducible refine (HA0.out _ HF.out.b).mono ?_);rintro e w2 ⟨rfl,b2⟩;have HF:=Lh (HF.out.under b2);have HO:=Lh (HO.out.below b2);clear b2;dsimp only)
       | (go_at_call 55;(with_reducible refine (HNM.out _ HF.out.b).mono ?_);rintro e w2 ⟨rfl,b2⟩;have HF:=Lh (HF.out.under b2);have HO:=Lh (HO.out.below b2);clear b2;dsimp only)
       | fail)
      have HQ:=Lh (HF.out.under (Qi _ _))
      have HO:=Lh (HO.out.drew)
      have hS0:=HS.out _ HQ.out
      clear HF
      refine Jc (by kernel_rfl) 11 rfl ?_
      refine J2 SS 10 (by kernel_rfl) ?_
      refine Qp 0 3 8 (by kernel_rfl) (fun _ _ d _ _ h=>by cases d <;> exact h) hS0 (fun hne=>?_)
      simp only [sD,sE,sF,sG]
      repeat (go_big_quiet_step (fail))
      refine wpQuiet_nil ?_
      refine Qp 4 2 6 (by kernel_rfl) (fun _ _ d _ _ h=>by cases d <;> exact h) hS0 (fun hne=>?_)
      simp only [sD,sE,sF,sG]
      repeat (go_big_quiet_step (fail))
      refine wpQuiet_nil ?_
      refine Ql (i:=3) (fuel:=5) (by kernel_rfl) (by omega) rfl (fun KK hKK=>?_)
      go_simp
      with_reducible refine (HAN.out _ HQ.out.b).mono ?_
      rintro e wy ⟨rfl,bb⟩
      have HO:=Lh (HO.out.below bb)
      have HQ:=Lh (HQ.out.under bb)
      clear bb hS0
      have hS0:=HS.out _ HQ.out
      refine hKK _ _ hS0 ?_
      clear hKK KK
      refine Ql (i:=6) (fuel:=4) (by kernel_rfl) (by omega) rfl (fun KK hKK=>?_)
      go_simp
      with_reducible refine (HPN.out _ HQ.out.b).mono ?_
      rintro e wy ⟨rfl,bb⟩
      have HO:=Lh (HO.out.below bb)
      have HQ:=Lh (HQ.out.under bb)
      clear bb hS0
      have hS0:=HS.out _ HQ.out
      refine hKK _ _ hS0 ?_
      clear hKK KK
      refine Qp 7 1 3 (by kernel_rfl) (fun _ _ d _ _ h=>by cases d <;> exact h) hS0 (fun hne=>?_)
      simp only [sD,sE,sF,sG]
      repeat (go_big_quiet_step (fail))
      refine wpQuiet_nil ?_
      refine Ql (i:=8) (fuel:=2) (by kernel_rfl) (by omega) rfl (fun KK hKK=>?_)
      refine Q0 rfl 46 53 (.tmp 34) rfl (nmC ⟨sn,xn⟩) rfl (by simp [nmC]) (by simp [nmC]) Try.underlying46 Qeo (by kernel_rfl) ?_
      refine hKK _ _ (HS.out _ (HQ.out.under bAl)) ?_
      clear hKK KK
      refine Ql (i:=9) (fuel:=1) (by kernel_rfl) (by omega) rfl (fun KK hKK=>?_)
      refine Ka rfl (.tmp 27) (.tmp 35) 46 rfl Qkg wy (w.heap.size+2) (.slice A s.length c) s.length (nms s) (nmC ⟨sn,xn⟩) rfl HO.out rfl rfl rfl (Qcm _) (by omega) (by omega) ?_
      intro v6 w6 ho6 hg6 hv6
      obtain ⟨A6,c6,rfl⟩:=ho6.form
      have HLO:=Lh (((Below.refl (w.heap.size+2) wy).alloc HO.out.2 (.cells (nmC ⟨sn,xn⟩).toArray 53)).grown hg6 (by have:=HO.out.2;simp;omega) (fun k hk=>HO.out.block_ge k hk))
      have HF:=Lh (HQ.out.low HLO.out)
      have HO:=Lh (ho6.cast (show s.length+1=(s++[(⟨sn,xn⟩:NmT)]).length by simp) (Qb0 s ⟨sn,xn⟩).symm)
      refine hKK _ _ (HS.out _ HF.out) ?_
      clear hKK KK ho6 hg6 hv6 q0 q1 HS hS0 HLO
      refine Ja (i:=10) (fuel:=0) (by kernel_rfl) nLe rfl (fun KK hKK=>?_)
      go_simp
      refine hKK _ _ ?_
      clear hKK KK
      refine wpAny_done (by kernel_rfl) ?_ _
      try simp only [Act.put,sA,sB,sC]
      go_wp2_with fail
      go_roundw
      case rel=>exact ⟨q+1+1,g,s++[⟨sn,xn⟩],_,rfl,rfl,by omega,by omega,(by simp <;> omega),HE2,HO,HF⟩
      case measure=>simp [intOf];omega
section
variable {P:Program} {ops:Array Oper} {rest:List Oper} {o:Oper} {a:Act} {Q:Exit→Act→World→Prop}
theorem wp_moreR{K:Act→World→Prop}(s x:Operand)(t:TypeId)(ho:o.op=.call { callee:=.builtin .append,args:=#[s,x],argTypes:=#[t,t] })
  {e:TypeId} {size bytes:Nat} (hT:Kq P t e size bytes) (w:World) (B:Nat) (v:Value) (n:Nat) (xs us:List Value) (hs:a.eval s=v) (hown:Own w B e size v n xs)
  (A:Option Addr) (m c:Nat) (hx:a.eval x=.slice A m c) (hl:us.length=m*size) (hsh:0<m→∃ b off,A=some ⟨b,off,none⟩∧w.rangeAt b off us) (h1:∀ u∈us,u.oneCell'=true)
  (hlen:n+m≤1000000000) (hby:bytes≤256)
  (h:∀ v' w',Own w' B e size v' (n+m) (xs++us)→Below B w w'→w.grownBy w' v.ownBlock→K (a.put o.dst v') w') :
  o.wp P a w K Q:=by
 obtain ⟨ht,i,z,hi,hz,hsize,hbytes,hzs,hpos⟩:=hT
 have hbb:(n+m)*bytes≤140737488355328:=Nat.le_trans (Nat.mul_le_mul hlen hby) (by decide)
 have hful:∀ ad:Addr,(∀ k u,us[k]?=some u→w.cell? (ad.add k)=some u)→a.eval x=.slice (some ad) m c→o.wp P a w K Q:=by
  intro ad hc hx'
  refine wp_append_own _ s x t ho B e i z size bytes ht hi hz hsize hbytes hzs hpos v n xs hs hown.1 ad m c us hx' hl hc h1
   (by unfold maxLen;omega) hbb hown.2 ?_
  intro v' w' ho' hg' _
  exact h v' w' ⟨ho',Nat.le_trans hown.2 hg'.size⟩ (bRf.grown hg' hown.2 (fun q hq=>(hown.1.lt q hq).1)) hg'
 rcases Nat.eq_zero_or_pos m with h0 | h0
 ·subst h0
  have hn:us=[]:=List.eq_nil_of_length_eq_zero (by omega)
  subst hn
  rcases A with _ | ad
  ·have hrun:(Builtin.append_ #[t,t] o.type #[v,.slice none 0 c]).run P w=.ok v w:=by
    rcases hown.1.2 with ⟨rfl,rfl⟩ | ⟨g,cap,cur,rfl,_,_,hnc,_⟩
    ·simp [Builtin.append_,run_underlying ht,sizeOf,typeInfo,hi,Builtin.lenOf,Builtin.firstCells]
    ·simp [Builtin.append_,run_underlying ht,sizeOf,typeInfo,hi,Builtin.lenOf,Builtin.firstCells,hnc,storeCells]
   unfold Oper.wp
   simp [execOp,ho,resolve,invoke,builtin,hs,hx,hrun,Result.andThen]
   exact h v w (by simpa using hown) bRf ⟨rfl,rfl,rfl,Nat.le_refl _,fun _ _ _=>rfl⟩
  ·exact hful ad (by simp) hx
 ·obtain ⟨b,off,rfl,hc⟩:=hsh h0
  refine hful ⟨b,off,none⟩ (fun k u hu=>?_) hx
  rw [Addr.add_lit]
  exact hc k u hu
theorem Qs{K:Act→World→Prop}{E:Prop}(hgd:Region.wanted o (yielded ops a.tmps)=true)(s x:Operand)(t:TypeId)(ho:o.op=.call { callee:=.builtin .append,args:=#[s,x],argTypes:=#[t,t] })
  {e:TypeId} {size bytes:Nat} (hT:Kq P t e size bytes) (w:World) (B:Nat) (v:Value) (n:Nat) (xs us:List Value) (hs:a.eval s=v) (hown:Own w B e size v n xs)
  (A:Option Addr) (m c:Nat) (hx:a.eval x=.slice A m c) (hl:us.length=m*size) (hsh:0<m→∃ b off,A=some ⟨b,off,none⟩∧w.rangeAt b off us) (h1:∀ u∈us,u.oneCell'=true)
  (hlen:n+m≤1000000000) (hby:bytes≤256)
  (h:∀ v' w',Own w' B e size v' (n+m) (xs++us)→Below B w w'→w.grownBy w' v.ownBlock→K (a.put o.dst v') w') :
  if Region.wanted o (yielded ops a.tmps)=true then o.wp P a w K Q else E:=by
 rw [if_pos hgd]
 exact wp_moreR s x t ho hT w B v n xs us hs hown A m c hx hl hsh h1 hlen hby h
end
structure F3 (X:Ry) (w W:World) (ms os:List Value):Prop where
 vr:Var W w.heap.size (ryC X)
 vm:Var W (w.heap.size+1) ms
 vo:Var W (w.heap.size+2) os
 b:Below w.heap.size w W
section
variable {X:Ry} {w W W':World} {ms os us:List Value}
theorem F3.under(h:F3 X w W ms os)(hb:Below W.heap.size W W'):F3 X w W' ms os:=⟨h.vr.under hb,h.vm.under hb,h.vo.under hb,h.b.trans (hb.mono h.b.size)⟩
theorem F3.set_m(h:F3 X w W ms os)(ht:Tn (fun k=>k=w.heap.size+1) W W')(hv:Var W' (w.heap.size+1) us):F3 X w W' us os:=
 ⟨h.vr.turn ht (by omega),hv,h.vo.turn ht (by omega),h.b.trans (ht.below h.b.size fun k hk e=>by omega)⟩
theorem F3.set_o(h:F3 X w W ms os)(ht:Tn (fun k=>k=w.heap.size+2) W W')(hv:Var W' (w.heap.size+2) us):F3 X w W' ms us:=
 ⟨h.vr.turn ht (by omega),h.vm.turn ht (by omega),hv,h.b.trans (ht.below h.b.size fun k hk e=>by omega)⟩
theorem F3.lt(h:F3 X w W ms os):w.heap.size+2<W.heap.size:=h.vo.lt
theorem F3.set_n{G:Nat}(h:F3 X w W ms os)(ht:Tn (fun k=>k=G) W W')(hG:w.heap.size+2<G):F3 X w W' ms os:=
 ⟨h.vr.turn ht (by omega),h.vm.turn ht (by omega),h.vo.turn ht (by omega),h.b.trans (ht.below h.b.size fun k hk e=>by omega)⟩
theorem F3.low(h:F3 X w W ms os)(hb:Below (w.heap.size+3) W W'):F3 X w W' ms os:=
 ⟨h.vr.keep (hb.block _ (by omega)) hb.size,h.vm.keep (hb.block _ (by omega)) hb.size,h.vo.keep (hb.block _ (by omega)) hb.size,h.b.trans ⟨hb.os,hb.tape,hb.output,hb.size,fun k hk=>hb.block k (by omega)⟩⟩
end
theorem Zv(X:Ry)(w:World)(hl he:Bool)(v:MoV):F3 X w (((w.alloc (.cells #[.string X.T,.slice X.A X.L.length X.c] 92)).alloc (.cells #[v.im,.bool hl,v.la,.bool he,v.ef,v.va,v.fn] 51)).alloc (.cells #[.slice none 0 0,.bool false,.slice none 0 0,.bool false,.slice none 0 0,.slice none 0 0,.slice none 0 0,.slice none 0 0,.string ⟨#[]⟩,.int .i64 0,.int .i64 0,.bool false,.bool false,.string ⟨#[]⟩,.int .i64 0,.int .i64 0,.slice none 0 0,.int .i64 0,.int .i64 0] 95)) (moC hl he v) (gtE 0 0):=by
 have e1:(w.alloc (.cells #[.string X.T,.slice X.A X.L.length X.c] 92)).heap.size=w.heap.size+1:=by simp
 have e2:((w.alloc (.cells #[.string X.T,.slice X.A X.L.length X.c] 92)).alloc (.cells #[v.im,.bool hl,v.la,.bool he,v.ef,v.va,v.fn] 51)).heap.size=w.heap.size+2:=by simp
 have v2:=Var.new (w.alloc (.cells #[.string X.T,.slice X.A X.L.length X.c] 92)) (moC hl he v) 51 (c:=#[v.im,.bool hl,v.la,.bool he,v.ef,v.va,v.fn]) rfl
 have v3:=Var.new ((w.alloc (.cells #[.string X.T,.slice X.A X.L.length X.c] 92)).alloc (.cells #[v.im,.bool hl,v.la,.bool he,v.ef,v.va,v.fn] 51)) (gtE 0 0) 95 (c:=#[.slice none 0 0,.bool false,.slice none 0 0,.bool false,.slice none 0 0,.slice none 0 0,.slice none 0 0,.slice none 0 0,.string ⟨#[]⟩,.int .i64 0,.int .i64 0,.bool false,.bool false,.string ⟨#[]⟩,.int .i64 0,.int .i64 0,.slice none 0 0,.int .i64 0,.int .i64 0]) rfl
 rw [e1] at v2
 rw [e2] at v3
 exact ⟨((Var.new w (ryC X) 92 rfl).under bAl).under bAl,v2.under bAl,v3,
  (((Below.refl _ w).alloc nLe _).alloc (by simp) _).alloc (by simp;omega) _⟩
def mtC(z:MoT×(Nat×Int))(v:MoV):List Value:=if z.2.2=0 then gt (moC z.1.hl z.1.he v) Qk (vrC VrT.nul) Qk (z.2.1:Int) 0 else gtE (z.2.1:Int) z.2.2
def Qfj(S:Nat→Prop)(z:MoT×(Nat×Int))(w:World)(e:Ending)(w':World):Prop:=
 ∃ v,e=.returned (.agg (mtC z v).toArray)∧(∀ hl he,∀ u∈moC hl he v,u.oneCell'=true)∧(z.2.2=0→Zx w' (fun b=>S b∨w.heap.size≤b) z.1 v)∧Below w.heap.size w w'
theorem Jd{S:Nat→Prop}{z:MoT×(Nat×Int)}{q:Nat}{r:Int}{w w':World}(h:z.2=(q,r))(hr:¬ r=0)(hb:Below w.heap.size w w'):Qfj S z w (.returned (.agg (gtE (q:Int) r).toArray)) w':=by
 refine ⟨MoV.nul,?_,fun hl he=>Zt (m:=MoT.nul) rfl rfl rfl rfl rfl,fun e=>?_,hb⟩
 ·unfold mtC;rw [h];dsimp only;rw [if_neg hr]
 ·rw [h] at e;exact absurd e hr
theorem Qgn{S:Nat→Prop}{m:MoT}{v:MoV}{q:Nat}{w w':World}(h:Zx w' (fun b=>S b∨w.heap.size≤b) m v)(hb:Below w.heap.size w w'):Qfj S (m,(q,0)) w (.returned (.agg (gt (moC m.hl m.he v) Qk (vrC VrT.nul) Qk (q:Int) 0).toArray)) w':=
 ⟨v,rfl,fun hl he=>h.one hl he,fun _=>h,hb⟩
theorem ShV.cells{w:World}{S:Nat→Prop}{A:Option Addr}{n c:Nat}{cs:List Value}(h:ShV w S (.slice A n c) n cs):0<n→∃ b off,A=some ⟨b,off,none⟩∧w.rangeAt b off cs:=fun hn=>by
 obtain ⟨A',c',e,_,hc⟩:=h
 cases e
 obtain ⟨b,off,e2,_,_,hr⟩:=hc hn
 exact ⟨b,off,e2,hr⟩
theorem ShV.frm{w:World}{S:Nat→Prop}{lv:Value}{n:Nat}{cs:List Value}(h:ShV w S lv n cs):∃ A c,lv=.slice A n c:=by
 obtain ⟨A,c,e,_⟩:=h
 exact ⟨A,c,e⟩
theorem Qm2(l:List NmT):(nms l).length=l.length*2:=by
 unfold nms
 induction l with
 | nil=>rfl
 | cons x l ih=>rw [List.flatMap_cons,List.length_append,ih,List.length_cons];show 2+_=_;omega
theorem Qa6(l:List PrT):(prs l).length=l.length*3:=by
 unfold prs
 induction l with
 | nil=>rfl
 | cons x l ih=>rw [List.flatMap_cons,List.length_append,ih,List.length_cons];show 3+_=_;omega
theorem Qh5(l:List VrT):(vrs l).length=l.length*8:=by
 unfold vrs
 induction l with
 | nil=>rfl
 | cons x l ih=>rw [List.flatMap_cons,List.length_append,ih,List.length_cons];show 8+_=_;omega
theorem Qm3{l:List NmT}:∀ u∈nms l,u.oneCell'=true:=fun u hu=>by
 obtain ⟨x,_,h⟩:=List.mem_flatMap.1 hu
 exact Qcm x u h
theorem Qa7{l:List PrT}:∀ u∈prs l,u.oneCell'=true:=fun u hu=>by
 obtain ⟨x,_,h⟩:=List.mem_flatMap.1 hu
 exact Yx x u h
theorem Qh6{l:List VrT}:∀ u∈vrs l,u.oneCell'=true:=fun u hu=>by
 obtain ⟨x,_,h⟩:=List.mem_flatMap.1 hu
 exact Jj x u h
theorem Qgo(X:Ry)(hm:∀ i,(X.R.wd i).size≤1000000)(f p:Nat)(m:MoT)(v:MoV)(S:Nat→Prop)(w:World)(hSw:∀ b,S b→b<w.heap.size)(hM:Zx w S m v)(hlm:m.ef.length≤p)(h:X.In w w.heap.size)(hp:p≤X.L.length)(hf:X.L.length<f) :
  CP 53 #[.agg (ryC X).toArray,.agg (moC m.hl m.he v).toArray,.int .i64 (p:Int)] w (Qfj S ({ m with he:=true,ef:=(lns X.R (onN X.R) f m.ef (p,0)).1 },(lns X.R (onN X.R) f m.ef (p,0)).2) w):=by
 have hz:=Yp
 have hln:=h.2.len
 have hok:=Qo X.T X.L
 have HAT:Hid (∀ q,q≤X.L.length→∀ W,Below w.heap.size w W→CP 51 #[.agg (ryC X).toArray,.int .i64 (q:Int)] W fun e w'=>e=.returned (.string (X.R.wd q))∧Below W.heap.size W w'):=Lh fun q hq W hW=>Qg X q W ((h.up hW nLe).more hW.size) (by omega)
 have HPO:Hid (∀ q,q≤X.L.length→∀ W,Below w.heap.size w W→CP 38 #[.agg (ryC X).toArray,.int .i64 (q:Int)] W fun e w'=>e=.returned (.int .i64 (X.R.ps q))∧Below W.heap.size W w'):=Lh fun q hq W hW=>Qz X q W ((h.up hW nLe).more hW.size) (by omega)
 have HNA:Hid (∀ q,q≤X.L.length→∀ W,Below w.heap.size w W→CP 55 #[.agg (ryC X).toArray,.int .i64 (q:Int)] W fun e w'=>e=.returned (.bool (X.R.idn q))∧Below W.heap.size W w'):=Lh fun q hq W hW=>Y1 X hm q W ((h.up hW nLe).more hW.size) (by omega)
 have HWD:Hid (∀ q s,q≤X.L.length→∀ W,Below w.heap.size w W→CP 56 #[.agg (ryC X).toArray,.int .i64 (q:Int),.string s] W fun e w'=>e=.returned (.int .i64 (if X.R.is q s.toList=true then 0 else 11))∧Below W.heap.size W w'):=Lh fun q s hq W hW=>K2 X q s W ((h.up hW nLe).more hW.size) (by omega)
 obtain ⟨hl,hhl⟩:∃ x,m.hl=x:=⟨_,rfl⟩
 obtain ⟨he,hhe⟩:∃ x,m.he=x:=⟨_,rfl⟩
 have HF:=Lh (Zv X w hl he v)
 have HOK:=Lh hok
 have HSS:=Lh hSw
 have HMM:=Lh hM
 have HHL:=Lh hhl
 obtain ⟨Y,hY⟩:∃ Y,lns X.R (onN X.R) f m.ef (p,0)=Y:=⟨_,rfl⟩
 have HY:=Lh hY
 rw [hY,hhl,hhe]
 clear h hY hok hhl hhe hM hSw
 have HWB:=Lh (HWD.out p Uy hp)
 rw [show Uy.toList=[123] from wd1 123 []] at HWB
 show CP 53 #[.agg #[.string X.T,.slice X.A X.L.length X.c],.agg #[v.im,.bool hl,v.la,.bool he,v.ef,v.va,v.fn],.int .i64 (p:Int)] w _
 have HSET:Hid (∀ W W',F3 X w W (moC hl he v) (gtE 0 0)→Tn (fun k=>k=w.heap.size+1) W W'→Var W' (w.heap.size+1) ((moC hl he v).set 3 (.bool true))→F3 X w W' (moC hl true v) (gtE 0 0)):=Lh fun W W' h1 h2 h3=>h1.set_m h2 h3
 cases c0:X.R.is p [123] with
 | false =>
  rw [c0,if_neg (by decide)] at HWB
  have HE:Hid (Y.2=(p,11)):=Lh (by rw [← HY.out];unfold lns;rw [Yb c0,Zs (show ¬ (11:Int)=0 by decide)])
  clear c0
  go_enter Try.func53,Try.ntmps53
  go_wp2_with (first
   | (refine Qr rfl 4 (.tmp 7) (.const (.bool true)) rfl (G:=w.heap.size+1) (off:=3) rfl (v:=.bool true) HF.out.vm rfl (by kernel_rfl) (by show 3<7;omega) rfl ?_;intro w3 ht hs;have HF:=Lh (HSET.out _ _ HF.out ht hs);clear ht hs)
   | (refine Qb rfl 92 (.tmp 3) rfl w.heap.size 0 rfl (ryC X) HF.out.vr.rg Try.underlying92 rfl Qd ?_)
   | (go_at_call 56;(with_reducible refine (HWB.out _ HF.out.b).mono ?_);rintro e w2 ⟨rfl,b2⟩;have HF:=Lh (HF.out.under b2);clear b2;dsimp only)
   | (refine Qa rfl 95 (.tmp 6) (.tmp 13) rfl (G:=w.heap.size+2) (off:=0) rfl (us:=gtE (p:Int) 11) HF.out.vo rfl Qc (Nat.le_refl 19) (Qn _ _) ?_;intro w90 ht hs;have HF:=Lh (HF.out.set_o (us:=gtE (p:Int) 11) ht hs);clear ht hs)
   | fail)
  exact Qj 95 rfl rfl rfl HF.out.vo Try.underlying95 rfl Qc (Jd HE.out (by decide) HF.out.b)
 | true =>
  rw [c0,if_pos rfl] at HWB
  have hpl:p<X.L.length:=HOK.out.is_lt c0
  have HY2:Hid (Qbo X.R (onN X.R) f m.ef (p+1,0)=Y):=Lh (by rw [← HY.out];unfold lns;rw [Q5 c0])
  have HL0:=Lh (HMM.out.ef.weak (S':=fun b=>S b∨w.heap.size+2<b) fun b hb _=>.inl hb)
  have HL:=Lh (((HL0.out.under ((Below.refl w.heap.size w).alloc nLe (.cells #[.string X.T,.slice X.A X.L.length X.c] 92))).under (bRf.alloc nLe (.cells #[v.im,.bool hl,v.la,.bool he,v.ef,v.va,v.fn] 51))).under (bRf.alloc nLe (.cells #[.slice none 0 0,.bool false,.slice none 0 0,.bool false,.slice none 0 0,.slice none 0 0,.slice none 0 0,.slice none 0 0,.string ⟨#[]⟩,.int .i64 0,.int .i64 0,.bool false,.bool false,.string ⟨#[]⟩,.int .i64 0,.int .i64 0,.slice none 0 0,.int .i64 0,.int .i64 0] 95)))
  clear c0 HY HL0
  go_enter Try.func53,Try.ntmps53
  go_wp2_with (first
   | (refine Qr rfl 4 (.tmp 7) (.const (.bool true)) rfl (G:=w.heap.size+1) (off:=3) rfl (v:=.bool true) HF.out.vm rfl (by kernel_rfl) (by show 3<7;omega) rfl ?_;intro w3 ht hs;have HL:=Lh (HL.out.turn (S':=fun b=>S b∨w.heap.size+2<b) ht fun b hb h2=>⟨hb,fun e=>by rcases hb with hb | hb;have:=HSS.out b hb;omega;omega⟩);have HF:=Lh (HSET.out _ _ HF.out ht hs);clear ht hs)
   | (refine Qb rfl 92 (.tmp 3) rfl w.heap.size 0 rfl (ryC X) HF.out.vr.rg Try.underlying92 rfl Qd ?_)
   | (go_at_call 56;(with_reducible refine (HWB.out _ HF.out.b).mono ?_);rintro e w2 ⟨rfl,b2⟩;have HL:=Lh (HL.out.under b2);have HF:=Lh (HF.out.under b2);clear b2;dsimp only)
   | fail)
  obtain ⟨A0,c0,he0⟩:=HL.out.frm
  go_loopw [2] (fun a wr=>∃ (q g:Nat) (s:List NmT) (A:Option Addr) (c:Nat),a=.int .i64 (q:Int)∧q≤X.L.length∧X.L.length-q<g∧s.length≤q∧Hid (Qbo X.R (onN X.R) g s (q,0)=Y)∧Hid (ShV wr (fun b=>S b∨w.heap.size+2<b) (.slice A s.length c) s.length (nms s))∧Hid (F3 X w wr [v.im,.bool hl,v.la,.bool true,.slice A s.length c,v.va,v.fn] (gtE 0 0))) (fun a _=>X.L.length-(intOf a).toNat)
  case atStart =>
   obtain ⟨A1,c1,e1,_⟩:=HL.out
   exact ⟨p+1,f,m.ef,A1,c1,rfl,hpl,by omega,by omega,HY2,Lh (by have:=HL.out;rwa [e1] at this),Lh (by have:=HF.out;unfold moC at this;rwa [e1] at this)⟩
  case round =>
   clear HL HF he0 HY2 hlm hpl HWB
   obtain ⟨q,g,s,A,c,rfl,hq,hg,hsq,HY,HL,HF⟩:=hrel
   obtain ⟨wa,hwa⟩:∃ wa,wa=wr:=⟨_,rfl⟩
   subst hwa
   obtain ⟨g,rfl⟩:∃ g',g=g'+1:=⟨g-1,by omega⟩
   have HA0:=Lh (HAT.out q hq)
   have HNM:=Lh (HNA.out q hq)
   have HPN:=Lh (HPO.out q hq)
   obtain ⟨sg,hsg⟩:∃ x,X.R.wd q=x:=⟨_,rfl⟩
   have hC1:X.R.is q [125]=(sg.toList==[125]):=by rw [← hsg];rfl
   have HSG:=Lh hsg
   rw [hsg] at HA0
   clear hsg
   cases c1:(sg.toList==[125]) with
   | true =>
    have HE:Hid (Y=(s,(q+1,0))):=Lh (HY.out.symm.trans (Qi4 (hC1.trans c1)))
    clear hC1
    have HFIN:=Lh (fun (W:World) (hb:ShV W (fun b=>S b∨w.heap.size+2<b) (.slice A s.length c) s.length (nms s)) (hw:Below w.heap.size w W)=>(by
     have hm2:=(HMM.out.under hw).weak (S':=fun b=>S b∨w.heap.size≤b) fun b h _=>.inl h
     exact ⟨hm2.im,hm2.la,hb.weak fun b h _=>h.imp_right fun h=>by omega,hm2.va,hm2.fn⟩:Zx W (fun b=>S b∨w.heap.size≤b) { m with he:=true,ef:=s } { v with ef:=.slice A s.length c }))
    go_wp2_with (first
     | (refine Qb rfl 92 (.tmp 3) rfl w.heap.size 0 rfl (ryC X) HF.out.vr.rg Try.underlying92 rfl Qd ?_)
     | (go_at_call 51;(with_reducible refine (HA0.out _ HF.out.b).mono ?_);rintro e w2 ⟨rfl,b2⟩;have HL:=Lh (HL.out.under b2);have HF:=Lh (HF.out.under b2);clear b2;dsimp only)
     | (refine Qb rfl 51 (.tmp 4) rfl (w.heap.size+1) 0 rfl [v.im,.bool hl,v.la,.bool true,.slice A s.length c,v.va,v.fn] HF.out.vm.rg Try.underlying51 rfl Q7 ?_)
     | (refine Qa rfl 95 (.tmp 6) (.tmp 53) rfl (G:=w.heap.size+2) (off:=0) rfl (us:=gt [v.im,.bool hl,v.la,.bool true,.slice A s.length c,v.va,v.fn] Qk (vrC VrT.nul) Qk ((q:Int)+1) 0) HF.out.vo rfl Qc (Nat.le_refl 19) (Zy _ _ (Zt (m:=m) (hl:=hl) (he:=true) (v:={ v with ef:=.slice A s.length c }) HMM.out.im.one HMM.out.la.one rfl HMM.out.va.one (by obtain ⟨_,_,h,_⟩:=HMM.out.fn;exact h.one)) rfl (Jj _) rfl) ?_;intro w90 ht hs;have HL:=Lh (HL.out.turn (S':=fun b=>S b∨w.heap.size+2<b) ht fun b hb h2=>⟨hb,fun e=>by rcases hb with hb | hb;have:=HSS.out b hb;omega;omega⟩);have HF:=Lh (HF.out.set_o (us:=gt [v.im,.bool hl,v.la,.bool true,.slice A s.length c,v.va,v.fn] Qk (vrC VrT.nul) Qk ((q:Int)+1) 0) ht hs);clear ht hs)
     | fail)
    rw [HE.out]
    have hfin:=HFIN.out _ HL.out HF.out.b
    rw [HHL.out] at hfin
    exact Qj 95 rfl rfl rfl HF.out.vo Try.underlying95 rfl Qc (Qgn (m:={ im:=m.im,hl:=hl,la:=m.la,he:=true,ef:=s,va:=m.va,fn:=m.fn }) (q:=q+1) hfin HF.out.b)
   | false =>
    have hn1:=hC1.trans c1
    have HE:=Lh (HY.out.symm.trans (Qme hn1))
    cases hi:X.R.idn q with
    | false =>
     rw [hi] at HNM
     have HE2:Hid (Y.2=(q,11)):=Lh (by
      rw [HE.out]
      have e:=Qm1 (s:=s) hi
      rw [e,Jg (x:=(q,11)) (show ¬ (11:Int)=0 by decide),Zs (show ¬ (11:Int)=0 by decide)])
     clear hC1 hn1 HE hi HPN
     go_wp2_with (first
      | (refine Qb rfl 92 (.tmp 3) rfl w.heap.size 0 rfl (ryC X) HF.out.vr.rg Try.underlying92 rfl Qd ?_)
      | (go_at_call 51;(with_reducible refine (HA0.out _ HF.out.b).mono ?_);rintro e w2 ⟨rfl,b2⟩;have HF:=Lh (HF.out.under b2);clear b2;dsimp only)
      | (go_at_call 55;(with_reducible refine (HNM.out _ HF.out.b).mono ?_);rintro e w2 ⟨rfl,b2⟩;have HF:=Lh (HF.out.under b2);clear b2;dsimp only)
      | (refine Qa rfl 95 (.tmp 6) (.tmp 25) rfl (G:=w.heap.size+2) (off:=0) rfl (us:=gtE (q:Int) 11) HF.out.vo rfl Qc (Nat.le_refl 19) (Qn _ _) ?_;intro w90 ht hs;have HF:=Lh (HF.out.set_o (us:=gtE (q:Int) 11) ht hs);clear ht hs)
      | fail)
     exact Qj 95 rfl rfl rfl HF.out.vo Try.underlying95 rfl Qc (Jd HE2.out (by decide) HF.out.b)
    | true =>
     rw [hi] at HNM
     have hql:q<X.L.length:=HOK.out.id_lt hi
     have HWS:Hid (∀ W,Below w.heap.size w W→CP 56 #[.agg (ryC X).toArray,.int .i64 ((q:Int)+1),.string Jr] W fun e w'=>e=.returned (.int .i64 (if X.R.is (q+1) [59]=true then 0 else 11))∧Below W.heap.size W w'):=Lh fun W hW=>by
      have:=HWD.out (q+1) Jr hql W hW
      rwa [show Jr.toList=[59] from wd1 59 []] at this
     have HE1:Hid (Qbo X.R (onN X.R) g (s++[⟨sg,X.R.ps q⟩]) (mu X.R (q+1,0) [Jr])=Y):=Lh (by rw [HE.out,Qh4 hi,HSG.out])
     obtain ⟨xn,hxn⟩:∃ x,X.R.ps q=x:=⟨_,rfl⟩
     rw [hxn] at HE1 HPN
     clear hC1 hn1 HE hi hxn
     obtain ⟨SS,hSd⟩:∃ SS:World→Prop,SS=fun W=>F3 X w W [v.im,.bool hl,v.la,.bool true,.slice A s.length c,v.va,v.fn] (gtE 0 0):=⟨_,rfl⟩
     have HS:Hid (∀ W,F3 X w W [v.im,.bool hl,v.la,.bool true,.slice A s.length c,v.va,v.fn] (gtE 0 0)→SS W):=Lh fun W h=>by rw [hSd];exact h
     have hSF:∀ W,SS W→F3 X w W [v.im,.bool hl,v.la,.bool true,.slice A s.length c,v.va,v.fn] (gtE 0 0):=by rw [hSd];exact fun W h=>h
     have q0:∀ s:SW SS,s.w.cell? ⟨w.heap.size,0,none⟩=some (.string X.T):=fun s=>(hSF _ s.h).vr.at 0 rfl
     have q1:∀ s:SW SS,s.w.cell? ⟨w.heap.size,1,none⟩=some (.slice X.A X.L.length X.c):=fun s=>(hSF _ s.h).vr.at 1 rfl
     have q2:∀ x:SW SS,x.w.cell? ⟨w.heap.size+1,4,none⟩=some (.slice A s.length c):=fun x=>(hSF _ x.h).vm.at 4 rfl
     clear hSd hSF
     go_wp2_with (first
      | (refine Qb rfl 92 (.tmp 3) rfl w.heap.size 0 rfl (ryC X) HF.out.vr.rg Try.underlying92 rfl Qd ?_)
      | (go_at_call 51;(with_reducible refine (HA0.out _ HF.out.b).mono ?_);rintro e w2 ⟨rfl,b2⟩;have HL:=Lh (HL.out.under b2);have HF:=Lh (HF.out.under b2);clear b2;dsimp only)
      | (go_at_call 55;(with_reducible refine (HNM.out _ HF.out.b).mono ?_);rintro e w2 ⟨rfl,b2⟩;have HL:=Lh (HL.out.under b2);have HF:=Lh (HF.out.under b2);clear b2;dsimp only)
      | fail)
     have HQ:=Lh (HF.out.under (Qi _ _))
     have HL:=Lh (HL.out.under (Qi _ _))
     refine Jc (by kernel_rfl) 15 rfl ?_
     obtain ⟨wx,hwx⟩:∃ wx,w2.drew=wx:=⟨_,rfl⟩
     rw [hwx] at HQ HL
     rw [hwx]
     have hS0:=HS.out _ HQ.out
     have HX3:=Lh (show w.heap.size+3≤wx.heap.size from HQ.out.lt)
     clear HF hwx
     refine J2 SS 14 (by kernel_rfl) ?_
     refine Qp 1 2 13 (by kernel_rfl) (fun _ _ d _ _ h=>by cases d <;> exact h) hS0 (fun hne=>?_)
     simp only [sD,sE,sF,sG]
     repeat (go_big_quiet_step (fail))
     refine wpQuiet_nil ?_
     refine Qp 4 2 11 (by kernel_rfl) (fun _ _ d _ _ h=>by cases d <;> exact h) hS0 (fun hne=>?_)
     simp only [sD,sE,sF,sG]
     repeat (go_big_quiet_step (fail))
     refine wpQuiet_nil ?_
     refine Qp 7 2 9 (by kernel_rfl) (fun _ _ d _ _ h=>by cases d <;> exact h) hS0 (fun hne=>?_)
     simp only [sD,sE,sF,sG]
     repeat (go_big_quiet_step (fail))
     refine wpQuiet_nil ?_
     refine Ql (i:=0) (fuel:=8) (by kernel_rfl) (by omega) rfl (fun KK hKK=>?_)
     go_simp
     have HO0:=Lh (Own.empty wx wx.heap.size 53 2 nLe)
     have hbe:=(Below.refl wx.heap.size wx).alloc nLe (.cells #[] 53)
     have HQ:=Lh (HQ.out.under hbe)
     have HL:=Lh (HL.out.under hbe)
     obtain ⟨w0,hw0⟩:∃ w0,wx.alloc (.cells #[] 53)=w0:=⟨_,rfl⟩
     have hx0:wx.heap.size<w0.heap.size:=by rw [← hw0];simp
     have hx3:w.heap.size+3≤wx.heap.size:=HX3.out
     rw [hw0] at HO0 HQ HL
     rw [hw0]
     clear hw0 hbe hS0
     have hS0:=HS.out _ HQ.out
     refine hKK _ _ hS0 ?_
     clear hKK KK
     refine Ql (i:=3) (fuel:=7) (by kernel_rfl) (by omega) rfl (fun KK hKK=>?_)
     refine Qs rfl (.tmp 26) (.tmp 28) 46 rfl Qkg w0 wx.heap.size _ 0 [] (nms s) rfl HO0.out A s.length c rfl (Qm2 s) HL.out.cells Qm3 (by omega) (by omega) ?_
     intro v3 w3 ho3 hb3 _
     have HQ:=Lh (HQ.out.low ⟨hb3.os,hb3.tape,hb3.output,hb3.size,fun k hk=>hb3.block k (by omega)⟩)
     have HO:=Lh (ho3.cast (n':=s.length) (by omega) (List.nil_append _))
     have hs3:=hb3.size
     obtain ⟨A3,c3,rfl⟩:=HO.out.form
     clear hS0 HO0 HL ho3 hb3
     have hS0:=HS.out _ HQ.out
     refine hKK _ _ hS0 ?_
     clear hKK KK
     refine Ql (i:=6) (fuel:=6) (by kernel_rfl) (by omega) rfl (fun KK hKK=>?_)
     go_simp
     with_reducible refine (HA0.out _ HQ.out.b).mono ?_
     rintro e wy ⟨rfl,bb⟩
     have HQ:=Lh (HQ.out.under bb)
     have HO:=Lh (HO.out.below bb)
     have hsy:=bb.size
     clear hS0 bb
     have hS0:=HS.out _ HQ.out
     refine hKK _ _ hS0 ?_
     clear hKK KK
     refine Ql (i:=9) (fuel:=5) (by kernel_rfl) (by omega) rfl (fun KK hKK=>?_)
     go_simp
     with_reducible refine (HPN.out _ HQ.out.b).mono ?_
     rintro e wz ⟨rfl,bb⟩
     have HQ:=Lh (HQ.out.under bb)
     have HO:=Lh (HO.out.below bb)
     have hsz:=bb.size
     clear hS0 bb
     have hS0:=HS.out _ HQ.out
     refine hKK _ _ hS0 ?_
     clear hKK KK
     refine Qp 10 1 4 (by kernel_rfl) (fun _ _ d _ _ h=>by cases d <;> exact h) hS0 (fun hne=>?_)
     simp only [sD,sE,sF,sG]
     repeat (go_big_quiet_step (fail))
     refine wpQuiet_nil ?_
     refine Ql (i:=11) (fuel:=3) (by kernel_rfl) (by omega) rfl (fun KK hKK=>?_)
     refine Q0 rfl 46 53 (.tmp 36) rfl (nmC ⟨sg,xn⟩) rfl (by simp [nmC]) (by simp [nmC]) Try.underlying46 Qeo (by kernel_rfl) ?_
     refine hKK _ _ (HS.out _ (HQ.out.under bAl)) ?_
     clear hKK KK
     refine Ql (i:=12) (fuel:=2) (by kernel_rfl) (by omega) rfl (fun KK hKK=>?_)
     refine Ka rfl (.tmp 29) (.tmp 37) 46 rfl Qkg wz wx.heap.size (.slice A3 s.length c3) s.length (nms s) (nmC ⟨sg,xn⟩) rfl HO.out rfl rfl rfl (Qcm _) (by omega) (by omega) ?_
     intro v6 w6 ho6 hg6 hv6
     obtain ⟨A6,c6,rfl⟩:=ho6.form
     have HLO:=Lh (((Below.refl (w.heap.size+3) wz).alloc (by omega) (.cells (nmC ⟨sg,xn⟩).toArray 53)).grown hg6 (by simp;omega) (fun k hk=>by have:=HO.out.block_ge k hk;omega))
     have HQ:=Lh (HQ.out.low HLO.out)
     have HO:=Lh (ho6.cast (show s.length+1=(s++[(⟨sg,xn⟩:NmT)]).length by simp) (Qb0 s ⟨sg,xn⟩).symm)
     clear hS0
     have hS0:=HS.out _ HQ.out
     refine hKK _ _ hS0 ?_
     clear hKK KK ho6 hg6 hv6 HLO
     simp only [Act.put,sA,sB,sC]
     refine Qp 13 1 1 (by kernel_rfl) (fun _ _ d _ _ h=>by cases d <;> exact h) hS0 (fun hne=>?_)
     simp only [sD,sE,sF,sG]
     repeat (go_big_quiet_step (fail))
     refine wpQuiet_nil ?_
     refine Ja (i:=14) (fuel:=0) (by kernel_rfl) nLe rfl (fun KK hKK=>?_)
     refine Zb rfl 46 (.tmp 39) (.tmp 38) rfl (w.heap.size+1) 4 rfl (v:=.slice A6 (s.length+1) c6) (HQ.out.vm.there (by show 4+1≤7;omega)) rfl (by kernel_rfl) rfl ?_
     have ht:=Tn.set (M:=fun k=>k=w.heap.size+1) w6 (w.heap.size+1) 4 (.slice A6 (s.length+1) c6) rfl
     have HF:=Lh (HQ.out.set_m (us:=[v.im,.bool hl,v.la,.bool true,.slice A6 (s.length+1) c6,v.va,v.fn]) ht (HQ.out.vm.set 4 _ (by show 4<7;omega)))
     have HL:=Lh ((ShV.of_own (S:=fun b=>S b∨w.heap.size+2<b) HO.out (fun b hb _ _=>.inr (by omega))).turn (S':=fun b=>S b∨w.heap.size+2<b) ht fun b hb h2=>⟨hb,fun e=>by rcases hb with hb | hb;have:=HSS.out b hb;omega;omega⟩)
     refine hKK _ _ ?_
     clear hKK KK q0 q1 q2 HS hS0 ht HQ HO
     refine wpAny_done (by kernel_rfl) ?_ _
     try simp only [Act.put,sA,sB,sC]
     obtain ⟨wq,hwq⟩:∃ wq,w6.setCell ⟨w.heap.size+1,4,none⟩ (.slice A6 (s.length+1) c6)=wq:=⟨_,rfl⟩
     rw [hwq] at HF HL
     rw [hwq]
     clear hwq
     cases hs2:X.R.is (q+1) [59] with
     | false =>
      rw [hs2,if_neg (by decide)] at HWS
      have HE2:Hid (Y.2=(q+1,11)):=Lh (by rw [← HE1.out,Yb hs2,Zs (show ¬ (11:Int)=0 by decide)])
      clear hs2 HE1
      go_wp2_with (first
       | (refine Qb rfl 92 (.tmp 3) rfl w.heap.size 0 rfl (ryC X) HF.out.vr.rg Try.underlying92 rfl Qd ?_)
       | (go_at_call 56;(with_reducible refine (HWS.out _ HF.out.b).mono ?_);rintro e w2 ⟨rfl,b2⟩;have HF:=Lh (HF.out.under b2);clear b2;dsimp only)
       | (refine Qa rfl 95 (.tmp 6) (.tmp 47) rfl (G:=w.heap.size+2) (off:=0) rfl (us:=gtE ((q:Int)+1) 11) HF.out.vo rfl Qc (Nat.le_refl 19) (Qn _ _) ?_;intro w90 ht hs;have HF:=Lh (HF.out.set_o (us:=gtE ((q:Int)+1) 11) ht hs);clear ht hs)
       | fail)
      exact Qj 95 rfl rfl rfl HF.out.vo Try.underlying95 rfl Qc (Jd (q:=q+1) HE2.out (by decide) HF.out.b)
     | true =>
      rw [hs2,if_pos rfl] at HWS
      have hql2:q+1<X.L.length:=HOK.out.is_lt hs2
      have HE2:Hid (Qbo X.R (onN X.R) g (s++[⟨sg,xn⟩]) (q+1+1,0)=Y):=Lh (by rw [← HE1.out,Q5 hs2])
      clear hs2 HE1
      go_wp2_with (first
       | (refine Qb rfl 92 (.tmp 3) rfl w.heap.size 0 rfl (ryC X) HF.out.vr.rg Try.underlying92 rfl Qd ?_)
       | (go_at_call 56;(with_reducible refine (HWS.out _ HF.out.b).mono ?_);rintro e w2 ⟨rfl,b2⟩;have HL:=Lh (HL.out.under b2);have HF:=Lh (HF.out.under b2);clear b2;dsimp only)
       | fail)
      go_roundw
      case rel=>exact ⟨q+1+1,g,s++[⟨sg,xn⟩],A6,c6,rfl,by omega,by omega,by simp;omega,HE2,Lh (by have:=HL.out;rw [show (s++[(⟨sg,xn⟩:NmT)]).length=s.length+1 from by simp] at this ⊢;exact this),Lh (by have:=HF.out;rw [show (s++[(⟨sg,xn⟩:NmT)]).length=s.length+1 from by simp];exact this)⟩
      case measure=>simp [intOf];omega
end Go.Proofs.Ytjoclbeoafeebaa
