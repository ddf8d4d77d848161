import Derived.Test.YtjoclbeoafeebaaSq
import Derived.Test.YtjoclbeoafeebaaRfH
set_option maxHeartbeats 12800000
set_option maxRecDepth 100000
namespace Go.Proofs.Ytjoclbeoafeebaa
set_option linter.unusedVariables false
set_option linter.unusedSimpArgs false
open Go.RowKit
theorem rfn_any(X:Ry)(hX:X.Fit)(hm:∀ i,(X.R.wd i).size≤1000000)(F f:Nat)(hF16:16*X.L.length+9≤F)(hf3:3*X.L.length+3≤f):RFnC X F f:=by
 intro p m v S w hSw hM h hp0 hfn hlm
 have hf:X.L.length<f:=by omega
 obtain ⟨q,hqd⟩:∃ q,p+1=q:=⟨_,rfl⟩
 rw [show ((p:Int)+1)=(q:Int) by omega]
 have hq:q≤X.L.length:=by omega
 have hln:=h.2.len
 have hok:=Qo X.T X.L
 have HOK:=Lh hok
 have HSS:=Lh hSw
 have HMM:=Lh hM
 have HAT:Hid (∀ q,q≤X.L.length→∀ W,Below w.heap.size w W→CP 51 #[.agg (ryC X).toArray,.int .i64 (q:Int)] W fun e w'=>e=.returned (.string (X.R.wd q))∧Below W.heap.size W w'):=Lh fun q hq W hW=>Qg X q W ((h.up hW nLe).more hW.size) (by omega)
 have HPO:Hid (∀ q,q≤X.L.length→∀ W,Below w.heap.size w W→CP 38 #[.agg (ryC X).toArray,.int .i64 (q:Int)] W fun e w'=>e=.returned (.int .i64 (X.R.ps q))∧Below W.heap.size W w'):=Lh fun q hq W hW=>Qz X q W ((h.up hW nLe).more hW.size) (by omega)
 have HNA:Hid (∀ q,q≤X.L.length→∀ W,Below w.heap.size w W→CP 55 #[.agg (ryC X).toArray,.int .i64 (q:Int)] W fun e w'=>e=.returned (.bool (X.R.idn q))∧Below W.heap.size W w'):=Lh fun q hq W hW=>Y1 X hm q W ((h.up hW nLe).more hW.size) (by omega)
 have HWD:Hid (∀ q s,q≤X.L.length→∀ W,Below w.heap.size w W→CP 56 #[.agg (ryC X).toArray,.int .i64 (q:Int),.string s] W fun e w'=>e=.returned (.int .i64 (if X.R.is q s.toList=true then 0 else 11))∧Below W.heap.size W w'):=Lh fun q s hq W hW=>K2 X q s W ((h.up hW nLe).more hW.size) (by omega)
 have HIN:=Lh h
 obtain ⟨Z,hZ⟩:∃ Z,ffn X.R F f (p,0)=Z:=⟨_,rfl⟩
 have HE1:Hid (X.R.idn q=false→Z.2=(q,11)):=Lh fun h1=>by rw [← hZ,← hqd];exact ffn_1 hfn (by rw [hqd];exact h1)
 have HEA:Hid (X.R.idn q=true→Z.2=fz2 X.R F f (q+1,0)):=Lh fun h1=>by rw [← hZ,← hqd];exact ffn_a hfn (by rw [hqd];exact h1)
 have HZ:=Lh hZ
 have HQD:=Lh hqd
 have HFNW:=Lh hfn
 rw [hZ]
 obtain ⟨hl,hhl⟩:∃ x,m.hl=x:=⟨_,rfl⟩
 obtain ⟨he,hhe⟩:∃ x,m.he=x:=⟨_,rfl⟩
 have HF:=Lh (Zv X w hl he v)
 have HHL:=Lh hhl
 have HHE:=Lh hhe
 rw [hhl,hhe]
 show CP 54 #[.agg #[.string X.T,.slice X.A X.L.length X.c],.agg #[v.im,.bool hl,v.la,.bool he,v.ef,v.va,v.fn],.int .i64 (q:Int)] w _
 have hz:=Yp
 have hz2:=Qf7
 have HNM:=Lh (HNA.out q hq)
 clear hhl hhe hZ hqd hfn hM h hSw hok
 cases hi:X.R.idn q with
 | false =>
  rw [hi] at HNM
  have HE2:=Lh (HE1.out hi)
  go_enter Try.func54,Try.ntmps54
  go_wp2_with (first
   | (refine Qb rfl 92 (.tmp 3) rfl w.heap.size 0 rfl (ryC X) HF.out.vr.rg Try.underlying92 rfl Qd ?_)
   | (go_at_call 55;(with_reducible refine (HNM.out _ HF.out.b).mono ?_);rintro e w2 ⟨rfl,b2⟩;have HF:=Lh (HF.out.under b2);clear b2;dsimp only)
   | (refine Qa rfl 95 (.tmp 6) (.tmp 18) rfl (G:=w.heap.size+2) (off:=0) rfl (us:=gtE (q:Int) 11) HF.out.vo rfl Qc (Nat.le_refl 19) (Qn _ _) ?_;intro w90 ht hs;have HF:=Lh (HF.out.set_o (us:=gtE (q:Int) 11) ht hs);clear ht hs)
   | fail)
  exact Qj 95 rfl rfl rfl HF.out.vo Try.underlying95 rfl Qc (Jd HE2.out (by decide) HF.out.b)
 | true =>
  rw [hi] at HNM
  have hql:q<X.L.length:=HOK.out.id_lt hi
  have HE2:=Lh (HEA.out hi)
  have HA0:=Lh (HAT.out q hq)
  have HPN:=Lh (HPO.out q hq)
  obtain ⟨sg,hsg⟩:∃ x,X.R.wd q=x:=⟨_,rfl⟩
  obtain ⟨xn,hxn⟩:∃ x,X.R.ps q=x:=⟨_,rfl⟩
  have HSG:=Lh hsg
  have HXN:=Lh hxn
  rw [hsg] at HA0
  rw [hxn] at HPN
  have HID:=Lh hi
  clear hsg hxn hi HE1 HEA
  obtain ⟨SS,hSd⟩:∃ SS:World→Prop,SS=fun W=>F3 X w W [v.im,.bool hl,v.la,.bool he,v.ef,v.va,v.fn] (gtE 0 0):=⟨_,rfl⟩
  have HS:Hid (∀ W,F3 X w W [v.im,.bool hl,v.la,.bool he,v.ef,v.va,v.fn] (gtE 0 0)→SS W):=Lh fun W h=>by rw [hSd];exact h
  have hSF:∀ W,SS W→F3 X w W [v.im,.bool hl,v.la,.bool he,v.ef,v.va,v.fn] (gtE 0 0):=by rw [hSd];exact fun W h=>h
  have q0:∀ s:SW SS,s.w.cell? ⟨w.heap.size,0,none⟩=some (.string X.T):=fun s=>(hSF _ s.h).vr.at 0 rfl
  have q1:∀ s:SW SS,s.w.cell? ⟨w.heap.size,1,none⟩=some (.slice X.A X.L.length X.c):=fun s=>(hSF _ s.h).vr.at 1 rfl
  go_enter Try.func54,Try.ntmps54
  go_wp2_with (first
   | (refine Qb rfl 92 (.tmp 3) rfl w.heap.size 0 rfl (ryC X) HF.out.vr.rg Try.underlying92 rfl Qd ?_)
   | (go_at_call 55;(with_reducible refine (HNM.out _ HF.out.b).mono ?_);rintro e w2 ⟨rfl,b2⟩;have HF:=Lh (HF.out.under b2);clear b2;dsimp only)
   | fail)
  refine Qjf (fun a G=>(((((((a.put (some 19) (.agg #[.string X.T,.slice X.A X.L.length X.c])).put (some 20) (.int .i64 (q:Int))).put (some 21) (.string sg)).put (some 22) (.agg #[.string X.T,.slice X.A X.L.length X.c])).put (some 23) (.int .i64 (q:Int))).put (some 24) (.int .i64 xn)).put (some 25) (.agg #[.string sg,.int .i64 xn,.slice none 0 0,.int .i64 0,.bool false,.bool false,.string ⟨#[]⟩,.int .i64 0,.int .i64 0,.bool false,.slice none 0 0,.slice none 0 0,.int .i64 0,.int .i64 0,.int .i64 0,.string ⟨#[]⟩,.string ⟨#[]⟩,.slice none 0 0])).put (some 7) (.pointer (some ⟨G,0,none⟩))) (fun G W=>F3 X w W [v.im,.bool hl,v.la,.bool he,v.ef,v.va,v.fn] (gtE 0 0)∧Var W G (fnC { FnT.nul with nm:=sg,a:=xn } FnV.nul)∧w.heap.size+2<G) ?_ ?_
  ·refine Jc (by kernel_rfl) 9 rfl ?_
   have HQ:=Lh (HF.out.under (Qi _ _))
   obtain ⟨wx,hwx⟩:∃ wx,w2.drew=wx:=⟨_,rfl⟩
   rw [hwx] at HQ
   rw [hwx]
   obtain ⟨NB,hNB⟩:∃ NB,wx.heap.size=NB:=⟨_,rfl⟩
   have HXS:=Lh (show NB≤wx.heap.size by omega)
   clear hNB
   have hbp:=fun (w:World)=>run_build (P:=Try.prog) w 83 #[(0,.string sg),(1,.int .i64 xn)] #[.string sg,.int .i64 xn,.slice none 0 0,.int .i64 0,.bool false,.bool false,.string ⟨#[]⟩,.int .i64 0,.int .i64 0,.bool false,.slice none 0 0,.slice none 0 0,.int .i64 0,.int .i64 0,.int .i64 0,.string ⟨#[]⟩,.string ⟨#[]⟩,.slice none 0 0] (by kernel_rfl)
   have hS0:=HS.out _ HQ.out
   clear HF hwx
   refine J2 SS 8 (by kernel_rfl) ?_
   refine Qp 0 2 7 (by kernel_rfl) (fun _ _ d _ _ h=>by first | (cases d <;> exact h) | exact absurd h.1 (fun e=>nomatch e)) hS0 (fun hne=>?_)
   simp only [sD,sE,sF,sG]
   repeat (go_big_quiet_step (fail))
   refine wpQuiet_nil ?_
   refine Qp 3 2 5 (by kernel_rfl) (fun _ _ d _ _ h=>by first | (cases d <;> exact h) | exact absurd h.1 (fun e=>nomatch e)) hS0 (fun hne=>?_)
   simp only [sD,sE,sF,sG]
   repeat (go_big_quiet_step (fail))
   refine wpQuiet_nil ?_
   refine Z9 (i:=2) (j:=7) (fuel:=4) (by kernel_rfl) (by omega) (by omega) rfl rfl (fun KK hKK=>?_) (fun KK hKK=>?_)
   ·go_simp
    with_reducible refine (HA0.out _ HQ.out.b).mono ?_
    rintro e w2a ⟨rfl,bb⟩
    have HQ:=Lh (HQ.out.under bb)
    have HXS:=Lh (Nat.le_trans HXS.out bb.size)
    clear hS0 bb
    have hS0:=HS.out _ HQ.out
    refine hKK _ _ hS0 ?_
    clear hKK KK
    refine Z9 (i:=5) (j:=7) (fuel:=3) (by kernel_rfl) (by omega) (by omega) rfl rfl (fun KK hKK=>?_) (fun KK hKK=>?_)
    ·go_simp
     with_reducible refine (HPN.out _ HQ.out.b).mono ?_
     rintro e w5a ⟨rfl,bb⟩
     have HQ:=Lh (HQ.out.under bb)
     have HXS:=Lh (Nat.le_trans HXS.out bb.size)
     clear hS0 bb
     have hS0:=HS.out _ HQ.out
     refine hKK _ _ hS0 ?_
     clear hKK KK
     refine K9 6 (.agg #[.string sg,.int .i64 xn,.slice none 0 0,.int .i64 0,.bool false,.bool false,.string ⟨#[]⟩,.int .i64 0,.int .i64 0,.bool false,.slice none 0 0,.slice none 0 0,.int .i64 0,.int .i64 0,.int .i64 0,.string ⟨#[]⟩,.string ⟨#[]⟩,.slice none 0 0]) (by kernel_rfl) (fun _ _ d _ _ h=>by first | (cases d <;> exact h) | exact absurd h.1 (fun e=>nomatch e)) rfl hS0 (.inl ⟨rfl,fun w' _=>by simp [execOp,Act.eval,hbp w',Result.andThen]⟩) ?_
     simp only [Act.put,sA,sB,sC]
     refine Ql (i:=7) (fuel:=1) (by kernel_rfl) (by omega) rfl (fun KK hKK=>?_)
     go_simp
     have hba:=(Below.refl w5a.heap.size w5a).alloc nLe (.cells #[.string ⟨#[]⟩,.int .i64 0,.slice none 0 0,.int .i64 0,.bool false,.bool false,.string ⟨#[]⟩,.int .i64 0,.int .i64 0,.bool false,.slice none 0 0,.slice none 0 0,.int .i64 0,.int .i64 0,.int .i64 0,.string ⟨#[]⟩,.string ⟨#[]⟩,.slice none 0 0] 83)
     have HG:=Lh (Var.new w5a (fnC FnT.nul FnV.nul) 83 (c:=#[.string ⟨#[]⟩,.int .i64 0,.slice none 0 0,.int .i64 0,.bool false,.bool false,.string ⟨#[]⟩,.int .i64 0,.int .i64 0,.bool false,.slice none 0 0,.slice none 0 0,.int .i64 0,.int .i64 0,.int .i64 0,.string ⟨#[]⟩,.string ⟨#[]⟩,.slice none 0 0]) rfl)
     have HGL:=Lh (show w.heap.size+2<w5a.heap.size from HQ.out.lt)
     have HGX:=HXS
     have HQ:=Lh (HQ.out.under hba)
     have HXS:=Lh (Nat.le_trans HXS.out hba.size)
     obtain ⟨wA,hwA⟩:∃ wA,w5a.alloc (.cells #[.string ⟨#[]⟩,.int .i64 0,.slice none 0 0,.int .i64 0,.bool false,.bool false,.string ⟨#[]⟩,.int .i64 0,.int .i64 0,.bool false,.slice none 0 0,.slice none 0 0,.int .i64 0,.int .i64 0,.int .i64 0,.string ⟨#[]⟩,.string ⟨#[]⟩,.slice none 0 0] 83)=wA:=⟨_,rfl⟩
     rw [hwA] at HG HQ HXS
     rw [hwA]
     obtain ⟨G,hG⟩:∃ G,w5a.heap.size=G:=⟨_,rfl⟩
     rw [hG] at HG HGL HGX
     rw [hG]
     clear hwA hG hba hS0
     have hS0:=HS.out _ HQ.out
     refine hKK _ _ hS0 ?_
     clear hKK KK
     refine Ja (i:=8) (fuel:=0) (by kernel_rfl) nLe rfl (fun KK hKK=>?_)
     refine Z2 rfl 83 (.tmp 7) (.tmp 25) rfl G 0 (fnC { FnT.nul with nm:=sg,a:=xn } FnV.nul) rfl rfl (HG.out.there (Nat.le_refl 18)) Zr (Qeq rfl rfl rfl rfl) ?_
     have ht:=Tn.sets (M:=fun k=>k=G) G (fnC { FnT.nul with nm:=sg,a:=xn } FnV.nul) rfl 0 wA
     have hs:=HG.out.sets 0 (fnC { FnT.nul with nm:=sg,a:=xn } FnV.nul) (Nat.le_refl 18)
     have hgl:=HGL.out
     have hgx:=HGX.out
     refine hKK _ _ ?_
     refine wpAny_done (by kernel_rfl) ?_ _
     exact ⟨rfl,G,rfl,HQ.out.set_n ht hgl,hs,hgl⟩
    ·go_simp
     have hba:=(Below.refl w2a.heap.size w2a).alloc nLe (.cells #[.string ⟨#[]⟩,.int .i64 0,.slice none 0 0,.int .i64 0,.bool false,.bool false,.string ⟨#[]⟩,.int .i64 0,.int .i64 0,.bool false,.slice none 0 0,.slice none 0 0,.int .i64 0,.int .i64 0,.int .i64 0,.string ⟨#[]⟩,.string ⟨#[]⟩,.slice none 0 0] 83)
     have HG:=Lh (Var.new w2a (fnC FnT.nul FnV.nul) 83 (c:=#[.string ⟨#[]⟩,.int .i64 0,.slice none 0 0,.int .i64 0,.bool false,.bool false,.string ⟨#[]⟩,.int .i64 0,.int .i64 0,.bool false,.slice none 0 0,.slice none 0 0,.int .i64 0,.int .i64 0,.int .i64 0,.string ⟨#[]⟩,.string ⟨#[]⟩,.slice none 0 0]) rfl)
     have HGL:=Lh (show w.heap.size+2<w2a.heap.size from HQ.out.lt)
     have HGX:=HXS
     have HQ:=Lh (HQ.out.under hba)
     have HXS:=Lh (Nat.le_trans HXS.out hba.size)
     obtain ⟨wA,hwA⟩:∃ wA,w2a.alloc (.cells #[.string ⟨#[]⟩,.int .i64 0,.slice none 0 0,.int .i64 0,.bool false,.bool false,.string ⟨#[]⟩,.int .i64 0,.int .i64 0,.bool false,.slice none 0 0,.slice none 0 0,.int .i64 0,.int .i64 0,.int .i64 0,.string ⟨#[]⟩,.string ⟨#[]⟩,.slice none 0 0] 83)=wA:=⟨_,rfl⟩
     rw [hwA] at HG HQ HXS
     rw [hwA]
     obtain ⟨G,hG⟩:∃ G,w2a.heap.size=G:=⟨_,rfl⟩
     rw [hG] at HG HGL HGX
     rw [hG]
     clear hwA hG hba hS0
     have hS0:=HS.out _ HQ.out
     refine hKK _ _ hS0 ?_
     clear hKK KK
     refine Ql (i:=5) (fuel:=2) (by kernel_rfl) (by omega) rfl (fun KK hKK=>?_)
     go_simp
     with_reducible refine (HPN.out _ HQ.out.b).mono ?_
     rintro e w5a ⟨rfl,bb⟩
     have HQ:=Lh (HQ.out.under bb)
     have HXS:=Lh (Nat.le_trans HXS.out bb.size)
     have HG:=Lh (HG.out.under bb)
     clear hS0 bb
     have hS0:=HS.out _ HQ.out
     refine hKK _ _ hS0 ?_
     clear hKK KK
     refine K9 6 (.agg #[.string sg,.int .i64 xn,.slice none 0 0,.int .i64 0,.bool false,.bool false,.string ⟨#[]⟩,.int .i64 0,.int .i64 0,.bool false,.slice none 0 0,.slice none 0 0,.int .i64 0,.int .i64 0,.int .i64 0,.string ⟨#[]⟩,.string ⟨#[]⟩,.slice none 0 0]) (by kernel_rfl) (fun _ _ d _ _ h=>by first | (cases d <;> exact h) | exact absurd h.1 (fun e=>nomatch e)) rfl hS0 (.inl ⟨rfl,fun w' _=>by simp [execOp,Act.eval,hbp w',Result.andThen]⟩) ?_
     simp only [Act.put,sA,sB,sC]
     refine Ja (i:=8) (fuel:=0) (by kernel_rfl) nLe rfl (fun KK hKK=>?_)
     refine Z2 rfl 83 (.tmp 7) (.tmp 25) rfl G 0 (fnC { FnT.nul with nm:=sg,a:=xn } FnV.nul) rfl rfl (HG.out.there (Nat.le_refl 18)) Zr (Qeq rfl rfl rfl rfl) ?_
     have ht:=Tn.sets (M:=fun k=>k=G) G (fnC { FnT.nul with nm:=sg,a:=xn } FnV.nul) rfl 0 w5a
     have hs:=HG.out.sets 0 (fnC { FnT.nul with nm:=sg,a:=xn } FnV.nul) (Nat.le_refl 18)
     have hgl:=HGL.out
     have hgx:=HGX.out
     refine hKK _ _ ?_
     refine wpAny_done (by kernel_rfl) ?_ _
     exact ⟨rfl,G,rfl,HQ.out.set_n ht hgl,hs,hgl⟩
   ·go_simp
    have hba:=(Below.refl wx.heap.size wx).alloc nLe (.cells #[.string ⟨#[]⟩,.int .i64 0,.slice none 0 0,.int .i64 0,.bool false,.bool false,.string ⟨#[]⟩,.int .i64 0,.int .i64 0,.bool false,.slice none 0 0,.slice none 0 0,.int .i64 0,.int .i64 0,.int .i64 0,.string ⟨#[]⟩,.string ⟨#[]⟩,.slice none 0 0] 83)
    have HG:=Lh (Var.new wx (fnC FnT.nul FnV.nul) 83 (c:=#[.string ⟨#[]⟩,.int .i64 0,.slice none 0 0,.int .i64 0,.bool false,.bool false,.string ⟨#[]⟩,.int .i64 0,.int .i64 0,.bool false,.slice none 0 0,.slice none 0 0,.int .i64 0,.int .i64 0,.int .i64 0,.string ⟨#[]⟩,.string ⟨#[]⟩,.slice none 0 0]) rfl)
    have HGL:=Lh (show w.heap.size+2<wx.heap.size from HQ.out.lt)
    have HGX:=HXS
    have HQ:=Lh (HQ.out.under hba)
    have HXS:=Lh (Nat.le_trans HXS.out hba.size)
    obtain ⟨wA,hwA⟩:∃ wA,wx.alloc (.cells #[.string ⟨#[]⟩,.int .i64 0,.slice none 0 0,.int .i64 0,.bool false,.bool false,.string ⟨#[]⟩,.int .i64 0,.int .i64 0,.bool false,.slice none 0 0,.slice none 0 0,.int .i64 0,.int .i64 0,.int .i64 0,.string ⟨#[]⟩,.string ⟨#[]⟩,.slice none 0 0] 83)=wA:=⟨_,rfl⟩
    rw [hwA] at HG HQ HXS
    rw [hwA]
    obtain ⟨G,hG⟩:∃ G,wx.heap.size=G:=⟨_,rfl⟩
    rw [hG] at HG HGL HGX
    rw [hG]
    clear hwA hG hba hS0
    have hS0:=HS.out _ HQ.out
    refine hKK _ _ hS0 ?_
    clear hKK KK
    refine Ql (i:=2) (fuel:=3) (by kernel_rfl) (by omega) rfl (fun KK hKK=>?_)
    go_simp
    with_reducible refine (HA0.out _ HQ.out.b).mono ?_
    rintro e w2a ⟨rfl,bb⟩
    have HQ:=Lh (HQ.out.under bb)
    have HXS:=Lh (Nat.le_trans HXS.out bb.size)
    have HG:=Lh (HG.out.under bb)
    clear hS0 bb
    have hS0:=HS.out _ HQ.out
    refine hKK _ _ hS0 ?_
    clear hKK KK
    refine Ql (i:=5) (fuel:=2) (by kernel_rfl) (by omega) rfl (fun KK hKK=>?_)
    go_simp
    with_reducible refine (HPN.out _ HQ.out.b).mono ?_
    rintro e w5a ⟨rfl,bb⟩
    have HQ:=Lh (HQ.out.under bb)
    have HXS:=Lh (Nat.le_trans HXS.out bb.size)
    have HG:=Lh (HG.out.under bb)
    clear hS0 bb
    have hS0:=HS.out _ HQ.out
    refine hKK _ _ hS0 ?_
    clear hKK KK
    refine K9 6 (.agg #[.string sg,.int .i64 xn,.slice none 0 0,.int .i64 0,.bool false,.bool false,.string ⟨#[]⟩,.int .i64 0,.int .i64 0,.bool false,.slice none 0 0,.slice none 0 0,.int .i64 0,.int .i64 0,.int .i64 0,.string ⟨#[]⟩,.string ⟨#[]⟩,.slice none 0 0]) (by kernel_rfl) (fun _ _ d _ _ h=>by first | (cases d <;> exact h) | exact absurd h.1 (fun e=>nomatch e)) rfl hS0 (.inl ⟨rfl,fun w' _=>by simp [execOp,Act.eval,hbp w',Result.andThen]⟩) ?_
    simp only [Act.put,sA,sB,sC]
    refine Ja (i:=8) (fuel:=0) (by kernel_rfl) nLe rfl (fun KK hKK=>?_)
    refine Z2 rfl 83 (.tmp 7) (.tmp 25) rfl G 0 (fnC { FnT.nul with nm:=sg,a:=xn } FnV.nul) rfl rfl (HG.out.there (Nat.le_refl 18)) Zr (Qeq rfl rfl rfl rfl) ?_
    have ht:=Tn.sets (M:=fun k=>k=G) G (fnC { FnT.nul with nm:=sg,a:=xn } FnV.nul) rfl 0 w5a
    have hs:=HG.out.sets 0 (fnC { FnT.nul with nm:=sg,a:=xn } FnV.nul) (Nat.le_refl 18)
    have hgl:=HGL.out
    have hgx:=HGX.out
    refine hKK _ _ ?_
    refine wpAny_done (by kernel_rfl) ?_ _
    exact ⟨rfl,G,rfl,HQ.out.set_n ht hgl,hs,hgl⟩
  ·rintro G w3 ⟨HF0,HV0,hGl⟩
   have HF:=Lh (show Ff X w w3 [v.im,.bool hl,v.la,.bool he,v.ef,v.va,v.fn] (gtE 0 0) G (fnD sg xn Qk 0 An.nul false Qk Qk Ex.nul Qk) from ⟨HF0,HV0,hGl⟩)
   clear HF0 HV0
   have HW1:Hid (∀ W,Below w.heap.size w W→CP 56 #[.agg (ryC X).toArray,.int .i64 ((q:Int)+1),.string Qc9] W fun e w'=>e=.returned (.int .i64 (if X.R.is (q+1) [40]=true then 0 else 11))∧Below W.heap.size W w'):=Lh fun W hW=>by
    have:=HWD.out (q+1) Qc9 (by omega) W hW
    rwa [show Qc9.toList=[40] from wd1 40 []] at this
   clear HA0 HPN HNM hSF q0 q1 HS
   cases h2:X.R.is (q+1) [40] with
   | false =>
    rw [h2,if_neg (by decide)] at HW1
    have HE2:Hid (Z.2=(q+1,11)):=Lh (HE2.out.trans (fz2_no h2))
    clear h2
    refine Lh ?_
    go_wp2_with (first
     | (refine Qb rfl 92 (.tmp 3) rfl w.heap.size 0 rfl (ryC X) HF.out.f3.vr.rg Try.underlying92 rfl Qd ?_)
     | (go_at_call 56;(with_reducible refine (HW1.out _ HF.out.f3.b).mono ?_);rintro e w2 ⟨rfl,b2⟩;have HF:=Lh (HF.out.under b2);clear b2;dsimp only)
     | (refine Qa rfl 95 (.tmp 6) (.tmp 33) rfl (G:=w.heap.size+2) (off:=0) rfl (us:=gtE ((q:Int)+1) 11) HF.out.f3.vo rfl Qc (Nat.le_refl 19) (Qn _ _) ?_;intro w90 ht hs;have HF:=Lh (HF.out.f3.set_o (us:=gtE ((q:Int)+1) 11) ht hs);clear ht hs)
     | fail)
    exact Qj 95 rfl rfl rfl HF.out.vo Try.underlying95 rfl Qc (Jd HE2.out (by decide) HF.out.b)
   | true =>
    rw [h2,if_pos rfl] at HW1
    have hq1:q+1<X.L.length:=HOK.out.is_lt h2
    obtain ⟨⟨ps,j,r⟩,hy⟩:∃ y,lst X.R (onV X.R) Qda f [] (q+2,0)=y:=⟨_,rfl⟩
    have HE2:Hid (Z.2=fz3 X.R F f (j,r)):=Lh (by rw [HE2.out,fz2_yes h2,hy])
    have HPA:Hid (∀ W,Below w.heap.size w W→CP 65 #[.agg (ryC X).toArray,.int .i64 ((q:Int)+2)] W (PvTo (ps,(j,r)) W)):=Lh fun W hW=>by
     rw [← hy]
     exact Qh3 X hm f (q+2) W ((HIN.out.up hW nLe).more hW.size) (by omega) hf
    have hj:j≤X.L.length:=by
     have:=(Qi3 HOK.out (fun s x hx=>(onV_up HOK.out s hx).weak (Nat.zero_le 1)) 41 [] f [] (x:=(q+2,0)) (show q+2≤X.L.length by omega)).n
     rwa [show lst X.R (onV X.R) ⟨(41::[]).toArray⟩ f [] (q+2,0)=(ps,(j,r)) from hy] at this
    have HY:=Lh hy
    have HH2:=Lh h2
    clear h2 hy
    refine Lh ?_
    go_wp2_with (first
     | (refine Qb rfl 92 (.tmp 3) rfl w.heap.size 0 rfl (ryC X) HF.out.f3.vr.rg Try.underlying92 rfl Qd ?_)
     | (go_at_call 56;(with_reducible refine (HW1.out _ HF.out.f3.b).mono ?_);rintro e w2 ⟨rfl,b2⟩;have HF:=Lh (HF.out.under b2);clear b2;dsimp only)
     | (go_at_call 65;(with_reducible refine (HPA.out _ HF.out.f3.b).mono ?_);rintro e w4 ⟨pv,rfl,hpo,hps,b2⟩;have hw3:=HF.out.f3.lt;have hw3g:=HF.out.vf.lt;have HF:=Lh (HF.out.under b2);have hw4:=HF.out.f3.lt;have hw5:=HF.out.vf.lt;obtain ⟨us,hus⟩:∃ us,pvC (ps,(j,r)) pv=us:=⟨_,rfl⟩;have HU:=Lh (show us.length=19∧∀ u∈us,u.oneCell'=true by rw [← hus];exact ⟨pvC_len _ _,pvC_one hpo⟩);rw [hus];have HUS:=Lh hus;clear hus;have HPS0:=Lh (fun e=>(hps e).weak (S':=fun b=>G<b∧b<w4.heap.size) fun b hb h2=>⟨by omega,h2⟩);clear b2 hps hpo;dsimp only)
     | (refine Qa rfl 95 (.tmp 8) (.tmp 37) rfl (G:=w4.heap.size) (off:=0) rfl (us:=us) (Var.new w4 (gtE 0 0) 95 (c:=#[.slice none 0 0,.bool false,.slice none 0 0,.bool false,.slice none 0 0,.slice none 0 0,.slice none 0 0,.slice none 0 0,.string ⟨#[]⟩,.int .i64 0,.int .i64 0,.bool false,.bool false,.string ⟨#[]⟩,.int .i64 0,.int .i64 0,.slice none 0 0,.int .i64 0,.int .i64 0]) rfl) rfl (by rw [List.size_toArray,HU.out.1];exact Qc) (by rw [HU.out.1];exact Nat.le_refl 19) HU.out.2 ?_;intro w6 ht hs;have ta:=Tn.alloc (fun k=>k=w4.heap.size) w4 (.cells #[.slice none 0 0,.bool false,.slice none 0 0,.bool false,.slice none 0 0,.slice none 0 0,.slice none 0 0,.slice none 0 0,.string ⟨#[]⟩,.int .i64 0,.int .i64 0,.bool false,.bool false,.string ⟨#[]⟩,.int .i64 0,.int .i64 0,.slice none 0 0,.int .i64 0,.int .i64 0] 95);have tb:=ta.trans ht;have b2:=tb.below nLe (by intro k hk e;omega);have HF:=Lh (HF.out.under b2);have HPS1:=Lh (fun e=>(HPS0.out e).turn (S':=fun b=>G<b∧b<w4.heap.size) tb fun b hb _=>⟨hb,by omega⟩);clear HPS0;have HG:=Lh (show Var w6 w4.heap.size us by rw [Z8 _ _ HU.out.1] at hs;exact hs);clear ht hs ta tb b2;refine Hid.out ?_)
     | fail)
    obtain ⟨G2,hG2⟩:∃ G2,w4.heap.size=G2:=⟨_,rfl⟩
    rw [hG2] at HG HPS1 hw4 hw5
    rw [hG2]
    clear hG2
    by_cases hr:r=0
    ·subst hr
     have husE:us=gt moN Qk (vrC VrT.nul) pv (j:Int) 0:=by rw [← HUS.out];unfold pvC;rw [if_pos rfl]
     subst husE
     have HPS:=Lh (HPS1.out rfl)
     clear HPS1
     obtain ⟨PA,pc,hpv⟩:=HPS.out.frm
     subst hpv
     clear HUS HU HPA
     have jHG_16:=HG.out.at 16 (v:=.slice PA ps.length pc) rfl
     have jHG_18:=HG.out.at 18 (v:=.int .i64 0) rfl
     refine Lh ?_
     go_wp2_with (first
      | (refine Qr rfl 48 (.tmp 44) (.tmp 43) rfl (G:=G) (off:=2) rfl (v:=.slice PA ps.length pc) HF.out.vf rfl (by kernel_rfl) (by show 2<18;omega) rfl ?_;intro w7 ht hs;have HG:=Lh (HG.out.turn ht (by omega));have HPS:=Lh (HPS.out.turn (S':=fun b=>G<b∧b<G2) ht fun b hb _=>⟨hb,by omega⟩);have HF:=Lh (HF.out.set_f (fs':=(fnD sg xn (.slice PA ps.length pc) 0 An.nul false Qk Qk Ex.nul Qk)) ht hs);clear ht hs;have jHG_17:=HG.out.at 17 (v:=.int .i64 (j:Int)) rfl;refine Hid.out ?_)
      | fail)
     have HW2:Hid (∀ W,Below w.heap.size w W→CP 56 #[.agg (ryC X).toArray,.int .i64 (j:Int),.string Qek] W fun e w'=>e=.returned (.int .i64 (if X.R.is (j) [58]=true then 0 else 11))∧Below W.heap.size W w'):=Lh fun W hW=>by
      have:=HWD.out (j) Qek (by omega) W hW
      rwa [show Qek.toList=[58] from wd1 58 []] at this
     cases h4:X.R.is (j) [58] with
     | false =>
      rw [h4,if_neg (by decide)] at HW2
      have HE3:Hid (Z.2=(j,11)):=Lh (HE2.out.trans (fz3_no h4))
      clear h4
      refine Lh ?_
      go_wp2_with (first
       | (refine Qb rfl 92 (.tmp 3) rfl w.heap.size 0 rfl (ryC X) HF.out.f3.vr.rg Try.underlying92 rfl Qd ?_)
       | (go_at_call 56;(with_reducible refine (HW2.out _ HF.out.f3.b).mono ?_);rintro e w2 ⟨rfl,b2⟩;have HF:=Lh (HF.out.under b2);clear b2;dsimp only)
       | (refine Qa rfl 95 (.tmp 6) (.tmp 52) rfl (G:=w.heap.size+2) (off:=0) rfl (us:=gtE (j:Int) 11) HF.out.f3.vo rfl Qc (Nat.le_refl 19) (Qn _ _) ?_;intro w90 ht hs;have HF:=Lh (HF.out.f3.set_o (us:=gtE (j:Int) 11) ht hs);clear ht hs)
       | fail)
      exact Qj 95 rfl rfl rfl HF.out.vo Try.underlying95 rfl Qc (Jd HE3.out (by decide) HF.out.b)
     | true =>
      rw [h4,if_pos rfl] at HW2
      have hj1:j<X.L.length:=HOK.out.is_lt h4
      have HH4:=Lh h4
      have HTY:Hid (∀ W,Below w.heap.size w W→CP 66 #[.agg (ryC X).toArray,.int .i64 ((j:Int)+1)] W fun e w'=>e=.returned (.int .i64 (tyI X.R (j+1)))∧Below W.heap.size W w'):=Lh fun W hW=>Qco X (j+1) W ((HIN.out.up hW nLe).more hW.size) (by omega)
      obtain ⟨ty,hty⟩:∃ t,tyI X.R (j+1)=t:=⟨_,rfl⟩
      rw [hty] at HTY
      clear h4
      refine Lh ?_
      go_wp2_with (first
       | (refine Qb rfl 92 (.tmp 3) rfl w.heap.size 0 rfl (ryC X) HF.out.f3.vr.rg Try.underlying92 rfl Qd ?_)
       | (go_at_call 56;(with_reducible refine (HW2.out _ HF.out.f3.b).mono ?_);rintro e w2 ⟨rfl,b2⟩;have HG:=Lh (HG.out.under b2);have HPS:=Lh (HPS.out.under b2);have HF:=Lh (HF.out.under b2);clear b2;dsimp only)
       | (go_at_call 66;(with_reducible refine (HTY.out _ HF.out.f3.b).mono ?_);rintro e w2 ⟨rfl,b2⟩;have HG:=Lh (HG.out.under b2);have HPS:=Lh (HPS.out.under b2);have HF:=Lh (HF.out.under b2);clear b2;dsimp only)
       | (refine Qr rfl 3 (.tmp 57) (.tmp 56) rfl (G:=G) (off:=3) rfl (v:=.int .i64 ty) HF.out.vf rfl (by kernel_rfl) (by show 3<18;omega) rfl ?_;intro w7 ht hs;have HG:=Lh (HG.out.turn ht (by omega));have HPS:=Lh (HPS.out.turn (S':=fun b=>G<b∧b<G2) ht fun b hb _=>⟨hb,by omega⟩);have HF:=Lh (HF.out.set_f (fs':=(fnD sg xn (.slice PA ps.length pc) ty An.nul false Qk Qk Ex.nul Qk)) ht hs);clear ht hs;refine Hid.out ?_)
       | fail)
      have jf3:∀ W,Ff X w W [v.im,.bool hl,v.la,.bool he,v.ef,v.va,v.fn] (gtE 0 0) G (fnD sg xn (.slice PA ps.length pc) ty An.nul false Qk Qk Ex.nul Qk)→W.cell? ⟨G,3,none⟩=some (.int .i64 ty):=fun W h=>h.vf.at 3 rfl
      have jf3:=jf3 _ HF.out
      by_cases ht0:ty<0
      ·have HE3:Hid (Z.2=(j+1,11)):=Lh (HE2.out.trans (fz3_ty HH4.out (by rw [hty];exact ht0)))
       refine Lh ?_
       go_wp2_with (first
        | (refine Qa rfl 95 (.tmp 6) (.tmp 63) rfl (G:=w.heap.size+2) (off:=0) rfl (us:=gtE ((j:Int)+1) 11) HF.out.f3.vo rfl Qc (Nat.le_refl 19) (Qn _ _) ?_;intro w90 ht hs;have HF:=Lh (HF.out.f3.set_o (us:=gtE ((j:Int)+1) 11) ht hs);clear ht hs)
        | fail)
       exact Qj 95 rfl rfl rfl HF.out.vo Try.underlying95 rfl Qc (Jd (q:=j+1) HE3.out (by decide) HF.out.b)
      ·have hj2:j+1<X.L.length:=Qmq HOK.out (by rw [hty];exact ht0)
       have HTN:=Lh (show ¬ tyI X.R (j+1)<0 by rw [hty];exact ht0)
       have HTE:=Lh hty
       obtain ⟨⟨an,k,rk⟩,hmm⟩:∃ m,Yz X.R (j+2)=m:=⟨_,rfl⟩
       have HE3:Hid (Z.2=fz5 X.R F f (k,rk)):=Lh (by rw [HE2.out,fz3_yes HH4.out HTN.out,hmm])
       have HMM2:=Lh hmm
       have hk:k≤X.L.length:=by
        have:=(Qds HOK.out (x:=(j+2,0)) (show j+2≤X.L.length by omega)).n
        rwa [show pmk X.R (j+2,0)=(an,(k,rk)) by unfold pmk;rw [if_pos rfl];exact hmm] at this
       have HMK:Hid (∀ W,Below w.heap.size w W→CP 67 #[.agg (ryC X).toArray,.int .i64 ((j:Int)+2)] W fun e w'=>e=.returned (.agg (mkC (an,(k,rk))).toArray)∧Below W.heap.size W w'):=Lh fun W hW=>by
        have:=Qhz X hm (j+1) (by omega) W ((HIN.out.up hW nLe).more hW.size)
        rw [show j+1+1=j+2 from rfl,hmm,show ((j+1:Nat):Int)+1=(j:Int)+2 by omega] at this
        exact this
       clear hty hmm HTY HW2 HE2
       refine Lh ?_
       go_wp2_with (first
        | (refine Qb rfl 92 (.tmp 3) rfl w.heap.size 0 rfl (ryC X) HF.out.f3.vr.rg Try.underlying92 rfl Qd ?_)
        | (go_at_call 67;(with_reducible refine (HMK.out _ HF.out.f3.b).mono ?_);rintro e w8 ⟨rfl,b2⟩;have HG:=Lh (HG.out.under b2);have HPS:=Lh (HPS.out.under b2);have HF:=Lh (HF.out.under b2);clear b2;have hw8:=HF.out.vf.lt;have hw9:=HG.out.lt;dsimp only)
        | (refine Qa rfl 130 (.tmp 10) (.tmp 67) rfl (G:=w8.heap.size) (off:=0) rfl (us:=mkC (an,(k,rk))) (Var.new w8 (mkC (An.nul,(0,0))) 130 (c:=#[.bool false,.bool false,.string ⟨#[]⟩,.int .i64 0,.int .i64 0,.int .i64 0,.int .i64 0]) rfl) rfl Zz (Nat.le_refl 7) (K1 _) ?_;intro w9 ht hs;have ta:=Tn.alloc (fun k=>k=w8.heap.size) w8 (.cells #[.bool false,.bool false,.string ⟨#[]⟩,.int .i64 0,.int .i64 0,.int .i64 0,.int .i64 0] 130);have tb:=ta.trans ht;have b2:=tb.below nLe (by intro k hk e;omega);have HG:=Lh (HG.out.under b2);have HPS:=Lh (HPS.out.under b2);have HF:=Lh (HF.out.under b2);have HA:=Lh (show Var w9 w8.heap.size (mkC (an,(k,rk))) from hs);clear ht hs ta tb b2;refine Hid.out ?_)
        | fail)
       obtain ⟨G3,hG3⟩:∃ G3,w8.heap.size=G3:=⟨_,rfl⟩
       rw [hG3] at HA hw8 hw9
       rw [hG3]
       clear hG3
       have jHA_5:=HA.out.at 5 (v:=.int .i64 (k:Int)) rfl
       have jHA_6:=HA.out.at 6 (v:=.int .i64 rk) rfl
       by_cases hr:rk=0
       ·subst hr
        have zz1:((0:Int) != 0)=false:=by decide
        refine Lh ?_
        go_wp2_with (first
         | (refine Qb rfl 73 (.tmp 76) rfl G3 0 rfl (anC an) (Qbi HA.out.rg) Try.underlying73 rfl Qen ?_)
         | (refine Qa rfl 73 (.tmp 78) (.tmp 77) rfl (G:=G) (off:=4) rfl (us:=anC an) HF.out.vf rfl Qen (by show 4+5≤18;omega) (Qhs an) ?_;intro w7 ht hs;have HG:=Lh (HG.out.turn ht (by omega));have HPS:=Lh (HPS.out.turn (S':=fun b=>G<b∧b<G2) ht fun b hb _=>⟨hb,by omega⟩);have HA:=Lh (HA.out.turn ht (by omega));have HF:=Lh (HF.out.set_f (fs':=(fnD sg xn (.slice PA ps.length pc) ty an false Qk Qk Ex.nul Qk)) ht hs);clear ht hs;have jHA_5:=HA.out.at 5 (v:=.int .i64 (k:Int)) rfl;refine Hid.out ?_)
         | fail)
        have HAT0:=Lh (HAT.out k hk)
        obtain ⟨s1,hs1⟩:∃ x,X.R.wd k=x:=⟨_,rfl⟩
        have hC1:X.R.is k [47]=(s1.toList==[47]):=by rw [← hs1];rfl
        rw [hs1] at HAT0
        clear hs1
        cases c1:(s1.toList==[47]) with
        | false =>
         have h6:=hC1.trans c1
         have HE4:Hid (Z.2=fz6 X.R F f (k,0)):=Lh (HE3.out.trans (fz5_none h6))
         have HROW:Hid ((if X.R.is k [47]=true then lst X.R (onN X.R) Km f [] (mu X.R (k+1,0) [Uy]) else ([],(k,0)))=(([]:List NmT),(k,0))):=Lh (by rw [if_neg (by rw [h6];decide)])
         have HRS:=Lh h6
         clear hC1 h6
         refine Lh ?_
         go_wp2_with (first
          | (refine Qb rfl 92 (.tmp 3) rfl w.heap.size 0 rfl (ryC X) HF.out.f3.vr.rg Try.underlying92 rfl Qd ?_)
          | (go_at_call 51;(with_reducible refine (HAT0.out _ HF.out.f3.b).mono ?_);rintro e w2 ⟨rfl,b2⟩;have HPS:=Lh (HPS.out.under b2);have HA:=Lh (HA.out.under b2);have HF:=Lh (HF.out.under b2);clear b2;have HRL:=Lh (ShV.nil (w:=w2) (S:=fun b=>G3<b) (cs:=nms []));dsimp only;refine Hid.out ?_)
          | fail)
         have HW8:Hid (∀ W,Below w.heap.size w W→CP 56 #[.agg (ryC X).toArray,.int .i64 (k:Int),.string Uy] W fun e w'=>e=.returned (.int .i64 (if X.R.is (k) [123]=true then 0 else 11))∧Below W.heap.size W w'):=Lh fun W hW=>by
          have:=HWD.out (k) Uy (by omega) W hW
          rwa [show Uy.toList=[123] from wd1 123 []] at this
         cases h8:X.R.is (k) [123] with
         | false =>
          rw [h8,if_neg (by decide)] at HW8
          have HE5:Hid (Z.2=(k,11)):=Lh (HE4.out.trans (fz6_no h8))
          clear h8
          refine Lh ?_
          go_wp2_with (first
           | (refine Qb rfl 92 (.tmp 3) rfl w.heap.size 0 rfl (ryC X) HF.out.f3.vr.rg Try.underlying92 rfl Qd ?_)
           | (go_at_call 56;(with_reducible refine (HW8.out _ HF.out.f3.b).mono ?_);rintro e w2 ⟨rfl,b2⟩;have HF:=Lh (HF.out.under b2);clear b2;dsimp only)
           | (refine Qa rfl 95 (.tmp 6) (.tmp 112) rfl (G:=w.heap.size+2) (off:=0) rfl (us:=gtE (k:Int) 11) HF.out.f3.vo rfl Qc (Nat.le_refl 19) (Qn _ _) ?_;intro w90 ht hs;have HF:=Lh (HF.out.f3.set_o (us:=gtE (k:Int) 11) ht hs);clear ht hs)
           | fail)
          exact Qj 95 rfl rfl rfl HF.out.vo Try.underlying95 rfl Qc (Jd HE5.out (by decide) HF.out.b)
         | true =>
          rw [h8,if_pos rfl] at HW8
          have hk8:k<X.L.length:=HOK.out.is_lt h8
          have HH8:=Lh h8
          obtain ⟨g,hgg⟩:∃ g,rs X.R F f (.row []) (k+1) 1=g:=⟨_,rfl⟩
          have HE5:Hid (Z.2=fz7 X.R F (g.p,g.r)):=Lh (by rw [HE4.out,Qnf h8,hgg])
          have HRW:Hid (∀ W,Below w.heap.size w W→CP 69 #[.agg (ryC X).toArray,.int .i64 ((k:Int)+1),.int .i64 1] W (Qdy g W)):=Lh fun W hW=>by
           rw [← hgg]
           exact (rs_all X hX hm F hF16 f).2.1 (k+1) 1 W (by omega) ((HIN.out.up hW nLe).more hW.size) ⟨by decide,by decide⟩ (by omega)
          have hgs:g.s=St.nul:=by rw [← hgg];exact Ud f _ _ _
          have hgp:g.p≤X.L.length:=by rw [← hgg];exact Qgk HOK.out f _ _ _ hk8
          have HGG:=Lh hgg
          have HGS:=Lh hgs
          clear h8 hgg hgs HE4
          refine Lh ?_
          go_wp2_with (first
           | (refine Qb rfl 92 (.tmp 3) rfl w.heap.size 0 rfl (ryC X) HF.out.f3.vr.rg Try.underlying92 rfl Qd ?_)
           | (go_at_call 56;(with_reducible refine (HW8.out _ HF.out.f3.b).mono ?_);rintro e w2 ⟨rfl,b2⟩;have HPS:=Lh (HPS.out.under b2);have HRL:=Lh (HRL.out.under b2);have HA:=Lh (HA.out.under b2);have HF:=Lh (HF.out.under b2);clear b2;dsimp only)
           | (go_at_call 69;(with_reducible refine (HRW.out _ HF.out.f3.b).mono ?_);rintro e w10 ⟨tv,lv,rfl,htr,hsh,b2⟩;have hwA:=HA.out.lt;have HPS:=Lh (HPS.out.under b2);have HRL:=Lh (HRL.out.under b2);have HF:=Lh (HF.out.under b2);have hw10:=HF.out.vf.lt;have hsz:=b2.size;have HBD:=Lh (hsh.weak (S':=fun b=>G3<b∧b<w10.heap.size) fun b hb h2=>⟨by omega,h2⟩);have HRL:=Lh (HRL.out.weak (S':=fun b=>G3<b∧b<w10.heap.size) fun b hb h2=>⟨hb,h2⟩);have hto:=htr.tv1;have hone:=hsh.one;have hg10:G3<w10.heap.size:=(by omega);clear b2 htr hsh hwA hsz;dsimp only)
           | (refine Qa rfl 135 (.tmp 11) (.tmp 116) rfl (G:=w10.heap.size) (off:=0) rfl (us:=gsC g.s tv lv (g.p:Int) g.r) (Var.new w10 (gsC St.nul Tv.nul Qk 0 0) 135 (c:=#[.int .i64 0,.int .i64 0,.string ⟨#[]⟩,.int .i64 0,.bool false,.bool false,.string ⟨#[]⟩,.int .i64 0,.int .i64 0,.int .i64 0,.int .i64 0,.int .i64 0,.string ⟨#[]⟩,.string ⟨#[]⟩,.slice none 0 0,.slice none 0 0,.slice none 0 0,.slice none 0 0,.int .i64 0,.int .i64 0]) rfl) rfl Qh (Nat.le_refl 20) (hto.gs _ hone _ _) ?_;intro w11 ht hs;have ta:=Tn.alloc (fun k=>k=w10.heap.size) w10 (.cells z20 135);have tb:=ta.trans ht;have b2:=tb.below nLe (by intro k hk e;omega);have HPS:=Lh (HPS.out.under b2);have HRL:=Lh (HRL.out.under b2);have HBD:=Lh (HBD.out.under b2);have HF:=Lh (HF.out.under b2);have HB:=Lh (show Var w11 w10.heap.size (gsC g.s tv lv (g.p:Int) g.r) from hs);clear ht hs ta tb b2;refine Hid.out ?_)
           | fail)
          obtain ⟨G4,hG4⟩:∃ G4,w10.heap.size=G4:=⟨_,rfl⟩
          rw [hG4] at HB HRL HBD hw10 hg10
          rw [hG4]
          clear hG4
          have jHB_18:=HB.out.at 18 (v:=.int .i64 (g.p:Int)) rfl
          have jHB_19:=HB.out.at 19 (v:=.int .i64 g.r) rfl
          by_cases hr:g.r=0
          ·have HGR:=Lh hr
           have HE6:Hid (Z.2=fz7 X.R F (g.p,0)):=Lh (by rw [HE5.out,hr])
           have hr1:(g.r==0)=true:=by simp [hr]
           have hr2:(g.r != 0)=false:=by simp [hr]
           have hr3:decide (g.r=0)=true:=by simp [hr]
           obtain ⟨BA,bc,hbv,_⟩:=HBD.out.len
           subst hbv
           have jHB_17:=HB.out.at 17 (v:=.slice BA g.l.length bc) rfl
           have HTR:=Lh hto
           clear HE5 HA HW8 HRW hto hone
           refine Lh ?_
           go_wp2_with (first
            | (refine Qr rfl 78 (.tmp 127) (.tmp 126) rfl (G:=G) (off:=11) rfl (v:=.slice BA g.l.length bc) HF.out.vf rfl (by kernel_rfl) (by show 11<18;omega) rfl ?_;intro w7 ht hs;have HPS:=Lh (HPS.out.turn (S':=fun b=>G<b∧b<G2) ht fun b hb _=>⟨hb,by omega⟩);have HRL:=Lh (HRL.out.turn (S':=fun b=>G3<b∧b<G4) ht fun b hb _=>⟨hb,by omega⟩);have HBD:=Lh (HBD.out.turn (S':=fun b=>G3<b∧b<G4) ht fun b hb _=>⟨hb,by omega⟩);have HB:=Lh (HB.out.turn ht (by omega));have HF:=Lh (HF.out.set_f (fs':=(fnD sg xn (.slice PA ps.length pc) ty an false Qk (.slice BA g.l.length bc) Ex.nul Qk)) ht hs);clear ht hs;have jHB_18:=HB.out.at 18 (v:=.int .i64 (g.p:Int)) rfl;refine Hid.out ?_)
            | fail)
           have HW10:Hid (∀ W,Below w.heap.size w W→CP 56 #[.agg (ryC X).toArray,.int .i64 (g.p:Int),.string Qmc] W fun e w'=>e=.returned (.int .i64 (if X.R.is (g.p) Qla=true then 0 else 11))∧Below W.heap.size W w'):=Lh fun W hW=>by
            have:=HWD.out (g.p) Qmc (by omega) W hW
            rwa [show Qmc.toList=Qla from wd1 114 [101,116,117,114,110]] at this
           cases h10:X.R.is g.p Qla with
           | false =>
            rw [h10,if_neg (by decide)] at HW10
            have HE7:Hid (Z.2=(g.p,11)):=Lh (HE6.out.trans (fz7_no h10))
            clear h10
            refine Lh ?_
            go_wp2_with (first
             | (refine Qb rfl 92 (.tmp 3) rfl w.heap.size 0 rfl (ryC X) HF.out.f3.vr.rg Try.underlying92 rfl Qd ?_)
             | (go_at_call 56;(with_reducible refine (HW10.out _ HF.out.f3.b).mono ?_);rintro e w2 ⟨rfl,b2⟩;have HB:=Lh (HB.out.under b2);have HF:=Lh (HF.out.under b2);clear b2;have jHB_18:=HB.out.at 18 (v:=.int .i64 (g.p:Int)) rfl;dsimp only)
             | (refine Qa rfl 95 (.tmp 6) (.tmp 135) rfl (G:=w.heap.size+2) (off:=0) rfl (us:=gtE (g.p:Int) 11) HF.out.f3.vo rfl Qc (Nat.le_refl 19) (Qn _ _) ?_;intro w90 ht hs;have HF:=Lh (HF.out.f3.set_o (us:=gtE (g.p:Int) 11) ht hs);clear ht hs)
             | fail)
            exact Qj 95 rfl rfl rfl HF.out.vo Try.underlying95 rfl Qc (Jd HE7.out (by decide) HF.out.b)
           | true =>
            rw [h10,if_pos rfl] at HW10
            have hk10:g.p<X.L.length:=HOK.out.is_lt h10
            have HH10:=Lh h10
            obtain ⟨xe,hxe⟩:∃ e,rd X.R F (.lev 1) (g.p+1) 0=e:=⟨_,rfl⟩
            have HE7:Hid (Z.2=mu X.R (xe.p,xe.r) [Jr,Km]):=Lh (by rw [HE6.out,Qng h10,hxe])
            have hin:=Ko HOK.out F (.lev 1) (g.p+1) 0 hk10 (fun h=>by cases h)
            rw [hxe] at hin
            have hep:xe.p≤X.L.length:=hin.2.1
            have HEX:Hid (∀ W,Below w.heap.size w W→CP 70 #[.agg (ryC X).toArray,.int .i64 ((g.p:Int)+1),.int .i64 1,.int .i64 0] W (Yi W xe)):=Lh fun W hW=>by
             rw [← hxe]
             exact (Kz X hX F).1 1 0 (g.p+1) W (by omega) (by omega) (by omega) (by omega) ((HIN.out.up hW nLe).more hW.size) (by omega)
            have HXE:=Lh hxe
            clear h10 hxe hin HE6
            refine Lh ?_
            go_wp2_with (first
             | (refine Qb rfl 92 (.tmp 3) rfl w.heap.size 0 rfl (ryC X) HF.out.f3.vr.rg Try.underlying92 rfl Qd ?_)
             | (go_at_call 56;(with_reducible refine (HW10.out _ HF.out.f3.b).mono ?_);rintro e w2 ⟨rfl,b2⟩;have HPS:=Lh (HPS.out.under b2);have HRL:=Lh (HRL.out.under b2);have HBD:=Lh (HBD.out.under b2);have HB:=Lh (HB.out.under b2);have HF:=Lh (HF.out.under b2);clear b2;have jHB_18:=HB.out.at 18 (v:=.int .i64 (g.p:Int)) rfl;dsimp only)
             | (go_at_call 70;(with_reducible refine (HEX.out _ HF.out.f3.b).mono ?_);rintro e w12 ⟨ev,rfl,hx,b2⟩;have hwB:=HB.out.lt;have HPS:=Lh (HPS.out.under b2);have HRL:=Lh (HRL.out.under b2);have HBD:=Lh (HBD.out.under b2);have HB:=Lh (HB.out.under b2);have HF:=Lh (HF.out.under b2);have hw12:=HF.out.vf.lt;have hg12:=HB.out.lt;have hone:=hx.one;have HRE:=Lh (hx.weak (S':=fun b=>G4<b∧b<w12.heap.size) fun b hb h2=>⟨by omega,h2⟩);clear b2 hx hwB;dsimp only)
             | (refine Qa rfl 138 (.tmp 12) (.tmp 140) rfl (G:=w12.heap.size) (off:=0) rfl (us:=gC xe.e ev (xe.p:Int) xe.r) (Var.new w12 (gC Ex.nul (.slice none 0 0) 0 0) 138 (c:=#[.int .i64 0,.int .i64 0,.int .i64 0,.string ⟨#[]⟩,.string ⟨#[]⟩,.slice none 0 0,.int .i64 0,.int .i64 0]) rfl) rfl Yu (Nat.le_refl 8) (Qdx hone) ?_;intro w13 ht hs;have ta:=Tn.alloc (fun k=>k=w12.heap.size) w12 (.cells z8 138);have tb:=ta.trans ht;have b2:=tb.below nLe (by intro k hk e;omega);have HPS:=Lh (HPS.out.under b2);have HRL:=Lh (HRL.out.under b2);have HBD:=Lh (HBD.out.under b2);have HB:=Lh (HB.out.under b2);have HRE:=Lh (HRE.out.under b2 (fun b _ h=>h));have HF:=Lh (HF.out.under b2);have HE:=Lh (show Var w13 w12.heap.size (gC xe.e ev (xe.p:Int) xe.r) from hs);clear ht hs ta tb b2;refine Hid.out ?_)
             | fail)
            obtain ⟨G5,hG5⟩:∃ G5,w12.heap.size=G5:=⟨_,rfl⟩
            rw [hG5] at HE HRE hw12 hg12
            rw [hG5]
            clear hG5
            have jHE_6:=HE.out.at 6 (v:=.int .i64 (xe.p:Int)) rfl
            have jHE_7:=HE.out.at 7 (v:=.int .i64 xe.r) rfl
            by_cases hr:xe.r=0
            ·have HXR:=Lh hr
             have HE8:Hid (Z.2=mu X.R (xe.p,0) [Jr,Km]):=Lh (by rw [HE7.out,hr])
             have hr1:(xe.r==0)=true:=by simp [hr]
             have hr2:(xe.r != 0)=false:=by simp [hr]
             have hr3:decide (xe.r=0)=true:=by simp [hr]
             obtain ⟨EA,ec,hev,_⟩:=HRE.out.len
             subst hev
             have hone:(Value.slice EA xe.e.l.length ec).oneCell'=true:=rfl
             clear HE7 HW10 HEX HB
             refine Lh ?_
             go_wp2_with (first
              | (refine Qb rfl 81 (.tmp 149) rfl G5 0 rfl (exC xe.e (.slice EA xe.e.l.length ec)) (Qbi HE.out.rg) Try.underlying81 rfl Z6 ?_)
              | (refine Qa rfl 81 (.tmp 151) (.tmp 150) rfl (G:=G) (off:=12) rfl (us:=exC xe.e (.slice EA xe.e.l.length ec)) HF.out.vf rfl Z6 (by show 12+6≤18;omega) (Ym _ hone) ?_;intro w7 ht hs;have HPS:=Lh (HPS.out.turn (S':=fun b=>G<b∧b<G2) ht fun b hb _=>⟨hb,by omega⟩);have HRL:=Lh (HRL.out.turn (S':=fun b=>G3<b∧b<G4) ht fun b hb _=>⟨hb,by omega⟩);have HBD:=Lh (HBD.out.turn (S':=fun b=>G3<b∧b<G4) ht fun b hb _=>⟨hb,by omega⟩);have HE:=Lh (HE.out.turn ht (by omega));have HRE:=Lh (HRE.out.turn (S':=fun b=>G4<b∧b<G5) ht fun b hb _=>⟨hb,by omega⟩);have HF:=Lh (HF.out.set_f (fs':=(fnD sg xn (.slice PA ps.length pc) ty an false Qk (.slice BA g.l.length bc) xe.e (.slice EA xe.e.l.length ec))) ht hs);clear ht hs;have jHE_6:=HE.out.at 6 (v:=.int .i64 (xe.p:Int)) rfl;refine Hid.out ?_)
              | fail)
             have HW12:Hid (∀ W,Below w.heap.size w W→CP 56 #[.agg (ryC X).toArray,.int .i64 (xe.p:Int),.string Jr] W fun e w'=>e=.returned (.int .i64 (if X.R.is (xe.p) [59]=true then 0 else 11))∧Below W.heap.size W w'):=Lh fun W hW=>by
              have:=HWD.out (xe.p) Jr (by omega) W hW
              rwa [show Jr.toList=[59] from wd1 59 []] at this
             cases h12:X.R.is xe.p [59] with
             | false =>
              rw [h12,if_neg (by decide)] at HW12
              have HE9:Hid (Z.2=(xe.p,11)):=Lh (HE8.out.trans (end_1 h12))
              clear h12
              refine Lh ?_
              go_wp2_with (first
               | (refine Qb rfl 92 (.tmp 3) rfl w.heap.size 0 rfl (ryC X) HF.out.f3.vr.rg Try.underlying92 rfl Qd ?_)
               | (go_at_call 56;(with_reducible refine (HW12.out _ HF.out.f3.b).mono ?_);rintro e w2 ⟨rfl,b2⟩;have HE:=Lh (HE.out.under b2);have HF:=Lh (HF.out.under b2);clear b2;have jHE_6:=HE.out.at 6 (v:=.int .i64 (xe.p:Int)) rfl;dsimp only)
               | (refine Qa rfl 95 (.tmp 6) (.tmp 159) rfl (G:=w.heap.size+2) (off:=0) rfl (us:=gtE (xe.p:Int) 11) HF.out.f3.vo rfl Qc (Nat.le_refl 19) (Qn _ _) ?_;intro w90 ht hs;have HF:=Lh (HF.out.f3.set_o (us:=gtE (xe.p:Int) 11) ht hs);clear ht hs)
               | fail)
              exact Qj 95 rfl rfl rfl HF.out.vo Try.underlying95 rfl Qc (Jd HE9.out (by decide) HF.out.b)
             | true =>
              rw [h12,if_pos rfl] at HW12
              have hk12:xe.p<X.L.length:=HOK.out.is_lt h12
              have HH12:=Lh h12
              have HW13:Hid (∀ W,Below w.heap.size w W→CP 56 #[.agg (ryC X).toArray,.int .i64 ((xe.p:Int)+1),.string Km] W fun e w'=>e=.returned (.int .i64 (if X.R.is (xe.p+1) [125]=true then 0 else 11))∧Below W.heap.size W w'):=Lh fun W hW=>by
               have:=HWD.out (xe.p+1) Km (by omega) W hW
               rwa [show Km.toList=[125] from wd1 125 []] at this
              cases h13:X.R.is (xe.p+1) [125] with
              | false =>
               rw [h13,if_neg (by decide)] at HW13
               have HE9:Hid (Z.2=(xe.p+1,11)):=Lh (HE8.out.trans (end_2 h12 h13))
               clear h12 h13
               refine Lh ?_
               go_wp2_with (first
                | (refine Qb rfl 92 (.tmp 3) rfl w.heap.size 0 rfl (ryC X) HF.out.f3.vr.rg Try.underlying92 rfl Qd ?_)
                | (go_at_call 56;(with_reducible refine (HW12.out _ HF.out.f3.b).mono ?_);rintro e w2 ⟨rfl,b2⟩;have HE:=Lh (HE.out.under b2);have HF:=Lh (HF.out.under b2);clear b2;have jHE_6:=HE.out.at 6 (v:=.int .i64 (xe.p:Int)) rfl;dsimp only)
                | (go_at_call 56;(with_reducible refine (HW13.out _ HF.out.f3.b).mono ?_);rintro e w2 ⟨rfl,b2⟩;have HE:=Lh (HE.out.under b2);have HF:=Lh (HF.out.under b2);clear b2;have jHE_6:=HE.out.at 6 (v:=.int .i64 (xe.p:Int)) rfl;dsimp only)
                | (refine Qa rfl 95 (.tmp 6) (.tmp 169) rfl (G:=w.heap.size+2) (off:=0) rfl (us:=gtE ((xe.p:Int)+1) 11) HF.out.f3.vo rfl Qc (Nat.le_refl 19) (Qn _ _) ?_;intro w90 ht hs;have HF:=Lh (HF.out.f3.set_o (us:=gtE ((xe.p:Int)+1) 11) ht hs);clear ht hs)
                | fail)
               exact Qj 95 rfl rfl rfl HF.out.vo Try.underlying95 rfl Qc (Jd (q:=xe.p+1) HE9.out (by decide) HF.out.b)
              | true =>
               rw [h13,if_pos rfl] at HW13
               have HH13:=Lh h13
               clear h12 h13
               obtain ⟨T,hT⟩:∃ T:FnT,T=⟨sg,xn,ps,ty,an,false,[],g.l,xe.e⟩:=⟨_,rfl⟩
               obtain ⟨V,hV⟩:∃ V:FnV,V=⟨.slice PA ps.length pc,Qk,.slice BA g.l.length bc,.slice EA xe.e.l.length ec⟩:=⟨_,rfl⟩
               have HZF:Hid (Z=(T,(xe.p+2,0))):=Lh (by
                have hq:=HQD.out
                have hv:=Qnh (R:=X.R) (F:=F) (f:=f) (p:=p) (q:=j) (k:=k) (j:=k) HFNW.out (by rw [hq];exact HID.out) (by rw [show p+2=q+1 by omega];exact HH2.out) (by rw [show p+3=q+2 by omega];exact HY.out) HH4.out (by have:=HTN.out;omega) HMM2.out HROW.out HH8.out HGG.out HGR.out HH10.out HXE.out HXR.out HH12.out HH13.out
                rw [hq,HSG.out,HXN.out,HTE.out,HRS.out] at hv
                rw [← HZ.out,hv,hT])
               refine Lh ?_
               go_wp2_with (first
                | (refine Qb rfl 92 (.tmp 3) rfl w.heap.size 0 rfl (ryC X) HF.out.f3.vr.rg Try.underlying92 rfl Qd ?_)
                | (go_at_call 56;(with_reducible refine (HW12.out _ HF.out.f3.b).mono ?_);rintro e w2 ⟨rfl,b2⟩;have HPS:=Lh (HPS.out.under b2);have HRL:=Lh (HRL.out.under b2);have HBD:=Lh (HBD.out.under b2);have HE:=Lh (HE.out.under b2);have HRE:=Lh (HRE.out.under b2 (fun b _ h=>h));have HF:=Lh (HF.out.under b2);clear b2;have jHE_6:=HE.out.at 6 (v:=.int .i64 (xe.p:Int)) rfl;dsimp only)
                | (go_at_call 56;(with_reducible refine (HW13.out _ HF.out.f3.b).mono ?_);rintro e w2 ⟨rfl,b2⟩;have HPS:=Lh (HPS.out.under b2);have HRL:=Lh (HRL.out.under b2);have HBD:=Lh (HBD.out.under b2);have HE:=Lh (HE.out.under b2);have HRE:=Lh (HRE.out.under b2 (fun b _ h=>h));have HF:=Lh (HF.out.under b2);clear b2;have jHE_6:=HE.out.at 6 (v:=.int .i64 (xe.p:Int)) rfl;dsimp only)
                | fail)
               have HN:=Lh (show FnS w2 (fun b=>w.heap.size+2<b) T V by
                rw [hT,hV]
                exact ⟨HPS.out.weak fun b hb _=>by omega,HRL.out.weak fun b hb _=>by omega,HBD.out.weak fun b hb _=>by omega,HRE.out.weak fun b hb _=>by omega⟩)
               obtain ⟨FL,hFL,hFV,hFS⟩:=HMM.out.fn
               obtain ⟨A,c,hve⟩:=hFV.frm
               have hfl:FL.length≤1000000:=by have:FL.length=m.fn.length:=(by rw [← hFL,List.length_map]);omega
               have HFL:=Lh hFL
               have HFS:=Lh hFS
               have HNO:=Lh HN.out.one
               have HQ:=Lh (show F3 X w w2.drew [v.im,.bool hl,v.la,.bool he,v.ef,v.va,.slice A FL.length c] (gtE 0 0)∧Var w2.drew G (fnC T V) by
                have h3:=HF.out.f3.under (Qi _ _)
                rw [hve] at h3
                refine ⟨h3,?_⟩
                rw [hT,hV]
                exact HF.out.vf.under (Qi _ _))
               have HL:=Lh (show ShV w2.drew (fun b=>S b∨w.heap.size+2<b) (.slice A FL.length c) FL.length (fns FL) by
                rw [hve] at hFV
                exact (hFV.under (HF.out.f3.b.trans ((Qi w2 w2.heap.size).mono HF.out.f3.b.size))).weak fun b h _=>.inl h)
               clear hFL hFV hFS hve hT hV HPS HRL HBD HRE HA
               refine Qjo _ (fn_r45 X S w w2 hl he v G T V FL A c HQ.out.1 HQ.out.2 HL.out HNO.out (Qnu HFS.out) HSS.out hfl) ?_
               rintro a' w3 ⟨y0,y1,y2,y3,y4,y5,y6,y7,rfl,A6,c6,hF3,hL3,htn⟩
               have HF:=Lh hF3
               have HL:=Lh hL3
               have HNW:=Lh (HN.out.turn (S':=fun b=>w.heap.size+2<b) htn fun b hb _=>⟨hb,by omega⟩)
               have HEW:=Lh (HE.out.turn htn (by omega))
               have jHE_6:=HEW.out.at 6 (v:=.int .i64 (xe.p:Int)) rfl
               clear hF3 hL3 htn HQ HE HN
               go_wp2_with (first
                | (refine Qb rfl 51 (.tmp 4) rfl (w.heap.size+1) 0 rfl [v.im,.bool hl,v.la,.bool he,v.ef,v.va,.slice A6 (FL.length+1) c6] HF.out.vm.rg Try.underlying51 rfl Q7 ?_)
                | (refine Qa rfl 95 (.tmp 6) (.tmp 182) rfl (G:=w.heap.size+2) (off:=0) rfl (us:=gt [v.im,.bool hl,v.la,.bool he,v.ef,v.va,.slice A6 (FL.length+1) c6] Qk (vrC VrT.nul) Qk ((xe.p:Int)+2) 0) HF.out.vo rfl Qc (Nat.le_refl 19) (Zy _ _ (Zt (m:=m) (hl:=hl) (he:=he) (v:={ v with fn:=.slice A6 (FL.length+1) c6 }) HMM.out.im.one HMM.out.la.one HMM.out.ef.one HMM.out.va.one rfl) rfl (Jj _) rfl) ?_;intro w90 ht hs;have HL:=Lh (HL.out.turn (S':=fun b=>S b∨w.heap.size+2<b) ht fun b hb h2=>⟨hb,fun e=>by rcases hb with hb | hb;have:=HSS.out b hb;omega;omega⟩);have HNW:=Lh (HNW.out.turn (S':=fun b=>w.heap.size+2<b) ht fun b hb _=>⟨hb,by omega⟩);have HF:=Lh (HF.out.set_o (us:=gt [v.im,.bool hl,v.la,.bool he,v.ef,v.va,.slice A6 (FL.length+1) c6] Qk (vrC VrT.nul) Qk ((xe.p:Int)+2) 0) ht hs);clear ht hs)
                | fail)
               have hfin:=Qnv (n:=FL.length+1) HMM.out HF.out.b HFL.out HFS.out HL.out (HNW.out.weak fun b hb _=>by omega)
               rw [HZF.out]
               dsimp only at hfin ⊢
               rw [HHL.out,HHE.out] at hfin
               exact Qj 95 rfl rfl rfl HF.out.vo Try.underlying95 rfl Qc (Qgn (m:={ im:=m.im,hl:=hl,la:=m.la,he:=he,ef:=m.ef,va:=m.va,fn:=m.fn++[T] }) (v:={ v with fn:=.slice A6 (FL.length+1) c6 }) (q:=xe.p+2) hfin HF.out.b)
            ·have HE8:Hid (Z.2=(xe.p,xe.r)):=Lh (HE7.out.trans (Jg (x:=(xe.p,xe.r)) hr _))
             have hr1:(xe.r==0)=false:=by simp [hr]
             have hr2:(xe.r != 0)=true:=by simp [hr]
             have hr3:decide (xe.r=0)=false:=by simp [hr]
             have HRR:=Lh hr
             clear hr
             refine Lh ?_
             go_wp2_with (first
              | (refine Qa rfl 95 (.tmp 6) (.tmp 148) rfl (G:=w.heap.size+2) (off:=0) rfl (us:=gtE (xe.p:Int) xe.r) HF.out.f3.vo rfl Qc (Nat.le_refl 19) (Qn _ _) ?_;intro w90 ht hs;have HF:=Lh (HF.out.f3.set_o (us:=gtE (xe.p:Int) xe.r) ht hs);clear ht hs)
              | fail)
             exact Qj 95 rfl rfl rfl HF.out.vo Try.underlying95 rfl Qc (Jd HE8.out HRR.out HF.out.b)
          ·have HE6:Hid (Z.2=(g.p,g.r)):=Lh (HE5.out.trans (Qe5 (x:=(g.p,g.r)) hr))
           have hr1:(g.r==0)=false:=by simp [hr]
           have hr2:(g.r != 0)=true:=by simp [hr]
           have hr3:decide (g.r=0)=false:=by simp [hr]
           have HRR:=Lh hr
           clear hr
           refine Lh ?_
           go_wp2_with (first
            | (refine Qa rfl 95 (.tmp 6) (.tmp 124) rfl (G:=w.heap.size+2) (off:=0) rfl (us:=gtE (g.p:Int) g.r) HF.out.f3.vo rfl Qc (Nat.le_refl 19) (Qn _ _) ?_;intro w90 ht hs;have HF:=Lh (HF.out.f3.set_o (us:=gtE (g.p:Int) g.r) ht hs);clear ht hs)
            | fail)
           exact Qj 95 rfl rfl rfl HF.out.vo Try.underlying95 rfl Qc (Jd HE6.out HRR.out HF.out.b)
        | true =>
         have h6:=hC1.trans c1
         have hk1:k<X.L.length:=HOK.out.is_lt h6
         have HRS:=Lh h6
         have HW3:Hid (∀ W,Below w.heap.size w W→CP 56 #[.agg (ryC X).toArray,.int .i64 ((k:Int)+1),.string Uy] W fun e w'=>e=.returned (.int .i64 (if X.R.is (k+1) [123]=true then 0 else 11))∧Below W.heap.size W w'):=Lh fun W hW=>by
          have:=HWD.out (k+1) Uy (by omega) W hW
          rwa [show Uy.toList=[123] from wd1 123 []] at this
         cases h7:X.R.is (k+1) [123] with
         | false =>
          rw [h7,if_neg (by decide)] at HW3
          have HE4:Hid (Z.2=(k+1,11)):=Lh (HE3.out.trans (fz5_no h6 h7))
          clear hC1 h6 h7
          refine Lh ?_
          go_wp2_with (first
           | (refine Qb rfl 92 (.tmp 3) rfl w.heap.size 0 rfl (ryC X) HF.out.f3.vr.rg Try.underlying92 rfl Qd ?_)
           | (go_at_call 51;(with_reducible refine (HAT0.out _ HF.out.f3.b).mono ?_);rintro e w2 ⟨rfl,b2⟩;have HF:=Lh (HF.out.under b2);clear b2;dsimp only)
           | (go_at_call 56;(with_reducible refine (HW3.out _ HF.out.f3.b).mono ?_);rintro e w2 ⟨rfl,b2⟩;have HF:=Lh (HF.out.under b2);clear b2;dsimp only)
           | (refine Qa rfl 95 (.tmp 6) (.tmp 92) rfl (G:=w.heap.size+2) (off:=0) rfl (us:=gtE ((k:Int)+1) 11) HF.out.f3.vo rfl Qc (Nat.le_refl 19) (Qn _ _) ?_;intro w90 ht hs;have HF:=Lh (HF.out.f3.set_o (us:=gtE ((k:Int)+1) 11) ht hs);clear ht hs)
           | fail)
          exact Qj 95 rfl rfl rfl HF.out.vo Try.underlying95 rfl Qc (Jd (q:=k+1) HE4.out (by decide) HF.out.b)
         | true =>
          rw [h7,if_pos rfl] at HW3
          have hk2:k+1<X.L.length:=HOK.out.is_lt h7
          obtain ⟨⟨rl,j2,r2⟩,hy⟩:∃ y,lst X.R (onN X.R) Km f [] (k+2,0)=y:=⟨_,rfl⟩
          have HE4:Hid (Z.2=fz6 X.R F f (j2,r2)):=Lh (by rw [HE3.out,fz5_yes h6 h7,hy])
          have HROW0:Hid ((if X.R.is k [47]=true then lst X.R (onN X.R) Km f [] (mu X.R (k+1,0) [Uy]) else ([],(k,0)))=(rl,(j2,r2))):=Lh (by rw [if_pos h6,muW (q:=q) h7];exact hy)
          have HNS:Hid (∀ W,Below w.heap.size w W→CP 68 #[.agg (ryC X).toArray,.int .i64 ((k:Int)+2)] W (NlTo (rl,(j2,r2)) W)):=Lh fun W hW=>by
           rw [← hy]
           exact Qkr X hm f (k+2) W ((HIN.out.up hW nLe).more hW.size) (by omega) hf
          have hj2l:j2≤X.L.length:=by
           have:=(Qi3 HOK.out (fun s x hx=>(Qf5 HOK.out s hx).weak (Nat.zero_le 1)) 125 [] f [] (x:=(k+2,0)) (show k+2≤X.L.length by omega)).n
           rwa [show lst X.R (onN X.R) ⟨(125::[]).toArray⟩ f [] (k+2,0)=(rl,(j2,r2)) from hy] at this
          clear hC1 h6 h7 hy
          refine Lh ?_
          go_wp2_with (first
           | (refine Qb rfl 92 (.tmp 3) rfl w.heap.size 0 rfl (ryC X) HF.out.f3.vr.rg Try.underlying92 rfl Qd ?_)
           | (go_at_call 51;(with_reducible refine (HAT0.out _ HF.out.f3.b).mono ?_);rintro e w2 ⟨rfl,b2⟩;have HG:=Lh (HG.out.under b2);have HPS:=Lh (HPS.out.under b2);have HA:=Lh (HA.out.under b2);have HF:=Lh (HF.out.under b2);clear b2;dsimp only)
           | (go_at_call 56;(with_reducible refine (HW3.out _ HF.out.f3.b).mono ?_);rintro e w2 ⟨rfl,b2⟩;have HG:=Lh (HG.out.under b2);have HPS:=Lh (HPS.out.under b2);have HA:=Lh (HA.out.under b2);have HF:=Lh (HF.out.under b2);clear b2;dsimp only)
           | (go_at_call 68;(with_reducible refine (HNS.out _ HF.out.f3.b).mono ?_);rintro e w5 ⟨lv,rfl,hpo,hps,b2⟩;have hwA:=HA.out.lt;have HG:=Lh (HG.out.under b2);have HPS:=Lh (HPS.out.under b2);have HA:=Lh (HA.out.under b2);have HF:=Lh (HF.out.under b2);obtain ⟨us,hus⟩:∃ us,nlC (rl,(j2,r2)) lv=us:=⟨_,rfl⟩;have HU:=Lh (show us.length=19∧∀ u∈us,u.oneCell'=true by rw [← hus];exact ⟨nlC_len _ _,nlC_one hpo⟩);rw [hus];have HUS:=Lh hus;clear hus;have HRL0:=Lh (fun e=>(hps e).weak (S':=fun b=>G3<b) fun b hb h2=>by omega);clear b2 hps hpo hwA;dsimp only)
           | (refine Qa rfl 95 (.tmp 8) (.tmp 96) rfl (G:=G2) (off:=0) rfl (us:=us) HG.out rfl (by rw [List.size_toArray,HU.out.1];exact Qc) (by rw [HU.out.1];exact Nat.le_refl 19) HU.out.2 ?_;intro w6 ht hs;have HPS:=Lh (HPS.out.turn (S':=fun b=>G<b∧b<G2) ht fun b hb _=>⟨hb,by omega⟩);have HA:=Lh (HA.out.turn ht (by omega));have HRL1:=Lh (fun e=>(HRL0.out e).turn (S':=fun b=>G3<b) ht fun b hb _=>⟨hb,by omega⟩);clear HRL0;have HF:=Lh (HF.out.set_n ht hw5);have HG:=Lh (show Var w6 G2 us by rw [Z8 _ _ HU.out.1] at hs;exact hs);clear ht hs;refine Hid.out ?_)
           | fail)
          by_cases hr:r2=0
          ·subst hr
           have husE:us=gt moN lv (vrC VrT.nul) Qk (j2:Int) 0:=by rw [← HUS.out];unfold nlC;rw [if_pos rfl]
           subst husE
           have HRL:=Lh (HRL1.out rfl)
           clear HRL1
           obtain ⟨RA,rc,hrv⟩:=HRL.out.frm
           subst hrv
           have HROW:=HROW0
           clear HUS HU HNS HROW0
           have jHG_7:=HG.out.at 7 (v:=.slice RA rl.length rc) rfl
           have jHG_18:=HG.out.at 18 (v:=.int .i64 0) rfl
           refine Lh ?_
           go_wp2_with (first
            | (refine Qa rfl 77 (.tmp 104) (.tmp 103) rfl (G:=G) (off:=9) rfl (us:=[.bool true,.slice RA rl.length rc]) HF.out.vf rfl info_rw (by show 9+2≤18;omega) (by intro u hu;simp at hu;rcases hu with rfl | rfl <;> rfl) ?_;intro w7 ht hs;have HG:=Lh (HG.out.turn ht (by omega));have HPS:=Lh (HPS.out.turn (S':=fun b=>G<b∧b<G2) ht fun b hb _=>⟨hb,by omega⟩);have HRL:=Lh (HRL.out.turn (S':=fun b=>G3<b) ht fun b hb _=>⟨hb,by omega⟩);have HA:=Lh (HA.out.turn ht (by omega));have HF:=Lh (HF.out.set_f (fs':=(fnD sg xn (.slice PA ps.length pc) ty an true (.slice RA rl.length rc) Qk Ex.nul Qk)) ht hs);clear ht hs;have jHG_17:=HG.out.at 17 (v:=.int .i64 (j2:Int)) rfl;refine Hid.out ?_)
            | fail)
           have HW8:Hid (∀ W,Below w.heap.size w W→CP 56 #[.agg (ryC X).toArray,.int .i64 (j2:Int),.string Uy] W fun e w'=>e=.returned (.int .i64 (if X.R.is (j2) [123]=true then 0 else 11))∧Below W.heap.size W w'):=Lh fun W hW=>by
            have:=HWD.out (j2) Uy (by omega) W hW
            rwa [show Uy.toList=[123] from wd1 123 []] at this
           cases h8:X.R.is (j2) [123] with
           | false =>
            rw [h8,if_neg (by decide)] at HW8
            have HE5:Hid (Z.2=(j2,11)):=Lh (HE4.out.trans (fz6_no h8))
            clear h8
            refine Lh ?_
            go_wp2_with (first
             | (refine Qb rfl 92 (.tmp 3) rfl w.heap.size 0 rfl (ryC X) HF.out.f3.vr.rg Try.underlying92 rfl Qd ?_)
             | (go_at_call 56;(with_reducible refine (HW8.out _ HF.out.f3.b).mono ?_);rintro e w2 ⟨rfl,b2⟩;have HF:=Lh (HF.out.under b2);clear b2;dsimp only)
             | (refine Qa rfl 95 (.tmp 6) (.tmp 112) rfl (G:=w.heap.size+2) (off:=0) rfl (us:=gtE (j2:Int) 11) HF.out.f3.vo rfl Qc (Nat.le_refl 19) (Qn _ _) ?_;intro w90 ht hs;have HF:=Lh (HF.out.f3.set_o (us:=gtE (j2:Int) 11) ht hs);clear ht hs)
             | fail)
            exact Qj 95 rfl rfl rfl HF.out.vo Try.underlying95 rfl Qc (Jd HE5.out (by decide) HF.out.b)
           | true =>
            rw [h8,if_pos rfl] at HW8
            have hk8:j2<X.L.length:=HOK.out.is_lt h8
            have HH8:=Lh h8
            obtain ⟨g,hgg⟩:∃ g,rs X.R F f (.row []) (j2+1) 1=g:=⟨_,rfl⟩
            have HE5:Hid (Z.2=fz7 X.R F (g.p,g.r)):=Lh (by rw [HE4.out,Qnf h8,hgg])
            have HRW:Hid (∀ W,Below w.heap.size w W→CP 69 #[.agg (ryC X).toArray,.int .i64 ((j2:Int)+1),.int .i64 1] W (Qdy g W)):=Lh fun W hW=>by
             rw [← hgg]
             exact (rs_all X hX hm F hF16 f).2.1 (j2+1) 1 W (by omega) ((HIN.out.up hW nLe).more hW.size) ⟨by decide,by decide⟩ (by omega)
            have hgs:g.s=St.nul:=by rw [← hgg];exact Ud f _ _ _
            have hgp:g.p≤X.L.length:=by rw [← hgg];exact Qgk HOK.out f _ _ _ hk8
            have HGG:=Lh hgg
            have HGS:=Lh hgs
            clear h8 hgg hgs HE4
            refine Lh ?_
            go_wp2_with (first
             | (refine Qb rfl 92 (.tmp 3) rfl w.heap.size 0 rfl (ryC X) HF.out.f3.vr.rg Try.underlying92 rfl Qd ?_)
             | (go_at_call 56;(with_reducible refine (HW8.out _ HF.out.f3.b).mono ?_);rintro e w2 ⟨rfl,b2⟩;have HPS:=Lh (HPS.out.under b2);have HRL:=Lh (HRL.out.under b2);have HA:=Lh (HA.out.under b2);have HF:=Lh (HF.out.under b2);clear b2;dsimp only)
             | (go_at_call 69;(with_reducible refine (HRW.out _ HF.out.f3.b).mono ?_);rintro e w10 ⟨tv,lv,rfl,htr,hsh,b2⟩;have hwA:=HA.out.lt;have HPS:=Lh (HPS.out.under b2);have HRL:=Lh (HRL.out.under b2);have HF:=Lh (HF.out.under b2);have hw10:=HF.out.vf.lt;have hsz:=b2.size;have HBD:=Lh (hsh.weak (S':=fun b=>G3<b∧b<w10.heap.size) fun b hb h2=>⟨by omega,h2⟩);have HRL:=Lh (HRL.out.weak (S':=fun b=>G3<b∧b<w10.heap.size) fun b hb h2=>⟨hb,h2⟩);have hto:=htr.tv1;have hone:=hsh.one;have hg10:G3<w10.heap.size:=(by omega);clear b2 htr hsh hwA hsz;dsimp only)
             | (refine Qa rfl 135 (.tmp 11) (.tmp 116) rfl (G:=w10.heap.size) (off:=0) rfl (us:=gsC g.s tv lv (g.p:Int) g.r) (Var.new w10 (gsC St.nul Tv.nul Qk 0 0) 135 (c:=#[.int .i64 0,.int .i64 0,.string ⟨#[]⟩,.int .i64 0,.bool false,.bool false,.string ⟨#[]⟩,.int .i64 0,.int .i64 0,.int .i64 0,.int .i64 0,.int .i64 0,.string ⟨#[]⟩,.string ⟨#[]⟩,.slice none 0 0,.slice none 0 0,.slice none 0 0,.slice none 0 0,.int .i64 0,.int .i64 0]) rfl) rfl Qh (Nat.le_refl 20) (hto.gs _ hone _ _) ?_;intro w11 ht hs;have ta:=Tn.alloc (fun k=>k=w10.heap.size) w10 (.cells z20 135);have tb:=ta.trans ht;have b2:=tb.below nLe (by intro k hk e;omega);have HPS:=Lh (HPS.out.under b2);have HRL:=Lh (HRL.out.under b2);have HBD:=Lh (HBD.out.under b2);have HF:=Lh (HF.out.under b2);have HB:=Lh (show Var w11 w10.heap.size (gsC g.s tv lv (g.p:Int) g.r) from hs);clear ht hs ta tb b2;refine Hid.out ?_)
             | fail)
            obtain ⟨G4,hG4⟩:∃ G4,w10.heap.size=G4:=⟨_,rfl⟩
            rw [hG4] at HB HRL HBD hw10 hg10
            rw [hG4]
            clear hG4
            have jHB_18:=HB.out.at 18 (v:=.int .i64 (g.p:Int)) rfl
            have jHB_19:=HB.out.at 19 (v:=.int .i64 g.r) rfl
            by_cases hr:g.r=0
            ·have HGR:=Lh hr
             have HE6:Hid (Z.2=fz7 X.R F (g.p,0)):=Lh (by rw [HE5.out,hr])
             have hr1:(g.r==0)=true:=by simp [hr]
             have hr2:(g.r != 0)=false:=by simp [hr]
             have hr3:decide (g.r=0)=true:=by simp [hr]
             obtain ⟨BA,bc,hbv,_⟩:=HBD.out.len
             subst hbv
             have jHB_17:=HB.out.at 17 (v:=.slice BA g.l.length bc) rfl
             have HTR:=Lh hto
             clear HE5 HA HW8 HRW hto hone
             refine Lh ?_
             go_wp2_with (first
              | (refine Qr rfl 78 (.tmp 127) (.tmp 126) rfl (G:=G) (off:=11) rfl (v:=.slice BA g.l.length bc) HF.out.vf rfl (by kernel_rfl) (by show 11<18;omega) rfl ?_;intro w7 ht hs;have HPS:=Lh (HPS.out.turn (S':=fun b=>G<b∧b<G2) ht fun b hb _=>⟨hb,by omega⟩);have HRL:=Lh (HRL.out.turn (S':=fun b=>G3<b∧b<G4) ht fun b hb _=>⟨hb,by omega⟩);have HBD:=Lh (HBD.out.turn (S':=fun b=>G3<b∧b<G4) ht fun b hb _=>⟨hb,by omega⟩);have HB:=Lh (HB.out.turn ht (by omega));have HF:=Lh (HF.out.set_f (fs':=(fnD sg xn (.slice PA ps.length pc) ty an true (.slice RA rl.length rc) (.slice BA g.l.length bc) Ex.nul Qk)) ht hs);clear ht hs;have jHB_18:=HB.out.at 18 (v:=.int .i64 (g.p:Int)) rfl;refine Hid.out ?_)
              | fail)
             have HW10:Hid (∀ W,Below w.heap.size w W→CP 56 #[.agg (ryC X).toArray,.int .i64 (g.p:Int),.string Qmc] W fun e w'=>e=.returned (.int .i64 (if X.R.is (g.p) Qla=true then 0 else 11))∧Below W.heap.size W w'):=Lh fun W hW=>by
              have:=HWD.out (g.p) Qmc (by omega) W hW
              rwa [show Qmc.toList=Qla from wd1 114 [101,116,117,114,110]] at this
             cases h10:X.R.is g.p Qla with
             | false =>
              rw [h10,if_neg (by decide)] at HW10
              have HE7:Hid (Z.2=(g.p,11)):=Lh (HE6.out.trans (fz7_no h10))
              clear h10
              refine Lh ?_
              go_wp2_with (first
               | (refine Qb rfl 92 (.tmp 3) rfl w.heap.size 0 rfl (ryC X) HF.out.f3.vr.rg Try.underlying92 rfl Qd ?_)
               | (go_at_call 56;(with_reducible refine (HW10.out _ HF.out.f3.b).mono ?_);rintro e w2 ⟨rfl,b2⟩;have HB:=Lh (HB.out.under b2);have HF:=Lh (HF.out.under b2);clear b2;have jHB_18:=HB.out.at 18 (v:=.int .i64 (g.p:Int)) rfl;dsimp only)
               | (refine Qa rfl 95 (.tmp 6) (.tmp 135) rfl (G:=w.heap.size+2) (off:=0) rfl (us:=gtE (g.p:Int) 11) HF.out.f3.vo rfl Qc (Nat.le_refl 19) (Qn _ _) ?_;intro w90 ht hs;have HF:=Lh (HF.out.f3.set_o (us:=gtE (g.p:Int) 11) ht hs);clear ht hs)
               | fail)
              exact Qj 95 rfl rfl rfl HF.out.vo Try.underlying95 rfl Qc (Jd HE7.out (by decide) HF.out.b)
             | true =>
              rw [h10,if_pos rfl] at HW10
              have hk10:g.p<X.L.length:=HOK.out.is_lt h10
              have HH10:=Lh h10
              obtain ⟨xe,hxe⟩:∃ e,rd X.R F (.lev 1) (g.p+1) 0=e:=⟨_,rfl⟩
              have HE7:Hid (Z.2=mu X.R (xe.p,xe.r) [Jr,Km]):=Lh (by rw [HE6.out,Qng h10,hxe])
              have hin:=Ko HOK.out F (.lev 1) (g.p+1) 0 hk10 (fun h=>by cases h)
              rw [hxe] at hin
              have hep:xe.p≤X.L.length:=hin.2.1
              have HEX:Hid (∀ W,Below w.heap.size w W→CP 70 #[.agg (ryC X).toArray,.int .i64 ((g.p:Int)+1),.int .i64 1,.int .i64 0] W (Yi W xe)):=Lh fun W hW=>by
               rw [← hxe]
               exact (Kz X hX F).1 1 0 (g.p+1) W (by omega) (by omega) (by omega) (by omega) ((HIN.out.up hW nLe).more hW.size) (by omega)
              have HXE:=Lh hxe
              clear h10 hxe hin HE6
              refine Lh ?_
              go_wp2_with (first
               | (refine Qb rfl 92 (.tmp 3) rfl w.heap.size 0 rfl (ryC X) HF.out.f3.vr.rg Try.underlying92 rfl Qd ?_)
               | (go_at_call 56;(with_reducible refine (HW10.out _ HF.out.f3.b).mono ?_);rintro e w2 ⟨rfl,b2⟩;have HPS:=Lh (HPS.out.under b2);have HRL:=Lh (HRL.out.under b2);have HBD:=Lh (HBD.out.under b2);have HB:=Lh (HB.out.under b2);have HF:=Lh (HF.out.under b2);clear b2;have jHB_18:=HB.out.at 18 (v:=.int .i64 (g.p:Int)) rfl;dsimp only)
               | (go_at_call 70;(with_reducible refine (HEX.out _ HF.out.f3.b).mono ?_);rintro e w12 ⟨ev,rfl,hx,b2⟩;have hwB:=HB.out.lt;have HPS:=Lh (HPS.out.under b2);have HRL:=Lh (HRL.out.under b2);have HBD:=Lh (HBD.out.under b2);have HB:=Lh (HB.out.under b2);have HF:=Lh (HF.out.under b2);have hw12:=HF.out.vf.lt;have hg12:=HB.out.lt;have hone:=hx.one;have HRE:=Lh (hx.weak (S':=fun b=>G4<b∧b<w12.heap.size) fun b hb h2=>⟨by omega,h2⟩);clear b2 hx hwB;dsimp only)
               | (refine Qa rfl 138 (.tmp 12) (.tmp 140) rfl (G:=w12.heap.size) (off:=0) rfl (us:=gC xe.e ev (xe.p:Int) xe.r) (Var.new w12 (gC Ex.nul (.slice none 0 0) 0 0) 138 (c:=#[.int .i64 0,.int .i64 0,.int .i64 0,.string ⟨#[]⟩,.string ⟨#[]⟩,.slice none 0 0,.int .i64 0,.int .i64 0]) rfl) rfl Yu (Nat.le_refl 8) (Qdx hone) ?_;intro w13 ht hs;have ta:=Tn.alloc (fun k=>k=w12.heap.size) w12 (.cells z8 138);have tb:=ta.trans ht;have b2:=tb.below nLe (by intro k hk e;omega);have HPS:=Lh (HPS.out.under b2);have HRL:=Lh (HRL.out.under b2);have HBD:=Lh (HBD.out.under b2);have HB:=Lh (HB.out.under b2);have HRE:=Lh (HRE.out.under b2 (fun b _ h=>h));have HF:=Lh (HF.out.under b2);have HE:=Lh (show Var w13 w12.heap.size (gC xe.e ev (xe.p:Int) xe.r) from hs);clear ht hs ta tb b2;refine Hid.out ?_)
               | fail)
              obtain ⟨G5,hG5⟩:∃ G5,w12.heap.size=G5:=⟨_,rfl⟩
              rw [hG5] at HE HRE hw12 hg12
              rw [hG5]
              clear hG5
              have jHE_6:=HE.out.at 6 (v:=.int .i64 (xe.p:Int)) rfl
              have jHE_7:=HE.out.at 7 (v:=.int .i64 xe.r) rfl
              by_cases hr:xe.r=0
              ·have HXR:=Lh hr
               have HE8:Hid (Z.2=mu X.R (xe.p,0) [Jr,Km]):=Lh (by rw [HE7.out,hr])
               have hr1:(xe.r==0)=true:=by simp [hr]
               have hr2:(xe.r != 0)=false:=by simp [hr]
               have hr3:decide (xe.r=0)=true:=by simp [hr]
               obtain ⟨EA,ec,hev,_⟩:=HRE.out.len
               subst hev
               have hone:(Value.slice EA xe.e.l.length ec).oneCell'=true:=rfl
               clear HE7 HW10 HEX HB
               refine Lh ?_
               go_wp2_with (first
                | (refine Qb rfl 81 (.tmp 149) rfl G5 0 rfl (exC xe.e (.slice EA xe.e.l.length ec)) (Qbi HE.out.rg) Try.underlying81 rfl Z6 ?_)
                | (refine Qa rfl 81 (.tmp 151) (.tmp 150) rfl (G:=G) (off:=12) rfl (us:=exC xe.e (.slice EA xe.e.l.length ec)) HF.out.vf rfl Z6 (by show 12+6≤18;omega) (Ym _ hone) ?_;intro w7 ht hs;have HPS:=Lh (HPS.out.turn (S':=fun b=>G<b∧b<G2) ht fun b hb _=>⟨hb,by omega⟩);have HRL:=Lh (HRL.out.turn (S':=fun b=>G3<b∧b<G4) ht fun b hb _=>⟨hb,by omega⟩);have HBD:=Lh (HBD.out.turn (S':=fun b=>G3<b∧b<G4) ht fun b hb _=>⟨hb,by omega⟩);have HE:=Lh (HE.out.turn ht (by omega));have HRE:=Lh (HRE.out.turn (S':=fun b=>G4<b∧b<G5) ht fun b hb _=>⟨hb,by omega⟩);have HF:=Lh (HF.out.set_f (fs':=(fnD sg xn (.slice PA ps.length pc) ty an true (.slice RA rl.length rc) (.slice BA g.l.length bc) xe.e (.slice EA xe.e.l.length ec))) ht hs);clear ht hs;have jHE_6:=HE.out.at 6 (v:=.int .i64 (xe.p:Int)) rfl;refine Hid.out ?_)
                | fail)
               have HW12:Hid (∀ W,Below w.heap.size w W→CP 56 #[.agg (ryC X).toArray,.int .i64 (xe.p:Int),.string Jr] W fun e w'=>e=.returned (.int .i64 (if X.R.is (xe.p) [59]=true then 0 else 11))∧Below W.heap.size W w'):=Lh fun W hW=>by
                have:=HWD.out (xe.p) Jr (by omega) W hW
                rwa [show Jr.toList=[59] from wd1 59 []] at this
               cases h12:X.R.is xe.p [59] with
               | false =>
                rw [h12,if_neg (by decide)] at HW12
                have HE9:Hid (Z.2=(xe.p,11)):=Lh (HE8.out.trans (end_1 h12))
                clear h12
                refine Lh ?_
                go_wp2_with (first
                 | (refine Qb rfl 92 (.tmp 3) rfl w.heap.size 0 rfl (ryC X) HF.out.f3.vr.rg Try.underlying92 rfl Qd ?_)
                 | (go_at_call 56;(with_reducible refine (HW12.out _ HF.out.f3.b).mono ?_);rintro e w2 ⟨rfl,b2⟩;have HE:=Lh (HE.out.under b2);have HF:=Lh (HF.out.under b2);clear b2;have jHE_6:=HE.out.at 6 (v:=.int .i64 (xe.p:Int)) rfl;dsimp only)
                 | (refine Qa rfl 95 (.tmp 6) (.tmp 159) rfl (G:=w.heap.size+2) (off:=0) rfl (us:=gtE (xe.p:Int) 11) HF.out.f3.vo rfl Qc (Nat.le_refl 19) (Qn _ _) ?_;intro w90 ht hs;have HF:=Lh (HF.out.f3.set_o (us:=gtE (xe.p:Int) 11) ht hs);clear ht hs)
                 | fail)
                exact Qj 95 rfl rfl rfl HF.out.vo Try.underlying95 rfl Qc (Jd HE9.out (by decide) HF.out.b)
               | true =>
                rw [h12,if_pos rfl] at HW12
                have hk12:xe.p<X.L.length:=HOK.out.is_lt h12
                have HH12:=Lh h12
                have HW13:Hid (∀ W,Below w.heap.size w W→CP 56 #[.agg (ryC X).toArray,.int .i64 ((xe.p:Int)+1),.string Km] W fun e w'=>e=.returned (.int .i64 (if X.R.is (xe.p+1) [125]=true then 0 else 11))∧Below W.heap.size W w'):=Lh fun W hW=>by
                 have:=HWD.out (xe.p+1) Km (by omega) W hW
                 rwa [show Km.toList=[125] from wd1 125 []] at this
                cases h13:X.R.is (xe.p+1) [125] with
                | false =>
                 rw [h13,if_neg (by decide)] at HW13
                 have HE9:Hid (Z.2=(xe.p+1,11)):=Lh (HE8.out.trans (end_2 h12 h13))
                 clear h12 h13
                 refine Lh ?_
                 go_wp2_with (first
                  | (refine Qb rfl 92 (.tmp 3) rfl w.heap.size 0 rfl (ryC X) HF.out.f3.vr.rg Try.underlying92 rfl Qd ?_)
                  | (go_at_call 56;(with_reducible refine (HW12.out _ HF.out.f3.b).mono ?_);rintro e w2 ⟨rfl,b2⟩;have HE:=Lh (HE.out.under b2);have HF:=Lh (HF.out.under b2);clear b2;have jHE_6:=HE.out.at 6 (v:=.int .i64 (xe.p:Int)) rfl;dsimp only)
                  | (go_at_call 56;(with_reducible refine (HW13.out _ HF.out.f3.b).mono ?_);rintro e w2 ⟨rfl,b2⟩;have HE:=Lh (HE.out.under b2);have HF:=Lh (HF.out.under b2);clear b2;have jHE_6:=HE.out.at 6 (v:=.int .i64 (xe.p:Int)) rfl;dsimp only)
                  | (refine Qa rfl 95 (.tmp 6) (.tmp 169) rfl (G:=w.heap.size+2) (off:=0) rfl (us:=gtE ((xe.p:Int)+1) 11) HF.out.f3.vo rfl Qc (Nat.le_refl 19) (Qn _ _) ?_;intro w90 ht hs;have HF:=Lh (HF.out.f3.set_o (us:=gtE ((xe.p:Int)+1) 11) ht hs);clear ht hs)
                  | fail)
                 exact Qj 95 rfl rfl rfl HF.out.vo Try.underlying95 rfl Qc (Jd (q:=xe.p+1) HE9.out (by decide) HF.out.b)
                | true =>
                 rw [h13,if_pos rfl] at HW13
                 have HH13:=Lh h13
                 clear h12 h13
                 obtain ⟨T,hT⟩:∃ T:FnT,T=⟨sg,xn,ps,ty,an,true,rl,g.l,xe.e⟩:=⟨_,rfl⟩
                 obtain ⟨V,hV⟩:∃ V:FnV,V=⟨.slice PA ps.length pc,(.slice RA rl.length rc),.slice BA g.l.length bc,.slice EA xe.e.l.length ec⟩:=⟨_,rfl⟩
                 have HZF:Hid (Z=(T,(xe.p+2,0))):=Lh (by
                  have hq:=HQD.out
                  have hv:=Qnh (R:=X.R) (F:=F) (f:=f) (p:=p) (q:=j) (k:=k) (j:=j2) HFNW.out (by rw [hq];exact HID.out) (by rw [show p+2=q+1 by omega];exact HH2.out) (by rw [show p+3=q+2 by omega];exact HY.out) HH4.out (by have:=HTN.out;omega) HMM2.out HROW.out HH8.out HGG.out HGR.out HH10.out HXE.out HXR.out HH12.out HH13.out
                  rw [hq,HSG.out,HXN.out,HTE.out,HRS.out] at hv
                  rw [← HZ.out,hv,hT])
                 refine Lh ?_
                 go_wp2_with (first
                  | (refine Qb rfl 92 (.tmp 3) rfl w.heap.size 0 rfl (ryC X) HF.out.f3.vr.rg Try.underlying92 rfl Qd ?_)
                  | (go_at_call 56;(with_reducible refine (HW12.out _ HF.out.f3.b).mono ?_);rintro e w2 ⟨rfl,b2⟩;have HPS:=Lh (HPS.out.under b2);have HRL:=Lh (HRL.out.under b2);have HBD:=Lh (HBD.out.under b2);have HE:=Lh (HE.out.under b2);have HRE:=Lh (HRE.out.under b2 (fun b _ h=>h));have HF:=Lh (HF.out.under b2);clear b2;have jHE_6:=HE.out.at 6 (v:=.int .i64 (xe.p:Int)) rfl;dsimp only)
                  | (go_at_call 56;(with_reducible refine (HW13.out _ HF.out.f3.b).mono ?_);rintro e w2 ⟨rfl,b2⟩;have HPS:=Lh (HPS.out.under b2);have HRL:=Lh (HRL.out.under b2);have HBD:=Lh (HBD.out.under b2);have HE:=Lh (HE.out.under b2);have HRE:=Lh (HRE.out.under b2 (fun b _ h=>h));have HF:=Lh (HF.out.under b2);clear b2;have jHE_6:=HE.out.at 6 (v:=.int .i64 (xe.p:Int)) rfl;dsimp only)
                  | fail)
                 have HN:=Lh (show FnS w2 (fun b=>w.heap.size+2<b) T V by
                  rw [hT,hV]
                  exact ⟨HPS.out.weak fun b hb _=>by omega,HRL.out.weak fun b hb _=>by omega,HBD.out.weak fun b hb _=>by omega,HRE.out.weak fun b hb _=>by omega⟩)
                 obtain ⟨FL,hFL,hFV,hFS⟩:=HMM.out.fn
                 obtain ⟨A,c,hve⟩:=hFV.frm
                 have hfl:FL.length≤1000000:=by have:FL.length=m.fn.length:=(by rw [← hFL,List.length_map]);omega
                 have HFL:=Lh hFL
                 have HFS:=Lh hFS
                 have HNO:=Lh HN.out.one
                 have HQ:=Lh (show F3 X w w2.drew [v.im,.bool hl,v.la,.bool he,v.ef,v.va,.slice A FL.length c] (gtE 0 0)∧Var w2.drew G (fnC T V) by
                  have h3:=HF.out.f3.under (Qi _ _)
                  rw [hve] at h3
                  refine ⟨h3,?_⟩
                  rw [hT,hV]
                  exact HF.out.vf.under (Qi _ _))
                 have HL:=Lh (show ShV w2.drew (fun b=>S b∨w.heap.size+2<b) (.slice A FL.length c) FL.length (fns FL) by
                  rw [hve] at hFV
                  exact (hFV.under (HF.out.f3.b.trans ((Qi w2 w2.heap.size).mono HF.out.f3.b.size))).weak fun b h _=>.inl h)
                 clear hFL hFV hFS hve hT hV HPS HRL HBD HRE HA
                 refine Qjo _ (fn_r45 X S w w2 hl he v G T V FL A c HQ.out.1 HQ.out.2 HL.out HNO.out (Qnu HFS.out) HSS.out hfl) ?_
                 rintro a' w3 ⟨y0,y1,y2,y3,y4,y5,y6,y7,rfl,A6,c6,hF3,hL3,htn⟩
                 have HF:=Lh hF3
                 have HL:=Lh hL3
                 have HNW:=Lh (HN.out.turn (S':=fun b=>w.heap.size+2<b) htn fun b hb _=>⟨hb,by omega⟩)
                 have HEW:=Lh (HE.out.turn htn (by omega))
                 have jHE_6:=HEW.out.at 6 (v:=.int .i64 (xe.p:Int)) rfl
                 clear hF3 hL3 htn HQ HE HN
                 go_wp2_with (first
                  | (refine Qb rfl 51 (.tmp 4) rfl (w.heap.size+1) 0 rfl [v.im,.bool hl,v.la,.bool he,v.ef,v.va,.slice A6 (FL.length+1) c6] HF.out.vm.rg Try.underlying51 rfl Q7 ?_)
                  | (refine Qa rfl 95 (.tmp 6) (.tmp 182) rfl (G:=w.heap.size+2) (off:=0) rfl (us:=gt [v.im,.bool hl,v.la,.bool he,v.ef,v.va,.slice A6 (FL.length+1) c6] Qk (vrC VrT.nul) Qk ((xe.p:Int)+2) 0) HF.out.vo rfl Qc (Nat.le_refl 19) (Zy _ _ (Zt (m:=m) (hl:=hl) (he:=he) (v:={ v with fn:=.slice A6 (FL.length+1) c6 }) HMM.out.im.one HMM.out.la.one HMM.out.ef.one HMM.out.va.one rfl) rfl (Jj _) rfl) ?_;intro w90 ht hs;have HL:=Lh (HL.out.turn (S':=fun b=>S b∨w.heap.size+2<b) ht fun b hb h2=>⟨hb,fun e=>by rcases hb with hb | hb;have:=HSS.out b hb;omega;omega⟩);have HNW:=Lh (HNW.out.turn (S':=fun b=>w.heap.size+2<b) ht fun b hb _=>⟨hb,by omega⟩);have HF:=Lh (HF.out.set_o (us:=gt [v.im,.bool hl,v.la,.bool he,v.ef,v.va,.slice A6 (FL.length+1) c6] Qk (vrC VrT.nul) Qk ((xe.p:Int)+2) 0) ht hs);clear ht hs)
                  | fail)
                 have hfin:=Qnv (n:=FL.length+1) HMM.out HF.out.b HFL.out HFS.out HL.out (HNW.out.weak fun b hb _=>by omega)
                 rw [HZF.out]
                 dsimp only at hfin ⊢
                 rw [HHL.out,HHE.out] at hfin
                 exact Qj 95 rfl rfl rfl HF.out.vo Try.underlying95 rfl Qc (Qgn (m:={ im:=m.im,hl:=hl,la:=m.la,he:=he,ef:=m.ef,va:=m.va,fn:=m.fn++[T] }) (v:={ v with fn:=.slice A6 (FL.length+1) c6 }) (q:=xe.p+2) hfin HF.out.b)
              ·have HE8:Hid (Z.2=(xe.p,xe.r)):=Lh (HE7.out.trans (Jg (x:=(xe.p,xe.r)) hr _))
               have hr1:(xe.r==0)=false:=by simp [hr]
               have hr2:(xe.r != 0)=true:=by simp [hr]
               have hr3:decide (xe.r=0)=false:=by simp [hr]
               have HRR:=Lh hr
               clear hr
               refine Lh ?_
               go_wp2_with (first
                | (refine Qa rfl 95 (.tmp 6) (.tmp 148) rfl (G:=w.heap.size+2) (off:=0) rfl (us:=gtE (xe.p:Int) xe.r) HF.out.f3.vo rfl Qc (Nat.le_refl 19) (Qn _ _) ?_;intro w90 ht hs;have HF:=Lh (HF.out.f3.set_o (us:=gtE (xe.p:Int) xe.r) ht hs);clear ht hs)
                | fail)
               exact Qj 95 rfl rfl rfl HF.out.vo Try.underlying95 rfl Qc (Jd HE8.out HRR.out HF.out.b)
            ·have HE6:Hid (Z.2=(g.p,g.r)):=Lh (HE5.out.trans (Qe5 (x:=(g.p,g.r)) hr))
             have hr1:(g.r==0)=false:=by simp [hr]
             have hr2:(g.r != 0)=true:=by simp [hr]
             have hr3:decide (g.r=0)=false:=by simp [hr]
             have HRR:=Lh hr
             clear hr
             refine Lh ?_
             go_wp2_with (first
              | (refine Qa rfl 95 (.tmp 6) (.tmp 124) rfl (G:=w.heap.size+2) (off:=0) rfl (us:=gtE (g.p:Int) g.r) HF.out.f3.vo rfl Qc (Nat.le_refl 19) (Qn _ _) ?_;intro w90 ht hs;have HF:=Lh (HF.out.f3.set_o (us:=gtE (g.p:Int) g.r) ht hs);clear ht hs)
              | fail)
             exact Qj 95 rfl rfl rfl HF.out.vo Try.underlying95 rfl Qc (Jd HE6.out HRR.out HF.out.b)
          ·have husE:us=gtE (j2:Int) r2:=by rw [← HUS.out];unfold nlC;rw [if_neg hr]
           subst husE
           have HE5:Hid (Z.2=(j2,r2)):=Lh (HE4.out.trans (Qh7 hr))
           have jHG_18:=HG.out.at 18 (v:=.int .i64 r2) rfl
           have hr1:(r2==0)=false:=by simp [hr]
           have hr2:(r2 != 0)=true:=by simp [hr]
           have hr3:decide (r2=0)=false:=by simp [hr]
           have HRR:=Lh hr
           clear HUS HU HNS HRL1 hr
           refine Lh ?_
           go_wp2_with (first
            | (refine Qb rfl 95 (.tmp 8) rfl G2 0 rfl (gtE (j2:Int) r2) HG.out.rg Try.underlying95 rfl Qc ?_)
            | (refine Qa rfl 95 (.tmp 6) (.tmp 100) rfl (G:=w.heap.size+2) (off:=0) rfl (us:=gtE (j2:Int) r2) HF.out.f3.vo rfl Qc (Nat.le_refl 19) (Qn _ _) ?_;intro w90 ht hs;have HF:=Lh (HF.out.f3.set_o (us:=gtE (j2:Int) r2) ht hs);clear ht hs)
            | fail)
           exact Qj 95 rfl rfl rfl HF.out.vo Try.underlying95 rfl Qc (Jd HE5.out HRR.out HF.out.b)
       ·have HE4:Hid (Z.2=(k,rk)):=Lh (HE3.out.trans (Qe6 hr))
        have hr1:(rk==0)=false:=by simp [hr]
        have hr2:(rk != 0)=true:=by simp [hr]
        have hr3:decide (rk=0)=false:=by simp [hr]
        have HRR:=Lh hr
        clear hr
        refine Lh ?_
        go_wp2_with (first
         | (refine Qa rfl 95 (.tmp 6) (.tmp 75) rfl (G:=w.heap.size+2) (off:=0) rfl (us:=gtE (k:Int) rk) HF.out.f3.vo rfl Qc (Nat.le_refl 19) (Qn _ _) ?_;intro w90 ht hs;have HF:=Lh (HF.out.f3.set_o (us:=gtE (k:Int) rk) ht hs);clear ht hs)
         | fail)
        exact Qj 95 rfl rfl rfl HF.out.vo Try.underlying95 rfl Qc (Jd HE4.out HRR.out HF.out.b)
    ·have husE:us=gtE (j:Int) r:=by rw [← HUS.out];unfold pvC;rw [if_neg hr]
     subst husE
     have HE3:Hid (Z.2=(j,r)):=Lh (HE2.out.trans (Qh8 hr))
     have jHG_18:=HG.out.at 18 (v:=.int .i64 r) rfl
     have hr1:(r==0)=false:=by simp [hr]
     have hr2:(r != 0)=true:=by simp [hr]
     have hr3:decide (r=0)=false:=by simp [hr]
     have HRR:=Lh hr
     clear HUS HU HPA HPS1 hr
     refine Lh ?_
     go_wp2_with (first
      | (refine Qb rfl 95 (.tmp 8) rfl G2 0 rfl (gtE (j:Int) r) HG.out.rg Try.underlying95 rfl Qc ?_)
      | (refine Qa rfl 95 (.tmp 6) (.tmp 41) rfl (G:=w.heap.size+2) (off:=0) rfl (us:=gtE (j:Int) r) HF.out.f3.vo rfl Qc (Nat.le_refl 19) (Qn _ _) ?_;intro w90 ht hs;have HF:=Lh (HF.out.f3.set_o (us:=gtE (j:Int) r) ht hs);clear ht hs)
      | fail)
     exact Qj 95 rfl rfl rfl HF.out.vo Try.underlying95 rfl Qc (Jd HE3.out HRR.out HF.out.b)
end Go.Proofs.Ytjoclbeoafeebaa
