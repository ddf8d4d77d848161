import Derived.Test.YtjoclbeoafeebaaSq
import Derived.Test.YtjoclbeoafeebaaSkU
set_option maxHeartbeats 3200000
set_option maxRecDepth 100000
namespace Go.Proofs.Ytjoclbeoafeebaa
set_option linter.unusedVariables false
set_option linter.unusedSimpArgs false
open Go.RowKit Go.Maps
theorem Qjz(x:VrT):∀ u∈vrC x,u.oneCell'=true:=by
 intro u hu
 simp [vrC] at hu
 rcases hu with rfl | rfl | rfl | rfl | rfl | rfl | rfl | rfl <;> rfl
theorem Qiq{X:MkA}{S:Nat→Prop}{N:List ByteArray}{ML:List OMo}{l:List ByteArray}{qi:Nat}{f:Int×ByteArray→Option Int}{la ef:Int}{w:World}(h:Mk X l qi f 0 (fun _=>none) la ef w)(hr:Rd X S N ML w) :
  CP 28 #[.pointer (some ⟨X.G+4,0,none⟩)] w (Yt X (sc5 (Qm ML) 0) (Mk X l qi f (X.n*2000000) (Uv (Qm ML)) la ef) w):=by
 have hzm:=Qbg
 have hzv:=Qe9
 have hzf:=Qf7
 have c2:w.cell? ⟨X.G+4,2,none⟩=some (.slice X.A X.n X.c):=h.me.at 2 rfl
 have HLn:=Lh hr.sh.len
 have hn64:=hr.hn
 obtain ⟨R,hR⟩:∃ R,sc5 (Qm ML) 0=R:=⟨_,rfl⟩
 rw [hR]
 have HM0:=Lh (show Mk X l qi f (0*2000000) (Y5 Qbd (Qm ML) 0 fun _=>none) la ef w by rw [Qg3];exact h)
 have HR0:=Lh (show sc5 ((Qm ML).drop 0) 0=R from hR)
 have HRD:=Lh hr
 have hgl:X.G+4<w.heap.size:=h.lt
 have hgw:X.G≤w.heap.size:=by omega
 have HB0:=Lh (Bg.refl X w)
 clear h hr hR
 go_enter Try.func28,Try.ntmps28
 go_wp2
 clear c2
 go_loopw [16] (fun i wr=>∃ k:Nat,i=.int .i64 (k:Int)∧k≤X.n∧Hid (sc5 ((Qm ML).drop k) k=R)∧Hid (Mk X l qi f (k*2000000) (Y5 Qbd (Qm ML) k fun _=>none) la ef wr)∧Hid (Bg X w wr)) (fun i _=>X.n-(intOf i).toNat)
 case atStart=>exact ⟨0,rfl,Nat.zero_le _,HR0,HM0,HB0⟩
 case round =>
  clear HR0 HM0 HB0
  obtain ⟨k,rfl,hk,HR,HM,HB⟩:=hrel
  have HRW:=Lh (HRD.out.lowG hgw HB.out)
  by_cases hlt:k<X.n
  ·obtain ⟨b0,off0,q,hA0,hq,hqm,hms,hrg⟩:=HRW.out.sh.rg hlt
   rw [hA0]
   have ht:=HR.out
   rw [Zm hq,sc5] at ht
   obtain ⟨R1,hR1⟩:∃ R1,Qbr [] (q.1.sm.vs++q.1.sm.fs)=R1:=⟨_,rfl⟩
   rw [hR1] at ht
   have HT2:=Lh ht
   have HR1:=Lh (show Qbr ((q.1.va.take 0).map (·.nm)) ((q.1.va.drop 0).map VrT.sn++q.1.sm.fs)=R1 from hR1)
   have HQ:=Lh hq
   have HONE:=Lh (hms.ones q.1.hl q.1.he)
   have HRG:=Lh hrg
   obtain ⟨_,hbv,hbf⟩:=HRW.out.cnt q hqm
   have HNV:=Lh (HRW.out.nsz q hqm).2.1
   have HNF:=Lh (HRW.out.nsz q hqm).2.2
   obtain ⟨VA,vc,hiv,_⟩:=hms.va
   obtain ⟨FL,hFL,⟨FA,fc,hfv,_⟩,_⟩:=hms.fn
   have hfl:FL.length=q.1.fn.length:=by rw [← hFL,List.length_map]
   rw [hfl] at hfv
   clear ht hR1 hq hqm hms hrg HR hFL hfl
   go_wp2_with (first
    | (refine Qb rfl 51 (.tmp 19) rfl b0 (off0+k*7) rfl (moC q.1.hl q.1.he q.2) HRG.out Try.underlying51 rfl Jm ?_)
    | (refine Qa rfl 51 (.tmp 6) (.tmp 20) rfl (G:=wr.heap.size) (off:=0) rfl (us:=moC q.1.hl q.1.he q.2) (Var.new wr (moC false false MoV.nul) 51 rfl) rfl Jm (Nat.le_refl 7) HONE.out ?_;intro w2 ht hs;have tb:=((Tn.alloc (fun k=>k=wr.heap.size) wr (.cells (moC false false MoV.nul).toArray 51)).trans ht).below nLe (by intro k hk e;omega);have HM2:=Lh (HM.out.under tb);have HB2:=Lh (HB.out.trans (Bg.of tb));have hb5:w2.cell? ⟨wr.heap.size,5,none⟩=some (.slice VA q.1.va.length vc):=(hs.at 5 rfl).trans (congrArg some hiv);have HBX:=Lh hs;clear ht hs tb)
    | go_in)
   have HIV:=Lh hiv
   have HFV:=Lh hfv
   obtain ⟨MB,hMB⟩:∃ MB,wr.heap.size=MB:=⟨_,rfl⟩
   rw [hMB] at HBX
   rw [hMB]
   have hMBl:MB<w2.heap.size:=HBX.out.lt
   have HMA:=Lh (show Mk X l qi f (k*2000000+0) (Y5 Qbd (Qm ML) k (Uh q.1.va.length ((q.1.va.take 0).map (·.nm)))) la ef w2 by rw [Nat.add_zero,List.take_zero,List.map_nil,ownD_nil];exact HM2.out)
   have hMBG:X.G+5≤MB:=by rw [← hMB];have:=HM.out.lt;omega
   clear hiv hfv HM2 HM HB hMB
   go_loopw [24] (fun i wr=>∃ j:Nat,i=.int .i64 (j:Int)∧j≤q.1.va.length∧Hid (Qbr ((q.1.va.take j).map (·.nm)) ((q.1.va.drop j).map VrT.sn++q.1.sm.fs)=R1)∧Hid (Mk X l qi f (k*2000000+j) (Y5 Qbd (Qm ML) k (Uh q.1.va.length ((q.1.va.take j).map (·.nm)))) la ef wr)∧Hid (Var wr MB (moC q.1.hl q.1.he q.2))∧Hid (Bg X w wr)) (fun i _=>q.1.va.length-(intOf i).toNat)
   case atStart=>exact ⟨0,rfl,Nat.zero_le _,HR1,HMA,HBX,HB2⟩
   case round =>
    clear HR1 HMA HBX HB2
    obtain ⟨j,rfl,hj,HR,HM,HX,HB⟩:=hrel
    by_cases hlt3:j<q.1.va.length
    ·obtain ⟨b1,off1,q1,hA1,hq1,_,hms,_⟩:=(HRD.out.lowG hgw HB.out).sh.rg hlt
     obtain rfl:q1=q:=by have:=HQ.out;rw [this] at hq1;cases hq1;rfl
     obtain ⟨ib,io,ic',x,hv,hx,_,hrgx⟩:=hms.va.vr hlt3
     rw [HIV.out] at hv
     injection hv with e1 _ e3
     subst e1
     subst e3
     have HRX:=Lh hrgx
     have hxm:x∈q1.1.va:=List.mem_of_getElem? hx
     have hxs:=HNV.out x hxm
     have hr:=HR.out
     obtain ⟨hl2,hl3⟩:=List.getElem?_eq_some_iff.1 hx
     have hxj:q1.1.va[j]?=some x:=hx
     have hdr:q1.1.va.drop j=x::q1.1.va.drop (j+1):=by rw [List.drop_eq_getElem_cons hl2,hl3]
     have htk:(q1.1.va.take (j+1)).map (·.nm)=(q1.1.va.take j).map (·.nm)++[x.nm]:=by rw [List.take_add_one,hxj];simp
     rw [hdr,List.map_cons,List.cons_append,Qbr,show ((q1.1.va.take j).map (·.nm))++[(VrT.sn x).1]=(q1.1.va.take (j+1)).map (·.nm) from htk.symm] at hr
     have HTK:=Lh htk
     have HDL:=Lh (show ((q1.1.va.take j).map (·.nm)).length=j by rw [List.length_map,List.length_take];omega)
     obtain ⟨D,hD⟩:∃ D,(q1.1.va.take j).map (·.nm)=D:=⟨_,rfl⟩
     rw [hD] at hr HM HTK HDL
     have HVAL:=Lh (fun (hh:x.nm∉D)=>(show Uh q1.1.va.length (D++[x.nm]) x.nm=some ((0:Int),(j:Int)) by rw [Qjv hh,HDL.out,if_pos hlt3]))
     clear hms hx hxm hq1 hdr htk hD hl3 hxj hrgx
     have HKA:=Lh (fun (wz:World) (hz:Mk X l qi f (k*2000000+j) (Y5 Qbd (Qm ML) k (Uh q1.1.va.length D)) la ef wz)=>Qjy hz (by omega) (i:=(k:Int)) (s:=x.nm) (a:=0) (b:=(j:Int)) (by omega) (by omega) hxs (Y5 Qbd (Qm ML) k (Uh q1.1.va.length (D++[x.nm]))) (fun hh=>(Z5 (F:=Qbd) (M:=Qm ML) (i:=k)).trans (HVAL.out fun hm=>by
      have h9:Uh q1.1.va.length D x.nm=none:=(Z5 (F:=Qbd) (M:=Qm ML) (i:=k)).symm.trans hh
      have h8:=Z1 (nv:=q1.1.va.length) (D:=D) (s:=x.nm)
      rw [h9,Qy.2 hm] at h8
      cases h8)) (fun y hy=>Qbc (fun t ht=>by
       by_cases hm:x.nm∈D
       ·unfold Uh
        rw [Qfg]
        cases hq:Zg D t with
        | some p=>rfl
        | none =>
         have:Zg [x.nm] t=none:=Z3.2 (by simpa using ht)
         rw [this]
         rfl
       ·exact Qjw hm ht) hy))
     rw [show (Y5 Qbd (Qm ML) k (Uh q1.1.va.length D) ((k:Int),x.nm))=Uh q1.1.va.length D x.nm from Z5,Z1] at HKA
     cases hin:(Zg D x.nm).isSome with
     | true =>
      rw [if_pos (show (Zg D (VrT.sn x).1).isSome=true from hin)] at hr
      rw [hin] at HKA
      have HE:=Lh (show R=some (k,x.a,7) by rw [← HT2.out,← hr];rfl)
      clear hr hin
      go_wp2_with (first
       | (refine Qb rfl 75 (.tmp 27) rfl ib (io+j*8) rfl (vrC x) HRX.out Try.underlying75 rfl Yo ?_)
       | (refine Qa rfl 75 (.tmp 8) (.tmp 28) rfl (G:=wr.heap.size) (off:=0) rfl (us:=vrC x) (Var.new wr (vrC VrT.nul) 75 rfl) rfl Yo (Nat.le_refl 8) (Qjz x) ?_;intro w3 ht hs;have tb:=((Tn.alloc (fun k=>k=wr.heap.size) wr (.cells (vrC VrT.nul).toArray 75)).trans ht).below nLe (by intro k hk e;omega);have HM3:=Lh (HM.out.under tb);have HB3:=Lh (HB.out.trans (Bg.of tb));have k0:w3.cell? ⟨wr.heap.size,0,none⟩=some (.string x.nm):=hs.at 0 rfl;have HV3:=Lh hs;have hgw:=HM.out.lt;clear ht hs tb)
       | (go_at_call 44;refine (HKA.out _ HM3.out).mono ?_;rintro e w4 ⟨rfl,tk,_⟩;have HB4:=Lh (HB3.out.trans (Tn.weak tk fun y _ e=>(by omega)));have v1:w4.cell? ⟨wr.heap.size,1,none⟩=some (.int .i64 x.a):=(HV3.out.turn tk (by omega)).at 1 rfl;clear tk)
       | go_in)
      go_region
      go_wp2
      go_ret3
      exact Yt.bad HE.out (HB4.out.trans (Bg.drew w4))
     | false =>
      rw [if_neg (show ¬ (Zg D (VrT.sn x).1).isSome=true by rw [show (VrT.sn x).1=x.nm from rfl,hin];decide)] at hr
      have HNN:=Lh (show Uh q1.1.va.length D x.nm=none by have h8:=Z1 (nv:=q1.1.va.length) (D:=D) (s:=x.nm);rw [hin] at h8;simpa using h8)
      rw [hin] at HKA
      have HR2:=Lh hr
      clear hr hin
      go_wp2_with (first
       | (refine Qb rfl 75 (.tmp 27) rfl ib (io+j*8) rfl (vrC x) HRX.out Try.underlying75 rfl Yo ?_)
       | (refine Qa rfl 75 (.tmp 8) (.tmp 28) rfl (G:=wr.heap.size) (off:=0) rfl (us:=vrC x) (Var.new wr (vrC VrT.nul) 75 rfl) rfl Yo (Nat.le_refl 8) (Qjz x) ?_;intro w3 ht hs;have tb:=((Tn.alloc (fun k=>k=wr.heap.size) wr (.cells (vrC VrT.nul).toArray 75)).trans ht).below nLe (by intro k hk e;omega);have HM3:=Lh (HM.out.under tb);have HX3:=Lh (HX.out.under tb);have HB3:=Lh (HB.out.trans (Bg.of tb));have k0:w3.cell? ⟨wr.heap.size,0,none⟩=some (.string x.nm):=hs.at 0 rfl;clear ht hs tb)
       | (go_at_call 44;refine (HKA.out _ HM3.out).mono ?_;rintro e w4 ⟨rfl,tk,hm4⟩;have HM4:=Lh (show Mk X l qi f (k*2000000+(j+1)) (Y5 Qbd (Qm ML) k (Uh q1.1.va.length ((q1.1.va.take (j+1)).map (·.nm)))) la ef w4 from (by rw [HTK.out,show k*2000000+(j+1)=k*2000000+j+1 by omega];exact hm4 HNN.out));have HX4:=Lh (HX3.out.turn tk (by omega));have HB4:=Lh (HB3.out.trans (Tn.weak tk fun y _ e=>(by omega)));clear tk hm4)
       | go_in)
      go_roundw
      case rel=>exact ⟨j+1,by go_num,hlt3,HR2,HM4,HX4,HB4⟩
      case measure=>simp [intOf];omega
    ·obtain rfl:j=q.1.va.length:=by omega
     have hb6:wr.cell? ⟨MB,6,none⟩=some (.slice FA q.1.fn.length fc):=(HX.out.at 6 rfl).trans (congrArg some HFV.out)
     obtain ⟨VN,hVN⟩:∃ VN,q.1.va.map (·.nm)=VN:=⟨_,rfl⟩
     have HVN:=Lh (show VN.length=q.1.va.length by rw [← hVN,List.length_map])
     have hr:=HR.out
     rw [List.drop_length,List.map_nil,List.nil_append,List.take_length,hVN] at hr
     have HRF:=Lh (show Qbr (VN++(q.1.fn.take 0).map (·.nm)) ((q.1.fn.drop 0).map FnT.sn)=R1 by rw [List.take_zero,List.map_nil,List.append_nil];exact hr)
     have HMF:=Lh (show Mk X l qi f (k*2000000+(q.1.va.length+0)) (Y5 Qbd (Qm ML) k (Uh q.1.va.length (VN++(q.1.fn.take 0).map (·.nm)))) la ef wr by
      have h9:=HM.out
      rw [List.take_length,hVN] at h9
      rw [List.take_zero,List.map_nil,List.append_nil,Nat.add_zero]
      exact h9)
     have HXF:=HX
     have HBF:=HB
     have HVNE:=Lh hVN
     clear hr HR HM HX HB hVN
     go_wp2
     clear hb6
     go_loopw [45] (fun i wr=>∃ j:Nat,i=.int .i64 (j:Int)∧j≤q.1.fn.length∧Hid (Qbr (VN++(q.1.fn.take j).map (·.nm)) ((q.1.fn.drop j).map FnT.sn)=R1)∧Hid (Mk X l qi f (k*2000000+(q.1.va.length+j)) (Y5 Qbd (Qm ML) k (Uh q.1.va.length (VN++(q.1.fn.take j).map (·.nm)))) la ef wr)∧Hid (Var wr MB (moC q.1.hl q.1.he q.2))∧Hid (Bg X w wr)) (fun i _=>q.1.fn.length-(intOf i).toNat)
     case atStart=>exact ⟨0,rfl,Nat.zero_le _,HRF,HMF,HXF,HBF⟩
     case round =>
      clear HRF HMF HXF HBF hj
      obtain ⟨j,rfl,hj,HR,HM,HX,HB⟩:=hrel
      by_cases hlt3:j<q.1.fn.length
      ·obtain ⟨b1,off1,q1,hA1,hq1,_,hms,_⟩:=(HRD.out.lowG hgw HB.out).sh.rg hlt
       obtain rfl:q1=q:=by have:=HQ.out;rw [this] at hq1;cases hq1;rfl
       obtain ⟨FL,hFL,hFV,hFS⟩:=hms.fn
       have hfl:FL.length=q1.1.fn.length:=by rw [← hFL,List.length_map]
       obtain ⟨ib,io,ic',x,hv,hx,_,hrgx⟩:=hFV.fn (show j<FL.length by omega)
       rw [HFV.out,hfl] at hv
       injection hv with e1 _ e3
       subst e1
       subst e3
       have HRX:=Lh hrgx
       have HON:=Lh (hFS x (List.mem_of_getElem? hx)).one
       have hxj:q1.1.fn[j]?=some x.1:=by rw [← hFL,List.getElem?_map,hx];rfl
       have hxm:x.1∈q1.1.fn:=List.mem_of_getElem? hxj
       have hxs:=HNF.out x.1 hxm
       have hr:=HR.out
       obtain ⟨hl2,hl3⟩:=List.getElem?_eq_some_iff.1 hxj
       have hdr:q1.1.fn.drop j=x.1::q1.1.fn.drop (j+1):=by rw [List.drop_eq_getElem_cons hl2,hl3]
       have htk:VN++(q1.1.fn.take (j+1)).map (·.nm)=(VN++(q1.1.fn.take j).map (·.nm))++[x.1.nm]:=by rw [List.take_add_one,hxj];simp
       rw [hdr,List.map_cons,Qbr,show (VN++(q1.1.fn.take j).map (·.nm))++[(FnT.sn x.1).1]=VN++(q1.1.fn.take (j+1)).map (·.nm) from htk.symm] at hr
       have HTK:=Lh htk
       have HDL:=Lh (show (VN++(q1.1.fn.take j).map (·.nm)).length=q1.1.va.length+j by rw [List.length_append,HVN.out,List.length_map,List.length_take];omega)
       obtain ⟨D,hD⟩:∃ D,VN++(q1.1.fn.take j).map (·.nm)=D:=⟨_,rfl⟩
       rw [hD] at hr HM HTK HDL
       have HVAL:=Lh (fun (hh:x.1.nm∉D)=>(show Uh q1.1.va.length (D++[x.1.nm]) x.1.nm=some ((1:Int),(j:Int)) by
        rw [Qjv hh,HDL.out,if_neg (by omega)]
        congr 1
        simp
        omega))
       clear hms hx hxm hq1 hdr htk hD hl3 hxj hrgx hFS hFL hFV hfl
       have HKA:=Lh (fun (wz:World) (hz:Mk X l qi f (k*2000000+(q1.1.va.length+j)) (Y5 Qbd (Qm ML) k (Uh q1.1.va.length D)) la ef wz)=>Qjy hz (by omega) (i:=(k:Int)) (s:=x.1.nm) (a:=1) (b:=(j:Int)) (by omega) (by omega) hxs (Y5 Qbd (Qm ML) k (Uh q1.1.va.length (D++[x.1.nm]))) (fun hh=>(Z5 (F:=Qbd) (M:=Qm ML) (i:=k)).trans (HVAL.out fun hm=>by
        have h9:Uh q1.1.va.length D x.1.nm=none:=(Z5 (F:=Qbd) (M:=Qm ML) (i:=k)).symm.trans hh
        have h8:=Z1 (nv:=q1.1.va.length) (D:=D) (s:=x.1.nm)
        rw [h9,Qy.2 hm] at h8
        cases h8)) (fun y hy=>Qbc (fun t ht=>by
         by_cases hm:x.1.nm∈D
         ·unfold Uh
          rw [Qfg]
          cases hq:Zg D t with
          | some p=>rfl
          | none =>
           have:Zg [x.1.nm] t=none:=Z3.2 (by simpa using ht)
           rw [this]
           rfl
         ·exact Qjw hm ht) hy))
       rw [show (Y5 Qbd (Qm ML) k (Uh q1.1.va.length D) ((k:Int),x.1.nm))=Uh q1.1.va.length D x.1.nm from Z5,Z1] at HKA
       cases hin:(Zg D x.1.nm).isSome with
       | true =>
        rw [if_pos (show (Zg D (FnT.sn x.1).1).isSome=true from hin)] at hr
        rw [hin] at HKA
        have HE:=Lh (show R=some (k,x.1.a,7) by rw [← HT2.out,← hr];rfl)
        clear hr hin
        go_wp2_with (first
         | (refine Qb rfl 83 (.tmp 48) rfl ib (io+j*18) rfl (fnC x.1 x.2) HRX.out Try.underlying83 rfl Zr ?_)
         | (refine Qa rfl 83 (.tmp 10) (.tmp 49) rfl (G:=wr.heap.size) (off:=0) rfl (us:=fnC x.1 x.2) (Var.new wr (fnC FnT.nul FnV.nul) 83 rfl) rfl Zr (Nat.le_refl 18) HON.out ?_;intro w3 ht hs;have tb:=((Tn.alloc (fun k=>k=wr.heap.size) wr (.cells (fnC FnT.nul FnV.nul).toArray 83)).trans ht).below nLe (by intro k hk e;omega);have HM3:=Lh (HM.out.under tb);have HB3:=Lh (HB.out.trans (Bg.of tb));have k0:w3.cell? ⟨wr.heap.size,0,none⟩=some (.string x.1.nm):=hs.at 0 rfl;have HV3:=Lh hs;have hgw:=HM.out.lt;clear ht hs tb)
         | (go_at_call 44;refine (HKA.out _ HM3.out).mono ?_;rintro e w4 ⟨rfl,tk,_⟩;have HB4:=Lh (HB3.out.trans (Tn.weak tk fun y _ e=>(by omega)));have v1:w4.cell? ⟨wr.heap.size,1,none⟩=some (.int .i64 x.1.a):=(HV3.out.turn tk (by omega)).at 1 rfl;clear tk)
         | go_in)
        go_region
        go_wp2
        go_ret3
        exact Yt.bad HE.out (HB4.out.trans (Bg.drew w4))
       | false =>
        rw [if_neg (show ¬ (Zg D (FnT.sn x.1).1).isSome=true by rw [show (FnT.sn x.1).1=x.1.nm from rfl,hin];decide)] at hr
        have HNN:=Lh (show Uh q1.1.va.length D x.1.nm=none by have h8:=Z1 (nv:=q1.1.va.length) (D:=D) (s:=x.1.nm);rw [hin] at h8;simpa using h8)
        rw [hin] at HKA
        have HR2:=Lh hr
        clear hr hin
        go_wp2_with (first
         | (refine Qb rfl 83 (.tmp 48) rfl ib (io+j*18) rfl (fnC x.1 x.2) HRX.out Try.underlying83 rfl Zr ?_)
         | (refine Qa rfl 83 (.tmp 10) (.tmp 49) rfl (G:=wr.heap.size) (off:=0) rfl (us:=fnC x.1 x.2) (Var.new wr (fnC FnT.nul FnV.nul) 83 rfl) rfl Zr (Nat.le_refl 18) HON.out ?_;intro w3 ht hs;have tb:=((Tn.alloc (fun k=>k=wr.heap.size) wr (.cells (fnC FnT.nul FnV.nul).toArray 83)).trans ht).below nLe (by intro k hk e;omega);have HM3:=Lh (HM.out.under tb);have HX3:=Lh (HX.out.under tb);have HB3:=Lh (HB.out.trans (Bg.of tb));have k0:w3.cell? ⟨wr.heap.size,0,none⟩=some (.string x.1.nm):=hs.at 0 rfl;clear ht hs tb)
         | (go_at_call 44;refine (HKA.out _ HM3.out).mono ?_;rintro e w4 ⟨rfl,tk,hm4⟩;have HM4:=Lh (show Mk X l qi f (k*2000000+(q1.1.va.length+(j+1))) (Y5 Qbd (Qm ML) k (Uh q1.1.va.length (VN++(q1.1.fn.take (j+1)).map (·.nm)))) la ef w4 from (by rw [HTK.out,show k*2000000+(q1.1.va.length+(j+1))=k*2000000+(q1.1.va.length+j)+1 by omega];exact hm4 HNN.out));have HX4:=Lh (HX3.out.turn tk (by omega));have HB4:=Lh (HB3.out.trans (Tn.weak tk fun y _ e=>(by omega)));clear tk hm4)
         | go_in)
        go_roundw
        case rel=>exact ⟨j+1,by go_num,hlt3,HR2,HM4,HX4,HB4⟩
        case measure=>simp [intOf];omega
      ·obtain rfl:j=q.1.fn.length:=by omega
       have hr:=HR.out
       rw [List.drop_length,List.map_nil,Qbr] at hr
       have HT3:=Lh (show sc5 ((Qm ML).drop (k+1)) (k+1)=R by have:=HT2.out;rw [← hr] at this;exact this)
       have HM7:=Lh (show Mk X l qi f ((k+1)*2000000) (Y5 Qbd (Qm ML) (k+1) fun _=>none) la ef wr by
        have h7:=HM.out
        rw [List.take_length,show Y5 Qbd (Qm ML) k (Uh q.1.va.length (VN++q.1.fn.map (·.nm)))=Y5 Qbd (Qm ML) (k+1) (fun _=>none) by
         rw [← Qg2 (Zo HQ.out)]
         congr 1
         unfold Qbd
         have e1:q.1.sm.vs.length=q.1.va.length:=List.length_map _
         rw [e1]
         congr 1
         show _=(q.1.va.map VrT.sn++q.1.fn.map FnT.sn).map (·.1)
         rw [List.map_append,List.map_map,List.map_map,← HVNE.out]
         rfl] at h7
        exact ⟨h7.me,h7.sc,h7.nm,h7.im,h7.ow.mono (by omega)⟩)
       clear hr
       go_wp2
       go_roundw
       case rel=>exact ⟨k+1,by go_num,hlt,HT3,HM7,HB⟩
       case measure=>simp [intOf];omega
  ·obtain rfl:X.n=k:=by omega
   have hr:=HR.out
   rw [List.drop_eq_nil_of_le (by rw [Qw,HLn.out];exact Nat.le_refl _),sc5] at hr
   have HE:=Lh hr.symm
   have HM2:=Lh (show Mk X l qi f (X.n*2000000) (Uv (Qm ML)) la ef wr by have:=HM.out;unfold Uv;rw [Qw,HLn.out];exact this)
   clear hr
   go_wp2
   go_ret3
   exact Yt.good HE.out HB.out HM2.out
end Go.Proofs.Ytjoclbeoafeebaa
