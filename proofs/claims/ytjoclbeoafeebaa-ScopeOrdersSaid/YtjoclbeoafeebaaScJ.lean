import Derived.Test.YtjoclbeoafeebaaSq
import Derived.Test.YtjoclbeoafeebaaScI
import Derived.Test.YtjoclbeoafeebaaMHd
import Derived.BigRegion
set_option maxHeartbeats 3200000
set_option maxRecDepth 100000
namespace Go.Proofs.Ytjoclbeoafeebaa
set_option linter.unusedVariables false
set_option linter.unusedSimpArgs false
open Go.RowKit
theorem Qgx(A B:Option Addr)(n c d:Nat)(ML:List OMo)(N:List ByteArray)(S0:Nat→Prop)(w:World)(hL:Y4 w S0 A n ML)(hn:n≤1000000)(hB:Sh w w.heap.size B n (Z0 N))(hnd:n≤d)(hsz:∀ s∈N,s.size≤1000000)(hI:MoBd ML) :
  CP 29 #[.slice B n d,.slice A n c] w (Qb7 (Zk N (Qm ML)) w):=by
 have hzb:=Qjp
 have hzn:=Qba
 have hzv:=Qe9
 have hzf:=Qf7
 have HLn:=Lh hL.len
 have hNm:N.length=n:=by have:=hB.len;simpa [Z0] using this
 have HNm:=Lh hNm
 have HII:=Lh hI
 have HSZ:=Lh hsz
 obtain ⟨R,hR⟩:∃ R,Zk N (Qm ML)=R:=⟨_,rfl⟩
 rw [hR]
 have HR:=Lh hR
 have b0:Below w.heap.size w (w.alloc (.cells #[.int .i64 0,.int .i64 0,.int .i64 0] 33)):=bAl
 have HB0:=Lh b0
 have HV1:=Lh (Var.new w (bdC 0 0 0) 33 (c:=#[.int .i64 0,.int .i64 0,.int .i64 0]) rfl)
 have HL1:=Lh (hL.under b0)
 have HN1:=Lh ((hB.below b0).more b0.size)
 clear hR hL hI b0 hB hsz
 go_enter Try.func29,Try.ntmps29
 go_wp2
 obtain ⟨w1,hw1⟩:∃ w1,w.alloc (.cells #[.int .i64 0,.int .i64 0,.int .i64 0] 33)=w1:=⟨_,rfl⟩
 rw [hw1] at HB0 HV1 HL1 HN1
 rw [hw1]
 clear hw1
 have HFIND:=Lh (fun (wx:World) (b:Below w1.heap.size w1 wx) (s:ByteArray)=>(Z4 B n d N s wx w1.heap.size (HN1.out.below b) (by unfold maxLen;omega):CP 34 #[.slice B n d,.string s] wx fun e w'=>e=.returned (.int .i64 (Uu N s))∧wx=w'))
 obtain ⟨R1,hR1⟩:∃ R1,sc1 [] N 0=R1:=⟨_,rfl⟩
 have HR1:=Lh hR1
 have HRR:=Lh hR1
 go_loopw [5] (fun i wr=>∃ k:Nat,i=.int .i64 (k:Int)∧k≤n∧Hid (sc1 (N.take k) (N.drop k) k=R1)∧Hid (Below w1.heap.size w1 wr)) (fun i _=>n-(intOf i).toNat)
 case atStart=>exact ⟨0,rfl,Nat.zero_le _,HR1,Lh bRf⟩
 case round =>
  clear HR1 hR1
  obtain ⟨k,rfl,hk,HT,HB⟩:=hrel
  obtain ⟨wa,hwa⟩:∃ wa,wa=wr:=⟨_,rfl⟩
  subst hwa
  by_cases hlt:k<n
  ·obtain ⟨b0,off0,u,hA0,hb0,hu,hc0⟩:=(HN1.out.below HB.out).at hlt
   have hkl:k<N.length:=by omega
   obtain ⟨s,hs⟩:∃ s,N[k]=s:=⟨_,rfl⟩
   have hu2:u=.string s:=by
    unfold Z0 at hu
    rw [List.getElem?_map,List.getElem?_eq_getElem hkl,hs] at hu
    cases hu
    rfl
   subst hu2
   subst hA0
   have ht:=HT.out
   rw [List.drop_eq_getElem_cons hkl,hs,sc1] at ht
   have htk:N.take k++[s]=N.take (k+1):=by rw [← hs,List.take_succ_eq_append_getElem hkl]
   rw [htk] at ht
   have HID:=Lh (fun (wx:World)=>Q1 s wx (HSZ.out s (by rw [← hs];exact List.getElem_mem _)))
   obtain ⟨sb,hsb⟩:∃ b,idB s=b:=⟨_,rfl⟩
   rw [hsb] at HID ht
   cases sb with
   | false =>
    rw [if_neg (by decide)] at ht
    have HE:Hid (R=some (k,0,13)):=Lh (by rw [← HR.out];unfold Zk;rw [HRR.out,← ht])
    clear ht htk hsb hs hu HT
    go_wp2_with (first
     | (go_at_call 45;with_reducible refine (HID.out _).mono ?_;rintro e wx ⟨rfl,bx⟩;have HBX:=Lh (bTr HB bx);have HVC:=Lh (HV1.out.under HBX.out);have HBC:=Lh (HB0.out.trans (HBX.out.mono HB0.out.size));clear bx)
     | (refine Qa rfl 33 (.tmp 4) (.tmp 26) rfl (G:=w.heap.size) (off:=0) rfl (us:=bdC (k:Int) 0 13) HVC.out rfl Qv (Nat.le_refl 3) (Jn _ _ _) ?_;intro w90 ht hs;have HVD:=Lh hs;have HBD:=Lh (HBC.out.trans (ht.below HBC.out.size fun k hk e=>by omega));clear ht hs)
     | go_in)
    exact Qj 33 rfl rfl rfl HVD.out Try.underlying33 rfl Qv (Qb7.some HE.out HBD.out)
   | true =>
    rw [if_pos rfl] at ht
    have hd0:¬ d=0:=by omega
    have hdk:k≤d:=by omega
    have HFT:=Lh (fun (wx:World) (b:Below w1.heap.size w1 wx)=>(Z4 (some ⟨b0,off0,none⟩) k d (N.take k) s wx w1.heap.size (by
     have:=(HN1.out.below b).head (k:=k) (by omega)
     rwa [show (Z0 N).take k=Z0 (N.take k) by simp [Z0]] at this) (by unfold maxLen;omega):CP 34 #[.slice (some ⟨b0,off0,none⟩) k d,.string s] wx fun e w'=>e=.returned (.int .i64 (Uu (N.take k) s))∧wx=w'))
    clear htk hsb hs hu HT
    go_wp2_with (first
     | (go_at_call 45;with_reducible refine (HID.out _).mono ?_;rintro e wx ⟨rfl,bx⟩;have HBX:=Lh (bTr HB bx);have hc0:wx.cell? ⟨b0,off0+k,none⟩=some (.string s):=(World.cell?_of_block (a:=⟨b0,_,none⟩) (bx.block b0 (Nat.lt_of_lt_of_le hb0 HB.out.size))).trans hc0;clear bx)
     | go_in)
    have HBY:=Lh (HBX.out.trans ((Qi wx wx.heap.size).mono HBX.out.size))
    have HFT:=Lh (HFT.out _ HBY.out)
    have HVC:=Lh (HV1.out.under HBY.out)
    have HBC:=Lh (HB0.out.trans (HBY.out.mono HB0.out.size))
    by_cases hin:s∈N.take k
    ·rw [if_pos (Qap hin)] at ht
     have HE:Hid (R=some (k,0,7)):=Lh (by rw [← HR.out];unfold Zk;rw [HRR.out,← ht])
     rw [Yg hin] at HFT
     obtain ⟨y,hy⟩:∃ y,Zl (N.take k) s=y:=⟨_,rfl⟩
     rw [hy] at HFT
     have hge:(0:Int)≤(y:Int):=by omega
     have hge2:decide ((0:Int)≤(y:Int))=true:=by simp
     clear ht hin hy
     go_region_with (first
      | (go_at_call 34;with_reducible refine HFT.out.mono ?_;rintro e wx ⟨rfl,rfl⟩)
      | fail)
     all_goals
      go_wp2_with (first
       | (refine Qa rfl 33 (.tmp 4) (.tmp 37) rfl (G:=w.heap.size) (off:=0) rfl (us:=bdC (k:Int) 0 7) HVC.out rfl Qv (Nat.le_refl 3) (Jn _ _ _) ?_;intro w90 ht hs;have HVD:=Lh hs;have HBD:=Lh (HBC.out.trans (ht.below HBC.out.size fun k hk e=>by omega));clear ht hs)
       | go_in)
      exact Qj 33 rfl rfl rfl HVD.out Try.underlying33 rfl Qv (Qb7.some HE.out HBD.out)
    ·rw [if_neg (Qcx hin)] at ht
     rw [Y2 hin] at HFT
     have HT2:=Lh ht
     clear ht hin
     go_region_with (first
      | (go_at_call 34;with_reducible refine HFT.out.mono ?_;rintro e wx ⟨rfl,rfl⟩)
      | fail)
     all_goals
      go_wp2
      go_roundw
      case rel=>exact ⟨k+1,by go_num,hlt,HT2,HBY⟩
      case measure=>simp [intOf];omega
  ·obtain rfl:n=k:=by omega
   have ht:=HT.out
   rw [List.drop_eq_nil_of_le (by omega),sc1] at ht
   have HRA:Hid (R=match sc2 N (Qm ML) 0 with
    | some b=>some b
    | none=>sc3 (edg N (Qm ML)) (Qm ML).length N (Qm ML) 0):=Lh (by rw [← HR.out];unfold Zk;rw [HRR.out,← ht];rfl)
   obtain ⟨R2,hR2⟩:∃ R2,sc2 N (Qm ML) 0=R2:=⟨_,rfl⟩
   rw [hR2] at HRA
   have HR2:=Lh hR2
   have HR22:=Lh hR2
   clear ht HT hR2 HR HRR
   go_wp2
   go_loopw [6] (fun i wr=>∃ k:Nat,i=.int .i64 (k:Int)∧k≤n∧Hid (sc2 N ((Qm ML).drop k) k=R2)∧Hid (Below w1.heap.size w1 wr)) (fun i _=>n-(intOf i).toNat)
   case atStart=>exact ⟨0,rfl,Nat.zero_le _,HR2,HB⟩
   case round =>
    clear HR2 HB
    obtain ⟨k,rfl,hk,HT,HB⟩:=hrel
    obtain ⟨wa,hwa⟩:∃ wa,wa=wr:=⟨_,rfl⟩
    subst hwa
    by_cases hlt:k<n
    ·obtain ⟨b0,off0,q,hA0,hq,hqm,_⟩:=HL1.out.at hlt
     obtain ⟨hbi,_,_⟩:=HII.out q hqm
     have ht:=HT.out
     rw [Zm hq,sc2] at ht
     obtain ⟨Rk,hRk⟩:∃ Rk,Qe7 N [] q.1.sm.im=Rk:=⟨_,rfl⟩
     rw [hRk] at ht
     have HT2:=Lh ht
     have HRk:=Lh hRk
     have HQ:=Lh hq
     clear ht hRk hq hqm HT
     subst hA0
     go_wp2
     go_loopw [7,8] (fun hv i wr=>∃ (j:Nat) (D:List ByteArray),i=.int .i64 (j:Int)∧j≤q.1.im.length∧D.length≤j∧Hid (Qe7 N D ((q.1.im.drop j).map NmT.sn)=Rk)∧Hid (Own wr w1.heap.size 9 1 hv D.length (Z0 D))∧Hid (Below w1.heap.size w1 wr)) (fun _ i _=>q.1.im.length-(intOf i).toNat)
     case atStart=>exact ⟨0,[],rfl,Nat.zero_le _,Nat.zero_le _,HRk,Lh (Own.nil _ _ _ _ HB.out.size),HB⟩
     case round =>
      clear HRk HB
      obtain ⟨j,D,rfl,hj,hD,HX,HO,HB3⟩:=hrel
      obtain ⟨wc,hwc⟩:∃ wc,wc=wr:=⟨_,rfl⟩
      subst hwc
      obtain ⟨b1,off1,q1,hA1,hq1,_,hms,c0,_⟩:=(HL1.out.under HB3.out).at hlt
      obtain rfl:q1=q:=by have:=HQ.out;rw [this] at hq1;cases hq1;rfl
      cases hA1
      by_cases hlt3:j<q1.1.im.length
      ·obtain ⟨ib,io,ic,x,hv,hx,_,d0,d1⟩:=hms.im.nm hlt3
       rw [hv] at c0
       have hxx:=HX.out
       obtain ⟨hl2,hl3⟩:=List.getElem?_eq_some_iff.1 hx
       rw [List.drop_eq_getElem_cons hl2,hl3,List.map_cons,Qe7] at hxx
       obtain ⟨HA,hc,hhv⟩:=HO.out.form
       subst hhv
       have BA:=(Below.refl wc.heap.size wc).alloc nLe (.cells #[.string x.nm,.int .i64 x.a] 53)
       have HOA:=Lh (HO.out.alloc (.cells #[.string x.nm,.int .i64 x.a] 53))
       have HB4:=Lh (bTr HB3 BA)
       have F1:=Lh (HFIND.out _ HB4.out x.nm)
       have F2:=Lh (Z4 HA D.length hc D x.nm _ _ HOA.out.sh (by unfold maxLen;omega))
       by_cases hiN:x.nm∈N
       ·rw [if_pos (show (Zg N (NmT.sn x).1).isSome=true from Qap hiN)] at hxx
        rw [Yg hiN] at F1
        obtain ⟨yN,hyN⟩:∃ y,Zl N x.nm=y:=⟨_,rfl⟩
        rw [hyN] at F1
        have hgN:¬ (yN:Int)<0:=by omega
        by_cases hin:x.nm∈D
        ·rw [if_pos (show (Zg D (NmT.sn x).1).isSome=true from Qap hin)] at hxx
         rw [Yg hin] at F2
         have HE:Hid (R=some (k,x.a,7)):=Lh (by
          have h2:R2=some (k,x.a,7):=by rw [← HT2.out,← hxx];rfl
          rw [HRA.out,h2])
         obtain ⟨y,hy⟩:∃ y,Zl D x.nm=y:=⟨_,rfl⟩
         rw [hy] at F2
         have hge:(0:Int)≤(y:Int):=by omega
         clear hxx hx hin hiN hms hq1 hl3 hv BA hy hyN
         have HVC:=Lh (HV1.out.under HB4.out)
         have HBC:=Lh (HB0.out.trans (HB4.out.mono HB0.out.size))
         go_wp2_with (first
          | (go_at_call 34;with_reducible refine F1.out.mono ?_;rintro e wx ⟨rfl,rfl⟩)
          | (go_at_call 34;with_reducible refine F2.out.mono ?_;rintro e wx ⟨rfl,rfl⟩)
          | (refine Qa rfl 33 (.tmp 4) (.tmp 79) rfl (G:=w.heap.size) (off:=0) rfl (us:=bdC (k:Int) x.a 7) HVC.out rfl Qv (Nat.le_refl 3) (Jn _ _ _) ?_;intro w90 ht hs;have HVD:=Lh hs;have HBD:=Lh (HBC.out.trans (ht.below HBC.out.size fun k hk e=>by omega));clear ht hs)
          | go_in)
         exact Qj 33 rfl rfl rfl HVD.out Try.underlying33 rfl Qv (Qb7.some HE.out HBD.out)
        ·rw [if_neg (show ¬ (Zg D (NmT.sn x).1).isSome=true from Qcx hin)] at hxx
         rw [Y2 hin] at F2
         have HX2:=Lh (show Qe7 N (D++[x.nm]) ((q1.1.im.drop (j+1)).map NmT.sn)=Rk from hxx)
         have hown:=HOA.out
         clear hxx hx hin hiN hms hq1 hl3 hv BA HX HO hyN
         go_wp2_with (first
          | (go_at_call 34;with_reducible refine F1.out.mono ?_;rintro e wx ⟨rfl,rfl⟩)
          | (go_at_call 34;with_reducible refine F2.out.mono ?_;rintro e wx ⟨rfl,rfl⟩)
          | (at_builtin;refine Hid.out ?_)
          | go_in)
         refine Lh ?_
         refine Zd rfl (.tmp 80) (.tmp 83) 22 rfl Qic w1 _ w1.heap.size _ _ _ [.string x.nm] rfl hown (by simp [Act.eval]) rfl (by intro u hu;simp at hu;subst hu;rfl) HB4.out (by omega) (by omega) ?_
         intro v2 w2 ho2 hb2
         go_wp2
         refine ⟨⟨j+1,D++[x.nm],by go_num,hlt3,by simp;omega,HX2,Lh (by rw [List.length_append];simpa [Z0] using ho2),Lh hb2⟩,by simp [intOf];omega⟩
       ·rw [if_neg (show ¬ (Zg N (NmT.sn x).1).isSome=true from Qcx hiN)] at hxx
        rw [Y2 hiN] at F1
        have HE:Hid (R=some (k,x.a,13)):=Lh (by
         have h2:R2=some (k,x.a,13):=by rw [← HT2.out,← hxx];rfl
         rw [HRA.out,h2])
        clear hxx hx hiN hms hq1 hl3 hv BA F2
        have HVC:=Lh (HV1.out.under HB4.out)
        have HBC:=Lh (HB0.out.trans (HB4.out.mono HB0.out.size))
        go_wp2_with (first
         | (go_at_call 34;with_reducible refine F1.out.mono ?_;rintro e wx ⟨rfl,rfl⟩)
         | (refine Qa rfl 33 (.tmp 4) (.tmp 70) rfl (G:=w.heap.size) (off:=0) rfl (us:=bdC (k:Int) x.a 13) HVC.out rfl Qv (Nat.le_refl 3) (Jn _ _ _) ?_;intro w90 ht hs;have HVD:=Lh hs;have HBD:=Lh (HBC.out.trans (ht.below HBC.out.size fun k hk e=>by omega));clear ht hs)
         | go_in)
        exact Qj 33 rfl rfl rfl HVD.out Try.underlying33 rfl Qv (Qb7.some HE.out HBD.out)
      ·obtain rfl:j=q1.1.im.length:=by omega
       have hxe:=HX.out
       rw [List.drop_length,List.map_nil,Qe7] at hxe
       have HT3:=Lh (show sc2 N ((Qm ML).drop (k+1)) (k+1)=R2 by
        have:=HT2.out
        rw [← hxe] at this
        exact this)
       obtain ⟨VA,vc,hvv,_⟩:=hms.im
       rw [hvv] at c0
       clear hxe HX hms hvv hq1 HT2
       go_wp2
       go_roundw
       case rel=>exact ⟨k+1,by go_num,hlt,HT3,HB3⟩
       case measure=>simp [intOf];omega
    ·obtain rfl:k=n:=by omega
     have ht:=HT.out
     rw [List.drop_eq_nil_of_le (by rw [Qw,HLn.out];exact Nat.le_refl _),sc2] at ht
     have HIM:Hid (ImIn N ML):=Lh (by
      have h2:=HR22.out
      rw [← ht] at h2
      have h3:=Qjn h2
      intro q hq
      exact ⟨(HII.out q hq).1,fun x hx=>h3 q.1.sm (List.mem_map.2 ⟨q,hq,rfl⟩) x.sn (List.mem_map.2 ⟨x,hx,rfl⟩)⟩)
     have HRB:Hid (sc3 (edg N (Qm ML)) k N (Qm ML) 0=R):=Lh (by rw [HRA.out,← ht,Qw,HLn.out])
     clear ht HT HRA HR22
     go_wp2
     go_loopw [10] (fun i wr=>∃ k2:Nat,i=.int .i64 (k2:Int)∧k2≤k∧Hid (sc3 (edg N (Qm ML)) k N ((Qm ML).drop k2) k2=R)∧Hid (Below w1.heap.size w1 wr)) (fun i _=>k-(intOf i).toNat)
     case atStart=>exact ⟨0,rfl,Nat.zero_le _,HRB,HB⟩
     case round =>
      clear HRB HB
      obtain ⟨k2,rfl,hk2,HT,HB⟩:=hrel
      obtain ⟨wa,hwa⟩:∃ wa,wa=wr:=⟨_,rfl⟩
      subst hwa
      by_cases hlt:k2<k
      ·obtain ⟨b0,off0,q,hA0,hq,hqm,_⟩:=HL1.out.at hlt
       obtain ⟨hbi,hbm⟩:=HIM.out q hqm
       have HBM:=Lh hbm
       have ht:=HT.out
       rw [Zm hq,sc3] at ht
       obtain ⟨Rk,hRk⟩:∃ Rk,Qfk (edg N (Qm ML)) k N k2 q.1.sm.im=Rk:=⟨_,rfl⟩
       rw [hRk] at ht
       have HT2:=Lh ht
       have HRk:=Lh hRk
       have HQ:=Lh hq
       clear ht hRk hq hqm HT hbm
       subst hA0
       go_wp2
       go_loopw [11] (fun i wr=>∃ j:Nat,i=.int .i64 (j:Int)∧j≤q.1.im.length∧Hid (Qfk (edg N (Qm ML)) k N k2 ((q.1.im.drop j).map NmT.sn)=Rk)∧Hid (Below w1.heap.size w1 wr)) (fun i _=>q.1.im.length-(intOf i).toNat)
       case atStart=>exact ⟨0,rfl,Nat.zero_le _,HRk,HB⟩
       case round =>
        clear HRk HB
        obtain ⟨j,rfl,hj,HX,HB3⟩:=hrel
        obtain ⟨wc,hwc⟩:∃ wc,wc=wr:=⟨_,rfl⟩
        subst hwc
        obtain ⟨b1,off1,q1,hA1,hq1,_,hms,c0,_⟩:=(HL1.out.under HB3.out).at hlt
        obtain rfl:q1=q:=by have:=HQ.out;rw [this] at hq1;cases hq1;rfl
        cases hA1
        by_cases hlt3:j<q1.1.im.length
        ·obtain ⟨ib,io,ic,x,hv,hx,hxm,d0,d1⟩:=hms.im.nm hlt3
         rw [hv] at c0
         have hxx:=HX.out
         obtain ⟨hl2,hl3⟩:=List.getElem?_eq_some_iff.1 hx
         rw [List.drop_eq_getElem_cons hl2,hl3,List.map_cons,Qfk] at hxx
         have BA:=(Below.refl wc.heap.size wc).alloc nLe (.cells #[.string x.nm,.int .i64 x.a] 53)
         have HB4:=Lh (bTr HB3 BA)
         have hiN:x.nm∈N:=HBM.out x hxm
         have F1:=Lh (HFIND.out _ HB4.out x.nm)
         rw [Yg hiN] at F1
         have hyl:Zl N x.nm<k:=by rw [← HNm.out];exact K3 hiN
         have HLD:=Lh (Qku (some ⟨b0,off0,none⟩) B k k c d ML N (Zl N x.nm) k2 S0 _ (HL1.out.under HB4.out) hn ((HN1.out.below HB4.out).more HB4.out.size) rfl hyl hlt HIM.out)
         obtain ⟨E,hE⟩:∃ E,edg N (Qm ML)=E:=⟨_,rfl⟩
         rw [hE] at HLD hxx
         have hxx2:(if Jb E (Zl N x.nm) k k2=true then some (x.a,(14:Int)) else Qfk E k N k2 ((q1.1.im.drop (j+1)).map NmT.sn))=Rk:=hxx
         obtain ⟨yN,hyN⟩:∃ y,Zl N x.nm=y:=⟨_,rfl⟩
         rw [hyN] at F1 HLD hxx2
         cases hg:Jb E yN k k2 with
         | true =>
          rw [hg] at HLD
          rw [hg,if_pos rfl] at hxx2
          have HE:Hid (R=some (k2,x.a,14)):=Lh (by rw [← HT2.out,← hxx2])
          clear hxx hx hiN hms hq1 hl3 hv BA hyN hE hg hxx2 hyl
          go_wp2_with (first
           | (go_at_call 34;with_reducible refine F1.out.mono ?_;rintro e wx ⟨rfl,rfl⟩)
           | (go_at_call 46;with_reducible refine HLD.out.mono ?_;rintro e wx ⟨rfl,bx⟩;have HBX:=Lh (bTr HB4 bx);have HVC:=Lh (HV1.out.under HBX.out);have HBC:=Lh (HB0.out.trans (HBX.out.mono HB0.out.size));have d2:=((Var.new wc [.string x.nm,.int .i64 x.a] 53 (c:=#[.string x.nm,.int .i64 x.a]) rfl).under bx).at 1 (v:=.int .i64 x.a) rfl;clear bx)
           | (refine Qa rfl 33 (.tmp 4) (.tmp 120) rfl (G:=w.heap.size) (off:=0) rfl (us:=bdC (k2:Int) x.a 14) HVC.out rfl Qv (Nat.le_refl 3) (Jn _ _ _) ?_;intro w90 ht hs;have HVD:=Lh hs;have HBD:=Lh (HBC.out.trans (ht.below HBC.out.size fun k hk e=>by omega));clear ht hs)
           | go_in)
          exact Qj 33 rfl rfl rfl HVD.out Try.underlying33 rfl Qv (Qb7.some HE.out HBD.out)
         | false =>
          rw [hg] at HLD
          rw [hg,if_neg (by decide),← hE] at hxx2
          have HX2:=Lh hxx2
          clear hxx hx hiN hms hq1 hl3 hv BA hyN hE hg hxx2 hyl HX
          go_wp2_with (first
           | (go_at_call 34;with_reducible refine F1.out.mono ?_;rintro e wx ⟨rfl,rfl⟩)
           | (go_at_call 46;with_reducible refine HLD.out.mono ?_;rintro e wx ⟨rfl,bx⟩;have HBX:=Lh (bTr HB4 bx);clear bx)
           | go_in)
          go_roundw
          case rel=>exact ⟨j+1,by go_num,hlt3,HX2,HBX⟩
          case measure=>simp [intOf];omega
        ·obtain rfl:j=q1.1.im.length:=by omega
         have hxe:=HX.out
         rw [List.drop_length,List.map_nil,Qfk] at hxe
         have HT3:=Lh (show sc3 (edg N (Qm ML)) k N ((Qm ML).drop (k2+1)) (k2+1)=R by
          have:=HT2.out
          rw [← hxe] at this
          exact this)
         obtain ⟨VA,vc,hvv,_⟩:=hms.im
         rw [hvv] at c0
         clear hxe HX hms hvv hq1 HT2
         go_wp2
         go_roundw
         case rel=>exact ⟨k2+1,by go_num,hlt,HT3,HB3⟩
         case measure=>simp [intOf];omega
      ·obtain rfl:k2=k:=by omega
       have ht:=HT.out
       rw [List.drop_eq_nil_of_le (by rw [Qw,HLn.out];exact Nat.le_refl _),sc3] at ht
       have HE:=Lh ht.symm
       clear ht
       have HVC:=Lh (HV1.out.under HB.out)
       have HBC:=Lh (HB0.out.trans (HB.out.mono HB0.out.size))
       go_wp2_with (first
        | (refine Qa rfl 33 (.tmp 4) (.tmp 121) rfl (G:=w.heap.size) (off:=0) rfl (us:=bdC 0 0 0) HVC.out rfl Qv (Nat.le_refl 3) (Jn _ _ _) ?_;intro w90 ht hs;have HVD:=Lh hs;have HBD:=Lh (HBC.out.trans (ht.below HBC.out.size fun k hk e=>by omega));clear ht hs)
        | go_in)
       exact Qj 33 rfl rfl rfl HVD.out Try.underlying33 rfl Qv (Qb7.none HE.out HBD.out)
end Go.Proofs.Ytjoclbeoafeebaa
