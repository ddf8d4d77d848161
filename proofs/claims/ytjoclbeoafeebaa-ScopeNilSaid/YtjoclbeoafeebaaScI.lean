import Derived.Test.YtjoclbeoafeebaaSq
import Derived.Test.YtjoclbeoafeebaaScL
set_option maxHeartbeats 3200000
set_option maxRecDepth 100000
namespace Go.Proofs.Ytjoclbeoafeebaa
set_option linter.unusedVariables false
set_option linter.unusedSimpArgs false
open Go.RowKit
theorem Qic:Kq Try.prog 22 9 1 16:=Kq.mk (z:=.string ⟨#[]⟩) Try.underlying22 (by kernel_rfl) rfl (by omega)
theorem Qv:(Try.prog.info? 33).map (·.size)=some 3:=by kernel_rfl
theorem Qjp(w:World):(zeroValue 33).run Try.prog w=.ok (.agg #[.int .i64 0,.int .i64 0,.int .i64 0]) w:=by kernel_rfl
theorem Qba(w:World):(zeroValue 53).run Try.prog w=.ok (.agg #[.string ⟨#[]⟩,.int .i64 0]) w:=by kernel_rfl
theorem Qe9(w:World):(zeroValue 75).run Try.prog w=.ok (.agg #[.string ⟨#[]⟩,.int .i64 0,.int .i64 0,.bool false,.bool false,.string ⟨#[]⟩,.int .i64 0,.int .i64 0]) w:=by kernel_rfl
def bdC(i a e:Int):List Value:=[.int .i64 i,.int .i64 a,.int .i64 e]
theorem Jn(i a e:Int):∀ u∈bdC i a e,u.oneCell'=true:=by
 intro u hu;simp [bdC] at hu;rcases hu with rfl | rfl | rfl <;> rfl
def Qb7(z:Option Qb6)(w:World)(e:Ending)(w':World):Prop:=e=.returned (.agg #[.int .i64 (Uq z).1,.int .i64 (Uq z).2.1,.int .i64 (Uq z).2.2])∧Below w.heap.size w w'
theorem Qb7.some{w w':World}{i:Nat}{a e:Int}{z:Option Qb6}(hz:z=some (i,a,e))(hb:Below w.heap.size w w'):Qb7 z w (.returned (.agg (bdC (i:Int) a e).toArray)) w':=by
 subst hz
 exact ⟨rfl,hb⟩
theorem Qb7.none{w w':World}{z:Option Qb6}(hz:z=none)(hb:Below w.heap.size w w'):Qb7 z w (.returned (.agg (bdC 0 0 0).toArray)) w':=by
 subst hz
 exact ⟨rfl,hb⟩
theorem vrs_at:∀ {L:List VrT} {k:Nat} {x:VrT} {j:Nat} {u:Value},L[k]?=some x→(vrC x)[j]?=some u→(vrs L)[k*8+j]?=some u
 | [],k,q,j,u,h,_=>by cases h
 | a::L,0,q,j,u,h,hu=>by
  cases h
  have hj:j<8:=(List.getElem?_eq_some_iff.1 hu).1
  show (vrC a++vrs L)[0*8+j]?=some u
  rw [List.getElem?_append_left (by show 0*8+j<8;omega),show 0*8+j=j by omega]
  exact hu
 | a::L,k+1,q,j,u,h,hu=>by
  have:=vrs_at (L:=L) (k:=k) (x:=q) (by simpa using h) hu
  show (vrC a++vrs L)[(k+1)*8+j]?=some u
  rw [List.getElem?_append_right (by show 8≤(k+1)*8+j;omega),show (k+1)*8+j-(vrC a).length=k*8+j by show (k+1)*8+j-8=_;omega]
  exact this
theorem fns_at:∀ {L:List (FnT×FnV)} {k:Nat} {x:FnT×FnV} {j:Nat} {u:Value},L[k]?=some x→(fnC x.1 x.2)[j]?=some u→(fns L)[k*18+j]?=some u
 | [],k,q,j,u,h,_=>by cases h
 | a::L,0,q,j,u,h,hu=>by
  cases h
  have hj:j<18:=(List.getElem?_eq_some_iff.1 hu).1
  show (fnC a.1 a.2++fns L)[0*18+j]?=some u
  rw [List.getElem?_append_left (by show 0*18+j<18;omega),show 0*18+j=j by omega]
  exact hu
 | a::L,k+1,q,j,u,h,hu=>by
  have:=fns_at (L:=L) (k:=k) (x:=q) (by simpa using h) hu
  show (fnC a.1 a.2++fns L)[(k+1)*18+j]?=some u
  rw [List.getElem?_append_right (by show 18≤(k+1)*18+j;omega),show (k+1)*18+j-(fnC a.1 a.2).length=k*18+j by show (k+1)*18+j-18=_;omega]
  exact this
theorem ShV.vr{w:World}{S:Nat→Prop}{v:Value}{L:List VrT}(h:ShV w S v L.length (vrs L)){k:Nat}(hk:k<L.length):∃ b off c x,v=.slice (some ⟨b,off,none⟩) L.length c∧L[k]?=some x∧w.cell? ⟨b,off+k*8,none⟩=some (.string x.nm)∧w.rangeAt b (off+k*8) (vrC x):=by
 obtain ⟨A,c,e,_,hr⟩:=h
 obtain ⟨b,off,rfl,_,_,hc⟩:=hr (by omega)
 have hg:L[k]?=some L[k]:=List.getElem?_eq_getElem hk
 have hcc:w.rangeAt b (off+k*8) (vrC L[k]):=fun j u hu=>by
  have:=hc _ _ (vrs_at hg hu)
  rwa [← Nat.add_assoc] at this
 exact ⟨b,off,c,L[k],e,hg,hcc 0 _ rfl,hcc⟩
theorem ShV.fn{w:World}{S:Nat→Prop}{v:Value}{L:List (FnT×FnV)}(h:ShV w S v L.length (fns L)){k:Nat}(hk:k<L.length):∃ b off c x,v=.slice (some ⟨b,off,none⟩) L.length c∧L[k]?=some x∧w.cell? ⟨b,off+k*18,none⟩=some (.string x.1.nm)∧w.rangeAt b (off+k*18) (fnC x.1 x.2):=by
 obtain ⟨A,c,e,_,hr⟩:=h
 obtain ⟨b,off,rfl,_,_,hc⟩:=hr (by omega)
 have hg:L[k]?=some L[k]:=List.getElem?_eq_getElem hk
 have hcc:w.rangeAt b (off+k*18) (fnC L[k].1 L[k].2):=fun j u hu=>by
  have:=hc _ _ (fns_at hg hu)
  rwa [← Nat.add_assoc] at this
 exact ⟨b,off,c,L[k],e,hg,hcc 0 _ rfl,hcc⟩
theorem FnS.ones{w:World}{S:Nat→Prop}{x:FnT}{v:FnV}(h:FnS w S x v):v.ps.oneCell'=true∧v.rl.oneCell'=true∧v.bd.oneCell'=true∧v.re.oneCell'=true:=⟨h.ps.one,h.rl.one,h.bd.one,h.re.one⟩
def MoBd(ML:List OMo):Prop:=∀ q∈ML,q.1.im.length≤1000000∧q.1.va.length≤1000000∧q.1.fn.length≤1000000
theorem Qap{D:List ByteArray}{s:ByteArray}(h:s∈D):(Zg D s).isSome=true:=Qy.2 h
theorem Qcx{D:List ByteArray}{s:ByteArray}(h:s∉D):¬ (Zg D s).isSome=true:=fun e=>h (Qy.1 e)
theorem Uf(A:Option Addr)(n c:Nat)(ML:List OMo)(S0:Nat→Prop)(w:World)(hL:Y4 w S0 A n ML)(hn:n≤1000000)(hI:MoBd ML) :
  CP 30 #[.slice A n c] w (Qb7 (sc5 (Qm ML) 0) w):=by
 have hzb:=Qjp
 have hzn:=Qba
 have hzv:=Qe9
 have hzf:=Qf7
 have HLn:=Lh hL.len
 have HII:=Lh hI
 obtain ⟨R,hR⟩:∃ R,sc5 (Qm ML) 0=R:=⟨_,rfl⟩
 rw [hR]
 have HR:=Lh hR
 have b0:Below w.heap.size w (w.alloc (.cells #[.int .i64 0,.int .i64 0,.int .i64 0] 33)):=bAl
 have HB0:=Lh b0
 have HV1:=Lh (Var.new w (bdC 0 0 0) 33 (c:=#[.int .i64 0,.int .i64 0,.int .i64 0]) rfl)
 have HL1:=Lh (hL.under b0)
 clear hR hL hI b0
 go_enter Try.func30,Try.ntmps30
 go_wp2
 obtain ⟨w1,hw1⟩:∃ w1,w.alloc (.cells #[.int .i64 0,.int .i64 0,.int .i64 0] 33)=w1:=⟨_,rfl⟩
 rw [hw1] at HB0 HV1 HL1
 rw [hw1]
 clear hw1
 go_loopw [3] (fun i wr=>∃ k:Nat,i=.int .i64 (k:Int)∧k≤n∧Hid (sc5 ((Qm ML).drop k) k=R)∧Hid (Below w1.heap.size w1 wr)) (fun i _=>n-(intOf i).toNat)
 case atStart=>exact ⟨0,rfl,Nat.zero_le _,HR,Lh bRf⟩
 case round =>
  obtain ⟨k,rfl,hk,HT,HB⟩:=hrel
  obtain ⟨wa,hwa⟩:∃ wa,wa=wr:=⟨_,rfl⟩
  subst hwa
  by_cases hlt:k<n
  ·obtain ⟨b0,off0,q,hA0,hq,hqm,_⟩:=HL1.out.at hlt
   have hbd:=HII.out q hqm
   have ht:=HT.out
   rw [Zm hq,sc5] at ht
   obtain ⟨R1,hR1⟩:∃ R1,Qbr [] (q.1.sm.vs++q.1.sm.fs)=R1:=⟨_,rfl⟩
   rw [hR1] at ht
   have HT2:=Lh ht
   have HR1:=Lh hR1
   have HQ:=Lh hq
   obtain ⟨hbi,hbv,hbf⟩:=hbd
   clear ht hR1 hq hqm HT
   subst hA0
   go_wp2
   go_loopw [4,5] (fun hv i wr=>∃ (j:Nat) (D:List ByteArray),i=.int .i64 (j:Int)∧j≤q.1.va.length∧D.length≤j∧Hid (Qbr D ((q.1.va.drop j).map VrT.sn++q.1.sm.fs)=R1)∧Hid (Own wr w1.heap.size 9 1 hv D.length (Z0 D))∧Hid (Below w1.heap.size w1 wr)) (fun _ i _=>q.1.va.length-(intOf i).toNat)
   case atStart=>exact ⟨0,[],rfl,Nat.zero_le _,Nat.zero_le _,HR1,Lh (Own.nil _ _ _ _ HB.out.size),HB⟩
   case round =>
    obtain ⟨j,D,rfl,hj,hD,HX,HO,HB3⟩:=hrel
    obtain ⟨wc,hwc⟩:∃ wc,wc=wr:=⟨_,rfl⟩
    subst hwc
    obtain ⟨b1,off1,q1,hA1,hq1,_,hms,_,_,_,c5,_⟩:=(HL1.out.under HB3.out).at hlt
    obtain rfl:q1=q:=by have:=HQ.out;rw [this] at hq1;cases hq1;rfl
    cases hA1
    by_cases hlt3:j<q1.1.va.length
    ·obtain ⟨ib,io,ic,x,hv,hx,_,hrg⟩:=hms.va.vr hlt3
     have hx0:=hrg 0 _ rfl
     have hx1:=hrg 1 _ rfl
     have hx2:=hrg 2 _ rfl
     have hx3:=hrg 3 _ rfl
     have hx4:=hrg 4 _ rfl
     have hx5:=hrg 5 _ rfl
     have hx6:=hrg 6 _ rfl
     have hx7:=hrg 7 _ rfl
     rw [Nat.add_zero] at hx0
     rw [hv] at c5
     have hxx:=HX.out
     obtain ⟨hl2,hl3⟩:=List.getElem?_eq_some_iff.1 hx
     rw [List.drop_eq_getElem_cons hl2,hl3,List.map_cons,List.cons_append,Qbr] at hxx
     obtain ⟨HA,hc,hhv⟩:=HO.out.form
     subst hhv
     have BA:=(Below.refl wc.heap.size wc).alloc nLe (.cells #[.string x.nm,.int .i64 x.a,.int .i64 x.ty,.bool x.an.so,.bool x.an.lk,.string x.an.lb,.int .i64 x.an.fr,.int .i64 x.an.to] 75)
     have HOA:=Lh (HO.out.alloc (.cells #[.string x.nm,.int .i64 x.a,.int .i64 x.ty,.bool x.an.so,.bool x.an.lk,.string x.an.lb,.int .i64 x.an.fr,.int .i64 x.an.to] 75))
     have HB4:=Lh (bTr HB3 BA)
     have HF:=Lh (Z4 HA D.length hc D x.nm _ _ HOA.out.sh (by unfold maxLen;omega))
     by_cases hin:x.nm∈D
     ·rw [if_pos (show (Zg D (VrT.sn x).1).isSome=true from Qap hin)] at hxx
      rw [Yg hin] at HF
      have HE:Hid (R=some (k,x.a,7)):=Lh (by rw [← HT2.out,← hxx];rfl)
      have HVC:=Lh (HV1.out.under HB4.out)
      have HBC:=Lh (HB0.out.trans (HB4.out.mono HB0.out.size))
      have hge:(0:Int)≤(Zl D x.nm:Int):=by omega
      obtain ⟨y,hy⟩:∃ y,Zl D x.nm=y:=⟨_,rfl⟩
      rw [hy] at HF hge
      clear hxx hx hin hms hq1 hrg hl3 hv BA hy
      go_wp2_with (first
       | (go_at_call 34;with_reducible refine HF.out.mono ?_;rintro e wx ⟨rfl,rfl⟩)
       | (refine Qa rfl 33 (.tmp 2) (.tmp 41) rfl (G:=w.heap.size) (off:=0) rfl (us:=bdC (k:Int) x.a 7) HVC.out rfl Qv (Nat.le_refl 3) (Jn _ _ _) ?_;intro w90 ht hs;have HVD:=Lh hs;have HBD:=Lh (HBC.out.trans (ht.below HBC.out.size fun k hk e=>by omega));clear ht hs)
       | go_in)
      exact Qj 33 rfl rfl rfl HVD.out Try.underlying33 rfl Qv (Qb7.some HE.out HBD.out)
     ·rw [if_neg (show ¬ (Zg D (VrT.sn x).1).isSome=true from Qcx hin)] at hxx
      rw [Y2 hin] at HF
      have HX2:=Lh (show Qbr (D++[x.nm]) ((q1.1.va.drop (j+1)).map VrT.sn++q1.1.sm.fs)=R1 from hxx)
      have hown:=HOA.out
      clear hxx hx hin hms hq1 hrg hl3 hv BA HX HO
      go_wp2_with (first
       | (go_at_call 34;with_reducible refine HF.out.mono ?_;rintro e wx ⟨rfl,rfl⟩)
       | (at_builtin;refine Hid.out ?_)
       | go_in)
      refine Lh ?_
      refine Zd rfl (.tmp 42) (.tmp 45) 22 rfl Qic w1 _ w1.heap.size _ _ _ [.string x.nm] rfl hown (by simp [Act.eval]) rfl (by intro u hu;simp at hu;subst hu;rfl) HB4.out (by omega) (by omega) ?_
      intro v2 w2 ho2 hb2
      go_wp2
      refine ⟨⟨j+1,D++[x.nm],by go_num,hlt3,by simp;omega,HX2,Lh (by rw [List.length_append];simpa [Z0] using ho2),Lh hb2⟩,by simp [intOf];omega⟩
    ·obtain rfl:j=q1.1.va.length:=by omega
     have hxe:=HX.out
     rw [List.drop_length,List.map_nil,List.nil_append] at hxe
     have HXE:=Lh (show Qbr D ((q1.1.fn.drop 0).map FnT.sn)=R1 from hxe)
     have HOE:=HO
     have hDE:=hD
     obtain ⟨VA,vc,hvv,_⟩:=hms.va
     rw [hvv] at c5
     clear HX hxe hms hq1 HO hD hvv
     go_wp2
     clear c5
     go_loopw [4,7] (fun hv i wr=>∃ (j:Nat) (D:List ByteArray),i=.int .i64 (j:Int)∧j≤q1.1.fn.length∧D.length≤q1.1.va.length+j∧Hid (Qbr D ((q1.1.fn.drop j).map FnT.sn)=R1)∧Hid (Own wr w1.heap.size 9 1 hv D.length (Z0 D))∧Hid (Below w1.heap.size w1 wr)) (fun _ i _=>q1.1.fn.length-(intOf i).toNat)
     case atStart=>exact ⟨0,D,rfl,Nat.zero_le _,by omega,HXE,HOE,HB3⟩
     case round =>
      clear HXE HOE hDE HB3
      obtain ⟨j,D,rfl,hj,hD,HX,HO,HB3⟩:=hrel
      obtain ⟨wd,hwd⟩:∃ wd,wd=wr:=⟨_,rfl⟩
      subst hwd
      obtain ⟨b1,off1,q2,hA1,hq1,_,hms,_,_,_,_,c6⟩:=(HL1.out.under HB3.out).at hlt
      obtain rfl:q2=q1:=by have:=HQ.out;rw [this] at hq1;cases hq1;rfl
      cases hA1
      obtain ⟨FL,hFL,hFV,hFS⟩:=hms.fn
      have hfl:FL.length=q2.1.fn.length:=by rw [← hFL,List.length_map]
      by_cases hlt3:j<q2.1.fn.length
      ·obtain ⟨ib,io,ic,x,hv,hx,_,hrg⟩:=hFV.fn (show j<FL.length by omega)
       have hfs:=hFS x (List.mem_of_getElem? hx)
       have HRG:=Lh hrg
       have HON:=Lh hfs.one
       rw [hv] at c6
       have hxx:=HX.out
       have hxg:q2.1.fn[j]?=some x.1:=by rw [← hFL,List.getElem?_map,hx];rfl
       obtain ⟨hl2,hl3⟩:=List.getElem?_eq_some_iff.1 hxg
       rw [List.drop_eq_getElem_cons hl2,hl3,List.map_cons,Qbr] at hxx
       obtain ⟨HA,hc,hhv⟩:=HO.out.form
       subst hhv
       have HFN:=Lh (fun (wz:World) (ho:Own wz w1.heap.size 9 1 (.slice HA D.length hc) D.length (Z0 D))=>Z4 HA D.length hc D x.1.nm wz _ ho.sh (by unfold maxLen;omega))
       rw [hfl] at c6
       by_cases hin:x.1.nm∈D
       ·rw [if_pos (show (Zg D (FnT.sn x.1).1).isSome=true from Qap hin)] at hxx
        rw [Yg hin] at HFN
        have HE:Hid (R=some (k,x.1.a,7)):=Lh (by rw [← HT2.out,← hxx];rfl)
        have hge:(0:Int)≤(Zl D x.1.nm:Int):=by omega
        obtain ⟨y,hy⟩:∃ y,Zl D x.1.nm=y:=⟨_,rfl⟩
        rw [hy] at HFN hge
        clear hxx hx hin hms hq1 hrg hl3 hv hy hfs hFS hFL hFV hxg
        go_wp2_with (first
         | (refine Qb rfl 83 (.tmp 63) rfl ib (io+j*18) rfl (fnC x.1 x.2) HRG.out Try.underlying83 rfl Zr ?_)
         | (refine Qa rfl 83 (.tmp 8) (.tmp 64) rfl (G:=wd.heap.size) (off:=0) rfl (us:=fnC x.1 x.2) (Var.new wd (fnC FnT.nul FnV.nul) 83 (c:=#[.string ⟨#[]⟩,.int .i64 0,.slice none 0 0,.int .i64 0,.bool false,.bool false,.string ⟨#[]⟩,.int .i64 0,.int .i64 0,.bool false,.slice none 0 0,.slice none 0 0,.int .i64 0,.int .i64 0,.int .i64 0,.string ⟨#[]⟩,.string ⟨#[]⟩,.slice none 0 0]) rfl) rfl Zr (Nat.le_refl 18) HON.out ?_;intro w6 ht hs;have ta:=Tn.alloc (fun k=>k=wd.heap.size) wd (.cells #[.string ⟨#[]⟩,.int .i64 0,.slice none 0 0,.int .i64 0,.bool false,.bool false,.string ⟨#[]⟩,.int .i64 0,.int .i64 0,.bool false,.slice none 0 0,.slice none 0 0,.int .i64 0,.int .i64 0,.int .i64 0,.string ⟨#[]⟩,.string ⟨#[]⟩,.slice none 0 0] 83);have tb:=ta.trans ht;have b2:=tb.below nLe (by intro k hk e;omega);have HO6:=Lh (HO.out.below b2);have HB6:=Lh (bTr HB3 b2);have k0:w6.cell? ⟨wd.heap.size,0,none⟩=some (.string x.1.nm):=hs.at 0 rfl;have k1:w6.cell? ⟨wd.heap.size,1,none⟩=some (.int .i64 x.1.a):=hs.at 1 rfl;have HF:=Lh (HFN.out _ HO6.out);have HVC:=Lh (HV1.out.under HB6.out);have HBC:=Lh (HB0.out.trans (HB6.out.mono HB0.out.size));clear ht hs ta tb b2)
         | (go_at_call 34;with_reducible refine HF.out.mono ?_;rintro e wx ⟨rfl,rfl⟩)
         | (refine Qa rfl 33 (.tmp 2) (.tmp 73) rfl (G:=w.heap.size) (off:=0) rfl (us:=bdC (k:Int) x.1.a 7) HVC.out rfl Qv (Nat.le_refl 3) (Jn _ _ _) ?_;intro w90 ht hs;have HVD:=Lh hs;have HBD:=Lh (HBC.out.trans (ht.below HBC.out.size fun k hk e=>by omega));clear ht hs)
         | go_in)
        exact Qj 33 rfl rfl rfl HVD.out Try.underlying33 rfl Qv (Qb7.some HE.out HBD.out)
       ·rw [if_neg (show ¬ (Zg D (FnT.sn x.1).1).isSome=true from Qcx hin)] at hxx
        rw [Y2 hin] at HFN
        have HX2:=Lh (show Qbr (D++[x.1.nm]) ((q2.1.fn.drop (j+1)).map FnT.sn)=R1 from hxx)
        clear hxx hx hin hms hq1 hrg hl3 hv HX hfs hFS hFL hFV hxg
        go_wp2_with (first
         | (refine Qb rfl 83 (.tmp 63) rfl ib (io+j*18) rfl (fnC x.1 x.2) HRG.out Try.underlying83 rfl Zr ?_)
         | (refine Qa rfl 83 (.tmp 8) (.tmp 64) rfl (G:=wd.heap.size) (off:=0) rfl (us:=fnC x.1 x.2) (Var.new wd (fnC FnT.nul FnV.nul) 83 (c:=#[.string ⟨#[]⟩,.int .i64 0,.slice none 0 0,.int .i64 0,.bool false,.bool false,.string ⟨#[]⟩,.int .i64 0,.int .i64 0,.bool false,.slice none 0 0,.slice none 0 0,.int .i64 0,.int .i64 0,.int .i64 0,.string ⟨#[]⟩,.string ⟨#[]⟩,.slice none 0 0]) rfl) rfl Zr (Nat.le_refl 18) HON.out ?_;intro w6 ht hs;have ta:=Tn.alloc (fun k=>k=wd.heap.size) wd (.cells #[.string ⟨#[]⟩,.int .i64 0,.slice none 0 0,.int .i64 0,.bool false,.bool false,.string ⟨#[]⟩,.int .i64 0,.int .i64 0,.bool false,.slice none 0 0,.slice none 0 0,.int .i64 0,.int .i64 0,.int .i64 0,.string ⟨#[]⟩,.string ⟨#[]⟩,.slice none 0 0] 83);have tb:=ta.trans ht;have b2:=tb.below nLe (by intro k hk e;omega);have HO6:=Lh (HO.out.below b2);have HB6:=Lh (bTr HB3 b2);have k0:w6.cell? ⟨wd.heap.size,0,none⟩=some (.string x.1.nm):=hs.at 0 rfl;have k1:w6.cell? ⟨wd.heap.size,1,none⟩=some (.int .i64 x.1.a):=hs.at 1 rfl;have HF:=Lh (HFN.out _ HO6.out);have HVC:=Lh (HV1.out.under HB6.out);have HBC:=Lh (HB0.out.trans (HB6.out.mono HB0.out.size));clear ht hs ta tb b2)
         | (go_at_call 34;with_reducible refine HF.out.mono ?_;rintro e wx ⟨rfl,rfl⟩)
         | (at_builtin;refine Hid.out ?_)
         | go_in)
        refine Lh ?_
        refine Zd rfl (.tmp 74) (.tmp 77) 22 rfl Qic w1 _ w1.heap.size _ _ _ [.string x.1.nm] rfl HO6.out (by simp [Act.eval]) rfl (by intro u hu;simp at hu;subst hu;rfl) HB6.out (by omega) (by omega) ?_
        intro v2 w2 ho2 hb2
        go_wp2
        refine ⟨⟨j+1,D++[x.1.nm],by go_num,hlt3,by simp;omega,HX2,Lh (by rw [List.length_append];simpa [Z0] using ho2),Lh hb2⟩,by simp [intOf];omega⟩
      ·obtain rfl:j=q2.1.fn.length:=by omega
       have hxe:=HX.out
       rw [List.drop_length,List.map_nil,Qbr] at hxe
       have HT3:=Lh (show sc5 ((Qm ML).drop (k+1)) (k+1)=R by
        have:=HT2.out
        rw [← hxe] at this
        exact this)
       obtain ⟨VA,vc,hvv,_⟩:=hFV
       rw [hvv,hfl] at c6
       clear hxe HX hms hFS hFL hvv hq1 HT2
       go_wp2
       go_roundw
       case rel=>exact ⟨k+1,by go_num,hlt,HT3,HB3⟩
       case measure=>simp [intOf];omega
  ·obtain rfl:k=n:=by omega
   have ht:=HT.out
   rw [List.drop_eq_nil_of_le (by rw [Qw,HLn.out];exact Nat.le_refl _),sc5] at ht
   have HE:=Lh ht.symm
   have HVC:=Lh (HV1.out.under HB.out)
   have HBC:=Lh (HB0.out.trans (HB.out.mono HB0.out.size))
   clear ht
   go_wp2_with (first
    | (refine Qa rfl 33 (.tmp 2) (.tmp 79) rfl (G:=w.heap.size) (off:=0) rfl (us:=bdC 0 0 0) HVC.out rfl Qv (Nat.le_refl 3) (Jn _ _ _) ?_;intro w90 ht hs;have HVD:=Lh hs;have HBD:=Lh (HBC.out.trans (ht.below HBC.out.size fun k hk e=>by omega));clear ht hs)
    | go_in)
   exact Qj 33 rfl rfl rfl HVD.out Try.underlying33 rfl Qv (Qb7.none HE.out HBD.out)
end Go.Proofs.Ytjoclbeoafeebaa
