import Derived.Test.YtjoclbeoafeebaaSq
import Derived.Test.YtjoclbeoafeebaaSkA
import Derived.Test.YtjoclbeoafeebaaScV
import Derived.Lib.Bytealg
import Derived.Lib.Strings
import Derived.Lib.CutLaws
import Derived.Laws.Strings3
import Derived.Test.YtjoclbeoafeebaaScC
set_option maxHeartbeats 1600000
set_option maxRecDepth 100000
namespace Go.Proofs.Ytjoclbeoafeebaa
set_option linter.unusedVariables false
set_option linter.unusedSimpArgs false
open Go.RowKit Go.Maps
theorem Zw{α:Type}{F:SMd→ByteArray→Option α}{M:List SMd}{i:Int}{s:ByteArray}{c:α}:Y5 F M M.length (fun _=>none) (i,s)=some c↔∃ (a:Nat) (m:SMd),i=(a:Int)∧M[a]?=some m∧F m s=some c:=by
 unfold Y5
 dsimp only
 constructor
 ·intro h
  by_cases h0:i<0
  ·rw [if_pos h0] at h;cases h
  ·rw [if_neg h0] at h
   split at h
   ·cases e:M[i.toNat]? with
    | none=>rw [e] at h;cases h
    | some m=>rw [e] at h;exact ⟨i.toNat,m,by omega,e,h⟩
   ·split at h <;> cases h
 ·rintro ⟨a,m,rfl,hm,hf⟩
  have:=(List.getElem?_eq_some_iff.1 hm).1
  rw [if_neg (by omega),if_pos (by simpa using this)]
  simp [hm,hf]
theorem Qau{N:List ByteArray}{m:SMd}{s:ByteArray}{c:Int}:Qij N m s=some c↔(∃ x∈m.im,x.1=s)∧c=(Zl N s:Int):=by
 unfold Qij Qii
 by_cases h:(Zg (m.im.map (·.1)) s).isSome=true
 ·rw [if_pos h]
  rw [Qy,List.mem_map] at h
  exact ⟨fun e=>⟨h,by injection e with e;exact e.symm⟩,fun e=>by rw [e.2]⟩
 ·rw [if_neg h]
  rw [Qy,List.mem_map] at h
  exact ⟨fun e=>absurd e (by simp),fun e=>absurd e.1 h⟩
abbrev Qc5 (N:List ByteArray) (M:List SMd):Int×ByteArray→Option Int:=Y5 (Qij N) M M.length fun _=>none
structure Qhd (N:List ByteArray) (M:List SMd):Prop where
 len:N.length=M.length
 h64:M.length≤64
 im:∀ m∈M,∀ x∈m.im,x.1∈N
 sz:∀ s∈N,s.size≤1000000
section
variable {N:List ByteArray} {M:List SMd}
theorem Qhd.edge(h:Qhd N M):∀ p∈edg N M,p.1<M.length∧p.2<M.length:=ScOk.edge h.len h.im
theorem Qhd.bnd(h:Qhd N M):∀ i s c,Qc5 N M (i,s)=some c→∃ a b:Nat,i=(a:Int)∧c=(b:Int)∧a<64∧b<64:=by
 intro i s c hc
 obtain ⟨a,m,rfl,hm,hf⟩:=Zw.1 hc
 obtain ⟨⟨x,hx,rfl⟩,rfl⟩:=Qau.1 hf
 have h1:=(List.getElem?_eq_some_iff.1 hm).1
 have h2:=K3 (h.im m (List.mem_of_getElem? hm) x hx)
 have:=h.len
 have:=h.h64
 exact ⟨a,_,rfl,rfl,by omega,by omega⟩
theorem Qhd.bm(h:Qhd N M){l:Nat→Nat}(hl:Lk (Qc5 N M) l (fun q=>¬ ∃ t,keyOf Try.prog 102 (knV q)=some t)):Bm l (edB (edg N M)):=by
 refine ⟨hl.lt,fun i j hj=>?_⟩
 rw [Bool.eq_iff_iff,hl.bit i j hj,U5,K4]
 constructor
 ·rintro ⟨s,h1,_,_⟩
  obtain ⟨a,m,e,hm,hf⟩:=Zw.1 h1
  obtain ⟨⟨x,hx,rfl⟩,e2⟩:=Qau.1 hf
  obtain rfl:i=a:=by omega
  exact ⟨m,hm,x,hx,by show j=_;omega⟩
 ·rintro ⟨m,hm,x,hx,e⟩
  have e2:j=Zl N x.1:=e
  have hlt:=(List.getElem?_eq_some_iff.1 hm).1
  have h64:=h.h64
  have hk:=keyN (i:=(i:Int)) (s:=x.1) (by omega) (by have:i<M.length:=hlt;omega) (h.sz _ (h.im m (List.mem_of_getElem? hm) x hx))
  exact ⟨x.1,Zw.2 ⟨i,m,rfl,hm,Qau.2 ⟨⟨x,hx,rfl⟩,by rw [e2]⟩⟩,hk,fun hn=>hn hk⟩
end
theorem Var.set64{w:World}{R k y:Nat}{l:Nat→Nat}{v:Int}(h:Var w R (t64 l))(hk:k<64)(hv:v=(y:Int)):Var (w.setCell ⟨R,k,none⟩ (.int .u64 v)).drew R (t64 (nup l k y))∧Tn (fun j=>j=R) w (w.setCell ⟨R,k,none⟩ (.int .u64 v)).drew:=by
 subst hv
 have h3:=h.set k (.int .u64 (y:Int)) (by rw [Q8];exact hk)
 rw [Qoe l hk y] at h3
 exact ⟨h3.keep rfl nLe,(Tn.set (M:=fun j=>j=R) w R k _ rfl).trans (Tn.drew _ _)⟩
theorem far_any{w:World}{g mo mi k:Nat}{la ef:Int}{N:List ByteArray}{M:List SMd}(hv:Var w g (scC M.length mo mi la ef))(hi:Qhb.At w mi k (Qc5 N M))(hok:Qhd N M) :
  CP 40 #[.pointer (some ⟨g,0,none⟩)] w fun e w'=>∃ l,e=.returned (.agg (t64 l).toArray)∧Bm l (warN (edB (edg N M)) M.length)∧Below w.heap.size w w':=by
 have hz:=Qea
 obtain ⟨n,hn⟩:∃ n,M.length=n:=⟨_,rfl⟩
 have hn64:n≤64:=by rw [← hn];exact hok.h64
 have b0:Below w.heap.size w (w.alloc (.cells (t64 fun _=>0).toArray 85)):=bAl
 have V0:=Lh (Var.new w (t64 fun _=>0) 85 rfl)
 have HI0:=Lh (hi.stay (b0.block mi hi.lt))
 have HV0:=Lh (hv.under b0)
 have HB0:=Lh b0
 have HK:=Lh hok
 have HBL:=Lh (show Qc0 n (edB (edg N M)) from hn▸Qof)
 have hgl:=hv.lt
 have hsz:(w.alloc (.cells (t64 fun _=>0).toArray 85)).heap.size=w.heap.size+1:=by simp
 rw [hn] at HV0 ⊢
 clear hv hi hok b0
 go_enter Try.func40,Try.ntmps40
 go_wp2_with (first
  | (go_at_call 33;refine (Qg6 HV0.out HI0.out HK.out.bnd).mono ?_;rintro e w1 ⟨l0,rfl,hl0,b1⟩;have b2:Below w1.heap.size w1 (w1.alloc (.cells (t64 fun _=>0).toArray 85)):=bAl;have HV1:=Lh ((HV0.out.under b1).under b2);have VR1:=Lh ((V0.out.under b1).under b2);have HB1:=Lh (HB0.out.trans ((b1.trans (b2.mono b1.size)).mono HB0.out.size));have HS1:w.heap.size+1≤w1.heap.size:=(by have:=b1.size;omega);have HL1:=Lh (HK.out.bm hl0);clear hl0 b1 b2)
  | (refine Qa rfl 85 (.tmp 3) (.tmp 7) rfl (G:=w1.heap.size) (off:=0) rfl (us:=t64 l0) (Var.new w1 (t64 fun _=>0) 85 rfl) rfl (Kj l0) (by rw [Q8,Q8];exact Nat.le_refl _) (U7 l0) ?_;intro w2 ht hs;rw [Uj (by rw [Q8,Q8])] at hs;have HV2:=HV1.out.turn ht (by omega);have V2:=Lh hs;have VR2:=Lh (VR1.out.turn ht (by omega));have HB2:=Lh (HB1.out.trans (ht.below HB1.out.size fun k hk e=>by omega));have hl2:w1.heap.size<w2.heap.size:=Nat.lt_of_lt_of_le (by simp) ht.size;clear hs ht)
  | (go_at_call 15;refine (Yv HV2).mono ?_;rintro e wx ⟨rfl,rfl⟩)
  | go_in)
 have HVA:=Lh HV2
 clear HV2 HI0 HV0 hz HB0 hsz HV1 VR1 HB1 V0
 obtain ⟨R2,hR2⟩:∃ R2,w1.heap.size=R2:=⟨_,rfl⟩
 rw [hR2] at V2 HS1 hl2
 rw [hR2]
 clear hR2
 go_loopw [10] (fun i wr=>∃ (t:Nat) (l:Nat→Nat),i=.int .i64 (t:Int)∧t≤n∧Hid (Var wr g (scC n mo mi la ef))∧Hid (Var wr w.heap.size (t64 fun _=>0))∧Hid (Var wr R2 (t64 l))∧Hid (Bm l (warN (edB (edg N M)) t))∧Hid (Below w.heap.size w wr)) (fun i _=>n-(intOf i).toNat)
 case atStart=>exact ⟨0,l0,rfl,Nat.zero_le _,HVA,VR2,V2,HL1,HB2⟩
 case round =>
  clear HVA VR2 V2 HL1 HB2
  obtain ⟨t,l,rfl,ht,HV,HR,HX,HL,HB⟩:=hrel
  by_cases hlt:t<n
  ·have h64:t<64:=by omega
   have HL2:=Lh (show Bm l (Qhc t 0 (warN (edB (edg N M)) t)) by rw [Qoc];exact HL.out)
   go_wp2_with (first
    | (go_at_call 15;refine (Yv HV.out).mono ?_;rintro e wx ⟨rfl,rfl⟩)
    | go_in)
   go_loopw [15] (fun i wr=>∃ (k:Nat) (l:Nat→Nat),i=.int .i64 (k:Int)∧k≤n∧Hid (Var wr g (scC n mo mi la ef))∧Hid (Var wr w.heap.size (t64 fun _=>0))∧Hid (Var wr R2 (t64 l))∧Hid (Bm l (Qhc t k (warN (edB (edg N M)) t)))∧Hid (Below w.heap.size w wr)) (fun i _=>n-(intOf i).toNat)
   case atStart=>exact ⟨0,l,rfl,Nat.zero_le _,HV,HR,HX,HL2,HB⟩
   case round =>
    clear HV HR HX HL HL2 HB
    obtain ⟨k,l,rfl,hk,HV,HR,HX,HL,HB⟩:=hrel
    by_cases hlt2:k<n
    ·have k64:k<64:=by omega
     have ck:wr.cell? ⟨R2,k,none⟩=some (.int .u64 (l k:Int)):=HX.out.at k (U6 l k64)
     have hb:=otestS (HL.out.lt k) h64
     have HST:=Lh (HL.out.step h64)
     cases hc:(l k).testBit t with
     | true =>
      rw [hc] at hb
      have ct:wr.cell? ⟨R2,t,none⟩=some (.int .u64 (l t:Int)):=HX.out.at t (U6 l h64)
      have fk:wr.frozen? ⟨R2,k,none⟩=false:=HX.out.fz k (by rw [Q8];exact k64)
      have HL2:=Lh (HST.out.1 hc)
      clear hc
      go_wp2
      go_region
      obtain ⟨V3,T3⟩:=HX.out.set64 k64 (orT (HL.out.lt k) (HL.out.lt t))
      have V3:=Lh V3
      have HV3:=Lh (HV.out.turn T3 (by omega))
      have HR3:=Lh (HR.out.turn T3 (by omega))
      have HB3:=Lh (HB.out.trans (T3.below HB.out.size fun j hj e=>by omega))
      obtain ⟨w5,hw5⟩:∃ w5,(wr.setCell ⟨R2,k,none⟩ (.int .u64 (bits .or .u64 (l k:Int) (l t:Int)))).drew=w5:=⟨_,rfl⟩
      rw [hw5] at V3 HV3 HR3 HB3
      rw [hw5]
      clear hw5 T3 fk ct ck
      go_wp2
      go_roundw
      case rel=>exact ⟨k+1,_,by go_num,hlt2,HV3,HR3,V3,HL2,HB3⟩
      case measure=>simp [intOf];omega
     | false =>
      rw [hc] at hb
      have HL2:=Lh (HST.out.2 hc)
      clear hc
      go_wp2
      go_roundw
      case rel=>exact ⟨k+1,l,by go_num,hlt2,HV,HR,HX,HL2,HB⟩
      case measure=>simp [intOf];omega
    ·obtain rfl:k=n:=by omega
     have HL2:=Lh (show Bm l (warN (edB (edg N M)) (t+1)) by have:=HL.out;rw [(HBL.out.warN t).all] at this;exact this)
     go_wp2
     go_roundw
     case rel=>exact ⟨t+1,l,by go_num,hlt,HV,HR,HX,HL2,HB⟩
     case measure=>simp [intOf];omega
  ·obtain rfl:t=n:=by omega
   go_wp2_with (first
    | (refine Qb rfl 85 (.tmp 3) rfl R2 0 rfl (t64 l) HX.out.rg Try.underlying85 rfl (Ui l) ?_)
    | (refine Qa rfl 85 (.tmp 2) (.tmp 35) rfl (G:=w.heap.size) (off:=0) rfl (us:=t64 l) HR.out rfl (Kj l) (by rw [Q8,Q8];exact Nat.le_refl _) (U7 l) ?_;intro w90 ht hs;rw [Uj (by rw [Q8,Q8])] at hs;have HVD:=Lh hs;have HBD:=Lh (HB.out.trans (ht.below HB.out.size fun k hk e=>by omega));clear ht hs)
    | go_in)
   exact Qj 85 rfl rfl rfl HVD.out Try.underlying85 rfl (Ui l) ⟨l,rfl,HL.out,HBD.out⟩
theorem Qk2{w:World}{g mo mi k:Nat}{la ef:Int}{N:List ByteArray}{M:List SMd}(hv:Var w g (scC M.length mo mi la ef))(hi:Qhb.At w mi k (Qc5 N M))(hok:Qhd N M) :
  CP 20 #[.pointer (some ⟨g,0,none⟩)] w (Qbs (Qnr N M) w):=by
 have hz:=Qea
 obtain ⟨n,hn⟩:∃ n,M.length=n:=⟨_,rfl⟩
 have hn64:n≤64:=by rw [← hn];exact hok.h64
 have HI0:=Lh hi
 have HV0:=Lh hv
 have HK:=Lh hok
 have hgl:=hv.lt
 unfold Qnr
 have HFR:=Lh (fun (d:Nat) (D:List Nat) (hd:Dn d D) (l:Nat→Nat) (hl:Bm l (edB (edg N M))) (i:Nat) (hi:i<n)=>Qk1 (n:=n) (hn▸hok.edge) hn64 hd hl hi)
 rw [hn] at HV0 ⊢
 clear hv hi hok
 go_enter Try.func20,Try.ntmps20
 go_wp2
 go_step3
 go_wp2_with (first
  | (go_at_call 33;refine (Qg6 HV0.out HI0.out HK.out.bnd).mono ?_;rintro e w1 ⟨l,rfl,hl0,b1⟩;have b2:Below w1.heap.size w1 (w1.alloc (.cells (t64 fun _=>0).toArray 85)):=bAl;have HV1:=Lh ((HV0.out.under b1).under b2);have HB1:=Lh (b1.trans (b2.mono b1.size));have HS1:w.heap.size≤w1.heap.size:=b1.size;have HL1:=Lh (HK.out.bm hl0);clear hl0 b1 b2)
  | (refine Qa rfl 85 (.tmp 4) (.tmp 8) rfl (G:=w1.heap.size) (off:=0) rfl (us:=t64 l) (Var.new w1 (t64 fun _=>0) 85 rfl) rfl (Kj l) (by rw [Q8,Q8];exact Nat.le_refl _) (U7 l) ?_;intro w2 ht hs;rw [Uj (by rw [Q8,Q8])] at hs;have HV2:=HV1.out.turn ht (by omega);have V2:=Lh hs;have HB2:=Lh (HB1.out.trans (ht.below HB1.out.size fun k hk e=>by omega));have hl2:w1.heap.size<w2.heap.size:=Nat.lt_of_lt_of_le (by simp) ht.size;clear hs ht)
  | (go_at_call 15;refine (Yv HV2).mono ?_;rintro e wx ⟨rfl,rfl⟩)
  | go_in)
 have HVA:=Lh HV2
 clear HV2 HI0 HV0 hz HV1 HB1
 obtain ⟨R2,hR2⟩:∃ R2,w1.heap.size=R2:=⟨_,rfl⟩
 rw [hR2] at V2 HS1 hl2
 rw [hR2]
 clear hR2
 go_step3
 go_wp2_with (first
  | (go_at_call 15;refine (Yv HVA.out).mono ?_;rintro e wx ⟨rfl,rfl⟩)
  | go_in)
 have B20:=Lh (Below.refl w2.heap.size w2)
 go_loopw [3,5,11] (fun v d i wr=>∃ (t dn:Nat),i=.int .i64 (t:Int)∧t≤n∧d=.int .u64 (dn:Int)∧Hid (Dn dn (Qcu (edg N M) n t))∧Hid (Own wr w2.heap.size 3 1 v (Qcu (edg N M) n t).length (Qjr (Qcu (edg N M) n t)))∧Hid (Below w2.heap.size w2 wr)) (fun _ _ i _=>n-(intOf i).toNat)
 case atStart=>exact ⟨0,0,rfl,Nat.zero_le _,rfl,Lh Dn.zero,Lh (Own.nil _ _ _ _ nLe),B20⟩
 case round =>
  obtain ⟨t,dn,rfl,ht,rfl,HD,HV,HB⟩:=hrel
  obtain ⟨wa,hwa⟩:∃ wa,wa=wr:=⟨_,rfl⟩
  subst hwa
  have HVB:=Lh (HVA.out.under HB.out)
  have V2B:=Lh (V2.out.under HB.out)
  by_cases hlt:t<n
  ·have HT:=Lh (show Qcu (edg N M) n (t+1)=Qde (edg N M) n (Qcu (edg N M) n t) from rfl)
   have hdl:=Qfb (edg N M) n t
   obtain ⟨D,hD'⟩:∃ D,Qcu (edg N M) n t=D:=⟨_,rfl⟩
   rw [hD'] at HD HT HV hdl
   clear hD'
   obtain ⟨VA,vc,hv⟩:=HV.out.form
   subst hv
   go_wp2_with (first
    | (go_at_call 15;refine (Yv HVB.out).mono ?_;rintro e wx ⟨rfl,rfl⟩)
    | go_in)
   go_loopw [3,5,15] (fun v d i wr=>∃ k:Nat,v=.slice VA D.length vc∧d=.int .u64 (dn:Int)∧i=.int .i64 (k:Int)∧k≤n∧Hid (∀ j,j<k→Y3 (edg N M) D j=false)∧wr=wa) (fun _ _ i _=>n-(intOf i).toNat)
   case atStart=>exact ⟨0,rfl,rfl,rfl,Nat.zero_le _,Lh (fun j hj=>absurd hj (Nat.not_lt_zero _)),rfl⟩
   case round =>
    obtain ⟨k,rfl,rfl,rfl,hk,HNO,rfl⟩:=hrel
    obtain ⟨wb,hwb⟩:∃ wb,wb=wr:=⟨_,rfl⟩
    subst hwb
    by_cases hlt2:k<n
    ·have k64:k<64:=by omega
     have HGF:=Lh (HFR.out dn D HD.out l HL1.out k hlt2)
     have ck:wb.cell? ⟨R2,k,none⟩=some (.int .u64 (l k:Int)):=V2B.out.at k (U6 l k64)
     cases hb1:(bits .and .u64 ((dn:Int) / 2^k) 1==0) with
     | false =>
      have HNO2:=Lh (show ∀ j,j<k+1→Y3 (edg N M) D j=false from fun j hj=>by
       rcases Nat.lt_succ_iff_lt_or_eq.1 hj with h | h
       ·exact HNO.out j h
       ·rw [h,HGF.out,hb1];rfl)
      go_wp2
      go_roundw
      case rel=>exact ⟨k+1,rfl,rfl,by go_num,hlt2,HNO2,by first | rfl | trivial⟩
      case measure=>simp [intOf];omega
     | true =>
      cases hb2:(bits .andNot .u64 (l k:Int) (dn:Int)==0) with
      | false =>
       have HNO2:=Lh (show ∀ j,j<k+1→Y3 (edg N M) D j=false from fun j hj=>by
        rcases Nat.lt_succ_iff_lt_or_eq.1 hj with h | h
        ·exact HNO.out j h
        ·rw [h,HGF.out,hb1,hb2];rfl)
       go_wp2
       go_roundw
       case rel=>exact ⟨k+1,rfl,rfl,by go_num,hlt2,HNO2,by first | rfl | trivial⟩
       case measure=>simp [intOf];omega
      | true =>
       have HD2:=Lh (Qd6 hlt2 (by rw [HGF.out,hb1,hb2];rfl) HNO.out)
       have HDN:=Lh (HD.out.add k64)
       have hdlt:=Lh HD.out.lt
       go_wp2_with (first
        | (at_builtin;refine Zd rfl (.tmp 31) (.tmp 33) 43 rfl Qjs w2 wb w2.heap.size _ _ _ [.int .i64 (k:Int)] rfl HV.out (by simp [Act.eval]) rfl (by intro u hu;simp at hu;subst hu;rfl) HB.out (by omega) (by omega) ?_;intro v2 w3 ho2 hb2)
        | go_in)
       refine ⟨⟨t+1,dn ||| 2^k,by go_num,hlt,by rw [orS hdlt.out k64],Lh (by rw [HT.out,HD2.out];exact HDN.out),Lh (by rw [HT.out,HD2.out,Qaq,List.length_append];exact ho2),Lh hb2⟩,by simp [intOf];omega⟩
    ·obtain rfl:k=n:=by omega
     have HD2:=Lh (Qd7 HNO.out)
     go_wp2
     go_roundw
     case rel=>exact ⟨t+1,dn,by go_num,hlt,rfl,Lh (by rw [HT.out,HD2.out];exact HD.out),Lh (by rw [HT.out,HD2.out];exact HV.out),HB⟩
     case measure=>simp [intOf];omega
  ·obtain rfl:t=n:=by omega
   go_wp2
   rw [Exit.noGoto_ret]
   go_ret
   exact ⟨_,rfl,HV.out.lower (by omega),HB2.out.trans (HB.out.mono HB2.out.size)⟩
end Go.Proofs.Ytjoclbeoafeebaa
namespace Go.Proofs.Ytjoclbeoafeebaa
set_option linter.unusedVariables false
set_option linter.unusedSimpArgs false
open Go.RowKit
def dotN(s:ByteArray):Int:=match Qa9 s.data.toList with | some d=>(d:Int) | none=>-1
theorem Qav:∀ l:List UInt8,Lib.indexByte l 46=match Qa9 l with | some d=>(d:Int) | none=>-1
 | []=>rfl
 | b::l=>by
  have ih:=Qav l
  unfold Lib.indexByte Qa9
  rw [List.findIdx?_cons]
  by_cases h:b=46
  ·subst h
   simp
  ·have h':¬ (46:UInt8)=b:=fun e=>h e.symm
   rw [show decide (b=46)=false by simpa using h]
   have e2:(l.findIdx? fun b=>decide (b=46))=Qa9 l:=rfl
   rw [e2]
   cases hd:Qa9 l with
   | none=>rw [hd] at ih;simp [h,ih]
   | some d =>
    rw [hd] at ih
    simp [h,ih]
    try omega
theorem dotI_lt{s:ByteArray}{d:Nat}(h:Qa9 s.data.toList=some d):d<s.size:=by
 unfold Qa9 at h
 rw [List.findIdx?_eq_some_iff_getElem] at h
 obtain ⟨h1,_⟩:=h
 simpa using h1
theorem idxB_any(s:ByteArray)(c:Int)(w:World):CP 83 #[.string s,.int .u8 c] w fun e w'=>e=.returned (.int .i64 (Lib.indexByte s.data.toList c.toNat.toUInt8))∧w=w':=by
 go_enter Try.func83,Try.ntmps83
 go_wp2
 rw [run_callFunc_extern Try.func93 (by kernel_rfl) (by kernel_rfl) (by kernel_rfl) (e:=Extern.BytealgIndexByte.indexByte) (by kernel_rfl),Lib.run_indexByteString]
 simp only [Result.andThen]
 rw [Oper.upon_value]
 go_wp2
 go_ret
 exact ⟨rfl,rfl⟩
theorem dotN_of(s:ByteArray):Lib.indexByte s.data.toList 46=dotN s:=Qav _
theorem sidx_dot(s:ByteArray)(w:World):CP 78 #[.string s,.string ⟨#[46]⟩] w fun e w'=>e=.returned (.int .i64 (dotN s))∧w=w':=by
 have HI:=Lh (idxB_any s 46)
 cases hq:([46]==s.toList) with
 | true =>
  have HD:=Lh (show dotN s=0 by
   have h1:s.toList=[46]:=by have:=hq;simp at this;exact this.symm
   rw [ByteArray.toList_eq] at h1
   unfold dotN
   rw [h1]
   rfl)
  go_enter Try.func78,Try.ntmps78
  go_wp2_with (first
   | (go_at_call 83;refine (HI.out _).mono ?_;rintro e w' ⟨rfl,rfl⟩)
   | go_in)
  go_ret
  exact ⟨by rw [HD.out];rfl,rfl⟩
 | false =>
  go_enter Try.func78,Try.ntmps78
  go_wp2_with (first
   | (go_at_call 83;refine (HI.out _).mono ?_;rintro e w' ⟨rfl,rfl⟩)
   | go_in)
  go_ret
  exact ⟨by rw [← dotN_of];rfl,rfl⟩
theorem scut_dot(s:ByteArray)(w:World)(hs:s.size≤1000000):CP 63 #[.string s,.string ⟨#[46]⟩] w fun e w'=>(∃ n,w'=w.drewN n)∧match Qa9 s.data.toList with
  | some d=>e=.returned (.tuple #[.string (s.extract 0 d),.string (s.extract (d+1) s.size),.bool true])
  | none=>e=.returned (.tuple #[.string s,.string ⟨#[]⟩,.bool false]):=by
 have HI:=Lh (sidx_dot s)
 cases hd:Qa9 s.data.toList with
 | none =>
  have HD:=Lh (show dotN s=-1 by unfold dotN;rw [hd])
  rw [HD.out] at HI
  go_enter Try.func63,Try.ntmps63
  go_wp2_with (first
   | (go_at_call 78;refine (HI.out _).mono ?_;rintro e w' ⟨rfl,rfl⟩)
   | go_in)
  go_ret3
  exact ⟨⟨0,rfl⟩,rfl⟩
 | some d =>
  have hlt:=dotI_lt hd
  have HD:=Lh (show dotN s=(d:Int) by unfold dotN;rw [hd])
  rw [HD.out] at HI
  have c2:(d:Int)≤(s.size:Int):=by omega
  have c3:(0:Int)≤(d:Int)+1:=by omega
  have c4:(d:Int)+1≤(s.size:Int):=by omega
  go_enter Try.func63,Try.ntmps63
  go_wp2_with (first
   | (go_at_call 78;refine (HI.out _).mono ?_;rintro e w' ⟨rfl,rfl⟩)
   | go_in)
  go_region
  go_wp2
  go_ret3
  exact ⟨⟨1,rfl⟩,rfl⟩
theorem cut_dot(s:ByteArray)(w:World)(hs:s.size≤1000000):CP 47 #[.string s,.string ⟨#[46]⟩] w fun e w'=>(∃ n,w'=w.drewN n)∧match Qa9 s.data.toList with
  | some d=>e=.returned (.tuple #[.string (s.extract 0 d),.string (s.extract (d+1) s.size),.bool true])
  | none=>e=.returned (.tuple #[.string s,.string ⟨#[]⟩,.bool false]):=by
 have HI:=Lh (fun w=>scut_dot s w hs)
 cases hd:Qa9 s.data.toList with
 | none =>
  rw [hd] at HI
  go_enter Try.func47,Try.ntmps47
  go_wp2_with (first
   | (go_at_call 63;refine (HI.out _).mono ?_;rintro e w' ⟨⟨n,rfl⟩,rfl⟩)
   | go_in)
  go_ret3
  exact ⟨⟨_,rfl⟩,rfl⟩
 | some d =>
  rw [hd] at HI
  go_enter Try.func47,Try.ntmps47
  go_wp2_with (first
   | (go_at_call 63;refine (HI.out _).mono ?_;rintro e w' ⟨⟨n,rfl⟩,rfl⟩)
   | go_in)
  go_ret3
  exact ⟨⟨_,rfl⟩,rfl⟩
open Go.Maps
theorem kd_dot:kd 46=4:=by decide
theorem id_dot{s:ByteArray}(h:idB s=true):Qa9 s.data.toList=none:=by
 unfold idB at h
 simp only [Bool.and_eq_true] at h
 have h2:=h.2
 unfold Qa9
 rw [List.findIdx?_eq_none_iff]
 intro b hb
 have hm:(b.toNat:Int)∈bts s:=List.mem_map.2 ⟨b,hb,rfl⟩
 have hk:kd (b.toNat:Int)=2∨kd (b.toNat:Int)=3:=by
  cases e:bts s with
  | nil=>rw [e] at hm;cases hm
  | cons c r =>
   rw [e] at hm h2
   rw [Yl,Bool.and_eq_true,List.all_eq_true] at h2
   rcases List.mem_cons.1 hm with h3 | h3
   ·rw [h3]
    exact .inl (by simpa using h2.1)
   ·have:=h2.2 _ h3
    simpa using this
 rw [decide_eq_false_iff_not]
 intro e
 subst e
 have e2:(((46:UInt8).toNat:Nat):Int)=46:=rfl
 rw [e2,kd_dot] at hk
 omega
abbrev Uv (M:List SMd):Int×ByteArray→Option (Int×Int):=Y5 Qbd M M.length fun _=>none
structure OwOk (M:List SMd):Prop where
 nd:∀ m∈M,((m.vs++m.fs).map (·.1)).Nodup
 dot:∀ m∈M,∀ x∈m.vs++m.fs,Qa9 x.1.data.toList=none
def Qhe(kd:Int):Option (Int×Int)→Option Int
 | some (k,i)=>if k=kd then some i else none
 | none=>none
def Qeb(kd:Int)(m:SMd):List SNm:=if kd=0 then m.vs else m.fs
theorem Qfg{A B:List ByteArray}{s:ByteArray}:Zg (A++B) s=match Zg A s with | some p=>some p | none=>(Zg B s).map (·+A.length):=by
 unfold Zg
 rw [List.findIdx?_append]
 cases A.findIdx? fun t=>decide (t=s) with
 | none=>simp
 | some p=>simp
theorem own_chk{m:SMd}(hn:((m.vs++m.fs).map (·.1)).Nodup){kd:Int}(hk:kd=0∨kd=1){x:ByteArray}:Qhe kd (Qbd m x)=(Qbl (Qeb kd m) x).map fun (k:Nat)=>(k:Int):=by
 unfold Qbd Uh Qbl
 rw [List.map_append] at hn ⊢
 rw [Qfg]
 have hl:(m.vs.map (·.1)).length=m.vs.length:=List.length_map _
 cases h1:Zg (m.vs.map (·.1)) x with
 | some p =>
  have hp:=Qni h1
  rw [hl] at hp
  have hx:x∈m.vs.map (·.1):=by rw [← Qy,h1];rfl
  have h2:Zg (m.fs.map (·.1)) x=none:=Z3.2 fun h=>by
   have:=(List.nodup_append.1 hn).2.2 x hx x h
   exact this rfl
  rcases hk with rfl | rfl
  ·simp [Qhe,Qeb,hp,h1]
  ·simp [Qhe,Qeb,hp,h2]
 | none =>
  cases h2:Zg (m.fs.map (·.1)) x with
  | none=>rcases hk with rfl | rfl <;> simp [Qhe,Qeb,h1,h2]
  | some p =>
   have e:¬ p+m.vs.length<m.vs.length:=by omega
   simp only [Option.map_some]
   rw [hl,if_neg e]
   rcases hk with rfl | rfl
   ·simp [Qhe,Qeb,h1]
   ·simp [Qhe,Qeb,h2]
theorem Qjx{M:List SMd}(h:OwOk M){kd:Int}(hk:kd=0∨kd=1){a:Nat}{m:SMd}(hm:M[a]?=some m){x:ByteArray}:Qhe kd (Uv M ((a:Int),x))=(Qbl (Qeb kd m) x).map fun (k:Nat)=>(k:Int):=by
 rw [← own_chk (h.nd m (List.mem_of_getElem? hm)) hk]
 congr 1
 cases e:Qbd m x with
 | some c=>exact Zw.2 ⟨a,m,rfl,hm,e⟩
 | none =>
  cases e2:Uv M ((a:Int),x) with
  | none=>rfl
  | some c =>
   obtain ⟨a',m',ea,hm',hf⟩:=Zw.1 e2
   obtain rfl:a=a':=by omega
   rw [hm] at hm'
   cases hm'
   rw [e] at hf
   cases hf
theorem Qoj{M:List SMd}(h:OwOk M){i:Int}{x:ByteArray}(hd:Qa9 x.data.toList≠none):Uv M (i,x)=none:=by
 cases e:Uv M (i,x) with
 | none=>rfl
 | some c =>
  obtain ⟨a,m,rfl,hm,hf⟩:=Zw.1 e
  have hx:x∈(m.vs++m.fs).map (·.1):=by
   rw [← Qy]
   unfold Qbd Uh at hf
   cases h2:Zg ((m.vs++m.fs).map (·.1)) x with
   | none=>rw [h2] at hf;cases hf
   | some p=>rfl
  obtain ⟨y,hy,rfl⟩:=List.mem_map.1 hx
  exact absurd (h.dot m (List.mem_of_getElem? hm) y hy) hd
theorem Qok{M:List SMd}{i:Int}{x:ByteArray}(h:¬ (0≤i∧i.toNat<M.length)):Uv M (i,x)=none:=by
 cases e:Uv M (i,x) with
 | none=>rfl
 | some c =>
  obtain ⟨a,m,rfl,hm,hf⟩:=Zw.1 e
  have:=(List.getElem?_eq_some_iff.1 hm).1
  exact absurd ⟨by omega,by omega⟩ h
def Jt(f:Int×ByteArray→Option (Int×Int))(kd:Int):List (Int×ByteArray)→Int×Int×Bool
 | []=>(0,0,false)
 | p::r=>match Qhe kd (f p) with
  | some i=>(p.1,i,true)
  | none=>Jt f kd r
theorem Qaw{f:Int×ByteArray→Option (Int×Int)}{kd:Int}{p:Int×ByteArray}{r:List (Int×ByteArray)}(h:f p=none):Jt f kd (p::r)=Jt f kd r:=by
 rw [Jt,h]
 rfl
section
variable {N:List ByteArray} {M:List SMd}
theorem Qil(h:OwOk M){kd:Int}(hk:kd=0∨kd=1){file:Int}{s:ByteArray}(hd:Qa9 s.data.toList=none):Jt (Uv M) kd [(file,s)]=fdT (Ju (Qeb kd) N M file s):=by
 unfold Ju
 by_cases h0:0≤file
 ·rw [if_pos h0]
  cases hm:M[file.toNat]? with
  | none=>rw [Qaw (Qok (by have:=List.getElem?_eq_none_iff.1 hm;omega))];rfl
  | some m =>
   have e:file=(file.toNat:Int):=by omega
   have hc:=Qjx h hk hm (x:=s)
   rw [← e] at hc
   rw [Jt,hc]
   dsimp only
   unfold Qcv
   rw [hd]
   dsimp only
   rw [hm]
   dsimp only
   cases Qbl (Qeb kd m) s with
   | none=>rfl
   | some k =>
    show ((file,(k:Int),true):Int×Int×Bool)=((file.toNat:Int),(k:Int),true)
    rw [← e]
 ·rw [if_neg h0,Qaw (Qok (by omega))]
  rfl
theorem Qol(h:OwOk M)(hN:Qhd N M){kd:Int}(hk:kd=0∨kd=1){file:Int}{s:ByteArray}{d:Nat}(hd:Qa9 s.data.toList=some d)(hi:Qc5 N M (file,s.extract 0 d)=none):Jt (Uv M) kd [(file,s)]=fdT (Ju (Qeb kd) N M file s):=by
 rw [Qaw (Qoj h (by rw [hd];simp))]
 unfold Ju
 by_cases h0:0≤file
 ·rw [if_pos h0]
  cases hm:M[file.toNat]? with
  | none=>rfl
  | some m =>
   dsimp only
   unfold Qcv
   rw [hd]
   dsimp only
   rw [if_neg]
   ·rfl
   ·intro ha
    rw [List.any_eq_true] at ha
    obtain ⟨x,hx,e⟩:=ha
    have e:x.1=s.extract 0 d:=by simpa using e
    have:=(Zw (F:=Qij N)).2 ⟨file.toNat,m,(show file=(file.toNat:Int) by omega),hm,Qau.2 ⟨⟨x,hx,e⟩,rfl⟩⟩
    have h3:(none:Option Int)=some _:=hi.symm.trans this
    cases h3
 ·rw [if_neg h0]
  rfl
theorem found_in(h:OwOk M)(hN:Qhd N M){kd:Int}(hk:kd=0∨kd=1){file:Int}{s:ByteArray}{d:Nat}(hd:Qa9 s.data.toList=some d){t:Int}(hi:Qc5 N M (file,s.extract 0 d)=some t):Jt (Uv M) kd [(file,s),(t,s.extract (d+1) s.size)]=fdT (Ju (Qeb kd) N M file s):=by
 rw [Qaw (Qoj h (by rw [hd];simp))]
 obtain ⟨a,m,rfl,hm,hf⟩:=Zw.1 hi
 obtain ⟨⟨x,hx,e⟩,rfl⟩:=Qau.1 hf
 unfold Ju
 rw [if_pos (by omega),Int.toNat_natCast,hm]
 dsimp only
 unfold Qcv
 rw [hd]
 dsimp only
 rw [if_pos (by rw [List.any_eq_true];exact ⟨x,hx,by simpa using e⟩)]
 dsimp only
 have hb:=K3 (hN.im m (List.mem_of_getElem? hm) x hx)
 rw [e,hN.len] at hb
 have hq:M[Zl N (s.extract 0 d)]?=some M[Zl N (s.extract 0 d)]:=List.getElem?_eq_getElem hb
 rw [Jt,Qjx h hk hq,hq]
 dsimp only
 cases Qbl (Qeb kd M[Zl N (s.extract 0 d)]) (s.extract (d+1) s.size) with
 | none=>rfl
 | some k=>rfl
end
end Go.Proofs.Ytjoclbeoafeebaa
