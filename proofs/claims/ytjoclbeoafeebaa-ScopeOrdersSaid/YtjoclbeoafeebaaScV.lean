import Derived.Test.YtjoclbeoafeebaaSq
import Derived.Test.YtjoclbeoafeebaaScN
set_option maxHeartbeats 3200000
set_option maxRecDepth 100000
namespace Go.Proofs.Ytjoclbeoafeebaa
set_option linter.unusedVariables false
set_option linter.unusedSimpArgs false
open Go.RowKit
theorem Za:(Try.prog.info? 38).map (·.size)=some 3:=by kernel_rfl
theorem Qn3(w:World):(zeroValue 38).run Try.prog w=.ok (.agg #[.int .i64 0,.int .i64 0,.bool false]) w:=by kernel_rfl
def fdC:Option (Nat×Nat)→List Value
 | some (i,k)=>[.int .i64 (i:Int),.int .i64 (k:Int),.bool true]
 | none=>[.int .i64 0,.int .i64 0,.bool false]
theorem K7(z:Option (Nat×Nat)):∀ u∈fdC z,u.oneCell'=true:=by
 intro u hu
 rcases z with _ | ⟨i,k⟩ <;> (simp [fdC] at hu;rcases hu with rfl | rfl | rfl <;> rfl)
def FdTo(z:Option (Nat×Nat))(w:World)(e:Ending)(w':World):Prop:=e=.returned (.agg (fdC z).toArray)∧Below w.heap.size w w'
theorem Qn4{N:List ByteArray}{M:List SMd}{m:SMd}{f i:Nat}{s x:ByteArray}(hf:f<N.length)(hm:∀ y∈m.im,y.1∈N)(h:Qcv N M m f s=some (i,x)):i<N.length:=by
 unfold Qcv at h
 cases hd:Qa9 s.data.toList with
 | none=>rw [hd] at h;cases h;exact hf
 | some d =>
  rw [hd] at h
  dsimp only at h
  split at h
  ·rename_i ha
   cases h
   rw [List.any_eq_true] at ha
   obtain ⟨y,hy,he⟩:=ha
   have:y.1=s.extract 0 d:=by simpa using he
   rw [← this]
   exact K3 (hm y hy)
  ·cases h
theorem Qjq{l:List SNm}{s:ByteArray}(h:s∉l.map (·.1)):Qbl l s=none:=Z3.2 h
theorem Qg0{l:List SNm}{s:ByteArray}{k:Nat}{x:SNm}(hx:l[k]?=some x)(he:x.1=s)(hno:s∉(l.take k).map (·.1)):Qbl l s=some k:=by
 obtain ⟨hk,hx2⟩:=List.getElem?_eq_some_iff.1 hx
 refine Qd2 (by simpa using hk) (by simp [hx2,he]) fun j hj e=>hno ?_
 rw [← e,List.getElem_map]
 refine List.mem_map.2 ⟨l[j]'(by omega),?_,rfl⟩
 have hj2:j<(l.take k).length:=by simp;omega
 have:(l.take k)[j]=l[j]'(by omega):=List.getElem_take
 rw [← this]
 exact List.getElem_mem _
theorem rvar_any(A B:Option Addr)(n c d:Nat)(ML:List OMo)(N:List ByteArray)(S0:Nat→Prop)(w:World)(hL:Y4 w S0 A n ML)(hn:n≤1000000)(hB:Sh w w.heap.size B n (Z0 N))(hI:ImIn N ML)(hI2:MoBd ML)(file:Int)(hf1:-9223372036854775808≤file)(hf2:file≤9223372036854775807)(s:ByteArray)(hs:s.size≤1000000) :
  CP 12 #[.slice B n d,.slice A n c,.int .i64 file,.string s] w (FdTo (Ju SMd.vs N (Qm ML) file s) w):=by
 have hzf:=Qn3
 have hLn:=hL.len
 have hNm:N.length=n:=by have:=hB.len;simpa [Z0] using this
 obtain ⟨R,hR⟩:∃ R,Ju SMd.vs N (Qm ML) file s=R:=⟨_,rfl⟩
 rw [hR]
 have b0:Below w.heap.size w (w.alloc (.cells #[.int .i64 0,.int .i64 0,.bool false] 38)):=bAl
 have HB0:=Lh b0
 have HV1:=Lh (Var.new w (fdC none) 38 (c:=#[.int .i64 0,.int .i64 0,.bool false]) rfl)
 have HL1:=Lh (hL.under b0)
 have HN1:=Lh ((hB.below b0).more b0.size)
 by_cases hfile:0≤file∧file<(n:Int)
 ·obtain ⟨f,rfl⟩:∃ f:Nat,file=(f:Int):=⟨file.toNat,by omega⟩
  have hfn:f<n:=by omega
  obtain ⟨q,hq⟩:∃ q,ML[f]?=some q:=⟨ML[f]'(by omega),List.getElem?_eq_getElem _⟩
  have hqm:=List.mem_of_getElem? hq
  have HFM:=Lh (Qd5 A B n n c d ML N S0 _ HL1.out hn HN1.out hn hI f q hq s hs)
  have hRR:=hR
  unfold Ju at hRR
  rw [if_pos (by omega),Int.toNat_natCast,Zo hq] at hRR
  dsimp only at hRR
  have f1:¬ (f:Int)<0:=by omega
  have f2:(f:Int)<(n:Int):=by omega
  obtain ⟨L,hLk⟩:∃ L,Qcv N (Qm ML) q.1.sm f s=L:=⟨_,rfl⟩
  rw [hLk] at HFM hRR
  cases L with
  | none =>
   have HE:Hid (none=R):=Lh hRR
   dsimp only [Qgz] at HFM
   have m1:¬ (0:Int)≤-1:=by decide
   clear hR hRR hLk hq hqm hL hB hI hI2 b0
   go_enter Try.func12,Try.ntmps12
   go_wp2_with (first
    | (go_at_call 32;with_reducible refine HFM.out.mono ?_;rintro e1 wx ⟨rfl,bx⟩;have HVC:=Lh (HV1.out.under bx);have HBC:=Lh (bTr HB0 bx);clear bx)
    | go_in)
   go_loopw [11] (fun i wr=>i=.int .i64 0∧wr=wx) (fun _ _=>0)
   case atStart=>exact ⟨rfl,rfl⟩
   case round =>
    obtain ⟨rfl,rfl⟩:=hrel
    go_wp2_with (first
     | (refine Qa rfl 38 (.tmp 8) (.tmp 57) rfl (G:=w.heap.size) (off:=0) rfl (us:=fdC none) HVC.out rfl Za (Nat.le_refl 3) (K7 _) ?_;intro w90 ht hs;have HVD:=Lh (show Var w90 w.heap.size (fdC none) from hs);have HBD:=Lh (HBC.out.trans (ht.below HBC.out.size fun k hk e=>by omega));clear ht hs)
     | go_in)
    exact Qj 38 rfl rfl rfl HVD.out Try.underlying38 rfl Za ⟨by rw [← HE.out],HBD.out⟩
  | some ix =>
   obtain ⟨i,x⟩:=ix
   have hin:i<n:=by rw [← hNm];exact Qn4 (by omega) (fun y hy=>by
    obtain ⟨z,hz,rfl⟩:=List.mem_map.1 hy
    exact (hI q hqm).2 z hz) hLk
   obtain ⟨q2,hq2⟩:∃ q,ML[i]?=some q:=⟨ML[i]'(by omega),List.getElem?_eq_getElem _⟩
   have hbd:=(hI2 q2 (List.mem_of_getElem? hq2)).2
   dsimp only at hRR
   rw [Zo hq2] at hRR
   dsimp only [Qgz] at HFM hRR
   have HRR:=Lh hRR
   have HQ:=Lh hq2
   have i1:(0:Int)≤(i:Int):=by omega
   obtain ⟨hbv,hbf⟩:=hbd
   clear hR hRR hLk hq hq2 hqm hL hB hI hI2 b0
   go_enter Try.func12,Try.ntmps12
   go_wp2_with (first
    | (go_at_call 32;with_reducible refine HFM.out.mono ?_;rintro e1 wx ⟨rfl,bx⟩;have HVC:=Lh (HV1.out.under bx);have HBC:=Lh (bTr HB0 bx);have HLX:=Lh (HL1.out.under bx);clear bx)
    | go_in)
   go_loopw [11] (fun iv wr=>∃ j:Nat,iv=.int .i64 (j:Int)∧j≤q2.1.va.length∧Hid (x∉((q2.1.sm.vs).take j).map (·.1))∧wr=wx) (fun iv _=>q2.1.va.length-(intOf iv).toNat)
   case atStart=>exact ⟨0,rfl,Nat.zero_le _,Lh (by simp),rfl⟩
   case round =>
    obtain ⟨j,rfl,hj,HNO,rfl⟩:=hrel
    obtain ⟨b1,off1,q1,hA1,hq1,_,hms,_,_,_,c5,c6⟩:=HLX.out.at hin
    obtain rfl:q1=q2:=by have:=HQ.out;rw [this] at hq1;cases hq1;rfl
    subst hA1
    by_cases hlt3:j<q1.1.va.length
    ·obtain ⟨ib,io,ic,y,hv,hy,hx0,_⟩:=hms.va.vr hlt3
     have hyg:q1.1.va[j]?=some y:=hy
     obtain ⟨ynm,hyn⟩:∃ z,y.nm=z:=⟨_,rfl⟩
     have hsn:(q1.1.sm.vs)[j]?=some (y.nm,y.a):=by show (q1.1.va.map VrT.sn)[j]?=_;rw [List.getElem?_map,hy];rfl
     rw [hv] at c5
     rw [hyn] at hx0 hsn
     by_cases hyu:ynm=x
     ·have he:(ynm.toList==x.toList)=true:=by rw [Qbj];simpa using hyu
      have HE:Hid (some (i,j)=R):=Lh (by
       rw [← HRR.out,Qg0 hsn hyu HNO.out])
      clear hms hq1 hv hy hyg hyn hsn hyu
      go_wp2_with (first
       | (refine Qa rfl 38 (.tmp 8) (.tmp 56) rfl (G:=w.heap.size) (off:=0) rfl (us:=fdC (some (i,j))) HVC.out rfl Za (Nat.le_refl 3) (K7 _) ?_;intro w90 ht hs;have HVD:=Lh (show Var w90 w.heap.size (fdC (some (i,j))) from hs);have HBD:=Lh (HBC.out.trans (ht.below HBC.out.size fun k hk e=>by omega));clear ht hs)
       | go_in)
      exact Qj 38 rfl rfl rfl HVD.out Try.underlying38 rfl Za ⟨by rw [← HE.out],HBD.out⟩
     ·have he:(ynm.toList==x.toList)=false:=by rw [Qbj];simpa using hyu
      have HNO2:=Lh (show x∉((q1.1.sm.vs).take (j+1)).map (·.1) by
       rw [List.take_add_one,hsn]
       intro h
       rw [Option.toList_some,List.map_append,List.mem_append] at h
       rcases h with h | h
       ·exact HNO.out h
       ·simp at h;exact hyu h.symm)
      clear hms hq1 hv hy hyg hyn hsn hyu
      go_wp2
      go_roundw
      case rel=>exact ⟨j+1,by go_num,hlt3,HNO2,by first | rfl | trivial⟩
      case measure=>simp [intOf];omega
    ·obtain rfl:j=q1.1.va.length:=by omega
     obtain ⟨VA,vc,hvv,_⟩:=hms.va
     rw [hvv] at c5
     have HE:Hid (none=R):=Lh (by
      have hno:=HNO.out
      rw [List.take_of_length_le (by show (q1.1.va.map VrT.sn).length≤_;rw [List.length_map];exact Nat.le_refl _)] at hno
      rw [← HRR.out,Qjq hno])
     clear hms hvv hq1
     go_wp2_with (first
      | (refine Qa rfl 38 (.tmp 8) (.tmp 57) rfl (G:=w.heap.size) (off:=0) rfl (us:=fdC none) HVC.out rfl Za (Nat.le_refl 3) (K7 _) ?_;intro w90 ht hs;have HVD:=Lh (show Var w90 w.heap.size (fdC none) from hs);have HBD:=Lh (HBC.out.trans (ht.below HBC.out.size fun k hk e=>by omega));clear ht hs)
      | go_in)
     exact Qj 38 rfl rfl rfl HVD.out Try.underlying38 rfl Za ⟨by rw [← HE.out],HBD.out⟩
 ·have HE:Hid (none=R):=Lh (by
   rw [← hR]
   unfold Ju
   by_cases h0:0≤file
   ·rw [if_pos h0,List.getElem?_eq_none (by rw [Qw];omega)]
   ·rw [if_neg h0])
  have HVC:=HV1
  have HBC:=HB0
  clear hR hL hB hI hI2 b0
  by_cases h0:file<0
  all_goals
   have h1:(n:Int)≤file∨file<0:=by omega
   have h2:file<0∨(n:Int)≤file:=by omega
   have h3:¬ file<0→(n:Int)≤file:=by omega
   try (have h4:=h3 h0)
   clear h1 h2 h3
   go_enter Try.func12,Try.ntmps12
   go_wp2_with (first
    | (refine Qa rfl 38 (.tmp 8) (.tmp 20) rfl (G:=w.heap.size) (off:=0) rfl (us:=fdC none) HVC.out rfl Za (Nat.le_refl 3) (K7 _) ?_;intro w90 ht hs;have HVD:=Lh (show Var w90 w.heap.size (fdC none) from hs);have HBD:=Lh (HBC.out.trans (ht.below HBC.out.size fun k hk e=>by omega));clear ht hs)
    | go_in)
   exact Qj 38 rfl rfl rfl HVD.out Try.underlying38 rfl Za ⟨by rw [← HE.out],HBD.out⟩
theorem rfnm_any(A B:Option Addr)(n c d:Nat)(ML:List OMo)(N:List ByteArray)(S0:Nat→Prop)(w:World)(hL:Y4 w S0 A n ML)(hn:n≤1000000)(hB:Sh w w.heap.size B n (Z0 N))(hI:ImIn N ML)(hI2:MoBd ML)(file:Int)(hf1:-9223372036854775808≤file)(hf2:file≤9223372036854775807)(s:ByteArray)(hs:s.size≤1000000) :
  CP 14 #[.slice B n d,.slice A n c,.int .i64 file,.string s] w (FdTo (Ju SMd.fs N (Qm ML) file s) w):=by
 have hzf:=Qn3
 have hLn:=hL.len
 have hNm:N.length=n:=by have:=hB.len;simpa [Z0] using this
 obtain ⟨R,hR⟩:∃ R,Ju SMd.fs N (Qm ML) file s=R:=⟨_,rfl⟩
 rw [hR]
 have b0:Below w.heap.size w (w.alloc (.cells #[.int .i64 0,.int .i64 0,.bool false] 38)):=bAl
 have HB0:=Lh b0
 have HV1:=Lh (Var.new w (fdC none) 38 (c:=#[.int .i64 0,.int .i64 0,.bool false]) rfl)
 have HL1:=Lh (hL.under b0)
 have HN1:=Lh ((hB.below b0).more b0.size)
 by_cases hfile:0≤file∧file<(n:Int)
 ·obtain ⟨f,rfl⟩:∃ f:Nat,file=(f:Int):=⟨file.toNat,by omega⟩
  have hfn:f<n:=by omega
  obtain ⟨q,hq⟩:∃ q,ML[f]?=some q:=⟨ML[f]'(by omega),List.getElem?_eq_getElem _⟩
  have hqm:=List.mem_of_getElem? hq
  have HFM:=Lh (Qd5 A B n n c d ML N S0 _ HL1.out hn HN1.out hn hI f q hq s hs)
  have hRR:=hR
  unfold Ju at hRR
  rw [if_pos (by omega),Int.toNat_natCast,Zo hq] at hRR
  dsimp only at hRR
  have f1:¬ (f:Int)<0:=by omega
  have f2:(f:Int)<(n:Int):=by omega
  obtain ⟨L,hLk⟩:∃ L,Qcv N (Qm ML) q.1.sm f s=L:=⟨_,rfl⟩
  rw [hLk] at HFM hRR
  cases L with
  | none =>
   have HE:Hid (none=R):=Lh hRR
   dsimp only [Qgz] at HFM
   have m1:¬ (0:Int)≤-1:=by decide
   clear hR hRR hLk hq hqm hL hB hI hI2 b0
   go_enter Try.func14,Try.ntmps14
   go_wp2_with (first
    | (go_at_call 32;with_reducible refine HFM.out.mono ?_;rintro e1 wx ⟨rfl,bx⟩;have HVC:=Lh (HV1.out.under bx);have HBC:=Lh (bTr HB0 bx);clear bx)
    | go_in)
   go_loopw [11] (fun i wr=>i=.int .i64 0∧wr=wx) (fun _ _=>0)
   case atStart=>exact ⟨rfl,rfl⟩
   case round =>
    obtain ⟨rfl,rfl⟩:=hrel
    go_wp2_with (first
     | (refine Qa rfl 38 (.tmp 8) (.tmp 57) rfl (G:=w.heap.size) (off:=0) rfl (us:=fdC none) HVC.out rfl Za (Nat.le_refl 3) (K7 _) ?_;intro w90 ht hs;have HVD:=Lh (show Var w90 w.heap.size (fdC none) from hs);have HBD:=Lh (HBC.out.trans (ht.below HBC.out.size fun k hk e=>by omega));clear ht hs)
     | go_in)
    exact Qj 38 rfl rfl rfl HVD.out Try.underlying38 rfl Za ⟨by rw [← HE.out],HBD.out⟩
  | some ix =>
   obtain ⟨i,x⟩:=ix
   have hin:i<n:=by rw [← hNm];exact Qn4 (by omega) (fun y hy=>by
    obtain ⟨z,hz,rfl⟩:=List.mem_map.1 hy
    exact (hI q hqm).2 z hz) hLk
   obtain ⟨q2,hq2⟩:∃ q,ML[i]?=some q:=⟨ML[i]'(by omega),List.getElem?_eq_getElem _⟩
   have hbd:=(hI2 q2 (List.mem_of_getElem? hq2)).2
   dsimp only at hRR
   rw [Zo hq2] at hRR
   dsimp only [Qgz] at HFM hRR
   have HRR:=Lh hRR
   have HQ:=Lh hq2
   have i1:(0:Int)≤(i:Int):=by omega
   obtain ⟨hbv,hbf⟩:=hbd
   clear hR hRR hLk hq hq2 hqm hL hB hI hI2 b0
   go_enter Try.func14,Try.ntmps14
   go_wp2_with (first
    | (go_at_call 32;with_reducible refine HFM.out.mono ?_;rintro e1 wx ⟨rfl,bx⟩;have HVC:=Lh (HV1.out.under bx);have HBC:=Lh (bTr HB0 bx);have HLX:=Lh (HL1.out.under bx);clear bx)
    | go_in)
   go_loopw [11] (fun iv wr=>∃ j:Nat,iv=.int .i64 (j:Int)∧j≤q2.1.fn.length∧Hid (x∉((q2.1.sm.fs).take j).map (·.1))∧wr=wx) (fun iv _=>q2.1.fn.length-(intOf iv).toNat)
   case atStart=>exact ⟨0,rfl,Nat.zero_le _,Lh (by simp),rfl⟩
   case round =>
    obtain ⟨j,rfl,hj,HNO,rfl⟩:=hrel
    obtain ⟨b1,off1,q1,hA1,hq1,_,hms,_,_,_,c5,c6⟩:=HLX.out.at hin
    obtain rfl:q1=q2:=by have:=HQ.out;rw [this] at hq1;cases hq1;rfl
    subst hA1
    by_cases hlt3:j<q1.1.fn.length
    ·obtain ⟨FL,hFL,hFV,_⟩:=hms.fn
     have hfl2:FL.length=q1.1.fn.length:=by rw [← hFL,List.length_map]
     obtain ⟨ib,io,ic,y0,hv,hy,hx0,_⟩:=hFV.fn (show j<FL.length by omega)
     rw [hfl2] at hv
     have hyg:q1.1.fn[j]?=some y0.1:=by rw [← hFL,List.getElem?_map,hy];rfl
     obtain ⟨y,hyy⟩:∃ z,y0.1=z:=⟨_,rfl⟩
     rw [hyy] at hx0 hyg
     obtain ⟨ynm,hyn⟩:∃ z,y.nm=z:=⟨_,rfl⟩
     have hsn:(q1.1.sm.fs)[j]?=some (y.nm,y.a):=by show (q1.1.fn.map FnT.sn)[j]?=_;rw [List.getElem?_map,hyg];rfl
     rw [hv] at c6
     rw [hyn] at hx0 hsn
     by_cases hyu:ynm=x
     ·have he:(ynm.toList==x.toList)=true:=by rw [Qbj];simpa using hyu
      have HE:Hid (some (i,j)=R):=Lh (by
       rw [← HRR.out,Qg0 hsn hyu HNO.out])
      clear hms hq1 hv hy hyg hyn hsn hyu
      go_wp2_with (first
       | (refine Qa rfl 38 (.tmp 8) (.tmp 56) rfl (G:=w.heap.size) (off:=0) rfl (us:=fdC (some (i,j))) HVC.out rfl Za (Nat.le_refl 3) (K7 _) ?_;intro w90 ht hs;have HVD:=Lh (show Var w90 w.heap.size (fdC (some (i,j))) from hs);have HBD:=Lh (HBC.out.trans (ht.below HBC.out.size fun k hk e=>by omega));clear ht hs)
       | go_in)
      exact Qj 38 rfl rfl rfl HVD.out Try.underlying38 rfl Za ⟨by rw [← HE.out],HBD.out⟩
     ·have he:(ynm.toList==x.toList)=false:=by rw [Qbj];simpa using hyu
      have HNO2:=Lh (show x∉((q1.1.sm.fs).take (j+1)).map (·.1) by
       rw [List.take_add_one,hsn]
       intro h
       rw [Option.toList_some,List.map_append,List.mem_append] at h
       rcases h with h | h
       ·exact HNO.out h
       ·simp at h;exact hyu h.symm)
      clear hms hq1 hv hy hyg hyn hsn hyu
      go_wp2
      go_roundw
      case rel=>exact ⟨j+1,by go_num,hlt3,HNO2,by first | rfl | trivial⟩
      case measure=>simp [intOf];omega
    ·obtain rfl:j=q1.1.fn.length:=by omega
     obtain ⟨FL,hFL,hFV,_⟩:=hms.fn
     have hfl2:FL.length=q1.1.fn.length:=by rw [← hFL,List.length_map]
     obtain ⟨VA,vc,hvv,_⟩:=hFV
     rw [hfl2] at hvv
     rw [hvv] at c6
     have HE:Hid (none=R):=Lh (by
      have hno:=HNO.out
      rw [List.take_of_length_le (by show (q1.1.fn.map FnT.sn).length≤_;rw [List.length_map];exact Nat.le_refl _)] at hno
      rw [← HRR.out,Qjq hno])
     clear hms hvv hq1
     go_wp2_with (first
      | (refine Qa rfl 38 (.tmp 8) (.tmp 57) rfl (G:=w.heap.size) (off:=0) rfl (us:=fdC none) HVC.out rfl Za (Nat.le_refl 3) (K7 _) ?_;intro w90 ht hs;have HVD:=Lh (show Var w90 w.heap.size (fdC none) from hs);have HBD:=Lh (HBC.out.trans (ht.below HBC.out.size fun k hk e=>by omega));clear ht hs)
      | go_in)
     exact Qj 38 rfl rfl rfl HVD.out Try.underlying38 rfl Za ⟨by rw [← HE.out],HBD.out⟩
 ·have HE:Hid (none=R):=Lh (by
   rw [← hR]
   unfold Ju
   by_cases h0:0≤file
   ·rw [if_pos h0,List.getElem?_eq_none (by rw [Qw];omega)]
   ·rw [if_neg h0])
  have HVC:=HV1
  have HBC:=HB0
  clear hR hL hB hI hI2 b0
  by_cases h0:file<0
  all_goals
   have h1:(n:Int)≤file∨file<0:=by omega
   have h2:file<0∨(n:Int)≤file:=by omega
   have h3:¬ file<0→(n:Int)≤file:=by omega
   try (have h4:=h3 h0)
   clear h1 h2 h3
   go_enter Try.func14,Try.ntmps14
   go_wp2_with (first
    | (refine Qa rfl 38 (.tmp 8) (.tmp 20) rfl (G:=w.heap.size) (off:=0) rfl (us:=fdC none) HVC.out rfl Za (Nat.le_refl 3) (K7 _) ?_;intro w90 ht hs;have HVD:=Lh (show Var w90 w.heap.size (fdC none) from hs);have HBD:=Lh (HBC.out.trans (ht.below HBC.out.size fun k hk e=>by omega));clear ht hs)
    | go_in)
   exact Qj 38 rfl rfl rfl HVD.out Try.underlying38 rfl Za ⟨by rw [← HE.out],HBD.out⟩
def Qjr(l:List Nat):List Value:=l.map fun (i:Nat)=>Value.int .i64 (i:Int)
theorem Qaq(l:List Nat)(i:Nat):Qjr (l++[i])=Qjr l++[.int .i64 (i:Int)]:=by simp [Qjr]
theorem Qjs:Kq Try.prog 43 3 1 8:=Kq.mk (z:=.int .i64 0) Try.underlying43 (by kernel_rfl) rfl (by omega)
def Qbs(l:List Nat)(w:World)(e:Ending)(w':World):Prop:=∃ v,e=.returned v∧Own w' w.heap.size 3 1 v l.length (Qjr l)∧Below w.heap.size w w'
theorem gfree_sm{N:List ByteArray}{M:List SMd}{D:List Nat}{i:Nat}{m:SMd}(hm:M[i]?=some m):Y3 (edg N M) D i=(!D.contains i&&m.im.all fun x=>D.contains (Zl N x.1)):=by
 rw [Bool.eq_iff_iff,Qan]
 simp only [Bool.and_eq_true,Bool.not_eq_true',List.all_eq_true,List.contains_iff_mem,Bool.eq_false_iff,ne_eq]
 constructor
 ·rintro ⟨h1,h2⟩
  exact ⟨by simpa using h1,fun x hx=>by simpa using h2 (i,Zl N x.1) (K4.2 ⟨m,hm,x,hx,rfl⟩) rfl⟩
 ·rintro ⟨h1,h2⟩
  refine ⟨by simpa using h1,fun p hp e=>?_⟩
  obtain ⟨m',hm',x,hx,e2⟩:=K4.1 hp
  rw [e,hm] at hm'
  cases hm'
  rw [e2]
  simpa using h2 x hx
theorem Qfa(D:List Nat)(i:Nat):Qks (fun j=>D.contains j) i=fun j=>(D++[i]).contains j:=by
 funext j
 unfold Qks
 by_cases h:j=i <;> simp [h]
theorem Qd6{E:List (Nat×Nat)}{n i:Nat}{D:List Nat}(hi:i<n)(hf:Y3 E D i=true)(hno:∀ j,j<i→Y3 E D j=false):Qde E n D=D++[i]:=by
 unfold Qde
 have:(List.range n).find? (Y3 E D)=some i:=by
  rw [List.find?_eq_some_iff_getElem]
  refine ⟨hf,i,by simpa using hi,by simp,fun j hj=>?_⟩
  rw [List.getElem_range]
  simpa using hno j hj
 rw [this]
theorem Qd7{E:List (Nat×Nat)}{n:Nat}{D:List Nat}(hno:∀ j,j<n→Y3 E D j=false):Qde E n D=D:=by
 unfold Qde
 have:(List.range n).find? (Y3 E D)=none:=by
  rw [List.find?_eq_none]
  intro j hj
  rw [hno j (List.mem_range.1 hj)]
  decide
 rw [this]
theorem Qn5(E:List (Nat×Nat))(n:Nat)(D:List Nat):(Qde E n D).length≤D.length+1:=by
 unfold Qde
 split <;> simp
theorem Qfb(E:List (Nat×Nat))(n:Nat):∀ t,(Qcu E n t).length≤t
 | 0=>Nat.le_refl _
 | t+1=>by
  rw [Qcu]
  have:=Qn5 E n (Qcu E n t)
  have:=Qfb E n t
  omega
theorem own_hi{g j n c:Nat}(hj:(Value.slice (some ⟨g,0,none⟩) n c).ownBlock=some j)(e:g+1≤j):False:=by
 have h1:g=j:=by simpa [Value.ownBlock] using hj
 omega
theorem Qkz(A B:Option Addr)(n c d:Nat)(ML:List OMo)(N:List ByteArray)(S0:Nat→Prop)(w:World)(hL:Y4 w S0 A n ML)(hn:n≤1000000)(hB:Sh w w.heap.size B n (Z0 N))(hI:ImIn N ML) :
  CP 21 #[.slice B n d,.slice A n c] w (Qbs (Qnr N (Qm ML)) w):=by
 have HLn:=Lh hL.len
 have hNm:N.length=n:=by have:=hB.len;simpa [Z0] using this
 obtain ⟨w1,hmk,ho1,hb1⟩:=Qd3 w n hn
 have hw1:w.heap.size+1≤w1.heap.size:=(ho1.1.lt _ rfl).2
 have HB1:=Lh hb1
 have HFIND:=Lh (fun (wx:World) (b:Below w.heap.size w wx) (s:ByteArray) (hs:s∈N)=>(by
  have:=Z4 B n d N s wx w.heap.size (hB.below b) (by unfold maxLen;omega)
  rw [Yg hs] at this
  exact this:CP 34 #[.slice B n d,.string s] wx fun e w'=>e=.returned (.int .i64 (Zl N s:Int))∧wx=w'))
 have HCEL:=Lh (fun (wx:World) (S:Nat→Bool) (ho:Own wx w.heap.size 4 1 (.slice (some ⟨w.heap.size,0,none⟩) n n) n (Ys n S)) (j:Nat) (hj:j<n)=>(by
  obtain ⟨b,off,u,e,hb,hu,hc⟩:=ho.sh.at hj
  cases e
  rw [Qjl hu,Nat.zero_add] at hc
  refine ⟨hc,?_⟩
  rcases ho.1.2 with ⟨e1,_⟩ | ⟨g,cap,cur,e1,_,hh,_⟩
  ·cases e1
  ·cases e1
   simp [World.frozen?,hh]:wx.cell? ⟨w.heap.size,j,none⟩=some (.bool (S j))∧wx.frozen? ⟨w.heap.size,j,none⟩=false))
 have HSET:=Lh (fun (wx:World) (D:List Nat) (ho:Own wx w.heap.size 4 1 (.slice (some ⟨w.heap.size,0,none⟩) n n) n (Ys n fun j=>D.contains j)) (j:Nat) (hj:j<n)=>(by
  have:=ho.set1q j (by omega) (.bool true)
  rw [Qgr n _ hj,Qfa] at this
  exact this:Own (wx.setCell ⟨w.heap.size,j,none⟩ (.bool true)) w.heap.size 4 1 (.slice (some ⟨w.heap.size,0,none⟩) n n) n (Ys n fun k=>(D++[j]).contains k)))
 obtain ⟨E,hE⟩:∃ E,edg N (Qm ML)=E:=⟨_,rfl⟩
 have HE:=Lh hE
 unfold Qnr
 rw [Qw,HLn.out,hE]
 have HNm:=Lh hNm
 have HII:=Lh hI
 have HLL:=Lh hL
 have O1:=Lh (show Own w1 w.heap.size 4 1 (.slice (some ⟨w.heap.size,0,none⟩) n n) n (Ys n fun j=>(Qcu E n 0).contains j) from ho1)
 clear ho1 hb1 hB hNm hE hI hL
 go_enter Try.func21,Try.ntmps21
 go_wp2
 clear hmk
 go_loopw [5,7] (fun v i wr=>∃ t:Nat,i=.int .i64 (t:Int)∧t≤n∧Hid (Own wr (w.heap.size+1) 3 1 v (Qcu E n t).length (Qjr (Qcu E n t)))∧Hid (Own wr w.heap.size 4 1 (.slice (some ⟨w.heap.size,0,none⟩) n n) n (Ys n fun j=>(Qcu E n t).contains j))∧Hid (Below w.heap.size w wr)) (fun _ i _=>n-(intOf i).toNat)
 case atStart=>exact ⟨0,rfl,Nat.zero_le _,Lh (Own.nil _ _ _ _ hw1),O1,HB1⟩
 case round =>
  obtain ⟨t,rfl,ht,HV,HO,HB⟩:=hrel
  obtain ⟨wa,hwa⟩:∃ wa,wa=wr:=⟨_,rfl⟩
  subst hwa
  by_cases hlt:t<n
  ·have HT:=Lh (show Qcu E n (t+1)=Qde E n (Qcu E n t) from rfl)
   have hdl:=Qfb E n t
   obtain ⟨D,hD⟩:∃ D,Qcu E n t=D:=⟨_,rfl⟩
   rw [hD] at HO HT HV hdl
   clear hD
   obtain ⟨VA,vc,hv⟩:=HV.out.form
   subst hv
   go_wp2
   go_loopw [5,8] (fun v i wr=>∃ k:Nat,v=.slice VA D.length vc∧i=.int .i64 (k:Int)∧k≤n∧Hid (∀ j,j<k→Y3 E D j=false)∧wr=wa) (fun _ i _=>n-(intOf i).toNat)
   case atStart=>exact ⟨0,rfl,rfl,Nat.zero_le _,Lh (fun j hj=>absurd hj (Nat.not_lt_zero _)),rfl⟩
   case round =>
    obtain ⟨k,rfl,rfl,hk,HNO,rfl⟩:=hrel
    obtain ⟨wb,hwb⟩:∃ wb,wb=wr:=⟨_,rfl⟩
    subst hwb
    by_cases hlt2:k<n
    ·obtain ⟨b0,off0,q,hA0,hq,hqm,hms,c0,_⟩:=(HLL.out.under HB.out).at hlt2
     have HIq:=Lh (HII.out q hqm)
     have hlq:=HIq.out.1
     have HGF:=Lh (show Y3 E D k=(!D.contains k&&q.1.sm.im.all fun x=>D.contains (Zl N x.1)) by rw [← HE.out];exact gfree_sm (Zo hq))
     obtain ⟨ca,fa⟩:=HCEL.out wb _ HO.out k hlt2
     obtain ⟨bk,hbk⟩:∃ b,D.contains k=b:=⟨_,rfl⟩
     rw [hbk] at ca HGF
     have HMS:=Lh hms.im
     subst hA0
     clear hq hqm hms hbk
     go_wp2
     go_loopw [9,10] (fun fb i wr=>∃ j:Nat,fb=.bool (!bk&&(q.1.im.take j).all fun x=>D.contains (Zl N x.nm))∧i=.int .i64 (j:Int)∧j≤q.1.im.length∧wr=wb) (fun _ i _=>q.1.im.length-(intOf i).toNat)
     case atStart=>exact ⟨0,by simp,rfl,Nat.zero_le _,rfl⟩
     case round =>
      obtain ⟨j,rfl,rfl,hj,rfl⟩:=hrel
      by_cases hlt3:j<q.1.im.length
      ·obtain ⟨ib,io,ic,x,hv,hx,hxm,d0,d1⟩:=HMS.out.nm hlt3
       rw [hv] at c0
       have m1:x.nm∈N:=HIq.out.2 x hxm
       have F1:=Lh (HFIND.out wr HB.out x.nm m1)
       have l1:Zl N x.nm<n:=by rw [← HNm.out];exact K3 m1
       obtain ⟨cb,_⟩:=HCEL.out wr _ HO.out _ l1
       have htk:(q.1.im.take (j+1)).all (fun x=>D.contains (Zl N x.nm))=((q.1.im.take j).all (fun x=>D.contains (Zl N x.nm))&&D.contains (Zl N x.nm)):=by
        rw [List.take_add_one,hx]
        simp
       have HTK:=Lh htk
       obtain ⟨y,hy⟩:∃ y,Zl N x.nm=y:=⟨_,rfl⟩
       rw [hy] at F1 l1 cb HTK
       obtain ⟨fz,hfz⟩:∃ b,(!bk&&(q.1.im.take j).all fun x=>D.contains (Zl N x.nm))=b:=⟨_,rfl⟩
       obtain ⟨yz,hyz⟩:∃ b,D.contains y=b:=⟨_,rfl⟩
       have HFZ:=Lh (show (!bk&&(q.1.im.take (j+1)).all fun x=>D.contains (Zl N x.nm))=(fz&&yz) by rw [HTK.out,← hfz,← hyz,Bool.and_assoc])
       rw [hfz]
       rw [hyz] at cb
       clear htk hx hxm m1 hv hy hfz hyz HTK
       cases fz with
       | true =>
        go_wp2_with (first
         | (go_at_call 34;with_reducible refine F1.out.mono ?_;rintro e wx ⟨rfl,rfl⟩)
         | go_in)
        go_roundw
        case rel=>exact ⟨j+1,by rw [HFZ.out];simp,by go_num,hlt3,by first | rfl | trivial⟩
        case measure=>simp [intOf];omega
       | false =>
        go_wp2
        go_roundw
        case rel=>exact ⟨j+1,by rw [HFZ.out];simp,by go_num,hlt3,by first | rfl | trivial⟩
        case measure=>simp [intOf];omega
      ·obtain rfl:j=q.1.im.length:=by omega
       have HGG:=Lh (show Y3 E D k=(!bk&&(q.1.im.take q.1.im.length).all fun x=>D.contains (Zl N x.nm)) by
        rw [HGF.out,List.take_length]
        congr 1
        show (q.1.im.map NmT.sn).all _=_
        rw [List.all_map]
        rfl)
       obtain ⟨IA,ic,hv,_⟩:=HMS.out
       rw [hv] at c0
       obtain ⟨fz,hfz⟩:∃ b,(!bk&&(q.1.im.take q.1.im.length).all fun x=>D.contains (Zl N x.nm))=b:=⟨_,rfl⟩
       rw [hfz] at HGG
       rw [hfz]
       clear hfz hv
       cases fz with
       | true =>
        have HS:=Lh (HSET.out wr D HO.out k hlt2)
        have HD2:=Lh (Qd6 hlt2 HGG.out HNO.out)
        have HTN:=Lh (Tn.set (M:=fun j=>j=w.heap.size) wr w.heap.size k (.bool true) rfl)
        have HV2:=Lh (HV.out.turn HTN.out fun j hj e=>by have:=HV.out.block_ge j hj;omega)
        have HB2:=Lh (HB.out.setCell (p:=⟨w.heap.size,k,none⟩) nLe (.bool true))
        go_wp2_with (first
         | (at_builtin;refine Hid.out ?_)
         | go_in)
        refine Lh ?_
        refine Zd rfl (.tmp 62) (.tmp 64) 43 rfl Qjs _ _ (w.heap.size+1) _ _ _ [.int .i64 (k:Int)] rfl HV2.out (by simp [Act.eval]) rfl (by intro u hu;simp at hu;subst hu;rfl) bRf (by omega) (by omega) ?_
        intro v2 w2 ho2 hb2
        have HO2:=Lh (HS.out.turn (M:=fun j=>w.heap.size+1≤j) ⟨hb2.os,hb2.tape,hb2.output,hb2.size,fun j hj hM=>hb2.block j (by omega)⟩ fun j hj e=>own_hi hj e)
        have HB3:=Lh (HB2.out.trans (hb2.mono (by omega)))
        go_wp2
        refine ⟨⟨t+1,by go_num,hlt,Lh (by rw [HT.out,HD2.out,Qaq,List.length_append];exact ho2),Lh (by rw [HT.out,HD2.out];exact HO2.out),HB3⟩,by simp [intOf];omega⟩
       | false =>
        have HNO2:=Lh (show ∀ j,j<k+1→Y3 E D j=false from fun j hj=>by
         rcases Nat.lt_succ_iff_lt_or_eq.1 hj with h | h
         ·exact HNO.out j h
         ·rw [h];exact HGG.out)
        go_wp2
        go_roundw
        case rel=>exact ⟨k+1,rfl,by go_num,hlt2,HNO2,by first | rfl | trivial⟩
        case measure=>simp [intOf];omega
    ·obtain rfl:k=n:=by omega
     have HD2:=Lh (Qd7 HNO.out)
     go_wp2
     go_roundw
     case rel=>exact ⟨t+1,by go_num,hlt,Lh (by rw [HT.out,HD2.out];exact HV.out),Lh (by rw [HT.out,HD2.out];exact HO.out),HB⟩
     case measure=>simp [intOf];omega
  ·obtain rfl:t=n:=by omega
   go_wp2
   go_ret
   exact ⟨_,rfl,HV.out.lower (by omega),HB.out⟩
end Go.Proofs.Ytjoclbeoafeebaa
