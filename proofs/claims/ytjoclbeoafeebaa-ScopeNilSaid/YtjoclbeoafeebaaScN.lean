import Derived.Test.YtjoclbeoafeebaaSq
import Derived.Test.YtjoclbeoafeebaaScJ
set_option maxHeartbeats 3200000
set_option maxRecDepth 100000
namespace Go.Proofs.Ytjoclbeoafeebaa
set_option linter.unusedVariables false
set_option linter.unusedSimpArgs false
open Go.RowKit
theorem Qkx(A B:Option Addr)(n m c d:Nat)(ML:List OMo)(N:List ByteArray)(S0:Nat→Prop)(w:World)(hL:Y4 w S0 A n ML)(hn:n≤1000000)(hB:Sh w w.heap.size B m (Z0 N))(hm:m≤1000000)(hmd:m≤d)(hsz:∀ s∈N,s.size≤1000000)(hI:MoBd ML) :
  CP 10 #[.slice B m d,.slice A n c] w (Qb7 (Qe8 N (Qm ML)) w):=by
 have hzb:=Qjp
 have hzn:=Qba
 have hzv:=Qe9
 have hzf:=Qf7
 have hLn:=hL.len
 have hNm:N.length=m:=by have:=hB.len;simpa [Z0] using this
 obtain ⟨R,hR⟩:∃ R,Qe8 N (Qm ML)=R:=⟨_,rfl⟩
 have hRR:=hR
 unfold Qe8 at hRR
 rw [Qw,hLn,hNm] at hRR
 rw [hR]
 have b0:Below w.heap.size w (w.alloc (.cells #[.int .i64 0,.int .i64 0,.int .i64 0] 33)):=bAl
 have HB0:=Lh b0
 have HV1:=Lh (Var.new w (bdC 0 0 0) 33 (c:=#[.int .i64 0,.int .i64 0,.int .i64 0]) rfl)
 have HL1:=Lh (hL.under b0)
 have HN1:=Lh ((hB.below b0).more b0.size)
 by_cases hc:m=n∧n≠0∧n≤64
 ·rw [if_pos hc] at hRR
  obtain ⟨rfl,hn0,hn64⟩:=hc
  have t1:((m:Int)==0)=false:=by simpa using hn0
  have t2:¬ (64:Int)<(m:Int):=by omega
  have t3:((m:Int) != (m:Int))=false:=by simp
  have HIM:=Lh (Qgx A B m c d ML N S0 _ HL1.out hn HN1.out hmd hsz hI)
  obtain ⟨RI,hRI⟩:∃ RI,Zk N (Qm ML)=RI:=⟨_,rfl⟩
  rw [hRI] at HIM hRR
  have HRR:=Lh hRR
  clear hRR hR b0 hB
  unfold Qb7 at HIM
  cases RI with
  | some b =>
   obtain ⟨i,a,e⟩:=b
   have hne:¬ e=0:=Qd4 hRI
   have hne1:(e != 0)=true:=by simp [hne]
   have hne2:(e==0)=false:=by simp [hne]
   have HE:Hid (R=some (i,a,e)):=Lh HRR.out.symm
   clear HRR hRI
   go_enter Try.func10,Try.ntmps10
   go_wp2_with (first
    | (go_at_call 29;with_reducible refine HIM.out.mono ?_;rintro e1 wx ⟨rfl,bx⟩;have HVC:=Lh (HV1.out.under bx);have HBC:=Lh (bTr HB0 bx);have HVX:=Lh (Var.new wx (bdC 0 0 0) 33 (c:=#[.int .i64 0,.int .i64 0,.int .i64 0]) rfl);have hwx:=HVC.out.lt;clear bx;dsimp only [Uq])
    | (refine Qa rfl 33 (.tmp 5) (.tmp 26) rfl (G:=wx.heap.size) (off:=0) rfl (us:=bdC (i:Int) a e) HVX.out rfl Qv (Nat.le_refl 3) (Jn _ _ _) ?_;intro w6 ht hs;have ta:=Tn.alloc (fun k=>k=wx.heap.size) wx (.cells #[.int .i64 0,.int .i64 0,.int .i64 0] 33);have tb:=ta.trans ht;have b2:=tb.below nLe (by intro k hk e;omega);have HVC:=Lh (HVC.out.under b2);have HBC:=Lh (bTr HBC b2);have HVX:=Lh (show Var w6 wx.heap.size (bdC (i:Int) a e) from hs);have k2:=HVX.out.at 2 (v:=.int .i64 e) rfl;clear ht hs ta tb b2)
    | (refine Qb rfl 33 (.tmp 5) rfl wx.heap.size 0 rfl (bdC (i:Int) a e) HVX.out.rg Try.underlying33 rfl Qv ?_)
    | (refine Qa rfl 33 (.tmp 4) (.tmp 30) rfl (G:=w.heap.size) (off:=0) rfl (us:=bdC (i:Int) a e) HVC.out rfl Qv (Nat.le_refl 3) (Jn _ _ _) ?_;intro w90 ht hs;have HVD:=Lh hs;have HBD:=Lh (HBC.out.trans (ht.below HBC.out.size fun k hk e=>by omega));clear ht hs)
    | go_in)
   exact Qj 33 rfl rfl rfl HVD.out Try.underlying33 rfl Qv (Qb7.some HE.out HBD.out)
  | none =>
   have HII:=Lh hI
   clear hRI
   obtain ⟨z0,hz0⟩:∃ z,nth SMd.hl (Qm ML) 0 0=z:=⟨_,rfl⟩
   obtain ⟨z1,hz1⟩:∃ z,nth SMd.hl (Qm ML) 1 0=z:=⟨_,rfl⟩
   obtain ⟨z2,hz2⟩:∃ z,nth SMd.he (Qm ML) 1 0=z:=⟨_,rfl⟩
   have hr:=HRR.out
   dsimp only at hr
   rw [hz0,hz1,hz2] at hr
   have HZ0:=Lh hz0
   have HZ1:=Lh hz1
   have HZ2:=Lh hz2
   clear hz0 hz1 hz2 HRR hI
   by_cases h0:z0<0
   ·rw [if_pos h0] at hr
    have HE:Hid (R=some (0,0,17)):=Lh hr.symm
    clear hr
    go_enter Try.func10,Try.ntmps10
    go_wp2_with (first
     | (go_at_call 29;with_reducible refine HIM.out.mono ?_;rintro e1 wx ⟨rfl,bx⟩;have HVC:=Lh (HV1.out.under bx);have HBX:=Lh bx;have HBC:=Lh (bTr HB0 bx);have HVX:=Lh (Var.new wx (bdC 0 0 0) 33 (c:=#[.int .i64 0,.int .i64 0,.int .i64 0]) rfl);have hwx:=HVC.out.lt;clear bx;dsimp only [Uq])
     | (refine Qa rfl 33 (.tmp 5) (.tmp 26) rfl (G:=wx.heap.size) (off:=0) rfl (us:=bdC 0 0 0) HVX.out rfl Qv (Nat.le_refl 3) (Jn _ _ _) ?_;intro w6 ht hs;have ta:=Tn.alloc (fun k=>k=wx.heap.size) wx (.cells #[.int .i64 0,.int .i64 0,.int .i64 0] 33);have tb:=ta.trans ht;have b2:=tb.below nLe (by intro k hk e;omega);have HVC:=Lh (HVC.out.under b2);have HBC:=Lh (bTr HBC b2);have HB6:=Lh (bTr HBX b2);have HVX:=Lh (show Var w6 wx.heap.size (bdC 0 0 0) from hs);have k2:=HVX.out.at 2 (v:=.int .i64 0) rfl;have HLA0:Hid (CP 17 #[.slice A m c,.int .i64 0] w6 fun e wq=>e=.returned (.int .i64 z0)∧w6=wq):=Lh (by have hz:=Yh A m c ML S0 w6 (HL1.out.under HB6.out) hn 0 (by decide);rw [HZ0.out] at hz;exact hz);have HLA1:Hid (CP 17 #[.slice A m c,.int .i64 1] w6 fun e wq=>e=.returned (.int .i64 z1)∧w6=wq):=Lh (by have hz:=Yh A m c ML S0 w6 (HL1.out.under HB6.out) hn 1 (by decide);rw [HZ1.out] at hz;exact hz);have HEF1:Hid (CP 19 #[.slice A m c,.int .i64 1] w6 fun e wq=>e=.returned (.int .i64 z2)∧w6=wq):=Lh (by have hz:=Qao A m c ML S0 w6 (HL1.out.under HB6.out) hn 1 (by decide);rw [HZ2.out] at hz;exact hz);have HTW:=Lh (Uf A m c ML S0 w6 (HL1.out.under HB6.out) hn HII.out);clear ht hs ta tb b2)
     | (go_at_call 17;with_reducible refine HLA0.out.mono ?_;rintro e1 wy ⟨rfl,rfl⟩)
     | (refine Qa rfl 33 (.tmp 4) (.tmp 34) rfl (G:=w.heap.size) (off:=0) rfl (us:=bdC 0 0 17) HVC.out rfl Qv (Nat.le_refl 3) (Jn _ _ _) ?_;intro w90 ht hs;have HVD:=Lh hs;have HBD:=Lh (HBC.out.trans (ht.below HBC.out.size fun k hk e=>by omega));clear ht hs)
     | go_in)
    exact Qj 33 rfl rfl rfl HVD.out Try.underlying33 rfl Qv (Qb7.some (i:=0) HE.out HBD.out)
   ·rw [if_neg h0] at hr
    by_cases h1:0≤z1
    ·rw [if_pos h1] at hr
     have HE:Hid (R=some (z1.toNat,0,17)):=Lh hr.symm
     have HZN:=Lh (show ((z1.toNat:Nat):Int)=z1 by omega)
     clear hr
     go_enter Try.func10,Try.ntmps10
     go_wp2_with (first
      | (go_at_call 29;with_reducible refine HIM.out.mono ?_;rintro e1 wx ⟨rfl,bx⟩;have HVC:=Lh (HV1.out.under bx);have HBX:=Lh bx;have HBC:=Lh (bTr HB0 bx);have HVX:=Lh (Var.new wx (bdC 0 0 0) 33 (c:=#[.int .i64 0,.int .i64 0,.int .i64 0]) rfl);have hwx:=HVC.out.lt;clear bx;dsimp only [Uq])
      | (refine Qa rfl 33 (.tmp 5) (.tmp 26) rfl (G:=wx.heap.size) (off:=0) rfl (us:=bdC 0 0 0) HVX.out rfl Qv (Nat.le_refl 3) (Jn _ _ _) ?_;intro w6 ht hs;have ta:=Tn.alloc (fun k=>k=wx.heap.size) wx (.cells #[.int .i64 0,.int .i64 0,.int .i64 0] 33);have tb:=ta.trans ht;have b2:=tb.below nLe (by intro k hk e;omega);have HVC:=Lh (HVC.out.under b2);have HBC:=Lh (bTr HBC b2);have HB6:=Lh (bTr HBX b2);have HVX:=Lh (show Var w6 wx.heap.size (bdC 0 0 0) from hs);have k2:=HVX.out.at 2 (v:=.int .i64 0) rfl;have HLA0:Hid (CP 17 #[.slice A m c,.int .i64 0] w6 fun e wq=>e=.returned (.int .i64 z0)∧w6=wq):=Lh (by have hz:=Yh A m c ML S0 w6 (HL1.out.under HB6.out) hn 0 (by decide);rw [HZ0.out] at hz;exact hz);have HLA1:Hid (CP 17 #[.slice A m c,.int .i64 1] w6 fun e wq=>e=.returned (.int .i64 z1)∧w6=wq):=Lh (by have hz:=Yh A m c ML S0 w6 (HL1.out.under HB6.out) hn 1 (by decide);rw [HZ1.out] at hz;exact hz);have HEF1:Hid (CP 19 #[.slice A m c,.int .i64 1] w6 fun e wq=>e=.returned (.int .i64 z2)∧w6=wq):=Lh (by have hz:=Qao A m c ML S0 w6 (HL1.out.under HB6.out) hn 1 (by decide);rw [HZ2.out] at hz;exact hz);have HTW:=Lh (Uf A m c ML S0 w6 (HL1.out.under HB6.out) hn HII.out);clear ht hs ta tb b2)
      | (go_at_call 17;with_reducible refine HLA0.out.mono ?_;rintro e1 wy ⟨rfl,rfl⟩)
      | (go_at_call 17;with_reducible refine HLA1.out.mono ?_;rintro e1 wy ⟨rfl,rfl⟩)
      | (refine Qa rfl 33 (.tmp 4) (.tmp 40) rfl (G:=w.heap.size) (off:=0) rfl (us:=bdC z1 0 17) HVC.out rfl Qv (Nat.le_refl 3) (Jn _ _ _) ?_;intro w90 ht hs;have HVD:=Lh hs;have HBD:=Lh (HBC.out.trans (ht.below HBC.out.size fun k hk e=>by omega));clear ht hs)
      | go_in)
     exact Qj 33 rfl rfl rfl HVD.out Try.underlying33 rfl Qv (by rw [← HZN.out];exact Qb7.some HE.out HBD.out)
    ·rw [if_neg h1] at hr
     by_cases h2:0≤z2
     ·rw [if_pos h2] at hr
      have HE:Hid (R=some (z2.toNat,0,7)):=Lh hr.symm
      have HZN:=Lh (show ((z2.toNat:Nat):Int)=z2 by omega)
      clear hr
      go_enter Try.func10,Try.ntmps10
      go_wp2_with (first
       | (go_at_call 29;with_reducible refine HIM.out.mono ?_;rintro e1 wx ⟨rfl,bx⟩;have HVC:=Lh (HV1.out.under bx);have HBX:=Lh bx;have HBC:=Lh (bTr HB0 bx);have HVX:=Lh (Var.new wx (bdC 0 0 0) 33 (c:=#[.int .i64 0,.int .i64 0,.int .i64 0]) rfl);have hwx:=HVC.out.lt;clear bx;dsimp only [Uq])
       | (refine Qa rfl 33 (.tmp 5) (.tmp 26) rfl (G:=wx.heap.size) (off:=0) rfl (us:=bdC 0 0 0) HVX.out rfl Qv (Nat.le_refl 3) (Jn _ _ _) ?_;intro w6 ht hs;have ta:=Tn.alloc (fun k=>k=wx.heap.size) wx (.cells #[.int .i64 0,.int .i64 0,.int .i64 0] 33);have tb:=ta.trans ht;have b2:=tb.below nLe (by intro k hk e;omega);have HVC:=Lh (HVC.out.under b2);have HBC:=Lh (bTr HBC b2);have HB6:=Lh (bTr HBX b2);have HVX:=Lh (show Var w6 wx.heap.size (bdC 0 0 0) from hs);have k2:=HVX.out.at 2 (v:=.int .i64 0) rfl;have HLA0:Hid (CP 17 #[.slice A m c,.int .i64 0] w6 fun e wq=>e=.returned (.int .i64 z0)∧w6=wq):=Lh (by have hz:=Yh A m c ML S0 w6 (HL1.out.under HB6.out) hn 0 (by decide);rw [HZ0.out] at hz;exact hz);have HLA1:Hid (CP 17 #[.slice A m c,.int .i64 1] w6 fun e wq=>e=.returned (.int .i64 z1)∧w6=wq):=Lh (by have hz:=Yh A m c ML S0 w6 (HL1.out.under HB6.out) hn 1 (by decide);rw [HZ1.out] at hz;exact hz);have HEF1:Hid (CP 19 #[.slice A m c,.int .i64 1] w6 fun e wq=>e=.returned (.int .i64 z2)∧w6=wq):=Lh (by have hz:=Qao A m c ML S0 w6 (HL1.out.under HB6.out) hn 1 (by decide);rw [HZ2.out] at hz;exact hz);have HTW:=Lh (Uf A m c ML S0 w6 (HL1.out.under HB6.out) hn HII.out);clear ht hs ta tb b2)
       | (go_at_call 17;with_reducible refine HLA0.out.mono ?_;rintro e1 wy ⟨rfl,rfl⟩)
       | (go_at_call 17;with_reducible refine HLA1.out.mono ?_;rintro e1 wy ⟨rfl,rfl⟩)
       | (go_at_call 19;with_reducible refine HEF1.out.mono ?_;rintro e1 wy ⟨rfl,rfl⟩)
       | (refine Qa rfl 33 (.tmp 4) (.tmp 46) rfl (G:=w.heap.size) (off:=0) rfl (us:=bdC z2 0 7) HVC.out rfl Qv (Nat.le_refl 3) (Jn _ _ _) ?_;intro w90 ht hs;have HVD:=Lh hs;have HBD:=Lh (HBC.out.trans (ht.below HBC.out.size fun k hk e=>by omega));clear ht hs)
       | go_in)
      exact Qj 33 rfl rfl rfl HVD.out Try.underlying33 rfl Qv (by rw [← HZN.out];exact Qb7.some HE.out HBD.out)
     ·rw [if_neg h2] at hr
      have HE:=Lh hr
      clear hr
      go_enter Try.func10,Try.ntmps10
      go_wp2_with (first
       | (go_at_call 29;with_reducible refine HIM.out.mono ?_;rintro e1 wx ⟨rfl,bx⟩;have HVC:=Lh (HV1.out.under bx);have HBX:=Lh bx;have HBC:=Lh (bTr HB0 bx);have HVX:=Lh (Var.new wx (bdC 0 0 0) 33 (c:=#[.int .i64 0,.int .i64 0,.int .i64 0]) rfl);have hwx:=HVC.out.lt;clear bx;dsimp only [Uq])
       | (refine Qa rfl 33 (.tmp 5) (.tmp 26) rfl (G:=wx.heap.size) (off:=0) rfl (us:=bdC 0 0 0) HVX.out rfl Qv (Nat.le_refl 3) (Jn _ _ _) ?_;intro w6 ht hs;have ta:=Tn.alloc (fun k=>k=wx.heap.size) wx (.cells #[.int .i64 0,.int .i64 0,.int .i64 0] 33);have tb:=ta.trans ht;have b2:=tb.below nLe (by intro k hk e;omega);have HVC:=Lh (HVC.out.under b2);have HBC:=Lh (bTr HBC b2);have HB6:=Lh (bTr HBX b2);have HVX:=Lh (show Var w6 wx.heap.size (bdC 0 0 0) from hs);have k2:=HVX.out.at 2 (v:=.int .i64 0) rfl;have HLA0:Hid (CP 17 #[.slice A m c,.int .i64 0] w6 fun e wq=>e=.returned (.int .i64 z0)∧w6=wq):=Lh (by have hz:=Yh A m c ML S0 w6 (HL1.out.under HB6.out) hn 0 (by decide);rw [HZ0.out] at hz;exact hz);have HLA1:Hid (CP 17 #[.slice A m c,.int .i64 1] w6 fun e wq=>e=.returned (.int .i64 z1)∧w6=wq):=Lh (by have hz:=Yh A m c ML S0 w6 (HL1.out.under HB6.out) hn 1 (by decide);rw [HZ1.out] at hz;exact hz);have HEF1:Hid (CP 19 #[.slice A m c,.int .i64 1] w6 fun e wq=>e=.returned (.int .i64 z2)∧w6=wq):=Lh (by have hz:=Qao A m c ML S0 w6 (HL1.out.under HB6.out) hn 1 (by decide);rw [HZ2.out] at hz;exact hz);have HTW:=Lh (Uf A m c ML S0 w6 (HL1.out.under HB6.out) hn HII.out);clear ht hs ta tb b2)
       | (go_at_call 17;with_reducible refine HLA0.out.mono ?_;rintro e1 wy ⟨rfl,rfl⟩)
       | (go_at_call 17;with_reducible refine HLA1.out.mono ?_;rintro e1 wy ⟨rfl,rfl⟩)
       | (go_at_call 19;with_reducible refine HEF1.out.mono ?_;rintro e1 wy ⟨rfl,rfl⟩)
       | (go_at_call 30;rw [HE.out] at HTW;unfold Qb7 at HTW;with_reducible refine HTW.out.mono ?_;rintro e1 wz ⟨rfl,bz⟩;have HVC:=Lh (HVC.out.under bz);have HBC:=Lh (bTr HBC bz);clear bz)
       | (refine Qa rfl 33 (.tmp 4) (.tmp 48) rfl (G:=w.heap.size) (off:=0) rfl (us:=bdC (Uq R).1 (Uq R).2.1 (Uq R).2.2) HVC.out rfl Qv (Nat.le_refl 3) (Jn _ _ _) ?_;intro w90 ht hs;have HVD:=Lh hs;have HBD:=Lh (HBC.out.trans (ht.below HBC.out.size fun k hk e=>by omega));clear ht hs)
       | go_in)
      exact Qj 33 rfl rfl rfl HVD.out Try.underlying33 rfl Qv ⟨rfl,HBD.out⟩
 ·rw [if_neg hc] at hRR
  have HE:Hid (R=some (0,0,1)):=Lh hRR.symm
  have HVC:=HV1
  have HBC:=HB0
  have ts:((m:Int) != (n:Int))=true∨((m:Int) != (n:Int))=false∧(((n:Int)==0)=true∨((n:Int)==0)=false∧(64:Int)<(n:Int)):=by
   by_cases h1:m=n
   ·refine .inr ⟨by simp [h1],?_⟩
    by_cases h2:n=0
    ·exact .inl (by simp [h2])
    ·exact .inr ⟨by simpa using h2,(by have:¬ n≤64:=(fun h3=>hc ⟨h1,h2,h3⟩);omega)⟩
   ·exact .inl (by simp;omega)
  clear hRR hR hc b0
  rcases ts with t1 | ⟨t1,t2 | ⟨t2,t3⟩⟩
  all_goals
   go_enter Try.func10,Try.ntmps10
   go_wp2_with (first
    | (refine Qa rfl 33 (.tmp 4) (.tmp 23) rfl (G:=w.heap.size) (off:=0) rfl (us:=bdC 0 0 1) HVC.out rfl Qv (Nat.le_refl 3) (Jn _ _ _) ?_;intro w90 ht hs;have HVD:=Lh hs;have HBD:=Lh (HBC.out.trans (ht.below HBC.out.size fun k hk e=>by omega));clear ht hs)
    | go_in)
   exact Qj 33 rfl rfl rfl HVD.out Try.underlying33 rfl Qv (Qb7.some (i:=0) HE.out HBD.out)
theorem Qn1{s:ByteArray}{i:Nat}(h:i<s.size):(((s[i]'h).toNat:Int)==46)=decide (s.data.toList[i]'h=46):=by
 have e:s.data.toList[i]'h=s[i]'h:=by rw [Array.getElem_toList];rfl
 rw [e]
 by_cases hb:s[i]'h=46
 ·rw [hb];rfl
 ·have:¬ ((s[i]'h).toNat:Int)=46:=fun h2=>hb (UInt8.toNat_inj.1 (by show (s[i]'h).toNat=46;omega))
  simp [hb,this]
theorem Qgy{s:ByteArray}{d:Nat}(hd:Qa9 s.data.toList=some d):∃ hl:d<s.size,(((s[d]'hl).toNat:Int)==46)=true∧∀ j (hj:j<d) (hs:j<s.size),(((s[j]'hs).toNat:Int)==46)=false:=by
 unfold Qa9 at hd
 rw [List.findIdx?_eq_some_iff_getElem] at hd
 obtain ⟨hdl,hd1,hd2⟩:=hd
 refine ⟨hdl,by rw [Qn1];exact hd1,fun j hj hs=>?_⟩
 rw [Qn1]
 simpa using hd2 j hj
theorem Qn2{s:ByteArray}(hd:Qa9 s.data.toList=none):∀ j (hs:j<s.size),(((s[j]'hs).toNat:Int)==46)=false:=by
 unfold Qa9 at hd
 rw [List.findIdx?_eq_none_iff] at hd
 intro j hs
 rw [Qn1]
 exact hd _ (List.getElem_mem _)
theorem Qky(s:ByteArray)(w:World)(hs:s.size≤1000000)(d:Nat)(hd:Qa9 s.data.toList=some d) :
  CP 48 #[.string s] w fun e w'=>e=.returned (.tuple #[.string (s.extract 0 d),.string (s.extract (d+1) s.size)])∧Below w.heap.size w w':=by
 obtain ⟨hdl,hd1,hd2⟩:=Qgy hd
 have HD2:=Lh hd2
 have HD1:=Lh hd1
 clear hd2 hd1 hd
 go_enter Try.func48,Try.ntmps48
 go_wp2
 go_loopw [4] (fun i wr=>∃ k:Nat,i=.int .i64 (k:Int)∧k≤d∧wr=w) (fun i _=>s.size-(intOf i).toNat)
 case atStart=>exact ⟨0,rfl,Nat.zero_le _,rfl⟩
 case round =>
  obtain ⟨k,rfl,hk,rfl⟩:=hrel
  have hlt:k<s.size:=by omega
  by_cases hkd:k<d
  ·have h46:=HD2.out k hkd hlt
   go_wp2
   go_roundw
   case rel=>exact ⟨k+1,by go_num,hkd,by first | rfl | trivial⟩
   case measure=>simp [intOf];omega
  ·obtain rfl:d=k:=by omega
   have h46:=HD1.out
   have hd1:d+1≤s.size:=hdl
   go_wp2
   refine Jc (by kernel_rfl) 9 rfl ?_
   refine Qj0 0 9 0 (by kernel_rfl) (fun _ _ d _ _ h=>by cases d <;> exact h) ?_
   simp only [sD,sE,sF,sG]
   repeat (go_big_quiet_step (fail))
   refine wpQuiet_nil ?_
   refine wpAny_done (by kernel_rfl) ?_ _
   go_wp2
   go_ret2
   exact ⟨rfl,Quiet.below (⟨1,rfl⟩:Quiet _ (World.drew _)) _⟩
def Qgz:Option (Nat×ByteArray)→Int×ByteArray
 | some (i,x)=>((i:Int),x)
 | none=>(-1,⟨#[]⟩)
theorem any_no{l:List SNm}{s:ByteArray}(h:s∉l.map (·.1)):(l.any fun x=>decide (x.1=s))=false:=by
 rw [List.any_eq_false]
 intro x hx e
 exact h (List.mem_map.2 ⟨x,hx,by simpa using e⟩)
theorem any_yes{l:List SNm}{x:SNm}(h:x∈l):(l.any fun y=>decide (y.1=x.1))=true:=by
 rw [List.any_eq_true]
 exact ⟨x,h,by simp⟩
theorem Qd5(A B:Option Addr)(n m c d:Nat)(ML:List OMo)(N:List ByteArray)(S0:Nat→Prop)(w:World)(hL:Y4 w S0 A n ML)(hn:n≤1000000)(hB:Sh w w.heap.size B m (Z0 N))(hm:m≤1000000)(hI:ImIn N ML)(file:Nat)(q:OMo)(hq:ML[file]?=some q)(s:ByteArray)(hs:s.size≤1000000) :
  CP 32 #[.slice B m d,.slice A n c,.int .i64 (file:Int),.string s] w fun e w'=>e=.returned (.tuple #[.int .i64 (Qgz (Qcv N (Qm ML) q.1.sm file s)).1,.string (Qgz (Qcv N (Qm ML) q.1.sm file s)).2])∧Below w.heap.size w w':=by
 have hfl:file<n:=by rw [← hL.len];exact (List.getElem?_eq_some_iff.1 hq).1
 have hqm:q∈ML:=List.mem_of_getElem? hq
 have HIM:=Lh (hI q hqm)
 have hil:=HIM.out.1
 have HLL:=Lh hL
 have HQ:=Lh hq
 unfold Qcv
 have HFIND:=Lh (fun (wx:World) (b:Below w.heap.size w wx) (t:ByteArray) (ht:t∈N)=>(by
  have:=Z4 B m d N t wx w.heap.size (hB.below b) (by unfold maxLen;omega)
  rw [Yg ht] at this
  exact this:CP 34 #[.slice B m d,.string t] wx fun e w'=>e=.returned (.int .i64 (Zl N t:Int))∧wx=w'))
 clear hL hq hqm hI hB
 cases hd:Qa9 s.data.toList with
 | none =>
  have HD:=Lh (Qn2 hd)
  clear hd
  dsimp only [Qgz]
  go_enter Try.func32,Try.ntmps32
  go_wp2
  go_loopw [10,11] (fun b i wr=>∃ k:Nat,b=.bool false∧i=.int .i64 (k:Int)∧k≤s.size∧wr=w) (fun _ i _=>s.size-(intOf i).toNat)
  case atStart=>exact ⟨0,rfl,rfl,Nat.zero_le _,rfl⟩
  case round =>
   obtain ⟨k,rfl,rfl,hk,rfl⟩:=hrel
   by_cases hlt:k<s.size
   ·have h46:=HD.out k hlt
    go_wp2
    go_roundw
    case rel=>exact ⟨k+1,rfl,by go_num,hlt,by first | rfl | trivial⟩
    case measure=>simp [intOf];omega
   ·obtain rfl:k=s.size:=by omega
    go_wp2
    go_ret2
    exact ⟨rfl,Below.refl _ _⟩
 | some dt =>
  obtain ⟨hdl,hd1,hd2⟩:=Qgy hd
  have HD1:=Lh hd1
  have HD2:=Lh hd2
  have HSP:=Lh (Qky s w hs dt hd)
  clear hd hd1 hd2
  dsimp only
  obtain ⟨u,hu⟩:∃ u,s.extract 0 dt=u:=⟨_,rfl⟩
  obtain ⟨x,hx⟩:∃ x,s.extract (dt+1) s.size=x:=⟨_,rfl⟩
  rw [hu,hx] at HSP
  rw [hu,hx]
  clear hu hx
  obtain ⟨R,hR⟩:∃ R,Qgz (if (q.1.sm.im.any fun y=>decide (y.1=u))=true then some (Zl N u,x) else none)=R:=⟨_,rfl⟩
  rw [hR]
  have HR:=Lh hR
  clear hR
  go_enter Try.func32,Try.ntmps32
  go_wp2
  go_loopw [10,11] (fun b i wr=>∃ k:Nat,b=.bool (decide (dt<k))∧i=.int .i64 (k:Int)∧k≤s.size∧wr=w) (fun _ i _=>s.size-(intOf i).toNat)
  case atStart=>exact ⟨0,by simp,rfl,Nat.zero_le _,rfl⟩
  case round =>
   obtain ⟨k,rfl,rfl,hk,rfl⟩:=hrel
   by_cases hlt:k<s.size
   ·rcases Nat.lt_trichotomy k dt with h1 | h1 | h1
    ·have h46:=HD2.out k h1 hlt
     have e1:decide (dt<k)=false:=by simp;omega
     have e2:decide (dt<k+1)=false:=by simp;omega
     rw [e1]
     go_wp2
     go_roundw
     case rel=>exact ⟨k+1,by rw [e2],by go_num,hlt,by first | rfl | trivial⟩
     case measure=>simp [intOf];omega
    ·subst h1
     have h46:=HD1.out
     have e1:decide (k<k)=false:=by simp
     have e2:decide (k<k+1)=true:=by simp
     rw [e1]
     go_wp2
     go_roundw
     case rel=>exact ⟨k+1,by rw [e2],by go_num,hlt,by first | rfl | trivial⟩
     case measure=>simp [intOf];omega
    ·have e1:decide (dt<k)=true:=by simpa using h1
     have e2:decide (dt<k+1)=true:=by simp;omega
     rw [e1]
     go_wp2
     go_roundw
     case rel=>exact ⟨k+1,by rw [e2],by go_num,hlt,by first | rfl | trivial⟩
     case measure=>simp [intOf];omega
   ·obtain rfl:k=s.size:=by omega
    have e1:decide (dt<s.size)=true:=by simpa using hdl
    rw [e1]
    go_wp2_with (first
     | (go_at_call 48;with_reducible refine HSP.out.mono ?_;rintro e wx ⟨rfl,bx⟩;have HBX:=Lh bx;clear bx)
     | go_in)
    go_loopw [14] (fun i wr=>∃ j:Nat,i=.int .i64 (j:Int)∧j≤q.1.im.length∧Hid (u∉(q.1.im.take j).map (·.nm))∧wr=wx) (fun i _=>q.1.im.length-(intOf i).toNat)
    case atStart=>exact ⟨0,rfl,Nat.zero_le _,Lh (by simp),rfl⟩
    case round =>
     obtain ⟨j,rfl,hj,HNO,rfl⟩:=hrel
     obtain ⟨b1,off1,q1,hA1,hq1,_,hms,c0,_⟩:=(HLL.out.under HBX.out).at hfl
     obtain rfl:q1=q:=by have:=HQ.out;rw [this] at hq1;cases hq1;rfl
     subst hA1
     by_cases hlt3:j<q1.1.im.length
     ·obtain ⟨ib,io,ic,y,hv,hy,hym,d0,d1⟩:=hms.im.nm hlt3
      rw [hv] at c0
      by_cases hyu:y.nm=u
      ·have he:(y.nm.toList==u.toList)=true:=by rw [Qbj];simpa using hyu
       have hun:u∈N:=by rw [← hyu];exact HIM.out.2 y hym
       have F1:=Lh (HFIND.out _ HBX.out u hun)
       have HR2:Hid (R=((Zl N u:Int),x)):=Lh (by
        rw [← HR.out,if_pos (by
         have:=any_yes (l:=q1.1.sm.im) (x:=y.sn) (List.mem_map.2 ⟨y,hym,rfl⟩)
         rwa [show y.sn.1=u from hyu] at this)]
        rfl)
       clear hms hq1 hv hy hym hyu hun
       go_wp2_with (first
        | (go_at_call 34;with_reducible refine F1.out.mono ?_;rintro e wz ⟨rfl,rfl⟩)
        | go_in)
       go_ret2
       rw [HR2.out]
       exact ⟨rfl,HBX.out⟩
      ·have he:(y.nm.toList==u.toList)=false:=by rw [Qbj];simpa using hyu
       have HNO2:=Lh (show u∉(q1.1.im.take (j+1)).map (·.nm) by
        rw [List.take_add_one,hy]
        intro h
        rw [Option.toList_some,List.map_append,List.mem_append] at h
        rcases h with h | h
        ·exact HNO.out h
        ·simp at h;exact hyu h.symm)
       clear hms hq1 hv hy hym hyu
       go_wp2
       go_roundw
       case rel=>exact ⟨j+1,by go_num,hlt3,HNO2,by first | rfl | trivial⟩
       case measure=>simp [intOf];omega
     ·obtain rfl:j=q1.1.im.length:=by omega
      obtain ⟨VA,vc,hvv,_⟩:=hms.im
      rw [hvv] at c0
      have HR2:Hid (R=(-1,⟨#[]⟩)):=Lh (by
       have hno:=HNO.out
       rw [List.take_length] at hno
       rw [← HR.out,if_neg (by
        rw [any_no (l:=q1.1.sm.im) (by
         show u∉(q1.1.im.map NmT.sn).map (·.1)
         rw [List.map_map]
         exact hno)]
        decide)]
       rfl)
      clear hms hvv hq1
      go_wp2
      go_ret2
      rw [HR2.out]
      exact ⟨rfl,HBX.out⟩
end Go.Proofs.Ytjoclbeoafeebaa
