import Derived.Test.YtjoclbeoafeebaaSq
import Derived.Test.YtjoclbeoafeebaaScC
import Derived.Deep.Slices
import Derived.ChangeSame
import Derived.ChangeSlices
import Derived.Lib.SmallJoins
import Derived.Deep.Fields
set_option maxHeartbeats 6400000
set_option maxRecDepth 100000
namespace Go.Proofs.Ytjoclbeoafeebaa
set_option linter.unusedVariables false
set_option linter.unusedSimpArgs false
open Go.RowKit
theorem Qar{ML:List OMo}(h:∀ q∈ML,q.1.Fine∧q.1.Cap 1000):MoBd ML:=fun q hq=>by
 have:=(h q hq).2
 exact ⟨Nat.le_trans this.im (by decide),Nat.le_trans this.va (by decide),Nat.le_trans this.fn (by decide)⟩
theorem Qn6{N:List ByteArray}{ML:List OMo}(h:∀ q∈ML,q.1.Fine∧q.1.Cap 1000)(hz:Qe8 N (Qm ML)=none):ImIn N ML:=fun q hq =>
 ⟨(Qar h q hq).1,fun x hx=>(Qh9 hz).im q.1.sm (List.mem_map.2 ⟨q,hq,rfl⟩) x.sn (List.mem_map.2 ⟨x,hx,rfl⟩)⟩
theorem Y4.turn{w w':World}{S S' M:Nat→Prop}{A:Option Addr}{n:Nat}{ML:List OMo}(h:Y4 w S A n ML)(ht:Tn M w w')(hS:∀ b,S b→b<w.heap.size→S' b∧¬ M b):Y4 w' S' A n ML:=h.keep fun b h1 h2=>⟨(hS b h1 h2).1,Nat.lt_of_lt_of_le h2 ht.size,ht.block b h2 (hS b h1 h2).2⟩
theorem Qas(x:Int):(x != x)=false:=by simp
theorem Qat(x:Int):(x==x)=true:=by simp
theorem Qn7(x:Bool):(x != x)=false:=by cases x <;> rfl
theorem Qn8(x:Bool):(x==x)=true:=by cases x <;> rfl
theorem fd_one(a b:Int)(c:Bool):∀ u∈[Value.int .i64 a,.int .i64 b,.bool c],u.oneCell'=true:=by
 intro u hu;simp at hu;rcases hu with rfl | rfl | rfl <;> rfl
theorem Qdf(HI:Qid)(HA:Aw17)(A1:Option Addr)(n1 c1:Nat)(N:List ByteArray)(A2:Option Addr)(n2 c2:Nat)(FS:List ByteArray)(file:Int)(s:ByteArray)(w:World)(hn1:n1≤maxLen)(hc1:n1≤c1)(hN:Sh w w.heap.size A1 n1 (Z0 N))
  (hn2:n2≤maxLen) (hF:Sh w w.heap.size A2 n2 (Z0 FS)) (hf1:-9223372036854775808≤file) (hf2:file≤9223372036854775807) :
  CP 3 #[.slice A1 n1 c1,.slice A2 n2 c2,.int .i64 file,.string s] w fun e w'=>e=.returned (.bool true)∧Below w.heap.size w w':=by
 have hzb:=Qjp
 have hzf:=Qn3
 have HAW:=Lh HA
 unfold Aw17 at HAW
 have HMO:=Lh (Qgw A2 n2 c2 FS w hF hn2)
 unfold ModTo at HMO
 have hNl:N.length=n1:=by have:=hN.len;simpa [Z0] using this
 have HSH:=Lh (fun (wx:World) (b:Below w.heap.size w wx)=>Qcy A1 n1 c1 N wx ((hN.below b).more b.size) hn1)
 have HNN:=Lh (fun (wx:World) (b:Below w.heap.size w wx)=>(hN.below b).more b.size)
 have HII:=Lh HI
 clear hF hN HA HI
 go_enter Try.func3,Try.ntmps3
 go_wp2_with (first
  | (go_at_call 6;with_reducible refine HMO.out.mono ?_;rintro e2 w2 ⟨mv,mb,rfl,b2,hmod⟩;have HB:=Lh b2;have HMD:=Lh hmod;clear b2 hmod;refine Hid.out ?_)
  | fail)
 cases mb with
 | false =>
  clear HMD
  refine Lh ?_
  go_wp2_with (first
   | (go_at_call 8;with_reducible refine (HAW.out _).mono ?_;rintro e9 w9 ⟨rfl,b9⟩;have HB:=Lh (bTr HB b9);clear b9)
   | fail)
  go_ret
  exact ⟨rfl,HB.out⟩
 | true =>
  obtain ⟨A,n,c,ML,rfl,hn8,hnc,hsh,hfine⟩:=HMD.out rfl
  obtain ⟨NB,hNB⟩:∃ NB,w2.heap.size=NB:=⟨_,rfl⟩
  have HSM:=Lh (hsh.weak (S':=fun b=>b<NB) fun b _ h=>by omega)
  have HNB:=Lh (show NB≤w2.heap.size by omega)
  clear hNB
  have HFI:=Lh hfine
  clear HMD hsh hfine
  obtain ⟨sb,hsb⟩:∃ b,K8 N=b:=⟨_,rfl⟩
  rw [hsb] at HSH
  cases sb with
  | false =>
   refine Lh ?_
   go_wp2_with (first
    | (go_at_call 8;with_reducible refine (HAW.out _).mono ?_;rintro e9 w9 ⟨rfl,b9⟩;have HB:=Lh (bTr HB b9);clear b9)
    | (go_at_call 7;with_reducible refine (HSH.out _ HB.out).mono ?_;rintro e9 w9 ⟨rfl,rfl⟩)
    | fail)
   go_ret
   exact ⟨rfl,HB.out⟩
  | true =>
   obtain ⟨hN10,hN100⟩:=Qd8 hsb
   have HN100:=Lh hN100
   clear hN100 hsb
   by_cases h100:s.size≤100
   ·have h1:¬ (100:Int)<(s.size:Int):=by omega
    have HNEW:=Lh (fun (wx:World) (b:Below w.heap.size w wx) (S0:Nat→Prop) (h:Y4 wx S0 A n ML)=>HII.out.new wx A A1 n n1 c c1 ML N S0 h hn8 hnc (HNN.out wx b) (by omega) hc1 HN100.out HFI.out)
    have HRN:=Lh (fun (wx:World) (b:Below w.heap.size w wx) (h:Y4 wx (fun b=>b<NB) A n ML)=>Qkx A A1 n n1 c c1 ML N _ wx h (by omega) (HNN.out wx b) (by omega) hc1 (fun t ht=>Nat.le_trans (HN100.out t ht) (by decide)) (Qar HFI.out))
    unfold Qk0 at HNEW
    unfold Qb7 at HRN
    cases hz:Qe8 N (Qm ML) with
    | some bb =>
     obtain ⟨i,a,e⟩:=bb
     have hne:¬ e=0:=newS_e hz
     rw [hz] at HNEW HRN
     dsimp only [Uq] at HNEW HRN
     have x1:=Qas (i:Int)
     have x2:=Qas a
     have x3:=Qas e
     have x4:(e != 0)=true:=by simp [hne]
     have x5:(e==0)=false:=by simp [hne]
     clear hz
     refine Lh ?_
     go_wp2_with (first
      | (go_at_call 7;with_reducible refine (HSH.out _ HB.out).mono ?_;rintro e9 w9 ⟨rfl,rfl⟩)
      | (go_at_call 9;with_reducible refine (HNEW.out _ HB.out _ HSM.out).mono ?_;rintro e9 w9 ⟨b9,rfl⟩;have HSM:=Lh (HSM.out.under b9);have HB:=Lh (bTr HB b9);clear b9)
      | (go_at_call 10;with_reducible refine (HRN.out _ HB.out HSM.out).mono ?_;rintro e9 wn ⟨rfl,b9⟩;have HSM:=Lh (HSM.out.under b9);have HB:=Lh (bTr HB b9);clear b9)
      | (refine Qa rfl 33 (.tmp 15) (.tmp 48) rfl (G:=wn.heap.size) (off:=0) rfl (us:=bdC (i:Int) a e) (Var.new wn (bdC 0 0 0) 33 (c:=#[.int .i64 0,.int .i64 0,.int .i64 0]) rfl) rfl Qv (Nat.le_refl 3) (Jn _ _ _) ?_;intro w6 ht hs;have ta:=Tn.alloc (fun k=>k=wn.heap.size) wn (.cells #[.int .i64 0,.int .i64 0,.int .i64 0] 33);have tb:=ta.trans ht;have b2:=tb.below nLe (by intro k hk e;omega);have HSM:=Lh (HSM.out.under b2);have HB:=Lh (bTr HB b2);have HVB:=Lh (show Var w6 wn.heap.size (bdC (i:Int) a e) from hs);have c0:=HVB.out.at 0 (v:=.int .i64 (i:Int)) rfl;have c1:=HVB.out.at 1 (v:=.int .i64 a) rfl;have c2:=HVB.out.at 2 (v:=.int .i64 e) rfl;clear ht hs ta tb b2)
      | (go_at_call 8;with_reducible refine (HAW.out _).mono ?_;rintro e9 w9 ⟨rfl,b9⟩;have HB:=Lh (bTr HB b9);clear b9)
      | fail)
     go_ret
     exact ⟨rfl,HB.out⟩
    | none =>
     have hIM:=Qn6 HFI.out hz
     have hLn:=HSM.out.len
     have HMN:=Lh (Qh9 hz)
     rw [hz] at HNEW HRN
     dsimp only [Uq] at HNEW HRN
     have hn1n:n1=n:=by have:=HMN.out.len;rw [Qw] at this;omega
     subst hn1n
     have HRV:=Lh (fun (wx:World) (b:Below w.heap.size w wx) (h:Y4 wx (fun b=>b<NB) A n1 ML)=>rvar_any A A1 n1 c c1 ML N _ wx h (by omega) (HNN.out wx b) hIM (Qar HFI.out) file hf1 hf2 s (by omega))
     have HRF:=Lh (fun (wx:World) (b:Below w.heap.size w wx) (h:Y4 wx (fun b=>b<NB) A n1 ML)=>rfnm_any A A1 n1 c c1 ML N _ wx h (by omega) (HNN.out wx b) hIM (Qar HFI.out) file hf1 hf2 s (by omega))
     have HRL:Hid (∀ (wx:World) (h:Y4 wx (fun b=>b<NB) A n1 ML),CP 17 #[.slice A n1 c,.int .i64 0] wx fun e wq=>e=.returned (.int .i64 (nth SMd.hl (Qm ML) 0 0))∧wx=wq):=Lh (fun wx h=>Yh A n1 c ML _ wx h (by omega) 0 (by decide))
     have HRE:Hid (∀ (wx:World) (h:Y4 wx (fun b=>b<NB) A n1 ML),CP 19 #[.slice A n1 c,.int .i64 0] wx fun e wq=>e=.returned (.int .i64 (nth SMd.he (Qm ML) 0 0))∧wx=wq):=Lh (fun wx h=>Qao A n1 c ML _ wx h (by omega) 0 (by decide))
     unfold FdTo at HRV HRF
     obtain ⟨zv,hzv⟩:∃ z,Ju SMd.vs N (Qm ML) file s=z:=⟨_,rfl⟩
     obtain ⟨zw,hzw⟩:∃ z,Ju SMd.fs N (Qm ML) file s=z:=⟨_,rfl⟩
     rw [hzv] at HRV
     rw [hzw] at HRF
     have HVR:=Lh (fun (g B:Nat) (P:World→Prop) (hc:ScC N (Qm ML) g B P) (wx:World) (hp:P wx)=>(by
      have:=hc.var file s hf1 hf2 h100 hp
      rw [hzv] at this
      exact this:CP 11 #[.pointer (some ⟨g,0,none⟩),.int .i64 file,.string s] wx (Qc4 zv wx)))
     have HFR:=Lh (fun (g B:Nat) (P:World→Prop) (hc:ScC N (Qm ML) g B P) (wx:World) (hp:P wx)=>(by
      have:=hc.fn file s hf1 hf2 h100 hp
      rw [hzw] at this
      exact this:CP 13 #[.pointer (some ⟨g,0,none⟩),.int .i64 file,.string s] wx (Qc4 zw wx)))
     have HLE:=Lh (fun (g B:Nat) (P:World→Prop) (hc:ScC N (Qm ML) g B P) (wx:World) (hp:P wx)=>(by
      have:=hc.len hp
      rw [Qw,hLn] at this
      exact this:CP 15 #[.pointer (some ⟨g,0,none⟩)] wx fun e w'=>e=.returned (.int .i64 (n1:Int))∧Below wx.heap.size wx w'))
     unfold Qc4 at HVR HFR
     obtain ⟨z1,hz1⟩:∃ z,nth SMd.hl (Qm ML) 0 0=z:=⟨_,rfl⟩
     obtain ⟨z2,hz2⟩:∃ z,nth SMd.he (Qm ML) 0 0=z:=⟨_,rfl⟩
     have HLT:=Lh (fun (g B:Nat) (P:World→Prop) (hc:ScC N (Qm ML) g B P) (wx:World) (hp:P wx)=>(by
      have:=hc.lat hp
      rw [hz1] at this
      exact this:CP 16 #[.pointer (some ⟨g,0,none⟩)] wx fun e w'=>e=.returned (.int .i64 z1)∧Below wx.heap.size wx w'))
     have HEF:=Lh (fun (g B:Nat) (P:World→Prop) (hc:ScC N (Qm ML) g B P) (wx:World) (hp:P wx)=>(by
      have:=hc.eff hp
      rw [hz2] at this
      exact this:CP 18 #[.pointer (some ⟨g,0,none⟩)] wx fun e w'=>e=.returned (.int .i64 z2)∧Below wx.heap.size wx w'))
     rw [hz1] at HRL
     rw [hz2] at HRE
     obtain ⟨v1,v2,v3,hv⟩:∃ a b c,fdT zv=(a,b,c):=⟨_,_,_,rfl⟩
     obtain ⟨u1,u2,u3,hu⟩:∃ a b c,fdT zw=(a,b,c):=⟨_,_,_,rfl⟩
     have hcv:fdC zv=[.int .i64 v1,.int .i64 v2,.bool v3]:=by rw [fdC_T,hv]
     have hcw:fdC zw=[.int .i64 u1,.int .i64 u2,.bool u3]:=by rw [fdC_T,hu]
     rw [hv] at HVR
     rw [hu] at HFR
     rw [hcv] at HRV
     rw [hcw] at HRF
     dsimp only at HVR HFR
     have y1:=Qas v1
     have y2:=Qas v2
     have y3:=Qn7 v3
     have y4:=Qat u1
     have y5:=Qat u2
     have y6:=Qn8 u3
     have y7:=Qat (n1:Int)
     have y8:=Qat z1
     have y9:=Qat z2
     clear hz hIM hLn HMN hzv hzw hz1 hz2 hv hu hcv hcw HII
     refine Lh ?_
     go_wp2_with (first
      | (go_at_call 7;with_reducible refine (HSH.out _ HB.out).mono ?_;rintro e9 w9 ⟨rfl,rfl⟩)
      | (go_at_call 9;with_reducible refine (HNEW.out _ HB.out _ HSM.out).mono ?_;rintro e9 wg ⟨b9,g,P,rfl,hc,hp⟩;have HNG:=Lh (Nat.le_trans HNB.out b9.size);have HC:=Lh hc;have HP:=Lh hp;have HSM:=Lh (HSM.out.under b9);have HB:=Lh (bTr HB b9);clear b9 hc hp)
      | (go_at_call 10;with_reducible refine (HRN.out _ HB.out HSM.out).mono ?_;rintro e9 wn ⟨rfl,b9⟩;have HP:=Lh (HC.out.stay HP.out (b9.mono (HC.out.sz HP.out)));have HSM:=Lh (HSM.out.under b9);have HB:=Lh (bTr HB b9);clear b9)
      | (refine Qa rfl 33 (.tmp 15) (.tmp 48) rfl (G:=wn.heap.size) (off:=0) rfl (us:=bdC 0 0 0) (Var.new wn (bdC 0 0 0) 33 (c:=#[.int .i64 0,.int .i64 0,.int .i64 0]) rfl) rfl Qv (Nat.le_refl 3) (Jn _ _ _) ?_;intro w6 ht hs;have ta:=Tn.alloc (fun k=>k=wn.heap.size) wn (.cells #[.int .i64 0,.int .i64 0,.int .i64 0] 33);have tb:=ta.trans ht;have b2:=tb.below nLe (by intro k hk e;omega);have HP:=Lh (HC.out.stay HP.out (b2.mono (HC.out.sz HP.out)));have HSM:=Lh (HSM.out.under b2);have HB:=Lh (bTr HB b2);have HVB:=Lh (show Var w6 wn.heap.size (bdC 0 0 0) from hs);have c0:=HVB.out.at 0 (v:=.int .i64 0) rfl;have c1:=HVB.out.at 1 (v:=.int .i64 0) rfl;have c2:=HVB.out.at 2 (v:=.int .i64 0) rfl;clear ht hs ta tb b2)
      | (go_at_call 11;with_reducible refine (HVR.out g _ P HC.out _ HP.out).mono ?_;rintro e9 w9 ⟨rfl,b9⟩;have HP:=Lh (HC.out.stay HP.out (b9.mono (HC.out.sz HP.out)));have HSM:=Lh (HSM.out.under b9);have HB:=Lh (bTr HB b9);clear b9)
      | (go_at_call 12;with_reducible refine (HRV.out _ HB.out HSM.out).mono ?_;rintro e9 wv ⟨rfl,b9⟩;have HP:=Lh (HC.out.stay HP.out (b9.mono (HC.out.sz HP.out)));have hBv:=HC.out.sz HP.out;have HSM:=Lh (HSM.out.under b9);have HB:=Lh (bTr HB b9);clear b9)
      | (refine Qa rfl 38 (.tmp 19) (.tmp 84) rfl (G:=wv.heap.size) (off:=0) rfl (us:=[.int .i64 v1,.int .i64 v2,.bool v3]) (Var.new wv (fdC none) 38 (c:=#[.int .i64 0,.int .i64 0,.bool false]) rfl) rfl Za (Nat.le_refl 3) (fd_one _ _ _) ?_;intro w6 ht hs;have ta:=Tn.alloc (fun k=>k=wv.heap.size) wv (.cells #[.int .i64 0,.int .i64 0,.bool false] 38);have tb:=ta.trans ht;have b2:=tb.below nLe (by intro k hk e;omega);have HP:=Lh (HC.out.stay HP.out (b2.mono (HC.out.sz HP.out)));have HSM:=Lh (HSM.out.under b2);have HWV:=Lh HB.out.size;have HB:=Lh (bTr HB b2);have HVF:=Lh (show Var w6 wv.heap.size [.int .i64 v1,.int .i64 v2,.bool v3] from hs);have d0:=HVF.out.at 0 (v:=.int .i64 v1) rfl;have d1:=HVF.out.at 1 (v:=.int .i64 v2) rfl;have d2:=HVF.out.at 2 (v:=.bool v3) rfl;clear ht hs ta tb b2)
      | (go_at_call 14;with_reducible refine (HRF.out _ HB.out HSM.out).mono ?_;rintro e9 wf ⟨rfl,b9⟩;have HP:=Lh (HC.out.stay HP.out (b9.mono (HC.out.sz HP.out)));have HVF:=Lh (HVF.out.under b9);have HSM:=Lh (HSM.out.under b9);have HB:=Lh (bTr HB b9);clear b9)
      | (refine Qa rfl 38 (.tmp 19) (.tmp 113) rfl (G:=wv.heap.size) (off:=0) rfl (us:=[.int .i64 u1,.int .i64 u2,.bool u3]) HVF.out rfl Za (Nat.le_refl 3) (fd_one _ _ _) ?_;intro w8 ht hs;have hNv:=HNG.out;have HP:=Lh (HC.out.stay HP.out (ht.below (HC.out.sz HP.out) (by intro k hk e;omega)));have HSM:=Lh (show Y4 w8 (fun b=>b<NB) A n1 ML from HSM.out.turn ht (by intro b hb _;exact ⟨hb,by omega⟩));have hww:=HWV.out;have HB:=Lh (HB.out.trans (ht.below HB.out.size (by intro k hk e;omega)));have HVF:=Lh (show Var w8 wv.heap.size [.int .i64 u1,.int .i64 u2,.bool u3] from hs);have d0:=HVF.out.at 0 (v:=.int .i64 u1) rfl;have d1:=HVF.out.at 1 (v:=.int .i64 u2) rfl;have d2:=HVF.out.at 2 (v:=.bool u3) rfl;clear ht hs)
      | (go_at_call 13;with_reducible refine (HFR.out g _ P HC.out _ HP.out).mono ?_;rintro e9 w9 ⟨rfl,b9⟩;have HP:=Lh (HC.out.stay HP.out (b9.mono (HC.out.sz HP.out)));have HVF:=Lh (HVF.out.under b9);have HSM:=Lh (HSM.out.under b9);have HB:=Lh (bTr HB b9);clear b9)
      | (go_at_call 15;with_reducible refine (HLE.out g _ P HC.out _ HP.out).mono ?_;rintro e9 w9 ⟨rfl,b9⟩;have HP:=Lh (HC.out.stay HP.out (b9.mono (HC.out.sz HP.out)));have HSM:=Lh (HSM.out.under b9);have HB:=Lh (bTr HB b9);clear b9)
      | (go_at_call 16;with_reducible refine (HLT.out g _ P HC.out _ HP.out).mono ?_;rintro e9 w9 ⟨rfl,b9⟩;have HP:=Lh (HC.out.stay HP.out (b9.mono (HC.out.sz HP.out)));have HSM:=Lh (HSM.out.under b9);have HB:=Lh (bTr HB b9);clear b9)
      | (go_at_call 18;with_reducible refine (HEF.out g _ P HC.out _ HP.out).mono ?_;rintro e9 w9 ⟨rfl,b9⟩;have HP:=Lh (HC.out.stay HP.out (b9.mono (HC.out.sz HP.out)));have HSM:=Lh (HSM.out.under b9);have HB:=Lh (bTr HB b9);clear b9)
      | (go_at_call 17;with_reducible refine (HRL.out _ HSM.out).mono ?_;rintro e9 w9 ⟨rfl,rfl⟩)
      | (go_at_call 19;with_reducible refine (HRE.out _ HSM.out).mono ?_;rintro e9 w9 ⟨rfl,rfl⟩)
      | (go_at_call 8;with_reducible refine (HAW.out _).mono ?_;rintro e9 w9 ⟨rfl,b9⟩;have HB:=Lh (bTr HB b9);clear b9)
      | fail)
     go_ret
     exact ⟨rfl,HB.out⟩
   ·have h1:(100:Int)<(s.size:Int):=by omega
    refine Lh ?_
    go_wp2_with (first
     | (go_at_call 8;with_reducible refine (HAW.out _).mono ?_;rintro e9 w9 ⟨rfl,b9⟩;have HB:=Lh (bTr HB b9);clear b9)
     | (go_at_call 7;with_reducible refine (HSH.out _ HB.out).mono ?_;rintro e9 w9 ⟨rfl,rfl⟩)
     | fail)
    go_ret
    exact ⟨rfl,HB.out⟩
theorem Qbb{w:World}{B n c:Nat}{A:Option Addr}{l:List Nat}(h:Own w B 3 1 (.slice A n c) l.length (Qjr l)){i a:Nat}(hi:l[i]?=some a):∃ b,A=some ⟨b,0,none⟩∧w.cell? ⟨b,i,none⟩=some (.int .i64 (a:Int)):=by
 have hlt:i<l.length:=(List.getElem?_eq_some_iff.1 hi).1
 obtain ⟨g,cap,hv,_,_⟩:=h.1.form (by omega)
 have hA:A=some ⟨g,0,none⟩:=by injection hv
 subst hA
 refine ⟨g,rfl,?_⟩
 have:=h.1.cells (g:=g) rfl i (.int .i64 (a:Int)) (by unfold Qjr;rw [List.getElem?_map,hi];rfl)
 rwa [show (⟨g,0,none⟩:Addr).add i=⟨g,i,none⟩ by rw [Addr.add_lit];congr 1;omega] at this
theorem Qbt(HI:Qid)(HA:Aw17)(A1:Option Addr)(n1 c1:Nat)(N:List ByteArray)(A2:Option Addr)(n2 c2:Nat)(FS:List ByteArray)(w:World)(hn1:n1≤maxLen)(hc1:n1≤c1)(hN:Sh w w.heap.size A1 n1 (Z0 N))
  (hn2:n2≤maxLen) (hF:Sh w w.heap.size A2 n2 (Z0 FS)) :
  CP 4 #[.slice A1 n1 c1,.slice A2 n2 c2] w fun e w'=>e=.returned (.bool true)∧Below w.heap.size w w':=by
 have HAW:=Lh HA
 unfold Aw17 at HAW
 have HMO:=Lh (Qgw A2 n2 c2 FS w hF hn2)
 unfold ModTo at HMO
 have hNl:N.length=n1:=by have:=hN.len;simpa [Z0] using this
 have HSH:=Lh (fun (wx:World) (b:Below w.heap.size w wx)=>Qcy A1 n1 c1 N wx ((hN.below b).more b.size) hn1)
 have HNN:=Lh (fun (wx:World) (b:Below w.heap.size w wx)=>(hN.below b).more b.size)
 have HII:=Lh HI
 clear hF hN HA HI
 go_enter Try.func4,Try.ntmps4
 go_wp2_with (first
  | (go_at_call 6;with_reducible refine HMO.out.mono ?_;rintro e2 w2 ⟨mv,mb,rfl,b2,hmod⟩;have HB:=Lh b2;have HMD:=Lh hmod;clear b2 hmod;refine Hid.out ?_)
  | fail)
 cases mb with
 | false =>
  clear HMD
  refine Lh ?_
  go_wp2_with (first
   | (go_at_call 8;with_reducible refine (HAW.out _).mono ?_;rintro e9 w9 ⟨rfl,b9⟩;have HB:=Lh (bTr HB b9);clear b9)
   | fail)
  go_ret
  exact ⟨rfl,HB.out⟩
 | true =>
  obtain ⟨A,n,c,ML,rfl,hn8,hnc,hsh,hfine⟩:=HMD.out rfl
  obtain ⟨NB,hNB⟩:∃ NB,w2.heap.size=NB:=⟨_,rfl⟩
  have HSM:=Lh (hsh.weak (S':=fun b=>b<NB) fun b _ h=>by omega)
  have HFI:=Lh hfine
  clear HMD hsh hfine hNB
  obtain ⟨sb,hsb⟩:∃ b,K8 N=b:=⟨_,rfl⟩
  rw [hsb] at HSH
  cases sb with
  | false =>
   refine Lh ?_
   go_wp2_with (first
    | (go_at_call 8;with_reducible refine (HAW.out _).mono ?_;rintro e9 w9 ⟨rfl,b9⟩;have HB:=Lh (bTr HB b9);clear b9)
    | (go_at_call 7;with_reducible refine (HSH.out _ HB.out).mono ?_;rintro e9 w9 ⟨rfl,rfl⟩)
    | fail)
   go_ret
   exact ⟨rfl,HB.out⟩
  | true =>
   obtain ⟨hN10,hN100⟩:=Qd8 hsb
   have HN100:=Lh hN100
   clear hN100 hsb
   have HNEW:=Lh (fun (wx:World) (b:Below w.heap.size w wx) (S0:Nat→Prop) (h:Y4 wx S0 A n ML)=>HII.out.new wx A A1 n n1 c c1 ML N S0 h hn8 hnc (HNN.out wx b) (by omega) hc1 HN100.out HFI.out)
   unfold Qk0 at HNEW
   cases hz:Qe8 N (Qm ML) with
   | some bb =>
    obtain ⟨i,a,e⟩:=bb
    have hne:¬ e=0:=newS_e hz
    rw [hz] at HNEW
    dsimp only [Uq] at HNEW
    have x4:(e != 0)=true:=by simp [hne]
    have x5:(e==0)=false:=by simp [hne]
    clear hz
    refine Lh ?_
    go_wp2_with (first
     | (go_at_call 7;with_reducible refine (HSH.out _ HB.out).mono ?_;rintro e9 w9 ⟨rfl,rfl⟩)
     | (go_at_call 9;with_reducible refine (HNEW.out _ HB.out _ HSM.out).mono ?_;rintro e9 w9 ⟨b9,rfl⟩;have HSM:=Lh (HSM.out.under b9);have HB:=Lh (bTr HB b9);clear b9)
     | (go_at_call 8;with_reducible refine (HAW.out _).mono ?_;rintro e9 w9 ⟨rfl,b9⟩;have HB:=Lh (bTr HB b9);clear b9)
     | fail)
    go_ret
    exact ⟨rfl,HB.out⟩
   | none =>
    have hIM:=Qn6 HFI.out hz
    have hLn:=HSM.out.len
    have HMN:=Lh (Qh9 hz)
    rw [hz] at HNEW
    dsimp only [Uq] at HNEW
    have hn1n:n1=n:=by have:=HMN.out.len;rw [Qw] at this;omega
    subst hn1n
    have HIM:=Lh hIM
    have HRO:=Lh (fun (wx:World) (b:Below w.heap.size w wx) (h:Y4 wx (fun b=>b<NB) A n1 ML)=>Qkz A A1 n1 c c1 ML N _ wx h (by omega) (HNN.out wx b) hIM)
    have hOl:=HMN.out.ord.2
    rw [Qw,hLn] at hOl
    obtain ⟨D,hD⟩:∃ D,Qnr N (Qm ML)=D:=⟨_,rfl⟩
    rw [hD] at HRO hOl
    have HOR:=Lh (fun (g B:Nat) (P:World→Prop) (hc:ScC N (Qm ML) g B P) (wx:World) (hp:P wx)=>(by
     have:=hc.ord hp
     rw [hD] at this
     exact this:CP 20 #[.pointer (some ⟨g,0,none⟩)] wx (Qbs D wx)))
    unfold Qbs at HRO HOR
    have HDD:=Lh hD
    have HOL:=Lh hOl
    have HLt:=Lh (fun (i a:Nat) (h:D[i]?=some a)=>(by
     have:=HMN.out.ord.1.lt a (by rw [hD];exact List.mem_of_getElem? h)
     rwa [Qw,hLn] at this:a<n1))
    clear hz hIM hD hOl hLn
    refine Lh ?_
    go_wp2_with (first
     | (go_at_call 7;with_reducible refine (HSH.out _ HB.out).mono ?_;rintro e9 w9 ⟨rfl,rfl⟩)
     | (go_at_call 9;with_reducible refine (HNEW.out _ HB.out _ HSM.out).mono ?_;rintro e9 wg ⟨b9,g,P,rfl,hc,hp⟩;have HC:=Lh hc;have HP:=Lh hp;have HSM:=Lh (HSM.out.under b9);have HB:=Lh (bTr HB b9);clear b9 hc hp)
     | (go_at_call 20;with_reducible refine (HOR.out g _ P HC.out _ HP.out).mono ?_;rintro e9 wo ⟨lv,rfl,hlo,b9⟩;have HL1:=Lh hlo;have HSM:=Lh (HSM.out.under b9);have HB:=Lh (bTr HB b9);clear b9 hlo)
     | (go_at_call 21;with_reducible refine (HRO.out _ HB.out HSM.out).mono ?_;rintro e9 wq ⟨lu,rfl,hlo,b9⟩;have HL2:=Lh hlo;have HL1:=Lh (HL1.out.below b9);have HSM:=Lh (HSM.out.under b9);have HB:=Lh (bTr HB b9);clear b9 hlo;refine Hid.out ?_)
     | fail)
    obtain ⟨LA,lc,hlv⟩:=HL1.out.form
    obtain ⟨UA,uc,hlu⟩:=HL2.out.form
    rw [HOL.out] at hlv hlu
    subst hlv
    subst hlu
    have z1:((n1:Int) != (n1:Int))=false:=by simp
    refine Lh ?_
    go_wp2_with fail
    go_loopw [13] (fun iv wr=>∃ i:Nat,iv=.int .i64 (i:Int)∧i≤n1∧Hid (Quiet wq wr)) (fun iv _=>n1-(intOf iv).toNat)
    case atStart=>exact ⟨0,rfl,Nat.zero_le _,Lh ⟨0,rfl⟩⟩
    case round =>
     obtain ⟨i,rfl,hi,HQ0⟩:=hrel
     obtain ⟨wa,hwa⟩:∃ wa,wa=wr:=⟨_,rfl⟩
     subst hwa
     by_cases hlt:i<n1
     ·obtain ⟨a,ha⟩:∃ a,D[i]?=some a:=⟨D[i]'(by rw [HOL.out];exact hlt),List.getElem?_eq_getElem _⟩
      have hal:=HLt.out i a ha
      obtain ⟨lb,hLA,l0⟩:=Qbb (HL1.out.quiet HQ0.out) ha
      obtain ⟨ub,hUA,u0⟩:=Qbb (HL2.out.quiet HQ0.out) ha
      have HAI:=Lh ha
      subst hLA
      subst hUA
      have z2:((a:Int) != (a:Int))=false:=by simp
      clear ha
      go_wp2_with fail
      go_quiet (fail)
      go_wp2_with fail
      go_loopw [14] (fun kv wr=>∃ k:Nat,kv=.int .i64 (k:Int)∧i<k∧k≤n1∧Hid (Quiet wq wr)) (fun kv _=>n1-(intOf kv).toNat)
      case atStart=>exact ⟨i+1,by go_num,Nat.lt_succ_self _,hlt,Lh (HQ0.out.trans (Quiet.one _ _))⟩
      case round =>
       clear l0 u0
       obtain ⟨k,rfl,hik,hk,HQ1⟩:=hrel
       obtain ⟨wb,hwb⟩:∃ wb,wb=wr:=⟨_,rfl⟩
       subst hwb
       by_cases hlt2:k<n1
       ·obtain ⟨b,hb⟩:∃ b,D[k]?=some b:=⟨D[k]'(by rw [HOL.out];exact hlt2),List.getElem?_eq_getElem _⟩
        have hbl:=HLt.out k b hb
        have HBI:=Lh hb
        clear hb
        go_wp2_with fail
        go_loopw [15] (fun jv wr=>∃ j:Nat,jv=.int .i64 (j:Int)∧j≤1000000∧Hid (Quiet wq wr)) (fun jv _=>1000001-(intOf jv).toNat)
        case atStart=>exact ⟨0,rfl,Nat.zero_le _,HQ1⟩
        case round =>
         obtain ⟨j,rfl,hj,HQ2⟩:=hrel
         obtain ⟨wc,hwc⟩:∃ wc,wc=wr:=⟨_,rfl⟩
         subst hwc
         obtain ⟨lb1,hL1,l1⟩:=Qbb (HL1.out.quiet HQ2.out) HAI.out
         obtain ⟨lb2,hL2,l2⟩:=Qbb (HL1.out.quiet HQ2.out) HBI.out
         cases hL1
         cases hL2
         obtain ⟨b1,off1,q,hA1,hq,hqm,hms,c0,_⟩:=(HSM.out.under (HQ2.out.below _)).at hal
         have hcap:=Nat.le_trans (HFI.out q hqm).2.im (show 1000≤1000000 by decide)
         subst hA1
         by_cases hlt3:j<q.1.im.length
         ·obtain ⟨ib,io,ic,x,hv,hx,hxm,d0,d1⟩:=hms.im.nm hlt3
          rw [hv] at c0
          obtain ⟨nb,no,t,hN1,hnb,ht,n0⟩:=(HNN.out _ (HB.out.trans ((HQ2.out.below _).mono HB.out.size))).at hbl
          have hNb:b<N.length:=by omega
          obtain ⟨s,hs⟩:∃ s,N[b]=s:=⟨_,rfl⟩
          have hu2:t=.string s:=by
           unfold Z0 at ht
           rw [List.getElem?_map,List.getElem?_eq_getElem hNb,hs] at ht
           cases ht
           rfl
          subst hu2
          subst hN1
          have hne:(x.nm.toList==s.toList)=false:=by
           rw [Qbj]
           have h3:x.nm≠s:=HMN.out.apart hik (by rw [HDD.out];exact HAI.out) (by rw [HDD.out];exact HBI.out) (Zo hq) (x:=x.sn) (List.mem_map.2 ⟨x,hxm,rfl⟩) (s:=s) (by rw [List.getElem?_eq_getElem hNb,hs])
           simpa using h3
          clear ht hs hms hq hqm hx hxm hv
          go_wp2_with fail
          go_quiet (fail)
          go_wp2_with fail
          go_roundw
          case rel=>exact ⟨j+1,by go_num,by omega,Lh (HQ2.out.trans (Quiet.one _ _))⟩
          case measure=>simp [intOf];omega
         ·obtain ⟨IA,ic,hv,_⟩:=hms.im
          rw [hv] at c0
          have hlt4:¬ (j:Int)<(q.1.im.length:Int):=by omega
          clear hms hq hqm hv
          go_wp2_with fail
          go_roundw
          case rel=>exact ⟨k+1,by go_num,by omega,hlt2,HQ2⟩
          case measure=>simp [intOf];omega
       ·obtain rfl:k=n1:=by omega
        go_wp2_with fail
        go_roundw
        case rel=>exact ⟨i+1,by go_num,hlt,HQ1⟩
        case measure=>simp [intOf];omega
     ·obtain rfl:i=n1:=by omega
      have HB:=Lh (HB.out.trans ((HQ0.out.below _).mono HB.out.size))
      go_wp2_with (first
       | (go_at_call 8;with_reducible refine (HAW.out _).mono ?_;rintro e9 w9 ⟨rfl,b9⟩;have HB:=Lh (bTr HB b9);clear b9)
       | fail)
      go_ret
      exact ⟨rfl,HB.out⟩
open Go.ChangeShapes Go.Deep Go.Joins Go.WideShapes
section
variable {H:Type} {enc:TypeId×Value→H} {w:World} {held:Bool} {fuel:Nat} {cs:List Value} {x:DataW H×List MemPlace}
theorem Qie{w:World}{a:Addr}{n:Nat}{cs:List Value}(h:w.cells? 0 (a.add (0*(n+1))) (n+1)=some cs):∃ b off,a=⟨b,off,none⟩∧b<w.heap.size:=by
 obtain ⟨_,hl,hat⟩:=World.cells?_some h
 have h0:=hat 0 (by omega)
 rw [Deep.add_add,Nat.zero_mul,List.getElem?_eq_getElem (by omega)] at h0
 obtain ⟨b,off,spot⟩:=a
 have hspot:spot=none:=by simpa [Addr.add] using World.cell?_spot h0
 subst hspot
 refine ⟨b,off,rfl,?_⟩
 have:=World.block_lt_of_cell? _ _ h0
 rw [Addr.add_lit] at this
 exact this
theorem Qfd(h:DataW.trod enc Try.prog w 0 (fun _=>true) held fuel 22 cs=some x):∃ A n c L,cs=[.slice A n c]∧n≤maxLen∧n≤c∧Sh w w.heap.size A n (Z0 L)∧∀ t∈L,t.size≤maxLen:=by
 rcases open_slice (e:=9) (by kernel_rfl) h with ⟨hcs,_⟩ | ⟨a,len,cap,m,k,D,Pl,hcs,_,hl,hm,hmm,_,hi⟩
 ·exact ⟨none,0,0,[],hcs,Nat.zero_le _,Nat.le_refl _,⟨rfl,fun h=>absurd h (Nat.lt_irrefl 0)⟩,(fun x hx=>by cases hx)⟩
 ·have hC:Try.prog.cellsOf 9=1:=by kernel_rfl
  rw [hC] at hi
  have hmm:m=cap:=by simpa using hmm
  have each:∀ i,i<len→∃ y:ByteArray,(∃ b off,some a=some ⟨b,off,none⟩∧b<w.heap.size∧w.cell? ⟨b,off+i,none⟩=some (.string y))∧y.size≤maxLen:=fun i hlt=>by
   obtain ⟨cs',hcells,ht⟩:=hi i (by omega)
   have hl1:cs'.length=1:=(World.cells?_some hcells).2.1
   match cs',hl1 with
   | [c0],_ =>
    obtain ⟨s0,e0,_,k0⟩:=DataW.trod_string Try.underlying9 ht
    cases e0
    obtain ⟨_,_,hat⟩:=World.cells?_some hcells
    have h0:=hat 0 (by omega)
    obtain ⟨_,hc0,_⟩:=hi 0 (by omega)
    obtain ⟨b,off,rfl,hb⟩:=Qie hc0
    rw [Addr.add_lit,Addr.add_lit] at h0
    exact ⟨s0,⟨b,off,rfl,hb,by simpa using h0⟩,k0⟩
  obtain ⟨Y,hY⟩:∃ Y:Nat→ByteArray,∀ i,i<len→(∃ b off,some a=some ⟨b,off,none⟩∧b<w.heap.size∧w.cell? ⟨b,off+i,none⟩=some (.string (Y i)))∧(Y i).size≤maxLen:=by
   refine ⟨fun i=>if h:i<len then Classical.choose (each i h) else ⟨#[]⟩,fun i h=>?_⟩
   simp only [dif_pos h]
   exact Classical.choose_spec (each i h)
  refine ⟨some a,len,cap,(List.range len).map Y,hcs,Nat.le_trans hl hm,hl,⟨by simp [Z0],fun hn=>?_⟩,fun x hx=>?_⟩
  ·obtain ⟨⟨b,off,e,hb,_⟩,_⟩:=hY 0 hn
   refine ⟨b,off,e,hb,fun k u hu=>?_⟩
   unfold Z0 at hu
   rw [List.getElem?_map,List.getElem?_map] at hu
   by_cases hk:k<len
   ·rw [List.getElem?_range hk] at hu
    cases hu
    obtain ⟨⟨b',off',e',_,hc⟩,_⟩:=hY k hk
    rw [e] at e'
    cases e'
    exact hc
   ·rw [List.getElem?_eq_none (by simp;omega)] at hu
    cases hu
  ·obtain ⟨k,hk,rfl⟩:=List.mem_map.1 hx
   exact (hY k (List.mem_range.1 hk)).2
end
end Go.Proofs.Ytjoclbeoafeebaa
