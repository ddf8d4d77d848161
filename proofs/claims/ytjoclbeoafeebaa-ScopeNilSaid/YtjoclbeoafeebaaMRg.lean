import Derived.Test.YtjoclbeoafeebaaSq
import Derived.Test.YtjoclbeoafeebaaMRd
set_option maxHeartbeats 3200000
set_option maxRecDepth 100000
namespace Go.Proofs.Ytjoclbeoafeebaa
set_option linter.unusedVariables false
set_option linter.unusedSimpArgs false
open Go.RowKit
theorem Qmt{R:Rw}{p:Nat}{c:UInt8}{t:List UInt8}(h:R.is p (c::t)=true)(l:List ByteArray):mu R (p,0) (⟨(c::t).toArray⟩::l)=mu R (p+1,0) l:=by
 unfold mu
 rw [if_pos rfl,if_pos rfl]
 show (if R.is p (⟨(c::t).toArray⟩:ByteArray).toList=true then _ else _)=_
 rw [wd1,if_pos h]
theorem hdS_if{R:Rw}{F p:Nat}(h:R.is p lIf=true):hdS R F p=Qe2 R F 2 (R.ps p) (p+1,0):=by
 unfold hdS
 rw [if_neg (by rw [Kn h (by decide)];decide),if_pos h]
 unfold askS Qe2
 have e:mu R (p,0) [wIf,Qc9]=mu R (p+1,0) [Qc9]:=Qmt (c:=105) (t:=[102]) h [Qc9]
 rw [e]
theorem Qmu{R:Rw}{F p:Nat}(h:R.is p Qdr=true):hdS R F p=Qe2 R F 3 (R.ps p) (p+1,0):=by
 unfold hdS
 rw [if_neg (by rw [Kn h (by decide)];decide),if_neg (by rw [Kn h (by decide)];decide),if_pos h]
 unfold askS Qe2
 have e:mu R (p,0) [wWhile,Qc9]=mu R (p+1,0) [Qc9]:=Qmt (c:=119) (t:=[104,105,108,101]) h [Qc9]
 rw [e]
theorem hdS_let{R:Rw}{F p:Nat}(h:R.is p lLet=true):hdS R F p=Qbq R F (R.ps p) (p+1,0):=by
 unfold hdS
 rw [if_pos h,letU_eq]
 have e:mu R (p,0) [wLet]=(p+1,0):=Qhr (c:=108) (t:=[101,116]) h
 rw [e]
theorem hdS_do{R:Rw}{F p:Nat}(h:R.is p lDo=true):hdS R F p=(.mk 4 (R.ps p) (pnm R (p+1,0)).1 0 An.nul Ex.nul [] [],mu R (pnm R (p+1,0)).2 [Jr]):=by
 unfold hdS
 rw [if_neg (by rw [Kn h (by decide)];decide),if_neg (by rw [Kn h (by decide)];decide),if_neg (by rw [Kn h (by decide)];decide),if_pos h]
 unfold doS
 have e:mu R (p,0) [wDo]=(p+1,0):=Qhr (c:=100) (t:=[111]) h
 rw [e]
theorem hdS_pl{R:Rw}{F p:Nat}(h1:R.is p lLet=false)(h2:R.is p lIf=false)(h3:R.is p Qdr=false)(h4:R.is p lDo=false):hdS R F p=plS R F (R.ps p) (p,0):=by
 unfold hdS
 rw [if_neg (by rw [h1];decide),if_neg (by rw [h2];decide),if_neg (by rw [h3];decide),if_neg (by rw [h4];decide)]
theorem Qgl{R:Rw}{F f p:Nat}{d:Int}{h:St×(Nat×Int)}(hh:hdS R F p=h)(hk:h.1.k=2∨h.1.k=3):rs R F (f+1) .st p d=stB R F f h d:=by
 rw [Qke,hh,if_pos hk]
 rfl
theorem Y0{R:Rw}{F f p:Nat}{d:Int}{s:St}{x:Nat×Int}(hh:hdS R F p=(s,x))(hk:¬ (s.k=2∨s.k=3)):rs R F (f+1) .st p d=if x.2=0 then Yn s [] x.1 else Kr x.1 x.2:=by
 rw [Qke,hh,if_neg hk]
theorem Qjc{s:St}{tv:Tv}{x:Nat×Int}{g:Gs}{w w':World}(hg:g=if x.2=0 then Yn s [] x.1 else Kr x.1 x.2)(ht:x.2=0→TrS w' (fun b=>w.heap.size≤b) s tv)(hb:Below w.heap.size w w') :
  Qdy g w (.returned (.agg (Qam s tv x).toArray)) w':=by
 by_cases h:x.2=0
 ·rw [if_pos h] at hg
  subst hg
  exact ⟨tv,Qk,by rw [ansC_ok h];rfl,ht h,.nil,hb⟩
 ·rw [if_neg h] at hg
  subst hg
  exact ⟨Tv.nul,Qk,by rw [Kg h];rfl,TrS.nul' _ _,.nil,hb⟩
theorem Qmv(X:Ry)(hX:X.Fit)(hm:∀ i,(X.R.wd i).size≤1000000)(F f:Nat)(hF:16*X.L.length+9≤F)(hBlk:Qe1 X F f)(p:Nat)(d:Int)(w:World)(hp:p≤X.L.length)(h:X.In w w.heap.size)(hd:dOk d)(hf:3*(X.L.length-p)+2≤f+1)(c1:X.R.is p lLet=true) :
  CP 79 #[.agg (ryC X).toArray,.int .i64 (p:Int),.int .i64 d] w (Qdy (rs X.R F (f+1) .st p d) w):=by
 have hz:=K0
 have hzs:=Qf2
 have hzg:=Q2
 have hln:=h.2.len
 have hok:=Qo X.T X.L
 have HIN:=Lh h
 have HAT:Hid (∀ W,Below w.heap.size w W→CP 51 #[.agg (ryC X).toArray,.int .i64 (p:Int)] W fun e w'=>e=.returned (.string (X.R.wd p))∧Below W.heap.size W w'):=Lh fun W hW=>Qg X p W ((h.up hW nLe).more hW.size) (by omega)
 have HPO:Hid (∀ W,Below w.heap.size w W→CP 38 #[.agg (ryC X).toArray,.int .i64 (p:Int)] W fun e w'=>e=.returned (.int .i64 (X.R.ps p))∧Below W.heap.size W w'):=Lh fun W hW=>Qz X p W ((h.up hW nLe).more hW.size) (by omega)
 have HAT1:Hid (∀ W,Below w.heap.size w W→CP 51 #[.agg (ryC X).toArray,.int .i64 ((p:Int)+1)] W fun e w'=>e=.returned (.string (X.R.wd (p+1)))∧Below W.heap.size W w'):=Lh fun W hW=>Qg X (p+1) W ((h.up hW nLe).more hW.size) (by omega)
 have HF:=Lh (Kh X w)
 obtain ⟨a,ha⟩:∃ a,X.R.ps p=a:=⟨_,rfl⟩
 obtain ⟨sg,hg⟩:∃ g,X.R.wd p=g:=⟨_,rfl⟩
 have HIS:Hid (∀ l,X.R.is p l=(sg.toList==l)):=Lh fun l=>by rw [← hg];rfl
 rw [hg] at HAT
 rw [ha] at HPO
 have HPA:=Lh ha
 clear ha hg h
 show CP 79 #[.agg #[.string X.T,.slice X.A X.L.length X.c],.int .i64 (p:Int),.int .i64 d] w _
 go_enter Try.func79,Try.ntmps79
 go_wp2_with (first
  | (refine Qq rfl 92 (.tmp 3) rfl w.heap.size 0 rfl (ryC X) HF.out.vr.rg Try.underlying92 rfl Qd ?_)
  | (go_at_call 38;(with_reducible refine (HPO.out _ HF.out.b).mono ?_);rintro e w2 ⟨rfl,b2⟩;have HF:=Lh (HF.out.under b2);have hw2:=HF.out.lt;have HV:=Lh (Var.new w2 (stC St.nul Tv.nul) 133 (c:=#[.int .i64 0,.int .i64 0,.string ⟨#[]⟩,.int .i64 0,.bool false,.bool false,.string ⟨#[]⟩,.int .i64 0,.int .i64 0,.int .i64 0,.int .i64 0,.int .i64 0,.string ⟨#[]⟩,.string ⟨#[]⟩,.slice none 0 0,.slice none 0 0,.slice none 0 0]) rfl);have HF:=Lh (HF.out.under (bRf.alloc nLe (.cells z17 133)));clear b2;dsimp only;refine Hid.out ?_)
  | fail)
 refine Lh ?_
 go_wp2_with (first
  | (refine Qa rfl 133 (.tmp 7) (.tmp 12) rfl (G:=w2.heap.size) (off:=0) rfl (us:=stC (St.mk 0 a ⟨#[]⟩ 0 An.nul Ex.nul [] []) Tv.nul) HV.out rfl Jy (Nat.le_refl 17) (Jh.nul.st _) ?_;intro w3 ht hs;have HV:=Lh (show Var w3 w2.heap.size (stC (St.mk 0 a ⟨#[]⟩ 0 An.nul Ex.nul [] []) Tv.nul) from hs);have HF:=Lh (HF.out.set_n ht (by omega));clear ht hs;refine Hid.out ?_)
  | fail)
 obtain ⟨G7,hG⟩:∃ G,w2.heap.size=G:=⟨_,rfl⟩
 have HV:Hid (Var w3 G7 (stC (St.mk 0 a ⟨#[]⟩ 0 An.nul Ex.nul [] []) Tv.nul)):=Lh (by rw [← hG];exact HV.out)
 have hGw:w.heap.size+1<G7:=by omega
 rw [hG]
 clear hG
 refine Lh ?_
 go_wp2_with (first
  | (refine Qq rfl 92 (.tmp 3) rfl w.heap.size 0 rfl (ryC X) HF.out.vr.rg Try.underlying92 rfl Qd ?_)
  | (go_at_call 51;(with_reducible refine (HAT.out _ HF.out.b).mono ?_);rintro e w4 ⟨rfl,b2⟩;have HF:=Lh (HF.out.under b2);have HV:=Lh (HV.out.under b2);clear b2;dsimp only;refine Hid.out ?_)
  | fail)
 have hpl:=hok.is_lt c1
 have hU:rs X.R F (f+1) .st p d=if (Qbq X.R F a (p+1,0)).2.2=0 then Yn (Qbq X.R F a (p+1,0)).1 [] (Qbq X.R F a (p+1,0)).2.1 else Kr (Qbq X.R F a (p+1,0)).2.1 (Qbq X.R F a (p+1,0)).2.2:=Y0 (s:=(Qbq X.R F a (p+1,0)).1) (x:=(Qbq X.R F a (p+1,0)).2) (by rw [hdS_let c1,HPA.out]) (by show ¬ ((0:Int)=2∨(0:Int)=3);decide)
 have HLT:Hid (∀ W,Below w.heap.size w W→CP 87 #[.agg (ryC X).toArray,.agg (stC (St.mk 0 a ⟨#[]⟩ 0 An.nul Ex.nul [] []) Tv.nul).toArray,.int .i64 ((p:Int)+1)] W (LtUTo X (Qbq X.R F a (p+1,0)) W)):=Lh fun W hW=>rLet_any X hX hm F hF a (p+1) W ((HIN.out.up hW nLe).more hW.size) hpl
 have HU:=Lh hU
 have d1:(sg.toList==[108,101,116])=true:=by rw [← HIS.out];exact c1
 obtain ⟨L,hL⟩:∃ L,Qbq X.R F a (p+1,0)=L:=⟨_,rfl⟩
 rw [hL] at HU HLT
 have HLN:Hid (L.1.l=[]∧L.1.r=[]):=Lh (by rw [← hL];exact ⟨rfl,rfl⟩)
 clear hU c1 hL hBlk
 refine Lh ?_
 go_wp2_with (first
  | (refine Qr rfl 3 (.tmp 18) (.const (.int .i64 0)) rfl (G:=G7) (off:=0) rfl (v:=.int .i64 0) HV.out rfl (by kernel_rfl) (by show 0<17;omega) rfl ?_;intro w5 ht hs;have HV:=Lh (show Var w5 G7 (stC (St.mk 0 a ⟨#[]⟩ 0 An.nul Ex.nul [] []) Tv.nul) from hs);have HF:=Lh (HF.out.set_n ht (by omega));clear ht hs;refine Hid.out ?_)
  | fail)
 refine Lh ?_
 go_wp2_with (first
  | (refine Qq rfl 92 (.tmp 3) rfl w.heap.size 0 rfl (ryC X) HF.out.vr.rg Try.underlying92 rfl Qd ?_)
  | (refine Qb rfl 133 (.tmp 7) rfl G7 0 rfl (stC (St.mk 0 a ⟨#[]⟩ 0 An.nul Ex.nul [] []) Tv.nul) HV.out.rg Try.underlying133 rfl Jy ?_)
  | (go_at_call 87;(with_reducible refine (HLT.out _ HF.out.b).mono ?_);rintro e w6 ⟨lv,rfl,hone,hx,b2⟩;have hwx:=HF.out.lt;have HF:=Lh (HF.out.under b2);have HXX:=Lh (fun h=>(hx h).weak (S':=fun b=>w.heap.size+1<b) (fun b hb _=>Nat.lt_of_lt_of_le hwx hb));have hto:Jh ⟨lv,Qk,Qk⟩:=⟨hone,rfl,rfl⟩;clear b2 hx;dsimp only)
  | (refine Qa rfl 135 (.tmp 6) (.tmp 23) rfl (G:=w.heap.size+1) (off:=0) rfl (us:=Qam L.1 ⟨lv,Qk,Qk⟩ L.2) HF.out.vo rfl (by rw [List.size_toArray,Q6];exact Qh) (by rw [Q6];exact Nat.le_refl 20) (Uc hto _) ?_;intro w90 ht hs;have HXX:=Lh (fun h=>(HXX.out h).turn (S':=fun b=>w.heap.size+1<b) ht (fun b hb _=>⟨hb,by omega⟩));have HF:=Lh (HF.out.set_o (us:=Qam L.1 ⟨lv,Qk,Qk⟩ L.2) ht (by rw [Z8 _ _ (Q6 _ _ _)] at hs;exact hs));clear ht hs)
  | fail)
 exact Qj 135 rfl rfl rfl HF.out.vo Try.underlying135 rfl (by rw [Q6];exact Qh) (Qjc HU.out (fun h=>⟨(HXX.out h).weak (fun b hb _=>by omega),by rw [HLN.out.1];exact .nil,by rw [HLN.out.2];exact .nil⟩) HF.out.b)
theorem rStmt_if(X:Ry)(hX:X.Fit)(hm:∀ i,(X.R.wd i).size≤1000000)(F f:Nat)(hF:16*X.L.length+9≤F)(hBlk:Qe1 X F f)(p:Nat)(d:Int)(w:World)(hp:p≤X.L.length)(h:X.In w w.heap.size)(hd:dOk d)(hf:3*(X.L.length-p)+2≤f+1)(c1:X.R.is p lIf=true) :
  CP 79 #[.agg (ryC X).toArray,.int .i64 (p:Int),.int .i64 d] w (Qdy (rs X.R F (f+1) .st p d) w):=by
 have hz:=K0
 have hzs:=Qf2
 have hzg:=Q2
 have hln:=h.2.len
 have hok:=Qo X.T X.L
 have HIN:=Lh h
 have HAT:Hid (∀ W,Below w.heap.size w W→CP 51 #[.agg (ryC X).toArray,.int .i64 (p:Int)] W fun e w'=>e=.returned (.string (X.R.wd p))∧Below W.heap.size W w'):=Lh fun W hW=>Qg X p W ((h.up hW nLe).more hW.size) (by omega)
 have HPO:Hid (∀ W,Below w.heap.size w W→CP 38 #[.agg (ryC X).toArray,.int .i64 (p:Int)] W fun e w'=>e=.returned (.int .i64 (X.R.ps p))∧Below W.heap.size W w'):=Lh fun W hW=>Qz X p W ((h.up hW nLe).more hW.size) (by omega)
 have HAT1:Hid (∀ W,Below w.heap.size w W→CP 51 #[.agg (ryC X).toArray,.int .i64 ((p:Int)+1)] W fun e w'=>e=.returned (.string (X.R.wd (p+1)))∧Below W.heap.size W w'):=Lh fun W hW=>Qg X (p+1) W ((h.up hW nLe).more hW.size) (by omega)
 have HF:=Lh (Kh X w)
 obtain ⟨a,ha⟩:∃ a,X.R.ps p=a:=⟨_,rfl⟩
 obtain ⟨sg,hg⟩:∃ g,X.R.wd p=g:=⟨_,rfl⟩
 have HIS:Hid (∀ l,X.R.is p l=(sg.toList==l)):=Lh fun l=>by rw [← hg];rfl
 rw [hg] at HAT
 rw [ha] at HPO
 have HPA:=Lh ha
 clear ha hg h
 show CP 79 #[.agg #[.string X.T,.slice X.A X.L.length X.c],.int .i64 (p:Int),.int .i64 d] w _
 go_enter Try.func79,Try.ntmps79
 go_wp2_with (first
  | (refine Qq rfl 92 (.tmp 3) rfl w.heap.size 0 rfl (ryC X) HF.out.vr.rg Try.underlying92 rfl Qd ?_)
  | (go_at_call 38;(with_reducible refine (HPO.out _ HF.out.b).mono ?_);rintro e w2 ⟨rfl,b2⟩;have HF:=Lh (HF.out.under b2);have hw2:=HF.out.lt;have HV:=Lh (Var.new w2 (stC St.nul Tv.nul) 133 (c:=#[.int .i64 0,.int .i64 0,.string ⟨#[]⟩,.int .i64 0,.bool false,.bool false,.string ⟨#[]⟩,.int .i64 0,.int .i64 0,.int .i64 0,.int .i64 0,.int .i64 0,.string ⟨#[]⟩,.string ⟨#[]⟩,.slice none 0 0,.slice none 0 0,.slice none 0 0]) rfl);have HF:=Lh (HF.out.under (bRf.alloc nLe (.cells z17 133)));clear b2;dsimp only;refine Hid.out ?_)
  | fail)
 refine Lh ?_
 go_wp2_with (first
  | (refine Qa rfl 133 (.tmp 7) (.tmp 12) rfl (G:=w2.heap.size) (off:=0) rfl (us:=stC (St.mk 0 a ⟨#[]⟩ 0 An.nul Ex.nul [] []) Tv.nul) HV.out rfl Jy (Nat.le_refl 17) (Jh.nul.st _) ?_;intro w3 ht hs;have HV:=Lh (show Var w3 w2.heap.size (stC (St.mk 0 a ⟨#[]⟩ 0 An.nul Ex.nul [] []) Tv.nul) from hs);have HF:=Lh (HF.out.set_n ht (by omega));clear ht hs;refine Hid.out ?_)
  | fail)
 obtain ⟨G7,hG⟩:∃ G,w2.heap.size=G:=⟨_,rfl⟩
 have HV:Hid (Var w3 G7 (stC (St.mk 0 a ⟨#[]⟩ 0 An.nul Ex.nul [] []) Tv.nul)):=Lh (by rw [← hG];exact HV.out)
 have hGw:w.heap.size+1<G7:=by omega
 rw [hG]
 clear hG
 refine Lh ?_
 go_wp2_with (first
  | (refine Qq rfl 92 (.tmp 3) rfl w.heap.size 0 rfl (ryC X) HF.out.vr.rg Try.underlying92 rfl Qd ?_)
  | (go_at_call 51;(with_reducible refine (HAT.out _ HF.out.b).mono ?_);rintro e w4 ⟨rfl,b2⟩;have HF:=Lh (HF.out.under b2);have HV:=Lh (HV.out.under b2);clear b2;dsimp only;refine Hid.out ?_)
  | fail)
 have hpl:=hok.is_lt c1
 have hU:rs X.R F (f+1) .st p d=stB X.R F f (Qe2 X.R F 2 a (p+1,0)) d:=Qgl (by rw [hdS_if c1,HPA.out]) (by show (2:Int)=2∨(2:Int)=3;decide)
 have HAK:Hid (∀ W,Below w.heap.size w W→CP 88 #[.agg (ryC X).toArray,.agg (stC (St.mk 2 a ⟨#[]⟩ 0 An.nul Ex.nul [] []) Tv.nul).toArray,.int .i64 ((p:Int)+1),.int .i64 d] W (Qdy (stB X.R F f (Qe2 X.R F 2 a (p+1,0)) d) W)):=Lh fun W hW=>Qcp X hX F f hF hBlk 2 a (by decide) (p+1) d W hpl ((HIN.out.up hW nLe).more hW.size) hd (by omega)
 obtain ⟨g,hgg⟩:∃ g,stB X.R F f (Qe2 X.R F 2 a (p+1,0)) d=g:=⟨_,rfl⟩
 rw [hgg] at hU HAK
 have HU:=Lh hU
 have d1:(sg.toList==[105,102])=true:=by rw [← HIS.out];exact c1
 have e0:(sg.toList==[108,101,116])=false:=by rw [← HIS.out];exact Kn c1 (by decide)
 clear hU c1 hBlk hgg
 refine Lh ?_
 go_wp2_with (first
  | (refine Qr rfl 3 (.tmp 26) (.const (.int .i64 2)) rfl (G:=G7) (off:=0) rfl (v:=.int .i64 2) HV.out rfl (by kernel_rfl) (by show 0<17;omega) rfl ?_;intro w5 ht hs;have HV:=Lh (show Var w5 G7 (stC (St.mk 2 a ⟨#[]⟩ 0 An.nul Ex.nul [] []) Tv.nul) from hs);have HF:=Lh (HF.out.set_n ht (by omega));clear ht hs;refine Hid.out ?_)
  | fail)
 refine Lh ?_
 go_wp2_with (first
  | (refine Qq rfl 92 (.tmp 3) rfl w.heap.size 0 rfl (ryC X) HF.out.vr.rg Try.underlying92 rfl Qd ?_)
  | (refine Qb rfl 133 (.tmp 7) rfl G7 0 rfl (stC (St.mk 2 a ⟨#[]⟩ 0 An.nul Ex.nul [] []) Tv.nul) HV.out.rg Try.underlying133 rfl Jy ?_)
  | (go_at_call 88;(with_reducible refine (HAK.out _ HF.out.b).mono ?_);rintro e w6 ⟨tv,lv,rfl,htr,hsh,b2⟩;have hwx:=HF.out.lt;have HF:=Lh (HF.out.under b2);have HTR:=Lh (htr.weak (S':=fun b=>w.heap.size+1<b) (fun b hb _=>Nat.lt_of_lt_of_le hwx hb));have HSH:=Lh (hsh.weak (S':=fun b=>w.heap.size+1<b) (fun b hb _=>Nat.lt_of_lt_of_le hwx hb));have hto:=htr.tv1;have hone:=hsh.one;clear b2 htr hsh;dsimp only)
  | (refine Qa rfl 135 (.tmp 6) (.tmp 32) rfl (G:=w.heap.size+1) (off:=0) rfl (us:=gsC g.s tv lv (g.p:Int) g.r) HF.out.vo rfl Qh (Nat.le_refl 20) (hto.gs _ hone _ _) ?_;intro w90 ht hs;have HTR:=Lh (HTR.out.turn (S':=fun b=>w.heap.size+1<b) ht (fun b hb _=>⟨hb,by omega⟩));have HSH:=Lh (HSH.out.turn (S':=fun b=>w.heap.size+1<b) ht (fun b hb _=>⟨hb,by omega⟩));have HF:=Lh (HF.out.set_o (us:=gsC g.s tv lv (g.p:Int) g.r) ht hs);clear ht hs)
  | fail)
 exact Qj 135 rfl rfl rfl HF.out.vo Try.underlying135 rfl Qh ⟨tv,lv,by rw [HU.out],by rw [HU.out];exact HTR.out.weak (fun b hb _=>by omega),by rw [HU.out];exact HSH.out.weak (fun b hb _=>by omega),HF.out.b⟩
theorem Qh2(X:Ry)(hX:X.Fit)(hm:∀ i,(X.R.wd i).size≤1000000)(F f:Nat)(hF:16*X.L.length+9≤F)(hBlk:Qe1 X F f)(p:Nat)(d:Int)(w:World)(hp:p≤X.L.length)(h:X.In w w.heap.size)(hd:dOk d)(hf:3*(X.L.length-p)+2≤f+1)(c1:X.R.is p Qdr=true) :
  CP 79 #[.agg (ryC X).toArray,.int .i64 (p:Int),.int .i64 d] w (Qdy (rs X.R F (f+1) .st p d) w):=by
 have hz:=K0
 have hzs:=Qf2
 have hzg:=Q2
 have hln:=h.2.len
 have hok:=Qo X.T X.L
 have HIN:=Lh h
 have HAT:Hid (∀ W,Below w.heap.size w W→CP 51 #[.agg (ryC X).toArray,.int .i64 (p:Int)] W fun e w'=>e=.returned (.string (X.R.wd p))∧Below W.heap.size W w'):=Lh fun W hW=>Qg X p W ((h.up hW nLe).more hW.size) (by omega)
 have HPO:Hid (∀ W,Below w.heap.size w W→CP 38 #[.agg (ryC X).toArray,.int .i64 (p:Int)] W fun e w'=>e=.returned (.int .i64 (X.R.ps p))∧Below W.heap.size W w'):=Lh fun W hW=>Qz X p W ((h.up hW nLe).more hW.size) (by omega)
 have HAT1:Hid (∀ W,Below w.heap.size w W→CP 51 #[.agg (ryC X).toArray,.int .i64 ((p:Int)+1)] W fun e w'=>e=.returned (.string (X.R.wd (p+1)))∧Below W.heap.size W w'):=Lh fun W hW=>Qg X (p+1) W ((h.up hW nLe).more hW.size) (by omega)
 have HF:=Lh (Kh X w)
 obtain ⟨a,ha⟩:∃ a,X.R.ps p=a:=⟨_,rfl⟩
 obtain ⟨sg,hg⟩:∃ g,X.R.wd p=g:=⟨_,rfl⟩
 have HIS:Hid (∀ l,X.R.is p l=(sg.toList==l)):=Lh fun l=>by rw [← hg];rfl
 rw [hg] at HAT
 rw [ha] at HPO
 have HPA:=Lh ha
 clear ha hg h
 show CP 79 #[.agg #[.string X.T,.slice X.A X.L.length X.c],.int .i64 (p:Int),.int .i64 d] w _
 go_enter Try.func79,Try.ntmps79
 go_wp2_with (first
  | (refine Qq rfl 92 (.tmp 3) rfl w.heap.size 0 rfl (ryC X) HF.out.vr.rg Try.underlying92 rfl Qd ?_)
  | (go_at_call 38;(with_reducible refine (HPO.out _ HF.out.b).mono ?_);rintro e w2 ⟨rfl,b2⟩;have HF:=Lh (HF.out.under b2);have hw2:=HF.out.lt;have HV:=Lh (Var.new w2 (stC St.nul Tv.nul) 133 (c:=#[.int .i64 0,.int .i64 0,.string ⟨#[]⟩,.int .i64 0,.bool false,.bool false,.string ⟨#[]⟩,.int .i64 0,.int .i64 0,.int .i64 0,.int .i64 0,.int .i64 0,.string ⟨#[]⟩,.string ⟨#[]⟩,.slice none 0 0,.slice none 0 0,.slice none 0 0]) rfl);have HF:=Lh (HF.out.under (bRf.alloc nLe (.cells z17 133)));clear b2;dsimp only;refine Hid.out ?_)
  | fail)
 refine Lh ?_
 go_wp2_with (first
  | (refine Qa rfl 133 (.tmp 7) (.tmp 12) rfl (G:=w2.heap.size) (off:=0) rfl (us:=stC (St.mk 0 a ⟨#[]⟩ 0 An.nul Ex.nul [] []) Tv.nul) HV.out rfl Jy (Nat.le_refl 17) (Jh.nul.st _) ?_;intro w3 ht hs;have HV:=Lh (show Var w3 w2.heap.size (stC (St.mk 0 a ⟨#[]⟩ 0 An.nul Ex.nul [] []) Tv.nul) from hs);have HF:=Lh (HF.out.set_n ht (by omega));clear ht hs;refine Hid.out ?_)
  | fail)
 obtain ⟨G7,hG⟩:∃ G,w2.heap.size=G:=⟨_,rfl⟩
 have HV:Hid (Var w3 G7 (stC (St.mk 0 a ⟨#[]⟩ 0 An.nul Ex.nul [] []) Tv.nul)):=Lh (by rw [← hG];exact HV.out)
 have hGw:w.heap.size+1<G7:=by omega
 rw [hG]
 clear hG
 refine Lh ?_
 go_wp2_with (first
  | (refine Qq rfl 92 (.tmp 3) rfl w.heap.size 0 rfl (ryC X) HF.out.vr.rg Try.underlying92 rfl Qd ?_)
  | (go_at_call 51;(with_reducible refine (HAT.out _ HF.out.b).mono ?_);rintro e w4 ⟨rfl,b2⟩;have HF:=Lh (HF.out.under b2);have HV:=Lh (HV.out.under b2);clear b2;dsimp only;refine Hid.out ?_)
  | fail)
 have hpl:=hok.is_lt c1
 have hU:rs X.R F (f+1) .st p d=stB X.R F f (Qe2 X.R F 3 a (p+1,0)) d:=Qgl (by rw [Qmu c1,HPA.out]) (by show (3:Int)=2∨(3:Int)=3;decide)
 have HAK:Hid (∀ W,Below w.heap.size w W→CP 88 #[.agg (ryC X).toArray,.agg (stC (St.mk 3 a ⟨#[]⟩ 0 An.nul Ex.nul [] []) Tv.nul).toArray,.int .i64 ((p:Int)+1),.int .i64 d] W (Qdy (stB X.R F f (Qe2 X.R F 3 a (p+1,0)) d) W)):=Lh fun W hW=>Qcp X hX F f hF hBlk 3 a (by decide) (p+1) d W hpl ((HIN.out.up hW nLe).more hW.size) hd (by omega)
 obtain ⟨g,hgg⟩:∃ g,stB X.R F f (Qe2 X.R F 3 a (p+1,0)) d=g:=⟨_,rfl⟩
 rw [hgg] at hU HAK
 have HU:=Lh hU
 have d1:(sg.toList==[119,104,105,108,101])=true:=by rw [← HIS.out];exact c1
 have e0:(sg.toList==[108,101,116])=false:=by rw [← HIS.out];exact Kn c1 (by decide)
 have e1:(sg.toList==[105,102])=false:=by rw [← HIS.out];exact Kn c1 (by decide)
 clear hU c1 hBlk hgg
 refine Lh ?_
 go_wp2_with (first
  | (refine Qr rfl 3 (.tmp 35) (.const (.int .i64 3)) rfl (G:=G7) (off:=0) rfl (v:=.int .i64 3) HV.out rfl (by kernel_rfl) (by show 0<17;omega) rfl ?_;intro w5 ht hs;have HV:=Lh (show Var w5 G7 (stC (St.mk 3 a ⟨#[]⟩ 0 An.nul Ex.nul [] []) Tv.nul) from hs);have HF:=Lh (HF.out.set_n ht (by omega));clear ht hs;refine Hid.out ?_)
  | fail)
 refine Lh ?_
 go_wp2_with (first
  | (refine Qq rfl 92 (.tmp 3) rfl w.heap.size 0 rfl (ryC X) HF.out.vr.rg Try.underlying92 rfl Qd ?_)
  | (refine Qb rfl 133 (.tmp 7) rfl G7 0 rfl (stC (St.mk 3 a ⟨#[]⟩ 0 An.nul Ex.nul [] []) Tv.nul) HV.out.rg Try.underlying133 rfl Jy ?_)
  | (go_at_call 88;(with_reducible refine (HAK.out _ HF.out.b).mono ?_);rintro e w6 ⟨tv,lv,rfl,htr,hsh,b2⟩;have hwx:=HF.out.lt;have HF:=Lh (HF.out.under b2);have HTR:=Lh (htr.weak (S':=fun b=>w.heap.size+1<b) (fun b hb _=>Nat.lt_of_lt_of_le hwx hb));have HSH:=Lh (hsh.weak (S':=fun b=>w.heap.size+1<b) (fun b hb _=>Nat.lt_of_lt_of_le hwx hb));have hto:=htr.tv1;have hone:=hsh.one;clear b2 htr hsh;dsimp only)
  | (refine Qa rfl 135 (.tmp 6) (.tmp 41) rfl (G:=w.heap.size+1) (off:=0) rfl (us:=gsC g.s tv lv (g.p:Int) g.r) HF.out.vo rfl Qh (Nat.le_refl 20) (hto.gs _ hone _ _) ?_;intro w90 ht hs;have HTR:=Lh (HTR.out.turn (S':=fun b=>w.heap.size+1<b) ht (fun b hb _=>⟨hb,by omega⟩));have HSH:=Lh (HSH.out.turn (S':=fun b=>w.heap.size+1<b) ht (fun b hb _=>⟨hb,by omega⟩));have HF:=Lh (HF.out.set_o (us:=gsC g.s tv lv (g.p:Int) g.r) ht hs);clear ht hs)
  | fail)
 exact Qj 135 rfl rfl rfl HF.out.vo Try.underlying135 rfl Qh ⟨tv,lv,by rw [HU.out],by rw [HU.out];exact HTR.out.weak (fun b hb _=>by omega),by rw [HU.out];exact HSH.out.weak (fun b hb _=>by omega),HF.out.b⟩
theorem rStmt_do(X:Ry)(hX:X.Fit)(hm:∀ i,(X.R.wd i).size≤1000000)(F f:Nat)(hF:16*X.L.length+9≤F)(hBlk:Qe1 X F f)(p:Nat)(d:Int)(w:World)(hp:p≤X.L.length)(h:X.In w w.heap.size)(hd:dOk d)(hf:3*(X.L.length-p)+2≤f+1)(c1:X.R.is p lDo=true) :
  CP 79 #[.agg (ryC X).toArray,.int .i64 (p:Int),.int .i64 d] w (Qdy (rs X.R F (f+1) .st p d) w):=by
 have hz:=K0
 have hzs:=Qf2
 have hzg:=Q2
 have hln:=h.2.len
 have hok:=Qo X.T X.L
 have HIN:=Lh h
 have HAT:Hid (∀ W,Below w.heap.size w W→CP 51 #[.agg (ryC X).toArray,.int .i64 (p:Int)] W fun e w'=>e=.returned (.string (X.R.wd p))∧Below W.heap.size W w'):=Lh fun W hW=>Qg X p W ((h.up hW nLe).more hW.size) (by omega)
 have HPO:Hid (∀ W,Below w.heap.size w W→CP 38 #[.agg (ryC X).toArray,.int .i64 (p:Int)] W fun e w'=>e=.returned (.int .i64 (X.R.ps p))∧Below W.heap.size W w'):=Lh fun W hW=>Qz X p W ((h.up hW nLe).more hW.size) (by omega)
 have HAT1:Hid (∀ W,Below w.heap.size w W→CP 51 #[.agg (ryC X).toArray,.int .i64 ((p:Int)+1)] W fun e w'=>e=.returned (.string (X.R.wd (p+1)))∧Below W.heap.size W w'):=Lh fun W hW=>Qg X (p+1) W ((h.up hW nLe).more hW.size) (by omega)
 have HF:=Lh (Kh X w)
 obtain ⟨a,ha⟩:∃ a,X.R.ps p=a:=⟨_,rfl⟩
 obtain ⟨sg,hg⟩:∃ g,X.R.wd p=g:=⟨_,rfl⟩
 have HIS:Hid (∀ l,X.R.is p l=(sg.toList==l)):=Lh fun l=>by rw [← hg];rfl
 rw [hg] at HAT
 rw [ha] at HPO
 have HPA:=Lh ha
 clear ha hg h
 show CP 79 #[.agg #[.string X.T,.slice X.A X.L.length X.c],.int .i64 (p:Int),.int .i64 d] w _
 go_enter Try.func79,Try.ntmps79
 go_wp2_with (first
  | (refine Qq rfl 92 (.tmp 3) rfl w.heap.size 0 rfl (ryC X) HF.out.vr.rg Try.underlying92 rfl Qd ?_)
  | (go_at_call 38;(with_reducible refine (HPO.out _ HF.out.b).mono ?_);rintro e w2 ⟨rfl,b2⟩;have HF:=Lh (HF.out.under b2);have hw2:=HF.out.lt;have HV:=Lh (Var.new w2 (stC St.nul Tv.nul) 133 (c:=#[.int .i64 0,.int .i64 0,.string ⟨#[]⟩,.int .i64 0,.bool false,.bool false,.string ⟨#[]⟩,.int .i64 0,.int .i64 0,.int .i64 0,.int .i64 0,.int .i64 0,.string ⟨#[]⟩,.string ⟨#[]⟩,.slice none 0 0,.slice none 0 0,.slice none 0 0]) rfl);have HF:=Lh (HF.out.under (bRf.alloc nLe (.cells z17 133)));clear b2;dsimp only;refine Hid.out ?_)
  | fail)
 refine Lh ?_
 go_wp2_with (first
  | (refine Qa rfl 133 (.tmp 7) (.tmp 12) rfl (G:=w2.heap.size) (off:=0) rfl (us:=stC (St.mk 0 a ⟨#[]⟩ 0 An.nul Ex.nul [] []) Tv.nul) HV.out rfl Jy (Nat.le_refl 17) (Jh.nul.st _) ?_;intro w3 ht hs;have HV:=Lh (show Var w3 w2.heap.size (stC (St.mk 0 a ⟨#[]⟩ 0 An.nul Ex.nul [] []) Tv.nul) from hs);have HF:=Lh (HF.out.set_n ht (by omega));clear ht hs;refine Hid.out ?_)
  | fail)
 obtain ⟨G7,hG⟩:∃ G,w2.heap.size=G:=⟨_,rfl⟩
 have HV:Hid (Var w3 G7 (stC (St.mk 0 a ⟨#[]⟩ 0 An.nul Ex.nul [] []) Tv.nul)):=Lh (by rw [← hG];exact HV.out)
 have hGw:w.heap.size+1<G7:=by omega
 rw [hG]
 clear hG
 refine Lh ?_
 go_wp2_with (first
  | (refine Qq rfl 92 (.tmp 3) rfl w.heap.size 0 rfl (ryC X) HF.out.vr.rg Try.underlying92 rfl Qd ?_)
  | (go_at_call 51;(with_reducible refine (HAT.out _ HF.out.b).mono ?_);rintro e w4 ⟨rfl,b2⟩;have HF:=Lh (HF.out.under b2);have HV:=Lh (HV.out.under b2);clear b2;dsimp only;refine Hid.out ?_)
  | fail)
 have hpl:=hok.is_lt c1
 have hU:rs X.R F (f+1) .st p d=if (mu X.R (pnm X.R (p+1,0)).2 [Jr]).2=0 then Yn (.mk 4 a (pnm X.R (p+1,0)).1 0 An.nul Ex.nul [] []) [] (mu X.R (pnm X.R (p+1,0)).2 [Jr]).1 else Kr (mu X.R (pnm X.R (p+1,0)).2 [Jr]).1 (mu X.R (pnm X.R (p+1,0)).2 [Jr]).2:=Y0 (s:=.mk 4 a (pnm X.R (p+1,0)).1 0 An.nul Ex.nul [] []) (x:=mu X.R (pnm X.R (p+1,0)).2 [Jr]) (by rw [hdS_do c1,HPA.out]) (by show ¬ ((4:Int)=2∨(4:Int)=3);decide)
 have HID:Hid (∀ W,CP 45 #[.string (X.R.wd (p+1))] W fun e w'=>e=.returned (.bool (X.R.idn (p+1)))∧Below W.heap.size W w'):=Lh fun W=>Q1 (X.R.wd (p+1)) W (hm _)
 obtain ⟨v2,hv2⟩:∃ v,X.R.wd (p+1)=v:=⟨_,rfl⟩
 have HV2:=Lh hv2
 rw [hv2] at HID HAT1
 have d1:(sg.toList==[100,111])=true:=by rw [← HIS.out];exact c1
 have e0:(sg.toList==[108,101,116])=false:=by rw [← HIS.out];exact Kn c1 (by decide)
 have e1:(sg.toList==[105,102])=false:=by rw [← HIS.out];exact Kn c1 (by decide)
 have e2:(sg.toList==[119,104,105,108,101])=false:=by rw [← HIS.out];exact Kn c1 (by decide)
 have HU0:=Lh hU
 clear c1 hBlk hv2 hU
 refine Lh ?_
 go_wp2_with (first
  | (refine Qr rfl 3 (.tmp 44) (.const (.int .i64 4)) rfl (G:=G7) (off:=0) rfl (v:=.int .i64 4) HV.out rfl (by kernel_rfl) (by show 0<17;omega) rfl ?_;intro w5 ht hs;have HV:=Lh (show Var w5 G7 (stC (St.mk 4 a ⟨#[]⟩ 0 An.nul Ex.nul [] []) Tv.nul) from hs);have HF:=Lh (HF.out.set_n ht (by omega));clear ht hs;refine Hid.out ?_)
  | fail)
 refine Lh ?_
 go_wp2_with (first
  | (refine Qq rfl 92 (.tmp 3) rfl w.heap.size 0 rfl (ryC X) HF.out.vr.rg Try.underlying92 rfl Qd ?_)
  | (go_at_call 51;(with_reducible refine (HAT1.out _ HF.out.b).mono ?_);rintro e w6 ⟨rfl,b2⟩;have HF:=Lh (HF.out.under b2);have HV:=Lh (HV.out.under b2);clear b2;dsimp only)
  | (refine Qr rfl 9 (.tmp 49) (.tmp 48) rfl (G:=G7) (off:=2) rfl (v:=.string v2) HV.out rfl (by kernel_rfl) (by show 2<17;omega) rfl ?_;intro w7 ht hs;have HV:=Lh (show Var w7 G7 (stC (St.mk 4 a v2 0 An.nul Ex.nul [] []) Tv.nul) from hs);have HF:=Lh (HF.out.set_n ht (by omega));have k2:=(show w7.cell? ⟨G7,2,none⟩=some (.string v2) from HV.out.at 2 rfl);clear ht hs;refine Hid.out ?_)
  | fail)
 cases hid:X.R.idn (p+1) with
 | false =>
  rw [hid] at HID
  have hN:pnm X.R (p+1,0)=(⟨#[]⟩,(p+1,11)):=by unfold pnm nmS;rw [if_pos rfl,if_neg (by rw [hid];decide)]
  have hU:=HU0.out
  rw [hN] at hU
  dsimp only at hU
  rw [Y9 (show ¬ (11:Int)=0 by decide),if_neg (show ¬ (11:Int)=0 by decide)] at hU
  have HU:=Lh hU
  clear hU hN hid
  refine Lh ?_
  go_wp2_with (first
   | (go_at_call 45;(with_reducible refine (HID.out _).mono ?_);rintro e w8 ⟨rfl,b2⟩;have HF:=Lh (HF.out.under b2);clear b2;dsimp only)
   | (refine Qa rfl 135 (.tmp 6) (.tmp 56) rfl (G:=w.heap.size+1) (off:=0) rfl (us:=gsC St.nul Tv.nul Qk ((p:Int)+1) (11)) HF.out.vo rfl Qh (Nat.le_refl 20) (Jh.nul.gs _ rfl _ _) ?_;intro w90 ht hs;have HF:=Lh (HF.out.set_o (us:=gsC St.nul Tv.nul Qk ((p:Int)+1) (11)) ht hs);clear ht hs)
   | fail)
  exact Qj 135 rfl rfl rfl HF.out.vo Try.underlying135 rfl Qh ⟨Tv.nul,Qk,by rw [HU.out];rfl,by rw [HU.out];exact TrS.nul' _ _,by rw [HU.out];exact .nil,HF.out.b⟩
 | true =>
  rw [hid] at HID
  have hpl2:=hok.id_lt hid
  have hN:pnm X.R (p+1,0)=(v2,(p+2,0)):=by unfold pnm nmS;rw [if_pos rfl,if_pos hid,HV2.out]
  have hU:=HU0.out
  rw [hN] at hU
  dsimp only at hU
  have HEN:Hid (∀ W,Below w.heap.size w W→CP 89 #[.agg (ryC X).toArray,.agg (stC (St.mk 4 a v2 0 An.nul Ex.nul [] []) Tv.nul).toArray,.int .i64 ((p:Int)+2)] W fun e w'=>e=.returned (.agg (Qam (St.mk 4 a v2 0 An.nul Ex.nul [] []) Tv.nul (mu X.R (p+2,0) [Jr])).toArray)∧Below W.heap.size W w'):=Lh fun W hW=>rEnd' X (St.mk 4 a v2 0 An.nul Ex.nul [] []) Tv.nul Jh.nul (p+2) W ((HIN.out.up hW nLe).more hW.size) hpl2
  obtain ⟨x,hx⟩:∃ x,mu X.R (p+2,0) [Jr]=x:=⟨_,rfl⟩
  rw [hx] at HEN hU
  have HU:=Lh hU
  clear hU hN hid hx
  refine Lh ?_
  go_wp2_with (first
   | (go_at_call 45;(with_reducible refine (HID.out _).mono ?_);rintro e w8 ⟨rfl,b2⟩;have HF:=Lh (HF.out.under b2);have HV:=Lh (HV.out.under b2);clear b2;dsimp only)
   | (refine Qq rfl 92 (.tmp 3) rfl w.heap.size 0 rfl (ryC X) HF.out.vr.rg Try.underlying92 rfl Qd ?_)
   | (refine Qb rfl 133 (.tmp 7) rfl G7 0 rfl (stC (St.mk 4 a v2 0 An.nul Ex.nul [] []) Tv.nul) HV.out.rg Try.underlying133 rfl Jy ?_)
   | (go_at_call 89;(with_reducible refine (HEN.out _ HF.out.b).mono ?_);rintro e w9 ⟨rfl,b2⟩;have HF:=Lh (HF.out.under b2);clear b2;dsimp only)
   | (refine Qa rfl 135 (.tmp 6) (.tmp 61) rfl (G:=w.heap.size+1) (off:=0) rfl (us:=Qam (St.mk 4 a v2 0 An.nul Ex.nul [] []) Tv.nul x) HF.out.vo rfl (by rw [List.size_toArray,Q6];exact Qh) (by rw [Q6];exact Nat.le_refl 20) (Uc Jh.nul _) ?_;intro w90 ht hs;have HF:=Lh (HF.out.set_o (us:=Qam (St.mk 4 a v2 0 An.nul Ex.nul [] []) Tv.nul x) ht (by rw [Z8 _ _ (Q6 _ _ _)] at hs;exact hs));clear ht hs)
   | fail)
  exact Qj 135 rfl rfl rfl HF.out.vo Try.underlying135 rfl (by rw [Q6];exact Qh) (Qjc HU.out (fun _=>⟨.nil,.nil,.nil⟩) HF.out.b)
theorem rStmt_pl(X:Ry)(hX:X.Fit)(hm:∀ i,(X.R.wd i).size≤1000000)(F f:Nat)(hF:16*X.L.length+9≤F)(hBlk:Qe1 X F f)(p:Nat)(d:Int)(w:World)(hp:p≤X.L.length)(h:X.In w w.heap.size)(hd:dOk d)(hf:3*(X.L.length-p)+2≤f+1)(c1:X.R.is p lLet=false)(c2:X.R.is p lIf=false)(c3:X.R.is p Qdr=false)(c4:X.R.is p lDo=false) :
  CP 79 #[.agg (ryC X).toArray,.int .i64 (p:Int),.int .i64 d] w (Qdy (rs X.R F (f+1) .st p d) w):=by
 have hz:=K0
 have hzs:=Qf2
 have hzg:=Q2
 have hln:=h.2.len
 have hok:=Qo X.T X.L
 have HIN:=Lh h
 have HAT:Hid (∀ W,Below w.heap.size w W→CP 51 #[.agg (ryC X).toArray,.int .i64 (p:Int)] W fun e w'=>e=.returned (.string (X.R.wd p))∧Below W.heap.size W w'):=Lh fun W hW=>Qg X p W ((h.up hW nLe).more hW.size) (by omega)
 have HPO:Hid (∀ W,Below w.heap.size w W→CP 38 #[.agg (ryC X).toArray,.int .i64 (p:Int)] W fun e w'=>e=.returned (.int .i64 (X.R.ps p))∧Below W.heap.size W w'):=Lh fun W hW=>Qz X p W ((h.up hW nLe).more hW.size) (by omega)
 have HAT1:Hid (∀ W,Below w.heap.size w W→CP 51 #[.agg (ryC X).toArray,.int .i64 ((p:Int)+1)] W fun e w'=>e=.returned (.string (X.R.wd (p+1)))∧Below W.heap.size W w'):=Lh fun W hW=>Qg X (p+1) W ((h.up hW nLe).more hW.size) (by omega)
 have HF:=Lh (Kh X w)
 obtain ⟨a,ha⟩:∃ a,X.R.ps p=a:=⟨_,rfl⟩
 obtain ⟨sg,hg⟩:∃ g,X.R.wd p=g:=⟨_,rfl⟩
 have HIS:Hid (∀ l,X.R.is p l=(sg.toList==l)):=Lh fun l=>by rw [← hg];rfl
 rw [hg] at HAT
 rw [ha] at HPO
 have HPA:=Lh ha
 clear ha hg h
 show CP 79 #[.agg #[.string X.T,.slice X.A X.L.length X.c],.int .i64 (p:Int),.int .i64 d] w _
 go_enter Try.func79,Try.ntmps79
 go_wp2_with (first
  | (refine Qq rfl 92 (.tmp 3) rfl w.heap.size 0 rfl (ryC X) HF.out.vr.rg Try.underlying92 rfl Qd ?_)
  | (go_at_call 38;(with_reducible refine (HPO.out _ HF.out.b).mono ?_);rintro e w2 ⟨rfl,b2⟩;have HF:=Lh (HF.out.under b2);have hw2:=HF.out.lt;have HV:=Lh (Var.new w2 (stC St.nul Tv.nul) 133 (c:=#[.int .i64 0,.int .i64 0,.string ⟨#[]⟩,.int .i64 0,.bool false,.bool false,.string ⟨#[]⟩,.int .i64 0,.int .i64 0,.int .i64 0,.int .i64 0,.int .i64 0,.string ⟨#[]⟩,.string ⟨#[]⟩,.slice none 0 0,.slice none 0 0,.slice none 0 0]) rfl);have HF:=Lh (HF.out.under (bRf.alloc nLe (.cells z17 133)));clear b2;dsimp only;refine Hid.out ?_)
  | fail)
 refine Lh ?_
 go_wp2_with (first
  | (refine Qa rfl 133 (.tmp 7) (.tmp 12) rfl (G:=w2.heap.size) (off:=0) rfl (us:=stC (St.mk 0 a ⟨#[]⟩ 0 An.nul Ex.nul [] []) Tv.nul) HV.out rfl Jy (Nat.le_refl 17) (Jh.nul.st _) ?_;intro w3 ht hs;have HV:=Lh (show Var w3 w2.heap.size (stC (St.mk 0 a ⟨#[]⟩ 0 An.nul Ex.nul [] []) Tv.nul) from hs);have HF:=Lh (HF.out.set_n ht (by omega));clear ht hs;refine Hid.out ?_)
  | fail)
 obtain ⟨G7,hG⟩:∃ G,w2.heap.size=G:=⟨_,rfl⟩
 have HV:Hid (Var w3 G7 (stC (St.mk 0 a ⟨#[]⟩ 0 An.nul Ex.nul [] []) Tv.nul)):=Lh (by rw [← hG];exact HV.out)
 have hGw:w.heap.size+1<G7:=by omega
 rw [hG]
 clear hG
 refine Lh ?_
 go_wp2_with (first
  | (refine Qq rfl 92 (.tmp 3) rfl w.heap.size 0 rfl (ryC X) HF.out.vr.rg Try.underlying92 rfl Qd ?_)
  | (go_at_call 51;(with_reducible refine (HAT.out _ HF.out.b).mono ?_);rintro e w4 ⟨rfl,b2⟩;have HF:=Lh (HF.out.under b2);have HV:=Lh (HV.out.under b2);clear b2;dsimp only;refine Hid.out ?_)
  | fail)
 obtain ⟨g,hgg⟩:∃ g,rd X.R F (.lev 1) p 0=g:=⟨_,rfl⟩
 have hin:=Ko hok F (.lev 1) p 0 hp (fun h=>by cases h)
 rw [hgg] at hin
 have hgp:g.p≤X.L.length:=hin.2.1
 have hH:hdS X.R F p=plS X.R F a (p,0):=by rw [hdS_pl c1 c2 c3 c4,HPA.out]
 have hP:pex X.R F (p,0)=(g.e,(g.p,g.r)):=by unfold pex exS;rw [if_pos rfl,hgg]
 have HEX:Hid (∀ W,Below w.heap.size w W→CP 70 #[.agg (ryC X).toArray,.int .i64 (p:Int),.int .i64 1,.int .i64 0] W (Yi W g)):=Lh fun W hW=>by
  rw [← hgg]
  exact (Kz X hX F).1 1 0 p W (by omega) (by omega) (by omega) hp ((HIN.out.up hW nLe).more hW.size) (by omega)
 have e0:(sg.toList==[108,101,116])=false:=by rw [← HIS.out];exact c1
 have e1:(sg.toList==[105,102])=false:=by rw [← HIS.out];exact c2
 have e2:(sg.toList==[119,104,105,108,101])=false:=by rw [← HIS.out];exact c3
 have e3:(sg.toList==[100,111])=false:=by rw [← HIS.out];exact c4
 clear c1 c2 c3 c4 hBlk hin hgg
 refine Lh ?_
 go_wp2_with (first
  | (refine Qq rfl 92 (.tmp 3) rfl w.heap.size 0 rfl (ryC X) HF.out.vr.rg Try.underlying92 rfl Qd ?_)
  | (go_at_call 70;(with_reducible refine (HEX.out _ HF.out.b).mono ?_);rintro e w5 ⟨lv,rfl,hx,b2⟩;have hwx:=HF.out.lt;have hV7:=HV.out.lt;have HF:=Lh (HF.out.under b2);have HV:=Lh (HV.out.under b2);have hone:=hx.one;have HX:=Lh (hx.weak (S':=fun b=>w.heap.size+1<b∧b≠G7∧b≠w5.heap.size) (fun b hb h2=>⟨Nat.lt_of_lt_of_le hwx hb,(by have hb:_≤b:=hb;omega),Nat.ne_of_lt h2⟩));have hw5:=HF.out.lt;have hV75:=HV.out.lt;have HG:=Lh (Var.new w5 (gC Ex.nul (.slice none 0 0) 0 0) 138 (c:=#[.int .i64 0,.int .i64 0,.int .i64 0,.string ⟨#[]⟩,.string ⟨#[]⟩,.slice none 0 0,.int .i64 0,.int .i64 0]) rfl);have HF:=Lh (HF.out.under (bRf.alloc nLe (.cells z8 138)));have HV:=Lh (HV.out.under (bRf.alloc nLe (.cells z8 138)));have HX:=Lh (HX.out.under (bRf.alloc nLe (.cells z8 138)) (fun b _ hb=>hb));clear hx b2;dsimp only;refine Hid.out ?_)
  | fail)
 refine Lh ?_
 go_wp2_with (first
  | (refine Qa rfl 138 (.tmp 8) (.tmp 64) rfl (G:=w5.heap.size) (off:=0) rfl (us:=gC g.e lv (g.p:Int) g.r) HG.out rfl Yu (Nat.le_refl 8) (Qdx hone) ?_;intro w6 ht hs;have HG:=Lh (show Var w6 w5.heap.size (gC g.e lv (g.p:Int) g.r) from hs);have HX:=Lh (HX.out.turn (S':=fun b=>w.heap.size+1<b∧b≠G7∧b≠w5.heap.size) ht (fun b hb _=>⟨hb,hb.2.2⟩));have HF:=Lh (HF.out.set_n ht (by omega));have HV:=Lh (HV.out.turn ht (by omega));clear ht hs;refine Hid.out ?_)
  | fail)
 obtain ⟨G8,hG⟩:∃ G,w5.heap.size=G:=⟨_,rfl⟩
 have HX:Hid (Shx w6 (fun b=>w.heap.size+1<b∧b≠G7∧b≠G8) lv g.e.l):=Lh (by rw [← hG];exact HX.out)
 have HG:Hid (Var w6 G8 (gC g.e lv (g.p:Int) g.r)):=Lh (by rw [← hG];exact HG.out)
 have hG78:G7<G8:=by omega
 have k0:w6.cell? ⟨G8,0,none⟩=some (.int .i64 g.e.k):=HG.out.at 0 rfl
 have k3:w6.cell? ⟨G8,3,none⟩=some (.string g.e.nm):=HG.out.at 3 rfl
 have k6:w6.cell? ⟨G8,6,none⟩=some (.int .i64 (g.p:Int)):=HG.out.at 6 rfl
 have k7:w6.cell? ⟨G8,7,none⟩=some (.int .i64 g.r):=HG.out.at 7 rfl
 rw [hG]
 clear hG
 by_cases hr:g.r=0
 ·have hr1:(g.r==0)=true:=by simp [hr]
  have hr2:(g.r != 0)=false:=by simp [hr]
  have hr3:decide (g.r=0)=true:=by simp [hr]
  by_cases hk:g.e.k=2
  ·have hk1:(g.e.k==2)=true:=by simp [hk]
   have hk2:decide (g.e.k=2)=true:=by simp [hk]
   have hU:rs X.R F (f+1) .st p d=if (Qc3 X.R F (g.p,0)).2.2=0 then Yn ((St.mk 1 a g.e.nm 0 An.nul Ex.nul [] []).setE (Qc3 X.R F (g.p,0)).1) [] (Qc3 X.R F (g.p,0)).2.1 else Kr (Qc3 X.R F (g.p,0)).2.1 (Qc3 X.R F (g.p,0)).2.2:=Y0 (s:=(St.mk 1 a g.e.nm 0 An.nul Ex.nul [] []).setE (Qc3 X.R F (g.p,0)).1) (x:=(Qc3 X.R F (g.p,0)).2) (by rw [hH];unfold plS;rw [hP];dsimp only;rw [hr,if_pos rfl,if_pos hk];rfl) (by show ¬ ((1:Int)=2∨(1:Int)=3);decide)
   have HST:Hid (∀ W,Below w.heap.size w W→CP 90 #[.agg (ryC X).toArray,.agg (stC (St.mk 1 a g.e.nm 0 An.nul Ex.nul [] []) Tv.nul).toArray,.int .i64 (g.p:Int)] W (SetTo X (St.mk 1 a g.e.nm 0 An.nul Ex.nul [] []) Tv.nul (Qc3 X.R F (g.p,0)) W)):=Lh fun W hW=>Qjb X hX F hF (St.mk 1 a g.e.nm 0 An.nul Ex.nul [] []) Tv.nul Jh.nul g.p W ((HIN.out.up hW nLe).more hW.size) hgp
   obtain ⟨z,hzz⟩:∃ z,Qc3 X.R F (g.p,0)=z:=⟨_,rfl⟩
   rw [hzz] at hU HST
   have HU:=Lh hU
   clear hU hzz hk hr
   refine Lh ?_
   go_wp2_with (first
    | (refine Qr rfl 3 (.tmp 77) (.const (.int .i64 1)) rfl (G:=G7) (off:=0) rfl (v:=.int .i64 1) HV.out rfl (by kernel_rfl) (by show 0<17;omega) rfl ?_;intro w7 ht hs;have HV:=Lh (show Var w7 G7 (stC (St.mk 1 a ⟨#[]⟩ 0 An.nul Ex.nul [] []) Tv.nul) from hs);have HF:=Lh (HF.out.set_n ht (by omega));have HG:=Lh (HG.out.turn ht (by omega));clear k0 k6 k7 k3;have k3:=(show w7.cell? ⟨G8,3,none⟩=some (.string g.e.nm) from HG.out.at 3 rfl);clear ht hs;refine Hid.out ?_)
    | fail)
   refine Lh ?_
   go_wp2_with (first
    | (refine Qr rfl 9 (.tmp 81) (.tmp 80) rfl (G:=G7) (off:=2) rfl (v:=.string g.e.nm) HV.out rfl (by kernel_rfl) (by show 2<17;omega) rfl ?_;intro w8 ht hs;have HV:=Lh (show Var w8 G7 (stC (St.mk 1 a g.e.nm 0 An.nul Ex.nul [] []) Tv.nul) from hs);have HF:=Lh (HF.out.set_n ht (by omega));have HG:=Lh (HG.out.turn ht (by omega));clear k3;have k6:=(show w8.cell? ⟨G8,6,none⟩=some (.int .i64 (g.p:Int)) from HG.out.at 6 rfl);clear ht hs;refine Hid.out ?_)
    | fail)
   refine Lh ?_
   go_wp2_with (first
    | (refine Qq rfl 92 (.tmp 3) rfl w.heap.size 0 rfl (ryC X) HF.out.vr.rg Try.underlying92 rfl Qd ?_)
    | (refine Qb rfl 133 (.tmp 7) rfl G7 0 rfl (stC (St.mk 1 a g.e.nm 0 An.nul Ex.nul [] []) Tv.nul) HV.out.rg Try.underlying133 rfl Jy ?_)
    | (go_at_call 90;(with_reducible refine (HST.out _ HF.out.b).mono ?_);rintro e w9 ⟨l9,rfl,hon9,hx9,b2⟩;have hwx:=HF.out.lt;have HF:=Lh (HF.out.under b2);have HXX:=Lh (fun h=>(hx9 h).weak (S':=fun b=>w.heap.size+1<b) (fun b hb _=>Nat.lt_of_lt_of_le hwx hb));have hto:Jh ⟨l9,Qk,Qk⟩:=⟨hon9,rfl,rfl⟩;clear b2 hx9;dsimp only)
    | (refine Qa rfl 135 (.tmp 6) (.tmp 86) rfl (G:=w.heap.size+1) (off:=0) rfl (us:=Qam ((St.mk 1 a g.e.nm 0 An.nul Ex.nul [] []).setE z.1) ⟨l9,Qk,Qk⟩ z.2) HF.out.vo rfl (by rw [List.size_toArray,Q6];exact Qh) (by rw [Q6];exact Nat.le_refl 20) (Uc hto _) ?_;intro w90 ht hs;have HXX:=Lh (fun h=>(HXX.out h).turn (S':=fun b=>w.heap.size+1<b) ht (fun b hb _=>⟨hb,by omega⟩));have HF:=Lh (HF.out.set_o (us:=Qam ((St.mk 1 a g.e.nm 0 An.nul Ex.nul [] []).setE z.1) ⟨l9,Qk,Qk⟩ z.2) ht (by rw [Z8 _ _ (Q6 _ _ _)] at hs;exact hs));clear ht hs)
    | fail)
   exact Qj 135 rfl rfl rfl HF.out.vo Try.underlying135 rfl (by rw [Q6];exact Qh) (Qjc HU.out (fun h=>⟨(HXX.out h).weak (fun b hb _=>by omega),.nil,.nil⟩) HF.out.b)
  ·have hk1:(g.e.k==2)=false:=by simp [hk]
   have hk2:decide (g.e.k=2)=false:=by simp [hk]
   by_cases hk3:g.e.k=3
   ·have hk4:(g.e.k==3)=true:=by simp [hk3]
    have hk5:decide (g.e.k=3)=true:=by simp [hk3]
    have hU:rs X.R F (f+1) .st p d=if (mu X.R (g.p,0) [Jr]).2=0 then Yn (St.mk 5 a ⟨#[]⟩ 0 An.nul g.e [] []) [] (mu X.R (g.p,0) [Jr]).1 else Kr (mu X.R (g.p,0) [Jr]).1 (mu X.R (g.p,0) [Jr]).2:=Y0 (s:=(St.mk 5 a ⟨#[]⟩ 0 An.nul g.e [] [])) (x:=mu X.R (g.p,0) [Jr]) (by rw [hH];unfold plS;rw [hP];dsimp only;rw [hr,if_pos rfl,if_neg hk,if_pos hk3]) (by show ¬ ((5:Int)=2∨(5:Int)=3);decide)
    have HEN:Hid (∀ W tv,Jh tv→Below w.heap.size w W→CP 89 #[.agg (ryC X).toArray,.agg (stC (St.mk 5 a ⟨#[]⟩ 0 An.nul g.e [] []) tv).toArray,.int .i64 (g.p:Int)] W fun e w'=>e=.returned (.agg (Qam (St.mk 5 a ⟨#[]⟩ 0 An.nul g.e [] []) tv (mu X.R (g.p,0) [Jr])).toArray)∧Below W.heap.size W w'):=Lh fun W tv ho hW=>rEnd' X (St.mk 5 a ⟨#[]⟩ 0 An.nul g.e [] []) tv ho g.p W ((HIN.out.up hW nLe).more hW.size) hgp
    obtain ⟨x,hxx⟩:∃ x,mu X.R (g.p,0) [Jr]=x:=⟨_,rfl⟩
    rw [hxx] at hU HEN
    have HU:=Lh hU
    have hto:Jh ⟨lv,Qk,Qk⟩:=⟨hone,rfl,rfl⟩
    clear hU hxx hr hk3
    refine Lh ?_
    go_wp2_with (first
     | (refine Qr rfl 3 (.tmp 91) (.const (.int .i64 5)) rfl (G:=G7) (off:=0) rfl (v:=.int .i64 5) HV.out rfl (by kernel_rfl) (by show 0<17;omega) rfl ?_;intro w7 ht hs;have HV:=Lh (show Var w7 G7 (stC (St.mk 5 a ⟨#[]⟩ 0 An.nul Ex.nul [] []) Tv.nul) from hs);have HF:=Lh (HF.out.set_n ht (by omega));have HG:=Lh (HG.out.turn ht (by omega));have HX:=Lh (HX.out.turn (S':=fun b=>w.heap.size+1<b∧b≠G7∧b≠G8) ht (fun b hb _=>⟨hb,by omega⟩));clear k0 k6 k7 k3;clear ht hs;refine Hid.out ?_)
     | fail)
    refine Lh ?_
    go_wp2_with (first
     | (refine Qb rfl 81 (.tmp 92) rfl G8 0 rfl (exC g.e lv) (Qbi HG.out.rg) Try.underlying81 rfl Z6 ?_)
     | (refine Qa rfl 81 (.tmp 94) (.tmp 93) rfl (G:=G7) (off:=9) rfl (us:=exC g.e lv) HV.out rfl Z6 (by show 9+6≤17;omega) (Ym _ hone) ?_;intro w8 ht hs;have HV:=Lh (show Var w8 G7 (stC (St.mk 5 a ⟨#[]⟩ 0 An.nul g.e [] []) ⟨lv,Qk,Qk⟩) from hs);have HF:=Lh (HF.out.set_n ht (by omega));have HX:=Lh (HX.out.turn (S':=fun b=>w.heap.size+1<b∧b≠G7∧b≠G8) ht (fun b hb _=>⟨hb,hb.2.1⟩));have HG:=Lh (HG.out.turn ht (by omega));clear ht hs;have k6:=(show w8.cell? ⟨G8,6,none⟩=some (.int .i64 (g.p:Int)) from HG.out.at 6 rfl);refine Hid.out ?_)
     | fail)
    refine Lh ?_
    go_wp2_with (first
     | (refine Qq rfl 92 (.tmp 3) rfl w.heap.size 0 rfl (ryC X) HF.out.vr.rg Try.underlying92 rfl Qd ?_)
     | (refine Qb rfl 133 (.tmp 7) rfl G7 0 rfl (stC (St.mk 5 a ⟨#[]⟩ 0 An.nul g.e [] []) ⟨lv,Qk,Qk⟩) HV.out.rg Try.underlying133 rfl Jy ?_)
     | (go_at_call 89;(with_reducible refine (HEN.out _ _ hto HF.out.b).mono ?_);rintro e w9 ⟨rfl,b2⟩;have HF:=Lh (HF.out.under b2);have HX:=Lh (HX.out.under b2 (fun b _ hb=>hb));clear b2;dsimp only)
     | (refine Qa rfl 135 (.tmp 6) (.tmp 99) rfl (G:=w.heap.size+1) (off:=0) rfl (us:=Qam (St.mk 5 a ⟨#[]⟩ 0 An.nul g.e [] []) ⟨lv,Qk,Qk⟩ x) HF.out.vo rfl (by rw [List.size_toArray,Q6];exact Qh) (by rw [Q6];exact Nat.le_refl 20) (Uc hto _) ?_;intro w90 ht hs;have HX:=Lh (HX.out.turn (S':=fun b=>w.heap.size+1<b∧b≠G7∧b≠G8) ht (fun b hb _=>⟨hb,by omega⟩));have HF:=Lh (HF.out.set_o (us:=Qam (St.mk 5 a ⟨#[]⟩ 0 An.nul g.e [] []) ⟨lv,Qk,Qk⟩ x) ht (by rw [Z8 _ _ (Q6 _ _ _)] at hs;exact hs));clear ht hs)
     | fail)
    exact Qj 135 rfl rfl rfl HF.out.vo Try.underlying135 rfl (by rw [Q6];exact Qh) (Qjc HU.out (fun _=>⟨HX.out.weak (fun b hb _=>by omega),.nil,.nil⟩) HF.out.b)
   ·have hk4:(g.e.k==3)=false:=by simp [hk3]
    have hk5:decide (g.e.k=3)=false:=by simp [hk3]
    have hU:rs X.R F (f+1) .st p d=if ((g.p,(11:Int)):Nat×Int).2=0 then Yn (.mk 0 a ⟨#[]⟩ 0 An.nul Ex.nul [] []) [] (g.p,(11:Int)).1 else Kr (g.p,(11:Int)).1 (g.p,(11:Int)).2:=Y0 (s:=.mk 0 a ⟨#[]⟩ 0 An.nul Ex.nul [] []) (x:=(g.p,11)) (by rw [hH];unfold plS;rw [hP];dsimp only;rw [hr,if_pos rfl,if_neg hk,if_neg hk3]) (by show ¬ ((0:Int)=2∨(0:Int)=3);decide)
    rw [if_neg (show ¬ (11:Int)=0 by decide)] at hU
    have HU:=Lh hU
    clear hU
    refine Lh ?_
    go_wp2_with (first
     | (refine Qa rfl 135 (.tmp 6) (.tmp 102) rfl (G:=w.heap.size+1) (off:=0) rfl (us:=gsC St.nul Tv.nul Qk ((g.p:Int)) (11)) HF.out.vo rfl Qh (Nat.le_refl 20) (Jh.nul.gs _ rfl _ _) ?_;intro w90 ht hs;have HF:=Lh (HF.out.set_o (us:=gsC St.nul Tv.nul Qk ((g.p:Int)) (11)) ht hs);clear ht hs)
     | fail)
    exact Qj 135 rfl rfl rfl HF.out.vo Try.underlying135 rfl Qh ⟨Tv.nul,Qk,by rw [HU.out];rfl,by rw [HU.out];exact TrS.nul' _ _,by rw [HU.out];exact .nil,HF.out.b⟩
 ·have hr1:(g.r==0)=false:=by simp [hr]
  have hr2:(g.r != 0)=true:=by simp [hr]
  have hr3:decide (g.r=0)=false:=by simp [hr]
  have hU:rs X.R F (f+1) .st p d=if ((g.p,g.r):Nat×Int).2=0 then Yn (.mk 0 a ⟨#[]⟩ 0 An.nul Ex.nul [] []) [] (g.p,g.r).1 else Kr (g.p,g.r).1 (g.p,g.r).2:=Y0 (s:=.mk 0 a ⟨#[]⟩ 0 An.nul Ex.nul [] []) (x:=(g.p,g.r)) (by rw [hH];unfold plS;rw [hP];dsimp only;rw [if_neg hr]) (by show ¬ ((0:Int)=2∨(0:Int)=3);decide)
  rw [if_neg hr] at hU
  have HU:=Lh hU
  clear hU
  refine Lh ?_
  go_wp2_with (first
   | (refine Qa rfl 135 (.tmp 6) (.tmp 72) rfl (G:=w.heap.size+1) (off:=0) rfl (us:=gsC St.nul Tv.nul Qk ((g.p:Int)) (g.r)) HF.out.vo rfl Qh (Nat.le_refl 20) (Jh.nul.gs _ rfl _ _) ?_;intro w90 ht hs;have HF:=Lh (HF.out.set_o (us:=gsC St.nul Tv.nul Qk ((g.p:Int)) (g.r)) ht hs);clear ht hs)
   | fail)
  exact Qj 135 rfl rfl rfl HF.out.vo Try.underlying135 rfl Qh ⟨Tv.nul,Qk,by rw [HU.out];rfl,by rw [HU.out];exact TrS.nul' _ _,by rw [HU.out];exact .nil,HF.out.b⟩
theorem Qkq(X:Ry)(hX:X.Fit)(hm:∀ i,(X.R.wd i).size≤1000000)(F f:Nat)(hF:16*X.L.length+9≤F)(hBlk:Qe1 X F f):RStC X F (f+1):=by
 intro p d w hp h hd hf
 cases c1:X.R.is p lLet with
 | true=>exact Qmv X hX hm F f hF hBlk p d w hp h hd hf c1
 | false =>
  cases c2:X.R.is p lIf with
  | true=>exact rStmt_if X hX hm F f hF hBlk p d w hp h hd hf c2
  | false =>
   cases c3:X.R.is p Qdr with
   | true=>exact Qh2 X hX hm F f hF hBlk p d w hp h hd hf c3
   | false =>
    cases c4:X.R.is p lDo with
    | true=>exact rStmt_do X hX hm F f hF hBlk p d w hp h hd hf c4
    | false=>exact rStmt_pl X hX hm F f hF hBlk p d w hp h hd hf c1 c2 c3 c4
theorem ends_lt{R:Rw}{p:Nat}(hp:p≤R.n):Qf0 R p=(R.is p [125] || R.is p Qla || !decide (p<R.n)):=by
 unfold Qf0
 congr 1
 by_cases h:p<R.n
 ·rw [decide_eq_true h,decide_eq_false (by omega)];rfl
 ·rw [decide_eq_false h,decide_eq_true (by omega)];rfl
theorem Fm.turnM{X:Ry}{w W W':World}{os:List Value}{M:Nat→Prop}(h:Fm X w W os)(ht:Tn M W W')(hM:∀ k,k≤w.heap.size+1→¬ M k):Fm X w W' os:=
 ⟨h.vr.turn ht (hM _ (by omega)),h.vo.turn ht (hM _ nLe),h.b.trans (ht.below h.b.size fun k hk=>hM k (by omega))⟩
theorem Qmw(X:Ry)(F f:Nat)(hSt:∀ f'≤f,RStC X F f'):RRowC X F (f+1):=by
 intro p d w hp h hd hf
 have hz:=K0
 have hln:=h.2.len
 have hok:=Qo X.T X.L
 have HIN:=Lh h
 have HF:=Lh (Kh X w)
 have HATG:Hid (∀ (q:Nat) W,q≤X.L.length→Below w.heap.size w W→CP 51 #[.agg (ryC X).toArray,.int .i64 (q:Int)] W fun e w'=>e=.returned (.string (X.R.wd q))∧Below W.heap.size W w'):=Lh fun q W hq hW=>Qg X q W ((HIN.out.up hW nLe).more hW.size) (by omega)
 have HSG:Hid (∀ (q f':Nat) W,q≤X.L.length→f'≤f→3*(X.L.length-q)+2≤f'→Below w.heap.size w W→CP 79 #[.agg (ryC X).toArray,.int .i64 (q:Int),.int .i64 d] W (Qdy (rs X.R F f' .st q d) W)):=Lh fun q f' W hq hf1 hf2 hW=>hSt f' hf1 q d W hq ((HIN.out.up hW nLe).more hW.size) hd hf2
 obtain ⟨GG,hGG⟩:∃ g,rs X.R F (f+1) (.row []) p d=g:=⟨_,rfl⟩
 rw [hGG]
 have HGG:=Lh hGG
 clear h hSt hGG
 show CP 69 #[.agg #[.string X.T,.slice X.A X.L.length X.c],.int .i64 (p:Int),.int .i64 d] w _
 go_enter Try.func69,Try.ntmps69
 go_wp2_with fail
 obtain ⟨W0,hW0⟩:∃ W,((w.alloc (.cells #[.string X.T,.slice X.A X.L.length X.c] 92)).alloc (.cells z20 135))=W:=⟨_,rfl⟩
 rw [hW0] at HF ⊢
 clear hW0
 go_loopw [1,7] (fun av rv wr=>∃ (q f':Nat) (rl:List (St×Tv)),av=.int .i64 (q:Int)∧q≤X.L.length∧f'≤f∧3*(X.L.length-q)+3≤f'+1∧rl.length≤q∧Hid (Fm X w wr (gsC St.nul Tv.nul Qk 0 0))∧Hid (Own wr (w.heap.size+2) 133 17 rv rl.length (scs rl))∧Hid (∀ e∈rl,TrS wr (fun b=>w.heap.size+1<b∧rv.ownBlock≠some b) e.1 e.2)∧Hid (rs X.R F (f'+1) (.row (rl.map (·.1))) q d=GG)) (fun av _ _=>X.L.length-(intOf av).toNat)
 case atStart=>exact ⟨p,f,[],rfl,hp,Nat.le_refl _,hf,Nat.zero_le _,HF,Lh (Own.nil _ _ _ _ (by have:=HF.out.lt;omega)),Lh (fun e he=>by cases he),Lh HGG.out⟩
 case round =>
  clear HF
  obtain ⟨q,f',rl,rfl,hq,hf1,hf2,hrl,HF,HO,HTL,HR⟩:=hrel
  have HAT:Hid (∀ W,Below w.heap.size w W→CP 51 #[.agg (ryC X).toArray,.int .i64 (q:Int)] W fun e w'=>e=.returned (.string (X.R.wd q))∧Below W.heap.size W w'):=Lh fun W hW=>HATG.out q W hq hW
  obtain ⟨sg,hg⟩:∃ g,X.R.wd q=g:=⟨_,rfl⟩
  have hE:=ends_lt (R:=X.R) (p:=q) hq
  have h125:X.R.is q [125]=(sg.toList==[125]):=by rw [← hg];rfl
  have hret:X.R.is q Qla=(sg.toList==[114,101,116,117,114,110]):=by rw [← hg];rfl
  rw [h125,hret,show X.R.n=X.L.length from rfl] at hE
  rw [hg] at HAT
  have hR:=HR.out
  rw [Qdt] at hR
  have g1:=HF.out.vr.at 1 (v:=.slice X.A X.L.length X.c) rfl
  clear hg h125 hret
  obtain ⟨Ar,cr,rfl⟩:=HO.out.form
  have ends:∀ (he:Qf0 X.R q=true),GG=Yn St.nul (rl.map (·.1)) q:=fun he=>by rw [if_pos he] at hR;exact hR.symm
  by_cases hlt:q<X.L.length
  ·have hl1:(q:Int)<(X.L.length:Int):=by omega
   have hl2:decide (q<X.L.length)=true:=decide_eq_true hlt
   have hl3:decide ((q:Int)<(X.L.length:Int))=true:=decide_eq_true hl1
   cases hc1:(sg.toList==[125]) with
   | true =>
    have HU:=Lh (ends (by rw [hE,hc1];rfl))
    clear ends hR hE
    go_wp2_with (first
     | (refine Qq rfl 92 (.tmp 3) rfl w.heap.size 0 rfl (ryC X) HF.out.vr.rg Try.underlying92 rfl Qd ?_)
     | (go_at_call 51;(with_reducible refine (HAT.out _ HF.out.b).mono ?_);rintro e w5 ⟨rfl,b2⟩;have HF:=Lh (HF.out.under b2);have HO:=Lh (HO.out.turn (Tn.of_below (fun _=>False) b2) (fun k _ h=>h));have HTL:=Lh (fun q hq=>(HTL.out q hq).turn (S':=fun b=>w.heap.size+1<b∧(Value.slice Ar rl.length cr).ownBlock≠some b) (Tn.of_below (fun _=>False) b2) (fun b hb _=>⟨hb,fun h=>h⟩));clear b2;dsimp only)
     | (refine Qa rfl 135 (.tmp 6) (.tmp 47) rfl (G:=w.heap.size+1) (off:=0) rfl (us:=gsC St.nul Tv.nul (.slice Ar rl.length cr) (q:Int) 0) HF.out.vo rfl Qh (Nat.le_refl 20) (Jh.nul.gs _ rfl _ _) ?_;intro w90 ht hs;have HO:=Lh (HO.out.turn ht (fun k hk e=>by have:=HO.out.block_ge k hk;omega));have HTL:=Lh (fun q hq=>(HTL.out q hq).turn (S':=fun b=>w.heap.size+1<b∧(Value.slice Ar rl.length cr).ownBlock≠some b) ht (fun b hb _=>⟨hb,by omega⟩));have HF:=Lh (HF.out.set_o (us:=gsC St.nul Tv.nul (.slice Ar rl.length cr) (q:Int) 0) ht hs);clear ht hs)
     | fail)
    exact Qj 135 rfl rfl rfl HF.out.vo Try.underlying135 rfl Qh ⟨Tv.nul,.slice Ar rl.length cr,by rw [HU.out];rfl,by rw [HU.out];exact TrS.nul' _ _,by rw [HU.out];exact ShS.of_own HO.out rfl (fun e he=>(HTL.out e he).weak (fun b hb _=>by have:=hb.1;omega)) (fun b hb _ _=>by omega),HF.out.b⟩
   | false =>
    cases hc2:(sg.toList==[114,101,116,117,114,110]) with
    | true =>
     have HU:=Lh (ends (by rw [hE,hc1,hc2];rfl))
     clear ends hR hE
     go_wp2_with (first
      | (refine Qq rfl 92 (.tmp 3) rfl w.heap.size 0 rfl (ryC X) HF.out.vr.rg Try.underlying92 rfl Qd ?_)
      | (go_at_call 51;(with_reducible refine (HAT.out _ HF.out.b).mono ?_);rintro e w5 ⟨rfl,b2⟩;have HF:=Lh (HF.out.under b2);have HO:=Lh (HO.out.turn (Tn.of_below (fun _=>False) b2) (fun k _ h=>h));have HTL:=Lh (fun q hq=>(HTL.out q hq).turn (S':=fun b=>w.heap.size+1<b∧(Value.slice Ar rl.length cr).ownBlock≠some b) (Tn.of_below (fun _=>False) b2) (fun b hb _=>⟨hb,fun h=>h⟩));clear b2;dsimp only)
      | (refine Qa rfl 135 (.tmp 6) (.tmp 47) rfl (G:=w.heap.size+1) (off:=0) rfl (us:=gsC St.nul Tv.nul (.slice Ar rl.length cr) (q:Int) 0) HF.out.vo rfl Qh (Nat.le_refl 20) (Jh.nul.gs _ rfl _ _) ?_;intro w90 ht hs;have HO:=Lh (HO.out.turn ht (fun k hk e=>by have:=HO.out.block_ge k hk;omega));have HTL:=Lh (fun q hq=>(HTL.out q hq).turn (S':=fun b=>w.heap.size+1<b∧(Value.slice Ar rl.length cr).ownBlock≠some b) ht (fun b hb _=>⟨hb,by omega⟩));have HF:=Lh (HF.out.set_o (us:=gsC St.nul Tv.nul (.slice Ar rl.length cr) (q:Int) 0) ht hs);clear ht hs)
      | fail)
     exact Qj 135 rfl rfl rfl HF.out.vo Try.underlying135 rfl Qh ⟨Tv.nul,.slice Ar rl.length cr,by rw [HU.out];rfl,by rw [HU.out];exact TrS.nul' _ _,by rw [HU.out];exact ShS.of_own HO.out rfl (fun e he=>(HTL.out e he).weak (fun b hb _=>by have:=hb.1;omega)) (fun b hb _ _=>by omega),HF.out.b⟩
    | false =>
     have hne:¬ Qf0 X.R q=true:=by rw [hE,hc1,hc2,hl2];decide
     rw [if_neg hne] at hR
     obtain ⟨f2,rfl⟩:∃ f2,f'=f2:=⟨_,rfl⟩
     obtain ⟨g,hgg⟩:∃ g,rs X.R F f' .st q d=g:=⟨_,rfl⟩
     have hin:g.r=0→q<g.p∧g.p≤X.L.length:=fun h=>by
      rw [← hgg] at h ⊢
      have:=rs_in (F:=F) hok f' .st q d hq h
      exact ⟨this.2.2 rfl,this.2.1⟩
     have HST:Hid (∀ W,Below w.heap.size w W→CP 79 #[.agg (ryC X).toArray,.int .i64 (q:Int),.int .i64 d] W (Qdy g W)):=Lh fun W hW=>by
      rw [← hgg]
      exact HSG.out q f' W hq hf1 (by omega) hW
     rw [hgg] at hR
     have HR2:=Lh hR
     have HIN2:=Lh hin
     clear hR hE hne ends hgg hin HR
     go_wp2_with (first
      | (refine Qq rfl 92 (.tmp 3) rfl w.heap.size 0 rfl (ryC X) HF.out.vr.rg Try.underlying92 rfl Qd ?_)
      | (go_at_call 51;(with_reducible refine (HAT.out _ HF.out.b).mono ?_);rintro e w5 ⟨rfl,b2⟩;have HF:=Lh (HF.out.under b2);have HO:=Lh (HO.out.turn (Tn.of_below (fun _=>False) b2) (fun k _ h=>h));have HTL:=Lh (fun q hq=>(HTL.out q hq).turn (S':=fun b=>w.heap.size+1<b∧(Value.slice Ar rl.length cr).ownBlock≠some b) (Tn.of_below (fun _=>False) b2) (fun b hb _=>⟨hb,fun h=>h⟩));clear b2;dsimp only)
      | (go_at_call 79;(with_reducible refine (HST.out _ HF.out.b).mono ?_);rintro e w7 ⟨tv,lv,rfl,htr,hsh,b2⟩;have hwx:=HF.out.lt;have HOL:Hid (∀ k,(Value.slice Ar rl.length cr).ownBlock=some k→k<w7.heap.size∧w.heap.size+2≤k):=Lh (fun k hk=>⟨Nat.lt_of_lt_of_le (HO.out.1.lt k hk).2 b2.size,HO.out.block_ge k hk⟩);have HOLT:=HO.out;have HF:=Lh (HF.out.under b2);have HTR:=Lh (htr.weak (S':=fun b=>w.heap.size+1<b∧(Value.slice Ar rl.length cr).ownBlock≠some b∧b≠w7.heap.size) (fun b hb h2=>⟨Nat.lt_of_lt_of_le hwx hb,(fun e=>by have hb:_≤b:=hb;have:=(HOLT.1.lt b e).2;omega),Nat.ne_of_lt h2⟩));clear HOLT;have HO:=Lh (HO.out.turn (Tn.of_below (fun _=>False) b2) (fun k _ h=>h));have HTL:=Lh (fun q hq=>((HTL.out q hq).turn (S':=fun b=>w.heap.size+1<b∧(Value.slice Ar rl.length cr).ownBlock≠some b) (Tn.of_below (fun _=>False) b2) (fun b hb _=>⟨hb,fun h=>h⟩)).weak (S':=fun b=>w.heap.size+1<b∧(Value.slice Ar rl.length cr).ownBlock≠some b∧b≠w7.heap.size) (fun b hb h2=>⟨hb.1,hb.2,Nat.ne_of_lt h2⟩));have hw7:=HF.out.lt;have hto:=htr.tv1;have hone:=hsh.one;have HG:=Lh (Var.new w7 (gsC St.nul Tv.nul Qk 0 0) 135 (c:=#[.int .i64 0,.int .i64 0,.string ⟨#[]⟩,.int .i64 0,.bool false,.bool false,.string ⟨#[]⟩,.int .i64 0,.int .i64 0,.int .i64 0,.int .i64 0,.int .i64 0,.string ⟨#[]⟩,.string ⟨#[]⟩,.slice none 0 0,.slice none 0 0,.slice none 0 0,.slice none 0 0,.int .i64 0,.int .i64 0]) rfl);have HF:=Lh (HF.out.under (bRf.alloc nLe (.cells z20 135)));have HO:=Lh (HO.out.turn (Tn.alloc (fun _=>False) _ (.cells z20 135)) (fun k _ h=>h));have HTL:=Lh (fun q hq=>(HTL.out q hq).turn (S':=fun b=>w.heap.size+1<b∧(Value.slice Ar rl.length cr).ownBlock≠some b∧b≠w7.heap.size) (Tn.alloc (fun _=>False) _ (.cells z20 135)) (fun b hb _=>⟨hb,fun h=>h⟩));have HTR:=Lh (HTR.out.turn (S':=fun b=>w.heap.size+1<b∧(Value.slice Ar rl.length cr).ownBlock≠some b∧b≠w7.heap.size) (Tn.alloc (fun _=>False) _ (.cells z20 135)) (fun b hb _=>⟨hb,fun h=>h⟩));clear b2 htr hsh;dsimp only;refine Hid.out ?_)
      | fail)
     refine Lh ?_
     go_wp2_with (first
      | (refine Qa rfl 135 (.tmp 8) (.tmp 29) rfl (G:=w7.heap.size) (off:=0) rfl (us:=gsC g.s tv lv (g.p:Int) g.r) HG.out rfl Qh (Nat.le_refl 20) (hto.gs _ hone _ _) ?_;intro w8 ht hs;have HG:=Lh (show Var w8 w7.heap.size (gsC g.s tv lv (g.p:Int) g.r) from hs);have HF:=Lh (HF.out.set_n ht (by omega));have HO:=Lh (HO.out.turn ht (fun k hk e=>by have:=(HOL.out k hk).1;omega));have HTL:=Lh (fun q hq=>(HTL.out q hq).turn (S':=fun b=>w.heap.size+1<b∧(Value.slice Ar rl.length cr).ownBlock≠some b∧b≠w7.heap.size) ht (fun b hb _=>⟨hb,hb.2.2⟩));have HTR:=Lh (HTR.out.turn (S':=fun b=>w.heap.size+1<b∧(Value.slice Ar rl.length cr).ownBlock≠some b∧b≠w7.heap.size) ht (fun b hb _=>⟨hb,hb.2.2⟩));clear ht hs;refine Hid.out ?_)
      | fail)
     obtain ⟨G8,hG⟩:∃ G,w7.heap.size=G:=⟨_,rfl⟩
     have HG:Hid (Var w8 G8 (gsC g.s tv lv (g.p:Int) g.r)):=Lh (by rw [← hG];exact HG.out)
     have HTR:Hid (TrS w8 (fun b=>w.heap.size+1<b∧(Value.slice Ar rl.length cr).ownBlock≠some b∧b≠G8) g.s tv):=Lh (by rw [← hG];exact HTR.out)
     have HTL:Hid (∀ q∈rl,TrS w8 (fun b=>w.heap.size+1<b∧(Value.slice Ar rl.length cr).ownBlock≠some b∧b≠G8) q.1 q.2):=Lh (by rw [← hG];exact HTL.out)
     have hG1:w.heap.size+1<G8:=by omega
     have k18:w8.cell? ⟨G8,18,none⟩=some (.int .i64 (g.p:Int)):=HG.out.at 18 rfl
     have k19:w8.cell? ⟨G8,19,none⟩=some (.int .i64 g.r):=HG.out.at 19 rfl
     have HOLG:Hid (∀ k,(Value.slice Ar rl.length cr).ownBlock=some k→k≠G8):=Lh (fun k hk=>by have:=(HOL.out k hk).1;omega)
     rw [hG]
     clear hG HOL
     by_cases hr:g.r=0
     ·have hr1:(g.r==0)=true:=by simp [hr]
      have hr2:(g.r != 0)=false:=by simp [hr]
      have hr3:decide (g.r=0)=true:=by simp [hr]
      obtain ⟨hq1,hq2⟩:=HIN2.out hr
      have hR:=HR2.out
      rw [if_pos hr] at hR
      have HR3:=Lh hR
      clear hR HR2 hr
      have hone2:=hto.st g.s
      have hrl3:rl.length≤1000000000:=by omega
      have HT8:Hid (TrS w8 (fun b=>w.heap.size+1<b∧(Value.slice Ar rl.length cr).ownBlock≠some b∧b≠w8.heap.size+1) g.s tv):=Lh (HTR.out.weak (fun b hb h2=>⟨hb.1,hb.2.1,by omega⟩))
      have HL8:Hid (∀ q∈rl,TrS w8 (fun b=>w.heap.size+1<b∧(Value.slice Ar rl.length cr).ownBlock≠some b∧b≠w8.heap.size+1) q.1 q.2):=Lh (fun q hq=>(HTL.out q hq).weak (fun b hb h2=>⟨hb.1,hb.2.1,by omega⟩))
      have hGl:=HG.out.lt
      have HOB:=Lh (fun k hk=>HO.out.block_ge k hk)
      refine Lh ?_
      go_wp2_with (first
       | (refine Qb rfl 133 (.tmp 39) rfl G8 0 rfl (stC g.s tv) (Qbi HG.out.rg) Try.underlying133 rfl Jy ?_)
       | (refine Ye rfl 78 133 (.tmp 40) rfl (stC g.s tv) rfl (by show 0<17;omega) (by show 17≤2^24;decide) Try.underlying78 Jy (by kernel_rfl) ?_)
       | (at_builtin;refine Jw rfl fun KK hKK=>?_;refine Qcg (.tmp 38) (.tmp 41) 78 rfl rowSt w8 (w.heap.size+2) _ rl.length (scs rl) (stC g.s tv) rfl HO.out rfl rfl rfl hone2 hrl3 (by omega) ?_;intro v9 w9 ho9 hg9 hv9;refine hKK _ _ ?_;clear hKK KK;refine Hid.out ?_)
       | fail)
      have ht9:=Tn.of_gb (M:=fun k=>(Value.slice Ar rl.length cr).ownBlock=some k) hg9 (fun k hk _=>hk)
      have ht8:=(Tn.alloc (fun k=>(Value.slice Ar rl.length cr).ownBlock=some k) w8 (.cells (stC g.s tv).toArray 133)).trans ht9
      have HF:=Lh (HF.out.turnM ht8 (fun k hk e=>by have:=HOB.out k e;omega))
      have HG:=Lh (HG.out.turn ht8 (fun e=>HOLG.out G8 e rfl))
      have HT9:Hid (TrS w9 (fun b=>w.heap.size+1<b∧v9.ownBlock≠some b) g.s tv):=Lh (HT8.out.turn ht8 (fun b hb _=>⟨⟨hb.1,fun e=>by
       rcases hv9 with hv | hv
       ·rw [hv] at e;exact hb.2.1 e
       ·rw [hv] at e;injection e with e;exact hb.2.2 e.symm⟩,fun e=>hb.2.1 e⟩))
      have HL9:Hid (∀ q∈rl,TrS w9 (fun b=>w.heap.size+1<b∧v9.ownBlock≠some b) q.1 q.2):=Lh (fun q hq=>(HL8.out q hq).turn ht8 (fun b hb _=>⟨⟨hb.1,fun e=>by
       rcases hv9 with hv | hv
       ·rw [hv] at e;exact hb.2.1 e
       ·rw [hv] at e;injection e with e;exact hb.2.2 e.symm⟩,fun e=>hb.2.1 e⟩))
      have k18:w9.cell? ⟨G8,18,none⟩=some (.int .i64 (g.p:Int)):=HG.out.at 18 rfl
      have HO9:=Lh ho9
      obtain ⟨f3,rfl⟩:∃ f3,f'=f3+1:=⟨f'-1,by omega⟩
      clear k19 ho9 hg9 hv9 ht9 ht8 HT8 HL8 HOLG HOB HO HTL HTR
      refine Lh ?_
      go_wp2_with fail
      go_roundw
      case rel =>
       refine ⟨g.p,f3,rl++[(g.s,tv)],rfl,hq2,by omega,by omega,by rw [List.length_append];simp;omega,HF,Lh ?_,Lh ?_,Lh ?_⟩
       ·exact HO9.out.cast (by rw [List.length_append];rfl) (scs_snoc rl (g.s,tv)).symm
       ·intro e he
        rcases List.mem_append.1 he with he | he
        ·exact HL9.out e he
        ·rw [List.mem_singleton.1 he];exact HT9.out
       ·rw [List.map_append];exact HR3.out
      case measure=>simp [intOf];omega
     ·have hr1:(g.r==0)=false:=by simp [hr]
      have hr2:(g.r != 0)=true:=by simp [hr]
      have hr3:decide (g.r=0)=false:=by simp [hr]
      have hR:=HR2.out
      rw [if_neg hr] at hR
      have HU:=Lh hR
      clear hR HR2
      refine Lh ?_
      go_wp2_with (first
       | (refine Qa rfl 135 (.tmp 6) (.tmp 37) rfl (G:=w.heap.size+1) (off:=0) rfl (us:=gsC St.nul Tv.nul Qk (g.p:Int) g.r) HF.out.vo rfl Qh (Nat.le_refl 20) (Jh.nul.gs _ rfl _ _) ?_;intro w90 ht hs;have HF:=Lh (HF.out.set_o (us:=gsC St.nul Tv.nul Qk (g.p:Int) g.r) ht hs);clear ht hs)
       | fail)
      exact Qj 135 rfl rfl rfl HF.out.vo Try.underlying135 rfl Qh ⟨Tv.nul,Qk,by rw [← HU.out];rfl,by rw [← HU.out];exact TrS.nul' _ _,by rw [← HU.out];exact .nil,HF.out.b⟩
  ·have hl1:¬ (q:Int)<(X.L.length:Int):=by omega
   have hl2:decide (q<X.L.length)=false:=decide_eq_false hlt
   have hl3:decide ((q:Int)<(X.L.length:Int))=false:=decide_eq_false hl1
   have HU:=Lh (ends (by rw [hE,hl2];simp))
   clear ends hR hE
   go_wp2_with (first
    | (refine Qq rfl 92 (.tmp 3) rfl w.heap.size 0 rfl (ryC X) HF.out.vr.rg Try.underlying92 rfl Qd ?_)
    | (refine Qa rfl 135 (.tmp 6) (.tmp 47) rfl (G:=w.heap.size+1) (off:=0) rfl (us:=gsC St.nul Tv.nul (.slice Ar rl.length cr) (q:Int) 0) HF.out.vo rfl Qh (Nat.le_refl 20) (Jh.nul.gs _ rfl _ _) ?_;intro w90 ht hs;have HO:=Lh (HO.out.turn ht (fun k hk e=>by have:=HO.out.block_ge k hk;omega));have HTL:=Lh (fun q hq=>(HTL.out q hq).turn (S':=fun b=>w.heap.size+1<b∧(Value.slice Ar rl.length cr).ownBlock≠some b) ht (fun b hb _=>⟨hb,by omega⟩));have HF:=Lh (HF.out.set_o (us:=gsC St.nul Tv.nul (.slice Ar rl.length cr) (q:Int) 0) ht hs);clear ht hs)
    | fail)
   exact Qj 135 rfl rfl rfl HF.out.vo Try.underlying135 rfl Qh ⟨Tv.nul,.slice Ar rl.length cr,by rw [HU.out];rfl,by rw [HU.out];exact TrS.nul' _ _,by rw [HU.out];exact ShS.of_own HO.out rfl (fun e he=>(HTL.out e he).weak (fun b hb _=>by have:=hb.1;omega)) (fun b hb _ _=>by omega),HF.out.b⟩
theorem rs_all(X:Ry)(hX:X.Fit)(hm:∀ i,(X.R.wd i).size≤1000000)(F:Nat)(hF:16*X.L.length+9≤F):∀ f,RStC X F f∧RRowC X F f∧Qe1 X F f:=by
 intro f
 induction f using Nat.strongRecOn with
 | ind f ih =>
  cases f with
  | zero=>exact ⟨fun p d w _ _ _ hf=>by omega,fun p d w _ _ _ hf=>by omega,fun p d w _ _ _ hf=>by omega⟩
  | succ f =>
   obtain ⟨h1,h2,h3⟩:=ih f (Nat.lt_succ_self f)
   exact ⟨Qkq X hX hm F f hF h3,Qmw X F f fun f' hf'=>(ih f' (by omega)).1,Qh0 X F f h2⟩
end Go.Proofs.Ytjoclbeoafeebaa
