import Derived.Test.YtjoclbeoafeebaaFiS
import Derived.Test.YtjoclbeoafeebaaMRg
import Derived.Test.YtjoclbeoafeebaaSq
set_option maxHeartbeats 3200000
set_option maxRecDepth 100000
namespace Go.Proofs.Ytjoclbeoafeebaa
set_option linter.unusedVariables false
set_option linter.unusedSimpArgs false
open Go.RowKit
section
variable {P:Program} {md:Region.Mode} {Q:Exit→Act→World→Prop} {S:World→Prop} {z:Nat}
end
theorem Jg{R:Rw}{x:Nat×Int}(h:¬ x.2=0)(l:List ByteArray):mu R x l=x:=by unfold mu;rw [if_neg h]
theorem Yb{R:Rw}{p:Nat}{c:UInt8}{l:List UInt8}(h:R.is p (c::l)=false):mu R (p,0) [⟨(c::l).toArray⟩]=(p,11):=by rw [Qhy,if_neg (by rw [h];decide)]
theorem Q5{R:Rw}{p:Nat}{c:UInt8}{l:List UInt8}(h:R.is p (c::l)=true):mu R (p,0) [⟨(c::l).toArray⟩]=(p+1,0):=by rw [Qhy,if_pos h]
theorem Zq{R:Rw}{p:Nat}{a b:List UInt8}(h:R.is p a=true)(hne:a≠b):R.is p b=false:=by
 unfold Rw.is at h ⊢
 rw [beq_eq_false_iff_ne]
 intro e
 exact hne ((eq_of_beq h).symm.trans e)
section
variable {σ:Type} {R:Rw} {one:σ→Nat×Int→σ×(Nat×Int)} {s:σ} {x y:Nat×Int} {f p:Nat}
def aft(R:Rw)(one:σ→Nat×Int→σ×(Nat×Int))(e:ByteArray)(f:Nat)(y:σ×(Nat×Int)):σ×(Nat×Int):=((Qlb R one f y.1 y.2).1,mu R (Qlb R one f y.1 y.2).2 [e])
theorem lst_yes{c:UInt8}{l:List UInt8}(h:R.is p (c::l)=true):lst R one ⟨(c::l).toArray⟩ f s (p,0)=(s,(p+1,0)):=by
 unfold lst
 rw [wd1,Qki,if_pos h]
 rfl
theorem lst_no{c:UInt8}{l:List UInt8}(h:R.is p (c::l)=false):lst R one ⟨(c::l).toArray⟩ f s (p,0)=aft R one ⟨(c::l).toArray⟩ f (one s (p,0)):=by
 unfold lst aft
 rw [wd1,Qki,if_neg (by rw [h];decide)]
theorem Qmx{c:UInt8}{l:List UInt8}{r:Int}(hr:¬ r=0):lst R one ⟨(c::l).toArray⟩ f s (p,r)=aft R one ⟨(c::l).toArray⟩ f (one s (p,r)):=by
 unfold lst aft
 rw [wd1,tkW1 R p hr,if_neg (by decide)]
theorem U3{e:ByteArray}{y:σ×(Nat×Int)}(h:¬ y.2.2=0):aft R one e f y=y:=by
 unfold aft
 have ht:tkW R y.2 [44]=false:=by
  obtain ⟨a,b,c⟩:=y
  exact tkW1 R b h [44]
 rw [Qer ht]
 dsimp only
 rw [Jg h]
theorem aft_end{c:UInt8}{l:List UInt8}(h:R.is p (c::l)=true)(hc:(c::l)≠[44]):aft R one ⟨(c::l).toArray⟩ f (s,(p,0))=(s,(p+1,0)):=by
 unfold aft
 have ht:tkW R ((s,(p,(0:Int))):σ×(Nat×Int)).2 [44]=false:=by
  show tkW R (p,0) [44]=false
  rw [Qki,Zq h hc]
 rw [Qer ht]
 dsimp only
 rw [Q5 h]
theorem aft_no{c:UInt8}{l:List UInt8}(h:R.is p (c::l)=false)(hc:R.is p [44]=false):aft R one ⟨(c::l).toArray⟩ f (s,(p,0))=(s,(p,11)):=by
 unfold aft
 have ht:tkW R ((s,(p,(0:Int))):σ×(Nat×Int)).2 [44]=false:=by
  show tkW R (p,0) [44]=false
  rw [Qki,hc]
 rw [Qer ht]
 dsimp only
 rw [Yb h]
theorem aft_on{e:ByteArray}(h:R.is p [44]=true):aft R one e (f+1) (s,(p,0))=aft R one e f (one s (p+1,0)):=by
 have ht:tkW R ((s,(p,(0:Int))):σ×(Nat×Int)).2 [44]=true:=by
  show tkW R (p,0) [44]=true
  rw [Qki,h]
 unfold aft
 dsimp only at ht ⊢
 rw [lstL_on ht]
 rfl
end
theorem Ya{R:Rw}{p:Nat}(h:R.idn p=true):fnm R (p,0)=(⟨R.wd p,R.ps p⟩,(p+1,0)):=by unfold fnm;rw [if_pos rfl,if_pos h]
theorem Qdz{R:Rw}{p:Nat}(h:R.idn p=false):fnm R (p,0)=(NmT.nul,(p,11)):=by unfold fnm;rw [if_pos rfl,if_neg (by rw [h];decide)]
theorem Qmy{R:Rw}{p:Nat}{r:Int}(h:¬ r=0):fnm R (p,r)=(NmT.nul,(p,r)):=by unfold fnm;rw [if_neg h]
theorem Qgm{R:Rw}{x y z u v:Nat×Int}{n:NmT}{t:Int}{a:An}(h1:fnm R x=(n,y))(h2:mu R y [Qek]=z)(h3:pty R z=(t,u))(h4:pmk R u=(a,v)):fvr R x=(⟨n.nm,n.a,t,a⟩,v):=by
 unfold fvr
 rw [h1]
 dsimp only
 rw [h2,h3]
 dsimp only
 rw [h4]
theorem fvr_x{R:Rw}{p:Nat}{r:Int}(h:¬ r=0):(fvr R (p,r)).2=(p,r):=by
 rw [Qgm (Qmy h) (Jg (x:=(p,r)) h _) (U2 (x:=(p,r)) h) (Yy (x:=(p,r)) h)]
theorem fvr_1{R:Rw}{p:Nat}(h:R.idn p=false):(fvr R (p,0)).2=(p,11):=by
 have e:¬ (11:Int)=0:=by decide
 rw [Qgm (Qdz h) (Jg (x:=(p,11)) e _) (U2 (x:=(p,11)) e) (Yy (x:=(p,11)) e)]
theorem fvr_2{R:Rw}{p:Nat}(h:R.idn p=true)(h2:R.is (p+1) [58]=false):(fvr R (p,0)).2=(p+1,11):=by
 have e:¬ (11:Int)=0:=by decide
 rw [Qgm (Ya h) (Yb h2) (U2 (x:=(p+1,11)) e) (Yy (x:=(p+1,11)) e)]
theorem fvr_3{R:Rw}{p:Nat}(h:R.idn p=true)(h2:R.is (p+1) [58]=true)(h3:tyI R (p+2)<0):(fvr R (p,0)).2=(p+2,11):=by
 have e:¬ (11:Int)=0:=by decide
 have ht:pty R (p+2,0)=(0,(p+2,11)):=by unfold pty;rw [if_pos rfl,Qkp,if_pos h3]
 rw [Qgm (Ya h) (Q5 h2) ht (Yy (x:=(p+2,11)) e)]
theorem fvr_4{R:Rw}{p:Nat}(h:R.idn p=true)(h2:R.is (p+1) [58]=true)(h3:¬ tyI R (p+2)<0){m:An×(Nat×Int)}(h4:Yz R (p+3)=m):fvr R (p,0)=(⟨R.wd p,R.ps p,tyI R (p+2),m.1⟩,m.2):=by
 have ht:pty R (p+2,0)=(tyI R (p+2),(p+3,0)):=by unfold pty;rw [if_pos rfl,Qkp,if_neg h3]
 have hm:pmk R (p+3,0)=(m.1,m.2):=by unfold pmk;rw [if_pos rfl,h4]
 rw [Qgm (Ya h) (Q5 h2) ht hm]
/-! ### what the document's readers answer,in cells -/
def moN:List Value:=[Qk,.bool false,Qk,.bool false,Qk,Qk,Qk]
def gt(mo:List Value)(L:Value)(v:List Value)(P:Value)(a r:Int):List Value:=mo++(L::v++[P,.int .i64 a,.int .i64 r])
def gtE(a r:Int):List Value:=gt moN Qk (vrC VrT.nul) Qk a r
theorem Zy{mo v:List Value}{L P:Value}(a r:Int)(h1:∀ u∈mo,u.oneCell'=true)(hL:L.oneCell'=true)(h2:∀ u∈v,u.oneCell'=true)(hP:P.oneCell'=true):∀ u∈gt mo L v P a r,u.oneCell'=true:=by
 intro u hu
 simp only [gt,List.mem_append,List.mem_cons,List.cons_append] at hu
 rcases hu with h | h | h | h | h | h | h
 ·exact h1 u h
 ·rw [h];exact hL
 ·exact h2 u h
 ·rw [h];exact hP
 ·rw [h];rfl
 ·rw [h];rfl
 ·cases h
theorem Ki:∀ u∈moN,u.oneCell'=true:=by
 intro u hu;simp [moN] at hu;rcases hu with rfl | rfl | rfl | rfl | rfl <;> rfl
theorem Qn(a r:Int):∀ u∈gtE a r,u.oneCell'=true:=Zy a r Ki rfl (Jj _) rfl
theorem Qc:(Try.prog.info? 95).map (·.size)=some 19:=by kernel_rfl
theorem Yp(w:World):(zeroValue 95).run Try.prog w=.ok (.agg #[.slice none 0 0,.bool false,.slice none 0 0,.bool false,.slice none 0 0,.slice none 0 0,.slice none 0 0,.slice none 0 0,.string ⟨#[]⟩,.int .i64 0,.int .i64 0,.bool false,.bool false,.string ⟨#[]⟩,.int .i64 0,.int .i64 0,.slice none 0 0,.int .i64 0,.int .i64 0]) w:=by kernel_rfl
theorem Qe3(X:Ry)(w:World):Fm X w ((w.alloc (.cells #[.string X.T,.slice X.A X.L.length X.c] 92)).alloc (.cells #[.slice none 0 0,.bool false,.slice none 0 0,.bool false,.slice none 0 0,.slice none 0 0,.slice none 0 0,.slice none 0 0,.string ⟨#[]⟩,.int .i64 0,.int .i64 0,.bool false,.bool false,.string ⟨#[]⟩,.int .i64 0,.int .i64 0,.slice none 0 0,.int .i64 0,.int .i64 0] 95)) (gtE 0 0):=by
 have e1:(w.alloc (.cells #[.string X.T,.slice X.A X.L.length X.c] 92)).heap.size=w.heap.size+1:=by simp
 have v2:=Var.new (w.alloc (.cells #[.string X.T,.slice X.A X.L.length X.c] 92)) (gtE 0 0) 95 (c:=#[.slice none 0 0,.bool false,.slice none 0 0,.bool false,.slice none 0 0,.slice none 0 0,.slice none 0 0,.slice none 0 0,.string ⟨#[]⟩,.int .i64 0,.int .i64 0,.bool false,.bool false,.string ⟨#[]⟩,.int .i64 0,.int .i64 0,.slice none 0 0,.int .i64 0,.int .i64 0]) rfl
 rw [e1] at v2
 exact ⟨(Var.new w (ryC X) 92 rfl).under bAl,v2,((Below.refl _ w).alloc nLe _).alloc (by simp) _⟩
theorem Y1(X:Ry)(hm:∀ i,(X.R.wd i).size≤1000000)(p:Nat)(w:World)(h:X.In w w.heap.size)(hp:p≤1000010) :
  CP 55 #[.agg (ryC X).toArray,.int .i64 (p:Int)] w fun e w'=>e=.returned (.bool (X.R.idn p))∧Below w.heap.size w w':=by
 have HAT:Hid (∀ W,Below w.heap.size w W→CP 51 #[.agg (ryC X).toArray,.int .i64 (p:Int)] W fun e w'=>e=.returned (.string (X.R.wd p))∧Below W.heap.size W w'):=Lh fun W hW=>Qg X p W ((h.up hW nLe).more hW.size) (by omega)
 have HID:Hid (∀ W,CP 45 #[.string (X.R.wd p)] W fun e w'=>e=.returned (.bool (X.R.idn p))∧Below W.heap.size W w'):=Lh fun W=>Q1 (X.R.wd p) W (hm _)
 have HV:=Lh (show Var (w.alloc (.cells #[.string X.T,.slice X.A X.L.length X.c] 92)) w.heap.size (ryC X) from Var.new w (ryC X) 92 rfl)
 have HB:=Lh ((Below.refl _ w).alloc nLe (.cells #[.string X.T,.slice X.A X.L.length X.c] 92))
 obtain ⟨sg,hg⟩:∃ g,X.R.wd p=g:=⟨_,rfl⟩
 obtain ⟨sb,hb⟩:∃ g,X.R.idn p=g:=⟨_,rfl⟩
 rw [hg] at HAT HID
 rw [hb] at HID
 rw [hb]
 clear h hg hb
 show CP 55 #[.agg #[.string X.T,.slice X.A X.L.length X.c],.int .i64 (p:Int)] w _
 go_enter Try.func55,Try.ntmps55
 go_wp2_with (first
  | (refine Qb rfl 92 (.tmp 2) rfl w.heap.size 0 rfl (ryC X) HV.out.rg Try.underlying92 rfl Qd ?_)
  | (go_at_call 51;(with_reducible refine (HAT.out _ HB.out).mono ?_);rintro e w2 ⟨rfl,b2⟩;have HB:=Lh (bTr HB b2);clear b2;dsimp only)
  | (go_at_call 45;(with_reducible refine (HID.out _).mono ?_);rintro e w4 ⟨rfl,b2⟩;have HB:=Lh (bTr HB b2);clear b2;dsimp only)
  | fail)
 go_ret
 exact ⟨rfl,HB.out⟩
theorem K2(X:Ry)(p:Nat)(s:ByteArray)(w:World)(h:X.In w w.heap.size)(hp:p≤1000010) :
  CP 56 #[.agg (ryC X).toArray,.int .i64 (p:Int),.string s] w fun e w'=>e=.returned (.int .i64 (if X.R.is p s.toList=true then 0 else 11))∧Below w.heap.size w w':=by
 have HAT:Hid (∀ W,Below w.heap.size w W→CP 51 #[.agg (ryC X).toArray,.int .i64 (p:Int)] W fun e w'=>e=.returned (.string (X.R.wd p))∧Below W.heap.size W w'):=Lh fun W hW=>Qg X p W ((h.up hW nLe).more hW.size) (by omega)
 have HV:=Lh (show Var (w.alloc (.cells #[.string X.T,.slice X.A X.L.length X.c] 92)) w.heap.size (ryC X) from Var.new w (ryC X) 92 rfl)
 have HB:=Lh ((Below.refl _ w).alloc nLe (.cells #[.string X.T,.slice X.A X.L.length X.c] 92))
 obtain ⟨sg,hg⟩:∃ g,X.R.wd p=g:=⟨_,rfl⟩
 have hE:X.R.is p s.toList=(sg.toList==s.toList):=by rw [← hg];rfl
 rw [hg] at HAT
 rw [hE]
 clear h hg hE
 show CP 56 #[.agg #[.string X.T,.slice X.A X.L.length X.c],.int .i64 (p:Int),.string s] w _
 cases h1:(sg.toList==s.toList) with
 | true =>
  rw [if_pos rfl]
  go_enter Try.func56,Try.ntmps56
  go_wp2_with (first
   | (refine Qb rfl 92 (.tmp 3) rfl w.heap.size 0 rfl (ryC X) HV.out.rg Try.underlying92 rfl Qd ?_)
   | (go_at_call 51;(with_reducible refine (HAT.out _ HB.out).mono ?_);rintro e w2 ⟨rfl,b2⟩;have HB:=Lh (bTr HB b2);clear b2;dsimp only)
   | fail)
  go_ret
  exact ⟨rfl,HB.out⟩
 | false =>
  rw [if_neg (by decide)]
  go_enter Try.func56,Try.ntmps56
  go_wp2_with (first
   | (refine Qb rfl 92 (.tmp 3) rfl w.heap.size 0 rfl (ryC X) HV.out.rg Try.underlying92 rfl Qd ?_)
   | (go_at_call 51;(with_reducible refine (HAT.out _ HB.out).mono ?_);rintro e w2 ⟨rfl,b2⟩;have HB:=Lh (bTr HB b2);clear b2;dsimp only)
   | fail)
  go_ret
  exact ⟨rfl,HB.out⟩
def nvC(z:VrT×(Nat×Int)):List Value:=if z.2.2=0 then gt moN Qk (vrC z.1) Qk (z.2.1:Int) 0 else gtE (z.2.1:Int) z.2.2
theorem Qd0{z:VrT×(Nat×Int)}{q:Nat}{r:Int}(h:z.2=(q,r))(hr:¬ r=0):nvC z=gtE (q:Int) r:=by
 unfold nvC
 rw [h]
 dsimp only
 rw [if_neg hr]
theorem Qd1(X:Ry)(hm:∀ i,(X.R.wd i).size≤1000000)(p:Nat)(w:World)(h:X.In w w.heap.size)(hp:p≤X.L.length) :
  CP 57 #[.agg (ryC X).toArray,.int .i64 (p:Int)] w fun e w'=>e=.returned (.agg (nvC (fvr X.R (p,0))).toArray)∧Below w.heap.size w w':=by
 have hz:=Yp
 have hzm:=Qmp
 have hln:=h.2.len
 have hok:=Qo X.T X.L
 have HIN:=Lh h
 have HNM:Hid (∀ W,Below w.heap.size w W→CP 55 #[.agg (ryC X).toArray,.int .i64 (p:Int)] W fun e w'=>e=.returned (.bool (X.R.idn p))∧Below W.heap.size W w'):=Lh fun W hW=>Y1 X hm p W ((h.up hW nLe).more hW.size) (by omega)
 have HAT0:Hid (∀ W,Below w.heap.size w W→CP 51 #[.agg (ryC X).toArray,.int .i64 (p:Int)] W fun e w'=>e=.returned (.string (X.R.wd p))∧Below W.heap.size W w'):=Lh fun W hW=>Qg X p W ((h.up hW nLe).more hW.size) (by omega)
 have HPO:Hid (∀ W,Below w.heap.size w W→CP 38 #[.agg (ryC X).toArray,.int .i64 (p:Int)] W fun e w'=>e=.returned (.int .i64 (X.R.ps p))∧Below W.heap.size W w'):=Lh fun W hW=>Qz X p W ((h.up hW nLe).more hW.size) (by omega)
 have HAT1:Hid (∀ W,Below w.heap.size w W→CP 51 #[.agg (ryC X).toArray,.int .i64 ((p:Int)+1)] W fun e w'=>e=.returned (.string (X.R.wd (p+1)))∧Below W.heap.size W w'):=Lh fun W hW=>Qg X (p+1) W ((h.up hW nLe).more hW.size) (by omega)
 have HTY:Hid (∀ W,Below w.heap.size w W→CP 66 #[.agg (ryC X).toArray,.int .i64 ((p:Int)+2)] W fun e w'=>e=.returned (.int .i64 (tyI X.R (p+2)))∧Below W.heap.size W w'):=Lh fun W hW=>Qco X (p+2) W ((h.up hW nLe).more hW.size) (by omega)
 have HF:=Lh (Qe3 X w)
 obtain ⟨s0,hs0⟩:∃ v,X.R.wd p=v:=⟨_,rfl⟩
 obtain ⟨s1,hs1⟩:∃ v,X.R.wd (p+1)=v:=⟨_,rfl⟩
 have hC:X.R.is (p+1) [58]=(s1.toList==[58]):=by rw [← hs1];rfl
 have HS0:=Lh hs0
 rw [hs0] at HAT0
 rw [hs1] at HAT1
 clear h hs1 hs0
 show CP 57 #[.agg #[.string X.T,.slice X.A X.L.length X.c],.int .i64 (p:Int)] w _
 cases hid:X.R.idn p with
 | false =>
  rw [hid] at HNM
  have HU:=Lh (fvr_1 hid)
  clear hC hid
  go_enter Try.func57,Try.ntmps57
  go_wp2_with (first
   | (refine Qb rfl 92 (.tmp 2) rfl w.heap.size 0 rfl (ryC X) HF.out.vr.rg Try.underlying92 rfl Qd ?_)
   | (go_at_call 55;(with_reducible refine (HNM.out _ HF.out.b).mono ?_);rintro e w2 ⟨rfl,b2⟩;have HF:=Lh (HF.out.under b2);clear b2;dsimp only)
   | (refine Qa rfl 95 (.tmp 4) (.tmp 12) rfl (G:=w.heap.size+1) (off:=0) rfl (us:=gtE (p:Int) 11) HF.out.vo rfl Qc (Nat.le_refl 19) (Qn _ _) ?_;intro w90 ht hs;have HF:=Lh (HF.out.set_o (us:=gtE (p:Int) 11) ht hs);clear ht hs)
   | fail)
  exact Qj 95 rfl rfl rfl HF.out.vo Try.underlying95 rfl Qc ⟨by rw [Qd0 HU.out (show ¬ (11:Int)=0 by decide)],HF.out.b⟩
 | true =>
  rw [hid] at HNM
  have hpl:p<X.L.length:=hok.id_lt hid
  cases hc:(s1.toList==[58]) with
  | false =>
   have HU:=Lh (fvr_2 hid (hC.trans hc))
   clear hC hid
   go_enter Try.func57,Try.ntmps57
   go_wp2_with (first
    | (refine Qb rfl 92 (.tmp 2) rfl w.heap.size 0 rfl (ryC X) HF.out.vr.rg Try.underlying92 rfl Qd ?_)
    | (go_at_call 55;(with_reducible refine (HNM.out _ HF.out.b).mono ?_);rintro e w2 ⟨rfl,b2⟩;have HF:=Lh (HF.out.under b2);clear b2;dsimp only)
    | (go_at_call 51;(with_reducible refine (HAT1.out _ HF.out.b).mono ?_);rintro e w2 ⟨rfl,b2⟩;have HF:=Lh (HF.out.under b2);clear b2;dsimp only)
    | (refine Qa rfl 95 (.tmp 4) (.tmp 20) rfl (G:=w.heap.size+1) (off:=0) rfl (us:=gtE ((p:Int)+1) 11) HF.out.vo rfl Qc (Nat.le_refl 19) (Qn _ _) ?_;intro w90 ht hs;have HF:=Lh (HF.out.set_o (us:=gtE ((p:Int)+1) 11) ht hs);clear ht hs)
    | fail)
   exact Qj 95 rfl rfl rfl HF.out.vo Try.underlying95 rfl Qc ⟨by rw [Qd0 HU.out (show ¬ (11:Int)=0 by decide)];rfl,HF.out.b⟩
  | true =>
   obtain ⟨ty,hty⟩:∃ t,tyI X.R (p+2)=t:=⟨_,rfl⟩
   by_cases ht0:ty<0
   ·have HU:=Lh (fvr_3 hid (hC.trans hc) (by rw [hty];exact ht0))
    rw [hty] at HTY
    clear hC hid hty
    go_enter Try.func57,Try.ntmps57
    go_wp2_with (first
     | (refine Qb rfl 92 (.tmp 2) rfl w.heap.size 0 rfl (ryC X) HF.out.vr.rg Try.underlying92 rfl Qd ?_)
     | (go_at_call 55;(with_reducible refine (HNM.out _ HF.out.b).mono ?_);rintro e w2 ⟨rfl,b2⟩;have HF:=Lh (HF.out.under b2);clear b2;dsimp only)
     | (go_at_call 51;(with_reducible refine (HAT1.out _ HF.out.b).mono ?_);rintro e w2 ⟨rfl,b2⟩;have HF:=Lh (HF.out.under b2);clear b2;dsimp only)
     | (go_at_call 66;(with_reducible refine (HTY.out _ HF.out.b).mono ?_);rintro e w2 ⟨rfl,b2⟩;have HF:=Lh (HF.out.under b2);clear b2;dsimp only)
     | (refine Qa rfl 95 (.tmp 4) (.tmp 29) rfl (G:=w.heap.size+1) (off:=0) rfl (us:=gtE ((p:Int)+2) 11) HF.out.vo rfl Qc (Nat.le_refl 19) (Qn _ _) ?_;intro w90 ht hs;have HF:=Lh (HF.out.set_o (us:=gtE ((p:Int)+2) 11) ht hs);clear ht hs)
     | fail)
    exact Qj 95 rfl rfl rfl HF.out.vo Try.underlying95 rfl Qc ⟨by rw [Qd0 HU.out (show ¬ (11:Int)=0 by decide)];rfl,HF.out.b⟩
   ·obtain ⟨m,hmm⟩:∃ m,Yz X.R (p+3)=m:=⟨_,rfl⟩
    have hU:=fvr_4 hid (hC.trans hc) (by rw [hty];exact ht0) hmm
    rw [hty,HS0.out] at hU
    have hpl3:p+2<X.L.length:=Qmq hok (by rw [hty];exact ht0)
    rw [hty] at HTY
    have HMK:Hid (∀ W,Below w.heap.size w W→CP 67 #[.agg (ryC X).toArray,.int .i64 ((p:Int)+3)] W fun e w'=>e=.returned (.agg (mkC m).toArray)∧Below W.heap.size W w'):=Lh fun W hW=>by
     have:=Qhz X hm (p+2) (by omega) W ((HIN.out.up hW nLe).more hW.size)
     rw [hmm,show ((p+2:Nat):Int)+1=(p:Int)+3 by omega] at this
     exact this
    have HU:=Lh hU
    clear hC hid hty hU hmm
    go_enter Try.func57,Try.ntmps57
    go_wp2_with (first
     | (refine Qb rfl 92 (.tmp 2) rfl w.heap.size 0 rfl (ryC X) HF.out.vr.rg Try.underlying92 rfl Qd ?_)
     | (go_at_call 55;(with_reducible refine (HNM.out _ HF.out.b).mono ?_);rintro e w2 ⟨rfl,b2⟩;have HF:=Lh (HF.out.under b2);clear b2;dsimp only)
     | (go_at_call 51;(with_reducible refine (HAT1.out _ HF.out.b).mono ?_);rintro e w2 ⟨rfl,b2⟩;have HF:=Lh (HF.out.under b2);clear b2;dsimp only)
     | (go_at_call 66;(with_reducible refine (HTY.out _ HF.out.b).mono ?_);rintro e w2 ⟨rfl,b2⟩;have HF:=Lh (HF.out.under b2);clear b2;dsimp only)
     | (go_at_call 67;(with_reducible refine (HMK.out _ HF.out.b).mono ?_);rintro e w8 ⟨rfl,b2⟩;have HF:=Lh (HF.out.under b2);clear b2;have hw8:=HF.out.lt;have HG:=Lh (Var.new w8 (mkC (An.nul,(0,0))) 130 (c:=#[.bool false,.bool false,.string ⟨#[]⟩,.int .i64 0,.int .i64 0,.int .i64 0,.int .i64 0]) rfl);have HF:=Lh (HF.out.under (bRf.alloc nLe (.cells #[.bool false,.bool false,.string ⟨#[]⟩,.int .i64 0,.int .i64 0,.int .i64 0,.int .i64 0] 130)));dsimp only;refine Hid.out ?_)
     | fail)
    refine Lh ?_
    go_wp2_with (first
     | (refine Qa rfl 130 (.tmp 6) (.tmp 33) rfl (G:=w8.heap.size) (off:=0) rfl (us:=mkC m) HG.out rfl Zz (Nat.le_refl 7) (K1 m) ?_;intro w9 ht hs;have HG:=Lh (show Var w9 w8.heap.size (mkC m) from hs);have HF:=Lh (HF.out.set_n ht (by omega));clear ht hs;refine Hid.out ?_)
     | fail)
    obtain ⟨G,hG⟩:∃ G,w8.heap.size=G:=⟨_,rfl⟩
    have HG:Hid (Var w9 G (mkC m)):=Lh (by rw [← hG];exact HG.out)
    have hGw:w.heap.size+1<G:=by omega
    have j5:w9.cell? ⟨G,5,none⟩=some (.int .i64 (m.2.1:Int)):=HG.out.at 5 rfl
    have j6:w9.cell? ⟨G,6,none⟩=some (.int .i64 m.2.2):=HG.out.at 6 rfl
    rw [hG]
    clear hG
    by_cases hr:m.2.2=0
    ·have hr1:(m.2.2==0)=true:=by simp [hr]
     have hr2:(m.2.2 != 0)=false:=by simp [hr]
     have hr3:decide (m.2.2=0)=true:=by simp [hr]
     have HU2:Hid (nvC (fvr X.R (p,0))=gt moN Qk (vrC ⟨s0,X.R.ps p,ty,m.1⟩) Qk (m.2.1:Int) 0):=Lh (by rw [HU.out];unfold nvC;rw [if_pos hr])
     have HQ:=Lh (And.intro (HF.out.under (Qi _ _)) (HG.out.under (Qi _ _)))
     have HUP:Hid (∀ W W',(Fm X w W (gtE 0 0)∧Var W G (mkC m))→Below W.heap.size W W'→(Fm X w W' (gtE 0 0)∧Var W' G (mkC m))):=Lh fun W W' h b=>⟨h.1.under b,h.2.under b⟩
     obtain ⟨SS,hSd⟩:∃ SS:World→Prop,SS=fun W=>Fm X w W (gtE 0 0)∧Var W G (mkC m):=⟨_,rfl⟩
     have HS:Hid (∀ W,(Fm X w W (gtE 0 0)∧Var W G (mkC m))→SS W):=Lh fun W h=>by rw [hSd];exact h
     have hSF:∀ W,SS W→Fm X w W (gtE 0 0)∧Var W G (mkC m):=by rw [hSd];exact fun W h=>h
     have q0:∀ s:SW SS,s.w.cell? ⟨w.heap.size,0,none⟩=some (.string X.T):=fun s=>(hSF _ s.h).1.vr.at 0 rfl
     have q1:∀ s:SW SS,s.w.cell? ⟨w.heap.size,1,none⟩=some (.slice X.A X.L.length X.c):=fun s=>(hSF _ s.h).1.vr.at 1 rfl
     have q2:∀ s:SW SS,s.w.cell? ⟨G,0,none⟩=some (.bool m.1.so):=fun s=>(hSF _ s.h).2.at 0 rfl
     have q3:∀ s:SW SS,s.w.cell? ⟨G,1,none⟩=some (.bool m.1.lk):=fun s=>(hSF _ s.h).2.at 1 rfl
     have q4:∀ s:SW SS,s.w.cell? ⟨G,2,none⟩=some (.string m.1.lb):=fun s=>(hSF _ s.h).2.at 2 rfl
     have q5:∀ s:SW SS,s.w.cell? ⟨G,3,none⟩=some (.int .i64 m.1.fr):=fun s=>(hSF _ s.h).2.at 3 rfl
     have q6:∀ s:SW SS,s.w.cell? ⟨G,4,none⟩=some (.int .i64 m.1.to):=fun s=>(hSF _ s.h).2.at 4 rfl
     have q7:∀ s:SW SS,s.w.cell? ⟨G,5,none⟩=some (.int .i64 (m.2.1:Int)):=fun s=>(hSF _ s.h).2.at 5 rfl
     have HAT0:Hid (∀ W,Below w.heap.size w W→CP 51 #[.agg #[.string X.T,.slice X.A X.L.length X.c],.int .i64 (p:Int)] W fun e w'=>e=.returned (.string s0)∧Below W.heap.size W w'):=HAT0
     have HPO:Hid (∀ W,Below w.heap.size w W→CP 38 #[.agg #[.string X.T,.slice X.A X.L.length X.c],.int .i64 (p:Int)] W fun e w'=>e=.returned (.int .i64 (X.R.ps p))∧Below W.heap.size W w'):=HPO
     have hS0:=HS.out _ HQ.out
     clear hSd hSF HF HG
     refine Lh ?_
     go_wp2_with fail
     clear j5 j6
     refine Yd (by kernel_rfl) 14 rfl SS 13 ?_
     refine Ji 0 2 12 (by kernel_rfl) (fun _ _ d _ _ h=>by cases d <;> exact h) hS0 (fun hne=>?_)
     simp only [sD,sE,sF,sG]
     repeat (go_big_quiet_step (fail))
     refine wpQuiet_nil ?_
     refine Ji 3 2 10 (by kernel_rfl) (fun _ _ d _ _ h=>by cases d <;> exact h) hS0 (fun hne=>?_)
     simp only [sD,sE,sF,sG]
     repeat (go_big_quiet_step (fail))
     refine wpQuiet_nil ?_
     refine Ji 6 3 7 (by kernel_rfl) (fun _ _ d _ _ h=>by cases d <;> exact h) hS0 (fun hne=>?_)
     simp only [sD,sE,sF,sG]
     repeat (go_big_quiet_step (fail))
     refine wpQuiet_nil ?_
     refine Ji 10 2 5 (by kernel_rfl) (fun _ _ d _ _ h=>by cases d <;> exact h) hS0 (fun hne=>?_)
     simp only [sD,sE,sF,sG]
     repeat (go_big_quiet_step (fail))
     refine wpQuiet_nil ?_
     refine Uz (i:=2) (fuel:=4) (by kernel_rfl) rfl (fun KK hKK=>?_)
     go_simp
     with_reducible refine (HAT0.out _ HQ.out.1.b).mono ?_
     rintro e wy ⟨rfl,bb⟩
     have HQ:=Lh (HUP.out _ _ HQ.out bb)
     clear bb hS0
     have hS0:=HS.out _ HQ.out
     refine hKK _ _ hS0 ?_
     clear hKK KK
     refine Uz (i:=5) (fuel:=3) (by kernel_rfl) rfl (fun KK hKK=>?_)
     go_simp
     with_reducible refine (HPO.out _ HQ.out.1.b).mono ?_
     rintro e wz ⟨rfl,bb⟩
     have HQ:=Lh (HUP.out _ _ HQ.out bb)
     clear bb hS0
     have hS0:=HS.out _ HQ.out
     refine hKK _ _ hS0 ?_
     clear hKK KK
     refine Ji 9 1 2 (by kernel_rfl) (fun _ _ d _ _ h=>by cases d <;> exact h) hS0 (fun hne=>?_)
     simp only [sD,sE,sF,sG]
     repeat (go_big_quiet_step (fail))
     refine wpQuiet_nil ?_
     refine Ji 12 1 1 (by kernel_rfl) (fun _ _ d _ _ h=>by cases d <;> exact h) hS0 (fun hne=>?_)
     simp only [sD,sE,sF,sG]
     repeat (go_big_quiet_step (fail))
     refine wpQuiet_nil ?_
     refine Qbz (fuel:=0) (by kernel_rfl) (by kernel_rfl) rfl (fun KK hKK=>?_)
     refine Z2 rfl 95 (.tmp 4) (.tmp 54) rfl (w.heap.size+1) 0 (gt moN Qk (vrC ⟨s0,X.R.ps p,ty,m.1⟩) Qk (m.2.1:Int) 0) rfl rfl (HQ.out.1.vo.there (Nat.le_refl 19)) Qc (Zy _ _ Ki rfl (Jj _) rfl) ?_
     have ht:=Tn.sets (M:=fun k=>k=w.heap.size+1) (w.heap.size+1) (gt moN Qk (vrC ⟨s0,X.R.ps p,ty,m.1⟩) Qk (m.2.1:Int) 0) rfl 0 wz
     have hs:=HQ.out.1.vo.sets 0 (gt moN Qk (vrC ⟨s0,X.R.ps p,ty,m.1⟩) Qk (m.2.1:Int) 0) (Nat.le_refl 19)
     have HF:=Lh (HQ.out.1.set_o (us:=gt moN Qk (vrC ⟨s0,X.R.ps p,ty,m.1⟩) Qk (m.2.1:Int) 0) ht hs)
     refine hKK _ _ ?_
     clear hKK KK q0 q1 q2 q3 q4 q5 q6 q7 HS hS0 ht hs
     simp only [Act.put,sA,sB,sC]
     go_wp2_with fail
     exact Qj 95 rfl rfl rfl HF.out.vo Try.underlying95 rfl Qc ⟨by rw [HU2.out],HF.out.b⟩
    ·have hr1:(m.2.2==0)=false:=by simp [hr]
     have hr2:(m.2.2 != 0)=true:=by simp [hr]
     have hr3:decide (m.2.2=0)=false:=by simp [hr]
     have HU2:Hid (nvC (fvr X.R (p,0))=gtE (m.2.1:Int) m.2.2):=Lh (by rw [HU.out];unfold nvC;rw [if_neg hr])
     refine Lh ?_
     go_wp2_with (first
      | (refine Qa rfl 95 (.tmp 4) (.tmp 41) rfl (G:=w.heap.size+1) (off:=0) rfl (us:=gtE (m.2.1:Int) m.2.2) HF.out.vo rfl Qc (Nat.le_refl 19) (Qn _ _) ?_;intro w90 ht hs;have HF:=Lh (HF.out.set_o (us:=gtE (m.2.1:Int) m.2.2) ht hs);clear ht hs)
      | fail)
     exact Qj 95 rfl rfl rfl HF.out.vo Try.underlying95 rfl Qc ⟨by rw [HU2.out],HF.out.b⟩
theorem Fm.low{X:Ry}{w W W':World}{os:List Value}(h:Fm X w W os)(hb:Below (w.heap.size+2) W W'):Fm X w W' os:=
 ⟨h.vr.keep (hb.block _ (by omega)) hb.size,h.vo.keep (hb.block _ (by omega)) hb.size,h.b.trans ⟨hb.os,hb.tape,hb.output,hb.size,fun k hk=>hb.block k (by omega)⟩⟩
theorem Var.midR{w:World}{G:Nat}{cs:List Value}(h:Var w G cs)(o:Nat)(us:List Value)(he:us=(cs.drop o).take us.length):w.rangeAt G o us:=fun j u hu=>by
 have hj:=(List.getElem?_eq_some_iff.1 hu).1
 have hk:us[j]?=((cs.drop o).take us.length)[j]?:=by rw [← he]
 rw [List.getElem?_take,if_pos hj,List.getElem?_drop] at hk
 have:=h.rg (o+j) u (by rw [← hk];exact hu)
 rwa [Nat.zero_add] at this
section
variable {σ:Type} {R:Rw} {one:List σ→Nat×Int→List σ×(Nat×Int)} {s:List σ} {f q:Nat}
def prR(R:Rw)(one:List σ→Nat×Int→List σ×(Nat×Int))(e:ByteArray)(f:Nat)(s:List σ)(q:Nat):List σ×(Nat×Int):=if s.length=0 then lst R one e f s (q,0) else aft R one e f (s,(q,0))
theorem Qmz{c:UInt8}{l:List UInt8}(h:R.is q (c::l)=true)(hc:(c::l)≠[44]):prR R one ⟨(c::l).toArray⟩ f s q=(s,(q+1,0)):=by
 unfold prR
 split
 ·exact lst_yes h
 ·exact aft_end h hc
theorem prR_0{c:UInt8}{l:List UInt8}(h:R.is q (c::l)=false)(hs:s.length=0):prR R one ⟨(c::l).toArray⟩ f s q=aft R one ⟨(c::l).toArray⟩ f (one s (q,0)):=by
 unfold prR
 rw [if_pos hs]
 exact lst_no h
theorem prR_no{c:UInt8}{l:List UInt8}(h:R.is q (c::l)=false)(hs:¬ s.length=0)(hc:R.is q [44]=false):prR R one ⟨(c::l).toArray⟩ f s q=(s,(q,11)):=by
 unfold prR
 rw [if_neg hs]
 exact aft_no h hc
theorem prR_on{e:ByteArray}(hs:¬ s.length=0)(hc:R.is q [44]=true):prR R one e (f+1) s q=aft R one e f (one s (q+1,0)):=by
 unfold prR
 rw [if_neg hs]
 exact aft_on hc
theorem Qjd{e:ByteArray}(hs:¬ s.length=0):aft R one e f (s,(q,0))=prR R one e f s q:=by
 unfold prR
 rw [if_neg hs]
end
def pvC(y:List VrT×(Nat×Int))(pv:Value):List Value:=if y.2.2=0 then gt moN Qk (vrC VrT.nul) pv (y.2.1:Int) 0 else gtE (y.2.1:Int) y.2.2
def PvTo(y:List VrT×(Nat×Int))(w:World)(e:Ending)(w':World):Prop:=
 ∃ pv,e=.returned (.agg (pvC y pv).toArray)∧pv.oneCell'=true∧(y.2.2=0→ShV w' (fun b=>w.heap.size≤b) pv y.1.length (vrs y.1))∧Below w.heap.size w w'
theorem Qje{y:List VrT×(Nat×Int)}{q:Nat}{r:Int}{w w':World}(h:y.2=(q,r))(hr:¬ r=0)(hb:Below w.heap.size w w'):PvTo y w (.returned (.agg (gtE (q:Int) r).toArray)) w':=by
 refine ⟨Qk,?_,rfl,fun e=>?_,hb⟩
 ·unfold pvC;rw [h];dsimp only;rw [if_neg hr]
 ·rw [h] at e;exact absurd e hr
theorem pv_ok{s:List VrT}{q:Nat}{w w':World}{A:Option Addr}{n c:Nat}(ho:Own w' (w.heap.size+2) 75 8 (.slice A n c) s.length (vrs s))(hb:Below w.heap.size w w') :
  PvTo (s,(q,0)) w (.returned (.agg (gt moN Qk (vrC VrT.nul) (.slice A n c) (q:Int) 0).toArray)) w':=
 ⟨.slice A n c,rfl,rfl,fun _=>.of_own ho fun b hb _ _=>by omega,hb⟩
def nlC(y:List NmT×(Nat×Int))(lv:Value):List Value:=if y.2.2=0 then gt moN lv (vrC VrT.nul) Qk (y.2.1:Int) 0 else gtE (y.2.1:Int) y.2.2
def NlTo(y:List NmT×(Nat×Int))(w:World)(e:Ending)(w':World):Prop:=
 ∃ lv,e=.returned (.agg (nlC y lv).toArray)∧lv.oneCell'=true∧(y.2.2=0→ShV w' (fun b=>w.heap.size≤b) lv y.1.length (nms y.1))∧Below w.heap.size w w'
theorem Qm0{y:List NmT×(Nat×Int)}{q:Nat}{r:Int}{w w':World}(h:y.2=(q,r))(hr:¬ r=0)(hb:Below w.heap.size w w'):NlTo y w (.returned (.agg (gtE (q:Int) r).toArray)) w':=by
 refine ⟨Qk,?_,rfl,fun e=>?_,hb⟩
 ·unfold nlC;rw [h];dsimp only;rw [if_neg hr]
 ·rw [h] at e;exact absurd e hr
theorem nl_ok{s:List NmT}{q:Nat}{w w':World}{A:Option Addr}{n c:Nat}(ho:Own w' (w.heap.size+2) 53 2 (.slice A n c) s.length (nms s))(hb:Below w.heap.size w w') :
  NlTo (s,(q,0)) w (.returned (.agg (gt moN (.slice A n c) (vrC VrT.nul) Qk (q:Int) 0).toArray)) w':=
 ⟨.slice A n c,rfl,rfl,fun _=>.of_own ho fun b hb _ _=>by omega,hb⟩
theorem onV_8{R:Rw}{s:List VrT}{q:Nat}(h:s.length=8):(onV R s (q,0)).2=(q,3):=by
 unfold onV
 dsimp only
 rw [if_pos h]
 exact fvr_x (by decide)
theorem onV_no{R:Rw}{s:List VrT}{q:Nat}(h:¬ s.length=8):onV R s (q,0)=(s++[(fvr R (q,0)).1],(fvr R (q,0)).2):=by
 unfold onV
 dsimp only
 rw [if_neg h]
theorem Qh3(X:Ry)(hm:∀ i,(X.R.wd i).size≤1000000)(f p:Nat)(w:World)(h:X.In w w.heap.size)(hp:p≤X.L.length)(hf:X.L.length<f) :
  CP 65 #[.agg (ryC X).toArray,.int .i64 (p:Int)] w (PvTo (lst X.R (onV X.R) Qda f [] (p,0)) w):=by
 have hz:=Yp
 have hln:=h.2.len
 have hok:=Qo X.T X.L
 have HAT:Hid (∀ q,q≤X.L.length→∀ W,Below w.heap.size w W→CP 51 #[.agg (ryC X).toArray,.int .i64 (q:Int)] W fun e w'=>e=.returned (.string (X.R.wd q))∧Below W.heap.size W w'):=Lh fun q hq W hW=>Qg X q W ((h.up hW nLe).more hW.size) (by omega)
 have HNV:Hid (∀ q,q≤X.L.length→∀ W,Below w.heap.size w W→CP 57 #[.agg (ryC X).toArray,.int .i64 (q:Int)] W fun e w'=>e=.returned (.agg (nvC (fvr X.R (q,0))).toArray)∧Below W.heap.size W w'):=Lh fun q hq W hW=>Qd1 X hm q W ((h.up hW nLe).more hW.size) hq
 have HF:=Lh (Qe3 X w)
 have HOK:=Lh hok
 obtain ⟨Y,hY⟩:∃ Y,lst X.R (onV X.R) Qda f [] (p,0)=Y:=⟨_,rfl⟩
 have HY:Hid (prR X.R (onV X.R) Qda f [] p=Y):=Lh (by rw [← hY];rfl)
 rw [hY]
 clear h hY hok
 show CP 65 #[.agg #[.string X.T,.slice X.A X.L.length X.c],.int .i64 (p:Int)] w _
 go_enter Try.func65,Try.ntmps65
 go_wp2_with fail
 obtain ⟨w1,hw1⟩:∃ w1,(w.alloc (.cells #[.string X.T,.slice X.A X.L.length X.c] 92)).alloc (.cells #[.slice none 0 0,.bool false,.slice none 0 0,.bool false,.slice none 0 0,.slice none 0 0,.slice none 0 0,.slice none 0 0,.string ⟨#[]⟩,.int .i64 0,.int .i64 0,.bool false,.bool false,.string ⟨#[]⟩,.int .i64 0,.int .i64 0,.slice none 0 0,.int .i64 0,.int .i64 0] 95)=w1:=⟨_,rfl⟩
 rw [hw1] at HF
 rw [hw1]
 clear hw1
 have hlt1:=HF.out.lt
 go_loopw [1,5] (fun a u wr=>∃ (q g:Nat) (s:List VrT) (uu:Value),a=.int .i64 (q:Int)∧u=uu∧q≤X.L.length∧X.L.length-q<g∧s.length≤8∧Hid (prR X.R (onV X.R) Qda g s q=Y)∧Hid (Own wr (w.heap.size+2) 75 8 uu s.length (vrs s))∧Hid (Fm X w wr (gtE 0 0))) (fun a _ _=>X.L.length-(intOf a).toNat)
 case atStart=>exact ⟨p,f,[],_,rfl,rfl,hp,by omega,Nat.zero_le _,HY,Lh (Own.nil _ _ _ _ (by omega)),HF⟩
 case round =>
  clear hp hf HY HF hlt1
  obtain ⟨q,g,s,uu,rfl,rfl,hq,hg,hs8,HY,HO,HF⟩:=hrel
  obtain ⟨wa,hwa⟩:∃ wa,wa=wr:=⟨_,rfl⟩
  subst hwa
  obtain ⟨A,c,rfl⟩:=HO.out.form
  have HA0:=Lh (HAT.out q hq)
  obtain ⟨sg,hsg⟩:∃ v,X.R.wd q=v:=⟨_,rfl⟩
  have hC1:X.R.is q [41]=(sg.toList==[41]):=by rw [← hsg];rfl
  have hC2:X.R.is q [44]=(sg.toList==[44]):=by rw [← hsg];rfl
  rw [hsg] at HA0
  clear hsg
  cases c1:(sg.toList==[41]) with
  | true =>
   have HE:Hid (Y=(s,(q+1,0))):=Lh (HY.out.symm.trans (Qmz (hC1.trans c1) (by decide)))
   clear hC1 hC2
   go_wp2_with (first
    | (refine Qb rfl 92 (.tmp 2) rfl w.heap.size 0 rfl (ryC X) HF.out.vr.rg Try.underlying92 rfl Qd ?_)
    | (go_at_call 51;(with_reducible refine (HA0.out _ HF.out.b).mono ?_);rintro e w2 ⟨rfl,b2⟩;have HF:=Lh (HF.out.under b2);have HO:=Lh (HO.out.below b2);clear b2;dsimp only)
    | (refine Qa rfl 95 (.tmp 4) (.tmp 44) rfl (G:=w.heap.size+1) (off:=0) rfl (us:=gt moN Qk (vrC VrT.nul) (.slice A s.length c) ((q:Int)+1) 0) HF.out.vo rfl Qc (Nat.le_refl 19) (Zy _ _ Ki rfl (Jj _) rfl) ?_;intro w90 ht hs;have HO:=Lh (HO.out.turn ht fun k hk e=>by have:=HO.out.block_ge k hk;omega);have HF:=Lh (HF.out.set_o (us:=gt moN Qk (vrC VrT.nul) (.slice A s.length c) ((q:Int)+1) 0) ht hs);clear ht hs)
    | fail)
   rw [HE.out]
   exact Qj 95 rfl rfl rfl HF.out.vo Try.underlying95 rfl Qc (pv_ok (q:=q+1) HO.out HF.out.b)
  | false =>
   have hn1:=hC1.trans c1
   by_cases hs0:s.length=0
   ·obtain rfl:s=[]:=List.eq_nil_of_length_eq_zero hs0
    have HO:Hid (Own wa (w.heap.size+2) 75 8 (.slice A 0 c) 0 []):=HO
    have HE:=Lh (HY.out.symm.trans (prR_0 hn1 hs0))
    clear hs0 hs8
    have hnv:=HNV.out q hq
    have hup:=Qcl HOK.out (x:=(q,0)) hq
    obtain ⟨v,q',r',hz2⟩:∃ v q' r',fvr X.R (q,0)=(v,(q',r')):=⟨_,_,_,rfl⟩
    rw [onV_no (by decide),hz2] at HE
    rw [hz2] at hnv hup
    have hq':q'≤X.L.length:=hup.n
    clear hC1 hC2 hn1
    by_cases hr:r'=0
    ·subst hr
     have hqq:q+1≤q':=(hup.st rfl).2
     have HN:Hid (∀ W,Below w.heap.size w W→CP 57 #[.agg (ryC X).toArray,.int .i64 (q:Int)] W fun e w'=>e=.returned (.agg (gt moN Qk (vrC v) Qk (q':Int) 0).toArray)∧Below W.heap.size W w'):=Lh hnv
     have HE2:Hid (prR X.R (onV X.R) Qda g [v] q'=Y):=Lh (by rw [HE.out];exact (Qjd (by simp)).symm)
     clear hz2 hnv hup HE
     go_wp2_with (first
      | (refine Qb rfl 92 (.tmp 2) rfl w.heap.size 0 rfl (ryC X) HF.out.vr.rg Try.underlying92 rfl Qd ?_)
      | (go_at_call 51;(with_reducible refine (HA0.out _ HF.out.b).mono ?_);rintro e w2 ⟨rfl,b2⟩;have HF:=Lh (HF.out.under b2);have HO:=Lh (HO.out.below b2);clear b2;dsimp only)
      | (go_at_call 57;(with_reducible refine (HN.out _ HF.out.b).mono ?_);rintro e w8 ⟨rfl,b2⟩;have HF:=Lh (HF.out.under b2);have HO:=Lh (HO.out.below b2);clear b2;have hw8:=HF.out.lt;have HLT:=Lh (fun k (hk:Value.ownBlock (.slice A 0 c)=some k)=>(HO.out.1.lt k hk).2);have HG:=Lh (Var.new w8 (gtE 0 0) 95 (c:=#[.slice none 0 0,.bool false,.slice none 0 0,.bool false,.slice none 0 0,.slice none 0 0,.slice none 0 0,.slice none 0 0,.string ⟨#[]⟩,.int .i64 0,.int .i64 0,.bool false,.bool false,.string ⟨#[]⟩,.int .i64 0,.int .i64 0,.slice none 0 0,.int .i64 0,.int .i64 0]) rfl);have HF:=Lh (HF.out.under (bRf.alloc nLe (.cells #[.slice none 0 0,.bool false,.slice none 0 0,.bool false,.slice none 0 0,.slice none 0 0,.slice none 0 0,.slice none 0 0,.string ⟨#[]⟩,.int .i64 0,.int .i64 0,.bool false,.bool false,.string ⟨#[]⟩,.int .i64 0,.int .i64 0,.slice none 0 0,.int .i64 0,.int .i64 0] 95)));have HO:=Lh (HO.out.alloc (.cells #[.slice none 0 0,.bool false,.slice none 0 0,.bool false,.slice none 0 0,.slice none 0 0,.slice none 0 0,.slice none 0 0,.string ⟨#[]⟩,.int .i64 0,.int .i64 0,.bool false,.bool false,.string ⟨#[]⟩,.int .i64 0,.int .i64 0,.slice none 0 0,.int .i64 0,.int .i64 0] 95));dsimp only;refine Hid.out ?_)
      | fail)
     refine Lh ?_
     go_wp2_with (first
      | (refine Qa rfl 95 (.tmp 6) (.tmp 29) rfl (G:=w8.heap.size) (off:=0) rfl (us:=gt moN Qk (vrC v) Qk (q':Int) 0) HG.out rfl Qc (Nat.le_refl 19) (Zy _ _ Ki rfl (Jj _) rfl) ?_;intro w9 ht hs;have HG:=Lh (show Var w9 w8.heap.size (gt moN Qk (vrC v) Qk (q':Int) 0) from hs);have HF:=Lh (HF.out.set_n ht (by omega));have HO:=Lh (HO.out.turn ht fun k hk e=>by have:=HLT.out k hk;omega);clear ht hs;refine Hid.out ?_)
      | fail)
     obtain ⟨G,hG⟩:∃ G,w8.heap.size=G:=⟨_,rfl⟩
     have HG:Hid (Var w9 G (gt moN Qk (vrC v) Qk (q':Int) 0)):=Lh (by rw [← hG];exact HG.out)
     have hGw:w.heap.size+1<G:=by omega
     rw [hG] at HLT
     have j17:w9.cell? ⟨G,17,none⟩=some (.int .i64 (q':Int)):=HG.out.at 17 rfl
     have j18:w9.cell? ⟨G,18,none⟩=some (.int .i64 0):=HG.out.at 18 rfl
     rw [hG]
     clear hG
     refine Lh ?_
     go_wp2_with (first
      | (refine Qb rfl 75 (.tmp 35) rfl G 8 rfl (vrC v) (HG.out.midR 8 _ rfl) Try.underlying75 rfl Yo ?_)
      | (refine Ye rfl 48 75 (.tmp 36) rfl (vrC v) rfl (by simp [vrC]) (by simp [vrC]) Try.underlying48 Yo (by kernel_rfl) ?_)
      | (at_builtin;refine Kb rfl (.tmp 34) (.tmp 37) 48 rfl Qf6 w9 (w.heap.size+2) (.slice A 0 c) 0 [] (vrC v) rfl HO.out rfl rfl rfl (Jj _) (by omega) (by omega) ?_;intro v6 w6 ho6 hg6 hv6;have HLO:=Lh (((Below.refl (w.heap.size+2) w9).alloc HO.out.2 (.cells (vrC v).toArray 75)).grown hg6 (by have:=HO.out.2;simp;omega) (fun k hk=>HO.out.block_ge k hk));have HG:=Lh ((HG.out.under (bRf.alloc nLe (.cells (vrC v).toArray 75))).keep (hg6.block G (by have:=HG.out.lt;simp;omega) (fun e=>by have:=HLT.out G e.symm;omega)) hg6.size);have HF:=Lh (HF.out.low HLO.out);have HO:=Lh (ho6.cast (show 0+1=([v]:List VrT).length by simp) (Qag [] v).symm);clear ho6 hg6 hv6 j17 j18;have j17:w6.cell? ⟨G,17,none⟩=some (.int .i64 (q':Int)):=HG.out.at 17 rfl;refine Hid.out ?_)
      | fail)
     refine Lh ?_
     go_wp2_with fail
     go_roundw
     case rel=>exact ⟨q',g,[v],v6,rfl,rfl,hq',by omega,(by simp <;> omega),HE2,HO,HF⟩
     case measure=>simp [intOf];omega
    ·have HN:Hid (∀ W,Below w.heap.size w W→CP 57 #[.agg (ryC X).toArray,.int .i64 (q:Int)] W fun e w'=>e=.returned (.agg (gtE (q':Int) r').toArray)∧Below W.heap.size W w'):=Lh fun W hW=>by
      have:=hnv W hW
      rwa [Qd0 rfl hr] at this
     have HE2:Hid (Y.2=(q',r')):=Lh (by rw [HE.out,U3 (by exact hr)])
     have hr1:(r'==0)=false:=by simp [hr]
     have hr2:(r' != 0)=true:=by simp [hr]
     have hr3:decide (r'=0)=false:=by simp [hr]
     have HRR:=Lh hr
     clear hz2 hnv hup HE hr
     go_wp2_with (first
      | (refine Qb rfl 92 (.tmp 2) rfl w.heap.size 0 rfl (ryC X) HF.out.vr.rg Try.underlying92 rfl Qd ?_)
      | (go_at_call 51;(with_reducible refine (HA0.out _ HF.out.b).mono ?_);rintro e w2 ⟨rfl,b2⟩;have HF:=Lh (HF.out.under b2);have HO:=Lh (HO.out.below b2);clear b2;dsimp only)
      | (go_at_call 57;(with_reducible refine (HN.out _ HF.out.b).mono ?_);rintro e w8 ⟨rfl,b2⟩;have HF:=Lh (HF.out.under b2);have HO:=Lh (HO.out.below b2);clear b2;have hw8:=HF.out.lt;have HLT:=Lh (fun k (hk:Value.ownBlock (.slice A 0 c)=some k)=>(HO.out.1.lt k hk).2);have HG:=Lh (Var.new w8 (gtE 0 0) 95 (c:=#[.slice none 0 0,.bool false,.slice none 0 0,.bool false,.slice none 0 0,.slice none 0 0,.slice none 0 0,.slice none 0 0,.string ⟨#[]⟩,.int .i64 0,.int .i64 0,.bool false,.bool false,.string ⟨#[]⟩,.int .i64 0,.int .i64 0,.slice none 0 0,.int .i64 0,.int .i64 0]) rfl);have HF:=Lh (HF.out.under (bRf.alloc nLe (.cells #[.slice none 0 0,.bool false,.slice none 0 0,.bool false,.slice none 0 0,.slice none 0 0,.slice none 0 0,.slice none 0 0,.string ⟨#[]⟩,.int .i64 0,.int .i64 0,.bool false,.bool false,.string ⟨#[]⟩,.int .i64 0,.int .i64 0,.slice none 0 0,.int .i64 0,.int .i64 0] 95)));have HO:=Lh (HO.out.alloc (.cells #[.slice none 0 0,.bool false,.slice none 0 0,.bool false,.slice none 0 0,.slice none 0 0,.slice none 0 0,.slice none 0 0,.string ⟨#[]⟩,.int .i64 0,.int .i64 0,.bool false,.bool false,.string ⟨#[]⟩,.int .i64 0,.int .i64 0,.slice none 0 0,.int .i64 0,.int .i64 0] 95));dsimp only;refine Hid.out ?_)
      | fail)
     refine Lh ?_
     go_wp2_with (first
      | (refine Qa rfl 95 (.tmp 6) (.tmp 29) rfl (G:=w8.heap.size) (off:=0) rfl (us:=gtE (q':Int) r') HG.out rfl Qc (Nat.le_refl 19) (Qn _ _) ?_;intro w9 ht hs;have HG:=Lh (show Var w9 w8.heap.size (gtE (q':Int) r') from hs);have HF:=Lh (HF.out.set_n ht (by omega));have HO:=Lh (HO.out.turn ht fun k hk e=>by have:=HLT.out k hk;omega);clear ht hs;refine Hid.out ?_)
      | fail)
     obtain ⟨G,hG⟩:∃ G,w8.heap.size=G:=⟨_,rfl⟩
     have HG:Hid (Var w9 G (gtE (q':Int) r')):=Lh (by rw [← hG];exact HG.out)
     have j18:w9.cell? ⟨G,18,none⟩=some (.int .i64 r'):=HG.out.at 18 rfl
     rw [hG]
     clear hG
     refine Lh ?_
     go_wp2_with (first
      | (refine Qb rfl 95 (.tmp 6) rfl G 0 rfl (gtE (q':Int) r') HG.out.rg Try.underlying95 rfl Qc ?_)
      | (refine Qa rfl 95 (.tmp 4) (.tmp 33) rfl (G:=w.heap.size+1) (off:=0) rfl (us:=gtE (q':Int) r') HF.out.vo rfl Qc (Nat.le_refl 19) (Qn _ _) ?_;intro w90 ht hs;have HO:=Lh (HO.out.turn ht fun k hk e=>by have:=HO.out.block_ge k hk;omega);have HF:=Lh (HF.out.set_o (us:=gtE (q':Int) r') ht hs);clear ht hs)
      | fail)
     exact Qj 95 rfl rfl rfl HF.out.vo Try.underlying95 rfl Qc (Qje HE2.out HRR.out HF.out.b)
   ·have hl0:0<s.length:=by omega
    cases c2:(sg.toList==[44]) with
    | false =>
     have HE:Hid (Y.2=(q,11)):=Lh (by rw [← HY.out,prR_no hn1 hs0 (hC2.trans c2)])
     clear hC1 hC2 hn1
     go_wp2_with (first
      | (refine Qb rfl 92 (.tmp 2) rfl w.heap.size 0 rfl (ryC X) HF.out.vr.rg Try.underlying92 rfl Qd ?_)
      | (go_at_call 51;(with_reducible refine (HA0.out _ HF.out.b).mono ?_);rintro e w2 ⟨rfl,b2⟩;have HF:=Lh (HF.out.under b2);have HO:=Lh (HO.out.below b2);clear b2;dsimp only)
      | (refine Qa rfl 95 (.tmp 4) (.tmp 19) rfl (G:=w.heap.size+1) (off:=0) rfl (us:=gtE (q:Int) 11) HF.out.vo rfl Qc (Nat.le_refl 19) (Qn _ _) ?_;intro w90 ht hs;have HO:=Lh (HO.out.turn ht fun k hk e=>by have:=HO.out.block_ge k hk;omega);have HF:=Lh (HF.out.set_o (us:=gtE (q:Int) 11) ht hs);clear ht hs)
      | fail)
     exact Qj 95 rfl rfl rfl HF.out.vo Try.underlying95 rfl Qc (Qje HE.out (by decide) HF.out.b)
    | true =>
     have hql:q<X.L.length:=HOK.out.is_lt (hC2.trans c2)
     obtain ⟨g,rfl⟩:∃ g',g=g'+1:=⟨g-1,by omega⟩
     have HE:=Lh (HY.out.symm.trans (prR_on hs0 (hC2.trans c2)))
     clear hC1 hC2 hn1
     by_cases h8:s.length=8
     ·have HE2:Hid (Y.2=(q+1,3)):=Lh (by
       have e:=onV_8 (R:=X.R) (s:=s) (q:=q+1) h8
       rw [HE.out,U3 (by rw [e];exact (show ¬ (3:Int)=0 by decide)),e])
      clear HE
      go_wp2_with (first
       | (refine Qb rfl 92 (.tmp 2) rfl w.heap.size 0 rfl (ryC X) HF.out.vr.rg Try.underlying92 rfl Qd ?_)
       | (go_at_call 51;(with_reducible refine (HA0.out _ HF.out.b).mono ?_);rintro e w2 ⟨rfl,b2⟩;have HF:=Lh (HF.out.under b2);have HO:=Lh (HO.out.below b2);clear b2;dsimp only)
       | (refine Qa rfl 95 (.tmp 4) (.tmp 26) rfl (G:=w.heap.size+1) (off:=0) rfl (us:=gtE ((q:Int)+1) 3) HF.out.vo rfl Qc (Nat.le_refl 19) (Qn _ _) ?_;intro w90 ht hs;have HO:=Lh (HO.out.turn ht fun k hk e=>by have:=HO.out.block_ge k hk;omega);have HF:=Lh (HF.out.set_o (us:=gtE ((q:Int)+1) 3) ht hs);clear ht hs)
       | fail)
      exact Qj 95 rfl rfl rfl HF.out.vo Try.underlying95 rfl Qc (Qje (q:=q+1) HE2.out (by decide) HF.out.b)
     ·have hnv:=HNV.out (q+1) hql
      have hup:=Qcl HOK.out (x:=(q+1,0)) hql
      obtain ⟨v,q',r',hz2⟩:∃ v q' r',fvr X.R (q+1,0)=(v,(q',r')):=⟨_,_,_,rfl⟩
      rw [onV_no h8,hz2] at HE
      rw [hz2] at hnv hup
      have hq':q'≤X.L.length:=hup.n
      by_cases hr:r'=0
      ·subst hr
       have hqq:q+1+1≤q':=(hup.st rfl).2
       have HN:Hid (∀ W,Below w.heap.size w W→CP 57 #[.agg (ryC X).toArray,.int .i64 ((q:Int)+1)] W fun e w'=>e=.returned (.agg (gt moN Qk (vrC v) Qk (q':Int) 0).toArray)∧Below W.heap.size W w'):=Lh hnv
       have HE2:Hid (prR X.R (onV X.R) Qda g (s++[v]) q'=Y):=Lh (by rw [HE.out];exact (Qjd (by simp)).symm)
       clear hz2 hnv hup HE
       go_wp2_with (first
        | (refine Qb rfl 92 (.tmp 2) rfl w.heap.size 0 rfl (ryC X) HF.out.vr.rg Try.underlying92 rfl Qd ?_)
        | (go_at_call 51;(with_reducible refine (HA0.out _ HF.out.b).mono ?_);rintro e w2 ⟨rfl,b2⟩;have HF:=Lh (HF.out.under b2);have HO:=Lh (HO.out.below b2);clear b2;dsimp only)
        | (go_at_call 57;(with_reducible refine (HN.out _ HF.out.b).mono ?_);rintro e w8 ⟨rfl,b2⟩;have HF:=Lh (HF.out.under b2);have HO:=Lh (HO.out.below b2);clear b2;have hw8:=HF.out.lt;have HLT:=Lh (fun k (hk:Value.ownBlock (.slice A s.length c)=some k)=>(HO.out.1.lt k hk).2);have HG:=Lh (Var.new w8 (gtE 0 0) 95 (c:=#[.slice none 0 0,.bool false,.slice none 0 0,.bool false,.slice none 0 0,.slice none 0 0,.slice none 0 0,.slice none 0 0,.string ⟨#[]⟩,.int .i64 0,.int .i64 0,.bool false,.bool false,.string ⟨#[]⟩,.int .i64 0,.int .i64 0,.slice none 0 0,.int .i64 0,.int .i64 0]) rfl);have HF:=Lh (HF.out.under (bRf.alloc nLe (.cells #[.slice none 0 0,.bool false,.slice none 0 0,.bool false,.slice none 0 0,.slice none 0 0,.slice none 0 0,.slice none 0 0,.string ⟨#[]⟩,.int .i64 0,.int .i64 0,.bool false,.bool false,.string ⟨#[]⟩,.int .i64 0,.int .i64 0,.slice none 0 0,.int .i64 0,.int .i64 0] 95)));have HO:=Lh (HO.out.alloc (.cells #[.slice none 0 0,.bool false,.slice none 0 0,.bool false,.slice none 0 0,.slice none 0 0,.slice none 0 0,.slice none 0 0,.string ⟨#[]⟩,.int .i64 0,.int .i64 0,.bool false,.bool false,.string ⟨#[]⟩,.int .i64 0,.int .i64 0,.slice none 0 0,.int .i64 0,.int .i64 0] 95));dsimp only;refine Hid.out ?_)
        | fail)
       refine Lh ?_
       go_wp2_with (first
        | (refine Qa rfl 95 (.tmp 6) (.tmp 29) rfl (G:=w8.heap.size) (off:=0) rfl (us:=gt moN Qk (vrC v) Qk (q':Int) 0) HG.out rfl Qc (Nat.le_refl 19) (Zy _ _ Ki rfl (Jj _) rfl) ?_;intro w9 ht hs;have HG:=Lh (show Var w9 w8.heap.size (gt moN Qk (vrC v) Qk (q':Int) 0) from hs);have HF:=Lh (HF.out.set_n ht (by omega));have HO:=Lh (HO.out.turn ht fun k hk e=>by have:=HLT.out k hk;omega);clear ht hs;refine Hid.out ?_)
        | fail)
       obtain ⟨G,hG⟩:∃ G,w8.heap.size=G:=⟨_,rfl⟩
       have HG:Hid (Var w9 G (gt moN Qk (vrC v) Qk (q':Int) 0)):=Lh (by rw [← hG];exact HG.out)
       have hGw:w.heap.size+1<G:=by omega
       rw [hG] at HLT
       have j17:w9.cell? ⟨G,17,none⟩=some (.int .i64 (q':Int)):=HG.out.at 17 rfl
       have j18:w9.cell? ⟨G,18,none⟩=some (.int .i64 0):=HG.out.at 18 rfl
       rw [hG]
       clear hG
       refine Lh ?_
       go_wp2_with (first
        | (refine Qb rfl 75 (.tmp 35) rfl G 8 rfl (vrC v) (HG.out.midR 8 _ rfl) Try.underlying75 rfl Yo ?_)
        | (refine Ye rfl 48 75 (.tmp 36) rfl (vrC v) rfl (by simp [vrC]) (by simp [vrC]) Try.underlying48 Yo (by kernel_rfl) ?_)
        | (at_builtin;refine Kb rfl (.tmp 34) (.tmp 37) 48 rfl Qf6 w9 (w.heap.size+2) (.slice A s.length c) s.length (vrs s) (vrC v) rfl HO.out rfl rfl rfl (Jj _) (by omega) (by omega) ?_;intro v6 w6 ho6 hg6 hv6;have HLO:=Lh (((Below.refl (w.heap.size+2) w9).alloc HO.out.2 (.cells (vrC v).toArray 75)).grown hg6 (by have:=HO.out.2;simp;omega) (fun k hk=>HO.out.block_ge k hk));have HG:=Lh ((HG.out.under (bRf.alloc nLe (.cells (vrC v).toArray 75))).keep (hg6.block G (by have:=HG.out.lt;simp;omega) (fun e=>by have:=HLT.out G e.symm;omega)) hg6.size);have HF:=Lh (HF.out.low HLO.out);have HO:=Lh (ho6.cast (show s.length+1=(s++[v]).length by simp) (Qag s v).symm);clear ho6 hg6 hv6 j17 j18;have j17:w6.cell? ⟨G,17,none⟩=some (.int .i64 (q':Int)):=HG.out.at 17 rfl;refine Hid.out ?_)
        | fail)
       refine Lh ?_
       go_wp2_with fail
       go_roundw
       case rel=>exact ⟨q',g,s++[v],v6,rfl,rfl,hq',by omega,(by simp <;> omega),HE2,HO,HF⟩
       case measure=>simp [intOf];omega
      ·have HN:Hid (∀ W,Below w.heap.size w W→CP 57 #[.agg (ryC X).toArray,.int .i64 ((q:Int)+1)] W fun e w'=>e=.returned (.agg (gtE (q':Int) r').toArray)∧Below W.heap.size W w'):=Lh fun W hW=>by
        have:=hnv W hW
        rwa [Qd0 rfl hr] at this
       have HE2:Hid (Y.2=(q',r')):=Lh (by rw [HE.out,U3 (by exact hr)])
       have hr1:(r'==0)=false:=by simp [hr]
       have hr2:(r' != 0)=true:=by simp [hr]
       have hr3:decide (r'=0)=false:=by simp [hr]
       have HRR:=Lh hr
       clear hz2 hnv hup HE hr
       go_wp2_with (first
        | (refine Qb rfl 92 (.tmp 2) rfl w.heap.size 0 rfl (ryC X) HF.out.vr.rg Try.underlying92 rfl Qd ?_)
        | (go_at_call 51;(with_reducible refine (HA0.out _ HF.out.b).mono ?_);rintro e w2 ⟨rfl,b2⟩;have HF:=Lh (HF.out.under b2);have HO:=Lh (HO.out.below b2);clear b2;dsimp only)
        | (go_at_call 57;(with_reducible refine (HN.out _ HF.out.b).mono ?_);rintro e w8 ⟨rfl,b2⟩;have HF:=Lh (HF.out.under b2);have HO:=Lh (HO.out.below b2);clear b2;have hw8:=HF.out.lt;have HLT:=Lh (fun k (hk:Value.ownBlock (.slice A s.length c)=some k)=>(HO.out.1.lt k hk).2);have HG:=Lh (Var.new w8 (gtE 0 0) 95 (c:=#[.slice none 0 0,.bool false,.slice none 0 0,.bool false,.slice none 0 0,.slice none 0 0,.slice none 0 0,.slice none 0 0,.string ⟨#[]⟩,.int .i64 0,.int .i64 0,.bool false,.bool false,.string ⟨#[]⟩,.int .i64 0,.int .i64 0,.slice none 0 0,.int .i64 0,.int .i64 0]) rfl);have HF:=Lh (HF.out.under (bRf.alloc nLe (.cells #[.slice none 0 0,.bool false,.slice none 0 0,.bool false,.slice none 0 0,.slice none 0 0,.slice none 0 0,.slice none 0 0,.string ⟨#[]⟩,.int .i64 0,.int .i64 0,.bool false,.bool false,.string ⟨#[]⟩,.int .i64 0,.int .i64 0,.slice none 0 0,.int .i64 0,.int .i64 0] 95)));have HO:=Lh (HO.out.alloc (.cells #[.slice none 0 0,.bool false,.slice none 0 0,.bool false,.slice none 0 0,.slice none 0 0,.slice none 0 0,.slice none 0 0,.string ⟨#[]⟩,.int .i64 0,.int .i64 0,.bool false,.bool false,.string ⟨#[]⟩,.int .i64 0,.int .i64 0,.slice none 0 0,.int .i64 0,.int .i64 0] 95));dsimp only;refine Hid.out ?_)
        | fail)
       refine Lh ?_
       go_wp2_with (first
        | (refine Qa rfl 95 (.tmp 6) (.tmp 29) rfl (G:=w8.heap.size) (off:=0) rfl (us:=gtE (q':Int) r') HG.out rfl Qc (Nat.le_refl 19) (Qn _ _) ?_;intro w9 ht hs;have HG:=Lh (show Var w9 w8.heap.size (gtE (q':Int) r') from hs);have HF:=Lh (HF.out.set_n ht (by omega));have HO:=Lh (HO.out.turn ht fun k hk e=>by have:=HLT.out k hk;omega);clear ht hs;refine Hid.out ?_)
        | fail)
       obtain ⟨G,hG⟩:∃ G,w8.heap.size=G:=⟨_,rfl⟩
       have HG:Hid (Var w9 G (gtE (q':Int) r')):=Lh (by rw [← hG];exact HG.out)
       have j18:w9.cell? ⟨G,18,none⟩=some (.int .i64 r'):=HG.out.at 18 rfl
       rw [hG]
       clear hG
       refine Lh ?_
       go_wp2_with (first
        | (refine Qb rfl 95 (.tmp 6) rfl G 0 rfl (gtE (q':Int) r') HG.out.rg Try.underlying95 rfl Qc ?_)
        | (refine Qa rfl 95 (.tmp 4) (.tmp 33) rfl (G:=w.heap.size+1) (off:=0) rfl (us:=gtE (q':Int) r') HF.out.vo rfl Qc (Nat.le_refl 19) (Qn _ _) ?_;intro w90 ht hs;have HO:=Lh (HO.out.turn ht fun k hk e=>by have:=HO.out.block_ge k hk;omega);have HF:=Lh (HF.out.set_o (us:=gtE (q':Int) r') ht hs);clear ht hs)
        | fail)
       exact Qj 95 rfl rfl rfl HF.out.vo Try.underlying95 rfl Qc (Qje HE2.out HRR.out HF.out.b)
end Go.Proofs.Ytjoclbeoafeebaa
