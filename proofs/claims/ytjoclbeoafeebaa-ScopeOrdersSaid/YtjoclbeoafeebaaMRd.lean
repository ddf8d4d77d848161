import Derived.Test.YtjoclbeoafeebaaSq
import Derived.Test.YtjoclbeoafeebaaMRa
import Derived.Test.YtjoclbeoafeebaaMSs
set_option maxHeartbeats 6400000
set_option maxRecDepth 100000
namespace Go.Proofs.Ytjoclbeoafeebaa
set_option linter.unusedVariables false
set_option linter.unusedSimpArgs false
open Go.RowKit
theorem U2{R:Rw}{x:Nat×Int}(h:¬ x.2=0):pty R x=(0,x):=by unfold pty;rw [if_neg h]
theorem Yy{R:Rw}{x:Nat×Int}(h:¬ x.2=0):pmk R x=(An.nul,x):=by unfold pmk;rw [if_neg h]
theorem Qe0{R:Rw}{F:Nat}{x:Nat×Int}(h:¬ x.2=0):pex R F x=(Ex.nul,x):=by unfold pex;rw [if_neg h]
def Qbq(R:Rw)(F:Nat)(a:Int)(x:Nat×Int):St×(Nat×Int):=
 let y2:=pnm R x
 let y4:=pty R (mu R y2.2 [Qek])
 let y5:=pmk R y4.2
 (.mk 0 a y2.1 y4.1 y5.1 (Qc3 R F y5.2).1 [] [],(Qc3 R F y5.2).2)
theorem letU_eq(R:Rw)(F:Nat)(a:Int)(x:Nat×Int):letS R F a x=Qbq R F a (mu R x [wLet]):=rfl
theorem Qb3{R:Rw}{F:Nat}{x:Nat×Int}(h:¬ x.2=0):Qc3 R F x=(Ex.nul,x):=by
 unfold Qc3
 rw [Y9 h,Qe0 h]
 dsimp only
 rw [Y9 h]
section
variable {R:Rw} {F:Nat} {a:Int} {x y:Nat×Int} {v2:ByteArray} {v4:Int} {v5:An}
theorem letU_1(h:pnm R x=(v2,y))(hy:¬ y.2=0):(Qbq R F a x).2=y:=by
 unfold Qbq
 rw [h]
 dsimp only
 rw [Y9 hy,U2 hy]
 dsimp only
 rw [Yy hy]
 dsimp only
 rw [Qb3 hy]
theorem letU_2{q2:Nat}(h:pnm R x=(v2,(q2,0)))(h3:mu R (q2,0) [Qek]=y)(hy:¬ y.2=0):(Qbq R F a x).2=y:=by
 unfold Qbq
 rw [h]
 dsimp only
 rw [h3,U2 hy]
 dsimp only
 rw [Yy hy]
 dsimp only
 rw [Qb3 hy]
theorem letU_3{q2 q3:Nat}(h:pnm R x=(v2,(q2,0)))(h3:mu R (q2,0) [Qek]=(q3,0))(h4:pty R (q3,0)=(v4,y))(hy:¬ y.2=0):(Qbq R F a x).2=y:=by
 unfold Qbq
 rw [h]
 dsimp only
 rw [h3,h4]
 dsimp only
 rw [Yy hy]
 dsimp only
 rw [Qb3 hy]
theorem letU_4{q2 q3 q4:Nat}(h:pnm R x=(v2,(q2,0)))(h3:mu R (q2,0) [Qek]=(q3,0))(h4:pty R (q3,0)=(v4,(q4,0)))(h5:pmk R (q4,0)=(v5,y)):Qbq R F a x=(.mk 0 a v2 v4 v5 (Qc3 R F y).1 [] [],(Qc3 R F y).2):=by
 unfold Qbq
 rw [h]
 dsimp only
 rw [h3,h4]
 dsimp only
 rw [h5]
end
def LtUTo(X:Ry)(L:St×(Nat×Int))(w:World)(e:Ending)(w':World):Prop:=
 ∃ lv,e=.returned (.agg (Qam L.1 ⟨lv,Qk,Qk⟩ L.2).toArray)∧lv.oneCell'=true∧(L.2.2=0→Shx w' (fun b=>w.heap.size≤b) lv L.1.e.l)∧Below w.heap.size w w'
theorem Qkp(R:Rw)(p:Nat):tyS R p=if tyI R p<0 then (0,(p,11)) else (tyI R p,(p+1,0)):=by
 unfold tyS tyI
 by_cases h1:R.is p lInt=true
 ·rw [if_pos h1,if_pos h1,if_neg (by omega)]
 ·rw [if_neg h1,if_neg h1]
  by_cases h2:R.is p Qkd=true
  ·rw [if_pos h2,if_pos h2,if_neg (by omega)]
  ·rw [if_neg h2,if_neg h2,if_pos (by omega)]
theorem Qmq{R:Rw}(hR:R.Ok){p:Nat}(h:¬ tyI R p<0):p<R.n:=by
 unfold tyI at h
 by_cases h1:R.is p lInt=true
 ·exact hR.is_lt h1
 ·rw [if_neg h1] at h
  by_cases h2:R.is p Qkd=true
  ·exact hR.is_lt h2
  ·rw [if_neg h2] at h;omega
theorem rLet_any(X:Ry)(hX:X.Fit)(hm:∀ i,(X.R.wd i).size≤1000000)(F:Nat)(hF:16*X.L.length+9≤F)(a:Int)(p:Nat)(w:World)(h:X.In w w.heap.size)(hp:p≤X.L.length) :
  CP 87 #[.agg (ryC X).toArray,.agg (stC (St.mk 0 a ⟨#[]⟩ 0 An.nul Ex.nul [] []) Tv.nul).toArray,.int .i64 (p:Int)] w (LtUTo X (Qbq X.R F a (p,0)) w):=by
 have hz:=K0
 have hzm:=Qmp
 have hln:=h.2.len
 have hok:=Qo X.T X.L
 have HIN:=Lh h
 have HAT0:Hid (∀ W,Below w.heap.size w W→CP 51 #[.agg (ryC X).toArray,.int .i64 (p:Int)] W fun e w'=>e=.returned (.string (X.R.wd p))∧Below W.heap.size W w'):=Lh fun W hW=>Qg X p W ((h.up hW nLe).more hW.size) (by omega)
 have HAT1:Hid (∀ W,Below w.heap.size w W→CP 51 #[.agg (ryC X).toArray,.int .i64 ((p:Int)+1)] W fun e w'=>e=.returned (.string (X.R.wd (p+1)))∧Below W.heap.size W w'):=Lh fun W hW=>Qg X (p+1) W ((h.up hW nLe).more hW.size) (by omega)
 have HTY:Hid (∀ W,Below w.heap.size w W→CP 66 #[.agg (ryC X).toArray,.int .i64 ((p:Int)+2)] W fun e w'=>e=.returned (.int .i64 (tyI X.R (p+2)))∧Below W.heap.size W w'):=Lh fun W hW=>Qco X (p+2) W ((h.up hW nLe).more hW.size) (by omega)
 have HID:Hid (∀ W,CP 45 #[.string (X.R.wd p)] W fun e w'=>e=.returned (.bool (X.R.idn p))∧Below W.heap.size W w'):=Lh fun W=>Q1 (X.R.wd p) W (hm _)
 have hfe:=Qb2 X w (St.mk 0 a ⟨#[]⟩ 0 An.nul Ex.nul [] []) Tv.nul (c1:=#[.string X.T,.slice X.A X.L.length X.c]) (c2:=#[.int .i64 0,.int .i64 a,.string ⟨#[]⟩,.int .i64 0,.bool false,.bool false,.string ⟨#[]⟩,.int .i64 0,.int .i64 0,.int .i64 0,.int .i64 0,.int .i64 0,.string ⟨#[]⟩,.string ⟨#[]⟩,.slice none 0 0,.slice none 0 0,.slice none 0 0]) (c3:=#[.int .i64 0,.int .i64 0,.string ⟨#[]⟩,.int .i64 0,.bool false,.bool false,.string ⟨#[]⟩,.int .i64 0,.int .i64 0,.int .i64 0,.int .i64 0,.int .i64 0,.string ⟨#[]⟩,.string ⟨#[]⟩,.slice none 0 0,.slice none 0 0,.slice none 0 0,.slice none 0 0,.int .i64 0,.int .i64 0]) rfl rfl rfl
 have HF:=Lh hfe
 obtain ⟨v2,hv2⟩:∃ v,X.R.wd p=v:=⟨_,rfl⟩
 obtain ⟨s1,hs1⟩:∃ v,X.R.wd (p+1)=v:=⟨_,rfl⟩
 have HV2:=Lh hv2
 have hC:X.R.is (p+1) [58]=(s1.toList==[58]):=by rw [← hs1];rfl
 rw [hv2] at HAT0 HID
 rw [hs1] at HAT1
 clear h hfe hs1 hv2
 show CP 87 #[.agg #[.string X.T,.slice X.A X.L.length X.c],.agg #[.int .i64 0,.int .i64 a,.string ⟨#[]⟩,.int .i64 0,.bool false,.bool false,.string ⟨#[]⟩,.int .i64 0,.int .i64 0,.int .i64 0,.int .i64 0,.int .i64 0,.string ⟨#[]⟩,.string ⟨#[]⟩,.slice none 0 0,.slice none 0 0,.slice none 0 0],.int .i64 (p:Int)] w _
 cases hid:X.R.idn p with
 | false =>
  rw [hid] at HID
  have HU:Hid ((Qbq X.R F a (p,0)).2=(p,11)):=Lh (letU_1 (v2:=⟨#[]⟩) (by unfold pnm nmS;rw [if_pos rfl,if_neg (by rw [hid];decide)]) (show ¬ (11:Int)=0 by decide))
  clear hC hid
  go_enter Try.func87,Try.ntmps87
  go_wp2_with (first
   | (refine Qb rfl 92 (.tmp 3) rfl w.heap.size 0 rfl (ryC X) HF.out.vr.rg Try.underlying92 rfl Qd ?_)
   | (go_at_call 51;(with_reducible refine (HAT0.out _ HF.out.b).mono ?_);rintro e w2 ⟨rfl,b2⟩;have HF:=Lh (HF.out.under b2);clear b2;dsimp only)
   | (refine Qr rfl 9 (.tmp 11) (.tmp 10) rfl (G:=w.heap.size+1) (off:=2) rfl (v:=.string v2) HF.out.vs rfl (by kernel_rfl) (by show 2<17;omega) rfl ?_;intro w3 ht hs;have HF:=Lh (HF.out.set_s (us:=stC (St.mk 0 a v2 0 An.nul Ex.nul [] []) Tv.nul) ht hs);clear ht hs;have k2:w3.cell? ⟨w.heap.size+1,2,none⟩=some (.string v2):=HF.out.vs.at 2 rfl;refine Hid.out ?_)
   | fail)
  refine Lh ?_
  go_wp2_with (first
   | (go_at_call 45;(with_reducible refine (HID.out _).mono ?_);rintro e w4 ⟨rfl,b2⟩;have HF:=Lh (HF.out.under b2);clear b2;dsimp only)
   | (refine Qa rfl 135 (.tmp 6) (.tmp 17) rfl (G:=w.heap.size+2) (off:=0) rfl (us:=gsC St.nul Tv.nul Qk ((p:Int)) (11)) HF.out.vo rfl Qh (Nat.le_refl 20) (Jh.nul.gs _ rfl _ _) ?_;intro w90 ht hs;have HF:=Lh (HF.out.set_o (us:=gsC St.nul Tv.nul Qk ((p:Int)) (11)) ht hs);clear ht hs)
   | fail)
  exact Qj 135 rfl rfl rfl HF.out.vo Try.underlying135 rfl Qh ⟨Qk,by rw [HU.out];exact (congrArg (fun l=>Ending.returned (.agg (List.toArray l))) (Kg (x:=(p,11)) (show ¬ (11:Int)=0 by decide)).symm),rfl,fun h=>absurd h (by rw [HU.out];exact (show ¬ (11:Int)=0 by decide)),HF.out.b⟩
 | true =>
  rw [hid] at HID
  have hpl:p<X.L.length:=hok.id_lt hid
  have hN:pnm X.R (p,0)=(v2,(p+1,0)):=by unfold pnm nmS;rw [if_pos rfl,if_pos hid,HV2.out]
  have hmu:mu X.R (p+1,0) [Qek]=if (s1.toList==[58])=true then (p+1+1,0) else (p+1,11):=by rw [← hC];exact Qhy X.R (p+1) 58 []
  cases hc:(s1.toList==[58]) with
  | false =>
   rw [hc,if_neg (by decide)] at hmu
   have HU:Hid ((Qbq X.R F a (p,0)).2=(p+1,11)):=Lh (letU_2 hN hmu (show ¬ (11:Int)=0 by decide))
   clear hC hid hN hmu
   go_enter Try.func87,Try.ntmps87
   go_wp2_with (first
    | (refine Qb rfl 92 (.tmp 3) rfl w.heap.size 0 rfl (ryC X) HF.out.vr.rg Try.underlying92 rfl Qd ?_)
    | (go_at_call 51;(with_reducible refine (HAT0.out _ HF.out.b).mono ?_);rintro e w2 ⟨rfl,b2⟩;have HF:=Lh (HF.out.under b2);clear b2;dsimp only)
    | (refine Qr rfl 9 (.tmp 11) (.tmp 10) rfl (G:=w.heap.size+1) (off:=2) rfl (v:=.string v2) HF.out.vs rfl (by kernel_rfl) (by show 2<17;omega) rfl ?_;intro w3 ht hs;have HF:=Lh (HF.out.set_s (us:=stC (St.mk 0 a v2 0 An.nul Ex.nul [] []) Tv.nul) ht hs);clear ht hs;have k2:w3.cell? ⟨w.heap.size+1,2,none⟩=some (.string v2):=HF.out.vs.at 2 rfl;refine Hid.out ?_)
    | fail)
   refine Lh ?_
   go_wp2_with (first
    | (refine Qb rfl 92 (.tmp 3) rfl w.heap.size 0 rfl (ryC X) HF.out.vr.rg Try.underlying92 rfl Qd ?_)
    | (go_at_call 51;(with_reducible refine (HAT1.out _ HF.out.b).mono ?_);rintro e w5 ⟨rfl,b2⟩;have HF:=Lh (HF.out.under b2);clear b2;dsimp only)
    | (go_at_call 45;(with_reducible refine (HID.out _).mono ?_);rintro e w4 ⟨rfl,b2⟩;have HF:=Lh (HF.out.under b2);clear b2;dsimp only)
    | (refine Qa rfl 135 (.tmp 6) (.tmp 25) rfl (G:=w.heap.size+2) (off:=0) rfl (us:=gsC St.nul Tv.nul Qk ((p:Int)+1) (11)) HF.out.vo rfl Qh (Nat.le_refl 20) (Jh.nul.gs _ rfl _ _) ?_;intro w90 ht hs;have HF:=Lh (HF.out.set_o (us:=gsC St.nul Tv.nul Qk ((p:Int)+1) (11)) ht hs);clear ht hs)
    | fail)
   exact Qj 135 rfl rfl rfl HF.out.vo Try.underlying135 rfl Qh ⟨Qk,by rw [HU.out];exact (congrArg (fun l=>Ending.returned (.agg (List.toArray l))) (Kg (x:=(p+1,11)) (show ¬ (11:Int)=0 by decide)).symm),rfl,fun h=>absurd h (by rw [HU.out];exact (show ¬ (11:Int)=0 by decide)),HF.out.b⟩
  | true =>
   rw [hc,if_pos rfl] at hmu
   obtain ⟨ty,hty⟩:∃ t,tyI X.R (p+2)=t:=⟨_,rfl⟩
   have hT:pty X.R (p+1+1,0)=if ty<0 then (0,(p+2,11)) else (ty,(p+2+1,0)):=by rw [← hty];exact Qkp X.R (p+2)
   have htl:¬ ty<0→p+2<X.L.length:=fun h=>Qmq hok (by rw [hty];exact h)
   rw [hty] at HTY
   by_cases ht0:ty<0
   ·rw [if_pos ht0] at hT
    have HU:Hid ((Qbq X.R F a (p,0)).2=(p+2,11)):=Lh (letU_3 hN hmu hT (show ¬ (11:Int)=0 by decide))
    clear hC hid hN hmu hT htl hty
    go_enter Try.func87,Try.ntmps87
    go_wp2_with (first
     | (refine Qb rfl 92 (.tmp 3) rfl w.heap.size 0 rfl (ryC X) HF.out.vr.rg Try.underlying92 rfl Qd ?_)
     | (go_at_call 51;(with_reducible refine (HAT0.out _ HF.out.b).mono ?_);rintro e w2 ⟨rfl,b2⟩;have HF:=Lh (HF.out.under b2);clear b2;dsimp only)
     | (refine Qr rfl 9 (.tmp 11) (.tmp 10) rfl (G:=w.heap.size+1) (off:=2) rfl (v:=.string v2) HF.out.vs rfl (by kernel_rfl) (by show 2<17;omega) rfl ?_;intro w3 ht hs;have HF:=Lh (HF.out.set_s (us:=stC (St.mk 0 a v2 0 An.nul Ex.nul [] []) Tv.nul) ht hs);clear ht hs;have k2:w3.cell? ⟨w.heap.size+1,2,none⟩=some (.string v2):=HF.out.vs.at 2 rfl;refine Hid.out ?_)
     | fail)
    refine Lh ?_
    go_wp2_with (first
     | (refine Qb rfl 92 (.tmp 3) rfl w.heap.size 0 rfl (ryC X) HF.out.vr.rg Try.underlying92 rfl Qd ?_)
     | (go_at_call 51;(with_reducible refine (HAT1.out _ HF.out.b).mono ?_);rintro e w5 ⟨rfl,b2⟩;have HF:=Lh (HF.out.under b2);clear b2;dsimp only)
     | (go_at_call 45;(with_reducible refine (HID.out _).mono ?_);rintro e w4 ⟨rfl,b2⟩;have HF:=Lh (HF.out.under b2);clear b2;dsimp only)
     | (go_at_call 66;(with_reducible refine (HTY.out _ HF.out.b).mono ?_);rintro e w6 ⟨rfl,b2⟩;have HF:=Lh (HF.out.under b2);clear b2;dsimp only)
     | (refine Qr rfl 3 (.tmp 30) (.tmp 29) rfl (G:=w.heap.size+1) (off:=3) rfl (v:=.int .i64 ty) HF.out.vs rfl (by kernel_rfl) (by show 3<17;omega) rfl ?_;intro w7 ht hs;have HF:=Lh (HF.out.set_s (us:=stC (St.mk 0 a v2 ty An.nul Ex.nul [] []) Tv.nul) ht hs);clear ht hs;have k3:w7.cell? ⟨w.heap.size+1,3,none⟩=some (.int .i64 ty):=HF.out.vs.at 3 rfl;refine Hid.out ?_)
     | fail)
    refine Lh ?_
    go_wp2_with (first
     | (refine Qa rfl 135 (.tmp 6) (.tmp 36) rfl (G:=w.heap.size+2) (off:=0) rfl (us:=gsC St.nul Tv.nul Qk ((p:Int)+2) (11)) HF.out.vo rfl Qh (Nat.le_refl 20) (Jh.nul.gs _ rfl _ _) ?_;intro w90 ht hs;have HF:=Lh (HF.out.set_o (us:=gsC St.nul Tv.nul Qk ((p:Int)+2) (11)) ht hs);clear ht hs)
     | fail)
    exact Qj 135 rfl rfl rfl HF.out.vo Try.underlying135 rfl Qh ⟨Qk,by rw [HU.out];exact (congrArg (fun l=>Ending.returned (.agg (List.toArray l))) (Kg (x:=(p+2,11)) (show ¬ (11:Int)=0 by decide)).symm),rfl,fun h=>absurd h (by rw [HU.out];exact (show ¬ (11:Int)=0 by decide)),HF.out.b⟩
   ·rw [if_neg ht0] at hT
    have hpl3:=htl ht0
    obtain ⟨m,hmm⟩:∃ m,Yz X.R (p+2+1)=m:=⟨_,rfl⟩
    have hM:pmk X.R (p+2+1,0)=(m.1,m.2):=by unfold pmk;rw [if_pos rfl,hmm]
    have hU:=letU_4 (F:=F) (a:=a) hN hmu hT hM
    have hmup:=Qds hok (x:=(p+2+1,0)) (by show p+2+1≤X.L.length;omega)
    rw [hM] at hmup
    have hmn:m.2.1≤X.L.length:=hmup.n
    have HMK:Hid (∀ W,Below w.heap.size w W→CP 67 #[.agg (ryC X).toArray,.int .i64 ((p:Int)+3)] W fun e w'=>e=.returned (.agg (mkC m).toArray)∧Below W.heap.size W w'):=Lh fun W hW=>by
     have:=Qhz X hm (p+2) (by omega) W ((HIN.out.up hW nLe).more hW.size)
     rw [hmm,show ((p+2:Nat):Int)+1=(p:Int)+3 by omega] at this
     exact this
    have HST:Hid (∀ W,Below w.heap.size w W→CP 90 #[.agg (ryC X).toArray,.agg (stC (St.mk 0 a v2 ty m.1 Ex.nul [] []) Tv.nul).toArray,.int .i64 (m.2.1:Int)] W (SetTo X (St.mk 0 a v2 ty m.1 Ex.nul [] []) Tv.nul (Qc3 X.R F (m.2.1,0)) W)):=Lh fun W hW=>Qjb X hX F hF (St.mk 0 a v2 ty m.1 Ex.nul [] []) Tv.nul Jh.nul m.2.1 W ((HIN.out.up hW nLe).more hW.size) hmn
    have HU:=Lh hU
    clear hC hid hN hmu hT htl hty hM hU hmup hmm
    go_enter Try.func87,Try.ntmps87
    go_wp2_with (first
     | (refine Qb rfl 92 (.tmp 3) rfl w.heap.size 0 rfl (ryC X) HF.out.vr.rg Try.underlying92 rfl Qd ?_)
     | (go_at_call 51;(with_reducible refine (HAT0.out _ HF.out.b).mono ?_);rintro e w2 ⟨rfl,b2⟩;have HF:=Lh (HF.out.under b2);clear b2;dsimp only)
     | (refine Qr rfl 9 (.tmp 11) (.tmp 10) rfl (G:=w.heap.size+1) (off:=2) rfl (v:=.string v2) HF.out.vs rfl (by kernel_rfl) (by show 2<17;omega) rfl ?_;intro w3 ht hs;have HF:=Lh (HF.out.set_s (us:=stC (St.mk 0 a v2 0 An.nul Ex.nul [] []) Tv.nul) ht hs);clear ht hs;have k2:w3.cell? ⟨w.heap.size+1,2,none⟩=some (.string v2):=HF.out.vs.at 2 rfl;refine Hid.out ?_)
     | fail)
    refine Lh ?_
    go_wp2_with (first
     | (refine Qb rfl 92 (.tmp 3) rfl w.heap.size 0 rfl (ryC X) HF.out.vr.rg Try.underlying92 rfl Qd ?_)
     | (go_at_call 51;(with_reducible refine (HAT1.out _ HF.out.b).mono ?_);rintro e w5 ⟨rfl,b2⟩;have HF:=Lh (HF.out.under b2);clear b2;dsimp only)
     | (go_at_call 45;(with_reducible refine (HID.out _).mono ?_);rintro e w4 ⟨rfl,b2⟩;have HF:=Lh (HF.out.under b2);clear b2;dsimp only)
     | (go_at_call 66;(with_reducible refine (HTY.out _ HF.out.b).mono ?_);rintro e w6 ⟨rfl,b2⟩;have HF:=Lh (HF.out.under b2);clear b2;dsimp only)
     | (refine Qr rfl 3 (.tmp 30) (.tmp 29) rfl (G:=w.heap.size+1) (off:=3) rfl (v:=.int .i64 ty) HF.out.vs rfl (by kernel_rfl) (by show 3<17;omega) rfl ?_;intro w7 ht hs;have HF:=Lh (HF.out.set_s (us:=stC (St.mk 0 a v2 ty An.nul Ex.nul [] []) Tv.nul) ht hs);clear ht hs;have k3:w7.cell? ⟨w.heap.size+1,3,none⟩=some (.int .i64 ty):=HF.out.vs.at 3 rfl;refine Hid.out ?_)
     | fail)
    refine Lh ?_
    go_wp2_with (first
     | (refine Qb rfl 92 (.tmp 3) rfl w.heap.size 0 rfl (ryC X) HF.out.vr.rg Try.underlying92 rfl Qd ?_)
     | (go_at_call 67;(with_reducible refine (HMK.out _ HF.out.b).mono ?_);rintro e w8 ⟨rfl,b2⟩;have HF:=Lh (HF.out.under b2);clear b2;have hw8:=HF.out.lt;have HG:=Lh (Var.new w8 (mkC (An.nul,(0,0))) 130 (c:=#[.bool false,.bool false,.string ⟨#[]⟩,.int .i64 0,.int .i64 0,.int .i64 0,.int .i64 0]) rfl);have HF:=Lh (HF.out.under (bRf.alloc nLe (.cells #[.bool false,.bool false,.string ⟨#[]⟩,.int .i64 0,.int .i64 0,.int .i64 0,.int .i64 0] 130)));dsimp only;refine Hid.out ?_)
     | fail)
    refine Lh ?_
    go_wp2_with (first
     | (refine Qa rfl 130 (.tmp 7) (.tmp 40) rfl (G:=w8.heap.size) (off:=0) rfl (us:=mkC m) HG.out rfl Zz (Nat.le_refl 7) (K1 m) ?_;intro w9 ht hs;have HG:=Lh (show Var w9 w8.heap.size (mkC m) from hs);have HF:=Lh (HF.out.set_n ht (by omega));clear ht hs;refine Hid.out ?_)
     | fail)
    obtain ⟨G,hG⟩:∃ G,w8.heap.size=G:=⟨_,rfl⟩
    have HG:Hid (Var w9 G (mkC m)):=Lh (by rw [← hG];exact HG.out)
    have hGw:w.heap.size+2<G:=by omega
    have j5:w9.cell? ⟨G,5,none⟩=some (.int .i64 (m.2.1:Int)):=HG.out.at 5 rfl
    have j6:w9.cell? ⟨G,6,none⟩=some (.int .i64 m.2.2):=HG.out.at 6 rfl
    rw [hG]
    clear hG
    by_cases hr:m.2.2=0
    ·have hr1:(m.2.2==0)=true:=by simp [hr]
     have hr2:(m.2.2 != 0)=false:=by simp [hr]
     have hr3:decide (m.2.2=0)=true:=by simp [hr]
     refine Lh ?_
     go_wp2_with (first
      | (refine Qb rfl 73 (.tmp 49) rfl G 0 rfl (anC m.1) (Qbi HG.out.rg) Try.underlying73 rfl Qen ?_)
      | (refine Qa rfl 73 (.tmp 51) (.tmp 50) rfl (G:=w.heap.size+1) (off:=4) rfl (us:=anC m.1) HF.out.vs rfl Qen (by show 4+5≤17;omega) (Qhs m.1) ?_;intro w10 ht hs;have HF:=Lh (HF.out.set_s (us:=stC (St.mk 0 a v2 ty m.1 Ex.nul [] []) Tv.nul) ht hs);have HG:=Lh (HG.out.turn ht (by omega));clear ht hs j5 j6;have j5:w10.cell? ⟨G,5,none⟩=some (.int .i64 (m.2.1:Int)):=HG.out.at 5 rfl;refine Hid.out ?_)
      | fail)
     refine Lh ?_
     go_wp2_with (first
      | (refine Qb rfl 92 (.tmp 3) rfl w.heap.size 0 rfl (ryC X) HF.out.vr.rg Try.underlying92 rfl Qd ?_)
      | (refine Qb rfl 133 (.tmp 4) rfl (w.heap.size+1) 0 rfl (stC (St.mk 0 a v2 ty m.1 Ex.nul [] []) Tv.nul) HF.out.vs.rg Try.underlying133 rfl Jy ?_)
      | (go_at_call 90;(with_reducible refine (HST.out _ HF.out.b).mono ?_);rintro e w11 ⟨lv,rfl,hone,hx,b2⟩;have hwx:=HF.out.lt;have HF:=Lh (HF.out.under b2);have HXX:=Lh hx;clear b2 hx;dsimp only;refine Hid.out ?_)
      | fail)
     obtain ⟨z,hz2⟩:∃ z,Qc3 X.R F (m.2.1,0)=z:=⟨_,rfl⟩
     have hto:Jh ⟨lv,Qk,Qk⟩:=⟨hone,rfl,rfl⟩
     have HXX:Hid (z.2.2=0→Shx w11 (fun b=>w.heap.size+2<b) lv z.1.l):=Lh (by rw [← hz2];exact fun h=>(HXX.out h).weak fun b hb _=>Nat.lt_of_lt_of_le hwx hb)
     have HU2:Hid (Qbq X.R F a (p,0)=((St.mk 0 a v2 ty m.1 Ex.nul [] []).setE z.1,z.2)):=Lh (by
      have hm2:m.2=(m.2.1,0):=by rw [← hr]
      have e:=HU.out
      rw [hm2,hz2] at e
      exact e)
     rw [hz2]
     clear HU hz2
     refine Lh ?_
     go_wp2_with (first
      | (refine Qa rfl 135 (.tmp 6) (.tmp 56) rfl (G:=w.heap.size+2) (off:=0) rfl (us:=Qam ((St.mk 0 a v2 ty m.1 Ex.nul [] []).setE z.1) ⟨lv,Qk,Qk⟩ z.2) HF.out.vo rfl (by rw [List.size_toArray,Q6];exact Qh) (by rw [Q6];exact Nat.le_refl 20) (Uc hto _) ?_;intro w90 ht hs;have HXX:=Lh (fun h=>(HXX.out h).turn (S':=fun b=>w.heap.size+2<b) ht (fun b hb _=>⟨hb,by omega⟩));have HF:=Lh (HF.out.set_o (us:=Qam ((St.mk 0 a v2 ty m.1 Ex.nul [] []).setE z.1) ⟨lv,Qk,Qk⟩ z.2) ht (by rw [Z8 _ _ (Q6 _ _ _)] at hs;exact hs));clear ht hs)
      | fail)
     exact Qj 135 rfl rfl rfl HF.out.vo Try.underlying135 rfl (by rw [Q6];exact Qh) ⟨lv,by rw [HU2.out],hone,by rw [HU2.out];exact fun h=>(HXX.out h).weak (fun b hb _=>by omega),HF.out.b⟩
    ·have hr1:(m.2.2==0)=false:=by simp [hr]
     have hr2:(m.2.2 != 0)=true:=by simp [hr]
     have hr3:decide (m.2.2=0)=false:=by simp [hr]
     have HU2:Hid ((Qbq X.R F a (p,0)).2=m.2):=Lh (by rw [HU.out,Qb3 hr])
     refine Lh ?_
     go_wp2_with (first
      | (refine Qa rfl 135 (.tmp 6) (.tmp 48) rfl (G:=w.heap.size+2) (off:=0) rfl (us:=gsC St.nul Tv.nul Qk ((m.2.1:Int)) (m.2.2)) HF.out.vo rfl Qh (Nat.le_refl 20) (Jh.nul.gs _ rfl _ _) ?_;intro w90 ht hs;have HF:=Lh (HF.out.set_o (us:=gsC St.nul Tv.nul Qk ((m.2.1:Int)) (m.2.2)) ht hs);clear ht hs)
      | fail)
     exact Qj 135 rfl rfl rfl HF.out.vo Try.underlying135 rfl Qh ⟨Qk,by rw [Kg (by rw [HU2.out];exact hr),HU2.out],rfl,fun h=>absurd h (by rw [HU2.out];exact hr),HF.out.b⟩
theorem TrS.nul'(w:World)(S:Nat→Prop):TrS w S St.nul Tv.nul:=⟨.nil,.nil,.nil⟩
theorem TrS.tv1{w:World}{S:Nat→Prop}{s:St}{tv:Tv}(h:TrS w S s tv):Jh tv:=⟨h.e.one,h.l.one,h.r.one⟩
def Qdy(g:Gs)(w:World)(e:Ending)(w':World):Prop:=
 ∃ tv lv,e=.returned (.agg (gsC g.s tv lv (g.p:Int) g.r).toArray)∧TrS w' (fun b=>w.heap.size≤b) g.s tv∧ShS w' (fun b=>w.heap.size≤b) lv g.l∧Below w.heap.size w w'
def dOk(d:Int):Prop:=-9223372036854775808≤d∧d≤9223372036854775807
def Qe1(X:Ry)(F f:Nat):Prop:=∀ (p:Nat) (d:Int) (w:World),p≤X.L.length→X.In w w.heap.size→dOk d→3*(X.L.length-p)+1≤f →
  CP 95 #[.agg (ryC X).toArray,.int .i64 (p:Int),.int .i64 d] w (Qdy (rs X.R F f .blk p d) w)
def RRowC(X:Ry)(F f:Nat):Prop:=∀ (p:Nat) (d:Int) (w:World),p≤X.L.length→X.In w w.heap.size→dOk d→3*(X.L.length-p)+3≤f →
  CP 69 #[.agg (ryC X).toArray,.int .i64 (p:Int),.int .i64 d] w (Qdy (rs X.R F f (.row []) p d) w)
def RStC(X:Ry)(F f:Nat):Prop:=∀ (p:Nat) (d:Int) (w:World),p≤X.L.length→X.In w w.heap.size→dOk d→3*(X.L.length-p)+2≤f →
  CP 79 #[.agg (ryC X).toArray,.int .i64 (p:Int),.int .i64 d] w (Qdy (rs X.R F f .st p d) w)
theorem Ud{R:Rw}{F:Nat}:∀ (f:Nat) (acc:List St) (p:Nat) (d:Int),(rs R F f (.row acc) p d).s=St.nul
 | 0,_,_,_=>rfl
 | f+1,acc,p,d=>by
  rw [Qdt]
  split
  ·rfl
  ·split
   ·exact Ud f _ _ _
   ·rfl
theorem Qmr{R:Rw}{F:Nat}:∀ (f:Nat) (m:Ms) (p:Nat) (d:Int),¬ (rs R F f m p d).r=0→(rs R F f m p d).l=[]
 | 0,m,_,_,_=>by cases m <;> rfl
 | f+1,.row acc,p,d,h=>by
  rw [Qdt] at h ⊢
  split at h
  ·exact absurd rfl h
  ·rename_i h1
   rw [if_neg h1]
   split at h
   ·rename_i h2
    rw [if_pos h2]
    exact Qmr f _ _ _ h
   ·rename_i h2
    rw [if_neg h2]
    rfl
 | f+1,.blk,p,d,h=>by
  rw [Qdu] at h ⊢
  split at h
  ·rename_i h1
   rw [if_pos h1]
   split at h
   ·rename_i h2;rw [if_pos h2];rfl
   ·rename_i h2
    rw [if_neg h2]
    split at h
    ·rename_i h3
     rw [if_pos h3]
     split at h
     ·exact absurd rfl h
     ·rename_i h4;rw [if_neg h4];rfl
    ·rename_i h3;rw [if_neg h3];rfl
  ·rename_i h1;rw [if_neg h1];rfl
 | f+1,.st,p,d,h=>by
  rw [Qke]
  repeat' split
  all_goals rfl
theorem Qgk{R:Rw}(hR:R.Ok){F:Nat}:∀ (f:Nat) (m:Ms) (p:Nat) (d:Int),p≤R.n→(rs R F f m p d).p≤R.n:=by
 intro f
 induction f with
 | zero =>
  intro m p d hp
  have:rs R F 0 m p d=Kr p 99:=by cases m <;> rfl
  rw [this];exact hp
 | succ f ih =>
  intro m p d hp
  cases m with
  | row acc =>
   rw [Qdt]
   have h1:=ih .st p d hp
   split
   ·exact hp
   ·split
    ·exact ih _ _ _ h1
    ·exact h1
  | blk =>
   rw [Qdu]
   split
   ·rename_i hb
    have h1:=ih (.row []) (p+1) (d+1) (hR.is_lt hb)
    split
    ·exact hp
    ·split
     ·split
      ·rename_i hk;exact hR.is_lt hk
      ·exact h1
     ·exact h1
   ·exact hp
  | st =>
   rw [Qke]
   have hu:(hdS R F p).2.1≤R.n:=(Ql6 hR F hp).n
   have h1:=ih .blk (hdS R F p).2.1 d hu
   split
   ·split
    ·split
     ·split
      ·rename_i he
       have h2:=ih .blk ((rs R F f .blk (hdS R F p).2.1 d).p+1) d (hR.is_lt he.2)
       split
       ·exact h2
       ·exact h2
      ·exact h1
     ·exact h1
    ·exact hu
   ·exact hu
theorem Kh(X:Ry)(w:World):Fm X w ((w.alloc (.cells #[.string X.T,.slice X.A X.L.length X.c] 92)).alloc (.cells z20 135)) (gsC St.nul Tv.nul Qk 0 0):=by
 have e1:(w.alloc (.cells #[.string X.T,.slice X.A X.L.length X.c] 92)).heap.size=w.heap.size+1:=by simp
 have v2:=Var.new (w.alloc (.cells #[.string X.T,.slice X.A X.L.length X.c] 92)) (gsC St.nul Tv.nul Qk 0 0) 135 (c:=#[.int .i64 0,.int .i64 0,.string ⟨#[]⟩,.int .i64 0,.bool false,.bool false,.string ⟨#[]⟩,.int .i64 0,.int .i64 0,.int .i64 0,.int .i64 0,.int .i64 0,.string ⟨#[]⟩,.string ⟨#[]⟩,.slice none 0 0,.slice none 0 0,.slice none 0 0,.slice none 0 0,.int .i64 0,.int .i64 0]) rfl
 rw [e1] at v2
 exact ⟨(Var.new w (ryC X) 92 rfl).under bAl,v2,((Below.refl _ w).alloc nLe _).alloc (by simp) _⟩
theorem Fm.lt{X:Ry}{w W:World}{os:List Value}(h:Fm X w W os):w.heap.size+1<W.heap.size:=h.vo.lt
theorem Fm.set_n{X:Ry}{w W W':World}{os:List Value}{G:Nat}(h:Fm X w W os)(ht:Tn (fun k=>k=G) W W')(hG:w.heap.size+1<G):Fm X w W' os:=
 ⟨h.vr.turn ht (by omega),h.vo.turn ht (by omega),h.b.trans (ht.below h.b.size fun k hk e=>by omega)⟩
theorem Qh0(X:Ry)(F f:Nat)(hRow:RRowC X F f):Qe1 X F (f+1):=by
 intro p d w hp h hd hf
 obtain ⟨hd1,hd2⟩:=hd
 have hz:=K0
 have hln:=h.2.len
 have hok:=Qo X.T X.L
 have HIN:=Lh h
 have HAT:Hid (∀ W,Below w.heap.size w W→CP 51 #[.agg (ryC X).toArray,.int .i64 (p:Int)] W fun e w'=>e=.returned (.string (X.R.wd p))∧Below W.heap.size W w'):=Lh fun W hW=>Qg X p W ((h.up hW nLe).more hW.size) (by omega)
 have HF:=Lh (Kh X w)
 obtain ⟨sg,hg⟩:∃ g,X.R.wd p=g:=⟨_,rfl⟩
 have hC:X.R.is p [123]=(sg.toList==[123]):=by rw [← hg];rfl
 rw [hg] at HAT
 have hrb:=Qdu (R:=X.R) (F:=F) (f:=f) (p:=p) (d:=d)
 rw [hC] at hrb
 clear h hg
 show CP 95 #[.agg #[.string X.T,.slice X.A X.L.length X.c],.int .i64 (p:Int),.int .i64 d] w _
 cases hc:(sg.toList==[123]) with
 | false =>
  rw [hc,if_neg (by decide)] at hrb
  have HU:=Lh hrb
  clear hrb hC
  go_enter Try.func95,Try.ntmps95
  go_wp2_with (first
   | (refine Qb rfl 92 (.tmp 3) rfl w.heap.size 0 rfl (ryC X) HF.out.vr.rg Try.underlying92 rfl Qd ?_)
   | (go_at_call 51;(with_reducible refine (HAT.out _ HF.out.b).mono ?_);rintro e w2 ⟨rfl,b2⟩;have HF:=Lh (HF.out.under b2);clear b2;dsimp only)
   | (refine Qa rfl 135 (.tmp 6) (.tmp 13) rfl (G:=w.heap.size+1) (off:=0) rfl (us:=gsC St.nul Tv.nul Qk ((p:Int)) (11)) HF.out.vo rfl Qh (Nat.le_refl 20) (Jh.nul.gs _ rfl _ _) ?_;intro w90 ht hs;have HF:=Lh (HF.out.set_o (us:=gsC St.nul Tv.nul Qk ((p:Int)) (11)) ht hs);clear ht hs)
   | fail)
  exact Qj 135 rfl rfl rfl HF.out.vo Try.underlying135 rfl Qh ⟨Tv.nul,Qk,by rw [HU.out];rfl,by rw [HU.out];exact TrS.nul' _ _,by rw [HU.out];exact .nil,HF.out.b⟩
 | true =>
  have hpl:p<X.L.length:=hok.is_lt (show X.R.is p [123]=true by rw [hC,hc])
  rw [hc,if_pos rfl] at hrb
  by_cases h32:32≤d
  ·rw [if_pos h32] at hrb
   have HU:=Lh hrb
   clear hrb hC
   go_enter Try.func95,Try.ntmps95
   go_wp2_with (first
    | (refine Qb rfl 92 (.tmp 3) rfl w.heap.size 0 rfl (ryC X) HF.out.vr.rg Try.underlying92 rfl Qd ?_)
    | (go_at_call 51;(with_reducible refine (HAT.out _ HF.out.b).mono ?_);rintro e w2 ⟨rfl,b2⟩;have HF:=Lh (HF.out.under b2);clear b2;dsimp only)
    | (refine Qa rfl 135 (.tmp 6) (.tmp 17) rfl (G:=w.heap.size+1) (off:=0) rfl (us:=gsC St.nul Tv.nul Qk ((p:Int)) (12)) HF.out.vo rfl Qh (Nat.le_refl 20) (Jh.nul.gs _ rfl _ _) ?_;intro w90 ht hs;have HF:=Lh (HF.out.set_o (us:=gsC St.nul Tv.nul Qk ((p:Int)) (12)) ht hs);clear ht hs)
    | fail)
   exact Qj 135 rfl rfl rfl HF.out.vo Try.underlying135 rfl Qh ⟨Tv.nul,Qk,by rw [HU.out];rfl,by rw [HU.out];exact TrS.nul' _ _,by rw [HU.out];exact .nil,HF.out.b⟩
  ·rw [if_neg h32] at hrb
   have hw1:IntKind.i64.wrap (d+1)=d+1:=IntWalk.i64_in _ (by omega)
   obtain ⟨g,hgg⟩:∃ g,rs X.R F f (.row []) (p+1) (d+1)=g:=⟨_,rfl⟩
   have hgs:g.s=St.nul:=by rw [← hgg];exact Ud f _ _ _
   have hgp:g.p≤X.L.length:=by rw [← hgg];exact Qgk hok f _ _ _ hpl
   have HRW:Hid (∀ W,Below w.heap.size w W→CP 69 #[.agg (ryC X).toArray,.int .i64 ((p:Int)+1),.int .i64 (d+1)] W (Qdy g W)):=Lh fun W hW=>by
    rw [← hgg]
    exact hRow (p+1) (d+1) W (by omega) ((HIN.out.up hW nLe).more hW.size) ⟨by omega,by omega⟩ (by omega)
   have HAT2:Hid (∀ W,Below w.heap.size w W→CP 51 #[.agg (ryC X).toArray,.int .i64 (g.p:Int)] W fun e w'=>e=.returned (.string (X.R.wd g.p))∧Below W.heap.size W w'):=Lh fun W hW=>Qg X g.p W ((HIN.out.up hW nLe).more hW.size) (by omega)
   rw [hgg] at hrb
   have HU:=Lh hrb
   have HGS:=Lh hgs
   have HNL:Hid (¬ g.r=0→g.l=[]):=Lh (by rw [← hgg];exact Qmr f (.row []) (p+1) (d+1))
   clear hrb hC hgg hgs hRow
   go_enter Try.func95,Try.ntmps95
   go_wp2_with (first
    | (refine Qb rfl 92 (.tmp 3) rfl w.heap.size 0 rfl (ryC X) HF.out.vr.rg Try.underlying92 rfl Qd ?_)
    | (go_at_call 51;(with_reducible refine (HAT.out _ HF.out.b).mono ?_);rintro e w2 ⟨rfl,b2⟩;have HF:=Lh (HF.out.under b2);clear b2;dsimp only)
    | (go_at_call 69;(with_reducible refine (HRW.out _ HF.out.b).mono ?_);rintro e w3 ⟨tv,lv,rfl,htr,hsh,b2⟩;have hwx:=HF.out.lt;have HF:=Lh (HF.out.under b2);have HTR:=Lh (htr.weak (S':=fun b=>w.heap.size+1<b∧b≠w3.heap.size) (fun b hb h2=>⟨Nat.lt_of_lt_of_le hwx hb,Nat.ne_of_lt h2⟩));have HSH:=Lh (hsh.weak (S':=fun b=>w.heap.size+1<b∧b≠w3.heap.size) (fun b hb h2=>⟨Nat.lt_of_lt_of_le hwx hb,Nat.ne_of_lt h2⟩));have hw3:=HF.out.lt;have hto:=htr.tv1;have hone:=hsh.one;have HG:=Lh (Var.new w3 (gsC St.nul Tv.nul Qk 0 0) 135 (c:=#[.int .i64 0,.int .i64 0,.string ⟨#[]⟩,.int .i64 0,.bool false,.bool false,.string ⟨#[]⟩,.int .i64 0,.int .i64 0,.int .i64 0,.int .i64 0,.int .i64 0,.string ⟨#[]⟩,.string ⟨#[]⟩,.slice none 0 0,.slice none 0 0,.slice none 0 0,.slice none 0 0,.int .i64 0,.int .i64 0]) rfl);have HF:=Lh (HF.out.under (bRf.alloc nLe (.cells z20 135)));have HTR:=Lh (HTR.out.turn (Tn.alloc (fun _=>False) _ (.cells z20 135)) (fun b hb _=>⟨hb,fun h=>h⟩));have HSH:=Lh (HSH.out.under (bRf.alloc nLe (.cells z20 135)));clear b2 htr hsh;dsimp only;refine Hid.out ?_)
    | fail)
   refine Lh ?_
   go_wp2_with (first
    | (refine Qa rfl 135 (.tmp 7) (.tmp 23) rfl (G:=w3.heap.size) (off:=0) rfl (us:=gsC g.s tv lv (g.p:Int) g.r) HG.out rfl Qh (Nat.le_refl 20) (hto.gs _ hone _ _) ?_;intro w4 ht hs;have HG:=Lh (show Var w4 w3.heap.size (gsC g.s tv lv (g.p:Int) g.r) from hs);have HTR:=Lh (HTR.out.turn (S':=fun b=>w.heap.size+1<b∧b≠w3.heap.size) ht (fun b hb _=>⟨hb,hb.2⟩));have HSH:=Lh (HSH.out.turn (S':=fun b=>w.heap.size+1<b∧b≠w3.heap.size) ht (fun b hb _=>⟨hb,hb.2⟩));have HF:=Lh (HF.out.set_n ht (by omega));clear ht hs;refine Hid.out ?_)
    | fail)
   obtain ⟨G,hG⟩:∃ G,w3.heap.size=G:=⟨_,rfl⟩
   have HTR:Hid (TrS w4 (fun b=>w.heap.size+1<b∧b≠G) g.s tv):=Lh (by rw [← hG];exact HTR.out)
   have HSH:Hid (ShS w4 (fun b=>w.heap.size+1<b∧b≠G) lv g.l):=Lh (by rw [← hG];exact HSH.out)
   have HG:Hid (Var w4 G (gsC g.s tv lv (g.p:Int) g.r)):=Lh (by rw [← hG];exact HG.out)
   have hGw:w.heap.size+1<G:=by omega
   have k18:w4.cell? ⟨G,18,none⟩=some (.int .i64 (g.p:Int)):=HG.out.at 18 rfl
   have k19:w4.cell? ⟨G,19,none⟩=some (.int .i64 g.r):=HG.out.at 19 rfl
   rw [hG]
   clear hG
   by_cases hr:g.r=0
   ·have hr1:(g.r==0)=true:=by simp [hr]
    have hr2:(g.r != 0)=false:=by simp [hr]
    have hr3:decide (g.r=0)=true:=by simp [hr]
    obtain ⟨sk,hk⟩:∃ s,X.R.wd g.p=s:=⟨_,rfl⟩
    have hK:X.R.is g.p [125]=(sk.toList==[125]):=by rw [← hk];rfl
    have hU:=HU.out
    rw [if_pos hr,hK] at hU
    rw [hk] at HAT2
    clear HU hk hK
    cases hc2:(sk.toList==[125]) with
    | false =>
     rw [hc2,if_neg (by decide)] at hU
     have HU:=Lh hU
     clear hU
     refine Lh ?_
     go_wp2_with (first
      | (refine Qb rfl 92 (.tmp 3) rfl w.heap.size 0 rfl (ryC X) HF.out.vr.rg Try.underlying92 rfl Qd ?_)
      | (go_at_call 51;(with_reducible refine (HAT2.out _ HF.out.b).mono ?_);rintro e w5 ⟨rfl,b2⟩;have HF:=Lh (HF.out.under b2);have HG:=Lh (HG.out.under b2);have k18:=(show w5.cell? ⟨G,18,none⟩=some (.int .i64 (g.p:Int)) from HG.out.at 18 rfl);clear b2;dsimp only)
      | (refine Qa rfl 135 (.tmp 6) (.tmp 35) rfl (G:=w.heap.size+1) (off:=0) rfl (us:=gsC St.nul Tv.nul Qk ((g.p:Int)) (11)) HF.out.vo rfl Qh (Nat.le_refl 20) (Jh.nul.gs _ rfl _ _) ?_;intro w90 ht hs;have HF:=Lh (HF.out.set_o (us:=gsC St.nul Tv.nul Qk ((g.p:Int)) (11)) ht hs);clear ht hs)
      | fail)
     exact Qj 135 rfl rfl rfl HF.out.vo Try.underlying135 rfl Qh ⟨Tv.nul,Qk,by rw [HU.out];rfl,by rw [HU.out];exact TrS.nul' _ _,by rw [HU.out];exact .nil,HF.out.b⟩
    | true =>
     rw [hc2,if_pos rfl] at hU
     have HU:=Lh hU
     clear hU
     have hz18:w4.cell? ⟨G,18,none⟩=some (.int .i64 (g.p:Int)):=k18
     refine Lh ?_
     go_wp2_with (first
      | (refine Qb rfl 92 (.tmp 3) rfl w.heap.size 0 rfl (ryC X) HF.out.vr.rg Try.underlying92 rfl Qd ?_)
      | (go_at_call 51;(with_reducible refine (HAT2.out _ HF.out.b).mono ?_);rintro e w5 ⟨rfl,b2⟩;have HF:=Lh (HF.out.under b2);have HG:=Lh (HG.out.under b2);have HTR:=Lh (HTR.out.turn (S':=fun b=>w.heap.size+1<b∧b≠G) (Tn.of_below (fun _=>False) b2) (fun b hb _=>⟨hb,fun h=>h⟩));have HSH:=Lh (HSH.out.under b2);have k18:=(show w5.cell? ⟨G,18,none⟩=some (.int .i64 (g.p:Int)) from HG.out.at 18 rfl);clear b2;dsimp only)
      | (refine Qr rfl 3 (.tmp 39) (.tmp 38) rfl (G:=G) (off:=18) rfl (v:=.int .i64 ((g.p:Int)+1)) HG.out rfl (by kernel_rfl) (by show 18<20;omega) rfl ?_;intro w6 ht hs;have HG:=Lh (show Var w6 G (gsC g.s tv lv ((g.p:Int)+1) g.r) from hs);have HTR:=Lh (HTR.out.turn (S':=fun b=>w.heap.size+1<b∧b≠G) ht (fun b hb _=>⟨hb,hb.2⟩));have HSH:=Lh (HSH.out.turn (S':=fun b=>w.heap.size+1<b∧b≠G) ht (fun b hb _=>⟨hb,hb.2⟩));have HF:=Lh (HF.out.set_n ht (by omega));clear ht hs;refine Hid.out ?_)
      | fail)
     refine Lh ?_
     go_wp2_with (first
      | (refine Qb rfl 135 (.tmp 7) rfl G 0 rfl (gsC g.s tv lv ((g.p:Int)+1) g.r) HG.out.rg Try.underlying135 rfl Qh ?_)
      | (refine Qa rfl 135 (.tmp 6) (.tmp 40) rfl (G:=w.heap.size+1) (off:=0) rfl (us:=gsC g.s tv lv ((g.p:Int)+1) g.r) HF.out.vo rfl Qh (Nat.le_refl 20) (hto.gs _ hone _ _) ?_;intro w90 ht hs;have HTR:=Lh (HTR.out.turn (S':=fun b=>w.heap.size+1<b∧b≠G) ht (fun b hb _=>⟨hb,by omega⟩));have HSH:=Lh (HSH.out.turn (S':=fun b=>w.heap.size+1<b∧b≠G) ht (fun b hb _=>⟨hb,by omega⟩));have HF:=Lh (HF.out.set_o (us:=gsC g.s tv lv ((g.p:Int)+1) g.r) ht hs);clear ht hs)
      | fail)
     exact Qj 135 rfl rfl rfl HF.out.vo Try.underlying135 rfl Qh ⟨tv,lv,by rw [HU.out,hr,HGS.out];rfl,by rw [HU.out];have:=HTR.out.weak (S':=fun b=>w.heap.size≤b) (fun b hb _=>by omega);rw [HGS.out] at this;exact this,by rw [HU.out];exact HSH.out.weak (fun b hb _=>by omega),HF.out.b⟩
   ·have hr1:(g.r==0)=false:=by simp [hr]
    have hr2:(g.r != 0)=true:=by simp [hr]
    have hr3:decide (g.r=0)=false:=by simp [hr]
    have hU:=HU.out
    rw [if_neg hr] at hU
    have HU:=Lh hU
    have hgn:g.l=[]:=HNL.out hr
    clear hU
    refine Lh ?_
    go_wp2_with (first
     | (refine Qb rfl 135 (.tmp 7) rfl G 0 rfl (gsC g.s tv lv (g.p:Int) g.r) HG.out.rg Try.underlying135 rfl Qh ?_)
     | (refine Qa rfl 135 (.tmp 6) (.tmp 27) rfl (G:=w.heap.size+1) (off:=0) rfl (us:=gsC g.s tv lv (g.p:Int) g.r) HF.out.vo rfl Qh (Nat.le_refl 20) (hto.gs _ hone _ _) ?_;intro w90 ht hs;have HTR:=Lh (HTR.out.turn (S':=fun b=>w.heap.size+1<b∧b≠G) ht (fun b hb _=>⟨hb,by omega⟩));have HSH:=Lh (HSH.out.turn (S':=fun b=>w.heap.size+1<b∧b≠G) ht (fun b hb _=>⟨hb,by omega⟩));have HF:=Lh (HF.out.set_o (us:=gsC g.s tv lv (g.p:Int) g.r) ht hs);clear ht hs)
     | fail)
    exact Qj 135 rfl rfl rfl HF.out.vo Try.underlying135 rfl Qh ⟨tv,lv,by rw [HU.out,HGS.out];rfl,by rw [HU.out];have:=HTR.out.weak (S':=fun b=>w.heap.size≤b) (fun b hb _=>by omega);rw [HGS.out] at this;exact this,by rw [HU.out];have:=HSH.out.weak (S':=fun b=>w.heap.size≤b) (fun b hb _=>by omega);rw [hgn] at this;exact this,HF.out.b⟩
def Qe2(R:Rw)(F:Nat)(k a:Int)(x:Nat×Int):St×(Nat×Int):=
 (.mk k a ⟨#[]⟩ 0 An.nul (pex R F (mu R x [Qc9])).1 [] [],mu R (pex R F (mu R x [Qc9])).2 [Qda])
def stB(R:Rw)(F f:Nat)(h:St×(Nat×Int))(d:Int):Gs:=
 if h.2.2=0 then
  if (rs R F f .blk h.2.1 d).r=0 then
   if h.1.k=2∧R.is (rs R F f .blk h.2.1 d).p Qfz=true then
    if (rs R F f .blk ((rs R F f .blk h.2.1 d).p+1) d).r=0 then Yn ((h.1.setL (rs R F f .blk h.2.1 d).l).setR (rs R F f .blk ((rs R F f .blk h.2.1 d).p+1) d).l) [] (rs R F f .blk ((rs R F f .blk h.2.1 d).p+1) d).p
    else Kr (rs R F f .blk ((rs R F f .blk h.2.1 d).p+1) d).p (rs R F f .blk ((rs R F f .blk h.2.1 d).p+1) d).r
   else Yn (h.1.setL (rs R F f .blk h.2.1 d).l) [] (rs R F f .blk h.2.1 d).p
  else Kr (rs R F f .blk h.2.1 d).p (rs R F f .blk h.2.1 d).r
 else Kr h.2.1 h.2.2
theorem Qh1{R:Rw}{F f:Nat}{h:St×(Nat×Int)}{d:Int}{p:Nat}{r:Int}(hh:h.2=(p,r))(hr:¬ r=0):stB R F f h d=Kr p r:=by
 unfold stB
 rw [hh,if_neg hr]
theorem Qa5{R:Rw}{F:Nat}:∀ (f:Nat) (p:Nat) (d:Int),(rs R F f .blk p d).s=St.nul
 | 0,_,_=>rfl
 | f+1,p,d=>by
  rw [Qdu]
  repeat' split
  all_goals rfl
theorem Qms{R:Rw}{F f:Nat}{p:Nat}{d:Int}(h:¬ (rs R F f .blk p d).r=0):rs R F f .blk p d=Kr (rs R F f .blk p d).p (rs R F f .blk p d).r:=by
 have h1:=Qa5 (R:=R) (F:=F) f p d
 have h2:=Qmr f .blk p d h
 obtain ⟨g,hg⟩:∃ g,rs R F f .blk p d=g:=⟨_,rfl⟩
 rw [hg] at h1 h2 ⊢
 obtain ⟨s,l,p,r⟩:=g
 dsimp only at h1 h2
 subst h1 h2
 rfl
theorem Qcp(X:Ry)(hX:X.Fit)(F f:Nat)(hF:16*X.L.length+9≤F)(hBlk:Qe1 X F f)(k a:Int)(hk23:k=2∨k=3)(p:Nat)(d:Int)(w:World)(hp:p≤X.L.length)(h:X.In w w.heap.size)(hd:dOk d)(hf:3*(X.L.length-p)+1≤f) :
  CP 88 #[.agg (ryC X).toArray,.agg (stC (St.mk k a ⟨#[]⟩ 0 An.nul Ex.nul [] []) Tv.nul).toArray,.int .i64 (p:Int),.int .i64 d] w (Qdy (stB X.R F f (Qe2 X.R F k a (p,0)) d) w):=by
 have hz:=K0
 have hzg:=Q2
 have hln:=h.2.len
 have hok:=Qo X.T X.L
 have HIN:=Lh h
 have HAT:Hid (∀ W,Below w.heap.size w W→CP 51 #[.agg (ryC X).toArray,.int .i64 (p:Int)] W fun e w'=>e=.returned (.string (X.R.wd p))∧Below W.heap.size W w'):=Lh fun W hW=>Qg X p W ((h.up hW nLe).more hW.size) (by omega)
 have HATG:Hid (∀ (q:Nat) W,q≤X.L.length→Below w.heap.size w W→CP 51 #[.agg (ryC X).toArray,.int .i64 (q:Int)] W fun e w'=>e=.returned (.string (X.R.wd q))∧Below W.heap.size W w'):=Lh fun q W hq hW=>Qg X q W ((HIN.out.up hW nLe).more hW.size) (by omega)
 have HBG:Hid (∀ (q:Nat) W,q≤X.L.length→p≤q→Below w.heap.size w W→CP 95 #[.agg (ryC X).toArray,.int .i64 (q:Int),.int .i64 d] W (Qdy (rs X.R F f .blk q d) W)):=Lh fun q W hq hpq hW=>hBlk q d W hq ((HIN.out.up hW nLe).more hW.size) hd (by omega)
 obtain ⟨sg,hg⟩:∃ g,X.R.wd p=g:=⟨_,rfl⟩
 have hE:mu X.R (p,0) [Qc9]=if (sg.toList==[40])=true then (p+1,0) else (p,11):=by rw [← hg];exact Qhy X.R p 40 []
 have hlt:(sg.toList==[40])=true→p<X.L.length:=fun he=>hok.is_lt (show X.R.is p [40]=true by unfold Rw.is;rw [hg];exact he)
 rw [hg] at HAT
 have hfe:=Qb2 X w (St.mk k a ⟨#[]⟩ 0 An.nul Ex.nul [] []) Tv.nul (c1:=#[.string X.T,.slice X.A X.L.length X.c]) (c2:=#[.int .i64 k,.int .i64 a,.string ⟨#[]⟩,.int .i64 0,.bool false,.bool false,.string ⟨#[]⟩,.int .i64 0,.int .i64 0,.int .i64 0,.int .i64 0,.int .i64 0,.string ⟨#[]⟩,.string ⟨#[]⟩,.slice none 0 0,.slice none 0 0,.slice none 0 0]) (c3:=#[.int .i64 0,.int .i64 0,.string ⟨#[]⟩,.int .i64 0,.bool false,.bool false,.string ⟨#[]⟩,.int .i64 0,.int .i64 0,.int .i64 0,.int .i64 0,.int .i64 0,.string ⟨#[]⟩,.string ⟨#[]⟩,.slice none 0 0,.slice none 0 0,.slice none 0 0,.slice none 0 0,.int .i64 0,.int .i64 0]) rfl rfl rfl
 have HF:=Lh hfe
 clear h hfe hg hBlk
 show CP 88 #[.agg #[.string X.T,.slice X.A X.L.length X.c],.agg #[.int .i64 k,.int .i64 a,.string ⟨#[]⟩,.int .i64 0,.bool false,.bool false,.string ⟨#[]⟩,.int .i64 0,.int .i64 0,.int .i64 0,.int .i64 0,.int .i64 0,.string ⟨#[]⟩,.string ⟨#[]⟩,.slice none 0 0,.slice none 0 0,.slice none 0 0],.int .i64 (p:Int),.int .i64 d] w _
 go_enter Try.func88,Try.ntmps88
 go_wp2_with (first
  | (refine Qq rfl 92 (.tmp 4) rfl w.heap.size 0 rfl (ryC X) HF.out.vr.rg Try.underlying92 rfl Qd ?_)
  | (go_at_call 51;(with_reducible refine (HAT.out _ HF.out.b).mono ?_);rintro e w2 ⟨rfl,b2⟩;have HF:=Lh (HF.out.under b2);clear b2;dsimp only;refine Hid.out ?_)
  | fail)
 cases hc:(sg.toList==[40]) with
 | false =>
  rw [hc,if_neg (by decide)] at hE
  have HU:=Lh (Qh1 (R:=X.R) (F:=F) (f:=f) (d:=d) (h:=Qe2 X.R F k a (p,0)) (p:=p) (r:=11) (by
   unfold Qe2
   rw [hE,Qe0 (show ¬ (11:Int)=0 by decide)]
   dsimp only
   rw [Y9 (show ¬ (11:Int)=0 by decide)]) (show ¬ (11:Int)=0 by decide))
  clear hE hlt
  refine Lh ?_
  go_wp2_with (first
   | (refine Qa rfl 135 (.tmp 8) (.tmp 16) rfl (G:=w.heap.size+2) (off:=0) rfl (us:=gsC St.nul Tv.nul Qk ((p:Int)) (11)) HF.out.vo rfl Qh (Nat.le_refl 20) (Jh.nul.gs _ rfl _ _) ?_;intro w90 ht hs;have HF:=Lh (HF.out.set_o (us:=gsC St.nul Tv.nul Qk ((p:Int)) (11)) ht hs);clear ht hs)
   | fail)
  exact Qj 135 rfl rfl rfl HF.out.vo Try.underlying135 rfl Qh ⟨Tv.nul,Qk,by rw [HU.out];rfl,by rw [HU.out];exact TrS.nul' _ _,by rw [HU.out];exact .nil,HF.out.b⟩
 | true =>
  have hpl:=hlt hc
  rw [hc,if_pos rfl] at hE
  obtain ⟨g,hgg⟩:∃ g,rd X.R F (.lev 1) (p+1) 0=g:=⟨_,rfl⟩
  have hS:Qe2 X.R F k a (p,0)=((St.mk k a ⟨#[]⟩ 0 An.nul g.e [] []),mu X.R (g.p,g.r) [Qda]):=by
   unfold Qe2 pex
   rw [hE]
   dsimp only
   rw [if_pos rfl]
   unfold exS
   rw [hgg]
  have hin:=Ko hok F (.lev 1) (p+1) 0 hpl (fun h=>by cases h)
  rw [hgg] at hin
  have hgp:g.p≤X.L.length:=hin.2.1
  have hgp1:p+1≤g.p:=hin.1
  have HEX:Hid (∀ W,Below w.heap.size w W→CP 70 #[.agg (ryC X).toArray,.int .i64 ((p:Int)+1),.int .i64 1,.int .i64 0] W (Yi W g)):=Lh fun W hW=>by
   rw [← hgg]
   exact (Kz X hX F).1 1 0 (p+1) W (by omega) (by omega) (by omega) (by omega) ((HIN.out.up hW nLe).more hW.size) (by omega)
  have HAT2:Hid (∀ W,Below w.heap.size w W→CP 51 #[.agg (ryC X).toArray,.int .i64 (g.p:Int)] W fun e w'=>e=.returned (.string (X.R.wd g.p))∧Below W.heap.size W w'):=Lh fun W hW=>HATG.out g.p W hgp hW
  clear hlt hE hgg hin
  refine Lh ?_
  go_wp2_with (first
   | (refine Qq rfl 92 (.tmp 4) rfl w.heap.size 0 rfl (ryC X) HF.out.vr.rg Try.underlying92 rfl Qd ?_)
   | (go_at_call 70;(with_reducible refine (HEX.out _ HF.out.b).mono ?_);rintro e w3 ⟨lv,rfl,hx,b3⟩;have hwx:=HF.out.lt;have HF:=Lh (HF.out.under b3);have hone:=hx.one;have HX:=Lh (hx.weak (S':=fun b=>w.heap.size+2<b∧b≠w3.heap.size) (fun b hb h2=>⟨Nat.lt_of_lt_of_le hwx hb,Nat.ne_of_lt h2⟩));have hw3:=HF.out.lt;have HG:=Lh (Var.new w3 (gC Ex.nul (.slice none 0 0) 0 0) 138 (c:=#[.int .i64 0,.int .i64 0,.int .i64 0,.string ⟨#[]⟩,.string ⟨#[]⟩,.slice none 0 0,.int .i64 0,.int .i64 0]) rfl);have HF:=Lh (HF.out.under (bRf.alloc nLe (.cells z8 138)));have HX:=Lh (HX.out.under (bRf.alloc nLe (.cells z8 138)) (fun b _ hb=>hb));clear hx b3;dsimp only;refine Hid.out ?_)
   | fail)
  refine Lh ?_
  go_wp2_with (first
   | (refine Qa rfl 138 (.tmp 9) (.tmp 20) rfl (G:=w3.heap.size) (off:=0) rfl (us:=gC g.e lv (g.p:Int) g.r) HG.out rfl Yu (Nat.le_refl 8) (Qdx hone) ?_;intro w4 ht hs;have HG:=Lh (show Var w4 w3.heap.size (gC g.e lv (g.p:Int) g.r) from hs);have HX:=Lh (HX.out.turn (S':=fun b=>w.heap.size+2<b∧b≠w3.heap.size) ht (fun b hb _=>⟨hb,hb.2⟩));have HF:=Lh (HF.out.set_n ht (by omega));clear ht hs;refine Hid.out ?_)
   | fail)
  obtain ⟨G9,hG⟩:∃ G,w3.heap.size=G:=⟨_,rfl⟩
  have HX:Hid (Shx w4 (fun b=>w.heap.size+2<b∧b≠G9) lv g.e.l):=Lh (by rw [← hG];exact HX.out)
  have HG:Hid (Var w4 G9 (gC g.e lv (g.p:Int) g.r)):=Lh (by rw [← hG];exact HG.out)
  have hGw:w.heap.size+2<G9:=by omega
  have k6:w4.cell? ⟨G9,6,none⟩=some (.int .i64 (g.p:Int)):=HG.out.at 6 rfl
  have k7:w4.cell? ⟨G9,7,none⟩=some (.int .i64 g.r):=HG.out.at 7 rfl
  rw [hG]
  clear hG
  by_cases hr:g.r=0
  ·have hr1:(g.r==0)=true:=by simp [hr]
   have hr2:(g.r != 0)=false:=by simp [hr]
   have hr3:decide (g.r=0)=true:=by simp [hr]
   obtain ⟨sk,hk⟩:∃ s,X.R.wd g.p=s:=⟨_,rfl⟩
   have hK:mu X.R (g.p,0) [Qda]=if (sk.toList==[41])=true then (g.p+1,0) else (g.p,11):=by rw [← hk];exact Qhy X.R g.p 41 []
   have hlt2:(sk.toList==[41])=true→g.p<X.L.length:=fun he=>hok.is_lt (show X.R.is g.p [41]=true by unfold Rw.is;rw [hk];exact he)
   rw [hk] at HAT2
   have hS2:Qe2 X.R F k a (p,0)=((St.mk k a ⟨#[]⟩ 0 An.nul g.e [] []),mu X.R (g.p,0) [Qda]):=by rw [hS,hr]
   clear hS hk
   refine Lh ?_
   go_wp2_with (first
    | (refine Qq rfl 92 (.tmp 4) rfl w.heap.size 0 rfl (ryC X) HF.out.vr.rg Try.underlying92 rfl Qd ?_)
    | (go_at_call 51;(with_reducible refine (HAT2.out _ HF.out.b).mono ?_);rintro e w5 ⟨rfl,b2⟩;have HF:=Lh (HF.out.under b2);have HG:=Lh (HG.out.under b2);have HX:=Lh (HX.out.turn (S':=fun b=>w.heap.size+2<b∧b≠G9) (Tn.of_below (fun _=>False) b2) (fun b hb _=>⟨hb,fun h=>h⟩));clear b2;dsimp only;refine Hid.out ?_)
    | fail)
   have k6:w5.cell? ⟨G9,6,none⟩=some (.int .i64 (g.p:Int)):=HG.out.at 6 rfl
   cases hc2:(sk.toList==[41]) with
   | false =>
    rw [hc2,if_neg (by decide)] at hK
    rw [hK] at hS2
    have HU:=Lh (Qh1 (R:=X.R) (F:=F) (f:=f) (d:=d) (h:=Qe2 X.R F k a (p,0)) (p:=g.p) (r:=11) (by rw [hS2]) (show ¬ (11:Int)=0 by decide))
    clear hK hlt2 hS2
    refine Lh ?_
    go_wp2_with (first
     | (refine Qa rfl 135 (.tmp 8) (.tmp 36) rfl (G:=w.heap.size+2) (off:=0) rfl (us:=gsC St.nul Tv.nul Qk ((g.p:Int)) (11)) HF.out.vo rfl Qh (Nat.le_refl 20) (Jh.nul.gs _ rfl _ _) ?_;intro w90 ht hs;have HF:=Lh (HF.out.set_o (us:=gsC St.nul Tv.nul Qk ((g.p:Int)) (11)) ht hs);clear ht hs)
     | fail)
    exact Qj 135 rfl rfl rfl HF.out.vo Try.underlying135 rfl Qh ⟨Tv.nul,Qk,by rw [HU.out];rfl,by rw [HU.out];exact TrS.nul' _ _,by rw [HU.out];exact .nil,HF.out.b⟩
   | true =>
    have hgl:=hlt2 hc2
    rw [hc2,if_pos rfl] at hK
    rw [hK] at hS2
    obtain ⟨b,hbb⟩:∃ b,rs X.R F f .blk (g.p+1) d=b:=⟨_,rfl⟩
    have hU:stB X.R F f (Qe2 X.R F k a (p,0)) d=if b.r=0 then
      (if k=2∧X.R.is b.p Qfz=true then
       (if (rs X.R F f .blk (b.p+1) d).r=0 then Yn (((St.mk k a ⟨#[]⟩ 0 An.nul g.e [] []).setL b.l).setR (rs X.R F f .blk (b.p+1) d).l) [] (rs X.R F f .blk (b.p+1) d).p else Kr (rs X.R F f .blk (b.p+1) d).p (rs X.R F f .blk (b.p+1) d).r)
      else Yn ((St.mk k a ⟨#[]⟩ 0 An.nul g.e [] []).setL b.l) [] b.p) else Kr b.p b.r:=by
     unfold stB
     rw [hS2]
     dsimp only
     rw [if_pos rfl,hbb]
     rfl
    have hbp:b.p≤X.L.length:=by rw [← hbb];exact Qgk hok f _ _ _ hgl
    have hbp1:b.r=0→g.p+1<b.p:=fun h=>by
     rw [← hbb] at h ⊢
     exact (rs_in (F:=F) hok f .blk (g.p+1) d hgl h).2.2 rfl
    have hbs:b.s=St.nul:=by rw [← hbb];exact Qa5 f _ _
    have hbn:¬ b.r=0→b=Kr b.p b.r:=fun h=>by rw [← hbb] at h ⊢;exact Qms h
    have HB1:Hid (∀ W,Below w.heap.size w W→CP 95 #[.agg (ryC X).toArray,.int .i64 ((g.p:Int)+1),.int .i64 d] W (Qdy b W)):=Lh fun W hW=>by
     have:=HBG.out (g.p+1) W hgl (by omega) hW
     rw [hbb] at this
     exact this
    have HU:=Lh hU
    have HBN:=Lh hbn
    have HBS:=Lh hbs
    have HBP:=Lh hbp1
    clear hK hlt2 hS2 hbb hU hbn hbs hbp1
    refine Lh ?_
    go_wp2_with (first
     | (refine Qb rfl 81 (.tmp 37) rfl G9 0 rfl (exC g.e lv) (Qbi HG.out.rg) Try.underlying81 rfl Z6 ?_)
     | (refine Qa rfl 81 (.tmp 39) (.tmp 38) rfl (G:=w.heap.size+1) (off:=9) rfl (us:=exC g.e lv) HF.out.vs rfl Z6 (by show 9+6≤17;omega) (Ym _ hone) ?_;intro w6 ht hs;have HF:=Lh (HF.out.set_s (us:=stC (St.mk k a ⟨#[]⟩ 0 An.nul g.e [] []) ⟨lv,Qk,Qk⟩) ht hs);have HX:=Lh (HX.out.turn (S':=fun b=>w.heap.size+2<b∧b≠G9) ht (fun b hb _=>⟨hb,by omega⟩));have HG:=Lh (HG.out.turn ht (by omega));clear ht hs k6 k7;have k6:w6.cell? ⟨G9,6,none⟩=some (.int .i64 (g.p:Int)):=HG.out.at 6 rfl;refine Hid.out ?_)
     | fail)
    refine Lh ?_
    go_wp2_with (first
     | (refine Qq rfl 92 (.tmp 4) rfl w.heap.size 0 rfl (ryC X) HF.out.vr.rg Try.underlying92 rfl Qd ?_)
     | (go_at_call 95;(with_reducible refine (HB1.out _ HF.out.b).mono ?_);rintro e w7 ⟨tb,lb,rfl,htr,hsh,b2⟩;have hwx:=HF.out.lt;have hG9:=HG.out.lt;have HF:=Lh (HF.out.under b2);have HTR:=Lh (htr.weak (S':=fun b=>w.heap.size+2<b∧b≠G9∧b≠w7.heap.size) (fun b hb h2=>⟨Nat.lt_of_lt_of_le hwx hb,(by have hb:_≤b:=hb;omega),Nat.ne_of_lt h2⟩));have HL:=Lh (hsh.weak (S':=fun b=>w.heap.size+2<b∧b≠G9∧b≠w7.heap.size) (fun b hb h2=>⟨Nat.lt_of_lt_of_le hwx hb,(by have hb:_≤b:=hb;omega),Nat.ne_of_lt h2⟩));have HX:=Lh ((HX.out.turn (S':=fun b=>w.heap.size+2<b∧b≠G9) (Tn.of_below (fun _=>False) b2) (fun b hb _=>⟨hb,fun h=>h⟩)).weak (S':=fun b=>w.heap.size+2<b∧b≠G9∧b≠w7.heap.size) (fun b hb h2=>⟨hb.1,hb.2,Nat.ne_of_lt h2⟩));have HG:=Lh (HG.out.under b2);have hw7:=HF.out.lt;have hG97:=HG.out.lt;have htb:=htr.tv1;have hlb:=hsh.one;have HG2:=Lh (Var.new w7 (gsC St.nul Tv.nul Qk 0 0) 135 (c:=#[.int .i64 0,.int .i64 0,.string ⟨#[]⟩,.int .i64 0,.bool false,.bool false,.string ⟨#[]⟩,.int .i64 0,.int .i64 0,.int .i64 0,.int .i64 0,.int .i64 0,.string ⟨#[]⟩,.string ⟨#[]⟩,.slice none 0 0,.slice none 0 0,.slice none 0 0,.slice none 0 0,.int .i64 0,.int .i64 0]) rfl);have HF:=Lh (HF.out.under (bRf.alloc nLe (.cells z20 135)));have HTR:=Lh (HTR.out.turn (Tn.alloc (fun _=>False) _ (.cells z20 135)) (fun b hb _=>⟨hb,fun h=>h⟩));have HL:=Lh (HL.out.under (bRf.alloc nLe (.cells z20 135)));have HX:=Lh (HX.out.under (bRf.alloc nLe (.cells z20 135)) (fun b _ hb=>hb));clear b2 htr hsh;dsimp only;refine Hid.out ?_)
     | fail)
    refine Lh ?_
    go_wp2_with (first
     | (refine Qa rfl 135 (.tmp 10) (.tmp 45) rfl (G:=w7.heap.size) (off:=0) rfl (us:=gsC b.s tb lb (b.p:Int) b.r) HG2.out rfl Qh (Nat.le_refl 20) (htb.gs _ hlb _ _) ?_;intro w8 ht hs;have HG2:=Lh (show Var w8 w7.heap.size (gsC b.s tb lb (b.p:Int) b.r) from hs);have HTR:=Lh (HTR.out.turn (S':=fun b=>w.heap.size+2<b∧b≠G9∧b≠w7.heap.size) ht (fun b hb _=>⟨hb,hb.2.2⟩));have HL:=Lh (HL.out.turn (S':=fun b=>w.heap.size+2<b∧b≠G9∧b≠w7.heap.size) ht (fun b hb _=>⟨hb,hb.2.2⟩));have HX:=Lh (HX.out.turn (S':=fun b=>w.heap.size+2<b∧b≠G9∧b≠w7.heap.size) ht (fun b hb _=>⟨hb,hb.2.2⟩));have HF:=Lh (HF.out.set_n ht (by omega));clear ht hs;refine Hid.out ?_)
     | fail)
    obtain ⟨G10,hG⟩:∃ G,w7.heap.size=G:=⟨_,rfl⟩
    have HX:Hid (Shx w8 (fun b=>w.heap.size+2<b∧b≠G9∧b≠G10) lv g.e.l):=Lh (by rw [← hG];exact HX.out)
    have HTR:Hid (TrS w8 (fun b=>w.heap.size+2<b∧b≠G9∧b≠G10) b.s tb):=Lh (by rw [← hG];exact HTR.out)
    have HL:Hid (ShS w8 (fun b=>w.heap.size+2<b∧b≠G9∧b≠G10) lb b.l):=Lh (by rw [← hG];exact HL.out)
    have HG2:Hid (Var w8 G10 (gsC b.s tb lb (b.p:Int) b.r)):=Lh (by rw [← hG];exact HG2.out)
    have hGw2:w.heap.size+2<G10:=by omega
    have hG910:G9<G10:=by omega
    have k17:w8.cell? ⟨G10,17,none⟩=some lb:=HG2.out.at 17 rfl
    have k18:w8.cell? ⟨G10,18,none⟩=some (.int .i64 (b.p:Int)):=HG2.out.at 18 rfl
    have k19:w8.cell? ⟨G10,19,none⟩=some (.int .i64 b.r):=HG2.out.at 19 rfl
    rw [hG]
    clear hG k6
    by_cases hbr:b.r=0
    ·have hb1:(b.r==0)=true:=by simp [hbr]
     have hb2:(b.r != 0)=false:=by simp [hbr]
     have hb3:decide (b.r=0)=true:=by simp [hbr]
     have hbp1:=HBP.out hbr
     have hU:=HU.out
     rw [if_pos hbr] at hU
     have HU:=Lh hU
     clear hU
     refine Lh ?_
     go_wp2_with (first
      | (refine Qr rfl 78 (.tmp 52) (.tmp 51) rfl (G:=w.heap.size+1) (off:=15) rfl (v:=lb) HF.out.vs rfl (by kernel_rfl) (by show 15<17;omega) hlb ?_;intro w9 ht hs;have HF:=Lh (HF.out.set_s (us:=stC ((St.mk k a ⟨#[]⟩ 0 An.nul g.e [] []).setL b.l) ⟨lv,lb,Qk⟩) ht hs);have HX:=Lh (HX.out.turn (S':=fun b=>w.heap.size+2<b∧b≠G9∧b≠G10) ht (fun b hb _=>⟨hb,by omega⟩));have HL:=Lh (HL.out.turn (S':=fun b=>w.heap.size+2<b∧b≠G9∧b≠G10) ht (fun b hb _=>⟨hb,by omega⟩));have HG2:=Lh (HG2.out.turn ht (by omega));clear ht hs k17 k18 k19;have k18:w9.cell? ⟨G10,18,none⟩=some (.int .i64 (b.p:Int)):=HG2.out.at 18 rfl;have s0:w9.cell? ⟨w.heap.size+1,0,none⟩=some (.int .i64 k):=HF.out.vs.at 0 rfl;refine Hid.out ?_)
      | fail)
     have hto2:Jh ⟨lv,lb,Qk⟩:=⟨hone,hlb,rfl⟩
     by_cases hk2:k=2
     ·have hq1:(k==2)=true:=by simp [hk2]
      have hq2:decide (k=2)=true:=by simp [hk2]
      have HK2:=Lh hk2
      clear hk2
      have HAT3:Hid (∀ W,Below w.heap.size w W→CP 51 #[.agg (ryC X).toArray,.int .i64 (b.p:Int)] W fun e w'=>e=.returned (.string (X.R.wd b.p))∧Below W.heap.size W w'):=Lh fun W hW=>HATG.out b.p W hbp hW
      obtain ⟨se,hse⟩:∃ s,X.R.wd b.p=s:=⟨_,rfl⟩
      have hEL:X.R.is b.p Qfz=(se.toList==[101,108,115,101]):=by rw [← hse];rfl
      rw [hse] at HAT3
      have hU:=HU.out
      rw [hEL] at hU
      clear hse
      refine Lh ?_
      go_wp2_with (first
       | (refine Qq rfl 92 (.tmp 4) rfl w.heap.size 0 rfl (ryC X) HF.out.vr.rg Try.underlying92 rfl Qd ?_)
       | (go_at_call 51;(with_reducible refine (HAT3.out _ HF.out.b).mono ?_);rintro e w10 ⟨rfl,b2⟩;have HF:=Lh (HF.out.under b2);have HG2:=Lh (HG2.out.under b2);have HX:=Lh (HX.out.turn (S':=fun b=>w.heap.size+2<b∧b≠G9∧b≠G10) (Tn.of_below (fun _=>False) b2) (fun b hb _=>⟨hb,fun h=>h⟩));have HL:=Lh (HL.out.turn (S':=fun b=>w.heap.size+2<b∧b≠G9∧b≠G10) (Tn.of_below (fun _=>False) b2) (fun b hb _=>⟨hb,fun h=>h⟩));clear b2;dsimp only;refine Hid.out ?_)
       | fail)
      have k18:w10.cell? ⟨G10,18,none⟩=some (.int .i64 (b.p:Int)):=HG2.out.at 18 rfl
      cases hce:(se.toList==[101,108,115,101]) with
      | false =>
       rw [hce,if_neg (by rintro ⟨_,h⟩;cases h)] at hU
       have HU:=Lh hU
       clear hU hEL
       refine Lh ?_
       go_wp2_with (first
        | (refine Qb rfl 133 (.tmp 5) rfl (w.heap.size+1) 0 rfl (stC ((St.mk k a ⟨#[]⟩ 0 An.nul g.e [] []).setL b.l) ⟨lv,lb,Qk⟩) HF.out.vs.rg Try.underlying133 rfl Jy ?_;simp only [stC])
        | (refine Qa rfl 135 (.tmp 8) (.tmp 79) rfl (G:=w.heap.size+2) (off:=0) rfl (us:=gsC ((St.mk k a ⟨#[]⟩ 0 An.nul g.e [] []).setL b.l) ⟨lv,lb,Qk⟩ Qk (b.p:Int) 0) HF.out.vo rfl Qh (Nat.le_refl 20) (hto2.gs _ rfl _ _) ?_;intro w90 ht hs;have HX:=Lh (HX.out.turn (S':=fun b=>w.heap.size+2<b∧b≠G9∧b≠G10) ht (fun b hb _=>⟨hb,by omega⟩));have HL:=Lh (HL.out.turn (S':=fun b=>w.heap.size+2<b∧b≠G9∧b≠G10) ht (fun b hb _=>⟨hb,by omega⟩));have HF:=Lh (HF.out.set_o (us:=gsC ((St.mk k a ⟨#[]⟩ 0 An.nul g.e [] []).setL b.l) ⟨lv,lb,Qk⟩ Qk (b.p:Int) 0) ht hs);clear ht hs)
        | fail)
       exact Qj 135 rfl rfl rfl HF.out.vo Try.underlying135 rfl Qh ⟨⟨lv,lb,Qk⟩,Qk,by rw [HU.out];rfl,by rw [HU.out];exact ⟨HX.out.weak (fun b hb _=>by omega),HL.out.weak (fun b hb _=>by omega),.nil⟩,by rw [HU.out];exact .nil,HF.out.b⟩
      | true =>
       have hbl:b.p<X.L.length:=hok.is_lt (show X.R.is b.p Qfz=true by rw [hEL,hce])
       obtain ⟨b2,hbb⟩:∃ b2,rs X.R F f .blk (b.p+1) d=b2:=⟨_,rfl⟩
       rw [hce,if_pos ⟨HK2.out,rfl⟩,hbb] at hU
       have hbp2:b2.p≤X.L.length:=by rw [← hbb];exact Qgk hok f _ _ _ hbl
       have hbs2:b2.s=St.nul:=by rw [← hbb];exact Qa5 f _ _
       have hbn2:¬ b2.r=0→b2=Kr b2.p b2.r:=fun h=>by rw [← hbb] at h ⊢;exact Qms h
       have HB2:Hid (∀ W,Below w.heap.size w W→CP 95 #[.agg (ryC X).toArray,.int .i64 ((b.p:Int)+1),.int .i64 d] W (Qdy b2 W)):=Lh fun W hW=>by
        have:=HBG.out (b.p+1) W hbl (by omega) hW
        rw [hbb] at this
        exact this
       have HU:=Lh hU
       have HBN2:=Lh hbn2
       have HBS2:=Lh hbs2
       clear hU hEL hbb hbn2 hbs2
       refine Lh ?_
       go_wp2_with (first
        | (refine Qq rfl 92 (.tmp 4) rfl w.heap.size 0 rfl (ryC X) HF.out.vr.rg Try.underlying92 rfl Qd ?_)
        | (go_at_call 95;(with_reducible refine (HB2.out _ HF.out.b).mono ?_);rintro e w11 ⟨tc,lc,rfl,htr,hsh,b2'⟩;have hwx:=HF.out.lt;have hG92:=HG2.out.lt;have hGlt:=(show G9<w10.heap.size by omega);have HF:=Lh (HF.out.under b2');have HTR:=Lh (htr.weak (S':=fun b=>w.heap.size+2<b∧b≠G9∧b≠G10) (fun b hb h2=>by have hb:_≤b:=hb;omega));have HR:=Lh (hsh.weak (S':=fun b=>w.heap.size+2<b∧b≠G9∧b≠G10) (fun b hb h2=>by have hb:_≤b:=hb;omega));have HX:=Lh (HX.out.turn (S':=fun b=>w.heap.size+2<b∧b≠G9∧b≠G10) (Tn.of_below (fun _=>False) b2') (fun b hb _=>⟨hb,fun h=>h⟩));have HL:=Lh (HL.out.turn (S':=fun b=>w.heap.size+2<b∧b≠G9∧b≠G10) (Tn.of_below (fun _=>False) b2') (fun b hb _=>⟨hb,fun h=>h⟩));have HG2:=Lh (HG2.out.under b2');have htc:=htr.tv1;have hlc:=hsh.one;clear b2' htr hsh;dsimp only;refine Hid.out ?_)
        | fail)
       refine Lh ?_
       go_wp2_with (first
        | (refine Qa rfl 135 (.tmp 10) (.tmp 68) rfl (G:=G10) (off:=0) rfl (us:=gsC b2.s tc lc (b2.p:Int) b2.r) HG2.out rfl Qh (Nat.le_refl 20) (htc.gs _ hlc _ _) ?_;intro w12 ht hs;have HG2:=Lh (show Var w12 G10 (gsC b2.s tc lc (b2.p:Int) b2.r) from hs);have HTR:=Lh (HTR.out.turn (S':=fun b=>w.heap.size+2<b∧b≠G9∧b≠G10) ht (fun b hb _=>⟨hb,hb.2.2⟩));have HX:=Lh (HX.out.turn (S':=fun b=>w.heap.size+2<b∧b≠G9∧b≠G10) ht (fun b hb _=>⟨hb,hb.2.2⟩));have HL:=Lh (HL.out.turn (S':=fun b=>w.heap.size+2<b∧b≠G9∧b≠G10) ht (fun b hb _=>⟨hb,hb.2.2⟩));have HR:=Lh (HR.out.turn (S':=fun b=>w.heap.size+2<b∧b≠G9∧b≠G10) ht (fun b hb _=>⟨hb,hb.2.2⟩));have HF:=Lh (HF.out.set_n ht (by omega));clear ht hs k18;refine Hid.out ?_)
        | fail)
       have k17:w12.cell? ⟨G10,17,none⟩=some lc:=HG2.out.at 17 rfl
       have k18:w12.cell? ⟨G10,18,none⟩=some (.int .i64 (b2.p:Int)):=HG2.out.at 18 rfl
       have k19:w12.cell? ⟨G10,19,none⟩=some (.int .i64 b2.r):=HG2.out.at 19 rfl
       by_cases hbr2:b2.r=0
       ·have hc1:(b2.r==0)=true:=by simp [hbr2]
        have hc2':(b2.r != 0)=false:=by simp [hbr2]
        have hc3:decide (b2.r=0)=true:=by simp [hbr2]
        have hU:=HU.out
        rw [if_pos hbr2] at hU
        have HU:=Lh hU
        have hto3:Jh ⟨lv,lb,lc⟩:=⟨hone,hlb,hlc⟩
        clear hU
        refine Lh ?_
        go_wp2_with (first
         | (refine Qr rfl 78 (.tmp 75) (.tmp 74) rfl (G:=w.heap.size+1) (off:=16) rfl (v:=lc) HF.out.vs rfl (by kernel_rfl) (by show 16<17;omega) hlc ?_;intro w13 ht hs;have HF:=Lh (HF.out.set_s (us:=stC (((St.mk k a ⟨#[]⟩ 0 An.nul g.e [] []).setL b.l).setR b2.l) ⟨lv,lb,lc⟩) ht hs);have HX:=Lh (HX.out.turn (S':=fun b=>w.heap.size+2<b∧b≠G9∧b≠G10) ht (fun b hb _=>⟨hb,by omega⟩));have HL:=Lh (HL.out.turn (S':=fun b=>w.heap.size+2<b∧b≠G9∧b≠G10) ht (fun b hb _=>⟨hb,by omega⟩));have HR:=Lh (HR.out.turn (S':=fun b=>w.heap.size+2<b∧b≠G9∧b≠G10) ht (fun b hb _=>⟨hb,by omega⟩));have HG2:=Lh (HG2.out.turn ht (by omega));clear ht hs k17 k18 k19;have k18:w13.cell? ⟨G10,18,none⟩=some (.int .i64 (b2.p:Int)):=HG2.out.at 18 rfl;refine Hid.out ?_)
         | fail)
        refine Lh ?_
        go_wp2_with (first
         | (refine Qb rfl 133 (.tmp 5) rfl (w.heap.size+1) 0 rfl (stC (((St.mk k a ⟨#[]⟩ 0 An.nul g.e [] []).setL b.l).setR b2.l) ⟨lv,lb,lc⟩) HF.out.vs.rg Try.underlying133 rfl Jy ?_;simp only [stC])
         | (refine Qa rfl 135 (.tmp 8) (.tmp 79) rfl (G:=w.heap.size+2) (off:=0) rfl (us:=gsC (((St.mk k a ⟨#[]⟩ 0 An.nul g.e [] []).setL b.l).setR b2.l) ⟨lv,lb,lc⟩ Qk (b2.p:Int) 0) HF.out.vo rfl Qh (Nat.le_refl 20) (hto3.gs _ rfl _ _) ?_;intro w90 ht hs;have HX:=Lh (HX.out.turn (S':=fun b=>w.heap.size+2<b∧b≠G9∧b≠G10) ht (fun b hb _=>⟨hb,by omega⟩));have HL:=Lh (HL.out.turn (S':=fun b=>w.heap.size+2<b∧b≠G9∧b≠G10) ht (fun b hb _=>⟨hb,by omega⟩));have HR:=Lh (HR.out.turn (S':=fun b=>w.heap.size+2<b∧b≠G9∧b≠G10) ht (fun b hb _=>⟨hb,by omega⟩));have HF:=Lh (HF.out.set_o (us:=gsC (((St.mk k a ⟨#[]⟩ 0 An.nul g.e [] []).setL b.l).setR b2.l) ⟨lv,lb,lc⟩ Qk (b2.p:Int) 0) ht hs);clear ht hs)
         | fail)
        exact Qj 135 rfl rfl rfl HF.out.vo Try.underlying135 rfl Qh ⟨⟨lv,lb,lc⟩,Qk,by rw [HU.out];rfl,by rw [HU.out];exact ⟨HX.out.weak (fun b hb _=>by omega),HL.out.weak (fun b hb _=>by omega),HR.out.weak (fun b hb _=>by omega)⟩,by rw [HU.out];exact .nil,HF.out.b⟩
       ·have hc1:(b2.r==0)=false:=by simp [hbr2]
        have hc2':(b2.r != 0)=true:=by simp [hbr2]
        have hc3:decide (b2.r=0)=false:=by simp [hbr2]
        have hU:=HU.out
        rw [if_neg hbr2,← HBN2.out hbr2] at hU
        have HU:=Lh hU
        clear hU
        refine Lh ?_
        go_wp2_with (first
         | (refine Qb rfl 135 (.tmp 10) rfl G10 0 rfl (gsC b2.s tc lc (b2.p:Int) b2.r) HG2.out.rg Try.underlying135 rfl Qh ?_)
         | (refine Qa rfl 135 (.tmp 8) (.tmp 72) rfl (G:=w.heap.size+2) (off:=0) rfl (us:=gsC b2.s tc lc (b2.p:Int) b2.r) HF.out.vo rfl Qh (Nat.le_refl 20) (htc.gs _ hlc _ _) ?_;intro w90 ht hs;have HTR:=Lh (HTR.out.turn (S':=fun b=>w.heap.size+2<b∧b≠G9∧b≠G10) ht (fun b hb _=>⟨hb,by omega⟩));have HR:=Lh (HR.out.turn (S':=fun b=>w.heap.size+2<b∧b≠G9∧b≠G10) ht (fun b hb _=>⟨hb,by omega⟩));have HF:=Lh (HF.out.set_o (us:=gsC b2.s tc lc (b2.p:Int) b2.r) ht hs);clear ht hs)
         | fail)
        exact Qj 135 rfl rfl rfl HF.out.vo Try.underlying135 rfl Qh ⟨tc,lc,by rw [HU.out],by rw [HU.out];exact HTR.out.weak (fun b hb _=>by omega),by rw [HU.out];exact HR.out.weak (fun b hb _=>by omega),HF.out.b⟩
     ·have hq1:(k==2)=false:=by simp [hk2]
      have hq2:decide (k=2)=false:=by simp [hk2]
      have hU:=HU.out
      rw [if_neg (by rintro ⟨h,_⟩;exact hk2 h)] at hU
      have HU:=Lh hU
      clear hU
      refine Lh ?_
      go_wp2_with (first
       | (refine Qb rfl 133 (.tmp 5) rfl (w.heap.size+1) 0 rfl (stC ((St.mk k a ⟨#[]⟩ 0 An.nul g.e [] []).setL b.l) ⟨lv,lb,Qk⟩) HF.out.vs.rg Try.underlying133 rfl Jy ?_;simp only [stC])
       | (refine Qa rfl 135 (.tmp 8) (.tmp 79) rfl (G:=w.heap.size+2) (off:=0) rfl (us:=gsC ((St.mk k a ⟨#[]⟩ 0 An.nul g.e [] []).setL b.l) ⟨lv,lb,Qk⟩ Qk (b.p:Int) 0) HF.out.vo rfl Qh (Nat.le_refl 20) (hto2.gs _ rfl _ _) ?_;intro w90 ht hs;have HX:=Lh (HX.out.turn (S':=fun b=>w.heap.size+2<b∧b≠G9∧b≠G10) ht (fun b hb _=>⟨hb,by omega⟩));have HL:=Lh (HL.out.turn (S':=fun b=>w.heap.size+2<b∧b≠G9∧b≠G10) ht (fun b hb _=>⟨hb,by omega⟩));have HF:=Lh (HF.out.set_o (us:=gsC ((St.mk k a ⟨#[]⟩ 0 An.nul g.e [] []).setL b.l) ⟨lv,lb,Qk⟩ Qk (b.p:Int) 0) ht hs);clear ht hs)
       | fail)
      exact Qj 135 rfl rfl rfl HF.out.vo Try.underlying135 rfl Qh ⟨⟨lv,lb,Qk⟩,Qk,by rw [HU.out];rfl,by rw [HU.out];exact ⟨HX.out.weak (fun b hb _=>by omega),HL.out.weak (fun b hb _=>by omega),.nil⟩,by rw [HU.out];exact .nil,HF.out.b⟩
    ·have hb1:(b.r==0)=false:=by simp [hbr]
     have hb2:(b.r != 0)=true:=by simp [hbr]
     have hb3:decide (b.r=0)=false:=by simp [hbr]
     have hU:=HU.out
     rw [if_neg hbr,← HBN.out hbr] at hU
     have HU:=Lh hU
     clear hU
     refine Lh ?_
     go_wp2_with (first
      | (refine Qb rfl 135 (.tmp 10) rfl G10 0 rfl (gsC b.s tb lb (b.p:Int) b.r) HG2.out.rg Try.underlying135 rfl Qh ?_)
      | (refine Qa rfl 135 (.tmp 8) (.tmp 49) rfl (G:=w.heap.size+2) (off:=0) rfl (us:=gsC b.s tb lb (b.p:Int) b.r) HF.out.vo rfl Qh (Nat.le_refl 20) (htb.gs _ hlb _ _) ?_;intro w90 ht hs;have HTR:=Lh (HTR.out.turn (S':=fun b=>w.heap.size+2<b∧b≠G9∧b≠G10) ht (fun b hb _=>⟨hb,by omega⟩));have HL:=Lh (HL.out.turn (S':=fun b=>w.heap.size+2<b∧b≠G9∧b≠G10) ht (fun b hb _=>⟨hb,by omega⟩));have HF:=Lh (HF.out.set_o (us:=gsC b.s tb lb (b.p:Int) b.r) ht hs);clear ht hs)
      | fail)
     exact Qj 135 rfl rfl rfl HF.out.vo Try.underlying135 rfl Qh ⟨tb,lb,by rw [HU.out],by rw [HU.out];exact HTR.out.weak (fun b hb _=>by omega),by rw [HU.out];exact HL.out.weak (fun b hb _=>by omega),HF.out.b⟩
  ·have hr1:(g.r==0)=false:=by simp [hr]
   have hr2:(g.r != 0)=true:=by simp [hr]
   have hr3:decide (g.r=0)=false:=by simp [hr]
   have HU:=Lh (Qh1 (R:=X.R) (F:=F) (f:=f) (d:=d) (h:=Qe2 X.R F k a (p,0)) (p:=g.p) (r:=g.r) (by rw [hS];exact Y9 hr _) hr)
   refine Lh ?_
   go_wp2_with (first
    | (refine Qa rfl 135 (.tmp 8) (.tmp 28) rfl (G:=w.heap.size+2) (off:=0) rfl (us:=gsC St.nul Tv.nul Qk ((g.p:Int)) (g.r)) HF.out.vo rfl Qh (Nat.le_refl 20) (Jh.nul.gs _ rfl _ _) ?_;intro w90 ht hs;have HF:=Lh (HF.out.set_o (us:=gsC St.nul Tv.nul Qk ((g.p:Int)) (g.r)) ht hs);clear ht hs)
    | fail)
   exact Qj 135 rfl rfl rfl HF.out.vo Try.underlying135 rfl Qh ⟨Tv.nul,Qk,by rw [HU.out];rfl,by rw [HU.out];exact TrS.nul' _ _,by rw [HU.out];exact .nil,HF.out.b⟩
end Go.Proofs.Ytjoclbeoafeebaa
