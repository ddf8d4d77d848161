import Derived.Test.YtjoclbeoafeebaaSq
import Derived.Test.YtjoclbeoafeebaaRfK
set_option maxHeartbeats 3200000
set_option maxRecDepth 100000
namespace Go.Proofs.Ytjoclbeoafeebaa
set_option linter.unusedVariables false
set_option linter.unusedSimpArgs false
open Go.RowKit
section
variable {R:Rw} {F f p:Nat} {m:MoT}
theorem Zj{a b:List UInt8}(h:R.is p a=true)(hne:a≠b):¬ R.is p b=true:=by rw [Zq h hne];decide
theorem Qm4(h:R.is p Qay=true):fit R F f m p=({ m with im:=m.im++[(fnm R (p+1,0)).1] },mu R (fnm R (p+1,0)).2 [Jr]):=by
 unfold fit
 rw [if_pos h,Q5 h]
theorem Qm5(h:R.is p Uo=true)(hh:m.hl=false):fit R F f m p=({ m with hl:=true,la:=(lns R (onP R) f m.la (p+1,0)).1 },(lns R (onP R) f m.la (p+1,0)).2):=by
 unfold fit
 rw [if_neg (Zj h (by decide)),if_pos h,if_neg (by rw [hh];decide),Q5 h]
theorem Qjg(h:R.is p Uo=true)(hh:m.hl=true):(fit R F f m p).2=(p,11):=by
 unfold fit
 rw [if_neg (Zj h (by decide)),if_pos h,if_pos hh,Jg (x:=(p,11)) (show ¬ (11:Int)=0 by decide)]
 unfold lns
 rw [Jg (x:=(p,11)) (show ¬ (11:Int)=0 by decide),Zs (show ¬ (11:Int)=0 by decide)]
theorem Qm6(h:R.is p Ut=true)(hh:m.he=false):fit R F f m p=({ m with he:=true,ef:=(lns R (onN R) f m.ef (p+1,0)).1 },(lns R (onN R) f m.ef (p+1,0)).2):=by
 unfold fit
 rw [if_neg (Zj h (by decide)),if_neg (Zj h (by decide)),if_pos h,if_neg (by rw [hh];decide),Q5 h]
theorem Qjh(h:R.is p Ut=true)(hh:m.he=true):(fit R F f m p).2=(p,11):=by
 unfold fit
 rw [if_neg (Zj h (by decide)),if_neg (Zj h (by decide)),if_pos h,if_pos hh,Jg (x:=(p,11)) (show ¬ (11:Int)=0 by decide)]
 unfold lns
 rw [Jg (x:=(p,11)) (show ¬ (11:Int)=0 by decide),Zs (show ¬ (11:Int)=0 by decide)]
theorem Qm7(h:R.is p Qa4=true):fit R F f m p=({ m with va:=m.va++[(fvr R (p+1,0)).1] },mu R (fvr R (p+1,0)).2 [Jr]):=by
 unfold fit
 rw [if_neg (Zj h (by decide)),if_neg (Zj h (by decide)),if_neg (Zj h (by decide)),if_pos h,Q5 h]
theorem fit_fn(h:R.is p lFn=true):fit R F f m p=({ m with fn:=m.fn++[(ffn R F f (p,0)).1] },(ffn R F f (p,0)).2):=by
 unfold fit
 rw [if_neg (Zj h (by decide)),if_neg (Zj h (by decide)),if_neg (Zj h (by decide)),if_neg (Zj h (by decide)),if_pos h]
theorem Qji(h0:R.is p Qay=false)(h1:R.is p Uo=false)(h2:R.is p Ut=false)(h3:R.is p Qa4=false)(h4:R.is p lFn=false):fit R F f m p=(m,(p,11)):=by
 unfold fit
 rw [if_neg (by rw [h0];decide),if_neg (by rw [h1];decide),if_neg (by rw [h2];decide),if_neg (by rw [h3];decide),if_neg (by rw [h4];decide)]
end
def RFnC(X:Ry)(F f:Nat):Prop:=∀ (p:Nat) (m:MoT) (v:MoV) (S:Nat→Prop) (w:World),(∀ b,S b→b<w.heap.size)→Zx w S m v→X.In w w.heap.size→p+1≤X.L.length→X.R.is p lFn=true→m.fn.length≤p →
 CP 54 #[.agg (ryC X).toArray,.agg (moC m.hl m.he v).toArray,.int .i64 ((p:Int)+1)] w (Qfj S ({ m with fn:=m.fn++[(ffn X.R F f (p,0)).1] },(ffn X.R F f (p,0)).2) w)
theorem Zp(z:MoT×(Nat×Int))(v:MoV):(mtC z v).length=19:=by unfold mtC;split <;> rfl
theorem Qe4{z:MoT×(Nat×Int)}{v:MoV}(h:∀ hl he,∀ u∈moC hl he v,u.oneCell'=true):∀ u∈mtC z v,u.oneCell'=true:=by
 unfold mtC
 split
 ·exact Zy _ _ (h _ _) rfl (Jj _) rfl
 ·exact Qn _ _
theorem Zx.turn{M S S':Nat→Prop}{w w':World}{m:MoT}{v:MoV}(h:Zx w S m v)(ht:Tn M w w')(hS:∀ b,S b→b<w.heap.size→S' b∧¬ M b):Zx w' S' m v:=
 h.keep fun b h1 h2=>⟨(hS b h1 h2).1,Nat.lt_of_lt_of_le h2 ht.size,ht.block b h2 (hS b h1 h2).2⟩
theorem item_lat(X:Ry)(hm:∀ i,(X.R.wd i).size≤1000000)(F f p:Nat)(m:MoT)(v:MoV)(S:Nat→Prop)(w:World)(hSw:∀ b,S b→b<w.heap.size)(hM:Zx w S m v)(h:X.In w w.heap.size)(hp:p<X.L.length)(hf:X.L.length<f)(hlm:m.la.length≤p)(h1:X.R.is p Uo=true)(h0:m.hl=false) :
  CP 37 #[.agg (ryC X).toArray,.agg (moC m.hl m.he v).toArray,.int .i64 (p:Int)] w (Qfj S (fit X.R F f m p) w):=by
 have hz:=Yp
 have hln:=h.2.len
 have hok:=Qo X.T X.L
 have HOK:=Lh hok
 have HSS:=Lh hSw
 have HMM:=Lh hM
 have HA0:Hid (∀ W,Below w.heap.size w W→CP 51 #[.agg (ryC X).toArray,.int .i64 (p:Int)] W fun e w'=>e=.returned (.string (X.R.wd p))∧Below W.heap.size W w'):=Lh fun W hW=>Qg X p W ((h.up hW nLe).more hW.size) (by omega)
 have HIN:=Lh h
 obtain ⟨s,hs⟩:∃ x,X.R.wd p=x:=⟨_,rfl⟩
 have g0:X.R.is p Qay=(s.toList==Qay):=by rw [← hs];rfl
 have g1:X.R.is p Uo=(s.toList==Uo):=by rw [← hs];rfl
 have g2:X.R.is p Ut=(s.toList==Ut):=by rw [← hs];rfl
 have g3:X.R.is p Qa4=(s.toList==Qa4):=by rw [← hs];rfl
 have g4:X.R.is p lFn=(s.toList==lFn):=by rw [← hs];rfl
 rw [hs] at HA0
 have t1:(s.toList==Uo)=true:=g1.symm.trans h1
 have h00:=h0
 have HX:=Lh (Qm5 (F:=F) (f:=f) h1 h0)
 have HC:Hid (∀ W,Below w.heap.size w W→CP 52 #[.agg (ryC X).toArray,.agg (moC m.hl m.he v).toArray,.int .i64 ((p:Int)+1)] W (Qfj S (fit X.R F f m p) W)):=Lh fun W hW=>by
  rw [HX.out]
  exact Qgp X hm f (p+1) m v S W (fun b hb=>Nat.lt_of_lt_of_le (HSS.out b hb) hW.size) (HMM.out.under hW) (by omega) ((HIN.out.up hW nLe).more hW.size) hp hf
 obtain ⟨Y,hY⟩:∃ Y,fit X.R F f m p=Y:=⟨_,rfl⟩
 rw [hY] at HC
 rw [hY]
 obtain ⟨hl,hhl⟩:∃ x,m.hl=x:=⟨_,rfl⟩
 obtain ⟨he,hhe⟩:∃ x,m.he=x:=⟨_,rfl⟩
 have HF:=Lh (Zv X w hl he v)
 have k1:(((w.alloc (.cells #[.string X.T,.slice X.A X.L.length X.c] 92)).alloc (.cells #[v.im,.bool hl,v.la,.bool he,v.ef,v.va,v.fn] 51)).alloc (.cells #[.slice none 0 0,.bool false,.slice none 0 0,.bool false,.slice none 0 0,.slice none 0 0,.slice none 0 0,.slice none 0 0,.string ⟨#[]⟩,.int .i64 0,.int .i64 0,.bool false,.bool false,.string ⟨#[]⟩,.int .i64 0,.int .i64 0,.slice none 0 0,.int .i64 0,.int .i64 0] 95)).cell? ⟨w.heap.size+1,1,none⟩=some (.bool hl):=HF.out.vm.at 1 rfl
 have HK:Hid (∀ W ms,F3 X w W (moC hl he v) ms→W.cell? ⟨w.heap.size+1,1,none⟩=some (.bool hl)∧W.cell? ⟨w.heap.size+1,3,none⟩=some (.bool he)):=Lh fun W ms h=>⟨h.vm.at 1 rfl,h.vm.at 3 rfl⟩
 rw [hhl,hhe] at HC
 rw [hhl] at h0 h00
 subst h0
 rw [hhl,hhe]
 show CP 37 #[.agg #[.string X.T,.slice X.A X.L.length X.c],.agg #[v.im,.bool false,v.la,.bool he,v.ef,v.va,v.fn],.int .i64 (p:Int)] w _
 clear hhl hhe hY HX hM h hSw hok hs g0 g1 g2 g3 g4 h1 hlm
 go_enter Try.func37,Try.ntmps37
 go_wp2_with (first
  | (refine Qb rfl 92 (.tmp 3) rfl w.heap.size 0 rfl (ryC X) HF.out.vr.rg Try.underlying92 rfl Qd ?_)
  | (go_at_call 51;(with_reducible refine (HA0.out _ HF.out.b).mono ?_);rintro e w2 ⟨rfl,b2⟩;have HF:=Lh (HF.out.under b2);clear b2;obtain ⟨k1,k3⟩:=HK.out _ _ HF.out;dsimp only)
  | (refine Qb rfl 51 (.tmp 4) rfl (w.heap.size+1) 0 rfl (moC false he v) HF.out.vm.rg Try.underlying51 rfl Q7 ?_)
  | (go_at_call 52;(with_reducible refine (HC.out _ HF.out.b).mono ?_);rintro e w2 ⟨v2,rfl,hone,hsh,b2⟩;have hwl:=HF.out.lt;have HF:=Lh (HF.out.under b2);have HSH:=Lh (fun e=>(hsh e).weak (S':=fun b=>(S b∨w.heap.size≤b)∧b≠w.heap.size+2) fun b hb h2=>(by rcases hb with hb | hb;have:=HSS.out b hb;exact ⟨.inl hb,by omega⟩;exact ⟨.inr (by omega),by omega⟩));have HONE:=Lh hone;clear b2 hsh hone;dsimp only)
  | (refine Qa rfl 95 (.tmp 6) (.tmp 23) rfl (G:=w.heap.size+2) (off:=0) rfl (us:=mtC Y v2) HF.out.vo rfl (by rw [List.size_toArray,Zp];exact Qc) (by rw [Zp];exact Nat.le_refl 19) (Qe4 HONE.out) ?_;intro w90 ht hs;have HSH:=Lh (fun e=>(HSH.out e).turn (S':=fun b=>S b∨w.heap.size≤b) ht fun b hb _=>⟨hb.1,hb.2⟩);have HF:=Lh (HF.out.set_o (us:=mtC Y v2) ht (by rw [Z8 _ _ (Zp _ _)] at hs;exact hs));clear ht hs)
  | fail)
 exact Qj 95 rfl rfl rfl HF.out.vo Try.underlying95 rfl (by rw [Zp];exact Qc) ⟨v2,rfl,HONE.out,HSH.out,HF.out.b⟩
theorem item_eff(X:Ry)(hm:∀ i,(X.R.wd i).size≤1000000)(F f p:Nat)(m:MoT)(v:MoV)(S:Nat→Prop)(w:World)(hSw:∀ b,S b→b<w.heap.size)(hM:Zx w S m v)(h:X.In w w.heap.size)(hp:p<X.L.length)(hf:X.L.length<f)(hlm:m.ef.length≤p)(h1:X.R.is p Ut=true)(h0:m.he=false) :
  CP 37 #[.agg (ryC X).toArray,.agg (moC m.hl m.he v).toArray,.int .i64 (p:Int)] w (Qfj S (fit X.R F f m p) w):=by
 have hz:=Yp
 have hln:=h.2.len
 have hok:=Qo X.T X.L
 have HOK:=Lh hok
 have HSS:=Lh hSw
 have HMM:=Lh hM
 have HA0:Hid (∀ W,Below w.heap.size w W→CP 51 #[.agg (ryC X).toArray,.int .i64 (p:Int)] W fun e w'=>e=.returned (.string (X.R.wd p))∧Below W.heap.size W w'):=Lh fun W hW=>Qg X p W ((h.up hW nLe).more hW.size) (by omega)
 have HIN:=Lh h
 obtain ⟨s,hs⟩:∃ x,X.R.wd p=x:=⟨_,rfl⟩
 have g0:X.R.is p Qay=(s.toList==Qay):=by rw [← hs];rfl
 have g1:X.R.is p Uo=(s.toList==Uo):=by rw [← hs];rfl
 have g2:X.R.is p Ut=(s.toList==Ut):=by rw [← hs];rfl
 have g3:X.R.is p Qa4=(s.toList==Qa4):=by rw [← hs];rfl
 have g4:X.R.is p lFn=(s.toList==lFn):=by rw [← hs];rfl
 rw [hs] at HA0
 have t1:(s.toList==Ut)=true:=g2.symm.trans h1
 have t0:(s.toList==Uo)=false:=g1.symm.trans (Zq h1 (by decide))
 have HX:=Lh (Qm6 (F:=F) (f:=f) h1 h0)
 have HC:Hid (∀ W,Below w.heap.size w W→CP 53 #[.agg (ryC X).toArray,.agg (moC m.hl m.he v).toArray,.int .i64 ((p:Int)+1)] W (Qfj S (fit X.R F f m p) W)):=Lh fun W hW=>by
  rw [HX.out]
  exact Qgo X hm f (p+1) m v S W (fun b hb=>Nat.lt_of_lt_of_le (HSS.out b hb) hW.size) (HMM.out.under hW) (by omega) ((HIN.out.up hW nLe).more hW.size) hp hf
 obtain ⟨Y,hY⟩:∃ Y,fit X.R F f m p=Y:=⟨_,rfl⟩
 rw [hY] at HC
 rw [hY]
 obtain ⟨hl,hhl⟩:∃ x,m.hl=x:=⟨_,rfl⟩
 obtain ⟨he,hhe⟩:∃ x,m.he=x:=⟨_,rfl⟩
 have HF:=Lh (Zv X w hl he v)
 have k1:(((w.alloc (.cells #[.string X.T,.slice X.A X.L.length X.c] 92)).alloc (.cells #[v.im,.bool hl,v.la,.bool he,v.ef,v.va,v.fn] 51)).alloc (.cells #[.slice none 0 0,.bool false,.slice none 0 0,.bool false,.slice none 0 0,.slice none 0 0,.slice none 0 0,.slice none 0 0,.string ⟨#[]⟩,.int .i64 0,.int .i64 0,.bool false,.bool false,.string ⟨#[]⟩,.int .i64 0,.int .i64 0,.slice none 0 0,.int .i64 0,.int .i64 0] 95)).cell? ⟨w.heap.size+1,1,none⟩=some (.bool hl):=HF.out.vm.at 1 rfl
 have HK:Hid (∀ W ms,F3 X w W (moC hl he v) ms→W.cell? ⟨w.heap.size+1,1,none⟩=some (.bool hl)∧W.cell? ⟨w.heap.size+1,3,none⟩=some (.bool he)):=Lh fun W ms h=>⟨h.vm.at 1 rfl,h.vm.at 3 rfl⟩
 rw [hhl,hhe] at HC
 rw [hhe] at h0
 subst h0
 rw [hhl,hhe]
 show CP 37 #[.agg #[.string X.T,.slice X.A X.L.length X.c],.agg #[v.im,.bool hl,v.la,.bool false,v.ef,v.va,v.fn],.int .i64 (p:Int)] w _
 clear hhl hhe hY HX hM h hSw hok hs g0 g1 g2 g3 g4 h1 hlm
 go_enter Try.func37,Try.ntmps37
 go_wp2_with (first
  | (refine Qb rfl 92 (.tmp 3) rfl w.heap.size 0 rfl (ryC X) HF.out.vr.rg Try.underlying92 rfl Qd ?_)
  | (go_at_call 51;(with_reducible refine (HA0.out _ HF.out.b).mono ?_);rintro e w2 ⟨rfl,b2⟩;have HF:=Lh (HF.out.under b2);clear b2;obtain ⟨k1,k3⟩:=HK.out _ _ HF.out;dsimp only)
  | (refine Qb rfl 51 (.tmp 4) rfl (w.heap.size+1) 0 rfl (moC hl false v) HF.out.vm.rg Try.underlying51 rfl Q7 ?_)
  | (go_at_call 53;(with_reducible refine (HC.out _ HF.out.b).mono ?_);rintro e w2 ⟨v2,rfl,hone,hsh,b2⟩;have hwl:=HF.out.lt;have HF:=Lh (HF.out.under b2);have HSH:=Lh (fun e=>(hsh e).weak (S':=fun b=>(S b∨w.heap.size≤b)∧b≠w.heap.size+2) fun b hb h2=>(by rcases hb with hb | hb;have:=HSS.out b hb;exact ⟨.inl hb,by omega⟩;exact ⟨.inr (by omega),by omega⟩));have HONE:=Lh hone;clear b2 hsh hone;dsimp only)
  | (refine Qa rfl 95 (.tmp 6) (.tmp 35) rfl (G:=w.heap.size+2) (off:=0) rfl (us:=mtC Y v2) HF.out.vo rfl (by rw [List.size_toArray,Zp];exact Qc) (by rw [Zp];exact Nat.le_refl 19) (Qe4 HONE.out) ?_;intro w90 ht hs;have HSH:=Lh (fun e=>(HSH.out e).turn (S':=fun b=>S b∨w.heap.size≤b) ht fun b hb _=>⟨hb.1,hb.2⟩);have HF:=Lh (HF.out.set_o (us:=mtC Y v2) ht (by rw [Z8 _ _ (Zp _ _)] at hs;exact hs));clear ht hs)
  | fail)
 exact Qj 95 rfl rfl rfl HF.out.vo Try.underlying95 rfl (by rw [Zp];exact Qc) ⟨v2,rfl,HONE.out,HSH.out,HF.out.b⟩
theorem item_fn(X:Ry)(hm:∀ i,(X.R.wd i).size≤1000000)(F f p:Nat)(m:MoT)(v:MoV)(S:Nat→Prop)(w:World)(hSw:∀ b,S b→b<w.heap.size)(hM:Zx w S m v)(h:X.In w w.heap.size)(hp:p<X.L.length)(hf:X.L.length<f)(hlm:m.fn.length≤p)(h1:X.R.is p lFn=true)(HFN:RFnC X F f) :
  CP 37 #[.agg (ryC X).toArray,.agg (moC m.hl m.he v).toArray,.int .i64 (p:Int)] w (Qfj S (fit X.R F f m p) w):=by
 have hz:=Yp
 have hln:=h.2.len
 have hok:=Qo X.T X.L
 have HOK:=Lh hok
 have HSS:=Lh hSw
 have HMM:=Lh hM
 have HA0:Hid (∀ W,Below w.heap.size w W→CP 51 #[.agg (ryC X).toArray,.int .i64 (p:Int)] W fun e w'=>e=.returned (.string (X.R.wd p))∧Below W.heap.size W w'):=Lh fun W hW=>Qg X p W ((h.up hW nLe).more hW.size) (by omega)
 have HIN:=Lh h
 obtain ⟨s,hs⟩:∃ x,X.R.wd p=x:=⟨_,rfl⟩
 have g0:X.R.is p Qay=(s.toList==Qay):=by rw [← hs];rfl
 have g1:X.R.is p Uo=(s.toList==Uo):=by rw [← hs];rfl
 have g2:X.R.is p Ut=(s.toList==Ut):=by rw [← hs];rfl
 have g3:X.R.is p Qa4=(s.toList==Qa4):=by rw [← hs];rfl
 have g4:X.R.is p lFn=(s.toList==lFn):=by rw [← hs];rfl
 rw [hs] at HA0
 have t1:(s.toList==lFn)=true:=g4.symm.trans h1
 have t0:(s.toList==Uo)=false:=g1.symm.trans (Zq h1 (by decide))
 have t2:(s.toList==Ut)=false:=g2.symm.trans (Zq h1 (by decide))
 have HX:=Lh (fit_fn (F:=F) (f:=f) (m:=m) h1)
 have HC:Hid (∀ W,Below w.heap.size w W→CP 54 #[.agg (ryC X).toArray,.agg (moC m.hl m.he v).toArray,.int .i64 ((p:Int)+1)] W (Qfj S (fit X.R F f m p) W)):=Lh fun W hW=>by
  rw [HX.out]
  exact HFN p m v S W (fun b hb=>Nat.lt_of_lt_of_le (HSS.out b hb) hW.size) (HMM.out.under hW) ((HIN.out.up hW nLe).more hW.size) hp h1 hlm
 obtain ⟨Y,hY⟩:∃ Y,fit X.R F f m p=Y:=⟨_,rfl⟩
 rw [hY] at HC
 rw [hY]
 obtain ⟨hl,hhl⟩:∃ x,m.hl=x:=⟨_,rfl⟩
 obtain ⟨he,hhe⟩:∃ x,m.he=x:=⟨_,rfl⟩
 have HF:=Lh (Zv X w hl he v)
 have k1:(((w.alloc (.cells #[.string X.T,.slice X.A X.L.length X.c] 92)).alloc (.cells #[v.im,.bool hl,v.la,.bool he,v.ef,v.va,v.fn] 51)).alloc (.cells #[.slice none 0 0,.bool false,.slice none 0 0,.bool false,.slice none 0 0,.slice none 0 0,.slice none 0 0,.slice none 0 0,.string ⟨#[]⟩,.int .i64 0,.int .i64 0,.bool false,.bool false,.string ⟨#[]⟩,.int .i64 0,.int .i64 0,.slice none 0 0,.int .i64 0,.int .i64 0] 95)).cell? ⟨w.heap.size+1,1,none⟩=some (.bool hl):=HF.out.vm.at 1 rfl
 have HK:Hid (∀ W ms,F3 X w W (moC hl he v) ms→W.cell? ⟨w.heap.size+1,1,none⟩=some (.bool hl)∧W.cell? ⟨w.heap.size+1,3,none⟩=some (.bool he)):=Lh fun W ms h=>⟨h.vm.at 1 rfl,h.vm.at 3 rfl⟩
 rw [hhl,hhe] at HC
 rw [hhl,hhe]
 show CP 37 #[.agg #[.string X.T,.slice X.A X.L.length X.c],.agg #[v.im,.bool hl,v.la,.bool he,v.ef,v.va,v.fn],.int .i64 (p:Int)] w _
 clear hhl hhe hY HX hM h hSw hok hs g0 g1 g2 g3 g4 h1 hlm HFN
 go_enter Try.func37,Try.ntmps37
 go_wp2_with (first
  | (refine Qb rfl 92 (.tmp 3) rfl w.heap.size 0 rfl (ryC X) HF.out.vr.rg Try.underlying92 rfl Qd ?_)
  | (go_at_call 51;(with_reducible refine (HA0.out _ HF.out.b).mono ?_);rintro e w2 ⟨rfl,b2⟩;have HF:=Lh (HF.out.under b2);clear b2;obtain ⟨k1,k3⟩:=HK.out _ _ HF.out;dsimp only)
  | (refine Qb rfl 51 (.tmp 4) rfl (w.heap.size+1) 0 rfl (moC hl he v) HF.out.vm.rg Try.underlying51 rfl Q7 ?_)
  | (go_at_call 54;(with_reducible refine (HC.out _ HF.out.b).mono ?_);rintro e w2 ⟨v2,rfl,hone,hsh,b2⟩;have hwl:=HF.out.lt;have HF:=Lh (HF.out.under b2);have HSH:=Lh (fun e=>(hsh e).weak (S':=fun b=>(S b∨w.heap.size≤b)∧b≠w.heap.size+2) fun b hb h2=>(by rcases hb with hb | hb;have:=HSS.out b hb;exact ⟨.inl hb,by omega⟩;exact ⟨.inr (by omega),by omega⟩));have HONE:=Lh hone;clear b2 hsh hone;dsimp only)
  | (refine Qa rfl 95 (.tmp 6) (.tmp 42) rfl (G:=w.heap.size+2) (off:=0) rfl (us:=mtC Y v2) HF.out.vo rfl (by rw [List.size_toArray,Zp];exact Qc) (by rw [Zp];exact Nat.le_refl 19) (Qe4 HONE.out) ?_;intro w90 ht hs;have HSH:=Lh (fun e=>(HSH.out e).turn (S':=fun b=>S b∨w.heap.size≤b) ht fun b hb _=>⟨hb.1,hb.2⟩);have HF:=Lh (HF.out.set_o (us:=mtC Y v2) ht (by rw [Z8 _ _ (Zp _ _)] at hs;exact hs));clear ht hs)
  | fail)
 exact Qj 95 rfl rfl rfl HF.out.vo Try.underlying95 rfl (by rw [Zp];exact Qc) ⟨v2,rfl,HONE.out,HSH.out,HF.out.b⟩
theorem Qm8(X:Ry)(hm:∀ i,(X.R.wd i).size≤1000000)(F f p:Nat)(m:MoT)(v:MoV)(S:Nat→Prop)(w:World)(hSw:∀ b,S b→b<w.heap.size)(hM:Zx w S m v)(h:X.In w w.heap.size)(hp:p<X.L.length)(hf:X.L.length<f)(h1:X.R.is p Uo=true)(h0:m.hl=true) :
  CP 37 #[.agg (ryC X).toArray,.agg (moC m.hl m.he v).toArray,.int .i64 (p:Int)] w (Qfj S (fit X.R F f m p) w):=by
 have hz:=Yp
 have hln:=h.2.len
 have hok:=Qo X.T X.L
 have HOK:=Lh hok
 have HSS:=Lh hSw
 have HMM:=Lh hM
 have HA0:Hid (∀ W,Below w.heap.size w W→CP 51 #[.agg (ryC X).toArray,.int .i64 (p:Int)] W fun e w'=>e=.returned (.string (X.R.wd p))∧Below W.heap.size W w'):=Lh fun W hW=>Qg X p W ((h.up hW nLe).more hW.size) (by omega)
 have HIN:=Lh h
 obtain ⟨s,hs⟩:∃ x,X.R.wd p=x:=⟨_,rfl⟩
 have g0:X.R.is p Qay=(s.toList==Qay):=by rw [← hs];rfl
 have g1:X.R.is p Uo=(s.toList==Uo):=by rw [← hs];rfl
 have g2:X.R.is p Ut=(s.toList==Ut):=by rw [← hs];rfl
 have g3:X.R.is p Qa4=(s.toList==Qa4):=by rw [← hs];rfl
 have g4:X.R.is p lFn=(s.toList==lFn):=by rw [← hs];rfl
 rw [hs] at HA0
 have HX:=Lh (Qjg (F:=F) (f:=f) h1 h0)
 have t1:(s.toList==Uo)=true:=g1.symm.trans h1
 have t0:(s.toList==Qay)=false:=g0.symm.trans (Zq h1 (by decide))
 have t2:(s.toList==Ut)=false:=g2.symm.trans (Zq h1 (by decide))
 have t3:(s.toList==Qa4)=false:=g3.symm.trans (Zq h1 (by decide))
 have t4:(s.toList==lFn)=false:=g4.symm.trans (Zq h1 (by decide))
 obtain ⟨hl,hhl⟩:∃ x,m.hl=x:=⟨_,rfl⟩
 obtain ⟨he,hhe⟩:∃ x,m.he=x:=⟨_,rfl⟩
 have HF:=Lh (Zv X w hl he v)
 have k1:(((w.alloc (.cells #[.string X.T,.slice X.A X.L.length X.c] 92)).alloc (.cells #[v.im,.bool hl,v.la,.bool he,v.ef,v.va,v.fn] 51)).alloc (.cells #[.slice none 0 0,.bool false,.slice none 0 0,.bool false,.slice none 0 0,.slice none 0 0,.slice none 0 0,.slice none 0 0,.string ⟨#[]⟩,.int .i64 0,.int .i64 0,.bool false,.bool false,.string ⟨#[]⟩,.int .i64 0,.int .i64 0,.slice none 0 0,.int .i64 0,.int .i64 0] 95)).cell? ⟨w.heap.size+1,1,none⟩=some (.bool hl):=HF.out.vm.at 1 rfl
 have HK:Hid (∀ W ms,F3 X w W (moC hl he v) ms→W.cell? ⟨w.heap.size+1,1,none⟩=some (.bool hl)∧W.cell? ⟨w.heap.size+1,3,none⟩=some (.bool he)):=Lh fun W ms h=>⟨h.vm.at 1 rfl,h.vm.at 3 rfl⟩
 rw [hhl,hhe]
 rw [hhl] at h0
 subst h0
 show CP 37 #[.agg #[.string X.T,.slice X.A X.L.length X.c],.agg #[v.im,.bool true,v.la,.bool he,v.ef,v.va,v.fn],.int .i64 (p:Int)] w _
 clear hhl hhe hM h hSw hok hs g0 g1 g2 g3 g4 h1
 go_enter Try.func37,Try.ntmps37
 go_wp2_with (first
  | (refine Qb rfl 92 (.tmp 3) rfl w.heap.size 0 rfl (ryC X) HF.out.vr.rg Try.underlying92 rfl Qd ?_)
  | (go_at_call 51;(with_reducible refine (HA0.out _ HF.out.b).mono ?_);rintro e w2 ⟨rfl,b2⟩;have HF:=Lh (HF.out.under b2);clear b2;obtain ⟨k1,k3⟩:=HK.out _ _ HF.out;dsimp only)
  | (refine Qa rfl 95 (.tmp 6) (.tmp 114) rfl (G:=w.heap.size+2) (off:=0) rfl (us:=gtE (p:Int) 11) HF.out.vo rfl Qc (Nat.le_refl 19) (Qn _ _) ?_;intro w90 ht hs;have HF:=Lh (HF.out.set_o (us:=gtE (p:Int) 11) ht hs);clear ht hs)
  | fail)
 exact Qj 95 rfl rfl rfl HF.out.vo Try.underlying95 rfl Qc (Jd HX.out (by decide) HF.out.b)
theorem Qm9(X:Ry)(hm:∀ i,(X.R.wd i).size≤1000000)(F f p:Nat)(m:MoT)(v:MoV)(S:Nat→Prop)(w:World)(hSw:∀ b,S b→b<w.heap.size)(hM:Zx w S m v)(h:X.In w w.heap.size)(hp:p<X.L.length)(hf:X.L.length<f)(h1:X.R.is p Ut=true)(h0:m.he=true) :
  CP 37 #[.agg (ryC X).toArray,.agg (moC m.hl m.he v).toArray,.int .i64 (p:Int)] w (Qfj S (fit X.R F f m p) w):=by
 have hz:=Yp
 have hln:=h.2.len
 have hok:=Qo X.T X.L
 have HOK:=Lh hok
 have HSS:=Lh hSw
 have HMM:=Lh hM
 have HA0:Hid (∀ W,Below w.heap.size w W→CP 51 #[.agg (ryC X).toArray,.int .i64 (p:Int)] W fun e w'=>e=.returned (.string (X.R.wd p))∧Below W.heap.size W w'):=Lh fun W hW=>Qg X p W ((h.up hW nLe).more hW.size) (by omega)
 have HIN:=Lh h
 obtain ⟨s,hs⟩:∃ x,X.R.wd p=x:=⟨_,rfl⟩
 have g0:X.R.is p Qay=(s.toList==Qay):=by rw [← hs];rfl
 have g1:X.R.is p Uo=(s.toList==Uo):=by rw [← hs];rfl
 have g2:X.R.is p Ut=(s.toList==Ut):=by rw [← hs];rfl
 have g3:X.R.is p Qa4=(s.toList==Qa4):=by rw [← hs];rfl
 have g4:X.R.is p lFn=(s.toList==lFn):=by rw [← hs];rfl
 rw [hs] at HA0
 have HX:=Lh (Qjh (F:=F) (f:=f) h1 h0)
 have t1:(s.toList==Ut)=true:=g2.symm.trans h1
 have t0:(s.toList==Qay)=false:=g0.symm.trans (Zq h1 (by decide))
 have t2:(s.toList==Uo)=false:=g1.symm.trans (Zq h1 (by decide))
 have t3:(s.toList==Qa4)=false:=g3.symm.trans (Zq h1 (by decide))
 have t4:(s.toList==lFn)=false:=g4.symm.trans (Zq h1 (by decide))
 obtain ⟨hl,hhl⟩:∃ x,m.hl=x:=⟨_,rfl⟩
 obtain ⟨he,hhe⟩:∃ x,m.he=x:=⟨_,rfl⟩
 have HF:=Lh (Zv X w hl he v)
 have k1:(((w.alloc (.cells #[.string X.T,.slice X.A X.L.length X.c] 92)).alloc (.cells #[v.im,.bool hl,v.la,.bool he,v.ef,v.va,v.fn] 51)).alloc (.cells #[.slice none 0 0,.bool false,.slice none 0 0,.bool false,.slice none 0 0,.slice none 0 0,.slice none 0 0,.slice none 0 0,.string ⟨#[]⟩,.int .i64 0,.int .i64 0,.bool false,.bool false,.string ⟨#[]⟩,.int .i64 0,.int .i64 0,.slice none 0 0,.int .i64 0,.int .i64 0] 95)).cell? ⟨w.heap.size+1,1,none⟩=some (.bool hl):=HF.out.vm.at 1 rfl
 have HK:Hid (∀ W ms,F3 X w W (moC hl he v) ms→W.cell? ⟨w.heap.size+1,1,none⟩=some (.bool hl)∧W.cell? ⟨w.heap.size+1,3,none⟩=some (.bool he)):=Lh fun W ms h=>⟨h.vm.at 1 rfl,h.vm.at 3 rfl⟩
 rw [hhl,hhe]
 rw [hhe] at h0
 subst h0
 show CP 37 #[.agg #[.string X.T,.slice X.A X.L.length X.c],.agg #[v.im,.bool hl,v.la,.bool true,v.ef,v.va,v.fn],.int .i64 (p:Int)] w _
 clear hhl hhe hM h hSw hok hs g0 g1 g2 g3 g4 h1
 go_enter Try.func37,Try.ntmps37
 go_wp2_with (first
  | (refine Qb rfl 92 (.tmp 3) rfl w.heap.size 0 rfl (ryC X) HF.out.vr.rg Try.underlying92 rfl Qd ?_)
  | (go_at_call 51;(with_reducible refine (HA0.out _ HF.out.b).mono ?_);rintro e w2 ⟨rfl,b2⟩;have HF:=Lh (HF.out.under b2);clear b2;obtain ⟨k1,k3⟩:=HK.out _ _ HF.out;dsimp only)
  | (refine Qa rfl 95 (.tmp 6) (.tmp 114) rfl (G:=w.heap.size+2) (off:=0) rfl (us:=gtE (p:Int) 11) HF.out.vo rfl Qc (Nat.le_refl 19) (Qn _ _) ?_;intro w90 ht hs;have HF:=Lh (HF.out.set_o (us:=gtE (p:Int) 11) ht hs);clear ht hs)
  | fail)
 exact Qj 95 rfl rfl rfl HF.out.vo Try.underlying95 rfl Qc (Jd HX.out (by decide) HF.out.b)
theorem Qna(X:Ry)(hm:∀ i,(X.R.wd i).size≤1000000)(F f p:Nat)(m:MoT)(v:MoV)(S:Nat→Prop)(w:World)(hSw:∀ b,S b→b<w.heap.size)(hM:Zx w S m v)(h:X.In w w.heap.size)(hp:p<X.L.length)(hf:X.L.length<f)(h0:X.R.is p Qay=false)(h1:X.R.is p Uo=false)(h2:X.R.is p Ut=false)(h3:X.R.is p Qa4=false)(h4:X.R.is p lFn=false) :
  CP 37 #[.agg (ryC X).toArray,.agg (moC m.hl m.he v).toArray,.int .i64 (p:Int)] w (Qfj S (fit X.R F f m p) w):=by
 have hz:=Yp
 have hln:=h.2.len
 have hok:=Qo X.T X.L
 have HOK:=Lh hok
 have HSS:=Lh hSw
 have HMM:=Lh hM
 have HA0:Hid (∀ W,Below w.heap.size w W→CP 51 #[.agg (ryC X).toArray,.int .i64 (p:Int)] W fun e w'=>e=.returned (.string (X.R.wd p))∧Below W.heap.size W w'):=Lh fun W hW=>Qg X p W ((h.up hW nLe).more hW.size) (by omega)
 have HIN:=Lh h
 obtain ⟨s,hs⟩:∃ x,X.R.wd p=x:=⟨_,rfl⟩
 have g0:X.R.is p Qay=(s.toList==Qay):=by rw [← hs];rfl
 have g1:X.R.is p Uo=(s.toList==Uo):=by rw [← hs];rfl
 have g2:X.R.is p Ut=(s.toList==Ut):=by rw [← hs];rfl
 have g3:X.R.is p Qa4=(s.toList==Qa4):=by rw [← hs];rfl
 have g4:X.R.is p lFn=(s.toList==lFn):=by rw [← hs];rfl
 rw [hs] at HA0
 have HX:Hid ((fit X.R F f m p).2=(p,11)):=Lh (by rw [Qji h0 h1 h2 h3 h4])
 have t0:(s.toList==Qay)=false:=g0.symm.trans h0
 have t1:(s.toList==Uo)=false:=g1.symm.trans h1
 have t2:(s.toList==Ut)=false:=g2.symm.trans h2
 have t3:(s.toList==Qa4)=false:=g3.symm.trans h3
 have t4:(s.toList==lFn)=false:=g4.symm.trans h4
 obtain ⟨hl,hhl⟩:∃ x,m.hl=x:=⟨_,rfl⟩
 obtain ⟨he,hhe⟩:∃ x,m.he=x:=⟨_,rfl⟩
 have HF:=Lh (Zv X w hl he v)
 have k1:(((w.alloc (.cells #[.string X.T,.slice X.A X.L.length X.c] 92)).alloc (.cells #[v.im,.bool hl,v.la,.bool he,v.ef,v.va,v.fn] 51)).alloc (.cells #[.slice none 0 0,.bool false,.slice none 0 0,.bool false,.slice none 0 0,.slice none 0 0,.slice none 0 0,.slice none 0 0,.string ⟨#[]⟩,.int .i64 0,.int .i64 0,.bool false,.bool false,.string ⟨#[]⟩,.int .i64 0,.int .i64 0,.slice none 0 0,.int .i64 0,.int .i64 0] 95)).cell? ⟨w.heap.size+1,1,none⟩=some (.bool hl):=HF.out.vm.at 1 rfl
 have HK:Hid (∀ W ms,F3 X w W (moC hl he v) ms→W.cell? ⟨w.heap.size+1,1,none⟩=some (.bool hl)∧W.cell? ⟨w.heap.size+1,3,none⟩=some (.bool he)):=Lh fun W ms h=>⟨h.vm.at 1 rfl,h.vm.at 3 rfl⟩
 rw [hhl,hhe]
 show CP 37 #[.agg #[.string X.T,.slice X.A X.L.length X.c],.agg #[v.im,.bool hl,v.la,.bool he,v.ef,v.va,v.fn],.int .i64 (p:Int)] w _
 clear hhl hhe hM h hSw hok hs g0 g1 g2 g3 g4 h0 h1 h2 h3 h4
 go_enter Try.func37,Try.ntmps37
 go_wp2_with (first
  | (refine Qb rfl 92 (.tmp 3) rfl w.heap.size 0 rfl (ryC X) HF.out.vr.rg Try.underlying92 rfl Qd ?_)
  | (go_at_call 51;(with_reducible refine (HA0.out _ HF.out.b).mono ?_);rintro e w2 ⟨rfl,b2⟩;have HF:=Lh (HF.out.under b2);clear b2;obtain ⟨k1,k3⟩:=HK.out _ _ HF.out;dsimp only)
  | (refine Qa rfl 95 (.tmp 6) (.tmp 114) rfl (G:=w.heap.size+2) (off:=0) rfl (us:=gtE (p:Int) 11) HF.out.vo rfl Qc (Nat.le_refl 19) (Qn _ _) ?_;intro w90 ht hs;have HF:=Lh (HF.out.set_o (us:=gtE (p:Int) 11) ht hs);clear ht hs)
  | fail)
 exact Qj 95 rfl rfl rfl HF.out.vo Try.underlying95 rfl Qc (Jd HX.out (by decide) HF.out.b)
theorem item_imp(X:Ry)(hm:∀ i,(X.R.wd i).size≤1000000)(F f p:Nat)(m:MoT)(v:MoV)(S:Nat→Prop)(w:World)(hSw:∀ b,S b→b<w.heap.size)(hM:Zx w S m v)(h:X.In w w.heap.size)(hp:p<X.L.length)(hf:X.L.length<f)(hlm:m.im.length≤p)(h1:X.R.is p Qay=true) :
  CP 37 #[.agg (ryC X).toArray,.agg (moC m.hl m.he v).toArray,.int .i64 (p:Int)] w (Qfj S (fit X.R F f m p) w):=by
 have hz:=Yp
 have hln:=h.2.len
 have hok:=Qo X.T X.L
 have HOK:=Lh hok
 have HSS:=Lh hSw
 have HMM:=Lh hM
 have HA0:Hid (∀ W,Below w.heap.size w W→CP 51 #[.agg (ryC X).toArray,.int .i64 (p:Int)] W fun e w'=>e=.returned (.string (X.R.wd p))∧Below W.heap.size W w'):=Lh fun W hW=>Qg X p W ((h.up hW nLe).more hW.size) (by omega)
 have HIN:=Lh h
 obtain ⟨s,hs⟩:∃ x,X.R.wd p=x:=⟨_,rfl⟩
 have g0:X.R.is p Qay=(s.toList==Qay):=by rw [← hs];rfl
 have g1:X.R.is p Uo=(s.toList==Uo):=by rw [← hs];rfl
 have g2:X.R.is p Ut=(s.toList==Ut):=by rw [← hs];rfl
 have g3:X.R.is p Qa4=(s.toList==Qa4):=by rw [← hs];rfl
 have g4:X.R.is p lFn=(s.toList==lFn):=by rw [← hs];rfl
 rw [hs] at HA0
 have HX:=Lh (Qm4 (F:=F) (f:=f) (m:=m) h1)
 have t0:(s.toList==Qay)=true:=g0.symm.trans h1
 have t1:(s.toList==Uo)=false:=g1.symm.trans (Zq h1 (by decide))
 have t2:(s.toList==Ut)=false:=g2.symm.trans (Zq h1 (by decide))
 have t4:(s.toList==lFn)=false:=g4.symm.trans (Zq h1 (by decide))
 have HN1:Hid (∀ W,Below w.heap.size w W→CP 55 #[.agg (ryC X).toArray,.int .i64 ((p:Int)+1)] W fun e w'=>e=.returned (.bool (X.R.idn (p+1)))∧Below W.heap.size W w'):=Lh fun W hW=>Y1 X hm (p+1) W ((h.up hW nLe).more hW.size) (by omega)
 have HA1:Hid (∀ W,Below w.heap.size w W→CP 51 #[.agg (ryC X).toArray,.int .i64 ((p:Int)+1)] W fun e w'=>e=.returned (.string (X.R.wd (p+1)))∧Below W.heap.size W w'):=Lh fun W hW=>Qg X (p+1) W ((h.up hW nLe).more hW.size) (by omega)
 have HP1:Hid (∀ W,Below w.heap.size w W→CP 38 #[.agg (ryC X).toArray,.int .i64 ((p:Int)+1)] W fun e w'=>e=.returned (.int .i64 (X.R.ps (p+1)))∧Below W.heap.size W w'):=Lh fun W hW=>Qz X (p+1) W ((h.up hW nLe).more hW.size) (by omega)
 have HW2:Hid (∀ W,Below w.heap.size w W→CP 56 #[.agg (ryC X).toArray,.int .i64 ((p:Int)+2),.string Jr] W fun e w'=>e=.returned (.int .i64 (if X.R.is (p+2) [59]=true then 0 else 11))∧Below W.heap.size W w'):=Lh fun W hW=>by
  have:=K2 X (p+2) Jr W ((h.up hW nLe).more hW.size) (by omega)
  rwa [show Jr.toList=[59] from wd1 59 []] at this
 obtain ⟨Y,hY⟩:∃ Y,fit X.R F f m p=Y:=⟨_,rfl⟩
 rw [hY] at HX
 rw [hY]
 obtain ⟨hl,hhl⟩:∃ x,m.hl=x:=⟨_,rfl⟩
 obtain ⟨he,hhe⟩:∃ x,m.he=x:=⟨_,rfl⟩
 have HF:=Lh (Zv X w hl he v)
 have k1:(((w.alloc (.cells #[.string X.T,.slice X.A X.L.length X.c] 92)).alloc (.cells #[v.im,.bool hl,v.la,.bool he,v.ef,v.va,v.fn] 51)).alloc (.cells #[.slice none 0 0,.bool false,.slice none 0 0,.bool false,.slice none 0 0,.slice none 0 0,.slice none 0 0,.slice none 0 0,.string ⟨#[]⟩,.int .i64 0,.int .i64 0,.bool false,.bool false,.string ⟨#[]⟩,.int .i64 0,.int .i64 0,.slice none 0 0,.int .i64 0,.int .i64 0] 95)).cell? ⟨w.heap.size+1,1,none⟩=some (.bool hl):=HF.out.vm.at 1 rfl
 have HK:Hid (∀ W ms,F3 X w W (moC hl he v) ms→W.cell? ⟨w.heap.size+1,1,none⟩=some (.bool hl)∧W.cell? ⟨w.heap.size+1,3,none⟩=some (.bool he)):=Lh fun W ms h=>⟨h.vm.at 1 rfl,h.vm.at 3 rfl⟩
 rw [hhl,hhe]
 show CP 37 #[.agg #[.string X.T,.slice X.A X.L.length X.c],.agg #[v.im,.bool hl,v.la,.bool he,v.ef,v.va,v.fn],.int .i64 (p:Int)] w _
 clear hY hM h hSw hok hs g0 g1 g2 g3 g4 h1
 cases hi:X.R.idn (p+1) with
 | false =>
  rw [hi] at HN1
  have HE:Hid (Y.2=(p+1,11)):=Lh (by rw [HX.out,Qdz hi,Jg (x:=(p+1,11)) (show ¬ (11:Int)=0 by decide)])
  clear HX hi
  go_enter Try.func37,Try.ntmps37
  go_wp2_with (first
   | (refine Qb rfl 92 (.tmp 3) rfl w.heap.size 0 rfl (ryC X) HF.out.vr.rg Try.underlying92 rfl Qd ?_)
   | (go_at_call 51;(with_reducible refine (HA0.out _ HF.out.b).mono ?_);rintro e w2 ⟨rfl,b2⟩;have HF:=Lh (HF.out.under b2);clear b2;obtain ⟨k1,k3⟩:=HK.out _ _ HF.out;dsimp only)
   | (go_at_call 55;(with_reducible refine (HN1.out _ HF.out.b).mono ?_);rintro e w2 ⟨rfl,b2⟩;have HF:=Lh (HF.out.under b2);clear b2;dsimp only)
   | (refine Qa rfl 95 (.tmp 6) (.tmp 52) rfl (G:=w.heap.size+2) (off:=0) rfl (us:=gtE ((p:Int)+1) 11) HF.out.vo rfl Qc (Nat.le_refl 19) (Qn _ _) ?_;intro w90 ht hs;have HF:=Lh (HF.out.set_o (us:=gtE ((p:Int)+1) 11) ht hs);clear ht hs)
   | fail)
  exact Qj 95 rfl rfl rfl HF.out.vo Try.underlying95 rfl Qc (Jd (q:=p+1) HE.out (by decide) HF.out.b)
 | true =>
  rw [hi] at HN1
  have hpl:p+1<X.L.length:=HOK.out.id_lt hi
  cases h2:X.R.is (p+2) [59] with
  | false =>
   rw [h2,if_neg (by decide)] at HW2
   have HE:Hid (Y.2=(p+2,11)):=Lh (by rw [HX.out,Ya hi];exact Yb h2)
   clear HX hi
   go_enter Try.func37,Try.ntmps37
   go_wp2_with (first
    | (refine Qb rfl 92 (.tmp 3) rfl w.heap.size 0 rfl (ryC X) HF.out.vr.rg Try.underlying92 rfl Qd ?_)
    | (go_at_call 51;(with_reducible refine (HA0.out _ HF.out.b).mono ?_);rintro e w2 ⟨rfl,b2⟩;have HF:=Lh (HF.out.under b2);clear b2;obtain ⟨k1,k3⟩:=HK.out _ _ HF.out;dsimp only)
    | (go_at_call 55;(with_reducible refine (HN1.out _ HF.out.b).mono ?_);rintro e w2 ⟨rfl,b2⟩;have HF:=Lh (HF.out.under b2);clear b2;dsimp only)
    | (go_at_call 56;(with_reducible refine (HW2.out _ HF.out.b).mono ?_);rintro e w2 ⟨rfl,b2⟩;have HF:=Lh (HF.out.under b2);clear b2;dsimp only)
    | (refine Qa rfl 95 (.tmp 6) (.tmp 60) rfl (G:=w.heap.size+2) (off:=0) rfl (us:=gtE ((p:Int)+2) 11) HF.out.vo rfl Qc (Nat.le_refl 19) (Qn _ _) ?_;intro w90 ht hs;have HF:=Lh (HF.out.set_o (us:=gtE ((p:Int)+2) 11) ht hs);clear ht hs)
    | fail)
   exact Qj 95 rfl rfl rfl HF.out.vo Try.underlying95 rfl Qc (Jd (q:=p+2) HE.out (by decide) HF.out.b)
  | true =>
   rw [h2,if_pos rfl] at HW2
   obtain ⟨sg,hsg⟩:∃ x,X.R.wd (p+1)=x:=⟨_,rfl⟩
   obtain ⟨xn,hxn⟩:∃ x,X.R.ps (p+1)=x:=⟨_,rfl⟩
   have HE:Hid (Y=({ m with im:=m.im++[⟨sg,xn⟩] },(p+3,0))):=Lh (by rw [HX.out,Ya hi,hsg,hxn];exact congrArg (Prod.mk _) (Q5 h2))
   rw [hsg] at HA1
   rw [hxn] at HP1
   clear HX hi h2 hsg hxn
   have hql:=hlm
   obtain ⟨A,c,hve⟩:=HMM.out.im.frm
   have HVE:=Lh hve
   have HL0:=Lh (HMM.out.im.weak (S':=fun b=>S b∨w.heap.size+2<b) fun b hb _=>.inl hb)
   rw [hve] at HL0
   have HL:=Lh (((HL0.out.under ((Below.refl w.heap.size w).alloc nLe (.cells #[.string X.T,.slice X.A X.L.length X.c] 92))).under (bRf.alloc nLe (.cells #[v.im,.bool hl,v.la,.bool he,v.ef,v.va,v.fn] 51))).under (bRf.alloc nLe (.cells #[.slice none 0 0,.bool false,.slice none 0 0,.bool false,.slice none 0 0,.slice none 0 0,.slice none 0 0,.slice none 0 0,.string ⟨#[]⟩,.int .i64 0,.int .i64 0,.bool false,.bool false,.string ⟨#[]⟩,.int .i64 0,.int .i64 0,.slice none 0 0,.int .i64 0,.int .i64 0] 95)))
   obtain ⟨SS,hSd⟩:∃ SS:World→Prop,SS=fun W=>F3 X w W [.slice A m.im.length c,.bool hl,v.la,.bool he,v.ef,v.va,v.fn] (gtE 0 0):=⟨_,rfl⟩
   have HS:Hid (∀ W,F3 X w W [.slice A m.im.length c,.bool hl,v.la,.bool he,v.ef,v.va,v.fn] (gtE 0 0)→SS W):=Lh fun W h=>by rw [hSd];exact h
   have hSF:∀ W,SS W→F3 X w W [.slice A m.im.length c,.bool hl,v.la,.bool he,v.ef,v.va,v.fn] (gtE 0 0):=by rw [hSd];exact fun W h=>h
   have q0:∀ s:SW SS,s.w.cell? ⟨w.heap.size,0,none⟩=some (.string X.T):=fun s=>(hSF _ s.h).vr.at 0 rfl
   have q1:∀ s:SW SS,s.w.cell? ⟨w.heap.size,1,none⟩=some (.slice X.A X.L.length X.c):=fun s=>(hSF _ s.h).vr.at 1 rfl
   have q2:∀ x:SW SS,x.w.cell? ⟨w.heap.size+1,0,none⟩=some (.slice A m.im.length c):=fun x=>(hSF _ x.h).vm.at 0 rfl
   clear hSd hSF HL0 hve
   go_enter Try.func37,Try.ntmps37
   go_wp2_with (first
    | (refine Qb rfl 92 (.tmp 3) rfl w.heap.size 0 rfl (ryC X) HF.out.vr.rg Try.underlying92 rfl Qd ?_)
    | (go_at_call 51;(with_reducible refine (HA0.out _ HF.out.b).mono ?_);rintro e w2 ⟨rfl,b2⟩;have HL:=Lh (HL.out.under b2);have HF:=Lh (HF.out.under b2);clear b2;obtain ⟨k1,k3⟩:=HK.out _ _ HF.out;dsimp only)
    | (go_at_call 55;(with_reducible refine (HN1.out _ HF.out.b).mono ?_);rintro e w2 ⟨rfl,b2⟩;have HL:=Lh (HL.out.under b2);have HF:=Lh (HF.out.under b2);clear b2;dsimp only)
    | (go_at_call 56;(with_reducible refine (HW2.out _ HF.out.b).mono ?_);rintro e w2 ⟨rfl,b2⟩;have HL:=Lh (HL.out.under b2);have HF:=Lh (HF.out.under b2);clear b2;dsimp only)
    | fail)
   have HQ:=Lh (show F3 X w w2.drew [.slice A m.im.length c,.bool hl,v.la,.bool he,v.ef,v.va,v.fn] (gtE 0 0) by have:=HF.out.under (Qi _ _);unfold moC at this;rwa [HVE.out] at this)
   have HL:=Lh (HL.out.under (Qi _ _))
   refine Jc (by kernel_rfl) 17 rfl ?_
   obtain ⟨wx,hwx⟩:∃ wx,w2.drew=wx:=⟨_,rfl⟩
   rw [hwx] at HQ HL
   rw [hwx]
   have hS0:=HS.out _ HQ.out
   have HX3:=Lh (show w.heap.size+3≤wx.heap.size from HQ.out.lt)
   clear HF hwx
   refine J2 SS 16 (by kernel_rfl) ?_
   refine Qp 1 2 15 (by kernel_rfl) (fun _ _ d _ _ h=>by cases d <;> exact h) hS0 (fun hne=>?_)
   simp only [sD,sE,sF,sG]
   repeat (go_big_quiet_step (fail))
   refine wpQuiet_nil ?_
   refine Qp 4 3 12 (by kernel_rfl) (fun _ _ d _ _ h=>by cases d <;> exact h) hS0 (fun hne=>?_)
   simp only [sD,sE,sF,sG]
   repeat (go_big_quiet_step (fail))
   refine wpQuiet_nil ?_
   refine Qp 8 3 9 (by kernel_rfl) (fun _ _ d _ _ h=>by cases d <;> exact h) hS0 (fun hne=>?_)
   simp only [sD,sE,sF,sG]
   repeat (go_big_quiet_step (fail))
   refine wpQuiet_nil ?_
   refine Ql (i:=0) (fuel:=8) (by kernel_rfl) (by omega) rfl (fun KK hKK=>?_)
   go_simp
   have HO0:=Lh (Own.empty wx wx.heap.size 53 2 nLe)
   have hbe:=(Below.refl wx.heap.size wx).alloc nLe (.cells #[] 53)
   have HQ:=Lh (HQ.out.under hbe)
   have HL:=Lh (HL.out.under hbe)
   obtain ⟨w0,hw0⟩:∃ w0,wx.alloc (.cells #[] 53)=w0:=⟨_,rfl⟩
   have hx0:wx.heap.size<w0.heap.size:=by rw [← hw0];simp
   have hx3:w.heap.size+3≤wx.heap.size:=HX3.out
   rw [hw0] at HO0 HQ HL
   rw [hw0]
   clear hw0 hbe hS0
   have hS0:=HS.out _ HQ.out
   refine hKK _ _ hS0 ?_
   clear hKK KK
   refine Ql (i:=3) (fuel:=7) (by kernel_rfl) (by omega) rfl (fun KK hKK=>?_)
   refine Qs rfl (.tmp 61) (.tmp 63) 46 rfl Qkg w0 wx.heap.size _ 0 [] (nms m.im) rfl HO0.out A m.im.length c rfl (Qm2 m.im) HL.out.cells Qm3 (by omega) (by omega) ?_
   intro v3 w3 ho3 hb3 _
   have HQ:=Lh (HQ.out.low ⟨hb3.os,hb3.tape,hb3.output,hb3.size,fun k hk=>hb3.block k (by omega)⟩)
   have HO:=Lh (ho3.cast (n':=m.im.length) (by omega) (List.nil_append _))
   have hs3:=hb3.size
   obtain ⟨A3,c3,rfl⟩:=HO.out.form
   clear hS0 HO0 HL ho3 hb3
   have hS0:=HS.out _ HQ.out
   refine hKK _ _ hS0 ?_
   clear hKK KK
   refine Ql (i:=7) (fuel:=6) (by kernel_rfl) (by omega) rfl (fun KK hKK=>?_)
   go_simp
   with_reducible refine (HA1.out _ HQ.out.b).mono ?_
   rintro e wy ⟨rfl,bb⟩
   have HQ:=Lh (HQ.out.under bb)
   have HO:=Lh (HO.out.below bb)
   have hsy:=bb.size
   clear hS0 bb
   have hS0:=HS.out _ HQ.out
   refine hKK _ _ hS0 ?_
   clear hKK KK
   refine Ql (i:=11) (fuel:=5) (by kernel_rfl) (by omega) rfl (fun KK hKK=>?_)
   go_simp
   with_reducible refine (HP1.out _ HQ.out.b).mono ?_
   rintro e wz ⟨rfl,bb⟩
   have HQ:=Lh (HQ.out.under bb)
   have HO:=Lh (HO.out.below bb)
   have hsz:=bb.size
   clear hS0 bb
   have hS0:=HS.out _ HQ.out
   refine hKK _ _ hS0 ?_
   clear hKK KK
   refine Qp 12 1 4 (by kernel_rfl) (fun _ _ d _ _ h=>by cases d <;> exact h) hS0 (fun hne=>?_)
   simp only [sD,sE,sF,sG]
   repeat (go_big_quiet_step (fail))
   refine wpQuiet_nil ?_
   refine Ql (i:=13) (fuel:=3) (by kernel_rfl) (by omega) rfl (fun KK hKK=>?_)
   refine Q0 rfl 46 53 (.tmp 73) rfl (nmC ⟨sg,xn⟩) rfl (by simp [nmC]) (by simp [nmC]) Try.underlying46 Qeo (by kernel_rfl) ?_
   refine hKK _ _ (HS.out _ (HQ.out.under bAl)) ?_
   clear hKK KK
   refine Ql (i:=14) (fuel:=2) (by kernel_rfl) (by omega) rfl (fun KK hKK=>?_)
   refine Ka rfl (.tmp 64) (.tmp 74) 46 rfl Qkg wz wx.heap.size (.slice A3 m.im.length c3) m.im.length (nms m.im) (nmC ⟨sg,xn⟩) rfl HO.out rfl rfl rfl (Qcm _) (by omega) (by omega) ?_
   intro v6 w6 ho6 hg6 hv6
   obtain ⟨A6,c6,rfl⟩:=ho6.form
   have HLO:=Lh (((Below.refl (w.heap.size+3) wz).alloc (by omega) (.cells (nmC ⟨sg,xn⟩).toArray 53)).grown hg6 (by simp;omega) (fun k hk=>by have:=HO.out.block_ge k hk;omega))
   have HQ:=Lh (HQ.out.low HLO.out)
   have HO:=Lh (ho6.cast (show m.im.length+1=(m.im++[(⟨sg,xn⟩:NmT)]).length by simp) (Qb0 m.im ⟨sg,xn⟩).symm)
   clear hS0
   have hS0:=HS.out _ HQ.out
   refine hKK _ _ hS0 ?_
   clear hKK KK ho6 hg6 hv6 HLO
   simp only [Act.put,sA,sB,sC]
   refine Qp 15 1 1 (by kernel_rfl) (fun _ _ d _ _ h=>by cases d <;> exact h) hS0 (fun hne=>?_)
   simp only [sD,sE,sF,sG]
   repeat (go_big_quiet_step (fail))
   refine wpQuiet_nil ?_
   refine Ja (i:=16) (fuel:=0) (by kernel_rfl) nLe rfl (fun KK hKK=>?_)
   refine Zb rfl 46 (.tmp 76) (.tmp 75) rfl (w.heap.size+1) 0 rfl (v:=.slice A6 (m.im.length+1) c6) (HQ.out.vm.there (by show 0+1≤7;omega)) rfl (by kernel_rfl) rfl ?_
   have ht:=Tn.set (M:=fun k=>k=w.heap.size+1) w6 (w.heap.size+1) 0 (.slice A6 (m.im.length+1) c6) rfl
   have HF:=Lh (HQ.out.set_m (us:=[.slice A6 (m.im.length+1) c6,.bool hl,v.la,.bool he,v.ef,v.va,v.fn]) ht (HQ.out.vm.set 0 _ (by show 0<7;omega)))
   have HL:=Lh ((ShV.of_own (S:=fun b=>S b∨w.heap.size+2<b) HO.out (fun b hb _ _=>.inr (by omega))).turn (S':=fun b=>S b∨w.heap.size+2<b) ht fun b hb h2=>⟨hb,fun e=>by rcases hb with hb | hb;have:=HSS.out b hb;omega;omega⟩)
   refine hKK _ _ ?_
   clear hKK KK q0 q1 q2 HS hS0 ht HQ HO
   refine wpAny_done (by kernel_rfl) ?_ _
   try simp only [Act.put,sA,sB,sC]
   obtain ⟨wq,hwq⟩:∃ wq,w6.setCell ⟨w.heap.size+1,0,none⟩ (.slice A6 (m.im.length+1) c6)=wq:=⟨_,rfl⟩
   rw [hwq] at HF HL
   rw [hwq]
   clear hwq
   have HFIN:=Lh (fun (W:World) (hb:ShV W (fun b=>S b∨w.heap.size+2<b) (.slice A6 (m.im.length+1) c6) (m.im++[(⟨sg,xn⟩:NmT)]).length (nms (m.im++[(⟨sg,xn⟩:NmT)]))) (hw:Below w.heap.size w W)=>(by
    have hm2:=(HMM.out.under hw).weak (S':=fun b=>S b∨w.heap.size≤b) fun b h _=>.inl h
    exact ⟨hb.weak fun b h _=>h.imp_right fun h=>by omega,hm2.la,hm2.ef,hm2.va,hm2.fn⟩:Zx W (fun b=>S b∨w.heap.size≤b) { m with im:=m.im++[(⟨sg,xn⟩:NmT)] } { v with im:=.slice A6 (m.im.length+1) c6 }))
   go_wp2_with (first
    | (refine Qb rfl 51 (.tmp 4) rfl (w.heap.size+1) 0 rfl [.slice A6 (m.im.length+1) c6,.bool hl,v.la,.bool he,v.ef,v.va,v.fn] HF.out.vm.rg Try.underlying51 rfl Q7 ?_)
    | (refine Qa rfl 95 (.tmp 6) (.tmp 80) rfl (G:=w.heap.size+2) (off:=0) rfl (us:=gt [.slice A6 (m.im.length+1) c6,.bool hl,v.la,.bool he,v.ef,v.va,v.fn] Qk (vrC VrT.nul) Qk ((p:Int)+3) 0) HF.out.vo rfl Qc (Nat.le_refl 19) (Zy _ _ (Zt (m:=m) (hl:=hl) (he:=he) (v:={ v with im:=.slice A6 (m.im.length+1) c6 }) rfl HMM.out.la.one HMM.out.ef.one HMM.out.va.one (by obtain ⟨_,_,h,_⟩:=HMM.out.fn;exact h.one)) rfl (Jj _) rfl) ?_;intro w90 ht hs;have HL:=Lh (HL.out.turn (S':=fun b=>S b∨w.heap.size+2<b) ht fun b hb h2=>⟨hb,fun e=>by rcases hb with hb | hb;have:=HSS.out b hb;omega;omega⟩);have HF:=Lh (HF.out.set_o (us:=gt [.slice A6 (m.im.length+1) c6,.bool hl,v.la,.bool he,v.ef,v.va,v.fn] Qk (vrC VrT.nul) Qk ((p:Int)+3) 0) ht hs);clear ht hs)
    | fail)
   rw [HE.out]
   have hfin:=HFIN.out _ HL.out HF.out.b
   rw [hhl,hhe] at hfin
   rw [hhl,hhe]
   exact Qj 95 rfl rfl rfl HF.out.vo Try.underlying95 rfl Qc (Qgn (m:={ im:=m.im++[(⟨sg,xn⟩:NmT)],hl:=hl,la:=m.la,he:=he,ef:=m.ef,va:=m.va,fn:=m.fn }) (q:=p+3) hfin HF.out.b)
end Go.Proofs.Ytjoclbeoafeebaa
