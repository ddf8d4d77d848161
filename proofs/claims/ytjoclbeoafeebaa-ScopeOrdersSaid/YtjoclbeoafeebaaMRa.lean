import Derived.Test.YtjoclbeoafeebaaSq
import Derived.Test.YtjoclbeoafeebaaEqT
import Derived.Test.YtjoclbeoafeebaaMSb
import Derived.Test.YtjoclbeoafeebaaMSz
import Derived.Test.YtjoclbeoafeebaaMHd
import Derived.BigQuiet
import Derived.Test.YtjoclbeoafeebaaStN
set_option maxHeartbeats 1600000
set_option maxRecDepth 100000
namespace Go.Proofs.Ytjoclbeoafeebaa
set_option linter.unusedVariables false
set_option linter.unusedSimpArgs false
open Go.RowKit
abbrev Qk:Value:=.slice none 0 0
def gsC(s:St)(tv:Tv)(lv:Value)(p r:Int):List Value:=stC s tv++[lv,.int .i64 p,.int .i64 r]
structure Jh (tv:Tv):Prop where
 e:tv.e.oneCell'=true
 l:tv.l.oneCell'=true
 r:tv.r.oneCell'=true
theorem Jh.nul:Jh Tv.nul:=⟨rfl,rfl,rfl⟩
theorem Jh.st{tv:Tv}(h:Jh tv)(s:St):∀ u∈stC s tv,u.oneCell'=true:=by
 obtain ⟨h1,h2,h3⟩:=h
 intro u hu
 simp [stC] at hu
 rcases hu with rfl | rfl | rfl | rfl | rfl | rfl | rfl | rfl | rfl | rfl | rfl | rfl | rfl | rfl | rfl | rfl | rfl
 all_goals first | rfl | assumption
theorem Jh.gs{tv:Tv}(h:Jh tv)(s:St){lv:Value}(hl:lv.oneCell'=true)(p r:Int):∀ u∈gsC s tv lv p r,u.oneCell'=true:=by
 intro u hu
 rcases List.mem_append.1 hu with hu | hu
 ·exact h.st s u hu
 ·simp at hu
  rcases hu with rfl | rfl | rfl
  ·exact hl
  ·rfl
  ·rfl
theorem Qh:(Try.prog.info? 135).map (·.size)=some 20:=by kernel_rfl
theorem Qd:(Try.prog.info? 92).map (·.size)=some 2:=by kernel_rfl
theorem K0(w:World):(zeroValue 135).run Try.prog w=.ok (.agg #[.int .i64 0,.int .i64 0,.string ⟨#[]⟩,.int .i64 0,.bool false,.bool false,.string ⟨#[]⟩,.int .i64 0,.int .i64 0,
 .int .i64 0,.int .i64 0,.int .i64 0,.string ⟨#[]⟩,.string ⟨#[]⟩,.slice none 0 0,.slice none 0 0,.slice none 0 0,.slice none 0 0,.int .i64 0,.int .i64 0]) w:=by kernel_rfl
abbrev ryC (X:Ry):List Value:=[.string X.T,.slice X.A X.L.length X.c]
structure Fr (X:Ry) (w W:World) (ss os:List Value):Prop where
 vr:Var W w.heap.size (ryC X)
 vs:Var W (w.heap.size+1) ss
 vo:Var W (w.heap.size+2) os
 b:Below w.heap.size w W
section
variable {X:Ry} {w W W':World} {ss os:List Value}
theorem Fr.under(h:Fr X w W ss os)(hb:Below W.heap.size W W'):Fr X w W' ss os:=⟨h.vr.under hb,h.vs.under hb,h.vo.under hb,h.b.trans (hb.mono h.b.size)⟩
theorem Fr.set_s{us:List Value}(h:Fr X w W ss os)(ht:Tn (fun k=>k=w.heap.size+1) W W')(hv:Var W' (w.heap.size+1) us):Fr X w W' us os:=
 ⟨h.vr.turn ht (by omega),hv,h.vo.turn ht (by omega),h.b.trans (ht.below h.b.size fun k hk e=>by omega)⟩
theorem Fr.set_o{us:List Value}(h:Fr X w W ss os)(ht:Tn (fun k=>k=w.heap.size+2) W W')(hv:Var W' (w.heap.size+2) us):Fr X w W' ss us:=
 ⟨h.vr.turn ht (by omega),h.vs.turn ht (by omega),hv,h.b.trans (ht.below h.b.size fun k hk e=>by omega)⟩
theorem Fr.lt(h:Fr X w W ss os):w.heap.size+2<W.heap.size:=h.vo.lt
theorem Fr.set_n{G:Nat}(h:Fr X w W ss os)(ht:Tn (fun k=>k=G) W W')(hG:w.heap.size+2<G):Fr X w W' ss os:=
 ⟨h.vr.turn ht (by omega),h.vs.turn ht (by omega),h.vo.turn ht (by omega),h.b.trans (ht.below h.b.size fun k hk e=>by omega)⟩
end
theorem Qb2(X:Ry)(w:World)(s:St)(tv:Tv){c1 c2 c3:Array Value}(h1:c1=(ryC X).toArray)(h2:c2=(stC s tv).toArray)(h3:c3=(gsC St.nul Tv.nul Qk 0 0).toArray) :
  Fr X w (((w.alloc (.cells c1 92)).alloc (.cells c2 133)).alloc (.cells c3 135)) (stC s tv) (gsC St.nul Tv.nul Qk 0 0):=by
 have e1:(w.alloc (.cells c1 92)).heap.size=w.heap.size+1:=by simp
 have e2:((w.alloc (.cells c1 92)).alloc (.cells c2 133)).heap.size=w.heap.size+2:=by simp
 have v2:=Var.new (w.alloc (.cells c1 92)) (stC s tv) 133 h2
 have v3:=Var.new ((w.alloc (.cells c1 92)).alloc (.cells c2 133)) (gsC St.nul Tv.nul Qk 0 0) 135 h3
 rw [e1] at v2
 rw [e2] at v3
 exact ⟨((Var.new w (ryC X) 92 h1).under bAl).under bAl,v2.under bAl,v3,
  (((Below.refl _ w).alloc nLe _).alloc (by simp) _).alloc (by simp;omega) _⟩
def endC(R:Rw)(s:St)(tv:Tv)(p:Nat):List Value:=if R.is p [59]=true then gsC s tv Qk ((p:Int)+1) 0 else gsC St.nul Tv.nul Qk (p:Int) 11
theorem rEnd_any(X:Ry)(s:St)(tv:Tv)(ho:Jh tv)(p:Nat)(w:World)(h:X.In w w.heap.size)(hp:p≤X.L.length) :
  CP 89 #[X.val,.agg (stC s tv).toArray,.int .i64 (p:Int)] w fun e w'=>e=.returned (.agg (endC X.R s tv p).toArray)∧Below w.heap.size w w':=by
 have hz:=K0
 have hln:=h.2.len
 have HAT:Hid (∀ W,Below w.heap.size w W→CP 51 #[.agg (ryC X).toArray,.int .i64 (p:Int)] W fun e w'=>e=.returned (.string (X.R.wd p))∧Below W.heap.size W w'):=Lh fun W hW=>Qg X p W ((h.up hW nLe).more hW.size) (by omega)
 obtain ⟨g,hg⟩:∃ g,X.R.wd p=g:=⟨_,rfl⟩
 have hE:endC X.R s tv p=if (g.toList==[59])=true then gsC s tv Qk ((p:Int)+1) 0 else gsC St.nul Tv.nul Qk (p:Int) 11:=by rw [← hg];rfl
 rw [hE]
 rw [hg] at HAT
 have HO:=Lh ho
 have hfe:=Qb2 X w s tv (c1:=#[.string X.T,.slice X.A X.L.length X.c]) (c2:=#[.int .i64 s.k,.int .i64 s.a,.string s.nm,.int .i64 s.ty,.bool s.an.so,.bool s.an.lk,.string s.an.lb,.int .i64 s.an.fr,.int .i64 s.an.to,.int .i64 s.e.k,.int .i64 s.e.a,.int .i64 s.e.m,.string s.e.nm,.string s.e.lb,tv.e,tv.l,tv.r]) (c3:=#[.int .i64 0,.int .i64 0,.string ⟨#[]⟩,.int .i64 0,.bool false,.bool false,.string ⟨#[]⟩,.int .i64 0,.int .i64 0,.int .i64 0,.int .i64 0,.int .i64 0,.string ⟨#[]⟩,.string ⟨#[]⟩,.slice none 0 0,.slice none 0 0,.slice none 0 0,.slice none 0 0,.int .i64 0,.int .i64 0]) rfl rfl rfl
 have HF:=Lh hfe
 clear h hE hg ho hfe
 show CP 89 #[.agg #[.string X.T,.slice X.A X.L.length X.c],.agg #[.int .i64 s.k,.int .i64 s.a,.string s.nm,.int .i64 s.ty,.bool s.an.so,.bool s.an.lk,.string s.an.lb,.int .i64 s.an.fr,.int .i64 s.an.to,.int .i64 s.e.k,.int .i64 s.e.a,.int .i64 s.e.m,.string s.e.nm,.string s.e.lb,tv.e,tv.l,tv.r],.int .i64 (p:Int)] w _
 cases hc:(g.toList==[59]) with
 | false =>
  rw [if_neg (by decide)]
  go_enter Try.func89,Try.ntmps89
  go_wp2_with (first
   | (refine Qb rfl 92 (.tmp 3) rfl w.heap.size 0 rfl (ryC X) HF.out.vr.rg Try.underlying92 rfl Qd ?_)
   | (go_at_call 51;(with_reducible refine (HAT.out _ HF.out.b).mono ?_);rintro e w2 ⟨rfl,b2⟩;have HF:=Lh (HF.out.under b2);clear b2;dsimp only)
   | (refine Qa rfl 135 (.tmp 6) (.tmp 12) rfl (G:=w.heap.size+2) (off:=0) rfl (us:=gsC St.nul Tv.nul Qk (p:Int) 11) HF.out.vo rfl Qh (Nat.le_refl 20) (Jh.nul.gs _ rfl _ _) ?_;intro w3 ht hs;have HF:=Lh (HF.out.set_o (us:=gsC St.nul Tv.nul Qk (p:Int) 11) ht hs);clear ht hs)
   | fail)
  exact Qj 135 rfl rfl rfl HF.out.vo Try.underlying135 rfl Qh ⟨rfl,HF.out.b⟩
 | true =>
  rw [if_pos rfl]
  go_enter Try.func89,Try.ntmps89
  go_wp2_with (first
   | (refine Qb rfl 92 (.tmp 3) rfl w.heap.size 0 rfl (ryC X) HF.out.vr.rg Try.underlying92 rfl Qd ?_)
   | (refine Qb rfl 133 (.tmp 4) rfl (w.heap.size+1) 0 rfl (stC s tv) HF.out.vs.rg Try.underlying133 rfl Jy ?_;simp only [stC])
   | (go_at_call 51;(with_reducible refine (HAT.out _ HF.out.b).mono ?_);rintro e w2 ⟨rfl,b2⟩;have HF:=Lh (HF.out.under b2);clear b2;dsimp only)
   | (refine Qa rfl 135 (.tmp 6) (.tmp 16) rfl (G:=w.heap.size+2) (off:=0) rfl (us:=gsC s tv Qk ((p:Int)+1) 0) HF.out.vo rfl Qh (Nat.le_refl 20) (HO.out.gs _ rfl _ _) ?_;intro w3 ht hs;have HF:=Lh (HF.out.set_o (us:=gsC s tv Qk ((p:Int)+1) 0) ht hs);clear ht hs)
   | fail)
  exact Qj 135 rfl rfl rfl HF.out.vo Try.underlying135 rfl Qh ⟨rfl,HF.out.b⟩
theorem Qbi{w:World}{G:Nat}{a b:List Value}(h:w.rangeAt G 0 (a++b)):w.rangeAt G 0 a:=fun j v hv=>h j v (by rw [List.getElem?_append_left (List.getElem?_eq_some_iff.1 hv).1];exact hv)
theorem Z8(cs us:List Value){n:Nat}(hl:us.length=n)(hc:cs.length=n:=by rfl):spl cs 0 us=us:=by
 unfold spl
 rw [List.take_zero,List.nil_append,Nat.zero_add,hl,← hc,List.drop_length,List.append_nil]
def St.setE(s:St)(e:Ex):St:=.mk s.k s.a s.nm s.ty s.an e s.l s.r
def Qam(s:St)(tv:Tv)(x:Nat×Int):List Value:=if x.2=0 then gsC s tv Qk (x.1:Int) 0 else gsC St.nul Tv.nul Qk (x.1:Int) x.2
theorem ansC_ok{s:St}{tv:Tv}{x:Nat×Int}(h:x.2=0):Qam s tv x=gsC s tv Qk (x.1:Int) 0:=by unfold Qam;rw [if_pos h]
theorem Kg{s:St}{tv:Tv}{x:Nat×Int}(h:¬ x.2=0):Qam s tv x=gsC St.nul Tv.nul Qk (x.1:Int) x.2:=by unfold Qam;rw [if_neg h]
theorem Q6(s:St)(tv:Tv)(x:Nat×Int):(Qam s tv x).length=20:=by unfold Qam;split <;> rfl
theorem Uc{s:St}{tv:Tv}(h:Jh tv)(x:Nat×Int):∀ u∈Qam s tv x,u.oneCell'=true:=by
 unfold Qam
 split
 ·exact h.gs _ rfl _ _
 ·exact Jh.nul.gs _ rfl _ _
theorem Qhy(R:Rw)(p:Nat)(c:UInt8)(l:List UInt8):mu R (p,0) [⟨(c::l).toArray⟩]=if R.is p (c::l)=true then (p+1,0) else (p,11):=by
 cases h:R.is p (c::l) with
 | true=>rw [if_pos rfl];exact Qhr h
 | false=>rw [if_neg (by decide)];exact muz_no h
theorem endC_ans(R:Rw)(s:St)(tv:Tv)(p:Nat):endC R s tv p=Qam s tv (mu R (p,0) [Jr]):=by
 have e:mu R (p,0) [Jr]=if R.is p [59]=true then (p+1,0) else (p,11):=Qhy R p 59 []
 rw [e]
 unfold endC Qam
 by_cases h:R.is p [59]=true
 ·rw [if_pos h,if_pos h,if_pos rfl];rfl
 ·rw [if_neg h,if_neg h,if_neg (show ¬ (11:Int)=0 by decide)]
theorem rEnd'(X:Ry)(s:St)(tv:Tv)(ho:Jh tv)(p:Nat)(w:World)(h:X.In w w.heap.size)(hp:p≤X.L.length) :
  CP 89 #[.agg (ryC X).toArray,.agg (stC s tv).toArray,.int .i64 (p:Int)] w fun e w'=>e=.returned (.agg (Qam s tv (mu X.R (p,0) [Jr])).toArray)∧Below w.heap.size w w':=by
 rw [← endC_ans]
 exact rEnd_any X s tv ho p w h hp
def Qc3(R:Rw)(F:Nat)(x:Nat×Int):Ex×(Nat×Int):=((pex R F (mu R x [wEq])).1,mu R (pex R F (mu R x [wEq])).2 [Jr])
def SetTo(X:Ry)(s:St)(tv:Tv)(z:Ex×(Nat×Int))(w:World)(e:Ending)(w':World):Prop:=
 ∃ lv,e=.returned (.agg (Qam (s.setE z.1) ⟨lv,tv.l,tv.r⟩ z.2).toArray)∧lv.oneCell'=true∧(z.2.2=0→Shx w' (fun b=>w.heap.size≤b) lv z.1.l)∧Below w.heap.size w w'
theorem Qjb(X:Ry)(hX:X.Fit)(F:Nat)(hF:16*X.L.length+9≤F)(s:St)(tv:Tv)(ho:Jh tv)(p:Nat)(w:World)(h:X.In w w.heap.size)(hp:p≤X.L.length) :
  CP 90 #[.agg (ryC X).toArray,.agg (stC s tv).toArray,.int .i64 (p:Int)] w (SetTo X s tv (Qc3 X.R F (p,0)) w):=by
 have hz:=K0
 have hzg:=Q2
 have hln:=h.2.len
 have hok:=Qo X.T X.L
 have HIN:=Lh h
 have HAT:Hid (∀ W,Below w.heap.size w W→CP 51 #[.agg (ryC X).toArray,.int .i64 (p:Int)] W fun e w'=>e=.returned (.string (X.R.wd p))∧Below W.heap.size W w'):=Lh fun W hW=>Qg X p W ((h.up hW nLe).more hW.size) (by omega)
 obtain ⟨sg,hg⟩:∃ g,X.R.wd p=g:=⟨_,rfl⟩
 have hE:mu X.R (p,0) [wEq]=if (sg.toList==[61])=true then (p+1,0) else (p,11):=by rw [← hg];exact Qhy X.R p 61 []
 have hlt:(sg.toList==[61])=true→p<X.L.length:=fun he=>hok.is_lt (show X.R.is p [61]=true by unfold Rw.is;rw [hg];exact he)
 rw [hg] at HAT
 have HO:=Lh ho
 have hfe:=Qb2 X w s tv (c1:=#[.string X.T,.slice X.A X.L.length X.c]) (c2:=#[.int .i64 s.k,.int .i64 s.a,.string s.nm,.int .i64 s.ty,.bool s.an.so,.bool s.an.lk,.string s.an.lb,.int .i64 s.an.fr,.int .i64 s.an.to,.int .i64 s.e.k,.int .i64 s.e.a,.int .i64 s.e.m,.string s.e.nm,.string s.e.lb,tv.e,tv.l,tv.r]) (c3:=#[.int .i64 0,.int .i64 0,.string ⟨#[]⟩,.int .i64 0,.bool false,.bool false,.string ⟨#[]⟩,.int .i64 0,.int .i64 0,.int .i64 0,.int .i64 0,.int .i64 0,.string ⟨#[]⟩,.string ⟨#[]⟩,.slice none 0 0,.slice none 0 0,.slice none 0 0,.slice none 0 0,.int .i64 0,.int .i64 0]) rfl rfl rfl
 have HF:=Lh hfe
 clear h ho hfe hg
 show CP 90 #[.agg #[.string X.T,.slice X.A X.L.length X.c],.agg #[.int .i64 s.k,.int .i64 s.a,.string s.nm,.int .i64 s.ty,.bool s.an.so,.bool s.an.lk,.string s.an.lb,.int .i64 s.an.fr,.int .i64 s.an.to,.int .i64 s.e.k,.int .i64 s.e.a,.int .i64 s.e.m,.string s.e.nm,.string s.e.lb,tv.e,tv.l,tv.r],.int .i64 (p:Int)] w _
 cases hc:(sg.toList==[61]) with
 | false =>
  rw [hc,if_neg (by decide)] at hE
  have hS:Qc3 X.R F (p,0)=(Ex.nul,(p,11)):=by
   unfold Qc3 pex
   rw [hE]
   dsimp only
   rw [if_neg (show ¬ (11:Int)=0 by decide)]
   dsimp only
   rw [Y9 (show ¬ (11:Int)=0 by decide)]
  rw [hS]
  clear hlt hE hS
  go_enter Try.func90,Try.ntmps90
  go_wp2_with (first
   | (refine Qb rfl 92 (.tmp 3) rfl w.heap.size 0 rfl (ryC X) HF.out.vr.rg Try.underlying92 rfl Qd ?_)
   | (go_at_call 51;(with_reducible refine (HAT.out _ HF.out.b).mono ?_);rintro e w2 ⟨rfl,b2⟩;have HF:=Lh (HF.out.under b2);clear b2;dsimp only)
   | (refine Qa rfl 135 (.tmp 6) (.tmp 13) rfl (G:=w.heap.size+2) (off:=0) rfl (us:=gsC St.nul Tv.nul Qk ((p:Int)) (11)) HF.out.vo rfl Qh (Nat.le_refl 20) (Jh.nul.gs _ rfl _ _) ?_;intro w90 ht hs;have HF:=Lh (HF.out.set_o (us:=gsC St.nul Tv.nul Qk ((p:Int)) (11)) ht hs);clear ht hs)
   | fail)
  exact Qj 135 rfl rfl rfl HF.out.vo Try.underlying135 rfl Qh ⟨Qk,by rw [Kg (show ¬ (11:Int)=0 by decide)],rfl,fun h=>absurd h (show ¬ (11:Int)=0 by decide),HF.out.b⟩
 | true =>
  have hpl:=hlt hc
  rw [hc,if_pos rfl] at hE
  obtain ⟨g,hgg⟩:∃ g,rd X.R F (.lev 1) (p+1) 0=g:=⟨_,rfl⟩
  have hS:Qc3 X.R F (p,0)=(g.e,mu X.R (g.p,g.r) [Jr]):=by
   unfold Qc3 pex
   rw [hE]
   dsimp only
   rw [if_pos rfl]
   unfold exS
   rw [hgg]
  have hin:=Ko hok F (.lev 1) (p+1) 0 hpl (fun h=>by cases h)
  rw [hgg] at hin
  have hgp:g.p≤X.L.length:=hin.2.1
  have HEX:Hid (∀ W,Below w.heap.size w W→CP 70 #[.agg (ryC X).toArray,.int .i64 ((p:Int)+1),.int .i64 1,.int .i64 0] W (Yi W g)):=Lh fun W hW=>by
   rw [← hgg]
   exact (Kz X hX F).1 1 0 (p+1) W (by omega) (by omega) (by omega) (by omega) ((HIN.out.up hW nLe).more hW.size) (by omega)
  have HEN:Hid (∀ W s tv,Jh tv→Below w.heap.size w W→CP 89 #[.agg (ryC X).toArray,.agg (stC s tv).toArray,.int .i64 (g.p:Int)] W fun e w'=>e=.returned (.agg (Qam s tv (mu X.R (g.p,0) [Jr])).toArray)∧Below W.heap.size W w'):=Lh fun W s tv ho hW=>rEnd' X s tv ho g.p W ((HIN.out.up hW nLe).more hW.size) hgp
  rw [hS]
  clear hlt hE hS hgg hin
  go_enter Try.func90,Try.ntmps90
  go_wp2_with (first
   | (refine Qb rfl 92 (.tmp 3) rfl w.heap.size 0 rfl (ryC X) HF.out.vr.rg Try.underlying92 rfl Qd ?_)
   | (go_at_call 51;(with_reducible refine (HAT.out _ HF.out.b).mono ?_);rintro e w2 ⟨rfl,b2⟩;have HF:=Lh (HF.out.under b2);clear b2;dsimp only)
   | (go_at_call 70;(with_reducible refine (HEX.out _ HF.out.b).mono ?_);rintro e w3 ⟨lv,rfl,hx,b3⟩;have hwx:=HF.out.lt;have HF:=Lh (HF.out.under b3);have hone:=hx.one;have HX:=Lh (hx.weak (S':=fun b=>w.heap.size+2<b∧b≠w3.heap.size) (fun b hb h2=>⟨Nat.lt_of_lt_of_le hwx hb,Nat.ne_of_lt h2⟩));have hsz3:=b3.size;have hw3:=HF.out.lt;have HG:=Lh (Var.new w3 (gC Ex.nul (.slice none 0 0) 0 0) 138 rfl);have HF:=Lh (HF.out.under (bRf.alloc nLe (.cells z8 138)));have HX:=Lh (HX.out.under (bRf.alloc nLe (.cells z8 138)) (fun b _ hb=>hb));clear hx b3;dsimp only;refine Hid.out ?_)
   | fail)
  refine Lh ?_
  go_wp2_with (first
   | (refine Qa rfl 138 (.tmp 7) (.tmp 17) rfl (G:=w3.heap.size) (off:=0) rfl (us:=gC g.e lv (g.p:Int) g.r) HG.out rfl Yu (Nat.le_refl 8) (Qdx hone) ?_;intro w4 ht hs;have HG:=Lh (show Var w4 w3.heap.size (gC g.e lv (g.p:Int) g.r) from hs);have HX:=Lh (HX.out.turn (S':=fun b=>w.heap.size+2<b∧b≠w3.heap.size) ht (fun b hb _=>⟨hb,hb.2⟩));have HF:=Lh (HF.out.set_n ht (by omega));have hsz4:=ht.size;clear ht hs;refine Hid.out ?_)
   | fail)
  obtain ⟨G,hG⟩:∃ G,w3.heap.size=G:=⟨_,rfl⟩
  have HX:Hid (Shx w4 (fun b=>w.heap.size+2<b∧b≠G) lv g.e.l):=Lh (by rw [← hG];exact HX.out)
  have HG:Hid (Var w4 G (gC g.e lv (g.p:Int) g.r)):=Lh (by rw [← hG];exact HG.out)
  have hGw:w.heap.size+2<G:=by omega
  have k6:w4.cell? ⟨G,6,none⟩=some (.int .i64 (g.p:Int)):=HG.out.at 6 rfl
  have k7:w4.cell? ⟨G,7,none⟩=some (.int .i64 g.r):=HG.out.at 7 rfl
  rw [hG]
  clear hG
  by_cases hr:g.r=0
  ·have hr1:(g.r==0)=true:=by simp [hr]
   have hr2:(g.r != 0)=false:=by simp [hr]
   have hr3:decide (g.r=0)=true:=by simp [hr]
   refine Lh ?_
   go_wp2_with (first
   | (refine Qb rfl 81 (.tmp 26) rfl G 0 rfl (exC g.e lv) (Qbi HG.out.rg) Try.underlying81 rfl Z6 ?_)
   | (refine Qa rfl 81 (.tmp 28) (.tmp 27) rfl (G:=w.heap.size+1) (off:=9) rfl (us:=exC g.e lv) HF.out.vs rfl Z6 (by show 9+6≤17;omega) (Ym _ hone) ?_;intro w5 ht hs;have HF:=Lh (HF.out.set_s (us:=stC (s.setE g.e) ⟨lv,tv.l,tv.r⟩) ht hs);have HX:=Lh (HX.out.turn (S':=fun b=>w.heap.size+2<b∧b≠G) ht (fun b hb _=>⟨hb,by omega⟩));have HG:=Lh (HG.out.turn ht (by omega));have hto:Jh ⟨lv,tv.l,tv.r⟩:=⟨hone,HO.out.l,HO.out.r⟩;clear ht hs k6 k7;have k6:w5.cell? ⟨G,6,none⟩=some (.int .i64 (g.p:Int)):=HG.out.at 6 rfl;refine Hid.out ?_)
   | fail)
   refine Lh ?_
   go_wp2_with (first
   | (refine Qb rfl 92 (.tmp 3) rfl w.heap.size 0 rfl (ryC X) HF.out.vr.rg Try.underlying92 rfl Qd ?_)
   | (refine Qb rfl 133 (.tmp 4) rfl (w.heap.size+1) 0 rfl (stC (s.setE g.e) ⟨lv,tv.l,tv.r⟩) HF.out.vs.rg Try.underlying133 rfl Jy ?_)
   | (go_at_call 89;(with_reducible refine (HEN.out _ _ _ hto HF.out.b).mono ?_);rintro e w6 ⟨rfl,b6⟩;have HF:=Lh (HF.out.under b6);have HX:=Lh (HX.out.under b6 (fun b _ hb=>hb));clear b6;dsimp only)
   | (refine Qa rfl 135 (.tmp 6) (.tmp 33) rfl (G:=w.heap.size+2) (off:=0) rfl (us:=Qam (s.setE g.e) ⟨lv,tv.l,tv.r⟩ (mu X.R (g.p,0) [Jr])) HF.out.vo rfl (by rw [List.size_toArray,Q6];exact Qh) (by rw [Q6];exact Nat.le_refl 20) (Uc hto _) ?_;intro w90 ht hs;have HX:=Lh (HX.out.turn (S':=fun b=>w.heap.size+2<b∧b≠G) ht (fun b hb _=>⟨hb,by omega⟩));have HF:=Lh (HF.out.set_o (us:=Qam (s.setE g.e) ⟨lv,tv.l,tv.r⟩ (mu X.R (g.p,0) [Jr])) ht (by rw [Z8 _ _ (Q6 _ _ _)] at hs;exact hs));clear ht hs)
   | fail)
   have hsr:mu X.R (g.p,g.r) [Jr]=mu X.R (g.p,0) [Jr]:=by rw [hr]
   exact Qj 135 rfl rfl rfl HF.out.vo Try.underlying135 rfl (by rw [Q6];exact Qh) ⟨lv,by rw [hsr],hone,fun _=>HX.out.weak (fun b hb _=>by omega),HF.out.b⟩
  ·have hr1:(g.r==0)=false:=by simp [hr]
   have hr2:(g.r != 0)=true:=by simp [hr]
   have hr3:decide (g.r=0)=false:=by simp [hr]
   refine Lh ?_
   go_wp2_with (first
   | (refine Qa rfl 135 (.tmp 6) (.tmp 25) rfl (G:=w.heap.size+2) (off:=0) rfl (us:=gsC St.nul Tv.nul Qk ((g.p:Int)) (g.r)) HF.out.vo rfl Qh (Nat.le_refl 20) (Jh.nul.gs _ rfl _ _) ?_;intro w90 ht hs;have HF:=Lh (HF.out.set_o (us:=gsC St.nul Tv.nul Qk ((g.p:Int)) (g.r)) ht hs);clear ht hs)
   | fail)
   exact Qj 135 rfl rfl rfl HF.out.vo Try.underlying135 rfl Qh ⟨lv,by rw [Y9 hr,Kg hr],hone,fun h=>absurd h (by rw [Y9 hr];exact hr),HF.out.b⟩
def tyI(R:Rw)(p:Nat):Int:=if R.is p lInt=true then 0 else if R.is p Qkd=true then 1 else -1
theorem Qco(X:Ry)(p:Nat)(w:World)(h:X.In w w.heap.size)(hp:p≤1000010) :
  CP 66 #[.agg (ryC X).toArray,.int .i64 (p:Int)] w fun e w'=>e=.returned (.int .i64 (tyI X.R p))∧Below w.heap.size w w':=by
 have HAT:Hid (∀ W,Below w.heap.size w W→CP 51 #[.agg (ryC X).toArray,.int .i64 (p:Int)] W fun e w'=>e=.returned (.string (X.R.wd p))∧Below W.heap.size W w'):=Lh fun W hW=>Qg X p W ((h.up hW nLe).more hW.size) (by omega)
 obtain ⟨sg,hg⟩:∃ g,X.R.wd p=g:=⟨_,rfl⟩
 have hE:tyI X.R p=if (sg.toList==lInt)=true then 0 else if (sg.toList==Qkd)=true then 1 else -1:=by rw [← hg];rfl
 rw [hg] at HAT
 rw [hE]
 have HV:=Lh (show Var (w.alloc (.cells #[.string X.T,.slice X.A X.L.length X.c] 92)) w.heap.size (ryC X) from Var.new w (ryC X) 92 rfl)
 have HB:=Lh ((Below.refl _ w).alloc nLe (.cells #[.string X.T,.slice X.A X.L.length X.c] 92))
 clear h hg hE
 show CP 66 #[.agg #[.string X.T,.slice X.A X.L.length X.c],.int .i64 (p:Int)] w _
 cases h1:(sg.toList==lInt) with
 | true =>
  rw [if_pos rfl]
  go_enter Try.func66,Try.ntmps66
  go_wp2_with (first
   | (refine Qb rfl 92 (.tmp 2) rfl w.heap.size 0 rfl (ryC X) HV.out.rg Try.underlying92 rfl Qd ?_)
   | (go_at_call 51;(with_reducible refine (HAT.out _ HB.out).mono ?_);rintro e w2 ⟨rfl,b2⟩;have HV:=Lh (HV.out.under b2);have HB:=Lh (bTr HB b2);clear b2;dsimp only)
   | fail)
  go_ret
  exact ⟨rfl,HB.out⟩
 | false =>
  rw [if_neg (by decide)]
  cases h2:(sg.toList==Qkd) with
  | true =>
   rw [if_pos rfl]
   go_enter Try.func66,Try.ntmps66
   go_wp2_with (first
    | (refine Qb rfl 92 (.tmp 2) rfl w.heap.size 0 rfl (ryC X) HV.out.rg Try.underlying92 rfl Qd ?_)
    | (go_at_call 51;(with_reducible refine (HAT.out _ HB.out).mono ?_);rintro e w2 ⟨rfl,b2⟩;have HV:=Lh (HV.out.under b2);have HB:=Lh (bTr HB b2);clear b2;dsimp only)
    | fail)
   go_ret
   exact ⟨rfl,HB.out⟩
  | false =>
   rw [if_neg (by decide)]
   go_enter Try.func66,Try.ntmps66
   go_wp2_with (first
    | (refine Qb rfl 92 (.tmp 2) rfl w.heap.size 0 rfl (ryC X) HV.out.rg Try.underlying92 rfl Qd ?_)
    | (go_at_call 51;(with_reducible refine (HAT.out _ HB.out).mono ?_);rintro e w2 ⟨rfl,b2⟩;have HV:=Lh (HV.out.under b2);have HB:=Lh (bTr HB b2);clear b2;dsimp only)
    | fail)
   go_ret
   exact ⟨rfl,HB.out⟩
def mkC(m:An×(Nat×Int)):List Value:=anC m.1++[.int .i64 (m.2.1:Int),.int .i64 m.2.2]
theorem K1(m:An×(Nat×Int)):∀ u∈mkC m,u.oneCell'=true:=by
 intro u hu
 rcases List.mem_append.1 hu with hu | hu
 ·exact Qhs _ u hu
 ·simp at hu
  rcases hu with rfl | rfl <;> rfl
theorem Zz:(Try.prog.info? 130).map (·.size)=some 7:=by kernel_rfl
theorem Qmp(w:World):(zeroValue 130).run Try.prog w=.ok (.agg #[.bool false,.bool false,.string ⟨#[]⟩,.int .i64 0,.int .i64 0,.int .i64 0,.int .i64 0]) w:=by kernel_rfl
structure Fm (X:Ry) (w W:World) (os:List Value):Prop where
 vr:Var W w.heap.size (ryC X)
 vo:Var W (w.heap.size+1) os
 b:Below w.heap.size w W
theorem Fm.under{X:Ry}{w W W':World}{os:List Value}(h:Fm X w W os)(hb:Below W.heap.size W W'):Fm X w W' os:=⟨h.vr.under hb,h.vo.under hb,h.b.trans (hb.mono h.b.size)⟩
theorem Fm.set_o{X:Ry}{w W W':World}{os us:List Value}(h:Fm X w W os)(ht:Tn (fun k=>k=w.heap.size+1) W W')(hv:Var W' (w.heap.size+1) us):Fm X w W' us:=
 ⟨h.vr.turn ht (by omega),hv,h.b.trans (ht.below h.b.size fun k hk e=>by omega)⟩
theorem fm_entry(X:Ry)(w:World):Fm X w ((w.alloc (.cells #[.string X.T,.slice X.A X.L.length X.c] 92)).alloc (.cells #[.bool false,.bool false,.string ⟨#[]⟩,.int .i64 0,.int .i64 0,.int .i64 0,.int .i64 0] 130)) (mkC (An.nul,(0,0))):=by
 have e1:(w.alloc (.cells #[.string X.T,.slice X.A X.L.length X.c] 92)).heap.size=w.heap.size+1:=by simp
 have v2:=Var.new (w.alloc (.cells #[.string X.T,.slice X.A X.L.length X.c] 92)) (mkC (An.nul,(0,0))) 130 (c:=#[.bool false,.bool false,.string ⟨#[]⟩,.int .i64 0,.int .i64 0,.int .i64 0,.int .i64 0]) rfl
 rw [e1] at v2
 exact ⟨(Var.new w (ryC X) 92 rfl).under bAl,v2,((Below.refl _ w).alloc nLe _).alloc (by simp) _⟩
theorem Ry.end_at(X:Ry){w:World}{U p:Nat}(h:X.In w U)(hp:p+1≤X.L.length):∃ (b off x:Nat) (y:Nat),X.A=some ⟨b,off,none⟩∧b<U∧X.R.ps p=(x:Int)∧X.R.en (p+1)=(y:Int)∧y≤1000000 ∧
  w.cell? ⟨b,off+p*3+1,none⟩=some (.int .i64 (x:Int))∧w.cell? ⟨b,off+p*3+2,none⟩=some (.int .i64 (y:Int)):=by
 obtain ⟨b,off,x,y,hA,hbU,hps,hxy,hy,hwd,c0,c1,c2⟩:=X.at_ h (i:=p) (by omega)
 refine ⟨b,off,x,y,hA,hbU,hps,?_,?_,c1,c2⟩
 ·have e1:X.R.en (p+1)=X.R.ps p+((X.R.wd p).size:Int):=by unfold Rw.en;rw [if_neg (Nat.succ_ne_zero p)];rfl
  rw [e1,hps,← hwd,ByteArray.size_extract]
  omega
 ·have:=h.2.sz
  omega
theorem Qhz(X:Ry)(hm:∀ i,(X.R.wd i).size≤1000000)(p:Nat)(hp:p+1≤X.L.length)(w:World)(h:X.In w w.heap.size) :
  CP 67 #[.agg (ryC X).toArray,.int .i64 ((p:Int)+1)] w fun e w'=>e=.returned (.agg (mkC (Yz X.R (p+1))).toArray)∧Below w.heap.size w w':=by
 have hz:=Qmp
 have hln:=h.2.len
 have hszT:=h.2.sz
 have HIN:=Lh h
 have HAT:Hid (∀ W,Below w.heap.size w W→CP 51 #[.agg (ryC X).toArray,.int .i64 ((p:Int)+1)] W fun e w'=>e=.returned (.string (X.R.wd (p+1)))∧Below W.heap.size W w'):=Lh fun W hW=>Qg X (p+1) W ((h.up hW nLe).more hW.size) (by omega)
 have HAT1:Hid (∀ W,Below w.heap.size w W→CP 51 #[.agg (ryC X).toArray,.int .i64 ((p:Int)+1+1)] W fun e w'=>e=.returned (.string (X.R.wd ((p+1)+1)))∧Below W.heap.size W w'):=Lh fun W hW=>Qg X ((p+1)+1) W ((h.up hW nLe).more hW.size) (by omega)
 have HID:Hid (∀ W,CP 45 #[.string (X.R.wd ((p+1)+1))] W fun e w'=>e=.returned (.bool (X.R.idn ((p+1)+1)))∧Below W.heap.size W w'):=Lh fun W=>Q1 (X.R.wd ((p+1)+1)) W (hm _)
 have HF:=Lh (fm_entry X w)
 obtain ⟨sg,hg⟩:∃ g,X.R.wd (p+1)=g:=⟨_,rfl⟩
 have HSG:=Lh hg
 rw [hg] at HAT
 clear hg
 obtain ⟨b,off,x,y,hA,hbU,hps,hen,hy,k1,k2⟩:=X.end_at h hp
 have HK:Hid (∀ W,Below w.heap.size w W→W.cell? ⟨b,off+p*3+2,none⟩=some (.int .i64 (y:Int))):=Lh fun W hW=>(World.cell?_of_block (a:=⟨b,_,none⟩) (hW.block b hbU)).trans k2
 have hpI:(p:Int)<(X.L.length:Int):=by omega
 have hpN:p<X.L.length:=hp
 have g1:=HF.out.vr.at 1 (v:=.slice (some ⟨b,off,none⟩) X.L.length X.c) (by rw [← hA];rfl)
 have g2:=HK.out _ HF.out.b
 have HA:=Lh hA
 clear hA hps k1 k2
 clear h
 show CP 67 #[.agg #[.string X.T,.slice X.A X.L.length X.c],.int .i64 ((p:Int)+1)] w _
 go_enter Try.func67,Try.ntmps67
 go_wp2_with (first
  | (refine Qb rfl 92 (.tmp 2) rfl w.heap.size 0 rfl (ryC X) HF.out.vr.rg Try.underlying92 rfl Qd ?_)
  | (go_at_call 51;(with_reducible refine (HAT.out _ HF.out.b).mono ?_);rintro e w2 ⟨rfl,b2⟩;have HF:=Lh (HF.out.under b2);clear b2;dsimp only;refine Hid.out ?_)
  | fail)
 clear g1 g2
 have HIA:Hid (X.R.is (p+1) [64,61]=(sg.toList==[64,61])):=Lh (by rw [← HSG.out];rfl)
 have HIB:Hid (X.R.is (p+1) [64]=(sg.toList==[64])):=Lh (by rw [← HSG.out];rfl)
 cases c1:(sg.toList==[64]) with
 | true =>
  have c2:(sg.toList==[64,61])=false:=by
   have e:sg.toList=[64]:=by simpa using c1
   rw [e];rfl
  cases hid:X.R.idn ((p+1)+1) with
  | false =>
   have hM:Yz X.R (p+1)=(An.nul,(((p+1)+1),11)):=by
    unfold Yz
    rw [if_pos (by rw [HIA.out,HIB.out,c1,c2];decide),if_neg (by rw [hid];decide)]
   have HM:=Lh hM
   clear hM
   rw [hid] at HID
   refine Lh ?_
   go_wp2_with (first
    | (refine Qb rfl 92 (.tmp 2) rfl w.heap.size 0 rfl (ryC X) HF.out.vr.rg Try.underlying92 rfl Qd ?_)
    | (go_at_call 51;(with_reducible refine (HAT1.out _ HF.out.b).mono ?_);rintro e w3 ⟨rfl,b2⟩;have HF:=Lh (HF.out.under b2);clear b2;dsimp only)
    | (go_at_call 45;(with_reducible refine (HID.out _).mono ?_);rintro e w4 ⟨rfl,b2⟩;have HF:=Lh (HF.out.under b2);clear b2;dsimp only)
    | (refine Qa rfl 130 (.tmp 4) (.tmp 38) rfl (G:=w.heap.size+1) (off:=0) rfl (us:=mkC (An.nul,(((p+1)+1),11))) HF.out.vo rfl Zz (Nat.le_refl 7) (K1 _) ?_;intro w90 ht hs;have HF:=Lh (HF.out.set_o (us:=mkC (An.nul,(((p+1)+1),11))) ht hs);clear ht hs)
    | fail)
   exact Qj 130 rfl rfl rfl HF.out.vo Try.underlying130 rfl Zz ⟨by rw [HM.out],HF.out.b⟩
  | true =>
   have hlt:=(Qo X.T X.L).id_lt hid
   obtain ⟨b2,off2,x2,y2,hA2,hbU2,hps2,hen2,hy2,l1,l2⟩:=X.end_at (p:=((p+1)+1)) HIN.out hlt
   have hM:Yz X.R (p+1)=(⟨true,false,X.R.wd ((p+1)+1),(x2:Int),(y2:Int)⟩,((p+1)+2,0)):=by
    unfold Yz
    rw [if_pos (by rw [HIA.out,HIB.out,c1,c2];decide),if_pos hid,HIA.out,c2,hps2,hen2]
   have HM:=Lh hM
   rw [hid] at HID
   have HL:Hid (∀ W,Below w.heap.size w W→W.cell? ⟨b2,off2+((p+1)+1)*3+1,none⟩=some (.int .i64 (x2:Int))∧W.cell? ⟨b2,off2+((p+1)+1)*3+2,none⟩=some (.int .i64 (y2:Int))):=Lh fun W hW=>⟨(World.cell?_of_block (a:=⟨b2,_,none⟩) (hW.block b2 hbU2)).trans l1,(World.cell?_of_block (a:=⟨b2,_,none⟩) (hW.block b2 hbU2)).trans l2⟩
   have HR1:Hid (∀ W os,Fm X w W os→W.cell? ⟨w.heap.size,0,none⟩=some (.string X.T)∧W.cell? ⟨w.heap.size,1,none⟩=some (.slice (some ⟨b2,off2,none⟩) X.L.length X.c)):=Lh fun W os h=>⟨h.vr.at 0 rfl,by have:=h.vr.at 1 rfl;rwa [hA2] at this⟩
   have hin2:((p:Int)+1+1)<(X.L.length:Int):=by have:((p+1)+1)<X.L.length:=hlt;omega
   have hin3:((p+1)+1)<X.L.length:=hlt
   have hry:ryC X=[.string X.T,.slice (some ⟨b2,off2,none⟩) X.L.length X.c]:=by unfold ryC;rw [hA2]
   have HAT3:Hid (∀ W,Below w.heap.size w W→CP 51 #[.agg #[.string X.T,.slice (some ⟨b2,off2,none⟩) X.L.length X.c],.int .i64 ((p:Int)+1+1)] W fun e w'=>e=.returned (.string (X.R.wd ((p+1)+1)))∧Below W.heap.size W w'):=Lh fun W hW=>by
    have:=HAT1.out W hW
    rw [hry] at this
    exact this
   have HA2:=Lh hA2
   clear hry
   clear hps2 hen2 l1 l2 hM hid
   refine Lh ?_
   go_wp2_with (first
    | (refine Qb rfl 92 (.tmp 2) rfl w.heap.size 0 rfl (ryC X) HF.out.vr.rg Try.underlying92 rfl Qd ?_)
    | (go_at_call 51;(with_reducible refine (HAT1.out _ HF.out.b).mono ?_);rintro e w3 ⟨rfl,b2⟩;have HF:=Lh (HF.out.under b2);clear b2;dsimp only)
    | (go_at_call 45;(with_reducible refine (HID.out _).mono ?_);rintro e w4 ⟨rfl,b2⟩;have HF:=Lh (HF.out.under b2);clear b2;dsimp only)
    | fail)
   have HF:=Lh (HF.out.under (Qi _ _))
   obtain ⟨SS,hSd⟩:∃ SS:World→Prop,SS=fun W=>(W.cell? ⟨w.heap.size,0,none⟩=some (.string X.T)∧W.cell? ⟨w.heap.size,1,none⟩=some (.slice (some ⟨b2,off2,none⟩) X.L.length X.c))∧W.cell? ⟨b2,off2+((p+1)+1)*3+1,none⟩=some (.int .i64 (x2:Int))∧W.cell? ⟨b2,off2+((p+1)+1)*3+2,none⟩=some (.int .i64 (y2:Int)):=⟨_,rfl⟩
   have HS:Hid (∀ W os,Fm X w W os→SS W):=Lh fun W os h=>by rw [hSd];exact ⟨HR1.out W os h,HL.out W h.b⟩
   have hSF:∀ W,SS W→(W.cell? ⟨w.heap.size,0,none⟩=some (.string X.T)∧W.cell? ⟨w.heap.size,1,none⟩=some (.slice (some ⟨b2,off2,none⟩) X.L.length X.c))∧W.cell? ⟨b2,off2+((p+1)+1)*3+1,none⟩=some (.int .i64 (x2:Int))∧W.cell? ⟨b2,off2+((p+1)+1)*3+2,none⟩=some (.int .i64 (y2:Int)):=by rw [hSd];exact fun W h=>h
   have s0:∀ s:SW SS,s.w.cell? ⟨w.heap.size,0,none⟩=some (.string X.T):=fun s=>(hSF _ s.h).1.1
   have s1:∀ s:SW SS,s.w.cell? ⟨w.heap.size,1,none⟩=some (.slice (some ⟨b2,off2,none⟩) X.L.length X.c):=fun s=>(hSF _ s.h).1.2
   have s2:∀ s:SW SS,s.w.cell? ⟨b2,off2+((p+1)+1)*3+1,none⟩=some (.int .i64 (x2:Int)):=fun s=>(hSF _ s.h).2.1
   have s3:∀ s:SW SS,s.w.cell? ⟨b2,off2+((p+1)+1)*3+2,none⟩=some (.int .i64 (y2:Int)):=fun s=>(hSF _ s.h).2.2
   have hS0:=HS.out _ _ HF.out
   clear hSd hSF
   refine Yd (by kernel_rfl) 25 rfl SS 24 ?_
   refine Ji 0 5 20 (by kernel_rfl) (fun _ _ d _ _ h=>by cases d <;> exact h) hS0 (fun hne=>?_)
   simp only [sD,sE,sF,sG]
   repeat (go_big_quiet_step (fail))
   refine wpQuiet_nil ?_
   refine Ji 6 14 6 (by kernel_rfl) (fun _ _ d _ _ h=>by cases d <;> exact h) hS0 (fun hne=>?_)
   simp only [sD,sE,sF,sG]
   repeat (go_big_quiet_step (fail))
   refine wpQuiet_nil ?_
   refine Ji 21 2 4 (by kernel_rfl) (fun _ _ d _ _ h=>by cases d <;> exact h) hS0 (fun hne=>?_)
   simp only [sD,sE,sF,sG]
   repeat (go_big_quiet_step (fail))
   refine wpQuiet_nil ?_
   refine Uz (i:=5) (fuel:=3) (by kernel_rfl) rfl (fun KK hKK=>?_)
   go_simp
   with_reducible refine (HAT3.out _ HF.out.b).mono ?_
   rintro e wz ⟨rfl,bb⟩
   have HF:=Lh (HF.out.under bb)
   clear bb hS0
   have hS0:=HS.out _ _ HF.out
   refine hKK _ _ hS0 ?_
   clear hKK KK
   refine Ji 20 1 2 (by kernel_rfl) (fun _ _ d _ _ h=>by cases d <;> exact h) hS0 (fun hne=>?_)
   simp only [sD,sE,sF,sG]
   repeat (go_big_quiet_step (fail))
   refine wpQuiet_nil ?_
   refine Ji 23 1 1 (by kernel_rfl) (fun _ _ d _ _ h=>by cases d <;> exact h) hS0 (fun hne=>?_)
   simp only [sD,sE,sF,sG]
   repeat (go_big_quiet_step (fail))
   refine wpQuiet_nil ?_
   refine Qbz (fuel:=0) (by kernel_rfl) (by kernel_rfl) rfl (fun KK hKK=>?_)
   refine Z2 rfl 130 (.tmp 4) (.tmp 62) rfl (w.heap.size+1) 0 (mkC (⟨true,false,X.R.wd ((p+1)+1),(x2:Int),(y2:Int)⟩,((p+1)+2,0))) rfl rfl (HF.out.vo.there (Nat.le_refl 7)) Zz (K1 _) ?_
   have ht:=Tn.sets (M:=fun k=>k=w.heap.size+1) (w.heap.size+1) (mkC (⟨true,false,X.R.wd ((p+1)+1),(x2:Int),(y2:Int)⟩,((p+1)+2,0))) rfl 0 wz
   have hs:=HF.out.vo.sets 0 (mkC (⟨true,false,X.R.wd ((p+1)+1),(x2:Int),(y2:Int)⟩,((p+1)+2,0))) (Nat.le_refl 7)
   have HF:=Lh (HF.out.set_o (us:=mkC (⟨true,false,X.R.wd ((p+1)+1),(x2:Int),(y2:Int)⟩,((p+1)+2,0))) ht hs)
   refine hKK _ _ ?_
   clear hKK KK s0 s1 s2 s3 HS hS0 ht hs
   simp only [Act.put,sA,sB,sC]
   go_wp2_with fail
   exact Qj 130 rfl rfl rfl HF.out.vo Try.underlying130 rfl Zz ⟨by rw [HM.out],HF.out.b⟩
 | false =>
  cases c2:(sg.toList==[64,61]) with
  | true =>
   cases hid:X.R.idn ((p+1)+1) with
   | false =>
    have hM:Yz X.R (p+1)=(An.nul,(((p+1)+1),11)):=by
     unfold Yz
     rw [if_pos (by rw [HIA.out,HIB.out,c1,c2];decide),if_neg (by rw [hid];decide)]
    have HM:=Lh hM
    clear hM
    rw [hid] at HID
    refine Lh ?_
    go_wp2_with (first
     | (refine Qb rfl 92 (.tmp 2) rfl w.heap.size 0 rfl (ryC X) HF.out.vr.rg Try.underlying92 rfl Qd ?_)
     | (go_at_call 51;(with_reducible refine (HAT1.out _ HF.out.b).mono ?_);rintro e w3 ⟨rfl,b2⟩;have HF:=Lh (HF.out.under b2);clear b2;dsimp only)
     | (go_at_call 45;(with_reducible refine (HID.out _).mono ?_);rintro e w4 ⟨rfl,b2⟩;have HF:=Lh (HF.out.under b2);clear b2;dsimp only)
     | (refine Qa rfl 130 (.tmp 4) (.tmp 38) rfl (G:=w.heap.size+1) (off:=0) rfl (us:=mkC (An.nul,(((p+1)+1),11))) HF.out.vo rfl Zz (Nat.le_refl 7) (K1 _) ?_;intro w90 ht hs;have HF:=Lh (HF.out.set_o (us:=mkC (An.nul,(((p+1)+1),11))) ht hs);clear ht hs)
     | fail)
    exact Qj 130 rfl rfl rfl HF.out.vo Try.underlying130 rfl Zz ⟨by rw [HM.out],HF.out.b⟩
   | true =>
    have hlt:=(Qo X.T X.L).id_lt hid
    obtain ⟨b2,off2,x2,y2,hA2,hbU2,hps2,hen2,hy2,l1,l2⟩:=X.end_at (p:=((p+1)+1)) HIN.out hlt
    have hM:Yz X.R (p+1)=(⟨true,true,X.R.wd ((p+1)+1),(x2:Int),(y2:Int)⟩,((p+1)+2,0)):=by
     unfold Yz
     rw [if_pos (by rw [HIA.out,HIB.out,c1,c2];decide),if_pos hid,HIA.out,c2,hps2,hen2]
    have HM:=Lh hM
    rw [hid] at HID
    have HL:Hid (∀ W,Below w.heap.size w W→W.cell? ⟨b2,off2+((p+1)+1)*3+1,none⟩=some (.int .i64 (x2:Int))∧W.cell? ⟨b2,off2+((p+1)+1)*3+2,none⟩=some (.int .i64 (y2:Int))):=Lh fun W hW=>⟨(World.cell?_of_block (a:=⟨b2,_,none⟩) (hW.block b2 hbU2)).trans l1,(World.cell?_of_block (a:=⟨b2,_,none⟩) (hW.block b2 hbU2)).trans l2⟩
    have HR1:Hid (∀ W os,Fm X w W os→W.cell? ⟨w.heap.size,0,none⟩=some (.string X.T)∧W.cell? ⟨w.heap.size,1,none⟩=some (.slice (some ⟨b2,off2,none⟩) X.L.length X.c)):=Lh fun W os h=>⟨h.vr.at 0 rfl,by have:=h.vr.at 1 rfl;rwa [hA2] at this⟩
    have hin2:((p:Int)+1+1)<(X.L.length:Int):=by have:((p+1)+1)<X.L.length:=hlt;omega
    have hin3:((p+1)+1)<X.L.length:=hlt
    have hry:ryC X=[.string X.T,.slice (some ⟨b2,off2,none⟩) X.L.length X.c]:=by unfold ryC;rw [hA2]
    have HAT3:Hid (∀ W,Below w.heap.size w W→CP 51 #[.agg #[.string X.T,.slice (some ⟨b2,off2,none⟩) X.L.length X.c],.int .i64 ((p:Int)+1+1)] W fun e w'=>e=.returned (.string (X.R.wd ((p+1)+1)))∧Below W.heap.size W w'):=Lh fun W hW=>by
     have:=HAT1.out W hW
     rw [hry] at this
     exact this
    have HA2:=Lh hA2
    clear hry
    clear hps2 hen2 l1 l2 hM hid
    refine Lh ?_
    go_wp2_with (first
     | (refine Qb rfl 92 (.tmp 2) rfl w.heap.size 0 rfl (ryC X) HF.out.vr.rg Try.underlying92 rfl Qd ?_)
     | (go_at_call 51;(with_reducible refine (HAT1.out _ HF.out.b).mono ?_);rintro e w3 ⟨rfl,b2⟩;have HF:=Lh (HF.out.under b2);clear b2;dsimp only)
     | (go_at_call 45;(with_reducible refine (HID.out _).mono ?_);rintro e w4 ⟨rfl,b2⟩;have HF:=Lh (HF.out.under b2);clear b2;dsimp only)
     | fail)
    have HF:=Lh (HF.out.under (Qi _ _))
    obtain ⟨SS,hSd⟩:∃ SS:World→Prop,SS=fun W=>(W.cell? ⟨w.heap.size,0,none⟩=some (.string X.T)∧W.cell? ⟨w.heap.size,1,none⟩=some (.slice (some ⟨b2,off2,none⟩) X.L.length X.c))∧W.cell? ⟨b2,off2+((p+1)+1)*3+1,none⟩=some (.int .i64 (x2:Int))∧W.cell? ⟨b2,off2+((p+1)+1)*3+2,none⟩=some (.int .i64 (y2:Int)):=⟨_,rfl⟩
    have HS:Hid (∀ W os,Fm X w W os→SS W):=Lh fun W os h=>by rw [hSd];exact ⟨HR1.out W os h,HL.out W h.b⟩
    have hSF:∀ W,SS W→(W.cell? ⟨w.heap.size,0,none⟩=some (.string X.T)∧W.cell? ⟨w.heap.size,1,none⟩=some (.slice (some ⟨b2,off2,none⟩) X.L.length X.c))∧W.cell? ⟨b2,off2+((p+1)+1)*3+1,none⟩=some (.int .i64 (x2:Int))∧W.cell? ⟨b2,off2+((p+1)+1)*3+2,none⟩=some (.int .i64 (y2:Int)):=by rw [hSd];exact fun W h=>h
    have s0:∀ s:SW SS,s.w.cell? ⟨w.heap.size,0,none⟩=some (.string X.T):=fun s=>(hSF _ s.h).1.1
    have s1:∀ s:SW SS,s.w.cell? ⟨w.heap.size,1,none⟩=some (.slice (some ⟨b2,off2,none⟩) X.L.length X.c):=fun s=>(hSF _ s.h).1.2
    have s2:∀ s:SW SS,s.w.cell? ⟨b2,off2+((p+1)+1)*3+1,none⟩=some (.int .i64 (x2:Int)):=fun s=>(hSF _ s.h).2.1
    have s3:∀ s:SW SS,s.w.cell? ⟨b2,off2+((p+1)+1)*3+2,none⟩=some (.int .i64 (y2:Int)):=fun s=>(hSF _ s.h).2.2
    have hS0:=HS.out _ _ HF.out
    clear hSd hSF
    refine Yd (by kernel_rfl) 25 rfl SS 24 ?_
    refine Ji 0 5 20 (by kernel_rfl) (fun _ _ d _ _ h=>by cases d <;> exact h) hS0 (fun hne=>?_)
    simp only [sD,sE,sF,sG]
    repeat (go_big_quiet_step (fail))
    refine wpQuiet_nil ?_
    refine Ji 6 14 6 (by kernel_rfl) (fun _ _ d _ _ h=>by cases d <;> exact h) hS0 (fun hne=>?_)
    simp only [sD,sE,sF,sG]
    repeat (go_big_quiet_step (fail))
    refine wpQuiet_nil ?_
    refine Ji 21 2 4 (by kernel_rfl) (fun _ _ d _ _ h=>by cases d <;> exact h) hS0 (fun hne=>?_)
    simp only [sD,sE,sF,sG]
    repeat (go_big_quiet_step (fail))
    refine wpQuiet_nil ?_
    refine Uz (i:=5) (fuel:=3) (by kernel_rfl) rfl (fun KK hKK=>?_)
    go_simp
    with_reducible refine (HAT3.out _ HF.out.b).mono ?_
    rintro e wz ⟨rfl,bb⟩
    have HF:=Lh (HF.out.under bb)
    clear bb hS0
    have hS0:=HS.out _ _ HF.out
    refine hKK _ _ hS0 ?_
    clear hKK KK
    refine Ji 20 1 2 (by kernel_rfl) (fun _ _ d _ _ h=>by cases d <;> exact h) hS0 (fun hne=>?_)
    simp only [sD,sE,sF,sG]
    repeat (go_big_quiet_step (fail))
    refine wpQuiet_nil ?_
    refine Ji 23 1 1 (by kernel_rfl) (fun _ _ d _ _ h=>by cases d <;> exact h) hS0 (fun hne=>?_)
    simp only [sD,sE,sF,sG]
    repeat (go_big_quiet_step (fail))
    refine wpQuiet_nil ?_
    refine Qbz (fuel:=0) (by kernel_rfl) (by kernel_rfl) rfl (fun KK hKK=>?_)
    refine Z2 rfl 130 (.tmp 4) (.tmp 62) rfl (w.heap.size+1) 0 (mkC (⟨true,true,X.R.wd ((p+1)+1),(x2:Int),(y2:Int)⟩,((p+1)+2,0))) rfl rfl (HF.out.vo.there (Nat.le_refl 7)) Zz (K1 _) ?_
    have ht:=Tn.sets (M:=fun k=>k=w.heap.size+1) (w.heap.size+1) (mkC (⟨true,true,X.R.wd ((p+1)+1),(x2:Int),(y2:Int)⟩,((p+1)+2,0))) rfl 0 wz
    have hs:=HF.out.vo.sets 0 (mkC (⟨true,true,X.R.wd ((p+1)+1),(x2:Int),(y2:Int)⟩,((p+1)+2,0))) (Nat.le_refl 7)
    have HF:=Lh (HF.out.set_o (us:=mkC (⟨true,true,X.R.wd ((p+1)+1),(x2:Int),(y2:Int)⟩,((p+1)+2,0))) ht hs)
    refine hKK _ _ ?_
    clear hKK KK s0 s1 s2 s3 HS hS0 ht hs
    simp only [Act.put,sA,sB,sC]
    go_wp2_with fail
    exact Qj 130 rfl rfl rfl HF.out.vo Try.underlying130 rfl Zz ⟨by rw [HM.out],HF.out.b⟩
  | false =>
   have hM:Yz X.R (p+1)=(⟨false,false,⟨#[]⟩,(y:Int),(y:Int)⟩,((p+1),0)):=by
    unfold Yz
    rw [if_neg (by rw [HIA.out,HIB.out,c1,c2];decide),show X.R.en (p+1)=(y:Int) from hen]
   have HM:=Lh hM
   clear hM
   refine Lh ?_
   go_wp2_with (first
    | (refine Qa rfl 130 (.tmp 4) (.tmp 29) rfl (G:=w.heap.size+1) (off:=0) rfl (us:=mkC (⟨false,false,⟨#[]⟩,(y:Int),(y:Int)⟩,((p+1),0))) HF.out.vo rfl Zz (Nat.le_refl 7) (K1 _) ?_;intro w90 ht hs;have HF:=Lh (HF.out.set_o (us:=mkC (⟨false,false,⟨#[]⟩,(y:Int),(y:Int)⟩,((p+1),0))) ht hs);clear ht hs)
    | fail)
   exact Qj 130 rfl rfl rfl HF.out.vo Try.underlying130 rfl Zz ⟨by rw [HM.out],HF.out.b⟩
end Go.Proofs.Ytjoclbeoafeebaa
