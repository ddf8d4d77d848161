import Derived.Test.YtjoclbeoafeebaaSq
import Derived.Test.YtjoclbeoafeebaaRfV
set_option maxHeartbeats 1600000
set_option maxRecDepth 100000
namespace Go.Proofs.Ytjoclbeoafeebaa
set_option linter.unusedVariables false
set_option linter.unusedSimpArgs false
open Go.RowKit
theorem wds10{X:Ry}{T:ByteArray}{bs:List Int}(hT:X.T=T)(hL:X.L=Yr bs 0)(hb:bts T=bs)(hm:T.size≤1000000):∀ i,(X.R.wd i).size≤1000000:=by
 have hn:bs.length≤1000000:=by rw [← hb,J3];exact hm
 have hok:=Qej hb hn
 rw [← hL,← hT] at hok
 exact fun i=>Qho hok i
theorem Qnw{T:ByteArray}{bs:List Int}(hb:bts T=bs)(hm:T.size≤1000000):0≤(Qfu (Yr bs 0)).2.1:=by
 have hn:bs.length≤1000000:=by rw [← hb,J3];exact hm
 have hok:=Qej hb hn
 unfold Qfu
 cases h:(Yr bs 0).find? fun t=>t.1==5 with
 | none=>exact Int.le_refl _
 | some t=>exact (hok.tok t (List.mem_of_find?_eq_some h)).1
section
variable {P:Program} {ops:Array Oper} {Q:Exit→Act→World→Prop} {md:Region.Mode} {S:World→Prop} {z:Nat}
theorem Qnx{L:List Oper}(i:Nat){o:Oper}{fuel:Nat}{ls:Array Bool}{a:Act}{w:World}(v:Value)(hB:(Ql7 md L.toArray z&&Region.noSelect L.toArray&&(Region.ready md L.toArray ls).contains i&&Region.free md L.toArray ls i&&(i != z))=true)
  (hQ:∀ c (a:Act) d v w,Q (.panic c) (a.put d v) w→Q (.panic c) a w) (ho:L[i]?=some o) (hS:S w) (hy:YieldsIf P L.toArray S o v a)
  (h:wpL P md L.toArray Q S z fuel (ls.setIfInBounds i true) (a.put o.dst v) w):wpL P md L.toArray Q S z (fuel+1) ls a w:=fun hd=>by
 simp only [Bool.and_eq_true,bne_iff_ne,ne_eq] at hB
 obtain ⟨⟨⟨⟨hu,hs⟩,hr⟩,hf⟩,hiz⟩:=hB
 have h0:L.toArray[i]?=some o:=by simpa using ho
 have hr':i∈Region.ready md L.toArray ls:=by simpa using hr
 exact Kc hu hiz h0 (Region.noSelect_spec hs) (fun c a' w' hp=>hQ c _ _ _ w' hp) fuel ls a w hd (Region.free_spec h0 hf) hr' hy hS (h (hd.set hr'))
end
structure PF (X:Ry) (m:MoT) (v:MoV) (w:World) (Rb Mb:Nat) (W:World):Prop where
 b:Below w.heap.size w W
 vo:Var W w.heap.size (moC false false MoV.nul)
 vr:Var W Rb (ryC X)
 vm:Var W Mb (moC m.hl m.he v)
 ms:Zx W (fun b=>Mb<b) m v
 xi:X.In W Rb
section
variable {X:Ry} {m m':MoT} {v v':MoV} {w W W':World} {Rb Mb:Nat}
theorem PF.under(h:PF X m v w Rb Mb W)(hb:Below W.heap.size W W'):PF X m v w Rb Mb W':=
 ⟨h.b.trans (hb.mono h.b.size),h.vo.under hb,h.vr.under hb,h.vm.under hb,h.ms.under hb,h.xi.up hb (Nat.le_of_lt h.vr.lt)⟩
theorem PF.xin(h:PF X m v w Rb Mb W):X.In W W.heap.size:=h.xi.more (Nat.le_of_lt h.vr.lt)
theorem PF.set_m(h:PF X m v w Rb Mb W)(ht:Tn (fun k=>k=Mb) W W')(hv:Var W' Mb (moC m'.hl m'.he v'))(hs:Zx W (fun b=>Mb<b) m' v')(h1:w.heap.size<Rb)(h2:Rb<Mb):PF X m' v' w Rb Mb W':=
 ⟨h.b.trans (ht.below h.b.size fun k hk e=>by omega),h.vo.turn ht (by omega),h.vr.turn ht (by omega),hv,hs.turn ht fun b hb _=>⟨hb,by omega⟩,h.xi.up (ht.below (Nat.le_of_lt h.vr.lt) fun k hk e=>by omega) nLe⟩
theorem gt_mo{mo vv:List Value}{L P:Value}{a r:Int}{G:Nat}(h:Var W G (gt mo L vv P a r)):W.rangeAt G 0 mo:=fun j u hu =>
 h.rg j u (by unfold gt;rw [List.getElem?_append_left (List.getElem?_eq_some_iff.1 hu).1];exact hu)
end
theorem Qib(T:ByteArray)(bs:List Int)(w:World)(hb:bts T=bs)(hm:T.size≤1000000)(F f:Nat)(hf:T.size+1≤f)(HFN:∀ X:Ry,X.T=T→X.L=Yr bs 0→RFnC X F f) :
  CP 22 #[.string T] w (FpTo (Qck (Qax T (Yr bs 0)) (Yr bs 0) T.size F f) w):=by
 have hz:=Qbg
 have hz2:=Yp
 have hzr:=Qml
 have hl:bs.length=T.size:=by rw [← hb,J3]
 have hll:=Qby bs
 have hbp:=Qnw hb hm
 have HBD:Hid (∀ W,CP 35 #[.string T] W fun e w'=>e=.returned (.int .i64 (if Qhk (Yr bs 0)=true then (Qfu (Yr bs 0)).2.1 else -1))∧Below W.heap.size W w'):=Lh fun W=>rBad_any T bs W hb hm
 have HNW:Hid (∀ W,CP 36 #[.string T] W (RNewTo T bs W)):=Lh fun W=>rNew_any T bs W hb hm
 have HFT:Hid (∀ X:Ry,X.T=T→X.L=Yr bs 0→(∀ i,(X.R.wd i).size≤1000000)∧RFnC X F f):=Lh fun X h1 h2=>⟨wds10 h1 h2 hb hm,HFN X h1 h2⟩
 obtain ⟨Y,hY⟩:∃ Y,Qck (Qax T (Yr bs 0)) (Yr bs 0) T.size F f=Y:=⟨_,rfl⟩
 rw [hY]
 have HY:=Lh hY
 have HL:=Lh hl
 have B1:Hid (Below w.heap.size w (w.alloc (.cells #[.slice none 0 0,.bool false,.slice none 0 0,.bool false,.slice none 0 0,.slice none 0 0,.slice none 0 0] 51))):=Lh bAl
 have JV:Hid (Var (w.alloc (.cells #[.slice none 0 0,.bool false,.slice none 0 0,.bool false,.slice none 0 0,.slice none 0 0,.slice none 0 0] 51)) w.heap.size (moC false false MoV.nul)):=Lh (Var.new w (moC false false MoV.nul) 51 rfl)
 clear hb hY hl HFN
 by_cases hlong:16384<T.size
 ·have HR:Hid (Y=(MoT.nul,16384,3)):=Lh (by rw [← HY.out];unfold Qck;rw [if_pos hlong])
  have d1:decide ((16384:Int)<(T.size:Int))=true:=decide_eq_true (by omega)
  have d2:(16384:Int)<(T.size:Int):=by omega
  clear HY HNW HBD HFT
  go_enter Try.func22,Try.ntmps22
  go_wp2_with (first
   | (refine Qa rfl 51 (.tmp 2) (.tmp 13) rfl (G:=w.heap.size) (off:=0) rfl (us:=moC false false MoV.nul) JV.out rfl Q7 (Nat.le_refl 7) (Zt (m:=MoT.nul) rfl rfl rfl rfl rfl) ?_;intro w3 ht hs;have B1:=Lh (B1.out.trans (ht.below B1.out.size (fun k hk e=>by omega)));have JV:=Lh (show Var w3 w.heap.size (moC false false MoV.nul) from hs);clear ht hs)
   | fail)
  rw [HR.out]
  exact Qes 51 rfl rfl rfl rfl rfl JV.out Try.underlying51 rfl Q7 ⟨MoV.nul,rfl,Zx.nul,B1.out⟩
 ·have d1:decide ((16384:Int)<(T.size:Int))=false:=decide_eq_false (by omega)
  have d2:¬ (16384:Int)<(T.size:Int):=by omega
  cases hbd:Qhk (Yr bs 0) with
  | true =>
   obtain ⟨q,hq⟩:∃ q,(Qfu (Yr bs 0)).2.1=q:=⟨_,rfl⟩
   rw [hbd,if_pos rfl,hq] at HBD
   rw [hq] at hbp
   have HR:Hid (Y=(MoT.nul,q,10)):=Lh (by rw [← HY.out,← hq];unfold Qck;rw [if_neg hlong,if_pos hbd])
   clear hbd hq HY HNW HFT
   go_enter Try.func22,Try.ntmps22
   go_wp2_with (first
    | (go_at_call 35;(with_reducible refine (HBD.out _).mono ?_);rintro e w2 ⟨rfl,b⟩;have JV:=Lh (JV.out.under b);have B1:=Lh (bTr B1 b);clear b;dsimp only)
    | (refine Qa rfl 51 (.tmp 2) (.tmp 18) rfl (G:=w.heap.size) (off:=0) rfl (us:=moC false false MoV.nul) JV.out rfl Q7 (Nat.le_refl 7) (Zt (m:=MoT.nul) rfl rfl rfl rfl rfl) ?_;intro w3 ht hs;have B1:=Lh (B1.out.trans (ht.below B1.out.size (fun k hk e=>by omega)));have JV:=Lh (show Var w3 w.heap.size (moC false false MoV.nul) from hs);clear ht hs)
    | fail)
   rw [HR.out]
   exact Qes 51 rfl rfl rfl rfl rfl JV.out Try.underlying51 rfl Q7 ⟨MoV.nul,rfl,Zx.nul,B1.out⟩
  | false =>
   rw [hbd,if_neg (by decide)] at HBD
   go_enter Try.func22,Try.ntmps22
   go_wp2_with (first
    | (go_at_call 35;(with_reducible refine (HBD.out _).mono ?_);rintro e w2 ⟨rfl,b⟩;have JV:=Lh (JV.out.under b);have B1:=Lh (bTr B1 b);clear b;dsimp only)
    | (go_at_call 36;(with_reducible refine (HNW.out _).mono ?_);rintro e w3 ⟨X,rfl,hXT,hXL,hXI,b⟩;have JV:=Lh (JV.out.under b);have B1:=Lh (bTr B1 b);have JI:=Lh hXI;clear b hXI;dsimp only;refine Hid.out ?_)
    | fail)
   have hR:X.R=Qax T (Yr bs 0):=by show Qax X.T X.L=_;rw [hXT,hXL]
   have hXn:X.L.length≤T.size:=by rw [hXL];have:=HL.out;omega
   have hXf:X.L.length<f:=by omega
   obtain ⟨hws,hfn⟩:=HFT.out X hXT hXL
   obtain ⟨g,hg⟩:∃ g,Qdv X.R F f f MoT.nul (0,0)=g:=⟨_,rfl⟩
   have HR:Hid (Y=if g.2.2=0 then (g.1,X.R.ps g.2.1,0) else (MoT.nul,X.R.ps g.2.1,g.2.2)):=Lh (by
    rw [← HY.out,← hg,hR]
    unfold Qck
    rw [if_neg hlong,if_neg (show ¬ Qhk (Yr bs 0)=true by rw [hbd];decide)])
   have HG0:=Lh hg
   have HIT:Hid (∀ (p:Nat) (m:MoT) (v:MoV) (S:Nat→Prop) (W:World),(∀ b,S b→b<W.heap.size)→Zx W S m v→X.In W W.heap.size→p<X.L.length→m.Cap p→CP 37 #[.agg (ryC X).toArray,.agg (moC m.hl m.he v).toArray,.int .i64 (p:Int)] W (Qfj S (fit X.R F f m p) W)):=Lh fun p m v S W h1 h2 h3 h4 h5=>item_any X hws F f p m v S W h1 h2 h3 h4 hXf h5 hfn
   have HCP:Hid (∀ (p:Nat) (m:MoT),p<X.L.length→m.Cap p→(fit X.R F f m p).2.2=0→(fit X.R F f m p).1.Cap (fit X.R F f m p).2.1∧p<(fit X.R F f m p).2.1∧(fit X.R F f m p).2.1≤X.L.length):=Lh fun p m h1 h2 h3=>Qnc (Qo X.T X.L) h1 h2 h3
   have HUP:Hid (∀ (p:Nat) (m:MoT),p≤X.L.length→(fit X.R F f m p).2.1≤X.L.length):=Lh fun p m h=>(fit_up (Qo X.T X.L) F f m (p:=p) h).n
   have HON:Hid (∀ (k p:Nat) (m:MoT),¬ p=X.L.length→Qdv X.R F f (k+1) m (p,0)=Qdv X.R F f k (fit X.R F f m p).1 (fit X.R F f m p).2):=Lh fun k p m h=>fits_on (show ¬ p=X.R.n from h)
   have HEN:Hid (∀ (k p:Nat) (m:MoT) (r:Int),¬ (r=0∧¬ p=X.L.length)→Qdv X.R F f k m (p,r)=(m,(p,r))):=Lh fun k p m r h=>Qi5 h
   have HPO:Hid (∀ (p:Nat) W,p≤X.L.length→X.In W W.heap.size→CP 38 #[.agg (ryC X).toArray,.int .i64 (p:Int)] W fun e w'=>e=.returned (.int .i64 (X.R.ps p))∧Below W.heap.size W w'):=Lh fun p W h hW=>Qz X p W hW (by omega)
   have hps:X.R.ps X.L.length=(T.size:Int):=by
    show (Qax X.T X.L).ps X.L.length=_
    rw [← hXT]
    simp [Qax]
   have HPS:=Lh hps
   have HR1:Hid (∀ u∈ryC X,u.oneCell'=true):=Lh (by
    intro u hu
    simp at hu
    rcases hu with rfl | rfl <;> rfl)
   have hw3:w.heap.size<w3.heap.size:=JV.out.lt
   clear hg hbd hXT hXL hR HY hws hfn HFT HNW HBD hps
   refine Lh ?_
   go_wp2_with (first
    | (refine Qa rfl 92 (.tmp 6) (.tmp 21) rfl (G:=w3.heap.size) (off:=0) rfl (us:=ryC X) (Var.new w3 [.string ⟨#[]⟩,.slice none 0 0] 92 rfl) rfl Qd (Nat.le_refl 2) HR1.out ?_;intro w4 ht hs;have ta:=Tn.alloc (fun k=>k=w3.heap.size) w3 (.cells #[.string ⟨#[]⟩,.slice none 0 0] 92);have tb:=ta.trans ht;have bb:=tb.below nLe (by intro k hk e;omega);have JV:=Lh (JV.out.under bb);have B1:=Lh (bTr B1 bb);have JI:=Lh (JI.out.up bb nLe);have JR:=Lh (show Var w4 w3.heap.size (ryC X) from hs);clear ht hs ta tb bb)
    | (refine Qa rfl 51 (.tmp 7) (.tmp 22) rfl (G:=w4.heap.size) (off:=0) rfl (us:=moC false false MoV.nul) (Var.new w4 (moC false false MoV.nul) 51 rfl) rfl Q7 (Nat.le_refl 7) (Zt (m:=MoT.nul) rfl rfl rfl rfl rfl) ?_;intro w5 ht hs;have ta:=Tn.alloc (fun k=>k=w4.heap.size) w4 (.cells #[.slice none 0 0,.bool false,.slice none 0 0,.bool false,.slice none 0 0,.slice none 0 0,.slice none 0 0] 51);have tb:=ta.trans ht;have bb:=tb.below nLe (by intro k hk e;omega);have hR4:=JR.out.lt;have HF:Hid (PF X MoT.nul MoV.nul w w3.heap.size w4.heap.size w5):=Lh ⟨bTr B1 bb,JV.out.under bb,JR.out.under bb,hs,Zx.nul,JI.out.up bb (Nat.le_of_lt hR4)⟩;clear ht hs ta tb bb;refine Hid.out ?_)
    | fail)
   obtain ⟨Rb,hRb⟩:∃ Rb,w3.heap.size=Rb:=⟨_,rfl⟩
   obtain ⟨Mb,hMb⟩:∃ Mb,w4.heap.size=Mb:=⟨_,rfl⟩
   have HF:Hid (PF X MoT.nul MoV.nul w Rb Mb w5):=Lh (by rw [← hRb,← hMb];exact HF.out)
   have h1:w.heap.size<Rb:=by rw [← hRb];exact hw3
   have h2:Rb<Mb:=by rw [← hRb,← hMb];exact hR4
   rw [hRb,hMb]
   clear hRb hMb hw3 hR4 JR JI JV B1
   refine Lh ?_
   go_wp2_with fail
   go_loopw [8] (fun a wr=>∃ (p k:Nat) (m:MoT) (v:MoV),a=.int .i64 (p:Int)∧p≤X.L.length∧X.L.length-p<k∧m.Cap p∧Hid (Qdv X.R F f k m (p,0)=g)∧Hid (PF X m v w Rb Mb wr)) (fun a _=>X.L.length-(intOf a).toNat)
   case atStart=>exact ⟨0,f,MoT.nul,MoV.nul,rfl,Nat.zero_le _,by omega,MoT.nul_cap,HG0,HF⟩
   case round =>
    clear HF HG0
    obtain ⟨p,k,m,v,rfl,hp,hk,hcp,HG,HF⟩:=hrel
    have r1:wr.cell? ⟨Rb,1,none⟩=some (.slice X.A X.L.length X.c):=HF.out.vr.at 1 rfl
    by_cases hpn:p<X.L.length
    ·have hlt1:(p:Int)<(X.L.length:Int):=by omega
     have hlt2:decide ((p:Int)<(X.L.length:Int))=true:=decide_eq_true hlt1
     obtain ⟨k,rfl⟩:∃ k',k=k'+1:=⟨k-1,by omega⟩
     have HG2:=Lh ((HON.out k p m (by omega)).symm.trans HG.out)
     have hml:=HF.out.vm.lt
     have hit:=HIT.out p m v (fun b=>Mb<b∧b<wr.heap.size) wr (fun b hb=>hb.2) (HF.out.ms.weak fun b hb h=>⟨hb,h⟩) HF.out.xin hpn hcp
     have hcap:=HCP.out p m hpn hcp
     have hle:=HUP.out p m (by omega)
     obtain ⟨⟨m',q,r⟩,hy⟩:∃ y,fit X.R F f m p=y:=⟨_,rfl⟩
     rw [hy] at hit HG2 hcap hle
     have HII:=Lh hit
     have HCA:=Lh hcap
     have HLE:Hid (q≤X.L.length):=Lh hle
     clear hy hit hcap hle HIT HCP HUP HON
     go_wp2_with (first
      | (refine Qb rfl 92 (.tmp 6) rfl Rb 0 rfl (ryC X) HF.out.vr.rg Try.underlying92 rfl Qd ?_)
      | (refine Qb rfl 51 (.tmp 7) rfl Mb 0 rfl (moC m.hl m.he v) HF.out.vm.rg Try.underlying51 rfl Q7 ?_)
      | (go_at_call 37;(with_reducible refine HII.out.mono ?_);rintro e w7 ⟨v',rfl,hone,hsh,bb⟩;have HSH:=Lh (fun e=>(hsh e).weak (S':=fun b=>Mb<b∧b<w7.heap.size) fun b hb h2=>(by rcases hb with hb | hb;exact ⟨hb.1,h2⟩;exact ⟨by omega,h2⟩));have HF:=Lh (HF.out.under bb);have hmg:=HF.out.vm.lt;have HONE:=Lh hone;clear bb hsh hone r1;dsimp only)
      | (refine Qa rfl 95 (.tmp 9) (.tmp 31) rfl (G:=w7.heap.size) (off:=0) rfl (us:=mtC (m',(q,r)) v') (Var.new w7 (gtE 0 0) 95 (c:=#[.slice none 0 0,.bool false,.slice none 0 0,.bool false,.slice none 0 0,.slice none 0 0,.slice none 0 0,.slice none 0 0,.string ⟨#[]⟩,.int .i64 0,.int .i64 0,.bool false,.bool false,.string ⟨#[]⟩,.int .i64 0,.int .i64 0,.slice none 0 0,.int .i64 0,.int .i64 0]) rfl) rfl (by rw [List.size_toArray,Zp];exact Qc) (by rw [Zp];exact Nat.le_refl 19) (Qe4 HONE.out) ?_;intro w8 ht hs;have ta:=Tn.alloc (fun k=>k=w7.heap.size) w7 (.cells #[.slice none 0 0,.bool false,.slice none 0 0,.bool false,.slice none 0 0,.slice none 0 0,.slice none 0 0,.slice none 0 0,.string ⟨#[]⟩,.int .i64 0,.int .i64 0,.bool false,.bool false,.string ⟨#[]⟩,.int .i64 0,.int .i64 0,.slice none 0 0,.int .i64 0,.int .i64 0] 95);have tb:=ta.trans ht;have bb:=tb.below nLe (by intro k hk e;omega);have HF:=Lh (HF.out.under bb);have HSH:=Lh (fun e=>(HSH.out e).turn (S':=fun b=>Mb<b) tb fun b hb _=>⟨hb.1,by omega⟩);have HG:=Lh (show Var w8 w7.heap.size (mtC (m',(q,r)) v') by rw [Z8 _ _ (Zp _ _)] at hs;exact hs);clear ht hs ta tb bb;refine Hid.out ?_)
      | fail)
     obtain ⟨G,hGe⟩:∃ G,w7.heap.size=G:=⟨_,rfl⟩
     rw [hGe] at hmg
     have HG:Hid (Var w8 G (mtC (m',(q,r)) v')):=Lh (by rw [← hGe];exact HG.out)
     rw [hGe]
     clear hGe
     by_cases hr:r=0
     ·subst hr
      have HG:Hid (Var w8 G (gt (moC m'.hl m'.he v') Qk (vrC VrT.nul) Qk (q:Int) 0)):=HG
      have HSH:Hid (Zx w8 (fun b=>Mb<b) m' v'):=Lh (HSH.out rfl)
      obtain ⟨hc2,hq1,hq2⟩:=HCA.out rfl
      have HC2:=Lh hc2
      have j18:w8.cell? ⟨G,18,none⟩=some (.int .i64 0):=HG.out.at 18 rfl
      clear HCA HII hc2 HLE
      refine Lh ?_
      go_wp2_with (first
       | (refine Qb rfl 51 (.tmp 42) rfl G 0 rfl (moC m'.hl m'.he v') (gt_mo HG.out) Try.underlying51 rfl Q7 ?_)
       | (refine Qa rfl 51 (.tmp 7) (.tmp 43) rfl (G:=Mb) (off:=0) rfl (us:=moC m'.hl m'.he v') HF.out.vm rfl Q7 (Nat.le_refl 7) (HSH.out.one _ _) ?_;intro w9 ht hs;have HG:=Lh (HG.out.turn ht (by omega));have HF:Hid (PF X m' v' w Rb Mb w9):=Lh (HF.out.set_m ht (show Var w9 Mb (moC m'.hl m'.he v') from hs) HSH.out h1 h2);clear ht hs j18;have j17:w9.cell? ⟨G,17,none⟩=some (.int .i64 (q:Int)):=HG.out.at 17 rfl)
       | fail)
      go_roundw
      case rel=>exact ⟨q,k,m',v',rfl,hq2,by omega,HC2.out,HG2,HF⟩
      case measure =>
       simp only [intOf,Int.toNat_natCast]
       omega
     ·have e0:mtC (m',(q,r)) v'=gtE (q:Int) r:=by unfold mtC;dsimp only;rw [if_neg hr]
      have HG:Hid (Var w8 G (gtE (q:Int) r)):=Lh (by rw [← e0];exact HG.out)
      have hgx:g=(m',(q,r)):=HG2.out.symm.trans (HEN.out k q m' r fun h=>hr h.1)
      have HR2:Hid (Y=(MoT.nul,X.R.ps q,r)):=Lh (by rw [HR.out,hgx,if_neg hr])
      have j18:w8.cell? ⟨G,18,none⟩=some (.int .i64 r):=HG.out.at 18 rfl
      have hr1:(r==0)=false:=by simp [hr]
      have hr2:decide (r=0)=false:=by simp [hr]
      have hr3:(r != 0)=true:=by simp [hr]
      have hpo:=fun W h=>HPO.out q W HLE.out h
      have HPQ:=Lh hpo
      clear HR hgx HSH e0 HCA HII HG2 hpo
      refine Lh ?_
      go_wp2_with fail
      have HF:=Lh (show PF X m v w Rb Mb w8.drew from HF.out.under (Qi _ _))
      have HG:=Lh (show Var w8.drew G (gtE (q:Int) r) from HG.out.under (Qi _ _))
      obtain ⟨S,hSd⟩:∃ S:World→Prop,S=fun V=>V.rangeAt Rb 0 (ryC X)∧V.cell? ⟨G,17,none⟩=some (.int .i64 (q:Int))∧V.cell? ⟨G,18,none⟩=some (.int .i64 r):=⟨_,rfl⟩
      have hSF:∀ V,S V→V.rangeAt Rb 0 (ryC X)∧V.cell? ⟨G,17,none⟩=some (.int .i64 (q:Int))∧V.cell? ⟨G,18,none⟩=some (.int .i64 r):=by rw [hSd];exact fun W h=>h
      have s17:∀ sw:SW S,sw.w.cell? ⟨G,17,none⟩=some (.int .i64 (q:Int)):=fun sw=>(hSF _ sw.h).2.1
      have s18:∀ sw:SW S,sw.w.cell? ⟨G,18,none⟩=some (.int .i64 r):=fun sw=>(hSF _ sw.h).2.2
      have sK:∀ V,S V→V.rangeAt Rb 0 (ryC X):=fun V h=>(hSF V h).1
      have HS:Hid (∀ V,Var V Rb (ryC X)→Var V G (gtE (q:Int) r)→S V):=Lh fun V h h'=>by rw [hSd];exact ⟨h.rg,h'.at 17 rfl,h'.at 18 rfl⟩
      have hS0:=HS.out _ HF.out.vr HG.out
      clear hSd hSF j18
      try dsimp only [Act.put]
      refine Yd (by kernel_rfl) 10 rfl S 9 ?_
      refine Ji 0 1 9 (by kernel_rfl) (fun _ _ d _ _ h=>by cases d <;> exact h) hS0 (fun hne=>?_)
      simp only [sD,sE,sF,sG]
      repeat (go_big_quiet_step (fail))
      refine wpQuiet_nil ?_
      refine Qnx 1 (fuel:=8) (.agg (ryC X).toArray) (by kernel_rfl) (fun _ _ d _ _ h=>by cases d <;> exact h) rfl hS0 (yieldsIf_load_mid rfl 92 (.tmp 6) rfl Rb 0 rfl (ryC X) _ sK Try.underlying92 rfl Qd) ?_
      simp only [Act.put,sA,sB,sC]
      refine Ji 2 2 6 (by kernel_rfl) (fun _ _ d _ _ h=>by cases d <;> exact h) hS0 (fun hne=>?_)
      simp only [sD,sE,sF,sG]
      repeat (go_big_quiet_step (fail))
      refine wpQuiet_nil ?_
      refine Ji 5 2 4 (by kernel_rfl) (fun _ _ d _ _ h=>by cases d <;> exact h) hS0 (fun hne=>?_)
      simp only [sD,sE,sF,sG]
      repeat (go_big_quiet_step (fail))
      refine wpQuiet_nil ?_
      refine Uz (i:=4) (fuel:=3) (by kernel_rfl) rfl (fun KK hKK=>?_)
      go_simp
      with_reducible refine (HPQ.out _ HF.out.xin).mono ?_
      rintro e wz ⟨rfl,b⟩
      have HF:=Lh (HF.out.under b)
      have HG:=Lh (HG.out.under b)
      clear b
      refine hKK _ _ (HS.out _ HF.out.vr HG.out) ?_
      clear hKK KK
      refine Uz (i:=7) (fuel:=2) (by kernel_rfl) rfl (fun KK hKK=>?_)
      refine Z2 rfl 51 (.tmp 2) (.tmp 35) rfl w.heap.size 0 (moC false false MoV.nul) rfl rfl (HF.out.vo.there (Nat.le_refl 7)) Q7 (Zt (m:=MoT.nul) rfl rfl rfl rfl rfl) ?_
      have ht:=Tn.sets (M:=fun k=>k=w.heap.size) w.heap.size (moC false false MoV.nul) rfl 0 wz
      have hsv:=HF.out.vo.sets 0 (moC false false MoV.nul) (Nat.le_refl 7)
      have B6:=Lh (HF.out.b.trans (ht.below HF.out.b.size (fun k hk e=>by omega)))
      have HRV:=Lh (HF.out.vr.turn ht (by omega))
      have HG:=Lh (HG.out.turn ht (by omega))
      obtain ⟨WW,hWW⟩:∃ WW,wz.setCells w.heap.size 0 (moC false false MoV.nul)=WW:=⟨_,rfl⟩
      rw [hWW] at hsv B6 HRV HG ⊢
      have JV:Hid (Var WW w.heap.size (moC false false MoV.nul)):=Lh hsv
      refine hKK _ _ (HS.out _ HRV.out HG.out) ?_
      clear hKK KK hWW ht hsv
      simp only [Act.put,sA,sB,sC]
      refine Uz (i:=8) (fuel:=1) (by kernel_rfl) rfl (fun KK hKK=>?_)
      go_simp
      refine hKK _ _ (HS.out _ HRV.out HG.out) ?_
      clear hKK KK
      refine Qbz (fuel:=0) (by kernel_rfl) (by kernel_rfl) rfl (fun KK hKK=>?_)
      go_simp
      refine hKK _ _ ?_
      clear hKK KK
      go_wp2_with fail
      rw [HR2.out]
      exact Qes 51 rfl rfl rfl rfl rfl JV.out Try.underlying51 rfl Q7 ⟨MoV.nul,rfl,Zx.nul,B6.out⟩
    ·have hlt1:¬ (p:Int)<(X.L.length:Int):=by omega
     have hlt2:decide ((p:Int)<(X.L.length:Int))=false:=decide_eq_false hlt1
     have hpe:p=X.L.length:=by omega
     have hgx:g=(m,(p,0)):=HG.out.symm.trans (HEN.out k p m 0 fun h=>h.2 hpe)
     have HR2:Hid (Y=(m,(T.size:Int),0)):=Lh (by rw [HR.out,hgx,if_pos rfl];dsimp only;rw [hpe,HPS.out])
     clear HR HG hgx hpe HIT HCP HUP HON HEN
     go_wp2_with (first
      | (refine Qb rfl 51 (.tmp 7) rfl Mb 0 rfl (moC m.hl m.he v) HF.out.vm.rg Try.underlying51 rfl Q7 ?_)
      | (refine Qa rfl 51 (.tmp 2) (.tmp 46) rfl (G:=w.heap.size) (off:=0) rfl (us:=moC m.hl m.he v) HF.out.vo rfl Q7 (Nat.le_refl 7) (HF.out.ms.one _ _) ?_;intro w9 ht hs;have JV:=Lh (show Var w9 w.heap.size (moC m.hl m.he v) from hs);have B6:=Lh (HF.out.b.trans (ht.below HF.out.b.size (fun k hk e=>by omega)));have MS:=Lh (HF.out.ms.turn (S':=fun b=>w.heap.size≤b) ht fun b hb _=>⟨by omega,by omega⟩);clear ht hs)
      | fail)
     rw [HR2.out]
     exact Qes 51 rfl rfl rfl rfl rfl JV.out Try.underlying51 rfl Q7 ⟨v,rfl,MS.out,B6.out⟩
end Go.Proofs.Ytjoclbeoafeebaa
