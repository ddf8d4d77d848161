import Derived.Test.YtjoclbeoafeebaaRfV
import Derived.Test.YtjoclbeoafeebaaScL
import Derived.Test.YtjoclbeoafeebaaSq
import Derived.Test.YtjoclbeoafeebaaRfG
import Derived.Test.YtjoclbeoafeebaaRfP
set_option maxHeartbeats 3200000
set_option maxRecDepth 100000
namespace Go.Proofs.Ytjoclbeoafeebaa
set_option linter.unusedVariables false
set_option linter.unusedSimpArgs false
open Go.RowKit
structure MoT.Fine (m:MoT):Prop where
 im:∀ x∈m.im,idB x.nm=true
 va:∀ x∈m.va,idB x.nm=true
 fn:∀ x∈m.fn,idB x.nm=true
theorem MoT.nul_fine:MoT.nul.Fine:=⟨(fun x h=>by cases h),(fun x h=>by cases h),(fun x h=>by cases h)⟩
section
variable {R:Rw} {F f:Nat}
theorem Qny(hI:∀ i,R.idn i=true→idB (R.wd i)=true){x:Nat×Int}(h:(fnm R x).2.2=0):idB (fnm R x).1.nm=true:=by
 unfold fnm at h ⊢
 by_cases h0:x.2=0
 ·rw [if_pos h0] at h ⊢
  cases hi:R.idn x.1 with
  | true=>rw [if_pos rfl];exact hI _ hi
  | false=>rw [hi,if_neg (by decide)] at h;exact absurd h (by show ¬ (11:Int)=0;decide)
 ·rw [if_neg h0] at h
  exact absurd h h0
theorem fvr_id(hR:R.Ok)(hI:∀ i,R.idn i=true→idB (R.wd i)=true){x:Nat×Int}(hx:x.1≤R.n)(h:(fvr R x).2.2=0):idB (fvr R x).1.nm=true:=by
 have h1:=Qbf hR hx
 have h2:=mw hR 58 [] h1.n
 have h3:=Qi1 hR h2.n
 have h4:=Qds hR h3.n
 have hu:Up R _ (fnm R x).2 (fvr R x).2:=(h2.trans h3).trans h4
 exact Qny hI (hu.st h).1
theorem Qnz{x:Nat×Int}{l:List ByteArray}(h:(mu R x l).2=0):x.2=0:=by
 refine Classical.byContradiction fun hn=>?_
 rw [Jg hn] at h
 exact hn h
theorem ffn_id(hI:∀ i,R.idn i=true→idB (R.wd i)=true){x:Nat×Int}(h:(ffn R F f x).2.2=0):idB (ffn R F f x).1.nm=true:=by
 refine Qny (x:=mu R x [wFn]) hI (Classical.byContradiction fun hn=>?_)
 rw [Qnd,Qne hn] at h
 exact hn h
theorem fit_fine(hR:R.Ok)(hI:∀ i,R.idn i=true→idB (R.wd i)=true){m:MoT}{p:Nat}(hp:p≤R.n)(hm:m.Fine)(h:(fit R F f m p).2.2=0):(fit R F f m p).1.Fine:=by
 unfold fit at h ⊢
 split at h
 ·rename_i h1
  rw [if_pos h1]
  dsimp only at h ⊢
  refine ⟨fun x hx=>?_,hm.va,hm.fn⟩
  rcases List.mem_append.1 hx with hx | hx
  ·exact hm.im x hx
  ·rw [List.mem_singleton.1 hx]
   exact Qny hI (Qnz h)
 ·rename_i h1
  rw [if_neg h1]
  split at h
  ·rename_i h2
   rw [if_pos h2]
   exact ⟨hm.im,hm.va,hm.fn⟩
  ·rename_i h2
   rw [if_neg h2]
   split at h
   ·rename_i h3
    rw [if_pos h3]
    exact ⟨hm.im,hm.va,hm.fn⟩
   ·rename_i h3
    rw [if_neg h3]
    split at h
    ·rename_i h4
     rw [if_pos h4]
     dsimp only at h ⊢
     refine ⟨hm.im,fun x hx=>?_,hm.fn⟩
     rcases List.mem_append.1 hx with hx | hx
     ·exact hm.va x hx
     ·rw [List.mem_singleton.1 hx]
      exact fvr_id hR hI (mw hR 118 [97,114] (x:=(p,0)) hp).n (Qnz h)
    ·rename_i h4
     rw [if_neg h4]
     split at h
     ·rename_i h5
      rw [if_pos h5]
      dsimp only at h ⊢
      refine ⟨hm.im,hm.va,fun x hx=>?_⟩
      rcases List.mem_append.1 hx with hx | hx
      ·exact hm.fn x hx
      ·rw [List.mem_singleton.1 hx]
       exact ffn_id hI h
     ·exact absurd h (by show ¬ (11:Int)=0;decide)
theorem Qn0(hR:R.Ok)(hI:∀ i,R.idn i=true→idB (R.wd i)=true):∀ (k:Nat) (m:MoT) (x:Nat×Int),x.1≤R.n→m.Fine→m.Cap x.1→(Qdv R F f k m x).2.2=0→(Qdv R F f k m x).1.Fine∧(Qdv R F f k m x).1.Cap R.n:=by
 intro k
 induction k with
 | zero=>intro m x hx hm hc h;exact ⟨hm,hc.up hx⟩
 | succ k ih =>
  intro m x hx hm hc h
  unfold Qdv at h ⊢
  by_cases h0:x.2=0∧¬ x.1=R.n
  ·rw [if_pos h0] at h ⊢
   have hp:x.1<R.n:=by omega
   by_cases hb:(fit R F f m x.1).2.2=0
   ·obtain ⟨c1,c2,c3⟩:=Qnc hR hp hc hb
    exact ih _ _ c3 (fit_fine hR hI hx hm hb) c1 h
   ·rw [Qi5 (fun e=>hb e.1)] at h
    exact absurd h hb
  ·rw [if_neg h0]
   exact ⟨hm,hc.up hx⟩
end
theorem Ry.fit10{X:Ry}{T:ByteArray}{bs:List Int}(hT:X.T=T)(hL:X.L=Yr bs 0)(hb:bts T=bs)(hm:T.size≤1000000):X.Fit∧∀ i,(X.R.wd i).size≤1000000:=by
 have hn:bs.length≤1000000:=by rw [← hb,J3];exact hm
 have hok:=Qej hb hn
 have hR:X.R=Qax T (Yr bs 0):=by show Qax X.T X.L=_;rw [hT,hL]
 rw [← hL,← hT] at hok
 exact ⟨⟨fun i=>Qho hok i,fun i hi=>by rw [hR] at hi ⊢;exact live_dig hb i hi⟩,fun i=>Qho hok i⟩
def Qkv(T:ByteArray):MoT×Int×Int:=Qck (Qax T (Yr (bts T) 0)) (Yr (bts T) 0) T.size (16*T.size+9) (3*T.size+3)
theorem Qgv(T:ByteArray)(w:World)(hm:T.size≤1000000):CP 22 #[.string T] w (FpTo (Qkv T) w):=by
 refine Qib T (bts T) w rfl hm _ _ (by omega) fun X hT hL=>?_
 obtain ⟨h1,h2⟩:=Ry.fit10 hT hL rfl hm
 have hl:X.L.length≤T.size:=by rw [hL];have:=Qby (bts T);rw [J3] at this;exact this
 exact rfn_any X h1 h2 _ _ (by omega) (by omega)
theorem Qkw{T:ByteArray}(hm:T.size≤1000000)(h:(Qkv T).2.2=0):(Qkv T).1.Fine∧(Qkv T).1.Cap T.size:=by
 unfold Qkv Qck at h ⊢
 split at h
 ·exact absurd h (by decide)
 ·rename_i h1
  rw [if_neg h1]
  split at h
  ·exact absurd h (by show ¬ (10:Int)=0;decide)
  ·rename_i h2
   rw [if_neg h2]
   split at h
   ·rename_i h3
    rw [if_pos h3]
    obtain ⟨h4,h5⟩:=Qn0 (R:=Qax T (Yr (bts T) 0)) (F:=16*T.size+9) (f:=3*T.size+3) (Qo T (Yr (bts T) 0)) (fun i hi=>hi) _ _ (0,0) (Nat.zero_le _) MoT.nul_fine (MoT.nul_cap.up (Nat.zero_le _)) h3
    refine ⟨h4,h5.up ?_⟩
    show (Yr (bts T) 0).length≤T.size
    have:=Qby (bts T)
    rw [J3] at this
    exact this
   ·rename_i h3
    exact absurd h h3
def ModTo(w:World)(e:Ending)(w':World):Prop:=
 ∃ v b,e=.returned (.tuple #[v,.bool b])∧Below w.heap.size w w'∧(b=true→∃ A n c ML,v=.slice A n c∧n≤8∧n≤c∧Y4 w' (fun b=>w.heap.size≤b) A n ML∧∀ q∈ML,q.1.Fine∧q.1.Cap 1000)
theorem rowMod:Kq Try.prog 23 51 7 136:=Kq.mk (z:=.agg #[.slice none 0 0,.bool false,.slice none 0 0,.bool false,.slice none 0 0,.slice none 0 0,.slice none 0 0]) Try.underlying23 (by kernel_rfl) rfl (by omega)
theorem Qgw(B:Option Addr)(m d:Nat)(FS:List ByteArray)(w:World)(hB:Sh w w.heap.size B m (Z0 FS))(hm:m≤maxLen) :
  CP 6 #[.slice B m d] w (ModTo w):=by
 unfold maxLen at hm
 have hz:=Qbg
 have hl:FS.length=m:=by have:=hB.len;simpa [Z0] using this
 have HBB:=Lh hB
 clear hB
 go_enter Try.func6,Try.ntmps6
 go_wp2
 go_loopw [4,5] (fun v i wr=>∃ (k:Nat) (ML:List OMo),i=.int .i64 (k:Int)∧k≤m∧k≤8∧Hid (ML.length=k)∧Hid (Own wr w.heap.size 51 7 v ML.length (mos ML))∧Hid (∀ q∈ML,Zx wr (fun b=>w.heap.size≤b∧v.ownBlock≠some b) q.1 q.2)∧Hid (∀ q∈ML,q.1.Fine∧q.1.Cap 1000)∧Hid (Below w.heap.size w wr)) (fun _ i _=>m-(intOf i).toNat)
 case atStart=>exact ⟨0,[],rfl,Nat.zero_le _,Nat.zero_le _,Lh rfl,Lh (Own.nil _ _ _ _ nLe),Lh (fun q hq=>(by cases hq)),Lh (fun q hq=>(by cases hq)),Lh bRf⟩
 case round =>
  obtain ⟨k,ML,rfl,hk,hk8,HML,HV,HM,HFI,HB⟩:=hrel
  have hml8:ML.length≤8:=by rw [HML.out];exact hk8
  obtain ⟨wa,hwa⟩:∃ wa,wa=wr:=⟨_,rfl⟩
  subst hwa
  obtain ⟨VA,vc,hv⟩:=HV.out.form
  subst hv
  by_cases hlt:k<m
  ·by_cases hlt8:k<8
   ·obtain ⟨b0,off0,u,hA0,hb0,hu,hc0⟩:=(HBB.out.below HB.out).at hlt
    obtain ⟨s,hs⟩:∃ s,FS[k]'(by omega)=s:=⟨_,rfl⟩
    have hu2:u=.string s:=by
     unfold Z0 at hu
     rw [List.getElem?_map,List.getElem?_eq_getElem (by omega),hs] at hu
     cases hu
     rfl
    subst hu2
    subst hA0
    by_cases hsz:s.size≤1000
    ·have h1:¬ (1000:Int)<(s.size:Int):=by omega
     have HP:=Lh (Qgv s wa (by omega))
     obtain ⟨⟨mm,at_,ee⟩,hY⟩:∃ Y,Qkv s=Y:=⟨_,rfl⟩
     have HD:=Lh (fun (h:ee=0)=>Qkw (T:=s) (by omega) (by rw [hY];exact h))
     rw [hY] at HP HD
     unfold FpTo at HP
     dsimp only [moV] at HP
     clear hY hs hu
     by_cases he:ee=0
     ·subst he
      have HD2:=Lh (HD.out rfl)
      clear HD
      go_wp2_with (first
       | (go_at_call 22;with_reducible refine HP.out.mono ?_;rintro e w3 ⟨mv,rfl,hms,b3⟩;have HMS:=Lh hms;have B3:=Lh b3;clear hms b3;dsimp only)
       | (refine Qa rfl 51 (.tmp 6) (.tmp 31) rfl (G:=w3.heap.size) (off:=0) rfl (us:=moC mm.hl mm.he mv) (Var.new w3 (moC false false MoV.nul) 51 (c:=#[.slice none 0 0,.bool false,.slice none 0 0,.bool false,.slice none 0 0,.slice none 0 0,.slice none 0 0]) rfl) rfl Q7 (Nat.le_refl 7) (HMS.out.one _ _) ?_;intro w4 ht hs;have ta:=Tn.alloc (fun k=>k=w3.heap.size) w3 (.cells #[.slice none 0 0,.bool false,.slice none 0 0,.bool false,.slice none 0 0,.slice none 0 0,.slice none 0 0] 51);have tb:=ta.trans ht;have b2:=tb.below nLe (by intro k hk e;omega);have B4:=Lh (bTr B3 b2);have HMS4:=Lh (HMS.out.under b2);have HVM:=Lh (show Var w4 w3.heap.size (moC mm.hl mm.he mv) from hs);have HV4:=Lh (HV.out.below B4.out);have HB4:=Lh (HB.out.trans (B4.out.mono HB.out.size));clear ht hs ta tb b2)
       | (refine Qb rfl 51 (.tmp 6) rfl w3.heap.size 0 rfl (moC mm.hl mm.he mv) HVM.out.rg Try.underlying51 rfl Q7 ?_)
       | (refine Ye rfl 23 51 (.tmp 37) rfl (moC mm.hl mm.he mv) rfl (by show 0<7;omega) (by show 7≤2^24;decide) Try.underlying23 Q7 (by kernel_rfl) ?_)
       | (refine Kb rfl (.tmp 36) (.tmp 38) 23 rfl rowMod w4 w.heap.size _ _ _ (moC mm.hl mm.he mv) rfl HV4.out rfl rfl rfl (HMS4.out.one _ _) (by omega) (by omega) ?_;intro v2 w2 ho2 hg2 hob;have HO2:=Lh ho2;have HG2:=Lh hg2;have HOB:=Lh hob;clear ho2 hg2 hob;refine Hid.out ?_)
       | go_in)
      refine Lh ?_
      have ho2:=HO2.out
      have hg2:(w4.alloc (.cells (moC mm.hl mm.he mv).toArray 51)).grownBy w2 (Value.slice VA ML.length vc).ownBlock:=HG2.out
      have hob:v2.ownBlock=(Value.slice VA ML.length vc).ownBlock∨v2.ownBlock=some (w4.heap.size+1):=HOB.out
      have hba:=(Below.refl w4.heap.size w4).alloc nLe (.cells (moC mm.hl mm.he mv).toArray 51)
      have hsz5:(w4.alloc (.cells (moC mm.hl mm.he mv).toArray 51)).heap.size=w4.heap.size+1:=by simp
      have hvlt:=fun k hk=>(HV4.out.1.lt k hk)
      have hvlt0:=fun k hk=>(HV.out.1.lt k hk).2
      have HBW:=Lh ((bTr HB4 hba).grown hg2 (by rw [hsz5];have:=HB4.out.size;omega) (fun j hj=>(hvlt j hj).1))
      have hblk:∀ b,b<w4.heap.size→(Value.slice VA ML.length vc).ownBlock≠some b→w2.heap[b]?=w4.heap[b]?:=fun b hb hne=>(hg2.block b (by rw [hsz5];omega) (fun e=>hne e.symm)).trans (hba.block b hb)
      have hne2:∀ b,b<w4.heap.size→(Value.slice VA ML.length vc).ownBlock≠some b→v2.ownBlock≠some b:=fun b hb hne e=>by
       rcases hob with h | h
       ·exact hne (h▸e)
       ·rw [h] at e;injection e with e;omega
      have hsz2:w4.heap.size≤w2.heap.size:=Nat.le_trans hba.size hg2.size
      have HM2:=Lh (show ∀ q∈ML++[(mm,mv)],Zx w2 (fun b=>w.heap.size≤b∧v2.ownBlock≠some b) q.1 q.2 from fun q hq=>by
       rcases List.mem_append.1 hq with hq | hq
       ·exact ((HM.out q hq).under B4.out).keep fun b hb hlt=>⟨⟨hb.1,hne2 b hlt hb.2⟩,by omega,hblk b hlt hb.2⟩
       ·rw [List.mem_singleton.1 hq]
        refine HMS4.out.keep fun b hb hlt=>?_
        have hn:(Value.slice VA ML.length vc).ownBlock≠some b:=fun e=>by have:=hvlt0 b e;omega
        exact ⟨⟨Nat.le_trans HB.out.size hb,hne2 b hlt hn⟩,by omega,hblk b hlt hn⟩)
      have HF2:=Lh (show ∀ q∈ML++[(mm,mv)],q.1.Fine∧q.1.Cap 1000 from fun q hq=>by
       rcases List.mem_append.1 hq with hq | hq
       ·exact HFI.out q hq
       ·rw [List.mem_singleton.1 hq];exact ⟨HD2.out.1,HD2.out.2.up hsz⟩)
      go_wp2
      refine ⟨⟨k+1,ML++[(mm,mv)],by go_num,hlt,by omega,Lh (by rw [List.length_append,HML.out];rfl),Lh (by rw [mos_snoc,List.length_append];exact ho2),HM2,HF2,HBW⟩,by simp [intOf];omega⟩
     ·have he1:(ee==0)=false:=by simp [he]
      have he2:(ee != 0)=true:=by simp [he]
      have he3:decide (ee=0)=false:=by simp [he]
      clear HD
      go_wp2_with (first
       | (go_at_call 22;with_reducible refine HP.out.mono ?_;rintro e w3 ⟨mv,rfl,hms,b3⟩;have HMS:=Lh hms;have B3:=Lh b3;clear hms b3;dsimp only)
       | (refine Qa rfl 51 (.tmp 6) (.tmp 31) rfl (G:=w3.heap.size) (off:=0) rfl (us:=moC mm.hl mm.he mv) (Var.new w3 (moC false false MoV.nul) 51 (c:=#[.slice none 0 0,.bool false,.slice none 0 0,.bool false,.slice none 0 0,.slice none 0 0,.slice none 0 0]) rfl) rfl Q7 (Nat.le_refl 7) (HMS.out.one _ _) ?_;intro w4 ht hs;have ta:=Tn.alloc (fun k=>k=w3.heap.size) w3 (.cells #[.slice none 0 0,.bool false,.slice none 0 0,.bool false,.slice none 0 0,.slice none 0 0,.slice none 0 0] 51);have tb:=ta.trans ht;have b2:=tb.below nLe (by intro k hk e;omega);have B4:=Lh (HB.out.trans ((bTr B3 b2).mono HB.out.size));clear ht hs ta tb b2)
       | go_in)
      go_ret2
      exact ⟨_,_,rfl,B4.out,fun h=>by cases h⟩
    ·have h1:(1000:Int)<(s.size:Int):=by omega
     clear hs hu
     go_wp2
     go_ret2
     exact ⟨_,_,rfl,HB.out,fun h=>by cases h⟩
   ·obtain rfl:k=8:=by omega
    by_cases h8:m≤8
    ·omega
    ·have h81:¬ (m:Int)≤8:=by omega
     go_wp2
     go_ret2
     exact ⟨_,_,rfl,HB.out,fun h=>by first | (simp at h;done) | (simp at h;omega)⟩
  ·obtain rfl:m=k:=by omega
   have h81:(m:Int)≤8:=by omega
   go_wp2
   go_ret2
   refine ⟨_,_,rfl,HB.out,fun _=>⟨VA,ML.length,vc,ML,rfl,by omega,HV.out.cap.1,⟨rfl,fun hn=>?_,fun q hq=>(HM.out q hq).weak fun b h _=>h.1⟩,HFI.out⟩⟩
   obtain ⟨g,cap,hvv,hle,hlt2⟩:=HV.out.1.form (by omega)
   cases hvv
   refine ⟨g,0,rfl,hle,hlt2,fun j u hu=>?_⟩
   have:=HV.out.1.cells (g:=g) rfl j u hu
   rwa [Addr.add_lit] at this
end Go.Proofs.Ytjoclbeoafeebaa
