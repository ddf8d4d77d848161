import Derived.Test.YtjoclbeoafeebaaSq
import Derived.Test.YtjoclbeoafeebaaEqD
set_option maxHeartbeats 3200000
set_option maxRecDepth 100000
namespace Go.Proofs.Ytjoclbeoafeebaa
set_option linter.unusedVariables false
set_option linter.unusedSimpArgs false
open Go.RowKit
def numO(a:Int)(p:Nat):Option Int→Gt
 | some v=>good (eNum a v) (p+1)
 | none=>bad p 18
theorem numG_O(R:Rw)(p:Nat):numG R p=numO (R.ps p) p (numB (R.wd p)):=by
 unfold numG numO
 cases numB (R.wd p) <;> rfl
theorem Qgd(X:Ry)(f d p:Nat)(w:World)(hp:p≤X.L.length)(h:X.In w w.heap.size)(hk:X.R.kd p=3)(hdg:Ql1 (X.R.wd p))(hsz:(X.R.wd p).size≤1000000) :
  CP 91 #[X.val,.int .i64 (p:Int),.int .i64 (d:Int)] w (Yi w (rd X.R (f+1) .pr p d)):=by
 have hz:=Q2
 have hzx:=J8
 have hln:=h.2.len
 rw [Ql5 hk]
 have HI:=Lh h
 have H2:=Lh (Qx X w)
 have HA:Hid (∀ W,Below w.heap.size w W→CP 51 #[X.val,.int .i64 (p:Int)] W fun e w'=>e=.returned (.string (X.R.wd p))∧Below W.heap.size W w'):=Lh fun W hW=>Qg X p W ((HI.out.up hW nLe).more hW.size) (by omega)
 have HNB:Hid (∀ W,Below w.heap.size w W→CP 96 #[X.val,.int .i64 (p:Int)] W fun e w'=>e=.returned (.bool true)∧Below W.heap.size W w'):=Lh fun W hW=>by
  have:=Kf X p W ((HI.out.up hW nLe).more hW.size) (by omega)
  rw [hk] at this
  exact this
 have HPO:Hid (∀ W,Below w.heap.size w W→CP 38 #[X.val,.int .i64 (p:Int)] W fun e w'=>e=.returned (.int .i64 (X.R.ps p))∧Below W.heap.size W w'):=Lh fun W hW=>Qz X p W ((HI.out.up hW nLe).more hW.size) (by omega)
 have hnl:=Qmj hdg
 obtain ⟨N,hN⟩:∃ N,numB (X.R.wd p)=N:=⟨_,rfl⟩
 rw [hN] at hnl
 rw [numG_O,hN]
 obtain ⟨s,hs⟩:∃ s,X.R.wd p=s:=⟨_,rfl⟩
 rw [hs] at HA hdg hnl hsz
 have HD:=Lh hdg.2
 have HNL:=Lh hnl
 clear h hs hk hdg hnl hN
 obtain ⟨W1,hW1⟩:∃ W1,((w.alloc (.cells #[.string X.T,.slice X.A X.L.length X.c] 92)).alloc (.cells z8 138))=W1:=⟨_,rfl⟩
 rw [hW1] at H2
 have HW1:=Lh hW1
 have hs1:=H2.out.sz
 clear hW1
 go_enter Try.func91,Try.ntmps91
 go_wp2_with (first
  | (go_at_call 51;rw [HW1.out];refine (HA.out _ H2.out.be).mono ?_;rintro e w2 ⟨rfl,b2⟩;have HB2:=Lh (H2.out.be.trans (b2.mono H2.out.be.size));have HG2:=Lh (H2.out.ga.below b2 (by omega));have HR2:=Lh (H2.out.row b2 (by omega));obtain ⟨k0,k1⟩:=HR2.out;have hs2:=b2.size;clear b2;dsimp only)
  | (go_at_call 96;refine (HNB.out _ HB2.out).mono ?_;rintro e w3 ⟨rfl,b3⟩;have HB3:=Lh (bTr HB2 b3);have HG3:=Lh (HG2.out.below b3 (by omega));have e0:=(b3.cell (p:=⟨w.heap.size,0,none⟩) (by show w.heap.size<_;omega)).trans HR2.out.1;have e1:=(b3.cell (p:=⟨w.heap.size,1,none⟩) (by show w.heap.size<_;omega)).trans HR2.out.2;have hs3:=b3.size;clear b3;dsimp only)
  | fail)
 clear k0 k1
 go_loopw [8,9] (fun nv iv wr=>∃ (t:Int) (i:Nat),nv=.int .i64 t∧iv=.int .i64 (i:Int)∧i≤s.size∧Hid (Z7 t)∧Hid (numL t (s.data.toList.drop i)=N)∧wr=w3) (fun _ iv _=>s.size-(intOf iv).toNat)
 case atStart=>exact ⟨0,0,rfl,rfl,Nat.zero_le _,Lh (by unfold Z7;omega),Lh HNL.out,rfl⟩
 case round =>
  obtain ⟨t,i,rfl,rfl,hi,HT,HQ,rfl⟩:=hrel
  by_cases hin:i<s.size
  ·have hix:i<s.data.toList.length:=hin
   have hdrop:s.data.toList.drop i=s[i]'hin::s.data.toList.drop (i+1):=by rw [List.drop_eq_getElem_cons hix];rfl
   have hcm:s[i]'hin∈s.data.toList:=List.mem_of_mem_drop (i:=i) (by rw [hdrop];exact List.mem_cons_self)
   have hcd:=HD.out _ hcm
   have hw1:IntKind.i64.wrap (((s[i]'hin).toNat:Nat):Int)=(((s[i]'hin).toNat:Nat):Int):=IntWalk.i64_in _ (by omega)
   have hw2:IntKind.i64.wrap ((((s[i]'hin).toNat:Nat):Int)-48)=(((s[i]'hin).toNat:Nat):Int)-48:=IntWalk.i64_in _ (by omega)
   have hD48:Z7 ((((s[i]'hin).toNat:Nat):Int)-48):=by unfold Z7;omega
   have hq:=HQ.out
   rw [hdrop] at hq
   unfold numL at hq
   by_cases h10:Qet (t*10)=true
   ·rw [if_pos h10] at hq
    have h10':=Qb1 h10
    by_cases hs2:Qet (t*10+((((s[i]'hin).toNat:Nat):Int)-48))=true
    ·rw [if_pos hs2] at hq
     have hs2':=Qb1 hs2
     have HQ2:=Lh hq
     have HS2:=Lh hs2'
     clear hq hdrop hcm h10 hs2
     go_wp2_with (first
      | (go_at_call 97;refine (Qi8 _ _ _ HT.out (by unfold Z7;omega) h10').mono ?_;rintro e w4 ⟨rfl,rfl⟩;dsimp only)
      | (go_at_call 98;refine (Qi6 _ _ _ h10' hD48 HS2.out).mono ?_;rintro e w5 ⟨rfl,rfl⟩;dsimp only)
      | fail)
     go_roundw
     case rel=>exact ⟨_,i+1,rfl,by go_num,hin,HS2,HQ2,trivial⟩
     case measure=>simp [intOf];omega
    ·rw [if_neg hs2] at hq
     have hs2':¬ Z7 (t*10+((((s[i]'hin).toNat:Nat):Int)-48)):=fun h=>hs2 (Qaj h)
     have HS2:=Lh hs2'
     subst hq
     clear hdrop hcm h10 hs2
     go_wp2_with (first
      | (go_at_call 97;refine (Qi8 _ _ _ HT.out (by unfold Z7;omega) h10').mono ?_;rintro e w4 ⟨rfl,rfl⟩;dsimp only)
      | (go_at_call 98;refine (rAdd_no _ _ _ h10' hD48 HS2.out).mono ?_;rintro e w5 ⟨rfl,rfl⟩;dsimp only)
      | (refine Qe rfl (.tmp 6) (.tmp 49) rfl (w.heap.size+1) rfl HG3.out (e:=Ex.nul) (lv:=.slice none 0 0) (p:=(p:Int)) (r:=18) rfl rfl ?_;intro w6 hg6 hs6;have HG6:=Lh hs6;have HB6:=Lh (Qu HB3.out hg6 (by omega) HB3.out.size);clear hg6 hs6)
      | fail)
     exact Jo (i:=6) (by kernel_rfl) rfl rfl HG6.out ⟨.slice none 0 0,rfl,.nil,HB6.out⟩
   ·rw [if_neg h10] at hq
    have h10':¬ Z7 (t*10):=fun h=>h10 (Qaj h)
    have H10:=Lh h10'
    subst hq
    clear hdrop hcm h10
    have h00:Z7 0:=by unfold Z7;omega
    have h0c:Z7 (0+((((s[i]'hin).toNat:Nat):Int)-48)):=by rw [Int.zero_add];exact hD48
    go_wp2_with (first
     | (go_at_call 97;refine (rMul_no _ _ _ HT.out (by unfold Z7;omega) H10.out).mono ?_;rintro e w4 ⟨rfl,rfl⟩;dsimp only)
     | (go_at_call 98;refine (Qi6 _ _ _ h00 hD48 h0c).mono ?_;rintro e w5 ⟨rfl,rfl⟩;dsimp only)
     | (refine Qe rfl (.tmp 6) (.tmp 49) rfl (w.heap.size+1) rfl HG3.out (e:=Ex.nul) (lv:=.slice none 0 0) (p:=(p:Int)) (r:=18) rfl rfl ?_;intro w6 hg6 hs6;have HG6:=Lh hs6;have HB6:=Lh (Qu HB3.out hg6 (by omega) HB3.out.size);clear hg6 hs6)
     | fail)
    exact Jo (i:=6) (by kernel_rfl) rfl rfl HG6.out ⟨.slice none 0 0,rfl,.nil,HB6.out⟩
  ·obtain rfl:i=s.size:=by omega
   have hN:N=some t:=by
    have h1:=HQ.out
    rw [show s.data.toList.drop s.size=[] from List.drop_of_length_le nLe] at h1
    exact h1.symm
   subst hN
   go_wp2_with (first
    | (go_at_call 38;refine (HPO.out _ HB3.out).mono ?_;rintro e w5 ⟨rfl,b5⟩;have HB5:=Lh (bTr HB3 b5);have HG5:=Lh (HG3.out.below b5 (by omega));clear b5;dsimp only)
    | (refine Qe rfl (.tmp 6) (.tmp 58) rfl (w.heap.size+1) rfl HG5.out (e:=eNum (X.R.ps p) t) (lv:=.slice none 0 0) (p:=(p:Int)+1) (r:=0) rfl rfl ?_;intro w6 hg6 hs6;have HG6:=Lh hs6;have HB6:=Lh (Qu HB5.out hg6 (by omega) HB5.out.size);clear hg6 hs6)
    | fail)
   exact Jo (i:=6) (by kernel_rfl) rfl rfl HG6.out ⟨.slice none 0 0,rfl,.nil,HB6.out⟩
def ROpC(X:Ry)(f:Nat):Prop:=∀ (d p:Nat) (w:World),d≤32→p<X.L.length→X.In w w.heap.size→16*(X.L.length-p)+1≤f →
 CP 99 #[X.val,.int .i64 (p:Int),.int .i64 (d:Int)] w (Yi w (rd X.R f .op p d))
def RNmC(X:Ry)(f:Nat):Prop:=∀ (d p:Nat) (w:World),d≤32→p≤X.L.length→X.In w w.heap.size→16*(X.L.length-p)+1≤f →
 CP 100 #[X.val,.int .i64 (p:Int),.int .i64 (d:Int)] w (Yi w (rd X.R f .nm p d))
theorem Qev(X:Ry)(f d p:Nat)(w:World)(hp:p≤X.L.length)(h:X.In w w.heap.size)(hk:¬ X.R.kd p=3)(ht:((X.R.wd p).toList==[116,114,117,101])=true) :
  CP 91 #[X.val,.int .i64 (p:Int),.int .i64 (d:Int)] w (Yi w (rd X.R (f+1) .pr p d)):=by
 have hz:=Q2
 have hzx:=J8
 have hln:=h.2.len
 have HI:=Lh h
 have H2:=Lh (Qx X w)
 have HA:Hid (∀ W,Below w.heap.size w W→CP 51 #[X.val,.int .i64 (p:Int)] W fun e w'=>e=.returned (.string (X.R.wd p))∧Below W.heap.size W w'):=Lh fun W hW=>Qg X p W ((HI.out.up hW nLe).more hW.size) (by omega)
 have HNB:Hid (∀ W,Below w.heap.size w W→CP 96 #[X.val,.int .i64 (p:Int)] W fun e w'=>e=.returned (.bool false)∧Below W.heap.size W w'):=Lh fun W hW=>by
  have:=Kf X p W ((HI.out.up hW nLe).more hW.size) (by omega)
  rw [show (X.R.kd p==3)=false by simp [hk]] at this
  exact this
 have HPO:Hid (∀ W,Below w.heap.size w W→CP 38 #[X.val,.int .i64 (p:Int)] W fun e w'=>e=.returned (.int .i64 (X.R.ps p))∧Below W.heap.size W w'):=Lh fun W hW=>Qz X p W ((HI.out.up hW nLe).more hW.size) (by omega)
 rw [Qkb hk ht]
 obtain ⟨s,hs⟩:∃ s,X.R.wd p=s:=⟨_,rfl⟩
 rw [hs] at HA ht
 clear h hs hk
 obtain ⟨W1,hW1⟩:∃ W1,((w.alloc (.cells #[.string X.T,.slice X.A X.L.length X.c] 92)).alloc (.cells z8 138))=W1:=⟨_,rfl⟩
 rw [hW1] at H2
 have HW1:=Lh hW1
 have hs1:=H2.out.sz
 clear hW1
 go_enter Try.func91,Try.ntmps91
 go_wp2_with (first
  | (go_at_call 51;rw [HW1.out];refine (HA.out _ H2.out.be).mono ?_;rintro e w2 ⟨rfl,b2⟩;have HB2:=Lh (H2.out.be.trans (b2.mono H2.out.be.size));have HG2:=Lh (H2.out.ga.below b2 (by omega));have HR2:=Lh (H2.out.row b2 (by omega));obtain ⟨k0,k1⟩:=HR2.out;have hs2:=b2.size;clear b2;dsimp only)
  | (go_at_call 96;refine (HNB.out _ HB2.out).mono ?_;rintro e w3 ⟨rfl,b3⟩;have HB3:=Lh (bTr HB2 b3);have HG3:=Lh (HG2.out.below b3 (by omega));have e0:=(b3.cell (p:=⟨w.heap.size,0,none⟩) (by show w.heap.size<_;omega)).trans HR2.out.1;have e1:=(b3.cell (p:=⟨w.heap.size,1,none⟩) (by show w.heap.size<_;omega)).trans HR2.out.2;have hs3:=b3.size;clear b3;dsimp only)
  | (go_at_call 38;refine (HPO.out _ HB3.out).mono ?_;rintro e w5 ⟨rfl,b5⟩;have HB5:=Lh (bTr HB3 b5);have HG5:=Lh (HG3.out.below b5 (by omega));clear b5;dsimp only)
  | (refine Qe rfl (.tmp 6) (.tmp 67) rfl (w.heap.size+1) rfl HG5.out (e:=Qj5 (X.R.ps p) 1) (lv:=.slice none 0 0) (p:=(p:Int)+1) (r:=0) rfl rfl ?_;intro w6 hg6 hs6;have HG6:=Lh hs6;have HB6:=Lh (Qu HB5.out hg6 (by omega) HB5.out.size);clear hg6 hs6)
  | fail)
 exact Jo (i:=6) (by kernel_rfl) rfl rfl HG6.out ⟨.slice none 0 0,rfl,.nil,HB6.out⟩
theorem Qdb(X:Ry)(f d p:Nat)(w:World)(hp:p≤X.L.length)(h:X.In w w.heap.size)(hk:¬ X.R.kd p=3)(ht:((X.R.wd p).toList==[116,114,117,101])=false)(hf:((X.R.wd p).toList==[102,97,108,115,101])=true) :
  CP 91 #[X.val,.int .i64 (p:Int),.int .i64 (d:Int)] w (Yi w (rd X.R (f+1) .pr p d)):=by
 have hz:=Q2
 have hzx:=J8
 have hln:=h.2.len
 have HI:=Lh h
 have H2:=Lh (Qx X w)
 have HA:Hid (∀ W,Below w.heap.size w W→CP 51 #[X.val,.int .i64 (p:Int)] W fun e w'=>e=.returned (.string (X.R.wd p))∧Below W.heap.size W w'):=Lh fun W hW=>Qg X p W ((HI.out.up hW nLe).more hW.size) (by omega)
 have HNB:Hid (∀ W,Below w.heap.size w W→CP 96 #[X.val,.int .i64 (p:Int)] W fun e w'=>e=.returned (.bool false)∧Below W.heap.size W w'):=Lh fun W hW=>by
  have:=Kf X p W ((HI.out.up hW nLe).more hW.size) (by omega)
  rw [show (X.R.kd p==3)=false by simp [hk]] at this
  exact this
 have HPO:Hid (∀ W,Below w.heap.size w W→CP 38 #[X.val,.int .i64 (p:Int)] W fun e w'=>e=.returned (.int .i64 (X.R.ps p))∧Below W.heap.size W w'):=Lh fun W hW=>Qz X p W ((HI.out.up hW nLe).more hW.size) (by omega)
 rw [Qhp hk ht hf]
 obtain ⟨s,hs⟩:∃ s,X.R.wd p=s:=⟨_,rfl⟩
 rw [hs] at HA ht hf
 clear h hs hk
 obtain ⟨W1,hW1⟩:∃ W1,((w.alloc (.cells #[.string X.T,.slice X.A X.L.length X.c] 92)).alloc (.cells z8 138))=W1:=⟨_,rfl⟩
 rw [hW1] at H2
 have HW1:=Lh hW1
 have hs1:=H2.out.sz
 clear hW1
 go_enter Try.func91,Try.ntmps91
 go_wp2_with (first
  | (go_at_call 51;rw [HW1.out];refine (HA.out _ H2.out.be).mono ?_;rintro e w2 ⟨rfl,b2⟩;have HB2:=Lh (H2.out.be.trans (b2.mono H2.out.be.size));have HG2:=Lh (H2.out.ga.below b2 (by omega));have HR2:=Lh (H2.out.row b2 (by omega));obtain ⟨k0,k1⟩:=HR2.out;have hs2:=b2.size;clear b2;dsimp only)
  | (go_at_call 96;refine (HNB.out _ HB2.out).mono ?_;rintro e w3 ⟨rfl,b3⟩;have HB3:=Lh (bTr HB2 b3);have HG3:=Lh (HG2.out.below b3 (by omega));have e0:=(b3.cell (p:=⟨w.heap.size,0,none⟩) (by show w.heap.size<_;omega)).trans HR2.out.1;have e1:=(b3.cell (p:=⟨w.heap.size,1,none⟩) (by show w.heap.size<_;omega)).trans HR2.out.2;have hs3:=b3.size;clear b3;dsimp only)
  | (go_at_call 38;refine (HPO.out _ HB3.out).mono ?_;rintro e w5 ⟨rfl,b5⟩;have HB5:=Lh (bTr HB3 b5);have HG5:=Lh (HG3.out.below b5 (by omega));clear b5;dsimp only)
  | (refine Qe rfl (.tmp 6) (.tmp 76) rfl (w.heap.size+1) rfl HG5.out (e:=Qj5 (X.R.ps p) 0) (lv:=.slice none 0 0) (p:=(p:Int)+1) (r:=0) rfl rfl ?_;intro w6 hg6 hs6;have HG6:=Lh hs6;have HB6:=Lh (Qu HB5.out hg6 (by omega) HB5.out.size);clear hg6 hs6)
  | fail)
 exact Jo (i:=6) (by kernel_rfl) rfl rfl HG6.out ⟨.slice none 0 0,rfl,.nil,HB6.out⟩
theorem Qew(X:Ry)(f:Nat)(hO:ROpC X f)(d p:Nat)(w:World)(hd:d≤32)(hp:p<X.L.length)(h:X.In w w.heap.size)(hf16:16*(X.L.length-p)+2≤f+1)(hk:¬ X.R.kd p=3)(ht:((X.R.wd p).toList==[116,114,117,101])=false)(hf:((X.R.wd p).toList==[102,97,108,115,101])=false)(hb:((X.R.wd p).toList==[40])=false)(hdc:((X.R.wd p).toList==[100,101,99,108,97,115,115,105,102,121])=true) :
  CP 91 #[X.val,.int .i64 (p:Int),.int .i64 (d:Int)] w (Yi w (rd X.R (f+1) .pr p d)):=by
 have hz:=Q2
 have hzx:=J8
 have hln:=h.2.len
 have HI:=Lh h
 have H2:=Lh (Qx X w)
 have HA:Hid (∀ W,Below w.heap.size w W→CP 51 #[X.val,.int .i64 (p:Int)] W fun e w'=>e=.returned (.string (X.R.wd p))∧Below W.heap.size W w'):=Lh fun W hW=>Qg X p W ((HI.out.up hW nLe).more hW.size) (by omega)
 have HNB:Hid (∀ W,Below w.heap.size w W→CP 96 #[X.val,.int .i64 (p:Int)] W fun e w'=>e=.returned (.bool false)∧Below W.heap.size W w'):=Lh fun W hW=>by
  have:=Kf X p W ((HI.out.up hW nLe).more hW.size) (by omega)
  rw [show (X.R.kd p==3)=false by simp [hk]] at this
  exact this
 have HPO:Hid (∀ W,Below w.heap.size w W→CP 38 #[X.val,.int .i64 (p:Int)] W fun e w'=>e=.returned (.int .i64 (X.R.ps p))∧Below W.heap.size W w'):=Lh fun W hW=>Qz X p W ((HI.out.up hW nLe).more hW.size) (by omega)
 have HO:Hid (∀ W,Below w.heap.size w W→CP 99 #[X.val,.int .i64 (p:Int),.int .i64 (d:Int)] W (Yi W (rd X.R f .op p d))):=Lh fun W hW=>hO d p W hd hp ((HI.out.up hW nLe).more hW.size) (by omega)
 rw [Qkc hk ht hf hb hdc]
 obtain ⟨g,hg⟩:∃ g,rd X.R f .op p d=g:=⟨_,rfl⟩
 rw [hg] at HO ⊢
 clear hg hO
 obtain ⟨s,hs⟩:∃ s,X.R.wd p=s:=⟨_,rfl⟩
 rw [hs] at HA ht hf hb hdc
 clear h hs hk
 obtain ⟨W1,hW1⟩:∃ W1,((w.alloc (.cells #[.string X.T,.slice X.A X.L.length X.c] 92)).alloc (.cells z8 138))=W1:=⟨_,rfl⟩
 rw [hW1] at H2
 have HW1:=Lh hW1
 have hs1:=H2.out.sz
 clear hW1
 go_enter Try.func91,Try.ntmps91
 go_wp2_with (first
  | (go_at_call 51;rw [HW1.out];refine (HA.out _ H2.out.be).mono ?_;rintro e w2 ⟨rfl,b2⟩;have HB2:=Lh (H2.out.be.trans (b2.mono H2.out.be.size));have HG2:=Lh (H2.out.ga.below b2 (by omega));have HR2:=Lh (H2.out.row b2 (by omega));obtain ⟨k0,k1⟩:=HR2.out;have hs2:=b2.size;clear b2;dsimp only)
  | (go_at_call 96;refine (HNB.out _ HB2.out).mono ?_;rintro e w3 ⟨rfl,b3⟩;have HB3:=Lh (bTr HB2 b3);have HG3:=Lh (HG2.out.below b3 (by omega));have e0:=(b3.cell (p:=⟨w.heap.size,0,none⟩) (by show w.heap.size<_;omega)).trans HR2.out.1;have e1:=(b3.cell (p:=⟨w.heap.size,1,none⟩) (by show w.heap.size<_;omega)).trans HR2.out.2;have hs3:=b3.size;clear b3;dsimp only)
  | (go_at_call 99;refine (HO.out _ HB3.out).mono ?_;rintro e w5 ⟨lv,rfl,hx5,b5⟩;have hone:=hx5.one;have HX5:=Lh hx5;have HB5:=Lh (bTr HB3 b5);have HG5:=Lh (HG3.out.below b5 (by omega));clear b5 hx5;dsimp only)
  | (refine Qe rfl (.tmp 6) (.tmp 116) rfl (w.heap.size+1) rfl HG5.out (e:=g.e) (lv:=lv) (p:=(g.p:Int)) (r:=g.r) rfl hone ?_;intro w6 hg6 hs6;have HG6:=Lh hs6;have HB6:=Lh (Qu HB5.out hg6 (by omega) HB5.out.size);have HX6:=Lh (HX5.out.grown hg6 (by intro b hb _ e;injection e with e;have hb:w3.heap.size≤b:=hb;omega));clear hg6 hs6)
  | fail)
 refine Jo (i:=6) (by kernel_rfl) rfl rfl HG6.out ⟨lv,rfl,?_,HB6.out⟩
 exact HX6.out.weak fun b hb _=>by have hb:w3.heap.size≤b:=hb;show w.heap.size≤b;omega
theorem Qdc(X:Ry)(f:Nat)(hO:RNmC X f)(d p:Nat)(w:World)(hd:d≤32)(hp:p≤X.L.length)(h:X.In w w.heap.size)(hf16:16*(X.L.length-p)+2≤f+1)(hk:¬ X.R.kd p=3)(ht:((X.R.wd p).toList==[116,114,117,101])=false)(hf:((X.R.wd p).toList==[102,97,108,115,101])=false)(hb:((X.R.wd p).toList==[40])=false)(hdc:((X.R.wd p).toList==[100,101,99,108,97,115,115,105,102,121])=false) :
  CP 91 #[X.val,.int .i64 (p:Int),.int .i64 (d:Int)] w (Yi w (rd X.R (f+1) .pr p d)):=by
 have hz:=Q2
 have hzx:=J8
 have hln:=h.2.len
 have HI:=Lh h
 have H2:=Lh (Qx X w)
 have HA:Hid (∀ W,Below w.heap.size w W→CP 51 #[X.val,.int .i64 (p:Int)] W fun e w'=>e=.returned (.string (X.R.wd p))∧Below W.heap.size W w'):=Lh fun W hW=>Qg X p W ((HI.out.up hW nLe).more hW.size) (by omega)
 have HNB:Hid (∀ W,Below w.heap.size w W→CP 96 #[X.val,.int .i64 (p:Int)] W fun e w'=>e=.returned (.bool false)∧Below W.heap.size W w'):=Lh fun W hW=>by
  have:=Kf X p W ((HI.out.up hW nLe).more hW.size) (by omega)
  rw [show (X.R.kd p==3)=false by simp [hk]] at this
  exact this
 have HPO:Hid (∀ W,Below w.heap.size w W→CP 38 #[X.val,.int .i64 (p:Int)] W fun e w'=>e=.returned (.int .i64 (X.R.ps p))∧Below W.heap.size W w'):=Lh fun W hW=>Qz X p W ((HI.out.up hW nLe).more hW.size) (by omega)
 have HO:Hid (∀ W,Below w.heap.size w W→CP 100 #[X.val,.int .i64 (p:Int),.int .i64 (d:Int)] W (Yi W (rd X.R f .nm p d))):=Lh fun W hW=>hO d p W hd hp ((HI.out.up hW nLe).more hW.size) (by omega)
 rw [Qcf hk ht hf hb hdc]
 obtain ⟨g,hg⟩:∃ g,rd X.R f .nm p d=g:=⟨_,rfl⟩
 rw [hg] at HO ⊢
 clear hg hO
 obtain ⟨s,hs⟩:∃ s,X.R.wd p=s:=⟨_,rfl⟩
 rw [hs] at HA ht hf hb hdc
 clear h hs hk
 obtain ⟨W1,hW1⟩:∃ W1,((w.alloc (.cells #[.string X.T,.slice X.A X.L.length X.c] 92)).alloc (.cells z8 138))=W1:=⟨_,rfl⟩
 rw [hW1] at H2
 have HW1:=Lh hW1
 have hs1:=H2.out.sz
 clear hW1
 go_enter Try.func91,Try.ntmps91
 go_wp2_with (first
  | (go_at_call 51;rw [HW1.out];refine (HA.out _ H2.out.be).mono ?_;rintro e w2 ⟨rfl,b2⟩;have HB2:=Lh (H2.out.be.trans (b2.mono H2.out.be.size));have HG2:=Lh (H2.out.ga.below b2 (by omega));have HR2:=Lh (H2.out.row b2 (by omega));obtain ⟨k0,k1⟩:=HR2.out;have hs2:=b2.size;clear b2;dsimp only)
  | (go_at_call 96;refine (HNB.out _ HB2.out).mono ?_;rintro e w3 ⟨rfl,b3⟩;have HB3:=Lh (bTr HB2 b3);have HG3:=Lh (HG2.out.below b3 (by omega));have e0:=(b3.cell (p:=⟨w.heap.size,0,none⟩) (by show w.heap.size<_;omega)).trans HR2.out.1;have e1:=(b3.cell (p:=⟨w.heap.size,1,none⟩) (by show w.heap.size<_;omega)).trans HR2.out.2;have hs3:=b3.size;clear b3;dsimp only)
  | (go_at_call 100;refine (HO.out _ HB3.out).mono ?_;rintro e w5 ⟨lv,rfl,hx5,b5⟩;have hone:=hx5.one;have HX5:=Lh hx5;have HB5:=Lh (bTr HB3 b5);have HG5:=Lh (HG3.out.below b5 (by omega));clear b5 hx5;dsimp only)
  | (refine Qe rfl (.tmp 6) (.tmp 120) rfl (w.heap.size+1) rfl HG5.out (e:=g.e) (lv:=lv) (p:=(g.p:Int)) (r:=g.r) rfl hone ?_;intro w6 hg6 hs6;have HG6:=Lh hs6;have HB6:=Lh (Qu HB5.out hg6 (by omega) HB5.out.size);have HX6:=Lh (HX5.out.grown hg6 (by intro b hb _ e;injection e with e;have hb:w3.heap.size≤b:=hb;omega));clear hg6 hs6)
  | fail)
 refine Jo (i:=6) (by kernel_rfl) rfl rfl HG6.out ⟨lv,rfl,?_,HB6.out⟩
 exact HX6.out.weak fun b hb _=>by have hb:w3.heap.size≤b:=hb;show w.heap.size≤b;omega
theorem Gar.setp{w:World}{G:Nat}{x:Ex}{lv:Value}{p r:Int}(h:Gar w G x lv p r)(q:Int):Gar (w.setCell ⟨G,6,none⟩ (.int .i64 q)) G x lv q r:=by
 have h6:=h.six
 refine ⟨fun i u hu=>?_,fun j hj=>by rw [World.frozen?_setCell];exact h.fz j hj,by simpa using h.lt⟩
 rw [Nat.zero_add]
 by_cases hi:i=6
 ·subst hi
  rw [World.cell?_setCell_same _ _ _ h6.2.2.2.2.2.2.1]
  exact hu
 ·rw [World.cell?_setCell_other _ _ _ _ (fun e=>by injection e with _ e1;exact hi e1.symm)]
  have hv:=h.cs i u (by
   match i,hu with
   | 0,hu=>exact hu
   | 1,hu=>exact hu
   | 2,hu=>exact hu
   | 3,hu=>exact hu
   | 4,hu=>exact hu
   | 5,hu=>exact hu
   | 6,hu=>exact absurd rfl hi
   | 7,hu=>exact hu
   | i+8,hu=>simp [gC,exC] at hu)
  rwa [Nat.zero_add] at hv
theorem hld_pos(e:Ex)(p q:Nat):(hld e p q).r=0∨1≤(hld e p q).r:=by
 rcases Qj6 e p q with ⟨h,_⟩ | ⟨h,_⟩
 ·exact .inl h
 ·rw [h];exact .inr (by decide)
theorem rd_pos{R:Rw}:∀ (f:Nat) (m:Md) (a d:Nat),(rd R f m a d).r=0∨1≤(rd R f m a d).r:=by
 intro f
 induction f with
 | zero=>intro m a d;rw [rd_0];exact .inr (show (1:Int)≤99 by decide)
 | succ f ih =>
  intro m a d
  cases m
  all_goals
   simp only [rd]
   repeat' split
   all_goals first
    | exact ih _ _ _
    | exact hld_pos _ _ _
    | exact .inl rfl
    | exact .inr (show (1:Int)≤11 by decide)
    | exact .inr (show (1:Int)≤12 by decide)
    | exact .inr (show (1:Int)≤18 by decide)
theorem Qex(X:Ry)(f p:Nat)(w:World)(hp:p≤X.L.length)(h:X.In w w.heap.size)(hk:¬ X.R.kd p=3)(ht:((X.R.wd p).toList==[116,114,117,101])=false)(hf:((X.R.wd p).toList==[102,97,108,115,101])=false)(hb:((X.R.wd p).toList==[40])=true) :
  CP 91 #[X.val,.int .i64 (p:Int),.int .i64 32] w (Yi w (rd X.R (f+2) .pr p 32)):=by
 have hz:=Q2
 have hzx:=J8
 have hln:=h.2.len
 have HI:=Lh h
 have H2:=Lh (Qx X w)
 have HA:Hid (∀ W,Below w.heap.size w W→CP 51 #[X.val,.int .i64 (p:Int)] W fun e w'=>e=.returned (.string (X.R.wd p))∧Below W.heap.size W w'):=Lh fun W hW=>Qg X p W ((HI.out.up hW nLe).more hW.size) (by omega)
 have HNB:Hid (∀ W,Below w.heap.size w W→CP 96 #[X.val,.int .i64 (p:Int)] W fun e w'=>e=.returned (.bool false)∧Below W.heap.size W w'):=Lh fun W hW=>by
  have:=Kf X p W ((HI.out.up hW nLe).more hW.size) (by omega)
  rw [show (X.R.kd p==3)=false by simp [hk]] at this
  exact this
 have HPO:Hid (∀ W,Below w.heap.size w W→CP 38 #[X.val,.int .i64 (p:Int)] W fun e w'=>e=.returned (.int .i64 (X.R.ps p))∧Below W.heap.size W w'):=Lh fun W hW=>Qz X p W ((HI.out.up hW nLe).more hW.size) (by omega)
 rw [Qce hk ht hf hb,Qka hb rfl,Ql4 _ (by decide)]
 obtain ⟨s,hs⟩:∃ s,X.R.wd p=s:=⟨_,rfl⟩
 rw [hs] at HA ht hf hb
 clear h hs hk
 obtain ⟨W1,hW1⟩:∃ W1,((w.alloc (.cells #[.string X.T,.slice X.A X.L.length X.c] 92)).alloc (.cells z8 138))=W1:=⟨_,rfl⟩
 rw [hW1] at H2
 have HW1:=Lh hW1
 have hs1:=H2.out.sz
 clear hW1
 go_enter Try.func91,Try.ntmps91
 go_wp2_with (first
  | (go_at_call 51;rw [HW1.out];refine (HA.out _ H2.out.be).mono ?_;rintro e w2 ⟨rfl,b2⟩;have HB2:=Lh (H2.out.be.trans (b2.mono H2.out.be.size));have HG2:=Lh (H2.out.ga.below b2 (by omega));have HR2:=Lh (H2.out.row b2 (by omega));obtain ⟨k0,k1⟩:=HR2.out;have hs2:=b2.size;clear b2;dsimp only)
  | (go_at_call 96;refine (HNB.out _ HB2.out).mono ?_;rintro e w3 ⟨rfl,b3⟩;have HB3:=Lh (bTr HB2 b3);have HG3:=Lh (HG2.out.below b3 (by omega));have e0:=(b3.cell (p:=⟨w.heap.size,0,none⟩) (by show w.heap.size<_;omega)).trans HR2.out.1;have e1:=(b3.cell (p:=⟨w.heap.size,1,none⟩) (by show w.heap.size<_;omega)).trans HR2.out.2;have hs3:=b3.size;clear b3;dsimp only)
  | (refine Qe rfl (.tmp 6) (.tmp 82) rfl (w.heap.size+1) rfl HG3.out (e:=Ex.nul) (lv:=.slice none 0 0) (p:=(p:Int)) (r:=12) rfl rfl ?_;intro w6 hg6 hs6;have HG6:=Lh hs6;have HB6:=Lh (Qu HB3.out hg6 (by omega) HB3.out.size);clear hg6 hs6)
  | fail)
 exact Jo (i:=6) (by kernel_rfl) rfl rfl HG6.out ⟨.slice none 0 0,rfl,.nil,HB6.out⟩
theorem Qdd(X:Ry)(f:Nat)(hE:Qlc X f)(d p:Nat)(w:World)(hd:d≤32)(h32:¬ d=32)(hp:p<X.L.length)(h:X.In w w.heap.size)(hf16:16*(X.L.length-p)+2≤f+2)(hk:¬ X.R.kd p=3)(ht:((X.R.wd p).toList==[116,114,117,101])=false)(hf:((X.R.wd p).toList==[102,97,108,115,101])=false)(hb:((X.R.wd p).toList==[40])=true) :
  CP 91 #[X.val,.int .i64 (p:Int),.int .i64 (d:Int)] w (Yi w (rd X.R (f+2) .pr p d)):=by
 have hz:=Q2
 have hzx:=J8
 have hln:=h.2.len
 have HI:=Lh h
 have H2:=Lh (Qx X w)
 have HA:Hid (∀ W,Below w.heap.size w W→CP 51 #[X.val,.int .i64 (p:Int)] W fun e w'=>e=.returned (.string (X.R.wd p))∧Below W.heap.size W w'):=Lh fun W hW=>Qg X p W ((HI.out.up hW nLe).more hW.size) (by omega)
 have HNB:Hid (∀ W,Below w.heap.size w W→CP 96 #[X.val,.int .i64 (p:Int)] W fun e w'=>e=.returned (.bool false)∧Below W.heap.size W w'):=Lh fun W hW=>by
  have:=Kf X p W ((HI.out.up hW nLe).more hW.size) (by omega)
  rw [show (X.R.kd p==3)=false by simp [hk]] at this
  exact this
 have HPO:Hid (∀ W,Below w.heap.size w W→CP 38 #[X.val,.int .i64 (p:Int)] W fun e w'=>e=.returned (.int .i64 (X.R.ps p))∧Below W.heap.size W w'):=Lh fun W hW=>Qz X p W ((HI.out.up hW nLe).more hW.size) (by omega)
 obtain ⟨g,hg⟩:∃ g,rd X.R f (.lev 1) (p+1) (d+1)=g:=⟨_,rfl⟩
 have hin:=Ko (Qo X.T X.L) f (.lev 1) (p+1) (d+1) hp (fun h=>by cases h)
 have hnul:=Qal (R:=X.R) f (.lev 1) (p+1) (d+1)
 have hpos:=rd_pos (R:=X.R) f (.lev 1) (p+1) (d+1)
 rw [hg] at hin hnul hpos
 have hgp:g.p≤X.L.length:=hin.2.1
 have HE:Hid (∀ W,Below w.heap.size w W→CP 70 #[X.val,.int .i64 ((p:Int)+1),.int .i64 1,.int .i64 ((d:Int)+1)] W (Yi W g)):=Lh fun W hW=>by
  rw [← hg]
  exact hE 1 (d+1) (p+1) W (by omega) (by omega) (by omega) hp ((HI.out.up hW nLe).more hW.size) (by omega)
 have HAG:Hid (∀ W,Below w.heap.size w W→CP 51 #[X.val,.int .i64 (g.p:Int)] W fun e w'=>e=.returned (.string (X.R.wd g.p))∧Below W.heap.size W w'):=Lh fun W hW=>Qg X g.p W ((HI.out.up hW nLe).more hW.size) (by omega)
 rw [Qce hk ht hf hb,Ql3 hb h32 hg]
 have d32:¬ (32:Int)≤(d:Int):=by omega
 clear hE hg hin
 by_cases hr:g.r=0
 ·have hr2':(g.r==0)=true:=by simp [hr]
  have hr2'':decide (g.r=0)=true:=by simp [hr]
  rw [if_pos hr]
  unfold wiG
  rw [Qiz X.R _ _ _ tl41]
  have hmin:min (1:Int) g.r=0:=by omega
  have HR0:=Lh hr
  clear hnul hpos
  cases hc:X.R.is g.p [41] with
  | true =>
   have hc':((X.R.wd g.p).toList==[41])=true:=hc
   rw [if_pos (show (good g.e g.p).r=0 from rfl)]
   show CP 91 #[X.val,.int .i64 (p:Int),.int .i64 (d:Int)] w (Yi w (if (if X.R.is g.p [41]=true then (g.p+1,(0:Int)) else (g.p,11)).2=0 then good g.e (if X.R.is g.p [41]=true then (g.p+1,(0:Int)) else (g.p,11)).1 else _))
   rw [if_pos hc]
   rw [if_pos (show ((g.p+1,(0:Int)):Nat×Int).2=0 from rfl)]
   obtain ⟨sg,hsg⟩:∃ sg,X.R.wd g.p=sg:=⟨_,rfl⟩
   rw [hsg] at hc' HAG
   clear hsg hc
   obtain ⟨s,hs⟩:∃ s,X.R.wd p=s:=⟨_,rfl⟩
   rw [hs] at HA ht hf hb
   clear h hs hk
   obtain ⟨W1,hW1⟩:∃ W1,((w.alloc (.cells #[.string X.T,.slice X.A X.L.length X.c] 92)).alloc (.cells z8 138))=W1:=⟨_,rfl⟩
   rw [hW1] at H2
   have HW1:=Lh hW1
   have hs1:=H2.out.sz
   clear hW1
   go_enter Try.func91,Try.ntmps91
   go_wp2_with (first
    | (go_at_call 51;rw [HW1.out];refine (HA.out _ H2.out.be).mono ?_;rintro e w2 ⟨rfl,b2⟩;have HB2:=Lh (H2.out.be.trans (b2.mono H2.out.be.size));have HG2:=Lh (H2.out.ga.below b2 (by omega));have HR2:=Lh (H2.out.row b2 (by omega));obtain ⟨k0,k1⟩:=HR2.out;have hs2:=b2.size;clear b2;dsimp only)
    | (go_at_call 96;refine (HNB.out _ HB2.out).mono ?_;rintro e w3 ⟨rfl,b3⟩;have HB3:=Lh (bTr HB2 b3);have HG3:=Lh (HG2.out.below b3 (by omega));have e0:=(b3.cell (p:=⟨w.heap.size,0,none⟩) (by show w.heap.size<_;omega)).trans HR2.out.1;have e1:=(b3.cell (p:=⟨w.heap.size,1,none⟩) (by show w.heap.size<_;omega)).trans HR2.out.2;have hs3:=b3.size;clear b3;dsimp only)
    | (go_at_call 70;refine (HE.out _ HB3.out).mono ?_;rintro e w4 ⟨lv,rfl,hx4,b4⟩;obtain ⟨A4,c4,rfl,_⟩:=hx4.len;have hone:=hx4.one;have HX4:=Lh hx4;have HB4:=Lh (bTr HB3 b4);have HG4:=Lh (HG3.out.below b4 (by omega));have j0:=(b4.cell (p:=⟨w.heap.size,0,none⟩) (by show w.heap.size<_;omega)).trans e0;have j1:=(b4.cell (p:=⟨w.heap.size,1,none⟩) (by show w.heap.size<_;omega)).trans e1;have J0:=Lh j0;have J1:=Lh j1;have hs4:=b4.size;clear b4 hx4;dsimp only)
    | (refine Qe rfl (.tmp 14) (.tmp 88) rfl w4.heap.size rfl (Q3 w4) (e:=g.e) (lv:=.slice A4 g.e.l.length c4) (p:=(g.p:Int)) (r:=g.r) rfl hone ?_;intro w5 hg5 hs5;have K5:=Lh hs5;have HG5:=Lh ((HG4.out.below ((Below.refl w4.heap.size w4).alloc nLe (.cells z8 138)) (by omega)).grown hg5 (by intro e;injection e;omega));have HB5:=Lh (Qu (HB4.out.alloc HB4.out.size (.cells z8 138)) hg5 (by omega) (by simp;omega));have HX5:=Lh (((HX4.out.weak (S':=fun b=>w3.heap.size≤b∧b<w4.heap.size) (fun b h1 h2=>⟨h1,h2⟩)).under bAl (fun b hb _=>hb.2)).grown hg5 (by intro b hb _ e;injection e with e;omega));have hs5':=hg5.size;simp only [Yf] at hs5';have hbk:=(hg5.block w.heap.size (by simp;omega) (by intro e;injection e;omega)).trans (((Below.refl w4.heap.size w4).alloc nLe (.cells z8 138)).block w.heap.size (by omega));have q0:=(World.cell?_of_block (a:=⟨w.heap.size,0,none⟩) hbk).trans J0.out;have q1:=(World.cell?_of_block (a:=⟨w.heap.size,1,none⟩) hbk).trans J1.out;obtain ⟨m0,m1,m2,m3,m4,m5,m6,m7⟩:=hs5.six;have f6:=hs5.fz 6 (by omega);clear hg5 hs5 hbk)
    | (go_at_call 51;refine (HAG.out _ HB5.out).mono ?_;rintro e w6 ⟨rfl,b6⟩;have hz5:=K5.out.lt;have K6:=Lh (K5.out.below b6 hz5);have HG6:=Lh (HG5.out.below b6 HG5.out.lt);have HB6:=Lh (bTr HB5 b6);have HX6:=Lh (HX5.out.under b6 (by intro b _ hb;exact hb));have hs6:=b6.size;obtain ⟨m0,m1,m2,m3,m4,m5,m6,m7⟩:=K6.out.six;have f6:=K6.out.fz 6 (by omega);clear b6;dsimp only)
    | (refine Js rfl (.tmp 14) rfl w4.heap.size rfl (K6.out.setp ((g.p:Int)+1)) ?_)
    | (refine Qe rfl (.tmp 6) (.tmp 110) rfl (w.heap.size+1) rfl (HG6.out.grown (Qah _ _ _ _) (by intro e;injection e;omega)) (e:=g.e) (lv:=.slice A4 g.e.l.length c4) (p:=(g.p:Int)+1) (r:=g.r) rfl hone ?_;intro w7 hg7 hs7;have HG7:=Lh hs7;have HB7:=Lh (Qu (Qu HB6.out (Qah _ w4.heap.size 6 (.int .i64 ((g.p:Int)+1))) (by omega) HB6.out.size) hg7 (by omega) (by simp;have:=HB6.out.size;omega));have HX7:=Lh ((HX6.out.grown (Qah _ w4.heap.size 6 (.int .i64 ((g.p:Int)+1))) (by intro b hb _ e;injection e with e;omega)).grown hg7 (by intro b hb _ e;injection e with e;omega));clear hg7 hs7)
    | fail)
   refine Jo (i:=6) (by kernel_rfl) rfl rfl HG7.out ⟨.slice A4 g.e.l.length c4,?_,?_,HB7.out⟩
   ·rw [HR0.out]
    rfl
   ·exact HX7.out.weak fun b hb _=>by have:=hb.1;show w.heap.size≤b;omega
  | false =>
   have hc':((X.R.wd g.p).toList==[41])=false:=hc
   rw [if_pos (show (good g.e g.p).r=0 from rfl)]
   show CP 91 #[X.val,.int .i64 (p:Int),.int .i64 (d:Int)] w (Yi w (if (if X.R.is g.p [41]=true then (g.p+1,(0:Int)) else (g.p,11)).2=0 then _ else bad (if X.R.is g.p [41]=true then (g.p+1,(0:Int)) else (g.p,11)).1 (if X.R.is g.p [41]=true then (g.p+1,(0:Int)) else (g.p,11)).2))
   rw [hc,if_neg (show ¬ (false=true) by decide)]
   rw [if_neg (show ¬ ((g.p,(11:Int)):Nat×Int).2=0 from (show ¬ (11:Int)=0 by decide))]
   obtain ⟨sg,hsg⟩:∃ sg,X.R.wd g.p=sg:=⟨_,rfl⟩
   rw [hsg] at hc' HAG
   clear hsg hc
   obtain ⟨s,hs⟩:∃ s,X.R.wd p=s:=⟨_,rfl⟩
   rw [hs] at HA ht hf hb
   clear h hs hk
   obtain ⟨W1,hW1⟩:∃ W1,((w.alloc (.cells #[.string X.T,.slice X.A X.L.length X.c] 92)).alloc (.cells z8 138))=W1:=⟨_,rfl⟩
   rw [hW1] at H2
   have HW1:=Lh hW1
   have hs1:=H2.out.sz
   clear hW1
   go_enter Try.func91,Try.ntmps91
   go_wp2_with (first
    | (go_at_call 51;rw [HW1.out];refine (HA.out _ H2.out.be).mono ?_;rintro e w2 ⟨rfl,b2⟩;have HB2:=Lh (H2.out.be.trans (b2.mono H2.out.be.size));have HG2:=Lh (H2.out.ga.below b2 (by omega));have HR2:=Lh (H2.out.row b2 (by omega));obtain ⟨k0,k1⟩:=HR2.out;have hs2:=b2.size;clear b2;dsimp only)
    | (go_at_call 96;refine (HNB.out _ HB2.out).mono ?_;rintro e w3 ⟨rfl,b3⟩;have HB3:=Lh (bTr HB2 b3);have HG3:=Lh (HG2.out.below b3 (by omega));have e0:=(b3.cell (p:=⟨w.heap.size,0,none⟩) (by show w.heap.size<_;omega)).trans HR2.out.1;have e1:=(b3.cell (p:=⟨w.heap.size,1,none⟩) (by show w.heap.size<_;omega)).trans HR2.out.2;have hs3:=b3.size;clear b3;dsimp only)
    | (go_at_call 70;refine (HE.out _ HB3.out).mono ?_;rintro e w4 ⟨lv,rfl,hx4,b4⟩;obtain ⟨A4,c4,rfl,_⟩:=hx4.len;have hone:=hx4.one;have HX4:=Lh hx4;have HB4:=Lh (bTr HB3 b4);have HG4:=Lh (HG3.out.below b4 (by omega));have j0:=(b4.cell (p:=⟨w.heap.size,0,none⟩) (by show w.heap.size<_;omega)).trans e0;have j1:=(b4.cell (p:=⟨w.heap.size,1,none⟩) (by show w.heap.size<_;omega)).trans e1;have J0:=Lh j0;have J1:=Lh j1;have hs4:=b4.size;clear b4 hx4;dsimp only)
    | (refine Qe rfl (.tmp 14) (.tmp 88) rfl w4.heap.size rfl (Q3 w4) (e:=g.e) (lv:=.slice A4 g.e.l.length c4) (p:=(g.p:Int)) (r:=g.r) rfl hone ?_;intro w5 hg5 hs5;have K5:=Lh hs5;have HG5:=Lh ((HG4.out.below ((Below.refl w4.heap.size w4).alloc nLe (.cells z8 138)) (by omega)).grown hg5 (by intro e;injection e;omega));have HB5:=Lh (Qu (HB4.out.alloc HB4.out.size (.cells z8 138)) hg5 (by omega) (by simp;omega));have HX5:=Lh (((HX4.out.weak (S':=fun b=>w3.heap.size≤b∧b<w4.heap.size) (fun b h1 h2=>⟨h1,h2⟩)).under bAl (fun b hb _=>hb.2)).grown hg5 (by intro b hb _ e;injection e with e;omega));have hs5':=hg5.size;simp only [Yf] at hs5';have hbk:=(hg5.block w.heap.size (by simp;omega) (by intro e;injection e;omega)).trans (((Below.refl w4.heap.size w4).alloc nLe (.cells z8 138)).block w.heap.size (by omega));have q0:=(World.cell?_of_block (a:=⟨w.heap.size,0,none⟩) hbk).trans J0.out;have q1:=(World.cell?_of_block (a:=⟨w.heap.size,1,none⟩) hbk).trans J1.out;obtain ⟨m0,m1,m2,m3,m4,m5,m6,m7⟩:=hs5.six;have f6:=hs5.fz 6 (by omega);clear hg5 hs5 hbk)
    | (go_at_call 51;refine (HAG.out _ HB5.out).mono ?_;rintro e w6 ⟨rfl,b6⟩;have hz5:=K5.out.lt;have K6:=Lh (K5.out.below b6 hz5);have HG6:=Lh (HG5.out.below b6 HG5.out.lt);have HB6:=Lh (bTr HB5 b6);have HX6:=Lh (HX5.out.under b6 (by intro b _ hb;exact hb));have hs6:=b6.size;obtain ⟨m0,m1,m2,m3,m4,m5,m6,m7⟩:=K6.out.six;have f6:=K6.out.fz 6 (by omega);clear b6;dsimp only)
    | (refine Qe rfl (.tmp 6) (.tmp 101) rfl (w.heap.size+1) rfl HG6.out (e:=Ex.nul) (lv:=.slice none 0 0) (p:=(g.p:Int)) (r:=11) rfl rfl ?_;intro w7 hg7 hs7;have HG7:=Lh hs7;have HB7:=Lh (Qu HB6.out hg7 (by omega) HB6.out.size);clear hg7 hs7)
    | fail)
   exact Jo (i:=6) (by kernel_rfl) rfl rfl HG7.out ⟨.slice none 0 0,rfl,.nil,HB7.out⟩
 ·have hr2':(g.r==0)=false:=by simp [hr]
  have hr2'':decide (g.r=0)=false:=by simp [hr]
  have hr1:1≤g.r:=by rcases hpos with h | h;exact absurd h hr;exact h
  have HNU:=Lh (hnul hr)
  clear hnul hpos
  rw [if_neg hr,Ql4 _ hr]
  have hmin:min (1:Int) g.r=1:=by omega
  obtain ⟨s,hs⟩:∃ s,X.R.wd p=s:=⟨_,rfl⟩
  rw [hs] at HA ht hf hb
  clear h hs hk
  obtain ⟨W1,hW1⟩:∃ W1,((w.alloc (.cells #[.string X.T,.slice X.A X.L.length X.c] 92)).alloc (.cells z8 138))=W1:=⟨_,rfl⟩
  rw [hW1] at H2
  have HW1:=Lh hW1
  have hs1:=H2.out.sz
  clear hW1
  go_enter Try.func91,Try.ntmps91
  go_wp2_with (first
   | (go_at_call 51;rw [HW1.out];refine (HA.out _ H2.out.be).mono ?_;rintro e w2 ⟨rfl,b2⟩;have HB2:=Lh (H2.out.be.trans (b2.mono H2.out.be.size));have HG2:=Lh (H2.out.ga.below b2 (by omega));have HR2:=Lh (H2.out.row b2 (by omega));obtain ⟨k0,k1⟩:=HR2.out;have hs2:=b2.size;clear b2;dsimp only)
   | (go_at_call 96;refine (HNB.out _ HB2.out).mono ?_;rintro e w3 ⟨rfl,b3⟩;have HB3:=Lh (bTr HB2 b3);have HG3:=Lh (HG2.out.below b3 (by omega));have e0:=(b3.cell (p:=⟨w.heap.size,0,none⟩) (by show w.heap.size<_;omega)).trans HR2.out.1;have e1:=(b3.cell (p:=⟨w.heap.size,1,none⟩) (by show w.heap.size<_;omega)).trans HR2.out.2;have hs3:=b3.size;clear b3;dsimp only)
   | (go_at_call 70;refine (HE.out _ HB3.out).mono ?_;rintro e w4 ⟨lv,rfl,hx4,b4⟩;obtain ⟨A4,c4,rfl,_⟩:=hx4.len;have hone:=hx4.one;have HX4:=Lh hx4;have HB4:=Lh (bTr HB3 b4);have HG4:=Lh (HG3.out.below b4 (by omega));have j0:=(b4.cell (p:=⟨w.heap.size,0,none⟩) (by show w.heap.size<_;omega)).trans e0;have j1:=(b4.cell (p:=⟨w.heap.size,1,none⟩) (by show w.heap.size<_;omega)).trans e1;have J0:=Lh j0;have J1:=Lh j1;have hs4:=b4.size;clear b4 hx4;dsimp only)
   | (refine Qe rfl (.tmp 14) (.tmp 88) rfl w4.heap.size rfl (Q3 w4) (e:=g.e) (lv:=.slice A4 g.e.l.length c4) (p:=(g.p:Int)) (r:=g.r) rfl hone ?_;intro w5 hg5 hs5;have K5:=Lh hs5;have HG5:=Lh ((HG4.out.below ((Below.refl w4.heap.size w4).alloc nLe (.cells z8 138)) (by omega)).grown hg5 (by intro e;injection e;omega));have HB5:=Lh (Qu (HB4.out.alloc HB4.out.size (.cells z8 138)) hg5 (by omega) (by simp;omega));have HX5:=Lh (((HX4.out.weak (S':=fun b=>w3.heap.size≤b∧b<w4.heap.size) (fun b h1 h2=>⟨h1,h2⟩)).under bAl (fun b hb _=>hb.2)).grown hg5 (by intro b hb _ e;injection e with e;omega));have hs5':=hg5.size;simp only [Yf] at hs5';have hbk:=(hg5.block w.heap.size (by simp;omega) (by intro e;injection e;omega)).trans (((Below.refl w4.heap.size w4).alloc nLe (.cells z8 138)).block w.heap.size (by omega));have q0:=(World.cell?_of_block (a:=⟨w.heap.size,0,none⟩) hbk).trans J0.out;have q1:=(World.cell?_of_block (a:=⟨w.heap.size,1,none⟩) hbk).trans J1.out;obtain ⟨m0,m1,m2,m3,m4,m5,m6,m7⟩:=hs5.six;have f6:=hs5.fz 6 (by omega);clear hg5 hs5 hbk)
   | (refine Js rfl (.tmp 14) rfl w4.heap.size rfl ((K5.out).setp ((g.p:Int))) ?_)
   | (refine Qe rfl (.tmp 6) (.tmp 110) rfl (w.heap.size+1) rfl ((HG5.out).grown (Qah _ _ _ _) (by intro e;injection e;omega)) (e:=g.e) (lv:=.slice A4 g.e.l.length c4) (p:=(g.p:Int)) (r:=g.r) rfl hone ?_;intro w7 hg7 hs7;have HG7:=Lh hs7;have HB7:=Lh (Qu (Qu HB5.out (Qah _ w4.heap.size 6 (.int .i64 ((g.p:Int)))) (by omega) (by have:=HB5.out.size;omega)) hg7 (by omega) (by simp;have:=HB5.out.size;omega));have HX7:=Lh (((HX5.out).grown (Qah _ w4.heap.size 6 (.int .i64 ((g.p:Int)))) (by intro b hb _ e;injection e with e;omega)).grown hg7 (by intro b hb _ e;injection e with e;omega));clear hg7 hs7)
   | fail)
  refine Jo (i:=6) (by kernel_rfl) rfl rfl HG7.out ⟨.slice A4 g.e.l.length c4,?_,?_,HB7.out⟩
  ·rw [HNU.out]
   rfl
  ·have h1:g.e.l=[]:=by rw [HNU.out];rfl
   rw [h1]
   exact .emp _ _
end Go.Proofs.Ytjoclbeoafeebaa
