import Derived.Test.YtjoclbeoafeebaaSq
import Derived.Test.YtjoclbeoafeebaaMLx
import Derived.Test.YtjoclbeoafeebaaLxR
set_option maxHeartbeats 6400000
set_option maxRecDepth 100000
namespace Go.Proofs.Ytjoclbeoafeebaa
set_option linter.unusedVariables false
set_option linter.unusedSimpArgs false
open Go.RowKit
theorem Qai(bs:List Int)(u j:Nat):(bs.drop u).getD j 0=bs.getD (u+j) 0:=by simp [List.getD,List.getElem?_drop]
theorem Zf{bs:List Int}{k:Int}{u e n:Nat}(hl:bs.length=n)(hu:u≤e)(he:e≤n)(ha:∀ j,u≤j→j<e→Zc k (bs.getD j 0)=true)(hs:e=n∨Zc k (bs.getD e 0)=false):u+Yw (Zc k) (bs.drop u)=e:=by
 rcases hs with rfl | hs
 ·have:=Qed (go:=Zc k) (l:=bs.drop u) (fun j hj=>by
   rw [Qai]
   simp at hj
   exact ha _ (by omega) (by omega))
  rw [this]
  simp
  omega
 ·rcases Nat.lt_or_ge e n with h | h
  ·have:=Qbe (go:=Zc k) (l:=bs.drop u) (k:=e-u) (fun j hj=>by
    rw [Qai]
    exact ha _ (by omega) (by omega)) (by simp;omega) (by rw [Qai,show u+(e-u)=e by omega];exact hs)
   omega
  ·have:=Qed (go:=Zc k) (l:=bs.drop u) (fun j hj=>by
    rw [Qai]
    simp at hj
    exact ha _ (by omega) (by omega))
   rw [this]
   simp
   omega
theorem Qbh{bs:List Int}{u e:Nat}{k c0:Int}{r:List Int}(hd:bs.drop u=c0::r)(hk:kd c0=k)(h4:k<4)(he:u+1+Yw (Zc k) r=e):tk (bs.drop u)=k∧u+tl (bs.drop u)=e:=by
 rw [hd,Qaz,Ux,hk,if_pos h4,if_pos h4]
 omega
theorem tok_sgn{bs:List Int}{u:Nat}{c0:Int}{r:List Int}(hd:bs.drop u=c0::r)(h4:4≤kd c0) :
  (sgn c0 r=2∧tk (bs.drop u)=4∧tl (bs.drop u)=2)∨(sgn c0 r=1∧tk (bs.drop u)=4∧tl (bs.drop u)=1)∨(sgn c0 r=0∧tk (bs.drop u)=5∧tl (bs.drop u)=1):=by
 have hr:=Qbv c0
 rw [hd,Qaz,Ux,if_neg (show ¬ kd c0<4 by omega),if_neg (show ¬ kd c0<4 by omega)]
 unfold sgn
 by_cases hp:Ur c0 r=true
 ·simp [hp]
 ·by_cases h:kd c0=4
  ·simp [hp,h]
  ·have:kd c0=5:=by omega
   simp [hp,this]
theorem Qf9{t:ByteArray}{bs:List Int}{e:Nat}(hb:bts t=bs)(he:e<t.size):((t[e]'he).toNat:Int)=bs.getD e 0:=by
 subst hb
 have h1:e<t.data.size:=he
 have h2:(bts t)[e]?=some (((t.data[e]'h1).toNat:Nat):Int):=by unfold bts;rw [List.getElem?_map,Array.getElem?_toList,Array.getElem?_eq_getElem h1];rfl
 rw [List.getD,h2]
 rfl
theorem bts_ext(t:ByteArray)(u:Nat)(hu:u≤t.size):bts (t.extract u t.size)=(bts t).drop u:=by
 unfold bts
 rw [← List.map_drop]
 congr 1
 have:t.data.toList.length=t.size:=rfl
 simp
 exact List.take_of_length_le (by simp)
theorem Zu{bs:List Int}{L:List Tk}{u e:Nat}{k:Int}(hL:L++U9 bs u=U9 bs 0)(hu:u<bs.length)(hk:tk (bs.drop u)=k)(he:u+tl (bs.drop u)=e):(L++[(k,(u:Int),(e:Int))])++U9 bs e=U9 bs 0:=by
 rw [← hL,Qhg hu,hk,he]
 simp
theorem Qdw(t:ByteArray)(bs:List Int)(w:World)(hb:bts t=bs)(hm:t.size≤1000000) :
  CP 49 #[.string t] w (Qft (U9 bs 0) w):=by
 have hl:bs.length=t.size:=by rw [← hb,J3]
 have HL:=Lh hl
 have HT:=Lh hb
 clear hb hl
 go_enter Try.func49,Try.ntmps49
 go_wp2
 go_loopw [3,4] (fun v i wr=>∃ (L:List Tk) (u:Nat),i=.int .i64 (u:Int)∧u≤t.size∧Own wr w.heap.size 117 3 v L.length (tcs L)∧L++U9 bs u=U9 bs 0∧L.length≤u∧Below w.heap.size w wr) (fun _ i _=>t.size-(intOf i).toNat)
 case atStart=>exact ⟨[],0,rfl,Nat.zero_le _,Own.nil _ _ _ _ nLe,rfl,by simp,Below.refl _ _⟩
 case round =>
  obtain ⟨L,u,rfl,hu,ho,hL,hLu,hb⟩:=hrel
  have HO:=Lh ho
  have HLL:=Lh hL
  have HB:=Lh hb
  have hge:=ho.2
  clear ho hL hb
  by_cases hlt:u<t.size
  ·have hlt':u<bs.length:=by rw [HL.out];exact hlt
   have hd:bs.drop u=bs.getD u 0::bs.drop (u+1):=by
    rw [List.drop_eq_getElem_cons hlt']
    simp [hlt']
   have hlt0:u<t.size:=hlt
   have hc0:((t[u]'hlt0).toNat:Int)=bs.getD u 0:=Qf9 HT.out hlt0
   obtain ⟨c0,e0⟩:∃ c0,bs.getD u 0=c0:=⟨_,rfl⟩
   rw [e0] at hd hc0
   have HD:=Lh hd
   have HU:=Lh hlt'
   have hr:=Qbv c0
   have HK0:=Lh (kd_0 c0)
   have HK1:=Lh (kd_1 c0)
   clear hd hlt' e0
   obtain ⟨wb,hwb⟩:∃ wb,wb=wr:=⟨_,rfl⟩
   subst hwb
   by_cases h4:4≤kd c0
   ·have hne0:(c0==32)=false∧(c0==9)=false∧(c0==10)=false∧(c0==13)=false∧(c0==35)=false:=by
     have h0:=HK0.out
     have h1:=HK1.out
     simp only [beq_eq_false_iff_ne,ne_eq]
     omega
    obtain ⟨n1,n2,n3,n4,n5⟩:=hne0
    have k2:(kd c0==2)=false:=by simp;omega
    have k3:(kd c0==3)=false:=by simp;omega
    have HX:=Lh (show bts (t.extract u t.size)=c0::bs.drop (u+1) by rw [bts_ext t u (by omega),HT.out,HD.out])
    obtain ⟨g,hg⟩:∃ g,sgn c0 (bs.drop (u+1))=g:=⟨_,rfl⟩
    have HC:Hid (CP 64 #[.string (t.extract u t.size)] wb (SignTo g wb)):=Lh (by rw [← hg];exact sign_any _ c0 _ wb HX.out)
    have HG:=Lh hg
    have hcs:=tok_sgn HD.out h4
    have hbe:u+tl (bs.drop u)≤t.size:=by have:=tl_in HU.out;rw [HL.out] at this;exact this
    rw [HG.out] at hcs
    clear hg
    rcases hcs with ⟨rfl,h5,h6⟩ | ⟨rfl,h5,h6⟩ | ⟨rfl,h5,h6⟩
    ·have HQ:Hid (tk (bs.drop u)=4∧u+tl (bs.drop u)=u+2):=Lh ⟨h5,by omega⟩
     have hbn:u+2≤t.size:=by omega
     clear h5 h6 hbe
     go_wp2_with (first
      | (at_builtin;refine Q4 rfl (.tmp 119) (.tmp 124) 90 rfl Kl _ w.heap.size _ L.length (tcs L) [.int .i64 (4),.int .i64 (u:Int),.int .i64 ((u:Int)+2)] rfl (HO.out.below b1) rfl rfl rfl (by intro z hz;simp at hz;rcases hz with rfl | rfl | rfl <;> rfl) (by omega) (by omega) ?_;intro v2 w2 ho2 hg2)
      | (go_at_call 60;refine (Jk _ _).mono ?_;rintro e w' ⟨rfl,rfl⟩;rw [k2])
      | (go_at_call 61;refine (Jq _ _).mono ?_;rintro e w' ⟨rfl,rfl⟩;rw [k3])
      | (go_at_call 64;refine HC.out.mono ?_;rintro e w1 ⟨rfl,b1⟩)
      | fail)
     go_roundw
     case rel =>
      refine ⟨L++[((4),(u:Int),((u+2:Nat):Int))],u+2,by go_num,by omega,?_,Zu HLL.out HU.out HQ.out.1 HQ.out.2,by simp;omega,?_⟩
      ·exact ho2.cast (by simp) (by rw [Zn];rfl)
      ·exact ((HB.out.trans (b1.mono hge)).alloc (by have:=b1.size;omega) _).grown hg2 (by have:=b1.size;simp;omega) (fun q hq=>(HO.out.1.lt q hq).1)
     case measure=>simp [intOf];omega
    ·have HQ:Hid (tk (bs.drop u)=4∧u+tl (bs.drop u)=u+1):=Lh ⟨h5,by omega⟩
     have hbn:u+1≤t.size:=by omega
     clear h5 h6 hbe
     go_wp2_with (first
      | (at_builtin;refine Q4 rfl (.tmp 119) (.tmp 124) 90 rfl Kl _ w.heap.size _ L.length (tcs L) [.int .i64 (4),.int .i64 (u:Int),.int .i64 ((u:Int)+1)] rfl (HO.out.below b1) rfl rfl rfl (by intro z hz;simp at hz;rcases hz with rfl | rfl | rfl <;> rfl) (by omega) (by omega) ?_;intro v2 w2 ho2 hg2)
      | (go_at_call 60;refine (Jk _ _).mono ?_;rintro e w' ⟨rfl,rfl⟩;rw [k2])
      | (go_at_call 61;refine (Jq _ _).mono ?_;rintro e w' ⟨rfl,rfl⟩;rw [k3])
      | (go_at_call 64;refine HC.out.mono ?_;rintro e w1 ⟨rfl,b1⟩)
      | fail)
     go_roundw
     case rel =>
      refine ⟨L++[((4),(u:Int),((u+1:Nat):Int))],u+1,by go_num,by omega,?_,Zu HLL.out HU.out HQ.out.1 HQ.out.2,by simp;omega,?_⟩
      ·exact ho2.cast (by simp) (by rw [Zn];rfl)
      ·exact ((HB.out.trans (b1.mono hge)).alloc (by have:=b1.size;omega) _).grown hg2 (by have:=b1.size;simp;omega) (fun q hq=>(HO.out.1.lt q hq).1)
     case measure=>simp [intOf];omega
    ·have HQ:Hid (tk (bs.drop u)=5∧u+tl (bs.drop u)=u+1):=Lh ⟨h5,by omega⟩
     have hbn:u+1≤t.size:=by omega
     clear h5 h6 hbe
     go_wp2_with (first
      | (at_builtin;refine Q4 rfl (.tmp 119) (.tmp 124) 90 rfl Kl _ w.heap.size _ L.length (tcs L) [.int .i64 (5),.int .i64 (u:Int),.int .i64 ((u:Int)+1)] rfl (HO.out.below b1) rfl rfl rfl (by intro z hz;simp at hz;rcases hz with rfl | rfl | rfl <;> rfl) (by omega) (by omega) ?_;intro v2 w2 ho2 hg2)
      | (go_at_call 60;refine (Jk _ _).mono ?_;rintro e w' ⟨rfl,rfl⟩;rw [k2])
      | (go_at_call 61;refine (Jq _ _).mono ?_;rintro e w' ⟨rfl,rfl⟩;rw [k3])
      | (go_at_call 64;refine HC.out.mono ?_;rintro e w1 ⟨rfl,b1⟩)
      | fail)
     go_roundw
     case rel =>
      refine ⟨L++[((5),(u:Int),((u+1:Nat):Int))],u+1,by go_num,by omega,?_,Zu HLL.out HU.out HQ.out.1 HQ.out.2,by simp;omega,?_⟩
      ·exact ho2.cast (by simp) (by rw [Zn];rfl)
      ·exact ((HB.out.trans (b1.mono hge)).alloc (by have:=b1.size;omega) _).grown hg2 (by have:=b1.size;simp;omega) (fun q hq=>(HO.out.1.lt q hq).1)
     case measure=>simp [intOf];omega
   ·have hh:kd c0=0∨kd c0=1∨kd c0=2∨kd c0=3:=by omega
    clear h4 hr
    rcases hh with hk | hk | hk | hk
    ·have hq:=HK0.out.1 hk
     rcases hq with rfl | rfl | rfl | rfl
     all_goals
      have HG:=Lh hk
      clear hk HK0 HK1
      go_wp2_with (first
       | fail)
      go_loopw [6] (fun i w2=>∃ e:Nat,i=.int .i64 (e:Int)∧u+1≤e∧e≤t.size∧(∀ j,u+1≤j→j<e→Zc 0 (bs.getD j 0)=true)∧w2=wb) (fun i _=>t.size-(intOf i).toNat)
      case atStart=>exact ⟨u+1,by go_num,Nat.le_refl _,hlt,fun j h1 h2=>absurd h1 (by omega),rfl⟩
      case round =>
       obtain ⟨e,rfl,hue,hen,hall,rfl⟩:=hrel
       have HA:=Lh hall
       clear hall
       by_cases he:e<t.size
       ·have hx:((t[e]'he).toNat:Int)=bs.getD e 0:=Qf9 HT.out he
        obtain ⟨x,hx0⟩:∃ x,bs.getD e 0=x:=⟨_,rfl⟩
        rw [hx0] at hx
        have HX:=Lh hx0
        clear hx0
        by_cases hg:Zc 0 x=true
        ·have HY:Hid (∀ j,u+1≤j→j<e+1→Zc 0 (bs.getD j 0)=true):=Lh (fun j h1 h2=>by
          rcases Nat.lt_or_ge j e with h | h
          ·exact HA.out j h1 h
          ·obtain rfl:j=e:=by omega
           rw [HX.out];exact hg)
         have hy:=(kd_0 x).1 (by simpa [Zc] using hg)
         clear hg
         rcases hy with rfl | rfl | rfl | rfl
         all_goals
          go_wp2_with (first
           | fail)
          go_roundw
          case rel=>exact ⟨e+1,by go_num,by omega,he,HY.out,(by trivial)⟩
          case measure=>simp [intOf];omega
        ·have hg':Zc 0 x=false:=by simpa using hg
         have HR:=Lh (Zf (k:=0) (bs:=bs) HL.out hue hen HA.out (.inr (by rw [HX.out];exact hg')))
         have HQ:Hid (tk (bs.drop u)=0∧u+tl (bs.drop u)=e):=Lh (Qbh HD.out HG.out (by omega) HR.out)
         have hne:(x==32)=false∧(x==9)=false∧(x==10)=false∧(x==13)=false:=by
          have h0:=kd_0 x
          have h1:¬ kd x=0:=by simpa [Zc] using hg'
          simp only [beq_eq_false_iff_ne,ne_eq]
          omega
         obtain ⟨x1,x2,x3,x4⟩:=hne
         clear hg hg' HA HX HR
         go_wp2_with (first
          | (at_builtin;refine Q4 rfl (.tmp 119) (.tmp 124) 90 rfl Kl _ w.heap.size _ L.length (tcs L) [.int .i64 (0),.int .i64 (u:Int),.int .i64 (e:Int)] rfl HO.out rfl rfl rfl (by intro z hz;simp at hz;rcases hz with rfl | rfl | rfl <;> rfl) (by omega) (by omega) ?_;intro v2 w2 ho2 hg2)
          | fail)
         go_roundw
         case rel =>
          refine ⟨L++[((0),(u:Int),((e:Nat):Int))],e,by go_num,by omega,?_,Zu HLL.out HU.out HQ.out.1 HQ.out.2,by simp;omega,?_⟩
          ·exact ho2.cast (by simp) (by rw [Zn];rfl)
          ·exact (HB.out.alloc hge _).grown hg2 (by simp;omega) (fun q hq=>(HO.out.1.lt q hq).1)
         case measure=>simp [intOf];omega
       ·obtain rfl:e=t.size:=by omega
        have HR:=Lh (Zf (k:=0) (bs:=bs) HL.out hue hen HA.out (.inl rfl))
        have HQ:Hid (tk (bs.drop u)=0∧u+tl (bs.drop u)=t.size):=Lh (Qbh HD.out HG.out (by omega) HR.out)
        clear HA HR
        go_wp2_with (first
         | (at_builtin;refine Q4 rfl (.tmp 119) (.tmp 124) 90 rfl Kl _ w.heap.size _ L.length (tcs L) [.int .i64 (0),.int .i64 (u:Int),.int .i64 (t.size:Int)] rfl HO.out rfl rfl rfl (by intro z hz;simp at hz;rcases hz with rfl | rfl | rfl <;> rfl) (by omega) (by omega) ?_;intro v2 w2 ho2 hg2)
         | fail)
        go_roundw
        case rel =>
         refine ⟨L++[((0),(u:Int),((t.size:Nat):Int))],t.size,by go_num,by omega,?_,Zu HLL.out HU.out HQ.out.1 HQ.out.2,by simp;omega,?_⟩
         ·exact ho2.cast (by simp) (by rw [Zn];rfl)
         ·exact (HB.out.alloc hge _).grown hg2 (by simp;omega) (fun q hq=>(HO.out.1.lt q hq).1)
        case measure=>simp [intOf];omega
    ·have hq:=HK1.out.1 hk
     subst hq
     have HG:=Lh hk
     clear hk HK0 HK1
     go_wp2_with (first
      | fail)
     go_loopw [6] (fun i w2=>∃ e:Nat,i=.int .i64 (e:Int)∧u+1≤e∧e≤t.size∧(∀ j,u+1≤j→j<e→Zc 1 (bs.getD j 0)=true)∧w2=wb) (fun i _=>t.size-(intOf i).toNat)
     case atStart=>exact ⟨u+1,by go_num,Nat.le_refl _,hlt,fun j h1 h2=>absurd h1 (by omega),rfl⟩
     case round =>
      obtain ⟨e,rfl,hue,hen,hall,rfl⟩:=hrel
      have HA:=Lh hall
      clear hall
      by_cases he:e<t.size
      ·have hx:((t[e]'he).toNat:Int)=bs.getD e 0:=Qf9 HT.out he
       obtain ⟨x,hx0⟩:∃ x,bs.getD e 0=x:=⟨_,rfl⟩
       rw [hx0] at hx
       have HX:=Lh hx0
       clear hx0
       by_cases hg:Zc 1 x=true
       ·have HY:Hid (∀ j,u+1≤j→j<e+1→Zc 1 (bs.getD j 0)=true):=Lh (fun j h1 h2=>by
         rcases Nat.lt_or_ge j e with h | h
         ·exact HA.out j h1 h
         ·obtain rfl:j=e:=by omega
          rw [HX.out];exact hg)
        have hy:(x != 10)=true:=by simpa [Zc] using hg
        clear hg
        all_goals
         go_wp2_with (first
          | fail)
         go_roundw
         case rel=>exact ⟨e+1,by go_num,by omega,he,HY.out,(by trivial)⟩
         case measure=>simp [intOf];omega
       ·have hg':Zc 1 x=false:=by simpa using hg
        have HR:=Lh (Zf (k:=1) (bs:=bs) HL.out hue hen HA.out (.inr (by rw [HX.out];exact hg')))
        have HQ:Hid (tk (bs.drop u)=1∧u+tl (bs.drop u)=e):=Lh (Qbh HD.out HG.out (by omega) HR.out)
        have hy:(x != 10)=false:=by simpa [Zc] using hg'
        clear hg hg' HA HX HR
        go_wp2_with (first
         | (at_builtin;refine Q4 rfl (.tmp 119) (.tmp 124) 90 rfl Kl _ w.heap.size _ L.length (tcs L) [.int .i64 (1),.int .i64 (u:Int),.int .i64 (e:Int)] rfl HO.out rfl rfl rfl (by intro z hz;simp at hz;rcases hz with rfl | rfl | rfl <;> rfl) (by omega) (by omega) ?_;intro v2 w2 ho2 hg2)
         | fail)
        go_roundw
        case rel =>
         refine ⟨L++[((1),(u:Int),((e:Nat):Int))],e,by go_num,by omega,?_,Zu HLL.out HU.out HQ.out.1 HQ.out.2,by simp;omega,?_⟩
         ·exact ho2.cast (by simp) (by rw [Zn];rfl)
         ·exact (HB.out.alloc hge _).grown hg2 (by simp;omega) (fun q hq=>(HO.out.1.lt q hq).1)
        case measure=>simp [intOf];omega
      ·obtain rfl:e=t.size:=by omega
       have HR:=Lh (Zf (k:=1) (bs:=bs) HL.out hue hen HA.out (.inl rfl))
       have HQ:Hid (tk (bs.drop u)=1∧u+tl (bs.drop u)=t.size):=Lh (Qbh HD.out HG.out (by omega) HR.out)
       clear HA HR
       go_wp2_with (first
        | (at_builtin;refine Q4 rfl (.tmp 119) (.tmp 124) 90 rfl Kl _ w.heap.size _ L.length (tcs L) [.int .i64 (1),.int .i64 (u:Int),.int .i64 (t.size:Int)] rfl HO.out rfl rfl rfl (by intro z hz;simp at hz;rcases hz with rfl | rfl | rfl <;> rfl) (by omega) (by omega) ?_;intro v2 w2 ho2 hg2)
        | fail)
       go_roundw
       case rel =>
        refine ⟨L++[((1),(u:Int),((t.size:Nat):Int))],t.size,by go_num,by omega,?_,Zu HLL.out HU.out HQ.out.1 HQ.out.2,by simp;omega,?_⟩
        ·exact ho2.cast (by simp) (by rw [Zn];rfl)
        ·exact (HB.out.alloc hge _).grown hg2 (by simp;omega) (fun q hq=>(HO.out.1.lt q hq).1)
       case measure=>simp [intOf];omega
    ·have hne0:(c0==32)=false∧(c0==9)=false∧(c0==10)=false∧(c0==13)=false∧(c0==35)=false:=by
      have h0:=HK0.out
      have h1:=HK1.out
      simp only [beq_eq_false_iff_ne,ne_eq]
      omega
     obtain ⟨n1,n2,n3,n4,n5⟩:=hne0
     have l2:(kd c0==2)=true:=by simp [hk]
     have l3:(kd c0==3)=false:=by simp [hk]
     have HG:=Lh hk
     clear hk HK0 HK1
     go_wp2_with (first
      | (go_at_call 60;refine (Jk _ _).mono ?_;rintro e1 w' ⟨rfl,rfl⟩;try rw [l2]) | (go_at_call 61;refine (Jq _ _).mono ?_;rintro e1 w' ⟨rfl,rfl⟩;try rw [l3]) | fail)
     go_loopw [6] (fun i w2=>∃ e:Nat,i=.int .i64 (e:Int)∧u+1≤e∧e≤t.size∧(∀ j,u+1≤j→j<e→Zc 2 (bs.getD j 0)=true)∧w2=wb) (fun i _=>t.size-(intOf i).toNat)
     case atStart=>exact ⟨u+1,by go_num,Nat.le_refl _,hlt,fun j h1 h2=>absurd h1 (by omega),rfl⟩
     case round =>
      obtain ⟨e,rfl,hue,hen,hall,rfl⟩:=hrel
      have HA:=Lh hall
      clear hall
      by_cases he:e<t.size
      ·have hx:((t[e]'he).toNat:Int)=bs.getD e 0:=Qf9 HT.out he
       obtain ⟨x,hx0⟩:∃ x,bs.getD e 0=x:=⟨_,rfl⟩
       rw [hx0] at hx
       have HX:=Lh hx0
       clear hx0
       by_cases hg:Zc 2 x=true
       ·have HY:Hid (∀ j,u+1≤j→j<e+1→Zc 2 (bs.getD j 0)=true):=Lh (fun j h1 h2=>by
         rcases Nat.lt_or_ge j e with h | h
         ·exact HA.out j h1 h
         ·obtain rfl:j=e:=by omega
          rw [HX.out];exact hg)
        have hy:(kd x==2)=true∨((kd x==2)=false∧(kd x==3)=true):=by
         have h:(kd x==2 || kd x==3)=true:=by simpa [Zc] using hg
         cases h2:(kd x==2)
         ·rw [h2] at h;exact .inr ⟨rfl,by simpa using h⟩
         ·exact .inl rfl
        clear hg l2 l3
        rcases hy with l2 | ⟨l2,l3⟩
        all_goals
         go_wp2_with (first
          | (go_at_call 60;refine (Jk _ _).mono ?_;rintro e1 w' ⟨rfl,rfl⟩;try rw [l2]) | (go_at_call 61;refine (Jq _ _).mono ?_;rintro e1 w' ⟨rfl,rfl⟩;try rw [l3]) | fail)
         go_roundw
         case rel=>exact ⟨e+1,by go_num,by omega,he,HY.out,(by trivial)⟩
         case measure=>simp [intOf];omega
       ·have hg':Zc 2 x=false:=by simpa using hg
        have HR:=Lh (Zf (k:=2) (bs:=bs) HL.out hue hen HA.out (.inr (by rw [HX.out];exact hg')))
        have HQ:Hid (tk (bs.drop u)=2∧u+tl (bs.drop u)=e):=Lh (Qbh HD.out HG.out (by omega) HR.out)
        have hy:(kd x==2)=false∧(kd x==3)=false:=by simpa [Zc] using hg'
        clear l2 l3
        obtain ⟨l2,l3⟩:=hy
        clear hg hg' HA HX HR
        go_wp2_with (first
         | (at_builtin;refine Q4 rfl (.tmp 119) (.tmp 124) 90 rfl Kl _ w.heap.size _ L.length (tcs L) [.int .i64 (2),.int .i64 (u:Int),.int .i64 (e:Int)] rfl HO.out rfl rfl rfl (by intro z hz;simp at hz;rcases hz with rfl | rfl | rfl <;> rfl) (by omega) (by omega) ?_;intro v2 w2 ho2 hg2)
         | (go_at_call 60;refine (Jk _ _).mono ?_;rintro e1 w' ⟨rfl,rfl⟩;try rw [l2]) | (go_at_call 61;refine (Jq _ _).mono ?_;rintro e1 w' ⟨rfl,rfl⟩;try rw [l3]) | fail)
        go_roundw
        case rel =>
         refine ⟨L++[((2),(u:Int),((e:Nat):Int))],e,by go_num,by omega,?_,Zu HLL.out HU.out HQ.out.1 HQ.out.2,by simp;omega,?_⟩
         ·exact ho2.cast (by simp) (by rw [Zn];rfl)
         ·exact (HB.out.alloc hge _).grown hg2 (by simp;omega) (fun q hq=>(HO.out.1.lt q hq).1)
        case measure=>simp [intOf];omega
      ·obtain rfl:e=t.size:=by omega
       have HR:=Lh (Zf (k:=2) (bs:=bs) HL.out hue hen HA.out (.inl rfl))
       have HQ:Hid (tk (bs.drop u)=2∧u+tl (bs.drop u)=t.size):=Lh (Qbh HD.out HG.out (by omega) HR.out)
       clear HA HR
       go_wp2_with (first
        | (at_builtin;refine Q4 rfl (.tmp 119) (.tmp 124) 90 rfl Kl _ w.heap.size _ L.length (tcs L) [.int .i64 (2),.int .i64 (u:Int),.int .i64 (t.size:Int)] rfl HO.out rfl rfl rfl (by intro z hz;simp at hz;rcases hz with rfl | rfl | rfl <;> rfl) (by omega) (by omega) ?_;intro v2 w2 ho2 hg2)
        | (go_at_call 60;refine (Jk _ _).mono ?_;rintro e1 w' ⟨rfl,rfl⟩;try rw [l2]) | (go_at_call 61;refine (Jq _ _).mono ?_;rintro e1 w' ⟨rfl,rfl⟩;try rw [l3]) | fail)
       go_roundw
       case rel =>
        refine ⟨L++[((2),(u:Int),((t.size:Nat):Int))],t.size,by go_num,by omega,?_,Zu HLL.out HU.out HQ.out.1 HQ.out.2,by simp;omega,?_⟩
        ·exact ho2.cast (by simp) (by rw [Zn];rfl)
        ·exact (HB.out.alloc hge _).grown hg2 (by simp;omega) (fun q hq=>(HO.out.1.lt q hq).1)
       case measure=>simp [intOf];omega
    ·have hne0:(c0==32)=false∧(c0==9)=false∧(c0==10)=false∧(c0==13)=false∧(c0==35)=false:=by
      have h0:=HK0.out
      have h1:=HK1.out
      simp only [beq_eq_false_iff_ne,ne_eq]
      omega
     obtain ⟨n1,n2,n3,n4,n5⟩:=hne0
     have l2:(kd c0==2)=false:=by simp [hk]
     have l3:(kd c0==3)=true:=by simp [hk]
     have HG:=Lh hk
     clear hk HK0 HK1
     go_wp2_with (first
      | (go_at_call 60;refine (Jk _ _).mono ?_;rintro e1 w' ⟨rfl,rfl⟩;try rw [l2]) | (go_at_call 61;refine (Jq _ _).mono ?_;rintro e1 w' ⟨rfl,rfl⟩;try rw [l3]) | fail)
     go_loopw [6] (fun i w2=>∃ e:Nat,i=.int .i64 (e:Int)∧u+1≤e∧e≤t.size∧(∀ j,u+1≤j→j<e→Zc 3 (bs.getD j 0)=true)∧w2=wb) (fun i _=>t.size-(intOf i).toNat)
     case atStart=>exact ⟨u+1,by go_num,Nat.le_refl _,hlt,fun j h1 h2=>absurd h1 (by omega),rfl⟩
     case round =>
      obtain ⟨e,rfl,hue,hen,hall,rfl⟩:=hrel
      have HA:=Lh hall
      clear hall
      by_cases he:e<t.size
      ·have hx:((t[e]'he).toNat:Int)=bs.getD e 0:=Qf9 HT.out he
       obtain ⟨x,hx0⟩:∃ x,bs.getD e 0=x:=⟨_,rfl⟩
       rw [hx0] at hx
       have HX:=Lh hx0
       clear hx0
       by_cases hg:Zc 3 x=true
       ·have HY:Hid (∀ j,u+1≤j→j<e+1→Zc 3 (bs.getD j 0)=true):=Lh (fun j h1 h2=>by
         rcases Nat.lt_or_ge j e with h | h
         ·exact HA.out j h1 h
         ·obtain rfl:j=e:=by omega
          rw [HX.out];exact hg)
        have hy:(kd x==3)=true:=by simpa [Zc] using hg
        clear hg l2 l3
        have l3:=hy
        all_goals
         go_wp2_with (first
          | (go_at_call 60;refine (Jk _ _).mono ?_;rintro e1 w' ⟨rfl,rfl⟩;try rw [l2]) | (go_at_call 61;refine (Jq _ _).mono ?_;rintro e1 w' ⟨rfl,rfl⟩;try rw [l3]) | fail)
         go_roundw
         case rel=>exact ⟨e+1,by go_num,by omega,he,HY.out,(by trivial)⟩
         case measure=>simp [intOf];omega
       ·have hg':Zc 3 x=false:=by simpa using hg
        have HR:=Lh (Zf (k:=3) (bs:=bs) HL.out hue hen HA.out (.inr (by rw [HX.out];exact hg')))
        have HQ:Hid (tk (bs.drop u)=3∧u+tl (bs.drop u)=e):=Lh (Qbh HD.out HG.out (by omega) HR.out)
        have hy:(kd x==3)=false:=by simpa [Zc] using hg'
        clear l2 l3
        have l3:=hy
        clear hg hg' HA HX HR
        go_wp2_with (first
         | (at_builtin;refine Q4 rfl (.tmp 119) (.tmp 124) 90 rfl Kl _ w.heap.size _ L.length (tcs L) [.int .i64 (3),.int .i64 (u:Int),.int .i64 (e:Int)] rfl HO.out rfl rfl rfl (by intro z hz;simp at hz;rcases hz with rfl | rfl | rfl <;> rfl) (by omega) (by omega) ?_;intro v2 w2 ho2 hg2)
         | (go_at_call 60;refine (Jk _ _).mono ?_;rintro e1 w' ⟨rfl,rfl⟩;try rw [l2]) | (go_at_call 61;refine (Jq _ _).mono ?_;rintro e1 w' ⟨rfl,rfl⟩;try rw [l3]) | fail)
        go_roundw
        case rel =>
         refine ⟨L++[((3),(u:Int),((e:Nat):Int))],e,by go_num,by omega,?_,Zu HLL.out HU.out HQ.out.1 HQ.out.2,by simp;omega,?_⟩
         ·exact ho2.cast (by simp) (by rw [Zn];rfl)
         ·exact (HB.out.alloc hge _).grown hg2 (by simp;omega) (fun q hq=>(HO.out.1.lt q hq).1)
        case measure=>simp [intOf];omega
      ·obtain rfl:e=t.size:=by omega
       have HR:=Lh (Zf (k:=3) (bs:=bs) HL.out hue hen HA.out (.inl rfl))
       have HQ:Hid (tk (bs.drop u)=3∧u+tl (bs.drop u)=t.size):=Lh (Qbh HD.out HG.out (by omega) HR.out)
       clear HA HR
       go_wp2_with (first
        | (at_builtin;refine Q4 rfl (.tmp 119) (.tmp 124) 90 rfl Kl _ w.heap.size _ L.length (tcs L) [.int .i64 (3),.int .i64 (u:Int),.int .i64 (t.size:Int)] rfl HO.out rfl rfl rfl (by intro z hz;simp at hz;rcases hz with rfl | rfl | rfl <;> rfl) (by omega) (by omega) ?_;intro v2 w2 ho2 hg2)
        | (go_at_call 60;refine (Jk _ _).mono ?_;rintro e1 w' ⟨rfl,rfl⟩;try rw [l2]) | (go_at_call 61;refine (Jq _ _).mono ?_;rintro e1 w' ⟨rfl,rfl⟩;try rw [l3]) | fail)
       go_roundw
       case rel =>
        refine ⟨L++[((3),(u:Int),((t.size:Nat):Int))],t.size,by go_num,by omega,?_,Zu HLL.out HU.out HQ.out.1 HQ.out.2,by simp;omega,?_⟩
        ·exact ho2.cast (by simp) (by rw [Zn];rfl)
        ·exact (HB.out.alloc hge _).grown hg2 (by simp;omega) (fun q hq=>(HO.out.1.lt q hq).1)
       case measure=>simp [intOf];omega
  ·obtain rfl:u=t.size:=by omega
   have HE:=Lh (Qab (bs:=bs) (u:=t.size) (by rw [HL.out];exact Nat.le_refl _))
   go_wp2
   go_ret
   have h:=HLL.out
   rw [HE.out,List.append_nil] at h
   exact ⟨_,rfl,by rw [← h];exact HO.out,HB.out⟩
end Go.Proofs.Ytjoclbeoafeebaa
