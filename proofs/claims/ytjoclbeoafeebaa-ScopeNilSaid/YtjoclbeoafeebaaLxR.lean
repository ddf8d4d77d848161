import Derived.Test.YtjoclbeoafeebaaSq
import Derived.Test.YtjoclbeoafeebaaMLx
import Derived.BigRegion
import Derived.Laws.BytesArg
set_option maxHeartbeats 6400000
set_option maxRecDepth 10000
namespace Go.Proofs.Ytjoclbeoafeebaa
set_option linter.unusedVariables false
set_option linter.unusedSimpArgs false
open Go.RowKit
theorem Qdk(L:List Tk)(k:Nat)(t:Tk)(h:L[k]?=some t):L.take (k+1)=L.take k++[t]:=by
 obtain ⟨hlt,rfl⟩:=List.getElem?_eq_some_iff.1 h
 rw [List.take_succ_eq_append_getElem hlt]
theorem Qj4{L:List Tk}{k:Nat}{t:Tk}(h:L[k]?=some t)(hv:lv t=true):(L.take (k+1)).filter lv=(L.take k).filter lv++[t]:=by
 rw [Qdk L k t h,List.filter_append];simp [hv]
theorem Qlt{L:List Tk}{k:Nat}{t:Tk}(h:L[k]?=some t)(hv:lv t=false):(L.take (k+1)).filter lv=(L.take k).filter lv:=by
 rw [Qdk L k t h,List.filter_append];simp [hv]
theorem Qlu(A:Option Addr)(n c:Nat)(L:List Tk)(w:World)(hx:ShT w w.heap.size A n L)(hn:n≤1000000) :
  CP 50 #[.slice A n c] w (Qft (L.filter lv) w):=by
 have hl:L.length=n:=hx.1
 have HL:=Lh hl
 have HX:=Lh hx
 have hz:=Y6
 clear hl hx
 go_enter Try.func50,Try.ntmps50
 go_wp2
 go_loopw [3,4] (fun v i wr=>∃ k:Nat,i=.int .i64 (k:Int)∧k≤n∧Own wr w.heap.size 117 3 v ((L.take k).filter lv).length (tcs ((L.take k).filter lv))∧Below w.heap.size w wr) (fun _ i _=>n-(intOf i).toNat)
 case atStart=>exact ⟨0,rfl,Nat.zero_le _,Own.nil _ _ _ _ nLe,Below.refl _ _⟩
 case round =>
  obtain ⟨k,rfl,hk,ho,hb⟩:=hrel
  have HO:=Lh ho
  have HB:=Lh hb
  have hge:=ho.2
  clear ho hb
  by_cases hlt:k<n
  ·obtain ⟨b,off,t,rfl,hbb,ht,c0,c1,c2⟩:=(HX.out.up HB.out nLe).at hlt
   obtain ⟨x,y,z⟩:=t
   dsimp only at c0 c1 c2
   have HT:=Lh ht
   have hlen:((L.take k).filter lv).length≤n:=Nat.le_trans (List.length_filter_le _ _) (by simp;omega)
   have HLEN:=Lh hlen
   clear ht hlen
   cases hv:lv (x,y,z) with
   | true =>
    have HF:=Lh (Qj4 HT.out hv)
    have hv':1<x∨(¬ 1<x∧x<0):=by
     simp only [lv,Bool.and_eq_true,bne_iff_ne,ne_eq] at hv
     omega
    clear hv
    rcases hv' with h0 | ⟨h0,h1⟩
    all_goals
     go_wp2_with (first
      | (at_builtin;refine Q4 rfl (.tmp 25) (.tmp 30) 90 rfl Kl _ w.heap.size _ _ _ [.int .i64 x,.int .i64 y,.int .i64 z] rfl HO.out rfl (by simp) rfl (by intro z hz;simp at hz;rcases hz with rfl | rfl | rfl <;> rfl) (by have:=HLEN.out;omega) (by omega) ?_;intro v2 w2 ho2 hg2)
      | fail)
     go_roundw
     case rel =>
      refine ⟨k+1,by go_num,by omega,?_,?_⟩
      ·rw [HF.out]
       exact ho2.cast (by simp) (Zn _ (x,y,z)).symm
      ·exact (HB.out.alloc hge _).grown hg2 (by simp;omega) (fun q hq=>(HO.out.1.lt q hq).1)
     case measure=>simp [intOf];omega
   | false =>
    have HF:=Lh (Qlt HT.out hv)
    have hv':¬ 1<x∧¬ x<0:=by
     have:¬ (x≠0∧x≠1):=fun h=>by
      simp [lv,h.1,h.2] at hv
     omega
    obtain ⟨h0,h1⟩:=hv'
    clear hv
    go_wp2
    go_roundw
    case rel =>
     refine ⟨k+1,by go_num,by omega,?_,HB.out⟩
     rw [HF.out]
     exact HO.out
    case measure=>simp [intOf];omega
  ·obtain rfl:k=n:=by omega
   go_wp2
   go_ret
   refine ⟨_,rfl,?_,HB.out⟩
   have:=HO.out
   rwa [List.take_of_length_le (by rw [HL.out];exact Nat.le_refl _)] at this
def Qfu(L:List Tk):Tk:=((L.find? fun t=>t.1==5).getD (0,0,0))
def Qhk(L:List Tk):Bool:=(L.find? fun t=>t.1==5).isSome
theorem Qae(c:Int):(c∈[32,9,10,13,35,95,40,41,123,125,44,59,58,46,60,43,45,42,33,61,64,47]) ∨
  (c∉[32,9,10,13,35,95,40,41,123,125,44,59,58,46,60,43,45,42,33,61,64,47]∧kd c=if (97≤c∧c≤122)∨(65≤c∧c≤90) then 2 else if 48≤c∧c≤57 then 3 else 5):=by
 by_cases hm:c∈[32,9,10,13,35,95,40,41,123,125,44,59,58,46,60,43,45,42,33,61,64,47]
 ·exact .inl hm
 ·refine .inr ⟨hm,?_⟩
  simp only [List.mem_cons,List.not_mem_nil,or_false,not_or] at hm
  unfold kd
  rw [if_neg (by simp;omega),if_neg (by omega),if_neg (by omega),if_neg (by simp;omega)]
theorem kd_2(c:Int):kd c=2↔(97≤c∧c≤122)∨(65≤c∧c≤90)∨c=95:=by
 rcases Qae c with h | ⟨h,e⟩
 ·simp only [List.mem_cons,List.not_mem_nil,or_false] at h
  rcases h with rfl | rfl | rfl | rfl | rfl | rfl | rfl | rfl | rfl | rfl | rfl | rfl | rfl | rfl | rfl | rfl | rfl | rfl | rfl | rfl | rfl | rfl <;> decide
 ·simp only [List.mem_cons,List.not_mem_nil,or_false,not_or] at h
  rw [e]
  split
  ·simp;omega
  ·split
   ·simp;omega
   ·simp;omega
theorem kd_3(c:Int):kd c=3↔48≤c∧c≤57:=by
 rcases Qae c with h | ⟨h,e⟩
 ·simp only [List.mem_cons,List.not_mem_nil,or_false] at h
  rcases h with rfl | rfl | rfl | rfl | rfl | rfl | rfl | rfl | rfl | rfl | rfl | rfl | rfl | rfl | rfl | rfl | rfl | rfl | rfl | rfl | rfl | rfl <;> decide
 ·simp only [List.mem_cons,List.not_mem_nil,or_false,not_or] at h
  rw [e]
  split
  ·simp;omega
  ·split
   ·simp;omega
   ·simp;omega
theorem kd_0(c:Int):kd c=0↔c=32∨c=9∨c=10∨c=13:=by
 rcases Qae c with h | ⟨h,e⟩
 ·simp only [List.mem_cons,List.not_mem_nil,or_false] at h
  rcases h with rfl | rfl | rfl | rfl | rfl | rfl | rfl | rfl | rfl | rfl | rfl | rfl | rfl | rfl | rfl | rfl | rfl | rfl | rfl | rfl | rfl | rfl <;> decide
 ·simp only [List.mem_cons,List.not_mem_nil,or_false,not_or] at h
  rw [e]
  split
  ·simp;omega
  ·split
   ·simp;omega
   ·simp;omega
theorem kd_1(c:Int):kd c=1↔c=35:=by
 rcases Qae c with h | ⟨h,e⟩
 ·simp only [List.mem_cons,List.not_mem_nil,or_false] at h
  rcases h with rfl | rfl | rfl | rfl | rfl | rfl | rfl | rfl | rfl | rfl | rfl | rfl | rfl | rfl | rfl | rfl | rfl | rfl | rfl | rfl | rfl | rfl <;> decide
 ·simp only [List.mem_cons,List.not_mem_nil,or_false,not_or] at h
  rw [e]
  split
  ·simp;omega
  ·split
   ·simp;omega
   ·simp;omega
theorem kd_4(c:Int):kd c=4↔c∈[40,41,123,125,44,59,58,46,60,43,45,42,33,61,64,47]:=by
 rcases Qae c with h | ⟨h,e⟩
 ·simp only [List.mem_cons,List.not_mem_nil,or_false] at h
  rcases h with rfl | rfl | rfl | rfl | rfl | rfl | rfl | rfl | rfl | rfl | rfl | rfl | rfl | rfl | rfl | rfl | rfl | rfl | rfl | rfl | rfl | rfl <;> decide
 ·simp only [List.mem_cons,List.not_mem_nil,or_false,not_or] at h ⊢
  rw [e]
  split
  ·simp;omega
  ·split
   ·simp;omega
   ·simp;omega
theorem Jk(c:Int)(w:World) :
  CP 60 #[.int .u8 c] w fun e w'=>e=.returned (.bool (kd c==2))∧w=w':=by
 have HK:=Lh (kd_2 c)
 by_cases a1:97≤c
 ·by_cases a2:c≤122
  ·go_enter Try.func60,Try.ntmps60
   go_wp2
   go_ret
   exact ⟨Je (by simp [HK.out];omega),rfl⟩
  ·have b1:65≤c:=by omega
   have b2:¬ c≤90:=by omega
   have b3:(c==95)=false:=by simp;omega
   go_enter Try.func60,Try.ntmps60
   go_wp2
   go_ret
   exact ⟨Je (by symm;simp [HK.out];omega),rfl⟩
 ·by_cases b1:65≤c
  ·by_cases b2:c≤90
   ·go_enter Try.func60,Try.ntmps60
    go_wp2
    go_ret
    exact ⟨Je (by simp [HK.out];omega),rfl⟩
   ·by_cases b3:c=95
    ·subst b3
     go_enter Try.func60,Try.ntmps60
     go_wp2
     go_ret
     exact ⟨Je (by decide),rfl⟩
    ·replace b3:(c==95)=false:=by simpa using b3
     go_enter Try.func60,Try.ntmps60
     go_wp2
     go_ret
     exact ⟨Je (by symm;have:=HK.out;simp only [beq_eq_false_iff_ne,ne_eq] at b3 ⊢;omega),rfl⟩
  ·have b3:(c==95)=false:=by simp;omega
   go_enter Try.func60,Try.ntmps60
   go_wp2
   go_ret
   exact ⟨Je (by symm;simp [HK.out];omega),rfl⟩
theorem Jq(c:Int)(w:World) :
  CP 61 #[.int .u8 c] w fun e w'=>e=.returned (.bool (kd c==3))∧w=w':=by
 have HK:=Lh (kd_3 c)
 by_cases a1:48≤c
 ·by_cases a2:c≤57
  ·go_enter Try.func61,Try.ntmps61
   go_wp2
   go_ret
   exact ⟨Je (by simp [HK.out];omega),rfl⟩
  ·go_enter Try.func61,Try.ntmps61
   go_wp2
   go_ret
   exact ⟨Je (by symm;simp [HK.out];omega),rfl⟩
 ·go_enter Try.func61,Try.ntmps61
  go_wp2
  go_ret
  exact ⟨Je (by symm;have:=HK.out;simp only [beq_eq_false_iff_ne,ne_eq];omega),rfl⟩
def bts(s:ByteArray):List Int:=s.data.toList.map fun b=>(b.toNat:Int)
theorem J3(s:ByteArray):(bts s).length=s.size:=by unfold bts;rw [List.length_map];rfl
def sgn(c:Int)(r:List Int):Int:=if Ur c r then 2 else if kd c=4 then 1 else 0
theorem take_two{s:ByteArray}{c d:Int}{r:List Int}(h:bts s=c::d::r)(x y:UInt8):((s.extract 0 2).toList==[x,y])=(c==(x.toNat:Int)&&d==(y.toNat:Int)):=by
 have e:(s.extract 0 2).toList=s.data.toList.take 2:=by rw [ByteArray.toList_eq];simp
 rw [e]
 have hb:s.data.toList.map (fun b=>(b.toNat:Int))=c::d::r:=h
 match hh:s.data.toList with
 | []=>rw [hh] at hb;cases hb
 | [a]=>rw [hh] at hb;simp at hb
 | a::b::l =>
  rw [hh] at hb
  simp only [List.map_cons,List.cons.injEq] at hb
  obtain ⟨h1,h2,_⟩:=hb
  subst h1
  subst h2
  have key:∀ p q:UInt8,((p.toNat:Int)==(q.toNat:Int))=(p==q):=fun p q=>by
   by_cases hpq:p=q
   ·subst hpq;simp
   ·have:¬ ((p.toNat:Int)=(q.toNat:Int)):=fun h=>hpq (by
     have h3:p.toNat=q.toNat:=by omega
     exact UInt8.toNat_inj.1 h3)
    rw [beq_eq_false_iff_ne.2 hpq,beq_eq_false_iff_ne.2 this]
  rw [key,key]
  simp [List.take]
theorem Qlv(c d:Int):Qaa c d=((c==61&&d==61) || (c==38&&d==38) || (c==124&&d==124) || (c==64&&d==61)):=by
 unfold Qaa
 by_cases h1:c=61
 ·subst h1;simp
 ·by_cases h2:c=64
  ·subst h2;simp
  ·by_cases h3:c=38
   ·subst h3;simp
   ·by_cases h4:c=124
    ·subst h4;simp
    ·simp [h1,h2,h3,h4]
def ones:List Int:=[40,41,123,125,44,59,58,46,60,43,45,42,33,61,64,47]
theorem ones_mem{k:Nat}(h:k<16):ones.getD k 0∈ones:=by
 have:k<ones.length:=h
 simp [List.getD,this]
def Qc2:List (Int×Int):=[(61,61),(38,38),(124,124),(64,61)]
theorem Qdl(c d:Int):Qaa c d=Qc2.any fun p=>c==p.1&&d==p.2:=by
 rw [Qlv]
 simp [Qc2,Bool.or_assoc]
theorem idx16(k:Nat)(h:k<16):((((⟨#[40,41,123,125,44,59,58,46,60,43,45,42,33,61,64,47]⟩:ByteArray)[k]'h).toNat:Nat):Int)=ones.getD k 0:=by
 have hk:k=0∨k=1∨k=2∨k=3∨k=4∨k=5∨k=6∨k=7∨k=8∨k=9∨k=10∨k=11∨k=12∨k=13∨k=14∨k=15:=by omega
 rcases hk with rfl | rfl | rfl | rfl | rfl | rfl | rfl | rfl | rfl | rfl | rfl | rfl | rfl | rfl | rfl | rfl <;> rfl
def SignTo(x:Int)(w:World)(e:Ending)(w':World):Prop:=e=.returned (.int .i64 x)∧Below w.heap.size w w'
theorem sign_any(s:ByteArray)(c:Int)(r:List Int)(w:World)(hs:bts s=c::r) :
  CP 64 #[.string s] w (SignTo (sgn c r) w):=by
 have hsz:s.size=r.length+1:=by have:=J3 s;rw [hs] at this;simpa using this.symm
 have hlt0:0<s.size:=by omega
 have hc0:((s[0]'hlt0).toNat:Int)=c:=by
  have:(bts s)[0]?=some c:=by rw [hs];rfl
  simp [bts,hlt0] at this
  exact this
 have hlow1:(1:Int)≤(s.size:Int):=by omega
 have H4:=Lh (kd_4 c)
 have HS:=Lh hs
 have HZ:=Lh hsz
 clear hs hsz
 go_enter Try.func64,Try.ntmps64
 go_wp2
 go_loopw [4] (fun i wr=>∃ k:Nat,i=.int .i64 (k:Int)∧k≤4∧(k=4→Ur c r=false)∧(∀ d r',r=d::r'→∀ j,j<k→(c==(Qc2.getD j (0,0)).1&&d==(Qc2.getD j (0,0)).2)=false)∧Below (w.heap.size+1) (w.alloc (.cells #[.string ⟨#[61,61]⟩,.string ⟨#[38,38]⟩,.string ⟨#[124,124]⟩,.string ⟨#[64,61]⟩] 9)) wr) (fun i _=>4-(intOf i).toNat)
 case atStart=>exact ⟨0,rfl,by omega,by omega,fun _ _ _ j hj=>absurd hj (by omega),Below.refl _ _⟩
 case round =>
  obtain ⟨k,rfl,hk,hend,hno,hb⟩:=hrel
  have c0:wr.cell? ⟨w.heap.size,0,none⟩=some (.string ⟨#[61,61]⟩):=(hb.cell (p:=⟨w.heap.size,0,none⟩) (by show w.heap.size<w.heap.size+1;omega)).trans (by rw [World.cell?_alloc_at _ _ _ _ rfl];rfl)
  have c1:wr.cell? ⟨w.heap.size,1,none⟩=some (.string ⟨#[38,38]⟩):=(hb.cell (p:=⟨w.heap.size,1,none⟩) (by show w.heap.size<w.heap.size+1;omega)).trans (by rw [World.cell?_alloc_at _ _ _ _ rfl];rfl)
  have c2:wr.cell? ⟨w.heap.size,2,none⟩=some (.string ⟨#[124,124]⟩):=(hb.cell (p:=⟨w.heap.size,2,none⟩) (by show w.heap.size<w.heap.size+1;omega)).trans (by rw [World.cell?_alloc_at _ _ _ _ rfl];rfl)
  have c3:wr.cell? ⟨w.heap.size,3,none⟩=some (.string ⟨#[64,61]⟩):=(hb.cell (p:=⟨w.heap.size,3,none⟩) (by show w.heap.size<w.heap.size+1;omega)).trans (by rw [World.cell?_alloc_at _ _ _ _ rfl];rfl)
  have hbw:Below w.heap.size w wr:=((Below.refl w.heap.size w).alloc nLe _).trans (hb.mono (by omega))
  have HB:=Lh hb
  have HW:=Lh hbw
  have HE:=Lh hend
  have HN:=Lh hno
  clear hb hbw hend hno
  by_cases hlt:k<4
  ·match hr:r with
   | [] =>
    have hlow:(decide ((2:Int)≤(s.size:Int)))=false:=by have:=HZ.out;simp at this ⊢;omega
    go_wp2
    go_quiet (fail)
    go_wp2
    go_roundw
    case rel=>exact ⟨k+1,by go_num,by omega,fun _=>rfl,(fun _ _ e=>by cases e),HB.out.trans ((Quiet.one _ _).below _)⟩
    case measure=>simp [intOf];omega
   | d::r' =>
    have h2:(2:Int)≤(s.size:Int):=by have:=HZ.out;simp at this;omega
    have HR:Hid (∀ K,K=4→(∀ j,j<K→(c==(Qc2.getD j (0,0)).1&&d==(Qc2.getD j (0,0)).2)=false)→Ur c (d::r')=false):=Lh (fun K hK h=>by
     subst hK
     show Qaa c d=false
     rw [Qdl]
     have h0:=h 0 (by omega)
     have h1:=h 1 (by omega)
     have h2:=h 2 (by omega)
     have h3:=h 3 (by omega)
     simp only [Qc2,List.getD_cons_zero,List.getD_cons_succ] at h0 h1 h2 h3
     simp only [Qc2,List.any_cons,List.any_nil,h0,h1,h2,h3,Bool.or_false])
    have HP:Hid (∀ j,j<4→(c==(Qc2.getD j (0,0)).1&&d==(Qc2.getD j (0,0)).2)=true→Ur c (d::r')=true):=Lh (fun j hj h=>by
     show Qaa c d=true
     rw [Qdl,List.any_eq_true]
     refine ⟨Qc2.getD j (0,0),?_,h⟩
     have:j<Qc2.length:=hj
     simp [List.getD,this])
    have hT:∀ x y:UInt8,((s.extract 0 2).toList==[x,y])=(c==(x.toNat:Int)&&d==(y.toNat:Int)):=fun x y=>take_two HS.out x y
    have HT:=Lh hT
    clear hT
    have hk4:k=0∨k=1∨k=2∨k=3:=by omega
    have HN':Hid (∀ j,j<k→(c==(Qc2.getD j (0,0)).1&&d==(Qc2.getD j (0,0)).2)=false):=Lh (HN.out d r' rfl)
    rcases hk4 with rfl | rfl | rfl | rfl
    ·have hq:=HT.out 61 61
     cases hv:(c==(61:Int)&&d==(61:Int)) with
     | true =>
      replace hq:=hq.trans hv
      have HV:=Lh hv
      clear hv
      go_wp2
      go_quiet (fail)
      go_wp2
      go_ret
      exact ⟨Jp (by unfold sgn;rw [if_pos (HP.out 0 (by omega) HV.out)]),HW.out.trans ((Quiet.one _ _).below _)⟩
     | false =>
      replace hq:=hq.trans hv
      have HV:=Lh hv
      clear hv
      have AL:∀ j,j<1→(c==(Qc2.getD j (0,0)).1&&d==(Qc2.getD j (0,0)).2)=false:=fun j hj=>by
       rcases Nat.lt_or_ge j 0 with h | h
       ·exact HN'.out j h
       ·obtain rfl:j=0:=by omega
        exact HV.out
      have AL':=Lh AL
      clear AL
      go_wp2
      go_quiet (fail)
      go_wp2
      go_roundw
      case rel =>
       refine ⟨1,by go_num,by omega,by omega,?_,HB.out.trans ((Quiet.one _ _).below _)⟩
       intro d' r'' e j hj
       cases e
       exact AL'.out j hj
      case measure=>simp [intOf]
    ·have hq:=HT.out 38 38
     cases hv:(c==(38:Int)&&d==(38:Int)) with
     | true =>
      replace hq:=hq.trans hv
      have HV:=Lh hv
      clear hv
      go_wp2
      go_quiet (fail)
      go_wp2
      go_ret
      exact ⟨Jp (by unfold sgn;rw [if_pos (HP.out 1 (by omega) HV.out)]),HW.out.trans ((Quiet.one _ _).below _)⟩
     | false =>
      replace hq:=hq.trans hv
      have HV:=Lh hv
      clear hv
      have AL:∀ j,j<2→(c==(Qc2.getD j (0,0)).1&&d==(Qc2.getD j (0,0)).2)=false:=fun j hj=>by
       rcases Nat.lt_or_ge j 1 with h | h
       ·exact HN'.out j h
       ·obtain rfl:j=1:=by omega
        exact HV.out
      have AL':=Lh AL
      clear AL
      go_wp2
      go_quiet (fail)
      go_wp2
      go_roundw
      case rel =>
       refine ⟨2,by go_num,by omega,by omega,?_,HB.out.trans ((Quiet.one _ _).below _)⟩
       intro d' r'' e j hj
       cases e
       exact AL'.out j hj
      case measure=>simp [intOf]
    ·have hq:=HT.out 124 124
     cases hv:(c==(124:Int)&&d==(124:Int)) with
     | true =>
      replace hq:=hq.trans hv
      have HV:=Lh hv
      clear hv
      go_wp2
      go_quiet (fail)
      go_wp2
      go_ret
      exact ⟨Jp (by unfold sgn;rw [if_pos (HP.out 2 (by omega) HV.out)]),HW.out.trans ((Quiet.one _ _).below _)⟩
     | false =>
      replace hq:=hq.trans hv
      have HV:=Lh hv
      clear hv
      have AL:∀ j,j<3→(c==(Qc2.getD j (0,0)).1&&d==(Qc2.getD j (0,0)).2)=false:=fun j hj=>by
       rcases Nat.lt_or_ge j 2 with h | h
       ·exact HN'.out j h
       ·obtain rfl:j=2:=by omega
        exact HV.out
      have AL':=Lh AL
      clear AL
      go_wp2
      go_quiet (fail)
      go_wp2
      go_roundw
      case rel =>
       refine ⟨3,by go_num,by omega,by omega,?_,HB.out.trans ((Quiet.one _ _).below _)⟩
       intro d' r'' e j hj
       cases e
       exact AL'.out j hj
      case measure=>simp [intOf]
    ·have hq:=HT.out 64 61
     cases hv:(c==(64:Int)&&d==(61:Int)) with
     | true =>
      replace hq:=hq.trans hv
      have HV:=Lh hv
      clear hv
      go_wp2
      go_quiet (fail)
      go_wp2
      go_ret
      exact ⟨Jp (by unfold sgn;rw [if_pos (HP.out 3 (by omega) HV.out)]),HW.out.trans ((Quiet.one _ _).below _)⟩
     | false =>
      replace hq:=hq.trans hv
      have HV:=Lh hv
      clear hv
      have AL:∀ j,j<4→(c==(Qc2.getD j (0,0)).1&&d==(Qc2.getD j (0,0)).2)=false:=fun j hj=>by
       rcases Nat.lt_or_ge j 3 with h | h
       ·exact HN'.out j h
       ·obtain rfl:j=3:=by omega
        exact HV.out
      have AL':=Lh AL
      clear AL
      go_wp2
      go_quiet (fail)
      go_wp2
      go_roundw
      case rel =>
       refine ⟨4,by go_num,by omega,fun _=>HR.out 4 rfl AL'.out,?_,HB.out.trans ((Quiet.one _ _).below _)⟩
       intro d' r'' e j hj
       cases e
       exact AL'.out j hj
      case measure=>simp [intOf]
  ·obtain rfl:k=4:=by omega
   have HQ:=Lh (HE.out rfl)
   clear HN HE hlt hk c0 c1 c2 c3
   go_wp2
   obtain ⟨wa,hwa⟩:∃ wa,wa=wr:=⟨_,rfl⟩
   subst hwa
   go_loopw [6] (fun i wr=>∃ k:Nat,i=.int .i64 (k:Int)∧k≤16∧(∀ j,j<k→c≠ones.getD j 0)∧Below w.heap.size w wr) (fun i _=>16-(intOf i).toNat)
   case atStart=>exact ⟨0,rfl,by omega,fun j hj=>absurd hj (by omega),HW.out⟩
   case round =>
    clear HB HW
    obtain ⟨k,rfl,hk,hno,hb⟩:=hrel
    have HB:=Lh hb
    have HN:=Lh hno
    clear hb hno
    by_cases hlt:k<16
    ·by_cases hit:c=ones.getD k 0
     ·have hm:kd c=4:=H4.out.2 (by rw [hit];exact ones_mem hlt)
      have HM:=Lh hm
      have hk16:k=0∨k=1∨k=2∨k=3∨k=4∨k=5∨k=6∨k=7∨k=8∨k=9∨k=10∨k=11∨k=12∨k=13∨k=14∨k=15:=by omega
      clear hm
      have HF:Hid (sgn c r=1):=Lh (by unfold sgn;rw [HQ.out,if_neg (by simp),if_pos HM.out])
      clear HM H4 HS HQ HZ HN
      obtain ⟨x,hx⟩:∃ x,sgn c r=x:=⟨_,rfl⟩
      rw [hx] at HF ⊢
      clear hx
      rcases hk16 with rfl | rfl | rfl | rfl | rfl | rfl | rfl | rfl | rfl | rfl | rfl | rfl | rfl | rfl | rfl | rfl
      all_goals
       simp only [ones,List.getD_cons_zero,List.getD_cons_succ] at hit
       subst hit
       go_wp2
       go_quiet (fail)
       go_wp2
       go_ret
       exact ⟨Jp HF.out.symm,HB.out.trans ((Quiet.one _ _).below _)⟩
     ·have HH:=Lh hit
      have hk16:k=0∨k=1∨k=2∨k=3∨k=4∨k=5∨k=6∨k=7∨k=8∨k=9∨k=10∨k=11∨k=12∨k=13∨k=14∨k=15:=by omega
      have AL:∀ j,j<k+1→c≠ones.getD j 0:=fun j hj=>by
       rcases Nat.lt_or_ge j k with h | h
       ·exact HN.out j h
       ·obtain rfl:j=k:=by omega
        exact HH.out
      have AL':=Lh AL
      clear AL
      replace hit:(c==((((⟨#[40,41,123,125,44,59,58,46,60,43,45,42,33,61,64,47]⟩:ByteArray)[k]'hlt).toNat:Nat):Int))=false:=by rw [idx16 k hlt];exact beq_eq_false_iff_ne.2 hit
      rcases hk16 with rfl | rfl | rfl | rfl | rfl | rfl | rfl | rfl | rfl | rfl | rfl | rfl | rfl | rfl | rfl | rfl
      all_goals
       go_wp2
       go_quiet (fail)
       go_wp2
       go_roundw
       case rel=>exact ⟨_+1,by go_num,by omega,AL'.out,HB.out.trans ((Quiet.one _ _).below _)⟩
       case measure=>simp [intOf]
    ·obtain rfl:k=16:=by omega
     go_wp2
     go_ret
     refine ⟨Jp ?_,HB.out⟩
     unfold sgn
     rw [HQ.out,if_neg (by simp),if_neg]
     intro h
     have:=H4.out.1 h
     obtain ⟨j,hj,e⟩:=List.getElem_of_mem (show c∈ones from this)
     exact HN.out j hj (by rw [← e];simp [hj])
end Go.Proofs.Ytjoclbeoafeebaa
