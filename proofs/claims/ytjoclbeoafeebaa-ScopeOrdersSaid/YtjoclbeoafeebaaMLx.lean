import Derived.Test.YtjoclbeoafeebaaSq
import Derived.Test.YtjoclbeoafeebaaMem
import Derived.Shelf.Abstract
import Derived.BigQuiet
import Derived.Deep.QuietTactic
import Derived.Deep.RegionHeld3
import Derived.Deep.RegionWith
import Derived.Deep.MidRow
set_option maxHeartbeats 3200000
set_option maxRecDepth 10000
namespace Go.Proofs.Ytjoclbeoafeebaa
set_option linter.unusedVariables false
set_option linter.unusedSimpArgs false
def kd(c:Int):Int:=
 if c∈[32,9,10,13] then 0 else if c=35 then 1 else if c=95 then 2
 else if c∈[40,41,123,125,44,59,58,46,60,43,45,42,33,61,64,47] then 4
 else if (97≤c∧c≤122)∨(65≤c∧c≤90) then 2 else if 48≤c∧c≤57 then 3 else 5
def Qaa(a b:Int):Bool:=if a=61∨a=64 then b==61 else if a=38∨a=124 then b==a else false
def Zc(k x:Int):Bool:=if k=0 then kd x==0 else if k=1 then x != 10 else if k=2 then kd x==2 || kd x==3 else if k=3 then kd x==3 else false
def Yw(p:Int→Bool)(l:List Int):Nat:=(l.takeWhile p).length
def Ur(c:Int):List Int→Bool
 | []=>false
 | d::_=>Qaa c d
def tl:List Int→Nat
 | []=>1
 | c::r=>if kd c<4 then 1+Yw (Zc (kd c)) r else if Ur c r then 2 else 1
def tk:List Int→Int
 | []=>5
 | c::r=>if kd c<4 then kd c else if Ur c r then 4 else kd c
theorem Ux(c:Int)(r:List Int):tl (c::r)=if kd c<4 then 1+Yw (Zc (kd c)) r else if Ur c r then 2 else 1:=rfl
theorem Qaz(c:Int)(r:List Int):tk (c::r)=if kd c<4 then kd c else if Ur c r then 4 else kd c:=rfl
theorem Qbv(c:Int):0≤kd c∧kd c≤5:=by
 unfold kd
 repeat' split
 all_goals omega
theorem Qlf(p:Int→Bool)(l:List Int):Yw p l≤l.length:=by
 induction l with
 | nil=>simp [Yw]
 | cons x l ih =>
  unfold Yw at *
  rw [List.takeWhile_cons]
  split <;> simp <;> omega
theorem Qbw{p:Int→Bool}{x:Int}{l:List Int}(h:p x=true):Yw p (x::l)=Yw p l+1:=by simp [Yw,h]
theorem Qhf{p:Int→Bool}{x:Int}{l:List Int}(h:p x=false):Yw p (x::l)=0:=by simp [Yw,h]
theorem Qj1{c:Int}{r:List Int}(h:Ur c r=true):1≤r.length:=by
 cases r with
 | nil=>cases h
 | cons d r=>simp
theorem Qlg(l:List Int):1≤tl l:=by
 cases l with
 | nil=>exact Nat.le_refl _
 | cons c r =>
  rw [Ux]
  repeat' split
  all_goals omega
theorem tl_le{l:List Int}(h:0<l.length):tl l≤l.length:=by
 cases l with
 | nil=>simp at h
 | cons c r =>
  rw [Ux]
  have:=Qlf (Zc (kd c)) r
  rw [List.length_cons]
  split
  ·omega
  ·split
   ·rename_i h2
    have:=Qj1 h2
    omega
   ·omega
abbrev Tk:=Int×Int×Int
def U9(bs:List Int)(u:Nat):List Tk:=
 if h:u<bs.length then (tk (bs.drop u),(u:Int),((u+tl (bs.drop u):Nat):Int))::U9 bs (u+tl (bs.drop u)) else []
termination_by bs.length-u
decreasing_by
 have:=Qlg (bs.drop u)
 omega
theorem Qhg{bs:List Int}{u:Nat}(h:u<bs.length):U9 bs u=(tk (bs.drop u),(u:Int),((u+tl (bs.drop u):Nat):Int))::U9 bs (u+tl (bs.drop u)):=by
 rw [U9,dif_pos h]
theorem Qab{bs:List Int}{u:Nat}(h:bs.length≤u):U9 bs u=[]:=by
 rw [U9,dif_neg (by omega)]
theorem tl_in{bs:List Int}{u:Nat}(h:u<bs.length):u+tl (bs.drop u)≤bs.length:=by
 have:=tl_le (l:=bs.drop u) (by simp;omega)
 simp at this
 omega
theorem Qec(bs:List Int):∀ (m u:Nat),bs.length-u≤m→(U9 bs u).length≤bs.length-u:=by
 intro m
 induction m with
 | zero=>intro u h;rw [Qab (by omega)];simp
 | succ m ih =>
  intro u h
  by_cases hu:u<bs.length
  ·have h1:=Qlg (bs.drop u)
   have h2:=tl_in hu
   have:=ih (u+tl (bs.drop u)) (by omega)
   rw [Qhg hu]
   simp
   omega
  ·rw [Qab (by omega)];simp
def lv(t:Tk):Bool:=t.1 != 0&&t.1 != 1
def Yr(bs:List Int)(u:Nat):List Tk:=(U9 bs u).filter lv
open Go.RowKit
theorem Jp{a b:Int}(h:a=b):Ending.returned (.int .i64 a)=.returned (.int .i64 b):=by rw [h]
theorem Zi(c:Int)(w:World) :
  CP 71 #[.int .u8 c] w fun e w'=>e=.returned (.int .i64 (kd c))∧w=w':=by
 by_cases hm:c∈[32,9,10,13,35,95,40,41,123,125,44,59,58,46,60,43,45,42,33,61,64,47]
 ·simp only [List.mem_cons,List.not_mem_nil,or_false] at hm
  rcases hm with rfl | rfl | rfl | rfl | rfl | rfl | rfl | rfl | rfl | rfl | rfl | rfl | rfl | rfl | rfl | rfl | rfl | rfl | rfl | rfl | rfl | rfl
  all_goals
   go_enter Try.func71,Try.ntmps71
   go_wp2
   go_ret
   exact ⟨rfl,rfl⟩
 ·simp only [List.mem_cons,List.not_mem_nil,or_false,not_or] at hm
  obtain ⟨h1,h2,h3,h4,h5,h6,h7,h8,h9,h10,h11,h12,h13,h14,h15,h16,h17,h18,h19,h20,h21,h22⟩:=hm
  have e:kd c=if (97≤c∧c≤122)∨(65≤c∧c≤90) then 2 else if 48≤c∧c≤57 then 3 else 5:=by
   unfold kd
   rw [if_neg (by simp [h1,h2,h3,h4]),if_neg h5,if_neg h6,if_neg (by simp [h7,h8,h9,h10,h11,h12,h13,h14,h15,h16,h17,h18,h19,h20,h21,h22])]
  have E:=Lh e
  clear e
  replace h1:(c==32)=false:=by simpa using h1
  replace h2:(c==9)=false:=by simpa using h2
  replace h3:(c==10)=false:=by simpa using h3
  replace h4:(c==13)=false:=by simpa using h4
  replace h5:(c==35)=false:=by simpa using h5
  replace h6:(c==95)=false:=by simpa using h6
  replace h7:(c==40)=false:=by simpa using h7
  replace h8:(c==41)=false:=by simpa using h8
  replace h9:(c==123)=false:=by simpa using h9
  replace h10:(c==125)=false:=by simpa using h10
  replace h11:(c==44)=false:=by simpa using h11
  replace h12:(c==59)=false:=by simpa using h12
  replace h13:(c==58)=false:=by simpa using h13
  replace h14:(c==46)=false:=by simpa using h14
  replace h15:(c==60)=false:=by simpa using h15
  replace h16:(c==43)=false:=by simpa using h16
  replace h17:(c==45)=false:=by simpa using h17
  replace h18:(c==42)=false:=by simpa using h18
  replace h19:(c==33)=false:=by simpa using h19
  replace h20:(c==61)=false:=by simpa using h20
  replace h21:(c==64)=false:=by simpa using h21
  replace h22:(c==47)=false:=by simpa using h22
  by_cases a1:97≤c
  ·by_cases a2:c≤122
   ·go_enter Try.func71,Try.ntmps71
    go_wp2
    go_ret
    exact ⟨Jp (by rw [E.out,if_pos (.inl ⟨a1,a2⟩)]),rfl⟩
   ·have b1:65≤c:=by omega
    have b2:¬ c≤90:=by omega
    have b3:48≤c:=by omega
    have b4:¬ c≤57:=by omega
    go_enter Try.func71,Try.ntmps71
    go_wp2
    go_ret
    exact ⟨Jp (by rw [E.out,if_neg (by omega),if_neg (by omega)]),rfl⟩
  ·by_cases b1:65≤c
   ·by_cases b2:c≤90
    ·go_enter Try.func71,Try.ntmps71
     go_wp2
     go_ret
     exact ⟨Jp (by rw [E.out,if_pos (.inr ⟨b1,b2⟩)]),rfl⟩
    ·have b3:48≤c:=by omega
     have b4:¬ c≤57:=by omega
     go_enter Try.func71,Try.ntmps71
     go_wp2
     go_ret
     exact ⟨Jp (by rw [E.out,if_neg (by omega),if_neg (by omega)]),rfl⟩
   ·by_cases b3:48≤c
    ·by_cases b4:c≤57
     ·go_enter Try.func71,Try.ntmps71
      go_wp2
      go_ret
      exact ⟨Jp (by rw [E.out,if_neg (by omega),if_pos ⟨b3,b4⟩]),rfl⟩
     ·go_enter Try.func71,Try.ntmps71
      go_wp2
      go_ret
      exact ⟨Jp (by rw [E.out,if_neg (by omega),if_neg (by omega)]),rfl⟩
    ·go_enter Try.func71,Try.ntmps71
     go_wp2
     go_ret
     exact ⟨Jp (by rw [E.out,if_neg (by omega),if_neg (by omega)]),rfl⟩
theorem Qis(c d:Int)(w:World) :
  CP 77 #[.int .u8 c,.int .u8 d] w fun e w'=>e=.returned (.bool (Qaa c d))∧w=w':=by
 by_cases hm:c∈[61,64,38,124]
 ·simp only [List.mem_cons,List.not_mem_nil,or_false] at hm
  rcases hm with rfl | rfl | rfl | rfl
  all_goals
   go_enter Try.func77,Try.ntmps77
   go_wp2
   go_ret
   exact ⟨rfl,rfl⟩
 ·simp only [List.mem_cons,List.not_mem_nil,or_false,not_or] at hm
  obtain ⟨h1,h2,h3,h4⟩:=hm
  have E:=Lh (show Qaa c d=false by unfold Qaa;rw [if_neg (by omega),if_neg (by omega)])
  replace h1:(c==61)=false:=by simpa using h1
  replace h2:(c==64)=false:=by simpa using h2
  replace h3:(c==38)=false:=by simpa using h3
  replace h4:(c==124)=false:=by simpa using h4
  go_enter Try.func77,Try.ntmps77
  go_wp2
  go_ret
  exact ⟨Je E.out.symm,rfl⟩
def Ks(go:Int→Bool)(l:List Int):Int:=if Yw go l<l.length then (Yw go l:Int) else -1
def Ends(w:World)(g:Nat)(lb:Array Value)(go:Int→Bool):Prop:=
 ∀ (W:World) (x:Int),Quiet w W→CP g (#[.int .u8 x]++lb) W fun e w'=>e=.returned (.bool (!(go x)))∧Quiet W w'
theorem Qlh(b:Nat)(k x:Int)(w:World)(hk:w.cell? ⟨b,0,none⟩=some (.int .i64 k)) :
  CP 74 #[.int .u8 x,.pointer (some ⟨b,0,none⟩)] w fun e w'=>e=.returned (.bool (kd x != k))∧Quiet w w':=by
 go_enter Try.func74,Try.ntmps74
 go_wp2
 go_quiet ((go_at_call 71;exact Calls.quiet_of_same ((Zi _ _).mono fun e w' ⟨h1,h2⟩=>⟨h1,h2.symm⟩)))
 go_wp2
 go_ret
 exact ⟨rfl,Quiet.one _ _⟩
theorem Qli(x:Int)(w:World) :
  CP 75 #[.int .u8 x] w fun e w'=>e=.returned (.bool (kd x != 2&&kd x != 3))∧Quiet w w':=by
 cases h:(kd x != 2)
 all_goals
  go_enter Try.func75,Try.ntmps75
  go_wp2_with (go_at_call 71;refine (Zi _ _).mono ?_;rintro e w' ⟨rfl,rfl⟩)
  go_ret
  exact ⟨rfl,Quiet.refl _⟩
theorem Qlj(x:Int)(w:World) :
  CP 76 #[.int .u8 x] w fun e w'=>e=.returned (.bool (x==10))∧Quiet w w':=by
 go_enter Try.func76,Try.ntmps76
 go_wp2
 go_ret
 exact ⟨rfl,Quiet.refl _⟩
theorem Qbe{go:Int→Bool}{l:List Int}{k:Nat}(h:∀ j,j<k→go (l.getD j 0)=true)(hk:k<l.length)(hs:go (l.getD k 0)=false):Yw go l=k:=by
 induction l generalizing k with
 | nil=>simp at hk
 | cons y l ih =>
  cases k with
  | zero=>exact Qhf (by simpa using hs)
  | succ k =>
   have h0:go y=true:=by simpa using h 0 (by omega)
   rw [Qbw h0,ih (k:=k) (fun j hj=>by simpa using h (j+1) (by omega)) (by simpa using hk) (by simpa using hs)]
theorem Qed{go:Int→Bool}{l:List Int}(h:∀ j,j<l.length→go (l.getD j 0)=true):Yw go l=l.length:=by
 induction l with
 | nil=>rfl
 | cons y l ih =>
  have h0:go y=true:=by simpa using h 0 (by simp)
  rw [Qbw h0,ih (fun j hj=>by simpa using h (j+1) (by simp;omega))]
  rfl
theorem Qj2(g:Nat)(lb:Array Value)(eg:∀ args w,(callFunc g args).run Try.prog w=.ok (.enter g args) w)(go:Int→Bool)(A:Option Addr)(n c:Nat)(xs:List Int)(w:World)(U:Nat)(hf:Ends w g lb go)(hx:Sh w U A n (by8 xs))(hn:n≤maxLen) :
  CP 73 #[.slice A n c,.func (.func g) #[] lb] w fun e w'=>e=.returned (.int .i64 (Ks go xs))∧Quiet w w':=by
 unfold maxLen at hn
 have hl:xs.length=n:=by have:=hx.len;rwa [Qb9] at this
 have HL:=Lh hl
 clear hl
 have HX:=Lh hx
 have HF:=Lh hf
 clear hx hf
 go_enter Try.func73,Try.ntmps73
 go_wp2
 go_loopw [5,8] (fun _ i wr=>∃ k:Nat,k≤n∧i=.int .i64 k∧(∀ j,j<k→go (xs.getD j 0)=true)∧Quiet w wr) (fun _ i _=>n-(intOf i).toNat)
 case atStart=>exact ⟨0,Nat.zero_le _,rfl,fun j hj=>absurd hj (Nat.not_lt_zero _),Quiet.refl _⟩
 case round =>
  obtain ⟨k,hk,rfl,ha,hq⟩:=hrel
  have HA:=Lh ha
  have HQ:=Lh hq
  clear ha
  by_cases hlt:k<n
  ·obtain ⟨b,off,rfl,hb,hc⟩:=HX.out.byte hlt
   replace hc:wr.cell? ⟨b,off+k,none⟩=some (.int .u8 (xs.getD k 0)):=by
    obtain ⟨q,rfl⟩:=hq
    exact hc
   have hcall:=Lh (HF.out wr (xs.getD k 0) hq)
   obtain ⟨x,hx0⟩:∃ x,x=xs.getD k 0:=⟨_,rfl⟩
   rw [← hx0] at hc hcall
   have HX0:=Lh hx0
   clear hx0 hq
   cases hgo:go x with
   | true =>
    have HG:=Lh hgo
    rw [hgo] at hcall
    clear hgo
    go_wp2_with (go_at_fn g;refine hcall.out.mono ?_;rintro e w' ⟨rfl,hb'⟩)
    go_roundw
    case rel =>
     refine ⟨k+1,by omega,by go_num,fun j hj=>?_,HQ.out.trans hb'⟩
     rcases Nat.lt_or_ge j k with h | h
     ·exact HA.out j h
     ·obtain rfl:j=k:=by omega
      rw [← HX0.out];exact HG.out
    case measure=>simp [intOf];omega
   | false =>
    have HG:=Lh hgo
    rw [hgo] at hcall
    clear hgo
    go_wp2_with (go_at_fn g;refine hcall.out.mono ?_;rintro e w' ⟨rfl,hb'⟩)
    go_ret
    refine ⟨?_,HQ.out.trans hb'⟩
    have hr:=Qbe (go:=go) HA.out (by rw [HL.out];exact hlt) (by rw [← HX0.out];exact HG.out)
    exact Jp (by unfold Ks;rw [hr,if_pos (by rw [HL.out];exact hlt)])
  ·obtain rfl:k=n:=by omega
   clear hq
   go_wp2
   go_ret
   refine ⟨?_,HQ.out⟩
   have hr:=Qed (go:=go) (l:=xs) (by rw [HL.out];exact HA.out)
   exact Jp (by unfold Ks;rw [hr,if_neg (by omega)])
theorem Qj3{go:Int→Bool}{l:List Int}(u:Nat):(if 0≤Ks go l then (u:Int)+Ks go l else (u:Int)+(l.length:Int))=(u:Int)+(Yw go l:Int):=by
 unfold Ks
 have:=Qlf go l
 split
 ·rw [if_pos (by omega)]
 ·rw [if_neg (by omega)];omega
theorem Qfq{go:Int→Bool}{l:List Int}:-1≤Ks go l∧Ks go l≤l.length:=by
 unfold Ks
 split <;> omega
theorem Qac(g:Nat)(lb:Array Value)(eg:∀ args w,(callFunc g args).run Try.prog w=.ok (.enter g args) w)(go:Int→Bool)(A:Option Addr)(n c p q u:Nat)(xs:List Int)(w:World)(U:Nat)(hf:Ends w g lb go)(hx:Sh w U A n (by8 xs))(hcA:c=0∨∃ b off,A=some ⟨b,off,none⟩)(hn:n≤1000000)(hnc:n≤c)(hcm:c≤maxLen)
  (hp:w.cell? ⟨p,0,none⟩=some (.slice A n c)) (hq:w.cell? ⟨q,2,none⟩=some (.int .i64 (u:Int))) (hu:u≤n) :
  CP 72 #[.func (.func g) #[] lb,.pointer (some ⟨p,0,none⟩),.pointer (some ⟨q,0,none⟩)] w fun e w'=>e=.returned (.int .i64 ((u:Int)+(Yw go (xs.drop u):Int)))∧Quiet w w':=by
 have hl:xs.length=n:=by have:=hx.len;rwa [Qb9] at this
 unfold maxLen at hcm
 have HI:Hid (∀ T c',(u<n→∃ b off,A=some ⟨b,off,none⟩∧T=some ⟨b,off+u,none⟩)→CP 73 #[.slice T (n-u) c',.func (.func g) #[] lb] w fun e w'=>e=.returned (.int .i64 (Ks go (xs.drop u)))∧Quiet w w'):=Lh fun T c' hT=>by
  have hpc:=hx.piece (lo:=u) (hi:=n) hu nLe (A':=T) (fun b off e hlt=>by
   obtain ⟨b',off',e',rfl⟩:=hT hlt
   rw [e] at e'
   cases e'
   rfl)
  rw [by8_take,by8_drop,List.take_of_length_le (by omega)] at hpc
  exact Qj2 g lb eg go T (n-u) c' (xs.drop u) w U hf hpc (by unfold maxLen;omega)
 have hr:=Qfq (go:=go) (l:=xs.drop u)
 have HE:=Lh (Qj3 (go:=go) (l:=xs.drop u) u)
 have hdl:(xs.drop u).length=n-u:=by simp [hl]
 rw [hdl] at hr HE
 obtain ⟨r,hr0⟩:∃ r,Ks go (xs.drop u)=r:=⟨_,rfl⟩
 obtain ⟨k,hk0⟩:∃ k,Yw go (xs.drop u)=k:=⟨_,rfl⟩
 rw [hr0] at hr HI HE
 rw [hk0] at HE ⊢
 clear hx hf hl hdl hr0 hk0
 by_cases hun:u<n
 ·obtain ⟨b,off,rfl⟩:∃ b off,A=some ⟨b,off,none⟩:=by
   rcases hcA with h0 | h0
   ·omega
   ·exact h0
  have hcu:¬ c=u:=by omega
  by_cases h0:0≤r
  ·go_enter Try.func72,Try.ntmps72
   go_wp2_with (go_at_call 73;refine (HI.out _ _ (fun _=>⟨b,off,rfl,rfl⟩)).mono ?_;rintro e w1 ⟨rfl,k1,rfl⟩)
   go_ret
   exact ⟨Jp (by have:=HE.out;split at this <;> omega),Quiet.one _ _⟩
  ·go_enter Try.func72,Try.ntmps72
   go_wp2_with (go_at_call 73;refine (HI.out _ _ (fun _=>⟨b,off,rfl,rfl⟩)).mono ?_;rintro e w1 ⟨rfl,k1,rfl⟩)
   go_ret
   exact ⟨Jp (by have:=HE.out;split at this <;> omega),Quiet.one _ _⟩
 ·by_cases h0:0≤r
  ·by_cases hcu:c=u
   ·go_enter Try.func72,Try.ntmps72
    go_wp2_with (go_at_call 73;refine (HI.out _ _ (fun h=>absurd h hun)).mono ?_;rintro e w1 ⟨rfl,k1,rfl⟩)
    go_ret
    exact ⟨Jp (by have:=HE.out;split at this <;> omega),Quiet.one _ _⟩
   ·obtain ⟨b,off,rfl⟩:∃ b off,A=some ⟨b,off,none⟩:=by
     rcases hcA with h0 | h0
     ·omega
     ·exact h0
    go_enter Try.func72,Try.ntmps72
    go_wp2_with (go_at_call 73;refine (HI.out _ _ (fun h=>absurd h hun)).mono ?_;rintro e w1 ⟨rfl,k1,rfl⟩)
    go_ret
    exact ⟨Jp (by have:=HE.out;split at this <;> omega),Quiet.one _ _⟩
  ·by_cases hcu:c=u
   ·go_enter Try.func72,Try.ntmps72
    go_wp2_with (go_at_call 73;refine (HI.out _ _ (fun h=>absurd h hun)).mono ?_;rintro e w1 ⟨rfl,k1,rfl⟩)
    go_ret
    exact ⟨Jp (by have:=HE.out;split at this <;> omega),Quiet.one _ _⟩
   ·obtain ⟨b,off,rfl⟩:∃ b off,A=some ⟨b,off,none⟩:=by
     rcases hcA with h0 | h0
     ·omega
     ·exact h0
    go_enter Try.func72,Try.ntmps72
    go_wp2_with (go_at_call 73;refine (HI.out _ _ (fun h=>absurd h hun)).mono ?_;rintro e w1 ⟨rfl,k1,rfl⟩)
    go_ret
    exact ⟨Jp (by have:=HE.out;split at this <;> omega),Quiet.one _ _⟩
def Qbm(t:Tk)(w:World)(e:Ending)(w':World):Prop:=e=.returned (.agg #[.int .i64 t.1,.int .i64 t.2.1,.int .i64 t.2.2])∧Below w.heap.size w w'
abbrev Us (w:World) (v:Value) (k:Int) (u:Nat):World:=
 ((w.alloc (.cells #[v] 124)).alloc (.cells #[.int .i64 0,.int .i64 0,.int .i64 0] 117)).alloc (.cells #[.int .i64 k,.int .i64 (u:Int),.int .i64 ((u:Int)+1)] 117)
theorem Jf(w:World)(v:Value)(k:Int)(u:Nat):Below w.heap.size w (Us w v k u):=
 (((Below.refl _ w).alloc nLe _).alloc (by simp) _).alloc (by simp;omega) _
theorem Qca(w:World)(v:Value)(k:Int)(u:Nat):(Us w v k u).cell? ⟨w.heap.size,0,none⟩=some v:=by rw [Us,World.cell?_alloc_past _ _ _ (by simp;omega),World.cell?_alloc_past _ _ _ (by simp),World.cell?_alloc_at _ _ _ _ rfl];rfl
theorem Qfr(w:World)(v:Value)(k:Int)(u:Nat):(Us w v k u).cell? ⟨w.heap.size+1+1,0,none⟩=some (.int .i64 k):=by rw [Us,World.cell?_alloc_at _ _ _ _ (by simp)];rfl
theorem Qcb(w:World)(v:Value)(k:Int)(u:Nat):(Us w v k u).cell? ⟨w.heap.size+1+1,2,none⟩=some (.int .i64 ((u+1:Nat):Int)):=by rw [Us,World.cell?_alloc_at _ _ _ _ (by simp)];rfl
theorem Qlk(k x:Int)(hk:k=0∨k=3):(kd x != k)=!(Zc k x):=by
 rcases hk with rfl | rfl <;> simp [Zc,bne]
theorem Qll(x:Int):(kd x != 2&&kd x != 3)=!(Zc 2 x):=by simp [Zc,bne]
theorem Qlm(x:Int):(x==10)=!(Zc 1 x):=by simp [Zc,bne]
theorem ends_3(w:World)(b:Nat)(k:Int)(hk:k=0∨k=3)(hc:w.cell? ⟨b,0,none⟩=some (.int .i64 k)):Ends w 74 #[.pointer (some ⟨b,0,none⟩)] (Zc k):=fun W x hq=>by
 rw [← Qlk k x hk]
 refine Qlh b k x W ?_
 obtain ⟨q,rfl⟩:=hq
 exact hc
theorem ends_2(w:World):Ends w 75 #[] (Zc 2):=fun W x hq=>by
 rw [← Qll x]
 exact Qli x W
theorem ends_1(w:World):Ends w 76 #[] (Zc 1):=fun W x hq=>by
 rw [← Qlm x]
 exact Qlj x W
theorem Y6(w:World):(zeroValue 117).run Try.prog w=.ok (.agg #[.int .i64 0,.int .i64 0,.int .i64 0]) w:=by kernel_rfl
theorem tok_load(w:World)(G o:Nat)(x y z:Value)(c0:w.cell? ⟨G,o,none⟩=some x)(c1:w.cell? ⟨G,o+1,none⟩=some y)(c2:w.cell? ⟨G,o+2,none⟩=some z):(loadVar 117 ⟨G,o,none⟩).run Try.prog w=.ok (.agg #[x,y,z]) w:=
 run_loadVar_mid w G o 117 [x,y,z] _ (fun j u hj=>by
  match j,hj with
  | 0,hj=>cases hj;exact c0
  | 1,hj=>cases hj;exact c1
  | 2,hj=>cases hj;exact c2
  | j+3,hj=>simp at hj) Try.underlying117 rfl (by kernel_rfl)
theorem Qa0{G i j:Nat}(h:i≠j):(⟨G,i,none⟩:Addr)≠⟨G,j,none⟩:=fun e=>by injection e;exact h (by assumption)
theorem tok_set(w:World)(G:Nat)(x y z:Value)(c0:(w.cell? ⟨G,0,none⟩).isSome=true)(c1:(w.cell? ⟨G,1,none⟩).isSome=true)(c2:(w.cell? ⟨G,2,none⟩).isSome=true) :
  (((w.setCell ⟨G,0,none⟩ x).setCell ⟨G,1,none⟩ y).setCell ⟨G,2,none⟩ z).cell? ⟨G,0,none⟩=some x∧(((w.setCell ⟨G,0,none⟩ x).setCell ⟨G,1,none⟩ y).setCell ⟨G,2,none⟩ z).cell? ⟨G,1,none⟩=some y ∧
  (((w.setCell ⟨G,0,none⟩ x).setCell ⟨G,1,none⟩ y).setCell ⟨G,2,none⟩ z).cell? ⟨G,2,none⟩=some z:=by
 obtain ⟨a,ha⟩:=Option.isSome_iff_exists.1 c0
 obtain ⟨b,hb⟩:=Option.isSome_iff_exists.1 c1
 obtain ⟨c,hc⟩:=Option.isSome_iff_exists.1 c2
 refine ⟨?_,?_,?_⟩
 ·rw [World.cell?_setCell_other _ _ _ _ (Qa0 (by omega)),World.cell?_setCell_other _ _ _ _ (Qa0 (by omega))]
  exact World.cell?_setCell_same _ _ _ ha
 ·rw [World.cell?_setCell_other _ _ _ _ (Qa0 (by omega))]
  have:(w.setCell ⟨G,0,none⟩ x).cell? ⟨G,1,none⟩=some b:=by rw [World.cell?_setCell_other _ _ _ _ (Qa0 (by omega))];exact hb
  exact World.cell?_setCell_same _ _ _ this
 ·have:((w.setCell ⟨G,0,none⟩ x).setCell ⟨G,1,none⟩ y).cell? ⟨G,2,none⟩=some c:=by rw [World.cell?_setCell_other _ _ _ _ (Qa0 (by omega)),World.cell?_setCell_other _ _ _ _ (Qa0 (by omega))];exact hc
  exact World.cell?_setCell_same _ _ _ this
theorem Y7{t:Tk}{w W:World}{G:Nat}{x y z:Value}{a:Act}(hp:a.tmps.getD 4 undef=.pointer (some ⟨G,0,none⟩))(hd:a.defers=[])(hb:Below w.heap.size w W)(hG:w.heap.size≤G)(c0:(W.cell? ⟨G,0,none⟩).isSome=true)(c1:(W.cell? ⟨G,1,none⟩).isSome=true)(c2:(W.cell? ⟨G,2,none⟩).isSome=true)
  (hx:x=.int .i64 t.1) (hy:y=.int .i64 t.2.1) (hz:z=.int .i64 t.2.2) :
  bodyPost Try.prog Try.f59 (Qbm t w) Exit.ret a (((W.setCell ⟨G,0,none⟩ x).setCell ⟨G,1,none⟩ y).setCell ⟨G,2,none⟩ z):=by
 subst hx;subst hy;subst hz
 obtain ⟨e0,e1,e2⟩:=tok_set W G (.int .i64 t.1) (.int .i64 t.2.1) (.int .i64 t.2.2) c0 c1 c2
 have hr:Try.f59.results=#[.cell 4 117]:=rfl
 have hl:=tok_load _ G 0 _ _ _ e0 e1 e2
 have hp':a.tmps[4]?.getD undef=.pointer (some ⟨G,0,none⟩):=by simpa using hp
 refine bodyPost_ret (v:=.agg #[.int .i64 t.1,.int .i64 t.2.1,.int .i64 t.2.2]) (by simp [results,hr,hp',asAddr,hl]) hd ?_
 exact ⟨rfl,((hb.setCell (by exact hG) _).setCell (by exact hG) _).setCell (by exact hG) _⟩
theorem Kk(w:World)(v:Value)(k:Int)(u j q:Nat)(x:Value)(hj:j<3):((((Us w v k u).drewN q).setCell ⟨w.heap.size+1+1,2,none⟩ x).cell? ⟨w.heap.size+1,j,none⟩).isSome=true:=by
 rw [World.cell?_setCell_other _ _ _ _ (fun e=>by injection e;omega)]
 show ((Us w v k u).cell? ⟨w.heap.size+1,j,none⟩).isSome=true
 rw [Us,World.cell?_alloc_past _ _ _ (by simp),World.cell?_alloc_at _ _ _ _ (by simp)]
 match j,hj with
 | 0,_=>rfl
 | 1,_=>rfl
 | 2,_=>rfl
theorem Qln(n c u:Nat)(c0:Int)(bs:List Int)(w:World)(b off:Nat)(hb:b<w.heap.size)(hc0:w.cell? ⟨b,off+u,none⟩=some (.int .u8 c0))(hx:Sh w w.heap.size (some ⟨b,off,none⟩) n (by8 bs))(hn:n≤1000000)(hnc:n≤c)(hcm:c≤maxLen)(hu:u<n)
  (hk:kd c0=0) :
  CP 59 #[.slice (some ⟨b,off,none⟩) n c,.int .i64 (u:Int)] w (Qbm (0,u,((u+1:Nat):Int)+(Yw (Zc 0) (bs.drop (u+1)):Int)) w):=by
 have HU:=Lh (Qac 74 #[.pointer (some ⟨w.heap.size+1+1,0,none⟩)] (enters_of Try.func74 (by kernel_rfl) rfl) (Zc 0) (some ⟨b,off,none⟩) n c w.heap.size (w.heap.size+1+1) (u+1) bs (Us w (.slice (some ⟨b,off,none⟩) n c) 0 u) w.heap.size (ends_3 _ _ 0 (.inl rfl) (Qfr _ _ _ _)) (hx.below (Jf _ _ _ _)) (.inr ⟨b,off,rfl⟩) hn hnc hcm (Qca _ _ _ _) (Qcb _ _ _ _) (by omega))
 have HB:=Lh (Jf w (.slice (some ⟨b,off,none⟩) n c) 0 u)
 obtain ⟨r,hr⟩:∃ r,((u+1:Nat):Int)+(Yw (Zc 0) (bs.drop (u+1)):Int)=r:=⟨_,rfl⟩
 rw [hr] at HU ⊢
 unfold maxLen at hcm
 clear hx hr
 have hz:=Y6 w
 go_enter Try.func59,Try.ntmps59
 go_wp2_with (first
  | (go_at_call 71;refine (Zi _ _).mono ?_;rintro e w' ⟨rfl,rfl⟩;rw [hk])
  | (go_at_call 72;refine HU.out.mono ?_;rintro e w1 ⟨rfl,q,rfl⟩)
  | fail)
 exact Y7 (G:=w.heap.size+1) rfl rfl ((HB.out.trans ((Quiet.one _ _).below _)).setCell (by show w.heap.size≤w.heap.size+1+1;omega) _) (by omega) (Kk _ _ _ _ _ _ _ (by omega)) (Kk _ _ _ _ _ _ _ (by omega)) (Kk _ _ _ _ _ _ _ (by omega)) rfl rfl rfl
theorem Qlo(n c u:Nat)(c0:Int)(bs:List Int)(w:World)(b off:Nat)(hb:b<w.heap.size)(hc0:w.cell? ⟨b,off+u,none⟩=some (.int .u8 c0))(hx:Sh w w.heap.size (some ⟨b,off,none⟩) n (by8 bs))(hn:n≤1000000)(hnc:n≤c)(hcm:c≤maxLen)(hu:u<n)
  (hk:kd c0=3) :
  CP 59 #[.slice (some ⟨b,off,none⟩) n c,.int .i64 (u:Int)] w (Qbm (3,u,((u+1:Nat):Int)+(Yw (Zc 3) (bs.drop (u+1)):Int)) w):=by
 have HU:=Lh (Qac 74 #[.pointer (some ⟨w.heap.size+1+1,0,none⟩)] (enters_of Try.func74 (by kernel_rfl) rfl) (Zc 3) (some ⟨b,off,none⟩) n c w.heap.size (w.heap.size+1+1) (u+1) bs (Us w (.slice (some ⟨b,off,none⟩) n c) 3 u) w.heap.size (ends_3 _ _ 3 (.inr rfl) (Qfr _ _ _ _)) (hx.below (Jf _ _ _ _)) (.inr ⟨b,off,rfl⟩) hn hnc hcm (Qca _ _ _ _) (Qcb _ _ _ _) (by omega))
 have HB:=Lh (Jf w (.slice (some ⟨b,off,none⟩) n c) 3 u)
 obtain ⟨r,hr⟩:∃ r,((u+1:Nat):Int)+(Yw (Zc 3) (bs.drop (u+1)):Int)=r:=⟨_,rfl⟩
 rw [hr] at HU ⊢
 unfold maxLen at hcm
 clear hx hr
 have hz:=Y6 w
 go_enter Try.func59,Try.ntmps59
 go_wp2_with (first
  | (go_at_call 71;refine (Zi _ _).mono ?_;rintro e w' ⟨rfl,rfl⟩;rw [hk])
  | (go_at_call 72;refine HU.out.mono ?_;rintro e w1 ⟨rfl,q,rfl⟩)
  | fail)
 exact Y7 (G:=w.heap.size+1) rfl rfl ((HB.out.trans ((Quiet.one _ _).below _)).setCell (by show w.heap.size≤w.heap.size+1+1;omega) _) (by omega) (Kk _ _ _ _ _ _ _ (by omega)) (Kk _ _ _ _ _ _ _ (by omega)) (Kk _ _ _ _ _ _ _ (by omega)) rfl rfl rfl
theorem Qlp(n c u:Nat)(c0:Int)(bs:List Int)(w:World)(b off:Nat)(hb:b<w.heap.size)(hc0:w.cell? ⟨b,off+u,none⟩=some (.int .u8 c0))(hx:Sh w w.heap.size (some ⟨b,off,none⟩) n (by8 bs))(hn:n≤1000000)(hnc:n≤c)(hcm:c≤maxLen)(hu:u<n)
  (hk:kd c0=2) :
  CP 59 #[.slice (some ⟨b,off,none⟩) n c,.int .i64 (u:Int)] w (Qbm (2,u,((u+1:Nat):Int)+(Yw (Zc 2) (bs.drop (u+1)):Int)) w):=by
 have HU:=Lh (Qac 75 #[] (enters_of Try.func75 (by kernel_rfl) rfl) (Zc 2) (some ⟨b,off,none⟩) n c w.heap.size (w.heap.size+1+1) (u+1) bs (Us w (.slice (some ⟨b,off,none⟩) n c) 2 u) w.heap.size (ends_2 _) (hx.below (Jf _ _ _ _)) (.inr ⟨b,off,rfl⟩) hn hnc hcm (Qca _ _ _ _) (Qcb _ _ _ _) (by omega))
 have HB:=Lh (Jf w (.slice (some ⟨b,off,none⟩) n c) 2 u)
 obtain ⟨r,hr⟩:∃ r,((u+1:Nat):Int)+(Yw (Zc 2) (bs.drop (u+1)):Int)=r:=⟨_,rfl⟩
 rw [hr] at HU ⊢
 unfold maxLen at hcm
 clear hx hr
 have hz:=Y6 w
 go_enter Try.func59,Try.ntmps59
 go_wp2_with (first
  | (go_at_call 71;refine (Zi _ _).mono ?_;rintro e w' ⟨rfl,rfl⟩;rw [hk])
  | (go_at_call 72;refine HU.out.mono ?_;rintro e w1 ⟨rfl,q,rfl⟩)
  | fail)
 exact Y7 (G:=w.heap.size+1) rfl rfl ((HB.out.trans ((Quiet.one _ _).below _)).setCell (by show w.heap.size≤w.heap.size+1+1;omega) _) (by omega) (Kk _ _ _ _ _ _ _ (by omega)) (Kk _ _ _ _ _ _ _ (by omega)) (Kk _ _ _ _ _ _ _ (by omega)) rfl rfl rfl
theorem Qlq(n c u:Nat)(c0:Int)(bs:List Int)(w:World)(b off:Nat)(hb:b<w.heap.size)(hc0:w.cell? ⟨b,off+u,none⟩=some (.int .u8 c0))(hx:Sh w w.heap.size (some ⟨b,off,none⟩) n (by8 bs))(hn:n≤1000000)(hnc:n≤c)(hcm:c≤maxLen)(hu:u<n)
  (hk:kd c0=1) :
  CP 59 #[.slice (some ⟨b,off,none⟩) n c,.int .i64 (u:Int)] w (Qbm (1,u,((u+1:Nat):Int)+(Yw (Zc 1) (bs.drop (u+1)):Int)) w):=by
 have HU:=Lh (Qac 76 #[] (enters_of Try.func76 (by kernel_rfl) rfl) (Zc 1) (some ⟨b,off,none⟩) n c w.heap.size (w.heap.size+1+1) (u+1) bs (Us w (.slice (some ⟨b,off,none⟩) n c) 1 u) w.heap.size (ends_1 _) (hx.below (Jf _ _ _ _)) (.inr ⟨b,off,rfl⟩) hn hnc hcm (Qca _ _ _ _) (Qcb _ _ _ _) (by omega))
 have HB:=Lh (Jf w (.slice (some ⟨b,off,none⟩) n c) 1 u)
 obtain ⟨r,hr⟩:∃ r,((u+1:Nat):Int)+(Yw (Zc 1) (bs.drop (u+1)):Int)=r:=⟨_,rfl⟩
 rw [hr] at HU ⊢
 unfold maxLen at hcm
 clear hx hr
 have hz:=Y6 w
 go_enter Try.func59,Try.ntmps59
 go_wp2_with (first
  | (go_at_call 71;refine (Zi _ _).mono ?_;rintro e w' ⟨rfl,rfl⟩;rw [hk])
  | (go_at_call 72;refine HU.out.mono ?_;rintro e w1 ⟨rfl,q,rfl⟩)
  | fail)
 exact Y7 (G:=w.heap.size+1) rfl rfl ((HB.out.trans ((Quiet.one _ _).below _)).setCell (by show w.heap.size≤w.heap.size+1+1;omega) _) (by omega) (Kk _ _ _ _ _ _ _ (by omega)) (Kk _ _ _ _ _ _ _ (by omega)) (Kk _ _ _ _ _ _ _ (by omega)) rfl rfl rfl
theorem Qlr(w:World)(v:Value)(k:Int)(u j:Nat)(hj:j<3):((Us w v k u).cell? ⟨w.heap.size+1,j,none⟩).isSome=true:=by
 show ((Us w v k u).cell? ⟨w.heap.size+1,j,none⟩).isSome=true
 rw [Us,World.cell?_alloc_past _ _ _ (by simp),World.cell?_alloc_at _ _ _ _ (by simp)]
 match j,hj with
 | 0,_=>rfl
 | 1,_=>rfl
 | 2,_=>rfl
theorem Qad(w:World)(v:Value)(k:Int)(u j:Nat)(hj:j<3):(Us w v k u).cell? ⟨w.heap.size+1,j,none⟩=some (.int .i64 0):=by
 rw [Us,World.cell?_alloc_past _ _ _ (by simp),World.cell?_alloc_at _ _ _ _ (by simp)]
 match j,hj with
 | 0,_=>rfl
 | 1,_=>rfl
 | 2,_=>rfl
theorem Qls(w:World)(v:Value)(k:Int)(u:Nat):(Us w v k u).cell? ⟨w.heap.size+1+1,1,none⟩=some (.int .i64 (u:Int)):=by rw [Us,World.cell?_alloc_at _ _ _ _ (by simp)];rfl
theorem Qfs(n c u:Nat)(c0 k:Int)(w:World)(b off:Nat)(hb:b<w.heap.size)(hc0:w.cell? ⟨b,off+u,none⟩=some (.int .u8 c0))(hn:n≤1000000)(hnc:n≤c)(hcm:c≤maxLen)(hu:u+1=n)
  (hk:kd c0=k) (h4:4≤k) :
  CP 59 #[.slice (some ⟨b,off,none⟩) n c,.int .i64 (u:Int)] w (Qbm (k,u,((u+1:Nat):Int)) w):=by
 have HB:Hid (Below w.heap.size w (Us w (.slice (some ⟨b,off,none⟩) n c) k u)):=Lh (Jf w (.slice (some ⟨b,off,none⟩) n c) k u)
 have HS:=Lh (Qlr w (.slice (some ⟨b,off,none⟩) n c) k u)
 have ka:=Qca w (.slice (some ⟨b,off,none⟩) n c) k u
 have kk:=Qfr w (.slice (some ⟨b,off,none⟩) n c) k u
 have ku:=Qls w (.slice (some ⟨b,off,none⟩) n c) k u
 have k0:=Qad w (.slice (some ⟨b,off,none⟩) n c) k u 0 (by omega)
 have k1:=Qad w (.slice (some ⟨b,off,none⟩) n c) k u 1 (by omega)
 have k2:=Qad w (.slice (some ⟨b,off,none⟩) n c) k u 2 (by omega)
 have ke:=Qcb w (.slice (some ⟨b,off,none⟩) n c) k u
 have hold:=fun p (hp:p.block<w.heap.size)=>(Jf w (.slice (some ⟨b,off,none⟩) n c) k u).cell (p:=p) hp
 have kc:(Us w (.slice (some ⟨b,off,none⟩) n c) k u).cell? ⟨b,off+u,none⟩=some (.int .u8 c0):=(hold ⟨b,_,none⟩ hb).trans hc0
 obtain ⟨W,hW⟩:∃ W,((w.alloc (.cells #[.slice (some ⟨b,off,none⟩) n c] 124)).alloc (.cells #[.int .i64 0,.int .i64 0,.int .i64 0] 117)).alloc (.cells #[.int .i64 k,.int .i64 (u:Int),.int .i64 ((u:Int)+1)] 117)=W:=⟨_,rfl⟩
 unfold Us at HB HS ka kk ku k0 k1 k2 ke hold kc
 rw [hW] at HB HS ka kk ku k0 k1 k2 ke kc
 rw [show (((u+1:Nat):Int))=(u:Int)+1 by omega] at ke
 have HW:=Lh hW
 clear hold hW
 unfold maxLen at hcm
 have hz:=Y6 w
 have h0:(k==0)=false:=by simp;omega
 have h1:(k==1)=false:=by simp;omega
 have h2:(k==2)=false:=by simp;omega
 have h3:(k==3)=false:=by simp;omega
 have hlt:(decide ((u:Int)+1<(n:Int)))=false:=decide_eq_false (by omega)
 have hun:u<n:=by omega
 clear hu
 go_enter Try.func59,Try.ntmps59
 go_wp2_with (first
  | (go_at_call 71;refine (Zi _ _).mono ?_;rintro e w' ⟨rfl,rfl⟩;rw [hk])
  | fail)
 rw [HW.out]
 go_quiet (fail)
 have hW:=HW.out
 subst hW
 clear HW
 go_wp2
 exact Y7 (G:=w.heap.size+1) rfl rfl (HB.out.trans ((Quiet.one _ _).below _)) (by omega) (HS.out _ (by omega)) (HS.out _ (by omega)) (HS.out _ (by omega)) rfl rfl rfl
theorem Qhh(n c u:Nat)(c0 d0 k:Int)(w:World)(b off:Nat)(hb:b<w.heap.size)(hc0:w.cell? ⟨b,off+u,none⟩=some (.int .u8 c0))(hd0:w.cell? ⟨b,off+(u+1),none⟩=some (.int .u8 d0))(hn:n≤1000000)(hnc:n≤c)(hcm:c≤maxLen)(hu:u+1<n)
  (hk:kd c0=k) (h4:4≤k) (hp:Qaa c0 d0=true) :
  CP 59 #[.slice (some ⟨b,off,none⟩) n c,.int .i64 (u:Int)] w (Qbm (4,u,((u+2:Nat):Int)) w):=by
 have HB:Hid (Below w.heap.size w (Us w (.slice (some ⟨b,off,none⟩) n c) k u)):=Lh (Jf w (.slice (some ⟨b,off,none⟩) n c) k u)
 have HS:=Lh (Qlr w (.slice (some ⟨b,off,none⟩) n c) k u)
 have ka:=Qca w (.slice (some ⟨b,off,none⟩) n c) k u
 have kk:=Qfr w (.slice (some ⟨b,off,none⟩) n c) k u
 have ku:=Qls w (.slice (some ⟨b,off,none⟩) n c) k u
 have k0:=Qad w (.slice (some ⟨b,off,none⟩) n c) k u 0 (by omega)
 have k1:=Qad w (.slice (some ⟨b,off,none⟩) n c) k u 1 (by omega)
 have k2:=Qad w (.slice (some ⟨b,off,none⟩) n c) k u 2 (by omega)
 have ke:=Qcb w (.slice (some ⟨b,off,none⟩) n c) k u
 have hold:=fun p (hp:p.block<w.heap.size)=>(Jf w (.slice (some ⟨b,off,none⟩) n c) k u).cell (p:=p) hp
 have kc:(Us w (.slice (some ⟨b,off,none⟩) n c) k u).cell? ⟨b,off+u,none⟩=some (.int .u8 c0):=(hold ⟨b,_,none⟩ hb).trans hc0
 have kd0:(Us w (.slice (some ⟨b,off,none⟩) n c) k u).cell? ⟨b,off+(u+1),none⟩=some (.int .u8 d0):=(hold ⟨b,_,none⟩ hb).trans hd0
 obtain ⟨W,hW⟩:∃ W,((w.alloc (.cells #[.slice (some ⟨b,off,none⟩) n c] 124)).alloc (.cells #[.int .i64 0,.int .i64 0,.int .i64 0] 117)).alloc (.cells #[.int .i64 k,.int .i64 (u:Int),.int .i64 ((u:Int)+1)] 117)=W:=⟨_,rfl⟩
 unfold Us at HB HS ka kk ku k0 k1 k2 ke hold kc kd0
 rw [hW] at HB HS ka kk ku k0 k1 k2 ke kc kd0
 rw [show (((u+1:Nat):Int))=(u:Int)+1 by omega] at ke
 have HW:=Lh hW
 clear hold hW
 have HP:=Lh hp
 clear hp
 unfold maxLen at hcm
 have hz:=Y6 w
 have h0:(k==0)=false:=by simp;omega
 have h1:(k==1)=false:=by simp;omega
 have h2:(k==2)=false:=by simp;omega
 have h3:(k==3)=false:=by simp;omega
 have hlt:(u:Int)+1<(n:Int):=by omega
 have hpos:0≤(u:Int)+1:=by omega
 have hto:((u:Int)+1).toNat=u+1:=by omega
 go_enter Try.func59,Try.ntmps59
 go_wp2_with (first
  | (go_at_call 71;refine (Zi _ _).mono ?_;rintro e w' ⟨rfl,rfl⟩;rw [hk])
  | fail)
 rw [HW.out]
 go_quiet ((go_at_call 77;exact Calls.quiet_of_same ((Qis _ _ _).mono fun e w' ⟨h1,h2⟩=>⟨h1.trans (by rw [HP.out]),h2.symm⟩)))
 have hW:=HW.out
 subst hW
 clear HW
 go_wp2
 exact Y7 (G:=w.heap.size+1) rfl rfl (HB.out.trans ((Quiet.one _ _).below _)) (by omega) (HS.out _ (by omega)) (HS.out _ (by omega)) (HS.out _ (by omega)) rfl rfl (by go_num)
theorem Qhi(n c u:Nat)(c0 d0 k:Int)(w:World)(b off:Nat)(hb:b<w.heap.size)(hc0:w.cell? ⟨b,off+u,none⟩=some (.int .u8 c0))(hd0:w.cell? ⟨b,off+(u+1),none⟩=some (.int .u8 d0))(hn:n≤1000000)(hnc:n≤c)(hcm:c≤maxLen)(hu:u+1<n)
  (hk:kd c0=k) (h4:4≤k) (hp:Qaa c0 d0=false) :
  CP 59 #[.slice (some ⟨b,off,none⟩) n c,.int .i64 (u:Int)] w (Qbm (k,u,((u+1:Nat):Int)) w):=by
 have HB:Hid (Below w.heap.size w (Us w (.slice (some ⟨b,off,none⟩) n c) k u)):=Lh (Jf w (.slice (some ⟨b,off,none⟩) n c) k u)
 have HS:=Lh (Qlr w (.slice (some ⟨b,off,none⟩) n c) k u)
 have ka:=Qca w (.slice (some ⟨b,off,none⟩) n c) k u
 have kk:=Qfr w (.slice (some ⟨b,off,none⟩) n c) k u
 have ku:=Qls w (.slice (some ⟨b,off,none⟩) n c) k u
 have k0:=Qad w (.slice (some ⟨b,off,none⟩) n c) k u 0 (by omega)
 have k1:=Qad w (.slice (some ⟨b,off,none⟩) n c) k u 1 (by omega)
 have k2:=Qad w (.slice (some ⟨b,off,none⟩) n c) k u 2 (by omega)
 have ke:=Qcb w (.slice (some ⟨b,off,none⟩) n c) k u
 have hold:=fun p (hp:p.block<w.heap.size)=>(Jf w (.slice (some ⟨b,off,none⟩) n c) k u).cell (p:=p) hp
 have kc:(Us w (.slice (some ⟨b,off,none⟩) n c) k u).cell? ⟨b,off+u,none⟩=some (.int .u8 c0):=(hold ⟨b,_,none⟩ hb).trans hc0
 have kd0:(Us w (.slice (some ⟨b,off,none⟩) n c) k u).cell? ⟨b,off+(u+1),none⟩=some (.int .u8 d0):=(hold ⟨b,_,none⟩ hb).trans hd0
 obtain ⟨W,hW⟩:∃ W,((w.alloc (.cells #[.slice (some ⟨b,off,none⟩) n c] 124)).alloc (.cells #[.int .i64 0,.int .i64 0,.int .i64 0] 117)).alloc (.cells #[.int .i64 k,.int .i64 (u:Int),.int .i64 ((u:Int)+1)] 117)=W:=⟨_,rfl⟩
 unfold Us at HB HS ka kk ku k0 k1 k2 ke hold kc kd0
 rw [hW] at HB HS ka kk ku k0 k1 k2 ke kc kd0
 rw [show (((u+1:Nat):Int))=(u:Int)+1 by omega] at ke
 have HW:=Lh hW
 clear hold hW
 have HP:=Lh hp
 clear hp
 unfold maxLen at hcm
 have hz:=Y6 w
 have h0:(k==0)=false:=by simp;omega
 have h1:(k==1)=false:=by simp;omega
 have h2:(k==2)=false:=by simp;omega
 have h3:(k==3)=false:=by simp;omega
 have hlt:(u:Int)+1<(n:Int):=by omega
 have hpos:0≤(u:Int)+1:=by omega
 have hto:((u:Int)+1).toNat=u+1:=by omega
 go_enter Try.func59,Try.ntmps59
 go_wp2_with (first
  | (go_at_call 71;refine (Zi _ _).mono ?_;rintro e w' ⟨rfl,rfl⟩;rw [hk])
  | fail)
 rw [HW.out]
 go_quiet ((go_at_call 77;exact Calls.quiet_of_same ((Qis _ _ _).mono fun e w' ⟨h1,h2⟩=>⟨h1.trans (by rw [HP.out]),h2.symm⟩)))
 have hW:=HW.out
 subst hW
 clear HW
 go_wp2
 exact Y7 (G:=w.heap.size+1) rfl rfl (HB.out.trans ((Quiet.one _ _).below _)) (by omega) (HS.out _ (by omega)) (HS.out _ (by omega)) (HS.out _ (by omega)) rfl rfl rfl
theorem Qhj(A:Option Addr)(n c u:Nat)(bs:List Int)(w:World)(hx:Sh w w.heap.size A n (by8 bs))(hn:n≤1000000)(hnc:n≤c)(hcm:c≤maxLen)(hu:u<n) :
  CP 59 #[.slice A n c,.int .i64 (u:Int)] w (Qbm (tk (bs.drop u),u,((u+tl (bs.drop u):Nat):Int)) w):=by
 have hl:bs.length=n:=by have:=hx.len;rwa [Qb9] at this
 obtain ⟨b,off,rfl,hb,hc0⟩:=hx.byte hu
 have hd:bs.drop u=bs.getD u 0::bs.drop (u+1):=by
  rw [List.drop_eq_getElem_cons (by omega)]
  simp [show u<bs.length by omega]
 obtain ⟨c0,e0⟩:∃ c0,bs.getD u 0=c0:=⟨_,rfl⟩
 rw [e0] at hd hc0
 have hr:=Qbv c0
 rw [hd,Qaz,Ux]
 by_cases h4:kd c0<4
 ·rw [if_pos h4,if_pos h4]
  have hh:kd c0=0∨kd c0=1∨kd c0=2∨kd c0=3:=by omega
  have hto:∀ k:Int,Qbm (k,(u:Int),((u+1:Nat):Int)+(Yw (Zc k) (bs.drop (u+1)):Int)) w=Qbm (k,(u:Int),((u+(1+Yw (Zc k) (bs.drop (u+1))):Nat):Int)) w:=fun k=>by
   have:((u+1:Nat):Int)+(Yw (Zc k) (bs.drop (u+1)):Int)=((u+(1+Yw (Zc k) (bs.drop (u+1))):Nat):Int):=by omega
   rw [this]
  rcases hh with h | h | h | h
  ·have:=Qln n c u c0 bs w b off hb hc0 hx hn hnc hcm hu h
   rw [h,← hto];exact this
  ·have:=Qlq n c u c0 bs w b off hb hc0 hx hn hnc hcm hu h
   rw [h,← hto];exact this
  ·have:=Qlp n c u c0 bs w b off hb hc0 hx hn hnc hcm hu h
   rw [h,← hto];exact this
  ·have:=Qlo n c u c0 bs w b off hb hc0 hx hn hnc hcm hu h
   rw [h,← hto];exact this
 ·rw [if_neg h4,if_neg h4]
  by_cases hlast:u+1=n
  ·have:bs.drop (u+1)=[]:=List.drop_of_length_le (by omega)
   rw [this]
   exact Qfs n c u c0 (kd c0) w b off hb hc0 hn hnc hcm hlast rfl (by omega)
  ·obtain ⟨b',off',e',hb',hd0⟩:=hx.byte (k:=u+1) (by omega)
   cases e'
   have hd1:bs.drop (u+1)=bs.getD (u+1) 0::bs.drop (u+1+1):=by
    rw [List.drop_eq_getElem_cons (by omega)]
    simp [show u+1<bs.length by omega]
   rw [hd1]
   show Calls _ _ _ _ (Qbm (if Qaa c0 (bs.getD (u+1) 0)=true then 4 else kd c0,(u:Int),((u+if Qaa c0 (bs.getD (u+1) 0)=true then 2 else 1:Nat):Int)) w)
   by_cases hp:Qaa c0 (bs.getD (u+1) 0)=true
   ·rw [if_pos hp,if_pos hp]
    exact Qhh n c u c0 _ (kd c0) w b off hb hc0 hd0 hn hnc hcm (by omega) rfl (by omega) hp
   ·rw [if_neg hp,if_neg hp]
    exact Qhi n c u c0 _ (kd c0) w b off hb hc0 hd0 hn hnc hcm (by omega) rfl (by omega) (by simpa using hp)
theorem Kl:Kq Try.prog 90 117 3 24:=Kq.mk (z:=.agg #[.int .i64 0,.int .i64 0,.int .i64 0]) Try.underlying90 (by kernel_rfl) rfl (by omega)
def tcell(t:Tk):List Value:=[.int .i64 t.1,.int .i64 t.2.1,.int .i64 t.2.2]
def tcs(L:List Tk):List Value:=L.flatMap tcell
theorem Zn(L:List Tk)(t:Tk):tcs (L++[t])=tcs L++tcell t:=by simp [tcs]
theorem tcs_cons(t:Tk)(L:List Tk):tcs (t::L)=.int .i64 t.1::.int .i64 t.2.1::.int .i64 t.2.2::tcs L:=by simp [tcs,tcell]
theorem tcs_at{L:List Tk}{k:Nat}{t:Tk}(h:L[k]?=some t):(tcs L)[k*3]?=some (.int .i64 t.1)∧(tcs L)[k*3+1]?=some (.int .i64 t.2.1)∧(tcs L)[k*3+2]?=some (.int .i64 t.2.2):=by
 induction L generalizing k with
 | nil=>simp at h
 | cons s L ih =>
  rw [tcs_cons]
  cases k with
  | zero=>cases h;exact ⟨rfl,rfl,rfl⟩
  | succ k =>
   have:=ih (k:=k) (by simpa using h)
   rw [show (k+1)*3=k*3+1+1+1 by omega]
   simpa using this
def ShT(w:World)(B:Nat)(A:Option Addr)(n:Nat)(L:List Tk):Prop:=
 L.length=n∧(0<n→∃ b off,A=some ⟨b,off,none⟩∧b<B∧∀ k t,L[k]?=some t →
  w.cell? ⟨b,off+k*3,none⟩=some (.int .i64 t.1)∧w.cell? ⟨b,off+k*3+1,none⟩=some (.int .i64 t.2.1)∧w.cell? ⟨b,off+k*3+2,none⟩=some (.int .i64 t.2.2))
section
variable {w w':World} {B B' n:Nat} {A:Option Addr} {L:List Tk}
theorem ShT.at(h:ShT w B A n L){k:Nat}(hk:k<n):∃ b off t,A=some ⟨b,off,none⟩∧b<B∧L[k]?=some t ∧
  w.cell? ⟨b,off+k*3,none⟩=some (.int .i64 t.1)∧w.cell? ⟨b,off+k*3+1,none⟩=some (.int .i64 t.2.1)∧w.cell? ⟨b,off+k*3+2,none⟩=some (.int .i64 t.2.2):=by
 obtain ⟨b,off,e,hb,hc⟩:=h.2 (by omega)
 have hl:k<L.length:=by rw [h.1];exact hk
 exact ⟨b,off,L[k],e,hb,List.getElem?_eq_getElem hl,hc k _ (List.getElem?_eq_getElem hl)⟩
theorem ShT.up(h:ShT w B A n L)(hb:Below B' w w')(hB:B≤B'):ShT w' B A n L:=
 ⟨h.1,fun hn=>by
  obtain ⟨b,off,e,hlt,hc⟩:=h.2 hn
  refine ⟨b,off,e,hlt,fun k t ht=>?_⟩
  obtain ⟨h0,h1,h2⟩:=hc k t ht
  exact ⟨(hb.cell (p:=⟨b,_,none⟩) (Nat.lt_of_lt_of_le hlt hB)).trans h0,(hb.cell (p:=⟨b,_,none⟩) (Nat.lt_of_lt_of_le hlt hB)).trans h1,(hb.cell (p:=⟨b,_,none⟩) (Nat.lt_of_lt_of_le hlt hB)).trans h2⟩⟩
theorem ShT.more(h:ShT w B A n L)(hB:B≤B'):ShT w B' A n L:=
 ⟨h.1,fun hn=>by
  obtain ⟨b,off,e,hlt,hc⟩:=h.2 hn
  exact ⟨b,off,e,by omega,hc⟩⟩
theorem Own.tok{c:Nat}{e:TypeId}(h:Own w B e 3 (.slice A n c) n (tcs L))(hl:L.length=n):ShT w w.heap.size A n L:=by
 refine ⟨hl,fun hn=>?_⟩
 obtain ⟨g,cap,hv,_,hlt⟩:=h.1.form hn
 have hA:A=some ⟨g,0,none⟩:=by injection hv
 subst hA
 have hc:∀ j u,(tcs L)[j]?=some u→w.cell? ⟨g,0+j,none⟩=some u:=fun j u hu=>by
  have:=h.1.cells (g:=g) rfl j u hu
  rwa [Addr.add_lit] at this
 refine ⟨g,0,rfl,hlt,fun k t ht=>?_⟩
 obtain ⟨h0,h1,h2⟩:=tcs_at ht
 refine ⟨hc _ _ h0,?_,?_⟩
 ·rw [Nat.add_assoc];exact hc _ _ h1
 ·rw [Nat.add_assoc];exact hc _ _ h2
end
def Qft(L:List Tk)(w:World)(e:Ending)(w':World):Prop:=
 ∃ v,e=.returned v∧Own w' w.heap.size 117 3 v L.length (tcs L)∧Below w.heap.size w w'
end Go.Proofs.Ytjoclbeoafeebaa
