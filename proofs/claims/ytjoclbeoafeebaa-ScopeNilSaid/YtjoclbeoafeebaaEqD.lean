import Derived.Test.YtjoclbeoafeebaaSq
import Derived.Test.YtjoclbeoafeebaaMEz
import Derived.Test.YtjoclbeoafeebaaMEp
import Derived.Test.YtjoclbeoafeebaaMEi
import Derived.Test.YtjoclbeoafeebaaLxR
import Derived.Test.YtjoclbeoafeebaaLxQ
set_option maxHeartbeats 1600000
set_option maxRecDepth 10000
namespace Go.Proofs.Ytjoclbeoafeebaa
set_option linter.unusedVariables false
set_option linter.unusedSimpArgs false
open Go.RowKit
def Z7(n:Int):Prop:=-9223372036854775808≤n∧n≤9223372036854775807
theorem Qi6(a b:Int)(w:World)(ha:Z7 a)(hb:Z7 b)(h:Z7 (a+b)) :
  CP 98 #[.int .i64 a,.int .i64 b] w fun e w'=>e=.returned (.tuple #[.int .i64 (a+b),.bool true])∧w=w':=by
 unfold Z7 at ha hb h
 rcases Int.lt_trichotomy b 0 with h0 | h0 | h0
 ·have h1:¬ 0<b:=by omega
  have h2:¬ a < -9223372036854775808-b:=by omega
  go_enter Try.func98,Try.ntmps98
  go_wp2
  go_ret2
  exact ⟨rfl,rfl⟩
 ·subst h0
  go_enter Try.func98,Try.ntmps98
  go_wp2
  go_ret2
  exact ⟨by simp,rfl⟩
 ·have h1:¬ b<0:=by omega
  have h2:¬ 9223372036854775807-b<a:=by omega
  go_enter Try.func98,Try.ntmps98
  go_wp2
  go_ret2
  exact ⟨rfl,rfl⟩
theorem rAdd_no(a b:Int)(w:World)(ha:Z7 a)(hb:Z7 b)(h:¬ Z7 (a+b)) :
  CP 98 #[.int .i64 a,.int .i64 b] w fun e w'=>e=.returned (.tuple #[.int .i64 0,.bool false])∧w=w':=by
 unfold Z7 at ha hb h
 rcases Int.lt_trichotomy b 0 with h0 | h0 | h0
 ·have h1:¬ 0<b:=by omega
  have h2:a < -9223372036854775808-b:=by omega
  go_enter Try.func98,Try.ntmps98
  go_wp2
  go_ret2
  exact ⟨rfl,rfl⟩
 ·omega
 ·have h1:¬ b<0:=by omega
  have h2:9223372036854775807-b<a:=by omega
  go_enter Try.func98,Try.ntmps98
  go_wp2
  go_ret2
  exact ⟨rfl,rfl⟩
def Qet(n:Int):Bool:=decide (-9223372036854775808≤n∧n≤9223372036854775807)
theorem Qaj{n:Int}(h:Z7 n):Qet n=true:=decide_eq_true h
theorem Qmf(x y M:Int)(hy:0<y):x≤M / y↔x*y≤M:=Int.le_ediv_iff_mul_le hy
theorem pp_iff(a b:Int)(ha:0<a)(hb:0<b):a≤9223372036854775807 / b↔Z7 (a*b):=by
 have h:=Int.mul_pos ha hb
 rw [Qmf _ _ _ hb]
 unfold Z7
 omega
theorem neg_quo(x:Int)(hx:0<x):wrap64 (-Int.tdiv 9223372036854775808 x)=-(9223372036854775808 / x):=by
 have e:Int.tdiv 9223372036854775808 x=9223372036854775808 / x:=Int.tdiv_eq_ediv_of_nonneg (by omega)
 have h1:=IntWalk.tdiv_le 9223372036854775808 x (by omega) (by omega)
 rw [e,IntWalk.wrap64_in]
 omega
theorem Qi7(x y:Int)(hx:0<x)(hy:y<0):wrap64 (-Int.tdiv 9223372036854775808 x)≤y↔Z7 (x*y):=by
 rw [neg_quo x hx]
 have h1:-(9223372036854775808 / x)≤y↔-y≤9223372036854775808 / x:=by omega
 rw [h1,Qmf _ _ _ hx]
 have h2:=Int.mul_neg_of_pos_of_neg hx hy
 have h3:-y*x=-(x*y):=by rw [Int.neg_mul,Int.mul_comm]
 rw [h3]
 unfold Z7
 omega
theorem nn_quo(x:Int)(hx:x<0):wrap64 (Int.tdiv 9223372036854775807 x)=-(9223372036854775807 / -x):=by
 have e:Int.tdiv 9223372036854775807 x=-(9223372036854775807 / -x):=by
  have h:=Int.tdiv_neg 9223372036854775807 (-x)
  rw [Int.neg_neg] at h
  rw [h,Int.tdiv_eq_ediv_of_nonneg (by omega)]
 have h1:=IntWalk.tdiv_le 9223372036854775807 (-x) (by omega) (by omega)
 rw [e,IntWalk.wrap64_in]
 omega
theorem nn_iff(x y:Int)(hx:x<0)(hy:y<0):wrap64 (Int.tdiv 9223372036854775807 x)≤y↔Z7 (x*y):=by
 rw [nn_quo x hx]
 have h1:-(9223372036854775807 / -x)≤y↔-y≤9223372036854775807 / -x:=by omega
 rw [h1,Qmf _ _ _ (by omega)]
 have h2:=Int.mul_pos_of_neg_of_neg hx hy
 have h3:-y*-x=x*y:=by rw [Int.neg_mul_neg,Int.mul_comm]
 rw [h3]
 unfold Z7
 omega
theorem Qga(x:Int)(h:x=0):Z7 x:=by subst h;unfold Z7;omega
theorem i64_in{x:Int}(h:Z7 x):IntKind.i64.wrap x=x:=IntWalk.i64_in x h
theorem Qak{p q:Prop}{x y:Int}(h:x≤y↔p)(hp:p):¬ y<x:=by
 have:=h.2 hp
 omega
theorem lt_of{p:Prop}{x y:Int}(h:x≤y↔p)(hp:¬ p):y<x:=by
 by_cases h1:y<x
 ·exact h1
 ·exact absurd (h.1 (by omega)) hp
theorem Qmg(a b:Int)(w:World)(ha:Z7 a)(hb:Z7 b)(h:a=0∨b=0) :
  CP 97 #[.int .i64 a,.int .i64 b] w fun e w'=>e=.returned (.tuple #[.int .i64 (a*b),.bool true])∧w=w':=by
 unfold Z7 at ha hb
 by_cases h0:a=0
 ·subst h0
  go_enter Try.func97,Try.ntmps97
  go_wp2
  go_ret2
  exact ⟨by simp,rfl⟩
 ·obtain rfl:b=0:=by omega
  have hz:(a==0)=false:=by simpa using h0
  clear h h0
  go_enter Try.func97,Try.ntmps97
  go_wp2
  go_ret2
  exact ⟨by simp,rfl⟩
theorem Qi8(a b:Int)(w:World)(ha:Z7 a)(hb:Z7 b)(h:Z7 (a*b)) :
  CP 97 #[.int .i64 a,.int .i64 b] w fun e w'=>e=.returned (.tuple #[.int .i64 (a*b),.bool true])∧w=w':=by
 by_cases hz:a=0∨b=0
 ·exact Qmg a b w ha hb hz
 have hw:=i64_in h
 have ha0:(a==0)=false:=by simp;omega
 have hb0:(b==0)=false:=by simp;omega
 unfold Z7 at ha hb
 rcases Int.lt_trichotomy a 0 with h0 | h0 | h0 <;> rcases Int.lt_trichotomy b 0 with h1 | h1 | h1
 ·have hn:¬ 0<b:=by omega
  have hm:¬ 0<a:=by omega
  have ht:=Qak (q:=True) (nn_iff b a h1 h0) (by rw [Int.mul_comm];exact h)
  clear h hz
  go_enter Try.func97,Try.ntmps97
  go_wp2
  go_ret2
  exact ⟨rfl,rfl⟩
 ·omega
 ·have hn:¬ b<0:=by omega
  have hm:¬ 0<a:=by omega
  have ht:=Qak (q:=True) (Qi7 b a h1 h0) (by rw [Int.mul_comm];exact h)
  clear h hz
  go_enter Try.func97,Try.ntmps97
  go_wp2
  go_ret2
  exact ⟨rfl,rfl⟩
 ·omega
 ·omega
 ·omega
 ·have hn:¬ 0<b:=by omega
  have hm:¬ a<0:=by omega
  have ht:=Qak (q:=True) (Qi7 a b h0 h1) h
  clear h hz
  go_enter Try.func97,Try.ntmps97
  go_wp2
  go_ret2
  exact ⟨rfl,rfl⟩
 ·omega
 ·have hn:¬ b<0:=by omega
  have hm:¬ a<0:=by omega
  have ht:=Qak (q:=True) (pp_iff a b h0 h1) h
  clear h hz
  go_enter Try.func97,Try.ntmps97
  go_wp2
  go_ret2
  exact ⟨rfl,rfl⟩
theorem rMul_no(a b:Int)(w:World)(ha:Z7 a)(hb:Z7 b)(h:¬ Z7 (a*b)) :
  CP 97 #[.int .i64 a,.int .i64 b] w fun e w'=>e=.returned (.tuple #[.int .i64 0,.bool false])∧w=w':=by
 have hza:a≠0:=fun e=>h (Qga _ (by rw [e];simp))
 have hzb:b≠0:=fun e=>h (Qga _ (by rw [e];simp))
 have ha0:(a==0)=false:=by simpa using hza
 have hb0:(b==0)=false:=by simpa using hzb
 unfold Z7 at ha hb
 rcases Int.lt_trichotomy a 0 with h0 | h0 | h0 <;> rcases Int.lt_trichotomy b 0 with h1 | h1 | h1
 ·have hn:¬ 0<b:=by omega
  have hm:¬ 0<a:=by omega
  have ht:=lt_of (nn_iff b a h1 h0) (by rw [Int.mul_comm];exact h)
  clear h hza hzb
  go_enter Try.func97,Try.ntmps97
  go_wp2
  go_ret2
  exact ⟨rfl,rfl⟩
 ·omega
 ·have hn:¬ b<0:=by omega
  have hm:¬ 0<a:=by omega
  have ht:=lt_of (Qi7 b a h1 h0) (by rw [Int.mul_comm];exact h)
  clear h hza hzb
  go_enter Try.func97,Try.ntmps97
  go_wp2
  go_ret2
  exact ⟨rfl,rfl⟩
 ·omega
 ·omega
 ·omega
 ·have hn:¬ 0<b:=by omega
  have hm:¬ a<0:=by omega
  have ht:=lt_of (Qi7 a b h0 h1) h
  clear h hza hzb
  go_enter Try.func97,Try.ntmps97
  go_wp2
  go_ret2
  exact ⟨rfl,rfl⟩
 ·omega
 ·have hn:¬ b<0:=by omega
  have hm:¬ a<0:=by omega
  have ht:=lt_of (pp_iff a b h0 h1) h
  clear h hza hzb
  go_enter Try.func97,Try.ntmps97
  go_wp2
  go_ret2
  exact ⟨rfl,rfl⟩
theorem Qb1{n:Int}(h:Qet n=true):Z7 n:=by
 unfold Qet at h
 unfold Z7
 exact of_decide_eq_true h
def Digs(l:List UInt8):Prop:=∀ c∈l,48≤c.toNat∧c.toNat≤57
def numL:Int→List UInt8→Option Int
 | t,[]=>some t
 | t,c::r=>if Qet (t*10)=true then (if Qet (t*10+((c.toNat:Int)-48))=true then numL (t*10+((c.toNat:Int)-48)) r else none) else none
def Qmh:Lib.NumEnd Nat→Option Int
 | .ok v=>if 9223372036854775808≤v then none else some (v:Int)
 | _=>none
theorem Qeu:∀ (l:List UInt8) (acc:Nat),Digs l→9223372036854775808≤acc→Qmh (Lib.parseUintM (2^64-1) acc l)=none
 | [],acc,_,h=>by
  unfold Lib.parseUintM Qmh
  simp [h]
 | c::l,acc,hd,h=>by
  unfold Lib.parseUintM
  rw [if_pos (hd c (by simp))]
  split
  ·rfl
  ·split
   ·rfl
   ·have:=hd c (by simp)
    exact Qeu l _ (fun x hx=>hd x (by simp [hx])) (by omega)
theorem Qmi:∀ (l:List UInt8) (acc:Nat),Digs l→acc<9223372036854775808→numL (acc:Int) l=Qmh (Lib.parseUintM (2^64-1) acc l)
 | [],acc,_,h=>by
  unfold Lib.parseUintM Qmh numL
  simp [show ¬ 9223372036854775808≤acc by omega]
 | c::l,acc,hd,h=>by
  have hc:=hd c (by simp)
  have hl:Digs l:=fun x hx=>hd x (by simp [hx])
  unfold Lib.parseUintM numL
  rw [if_pos hc]
  have e1:(acc:Int)*10+((c.toNat:Int)-48)=((acc*10+(c.toNat-48):Nat):Int):=by omega
  rw [e1]
  by_cases h1:Qet ((acc:Int)*10)=true
  ·have h1':Z7 ((acc:Int)*10):=Qb1 h1
   unfold Z7 at h1'
   rw [if_pos h1]
   by_cases h2:Qet ((acc*10+(c.toNat-48):Nat):Int)=true
   ·have h2':Z7 ((acc*10+(c.toNat-48):Nat):Int):=Qb1 h2
    unfold Z7 at h2'
    rw [if_pos h2]
    rw [Qmi l _ hl (by omega)]
    split
    ·exfalso;omega
    ·split
     ·exfalso;omega
     ·congr 1
   ·rw [if_neg h2]
    have h2':¬ Z7 ((acc*10+(c.toNat-48):Nat):Int):=fun h=>h2 (Qaj h)
    unfold Z7 at h2'
    split
    ·rfl
    ·split
     ·rfl
     ·exact (Qeu l _ hl (by omega)).symm
  ·rw [if_neg h1]
   have h1':¬ Z7 ((acc:Int)*10):=fun h=>h1 (Qaj h)
   unfold Z7 at h1'
   split
   ·rfl
   ·split
    ·rfl
    ·exact (Qeu l _ hl (by omega)).symm
theorem Qmj{s:ByteArray}(h:Ql1 s):numL 0 s.data.toList=numB s:=by
 obtain ⟨h1,h2⟩:=h
 rw [show (0:Int)=((0:Nat):Int) from rfl,Qmi _ 0 h2 (by omega)]
 unfold numB
 cases hl:s.data.toList with
 | nil=>exact absurd hl h1
 | cons c r =>
  rw [hl] at h2
  have hc:=h2 c (by simp)
  unfold Lib.parseIntB Lib.parseUintB
  simp only
  have e43:¬ (c.toNat=43∨c.toNat=45):=by omega
  have e45:¬ (c.toNat=45):=by omega
  rw [if_neg e43,if_neg (List.cons_ne_nil _ _)]
  rcases Qix (2^64-1) (c::r) 0 h2 with ⟨u,hu⟩ | hu
  ·rw [hu]
   simp only [Qmh,e45]
   by_cases hb:9223372036854775808≤u
   ·simp [hb]
   ·simp [hb]
  ·rw [hu]
   rfl
structure Ry where
 T:ByteArray
 A:Option Addr
 c:Nat
 L:List Tk
abbrev Ry.R (X:Ry):Rw:=Qax X.T X.L
abbrev Ry.val (X:Ry):Value:=.agg #[.string X.T,.slice X.A X.L.length X.c]
def Ry.In(X:Ry)(w:World)(U:Nat):Prop:=ShT w U X.A X.L.length X.L∧TokOk X.T X.L
theorem Ry.In.up{X:Ry}{w w':World}{U V:Nat}(h:X.In w U)(hb:Below V w w')(hV:U≤V):X.In w' U:=⟨h.1.up hb hV,h.2⟩
theorem Ry.In.more{X:Ry}{w:World}{U V:Nat}(h:X.In w U)(hV:U≤V):X.In w V:=⟨h.1.more hV,h.2⟩
theorem Ry.at_(X:Ry){w:World}{U i:Nat}(h:X.In w U)(hi:i<X.L.length):∃ (b off x y:Nat),X.A=some ⟨b,off,none⟩∧b<U∧X.R.ps i=(x:Int)∧x≤y∧y≤X.T.size∧X.T.extract x y=X.R.wd i ∧
  w.cell? ⟨b,off+i*3,none⟩=some (.int .i64 (X.R.kd i))∧w.cell? ⟨b,off+i*3+1,none⟩=some (.int .i64 (x:Int))∧w.cell? ⟨b,off+i*3+2,none⟩=some (.int .i64 (y:Int)):=by
 obtain ⟨b,off,t,hA,hb,ht,c0,c1,c2⟩:=h.1.at hi
 obtain ⟨h0,h1,h2⟩:=h.2.tok t (List.mem_of_getElem? ht)
 have e1:((t.2.1.toNat:Nat):Int)=t.2.1:=by omega
 have e2:((t.2.2.toNat:Nat):Int)=t.2.2:=by omega
 refine ⟨b,off,t.2.1.toNat,t.2.2.toNat,hA,hb,?_,by omega,by omega,?_,?_,?_,?_⟩
 ·simp only [Ry.R,Qax,ht]
  exact e1.symm
 ·show _=wdT X.T X.L i
  simp only [wdT,ht]
 ·rw [c0]
  simp only [Ry.R,Qax,ht]
 ·rw [c1,e1]
 ·rw [c2,e2]
theorem Yf(w:World)(v:Array Value)(t:TypeId):(w.alloc (.cells v t)).heap.size=w.heap.size+1:=by simp
theorem Qg(X:Ry)(i:Nat)(w:World)(h:X.In w w.heap.size)(hi:i≤10000000) :
  CP 51 #[X.val,.int .i64 (i:Int)] w fun e w'=>e=.returned (.string (X.R.wd i))∧Below w.heap.size w w':=by
 have hln:=h.2.len
 have hsz:=h.2.sz
 by_cases hlt:i<X.L.length
 ·obtain ⟨b,off,x,y,hA,hbU,_,hxy,hy,hwd,c0,c1,c2⟩:=X.at_ h hlt
  obtain ⟨n,hn⟩:∃ n,X.L.length=n:=⟨_,rfl⟩
  have hv:X.val=.agg #[.string X.T,.slice (some ⟨b,off,none⟩) n X.c]:=by unfold Ry.val;rw [hA,hn]
  rw [hv]
  rw [hn] at hlt hln
  have HWD:=Lh hwd
  obtain ⟨T,hT⟩:∃ T,X.T=T:=⟨_,rfl⟩
  rw [hT] at hy HWD hsz ⊢
  obtain ⟨s,hs⟩:∃ s,X.R.wd i=s:=⟨_,rfl⟩
  rw [hs] at HWD ⊢
  obtain ⟨c,hc⟩:∃ c,X.c=c:=⟨_,rfl⟩
  rw [hc]
  clear h hA hn hv hT hs hc hwd c0
  go_enter Try.func51,Try.ntmps51
  go_wp2_with fail
  obtain ⟨w3,hw3⟩:∃ w3,w3=w.alloc (.cells #[.string T,.slice (some ⟨b,off,none⟩) n c] 92):=⟨_,rfl⟩
  rw [← hw3]
  have k0:w3.cell? ⟨w.heap.size,0,none⟩=some (.string T):=by rw [hw3,World.cell?_alloc_at _ _ _ _ rfl];rfl
  have k1:w3.cell? ⟨w.heap.size,1,none⟩=some (.slice (some ⟨b,off,none⟩) n c):=by rw [hw3,World.cell?_alloc_at _ _ _ _ rfl];rfl
  have k2:w3.cell? ⟨b,off+i*3+1,none⟩=some (.int .i64 (x:Int)):=by rw [hw3,World.cell?_alloc_past _ _ _ (by show b<_;omega)];exact c1
  have k3:w3.cell? ⟨b,off+i*3+2,none⟩=some (.int .i64 (y:Int)):=by rw [hw3,World.cell?_alloc_past _ _ _ (by show b<_;omega)];exact c2
  have HB3:Hid (Below w.heap.size w w3):=Lh (by rw [hw3];exact (Below.refl _ w).alloc nLe _)
  clear hw3 c1 c2
  go_quiet (fail)
  go_wp2
  go_ret
  exact ⟨by show Ending.returned (.string (T.extract x y))=_;rw [HWD.out],HB3.out.trans (Quiet.below ⟨_,rfl⟩ _)⟩
 ·have hwd:X.R.wd i=⟨#[]⟩:=(Qo X.T X.L).end_is i (by show X.L.length≤i;omega)
  rw [hwd]
  obtain ⟨n,hn⟩:∃ n,X.L.length=n:=⟨_,rfl⟩
  have hge:(n:Int)≤(i:Int):=by omega
  unfold Ry.val
  rw [hn]
  clear h hwd hn
  go_enter Try.func51,Try.ntmps51
  go_wp2
  go_ret
  exact ⟨rfl,(Below.refl _ w).alloc nLe _⟩
theorem Qz(X:Ry)(i:Nat)(w:World)(h:X.In w w.heap.size)(hi:i≤10000000) :
  CP 38 #[X.val,.int .i64 (i:Int)] w fun e w'=>e=.returned (.int .i64 (X.R.ps i))∧Below w.heap.size w w':=by
 have hln:=h.2.len
 have hsz:=h.2.sz
 by_cases hlt:i<X.L.length
 ·obtain ⟨b,off,x,y,hA,hbU,hps,hxy,hy,_,c0,c1,c2⟩:=X.at_ h hlt
  obtain ⟨n,hn⟩:∃ n,X.L.length=n:=⟨_,rfl⟩
  have hv:X.val=.agg #[.string X.T,.slice (some ⟨b,off,none⟩) n X.c]:=by unfold Ry.val;rw [hA,hn]
  rw [hv,hps]
  rw [hn] at hlt hln
  have k2:(w.alloc (.cells #[.string X.T,.slice (some ⟨b,off,none⟩) n X.c] 92)).cell? ⟨b,off+i*3+1,none⟩=some (.int .i64 (x:Int)):=by rw [World.cell?_alloc_past _ _ _ (by show b<_;omega)];exact c1
  obtain ⟨T,hT⟩:∃ T,X.T=T:=⟨_,rfl⟩
  rw [hT] at k2 ⊢
  obtain ⟨c,hc⟩:∃ c,X.c=c:=⟨_,rfl⟩
  rw [hc] at k2 ⊢
  clear h hA hn hv hT hc c0 c1 c2 hps
  go_enter Try.func38,Try.ntmps38
  go_wp2
  go_ret
  exact ⟨rfl,(Below.refl _ w).alloc nLe _⟩
 ·have hps:X.R.ps i=(X.T.size:Int):=by
   simp only [Ry.R,Qax,List.getElem?_eq_none (show X.L.length≤i by omega)]
  rw [hps]
  obtain ⟨n,hn⟩:∃ n,X.L.length=n:=⟨_,rfl⟩
  have hge:(n:Int)≤(i:Int):=by omega
  unfold Ry.val
  rw [hn]
  clear h hps hn
  go_enter Try.func38,Try.ntmps38
  go_wp2
  go_ret
  exact ⟨rfl,(Below.refl _ w).alloc nLe _⟩
theorem Kf(X:Ry)(i:Nat)(w:World)(h:X.In w w.heap.size)(hi:i≤10000000) :
  CP 96 #[X.val,.int .i64 (i:Int)] w fun e w'=>e=.returned (.bool (X.R.kd i==3))∧Below w.heap.size w w':=by
 have hln:=h.2.len
 have hsz:=h.2.sz
 by_cases hlt:i<X.L.length
 ·obtain ⟨b,off,x,y,hA,hbU,hps,hxy,hy,_,c0,c1,c2⟩:=X.at_ h hlt
  obtain ⟨n,hn⟩:∃ n,X.L.length=n:=⟨_,rfl⟩
  have hv:X.val=.agg #[.string X.T,.slice (some ⟨b,off,none⟩) n X.c]:=by unfold Ry.val;rw [hA,hn]
  rw [hv]
  rw [hn] at hlt hln
  have k2:(w.alloc (.cells #[.string X.T,.slice (some ⟨b,off,none⟩) n X.c] 92)).cell? ⟨b,off+i*3,none⟩=some (.int .i64 (X.R.kd i)):=by rw [World.cell?_alloc_past _ _ _ (by show b<_;omega)];exact c0
  obtain ⟨kk,hkk⟩:∃ kk,X.R.kd i=kk:=⟨_,rfl⟩
  rw [hkk] at k2 ⊢
  obtain ⟨T,hT⟩:∃ T,X.T=T:=⟨_,rfl⟩
  rw [hT] at k2 ⊢
  obtain ⟨c,hc⟩:∃ c,X.c=c:=⟨_,rfl⟩
  rw [hc] at k2 ⊢
  clear h hA hn hv hT hc c0 c1 c2 hps hkk
  go_enter Try.func96,Try.ntmps96
  go_wp2
  go_ret
  exact ⟨rfl,(Below.refl _ w).alloc nLe _⟩
 ·have hkd:(X.R.kd i==3)=false:=by
   rw [(Qo X.T X.L).end_kd i (by show X.L.length≤i;omega)];rfl
  rw [hkd]
  obtain ⟨n,hn⟩:∃ n,X.L.length=n:=⟨_,rfl⟩
  have hge:¬ (i:Int)<(n:Int):=by omega
  unfold Ry.val
  rw [hn]
  clear h hkd hn
  go_enter Try.func96,Try.ntmps96
  go_wp2
  go_ret
  exact ⟨rfl,(Below.refl _ w).alloc nLe _⟩
abbrev gV (e:Ex) (lv:Value) (p r:Int):Value:=.agg #[.int .i64 e.k,.int .i64 e.a,.int .i64 e.m,.string e.nm,.string e.lb,lv,.int .i64 p,.int .i64 r]
def gC(e:Ex)(lv:Value)(p r:Int):List Value:=exC e lv++[.int .i64 p,.int .i64 r]
theorem Q2(w:World):(zeroValue 138).run Try.prog w=.ok (.agg #[.int .i64 0,.int .i64 0,.int .i64 0,.string ⟨#[]⟩,.string ⟨#[]⟩,.slice none 0 0,.int .i64 0,.int .i64 0]) w:=by kernel_rfl
theorem Yu:(Try.prog.info? 138).map (·.size)=some 8:=by kernel_rfl
structure Gar (w:World) (G:Nat) (x:Ex) (lv:Value) (p r:Int):Prop where
 cs:w.rangeAt G 0 (gC x lv p r)
 fz:∀ j,j<8→w.frozen? ⟨G,j,none⟩=false
 lt:G<w.heap.size
section
variable {w w':World} {G:Nat} {x:Ex} {lv:Value} {p r:Int}
theorem gC_len:(gC x lv p r).length=8:=rfl
theorem Gar.there(h:Gar w G x lv p r):w.there G 0 8:=fun j hj=>by
 refine ⟨?_,by rw [Nat.zero_add];exact h.fz j hj⟩
 obtain ⟨v,hv⟩:∃ v,(gC x lv p r)[j]?=some v:=⟨_,List.getElem?_eq_getElem (by rw [gC_len];exact hj)⟩
 rw [h.cs j v hv]
 rfl
theorem Gar.keep(h:Gar w G x lv p r)(hk:w'.heap[G]?=w.heap[G]?)(hs:w.heap.size≤w'.heap.size):Gar w' G x lv p r:=
 ⟨fun j v hv=>(World.cell?_of_block (a:=⟨G,_,none⟩) hk).trans (h.cs j v hv),fun j hj=>(World.frozen?_of_block (a:=⟨G,j,none⟩) hk).trans (h.fz j hj),Nat.lt_of_lt_of_le h.lt hs⟩
theorem Gar.grown{q:Option Nat}(h:Gar w G x lv p r)(hg:w.grownBy w' q)(hr:some G≠q):Gar w' G x lv p r:=h.keep (hg.block G h.lt hr) hg.size
theorem Gar.below{B:Nat}(h:Gar w G x lv p r)(hg:Below B w w')(hr:G<B):Gar w' G x lv p r:=h.keep (hg.block G hr) hg.size
theorem Gar.new(w:World)(x:Ex)(lv:Value)(p r:Int)(t:TypeId){C:Array Value}(hC:C=(gC x lv p r).toArray):Gar (w.alloc (.cells C t)) w.heap.size x lv p r:=by
 subst hC
 refine ⟨fun j v hv=>by rw [Nat.zero_add,World.cell?_alloc_at _ _ _ _ rfl];simpa using hv,fun j hj=>World.frozen?_alloc_new w _ _ j,by simp⟩
theorem Qdx(h:lv.oneCell'=true):∀ u∈gC x lv p r,u.oneCell'=true:=by
 intro u hu
 rcases List.mem_append.1 hu with hu | hu
 ·exact Ym x h u hu
 ·simp at hu
  rcases hu with rfl | rfl <;> rfl
end
section
variable {ops:Array Oper} {rest:List Oper} {o:Oper} {a:Act} {w:World} {Q:Exit→Act→World→Prop}
theorem Qe(hgd:o.guard=none)(x y:Operand)(ho:o.op=.store 138 x y)(G:Nat)(hx:a.eval x=.pointer (some ⟨G,0,none⟩)){z e:Ex}{zv lv:Value}{zp zr p r:Int}(hs:Gar w G z zv zp zr)(hy:a.eval y=gV e lv p r)(h1:lv.oneCell'=true)
  (h:∀ w',w.grownBy w' (some G)→Gar w' G e lv p r→wpList Try.prog ops Q rest (a.put o.dst undef) w'):wpList Try.prog ops Q (o::rest) a w:=by
 refine wpList_store_mid hgd 138 x y ho G 0 (gC e lv p r).toArray hx hy hs.there Yu (all_oneCell_toArray (Qdx h1)) ?_
 refine h _ ?_ ⟨World.rangeAt_setCells_same w G 0 _ hs.there,fun j hj=>by rw [World.frozen?_setCells];exact hs.fz j hj,?_⟩
 ·have:∀ (vs:List Value) (o:Nat) (w:World),w.grownBy (w.setCells G o vs) (some G):=by
   intro vs
   induction vs with
   | nil=>intro o w;exact World.grownBy.refl _ _
   | cons v r ih =>
    intro o w
    have h1:w.grownBy (w.setCell ⟨G,o,none⟩ v) (some G):=⟨rfl,rfl,rfl,by simp,fun k hk hne=>heap_setCell_other _ _ _ _ (fun e=>hne (by rw [e]))⟩
    exact h1.trans (ih (o+1) _)
  exact this _ _ _
 ·have:∀ (vs:List Value) (o:Nat) (w:World),(w.setCells G o vs).heap.size=w.heap.size:=by
   intro vs
   induction vs with
   | nil=>intro o w;rfl
   | cons v r ih=>intro o w;exact (ih (o+1) _).trans (by simp)
  rw [this];exact hs.lt
theorem Js(hgd:o.guard=none)(x:Operand)(ho:o.op=.load 138 x)(G:Nat)(hx:a.eval x=.pointer (some ⟨G,0,none⟩)){e:Ex}{lv:Value}{p r:Int}(hs:Gar w G e lv p r)
  (h:wpList Try.prog ops Q rest (a.put o.dst (gV e lv p r)) w):wpList Try.prog ops Q (o::rest) a w:=
 wpList_load_mid hgd 138 x ho G 0 hx (gC e lv p r) _ hs.cs Try.underlying138 rfl Yu h
end
theorem ld_g{w:World}{G:Nat}{e:Ex}{lv:Value}{p r:Int}(hs:Gar w G e lv p r):(loadVar 138 ⟨G,0,none⟩).run Try.prog w=.ok (gV e lv p r) w:=
 run_loadVar_mid w G 0 138 (gC e lv p r) _ hs.cs Try.underlying138 rfl Yu
theorem Jo{F:Func}{i:Nat}(hr:F.results=#[.cell i 138]){a:Act}{W:World}{G:Nat}{x:Ex}{lv:Value}{p r:Int}{Q:Ending→World→Prop}(hp:a.tmps.getD i undef=.pointer (some ⟨G,0,none⟩))(hd:a.defers=[])(hs:Gar W G x lv p r)
  (hQ:Q (.returned (gV x lv p r)) W):bodyPost Try.prog F Q Exit.ret a W:=by
 have hl:=ld_g hs
 have hp':a.tmps[i]?.getD undef=.pointer (some ⟨G,0,none⟩):=by simpa using hp
 exact bodyPost_ret (v:=gV x lv p r) (by simp [results,hr,hp',asAddr,hl]) hd hQ
theorem Q3(w:World):Gar (w.alloc (.cells z8 138)) w.heap.size Ex.nul (.slice none 0 0) 0 0:=Gar.new w Ex.nul (.slice none 0 0) 0 0 138 rfl
theorem Qmk(X:Ry)(i l:Nat)(w:World)(h:X.In w w.heap.size)(hi:i≤10000000)(hl:1≤l)(hl5:l≤5) :
  CP 81 #[X.val,.int .i64 (i:Int),.int .i64 (l:Int)] w fun e w'=>e=.returned (.bool (Qit l (X.R.wd i)))∧Below w.heap.size w w':=by
 have HA:Hid (∀ W,Below w.heap.size w W→CP 51 #[X.val,.int .i64 (i:Int)] W fun e w'=>e=.returned (.string (X.R.wd i))∧Below W.heap.size W w'):=Lh fun W hW=>Qg X i W ((h.up hW nLe).more hW.size) hi
 have HB:=Lh ((Below.refl w.heap.size w).alloc nLe (.cells #[.string X.T,.slice X.A X.L.length X.c] 92))
 clear h
 obtain ⟨s,hs⟩:∃ s,X.R.wd i=s:=⟨_,rfl⟩
 rw [hs] at HA ⊢
 clear hs
 unfold Ry.val at HA ⊢
 unfold Qit
 obtain ⟨T,hT⟩:∃ T,X.T=T:=⟨_,rfl⟩
 obtain ⟨A,hA⟩:∃ A,X.A=A:=⟨_,rfl⟩
 obtain ⟨n,hn⟩:∃ n,X.L.length=n:=⟨_,rfl⟩
 obtain ⟨c,hc⟩:∃ c,X.c=c:=⟨_,rfl⟩
 rw [hT,hA,hn,hc] at HA HB ⊢
 clear hT hA hn hc
 obtain rfl | rfl | rfl | rfl | rfl:l=1∨l=2∨l=3∨l=4∨l=5:=by omega
 all_goals
  go_enter Try.func81,Try.ntmps81
  go_wp2_with (first
   | (go_at_call 51;refine (HA.out _ HB.out).mono ?_;rintro e wt ⟨rfl,b⟩;have HB':=Lh (bTr HB b);clear b;dsimp only)
   | fail)
  all_goals
   go_ret
   refine ⟨?_,HB'.out⟩
   simp
theorem Qml(w:World):(zeroValue 92).run Try.prog w=.ok (.agg #[.string ⟨#[]⟩,.slice none 0 0]) w:=by kernel_rfl
def RNewTo(T:ByteArray)(bs:List Int)(w:World)(e:Ending)(w':World):Prop:=
 ∃ X:Ry,e=.returned X.val∧X.T=T∧X.L=Yr bs 0∧X.In w' w'.heap.size∧Below w.heap.size w w'
theorem rNew_any(T:ByteArray)(bs:List Int)(w:World)(hb:bts T=bs)(hm:T.size≤1000000) :
  CP 36 #[.string T] w (RNewTo T bs w):=by
 have hz:=Qml
 have hl:bs.length=T.size:=by rw [← hb,J3]
 have htl:=Qec bs bs.length 0 (by omega)
 have hok:=Qej hb (by omega)
 have HA:Hid (∀ W,CP 49 #[.string T] W (Qft (U9 bs 0) W)):=Lh fun W=>Qdw T bs W hb hm
 have HLV:Hid (∀ W A n c,ShT W W.heap.size A n (U9 bs 0)→CP 50 #[.slice A n c] W (Qft (Yr bs 0) W)):=Lh fun W A n c h=>Qlu A n c (U9 bs 0) W h (by have:=h.1;omega)
 have HOK:=Lh hok
 have HB:=Lh (((Below.refl w.heap.size w).alloc nLe (.cells #[.string ⟨#[]⟩,.slice none 0 0] 92)))
 have HC:Hid (∀ W,Below (w.heap.size+1) (w.alloc (.cells #[.string ⟨#[]⟩,.slice none 0 0] 92)) W→W.cell? ⟨w.heap.size,0,none⟩=some (.string ⟨#[]⟩)∧W.cell? ⟨w.heap.size,1,none⟩=some (.slice none 0 0)∧W.frozen? ⟨w.heap.size,0,none⟩=false∧W.frozen? ⟨w.heap.size,1,none⟩=false):=Lh fun W hW=>by
  have hk:=hW.block w.heap.size (by omega)
  refine ⟨(World.cell?_of_block (a:=⟨w.heap.size,0,none⟩) hk).trans ?_,(World.cell?_of_block (a:=⟨w.heap.size,1,none⟩) hk).trans ?_,(World.frozen?_of_block (a:=⟨w.heap.size,0,none⟩) hk).trans (World.frozen?_alloc_new _ _ _ _),(World.frozen?_of_block (a:=⟨w.heap.size,1,none⟩) hk).trans (World.frozen?_alloc_new _ _ _ _)⟩
  ·rw [World.cell?_alloc_at _ _ _ _ rfl];rfl
  ·rw [World.cell?_alloc_at _ _ _ _ rfl];rfl
 clear hb hok hl
 go_enter Try.func36,Try.ntmps36
 go_wp2_with (first
  | (go_at_call 49;refine (HA.out _).mono ?_;rintro e w2 ⟨v2,rfl,ho2,b2⟩;obtain ⟨A2,c2,rfl⟩:=ho2.form;have HO2:=Lh ho2;have HB2:=Lh (bTr HB b2);have hs2:=b2.size;simp only [Yf] at hs2 b2;have HD2:=Lh b2;clear b2 ho2)
  | (go_at_call 50;refine (HLV.out _ _ _ _ (HO2.out.tok rfl)).mono ?_;rintro e w3 ⟨v3,rfl,ho3,b3⟩;obtain ⟨A3,c3,rfl⟩:=ho3.form;have HO3:=Lh ho3;have HB3:=Lh (bTr HB2 b3);have hs3:=b3.size;obtain ⟨k0,k1,k2,k3⟩:=HC.out _ (HD2.out.trans (b3.mono hs2));clear b3 ho3)
  | fail)
 have hr:Try.f36.results=#[.cell 2 92]:=by kernel_rfl
 obtain ⟨w4,hw4⟩:∃ w4,w4=(w3.setCell ⟨w.heap.size,0,none⟩ (.string T)).setCell ⟨w.heap.size,1,none⟩ (.slice A3 (Yr bs 0).length c3):=⟨_,rfl⟩
 rw [← hw4]
 have g4:w3.grownBy w4 (some w.heap.size):=by
  rw [hw4]
  exact (show w3.grownBy (w3.setCell ⟨w.heap.size,0,none⟩ (.string T)) (some w.heap.size) from ⟨rfl,rfl,rfl,by simp,fun k hk hne=>heap_setCell_other _ _ _ _ (fun e=>hne (by rw [e]))⟩).trans ⟨rfl,rfl,rfl,by simp,fun k hk hne=>heap_setCell_other _ _ _ _ (fun e=>hne (by rw [e]))⟩
 have hra:w4.rangeAt w.heap.size 0 [.string T,.slice A3 (Yr bs 0).length c3]:=fun i u hu=>by
  match i,hu with
  | 0,hu =>
   rw [hw4,Nat.zero_add,World.cell?_setCell_other _ _ _ _ (fun e=>by injection e with _ e1;cases e1),World.cell?_setCell_same _ _ _ k0]
   exact hu
  | 1,hu =>
   have h1:(w3.setCell ⟨w.heap.size,0,none⟩ (.string T)).cell? ⟨w.heap.size,1,none⟩=some (.slice none 0 0):=by
    rw [World.cell?_setCell_other _ _ _ _ (fun e=>by injection e with _ e1;cases e1)];exact k1
   rw [hw4,Nat.zero_add,World.cell?_setCell_same _ _ _ h1]
   exact hu
  | i+2,hu=>simp at hu
 have hl:=run_loadVar_mid (P:=Try.prog) w4 w.heap.size 0 92 [.string T,.slice A3 (Yr bs 0).length c3] _ hra Try.underlying92 rfl (by kernel_rfl)
 refine bodyPost_ret (v:=.agg #[.string T,.slice A3 (Yr bs 0).length c3]) (by simp [results,hr,asAddr,hl]) rfl ?_
 refine ⟨⟨T,A3,c3,Yr bs 0⟩,rfl,rfl,rfl,⟨?_,HOK.out⟩,?_⟩
 ·exact (HO3.out.gb g4 (by omega)).tok rfl
 ·exact Qu HB3.out g4 nLe HB3.out.size
theorem hts_snoc(l:List Ex)(x:Ex):hts (l++[x])=max (hts l) x.ht:=by
 rw [hts_app,Y8,Qlw]
 omega
theorem hts_take{l:List Ex}{i:Nat}{x:Ex}(h:l[i]?=some x):hts (l.take (i+1))=max (hts (l.take i)) x.ht:=by
 rw [List.take_add_one,h]
 exact hts_snoc _ _
def RHtC(e:Ex):Prop:=∀ (lv:Value) (w:World) (S:Nat→Prop),Shx w S lv e.l →
  CP 92 #[exV e lv] w fun r w'=>r=.returned (.int .i64 (e.ht:Int))∧Below w.heap.size w w'
theorem Qcn:∀ e:Ex,e.wfx→e.ht≤1000000→RHtC e:=by
 refine Ex.ind fun k a m nm lb l ih=>?_
 intro hwf hht lv w S hx
 have hwf':=(Ex.wfx_eq _).1 hwf
 have hh:(Ex.mk k a m nm lb l).ht=hts l+1:=Ex.ht_eq _
 rw [hh] at hht ⊢
 have hle:∀ x∈l,x.ht≤hts l:=fun x hx=>hts_mem hx
 have IH:Hid (∀ x∈l,RHtC x):=Lh fun x hx'=>ih x hx' (hwf'.2.2 x hx') (by have:=hle x hx';omega)
 have HLE:Hid (∀ i x,l[i]?=some x→(hts (l.take i)≤1000000∧x.ht≤1000000)):=Lh fun i x h=>by
  have h1:=hle x (List.mem_of_getElem? h)
  have h2:∀ (l:List Ex) i,hts (l.take i)≤hts l:=by
   intro l
   induction l with
   | nil=>intro i;simp
   | cons y l ih =>
    intro i
    cases i with
    | zero=>exact Nat.zero_le _
    | succ i=>rw [List.take_succ_cons,Y8,Y8];have:=ih i;omega
  have:=h2 l i
  omega
 have hln:l.length≤1000000:=hwf'.2.1
 obtain ⟨A,c,rfl,_⟩:=hx.len
 obtain ⟨n,hn⟩:∃ n,l.length=n:=⟨_,rfl⟩
 have hll:(Ex.mk k a m nm lb l).l.length=n:=hn
 rw [hll] at hx ⊢
 rw [hn] at hln
 have HN:=Lh hn
 obtain ⟨w1,hw1⟩:∃ w1,w.alloc (.cells #[.int .i64 k,.int .i64 a,.int .i64 m,.string nm,.string lb,.slice A n c] 81)=w1:=⟨_,rfl⟩
 have hb1:Below w.heap.size w w1:=by rw [← hw1];exact (Below.refl _ w).alloc nLe _
 have hs1:w1.heap.size=w.heap.size+1:=by rw [← hw1];simp
 have hx1:Shx w1 S (.slice A n c) l:=hx.under hb1 (fun b _ hb=>hb)
 have hsl:Kp w1 w.heap.size (.mk k a m nm lb l) (.slice A n c):=by rw [← hw1];exact Kp.new w (.mk k a m nm lb l) (.slice A n c) 81 rfl
 have HX1:=Lh hx1
 have HB1:=Lh hb1
 have HSL:=Lh hsl
 have HW1:=Lh hw1
 obtain ⟨hh',hhh⟩:∃ h',hts l=h':=⟨_,rfl⟩
 have HHH:=Lh hhh
 rw [hhh] at hht ⊢
 clear ih hwf hwf' hx hx1 hb1 hsl hw1 hn hh hle hhh
 show CP 92 #[.agg #[.int .i64 k,.int .i64 a,.int .i64 m,.string nm,.string lb,.slice A n c]] w _
 go_enter Try.func92,Try.ntmps92
 go_wp2_with fail
 rw [HW1.out]
 go_loopw [3,4] (fun hv iv wr=>∃ (i q:Nat),hv=.int .i64 (q:Int)∧iv=.int .i64 (i:Int)∧i≤n∧Hid (q=hts (l.take i))∧Below w1.heap.size w1 wr) (fun _ iv _=>n-(intOf iv).toNat)
 case atStart=>exact ⟨0,0,rfl,rfl,Nat.zero_le _,Lh rfl,Below.refl _ _⟩
 case round =>
  obtain ⟨i,q,rfl,rfl,hi,HQ,hb⟩:=hrel
  have HB:=Lh hb
  have c5:wr.cell? ⟨w.heap.size,5,none⟩=some (.slice A n c):=(HSL.out.below hb HSL.out.lt).cs 5 _ rfl
  have hszr:=hb.size
  clear hb
  by_cases hin:i<n
  ·obtain ⟨b,off,x,lv2,hA,hxi,_,hrange,hys,_,hbl⟩:=(HX1.out.under HB.out (fun b _ hb=>hb)).at hin
   subst hA
   have hbd:=HLE.out i x hxi
   rw [← HQ.out] at hbd
   have hq1:IntKind.i64.wrap (max (q:Int) (x.ht:Int))=max (q:Int) (x.ht:Int):=IntWalk.i64_in _ (by omega)
   have HIH:=Lh (IH.out x (List.mem_of_getElem? hxi) lv2)
   have HY:=Lh hys
   have HR:=Lh hrange
   have HQ2:Hid (max q x.ht=hts (l.take (i+1))):=Lh (by rw [hts_take hxi,HQ.out])
   obtain ⟨A3,c3,rfl,_⟩:=hys.len
   clear hys hrange hxi
   go_wp2_with (first
    | (refine Jx rfl (.tmp 16) rfl b (off+i*6) rfl HR.out ?_)
    | (go_at_call 92;refine (HIH.out _ _ HY.out).mono ?_;rintro e w5 ⟨rfl,b5⟩;have HB5:=Lh b5;clear b5;dsimp only)
    | fail)
   refine ⟨⟨i+1,max q x.ht,by first | (rw [show ((max q x.ht:Nat):Int)=max (q:Int) (x.ht:Int) by omega];done) | exact congrArg (Value.int .i64) (by split <;> omega),by go_num,hin,HQ2,HB.out.trans (HB5.out.mono hszr)⟩,by simp [intOf];omega⟩
  ·obtain rfl:i=n:=by omega
   have hq:q=hh':=by rw [HQ.out,← HHH.out,← HN.out,List.take_length]
   subst hq
   go_wp2
   go_ret
   exact ⟨by simp,HB1.out.trans (HB.out.mono (by omega))⟩
def Yi(w:World)(G:Gt)(e:Ending)(w':World):Prop:=∃ lv,e=.returned (gV G.e lv (G.p:Int) G.r)∧Shx w' (fun b=>w.heap.size≤b) lv G.e.l∧Below w.heap.size w w'
theorem Kx(x:Ex)(lv:Value)(p q:Nat)(w:World)(S:Nat→Prop)(hwf:x.wfx)(hht:x.ht≤1000000)(h:Shx w S lv x.l)(h32:32<x.ht) :
  CP 82 #[exV x lv,.int .i64 (p:Int),.int .i64 (q:Int)] w fun e w'=>e=.returned (gV Ex.nul (.slice none 0 0) (q:Int) 12)∧Below w.heap.size w w':=by
 have hz:=Q2
 have hone:=h.one
 obtain ⟨A,c,rfl,_⟩:=h.len
 have hb1:Below w.heap.size w ((w.alloc (.cells #[.int .i64 x.k,.int .i64 x.a,.int .i64 x.m,.string x.nm,.string x.lb,.slice A x.l.length c] 81)).alloc (.cells z8 138)):=((Below.refl _ w).alloc nLe _).alloc (by simp) _
 have hsl:=(Kp.new w x (.slice A x.l.length c) 81 (C:=#[.int .i64 x.k,.int .i64 x.a,.int .i64 x.m,.string x.nm,.string x.lb,.slice A x.l.length c]) rfl).below ((Below.refl (w.heap.size+1) _).alloc (by simp) (.cells z8 138)) (Nat.lt_succ_self _)
 have hga:=Q3 (w.alloc (.cells #[.int .i64 x.k,.int .i64 x.a,.int .i64 x.m,.string x.nm,.string x.lb,.slice A x.l.length c] 81))
 obtain ⟨w1,hw1⟩:∃ w1,((w.alloc (.cells #[.int .i64 x.k,.int .i64 x.a,.int .i64 x.m,.string x.nm,.string x.lb,.slice A x.l.length c] 81)).alloc (.cells z8 138))=w1:=⟨_,rfl⟩
 have hs1:w1.heap.size=w.heap.size+2:=by rw [← hw1];simp
 rw [hw1] at hb1 hsl hga
 rw [Yf] at hga
 have HH:Hid (RHtC x):=Lh (Qcn x hwf hht)
 have HX:=Lh (h.under hb1 (by intro b _ hb;exact hb))
 have HB1:=Lh hb1
 have HSL:=Lh hsl
 have HGA:=Lh hga
 have HW1:=Lh hw1
 clear h hwf hb1 hsl hga hw1
 have d1:(32:Int)<(x.ht:Int):=by omega
 unfold exV
 go_enter Try.func82,Try.ntmps82
 go_wp2_with (first
  | (refine Jx rfl (.tmp 3) rfl w.heap.size 0 rfl HSL.out.cs ?_)
  | (go_at_call 92;rw [HW1.out];refine (HH.out _ _ _ HX.out).mono ?_;rintro e w2 ⟨rfl,b2⟩;have HB2:=Lh (HB1.out.trans (b2.mono (by omega)));have HSL:=Lh (HSL.out.below b2 (by omega));have HGA:=Lh (HGA.out.below b2 (by omega));have hs2:=b2.size;clear b2;dsimp only)
  | (refine Qe rfl (.tmp 6) (.tmp 11) rfl (w.heap.size+1) rfl HGA.out (e:=Ex.nul) (lv:=.slice none 0 0) (p:=(q:Int)) (r:=12) rfl rfl ?_;intro w3 hg3 hs3;have HG3:=Lh hs3;have HB3:=Lh (Qu HB2.out hg3 (by omega) HB2.out.size);clear hg3 hs3)
  | fail)
 refine Jo (i:=6) (by kernel_rfl) rfl rfl HG3.out ⟨rfl,HB3.out⟩
theorem Ky(x:Ex)(lv:Value)(p q:Nat)(w:World)(S:Nat→Prop)(hwf:x.wfx)(hht:x.ht≤1000000)(h:Shx w S lv x.l)(h32:¬ 32<x.ht) :
  CP 82 #[exV x lv,.int .i64 (p:Int),.int .i64 (q:Int)] w fun e w'=>e=.returned (gV x lv (p:Int) 0)∧Below w.heap.size w w':=by
 have hz:=Q2
 have hone:=h.one
 obtain ⟨A,c,rfl,_⟩:=h.len
 have hb1:Below w.heap.size w ((w.alloc (.cells #[.int .i64 x.k,.int .i64 x.a,.int .i64 x.m,.string x.nm,.string x.lb,.slice A x.l.length c] 81)).alloc (.cells z8 138)):=((Below.refl _ w).alloc nLe _).alloc (by simp) _
 have hsl:=(Kp.new w x (.slice A x.l.length c) 81 (C:=#[.int .i64 x.k,.int .i64 x.a,.int .i64 x.m,.string x.nm,.string x.lb,.slice A x.l.length c]) rfl).below ((Below.refl (w.heap.size+1) _).alloc (by simp) (.cells z8 138)) (Nat.lt_succ_self _)
 have hga:=Q3 (w.alloc (.cells #[.int .i64 x.k,.int .i64 x.a,.int .i64 x.m,.string x.nm,.string x.lb,.slice A x.l.length c] 81))
 obtain ⟨w1,hw1⟩:∃ w1,((w.alloc (.cells #[.int .i64 x.k,.int .i64 x.a,.int .i64 x.m,.string x.nm,.string x.lb,.slice A x.l.length c] 81)).alloc (.cells z8 138))=w1:=⟨_,rfl⟩
 have hs1:w1.heap.size=w.heap.size+2:=by rw [← hw1];simp
 rw [hw1] at hb1 hsl hga
 rw [Yf] at hga
 have HH:Hid (RHtC x):=Lh (Qcn x hwf hht)
 have HX:=Lh (h.under hb1 (by intro b _ hb;exact hb))
 have HB1:=Lh hb1
 have HSL:=Lh hsl
 have HGA:=Lh hga
 have HW1:=Lh hw1
 clear h hwf hb1 hsl hga hw1
 have d1:¬ (32:Int)<(x.ht:Int):=by omega
 unfold exV
 go_enter Try.func82,Try.ntmps82
 go_wp2_with (first
  | (refine Jx rfl (.tmp 3) rfl w.heap.size 0 rfl HSL.out.cs ?_)
  | (go_at_call 92;rw [HW1.out];refine (HH.out _ _ _ HX.out).mono ?_;rintro e w2 ⟨rfl,b2⟩;have HB2:=Lh (HB1.out.trans (b2.mono (by omega)));have HSL:=Lh (HSL.out.below b2 (by omega));have HGA:=Lh (HGA.out.below b2 (by omega));have hs2:=b2.size;clear b2;dsimp only)
  | (refine Qe rfl (.tmp 6) (.tmp 14) rfl (w.heap.size+1) rfl HGA.out (e:=x) (lv:=.slice A x.l.length c) (p:=(p:Int)) (r:=0) rfl hone ?_;intro w3 hg3 hs3;have HG3:=Lh hs3;have HB3:=Lh (Qu HB2.out hg3 (by omega) HB2.out.size);clear hg3 hs3)
  | fail)
 refine Jo (i:=6) (by kernel_rfl) rfl rfl HG3.out ⟨rfl,HB3.out⟩
def Qlc(X:Ry)(f:Nat):Prop:=∀ (l d p:Nat) (w:World),1≤l→l≤6→d≤32→p≤X.L.length→X.In w w.heap.size→16*(X.L.length-p)+(10-l)≤f →
 CP 70 #[X.val,.int .i64 (p:Int),.int .i64 (l:Int),.int .i64 (d:Int)] w (Yi w (rd X.R f (.lev l) p d))
def RSgC(X:Ry)(f:Nat):Prop:=∀ (d p:Nat) (w:World),d≤32→p≤X.L.length→X.In w w.heap.size→16*(X.L.length-p)+3≤f →
 CP 80 #[X.val,.int .i64 (p:Int),.int .i64 (d:Int)] w (Yi w (rd X.R f .sg p d))
def RPrC(X:Ry)(f:Nat):Prop:=∀ (d p:Nat) (w:World),d≤32→p≤X.L.length→X.In w w.heap.size→16*(X.L.length-p)+2≤f →
 CP 91 #[X.val,.int .i64 (p:Int),.int .i64 (d:Int)] w (Yi w (rd X.R f .pr p d))
structure Two (X:Ry) (w w1:World):Prop where
 c0:w1.cell? ⟨w.heap.size,0,none⟩=some (.string X.T)
 c1:w1.cell? ⟨w.heap.size,1,none⟩=some (.slice X.A X.L.length X.c)
 ga:Gar w1 (w.heap.size+1) Ex.nul (.slice none 0 0) 0 0
 be:Below w.heap.size w w1
 sz:w1.heap.size=w.heap.size+2
theorem Qx(X:Ry)(w:World):Two X w ((w.alloc (.cells #[.string X.T,.slice X.A X.L.length X.c] 92)).alloc (.cells z8 138)):=by
 refine ⟨?_,?_,?_,((Below.refl _ w).alloc nLe _).alloc (by simp) _,by simp⟩
 ·rw [World.cell?_alloc_past _ _ _ (by show w.heap.size<_;simp),World.cell?_alloc_at _ _ _ _ rfl];rfl
 ·rw [World.cell?_alloc_past _ _ _ (by show w.heap.size<_;simp),World.cell?_alloc_at _ _ _ _ rfl];rfl
 ·have:=Q3 (w.alloc (.cells #[.string X.T,.slice X.A X.L.length X.c] 92))
  rwa [Yf] at this
theorem Two.row{X:Ry}{w w1 w2:World}{B:Nat}(h:Two X w w1)(hb:Below B w1 w2)(hB:w.heap.size<B):w2.cell? ⟨w.heap.size,0,none⟩=some (.string X.T)∧w2.cell? ⟨w.heap.size,1,none⟩=some (.slice X.A X.L.length X.c):=
 ⟨(hb.cell (p:=⟨w.heap.size,0,none⟩) hB).trans h.c0,(hb.cell (p:=⟨w.heap.size,1,none⟩) hB).trans h.c1⟩
theorem Qkj(X:Ry)(f:Nat)(hP:RPrC X f)(d p:Nat)(w:World)(hd:d≤32)(hp:p≤X.L.length)(h:X.In w w.heap.size)(hf:16*(X.L.length-p)+3≤f+1)(hsg:(X.R.is p [33] || X.R.is p [45])=false) :
  CP 80 #[X.val,.int .i64 (p:Int),.int .i64 (d:Int)] w (Yi w (rd X.R (f+1) .sg p d)):=by
 have hz:=Q2
 have hln:=h.2.len
 obtain ⟨e33,e45⟩:=Bool.or_eq_false_iff.1 hsg
 have e33':((X.R.wd p).toList==[33])=false:=e33
 have e45':((X.R.wd p).toList==[45])=false:=e45
 rw [Qiy hsg]
 have HI:=Lh h
 have H2:=Lh (Qx X w)
 have HA:Hid (∀ W,Below w.heap.size w W→CP 51 #[X.val,.int .i64 (p:Int)] W fun e w'=>e=.returned (.string (X.R.wd p))∧Below W.heap.size W w'):=Lh fun W hW=>Qg X p W ((HI.out.up hW nLe).more hW.size) (by omega)
 have HP:Hid (∀ W,Below w.heap.size w W→CP 91 #[X.val,.int .i64 (p:Int),.int .i64 (d:Int)] W (Yi W (rd X.R f .pr p d))):=Lh fun W hW=>hP d p W hd hp ((HI.out.up hW nLe).more hW.size) (by omega)
 obtain ⟨g,hg⟩:∃ g,rd X.R f .pr p d=g:=⟨_,rfl⟩
 rw [hg] at HP ⊢
 obtain ⟨s,hs⟩:∃ s,X.R.wd p=s:=⟨_,rfl⟩
 rw [hs] at HA e33' e45'
 clear h hP hg hs hsg e33 e45
 obtain ⟨W1,hW1⟩:∃ W1,((w.alloc (.cells #[.string X.T,.slice X.A X.L.length X.c] 92)).alloc (.cells z8 138))=W1:=⟨_,rfl⟩
 rw [hW1] at H2
 have HW1:=Lh hW1
 have hs1:=H2.out.sz
 clear hW1
 go_enter Try.func80,Try.ntmps80
 go_wp2_with (first
  | (go_at_call 51;rw [HW1.out];refine (HA.out _ H2.out.be).mono ?_;rintro e w2 ⟨rfl,b2⟩;have HB2:=Lh (H2.out.be.trans (b2.mono H2.out.be.size));have HG2:=Lh (H2.out.ga.below b2 (by omega));obtain ⟨k0,k1⟩:=H2.out.row b2 (by omega);have hs2:=b2.size;clear b2;dsimp only)
  | (go_at_call 91;refine (HP.out _ HB2.out).mono ?_;rintro e w3 ⟨lv,rfl,hx3,b3⟩;have hone:=hx3.one;have HX3:=Lh hx3;have HB3:=Lh (bTr HB2 b3);have HG3:=Lh (HG2.out.below b3 (by omega));have hs3:=b3.size;clear b3 hx3;dsimp only)
  | (refine Qe rfl (.tmp 6) (.tmp 21) rfl (w.heap.size+1) rfl HG3.out (e:=g.e) (lv:=lv) (p:=(g.p:Int)) (r:=g.r) rfl hone ?_;intro w4 hg4 hs4;have HG4:=Lh hs4;have HB4:=Lh (Qu HB3.out hg4 (by omega) HB3.out.size);have HX4:=Lh (HX3.out.grown hg4 (by intro b hb _ e;injection e with e;have hb:w2.heap.size≤b:=hb;omega));clear hg4 hs4)
  | fail)
 refine Jo (i:=6) (by kernel_rfl) rfl rfl HG4.out ⟨lv,rfl,?_,HB4.out⟩
 exact HX4.out.weak fun b hb _=>by have hb:w2.heap.size≤b:=hb;show w.heap.size≤b;omega
theorem Gar.six{w:World}{G:Nat}{x:Ex}{lv:Value}{p r:Int}(h:Gar w G x lv p r):w.cell? ⟨G,0,none⟩=some (.int .i64 x.k)∧w.cell? ⟨G,1,none⟩=some (.int .i64 x.a)∧w.cell? ⟨G,2,none⟩=some (.int .i64 x.m)∧w.cell? ⟨G,3,none⟩=some (.string x.nm)∧w.cell? ⟨G,4,none⟩=some (.string x.lb)∧w.cell? ⟨G,5,none⟩=some lv∧w.cell? ⟨G,6,none⟩=some (.int .i64 p)∧w.cell? ⟨G,7,none⟩=some (.int .i64 r):=by
 have h0:=h.cs 0 _ rfl
 have h1:=h.cs 1 _ rfl
 have h2:=h.cs 2 _ rfl
 have h3:=h.cs 3 _ rfl
 have h4:=h.cs 4 _ rfl
 have h5:=h.cs 5 _ rfl
 have h6:=h.cs 6 _ rfl
 have h7:=h.cs 7 _ rfl
 simp only [Nat.zero_add] at h0 h1 h2 h3 h4 h5 h6 h7
 exact ⟨h0,h1,h2,h3,h4,h5,h6,h7⟩
theorem hld_nul(e:Ex)(p q:Nat)(h:(hld e p q).r≠0):(hld e p q).e=Ex.nul:=by
 rcases Qj6 e p q with ⟨h1,_⟩ | ⟨_,_,h3⟩
 ·exact absurd h1 h
 ·exact h3
theorem Qal{R:Rw}:∀ (f:Nat) (m:Md) (a d:Nat),(rd R f m a d).r≠0→(rd R f m a d).e=Ex.nul:=by
 intro f
 induction f with
 | zero=>intro m a d _;rw [rd_0];rfl
 | succ f ih =>
  intro m a d
  cases m
  all_goals
   simp only [rd]
   repeat' split
   all_goals first
    | exact ih _ _ _
    | exact hld_nul _ _ _
    | (intro h;exact absurd rfl h)
    | (intro _;rfl)
theorem Gar.set8{w:World}{G:Nat}{x e:Ex}{zv lv:Value}{zp zr p r:Int}(h:Gar w G x zv zp zr) :
  Gar ((((((((w.setCell ⟨G,0,none⟩ (.int .i64 e.k)).setCell ⟨G,1,none⟩ (.int .i64 e.a)).setCell ⟨G,2,none⟩ (.int .i64 e.m)).setCell ⟨G,3,none⟩ (.string e.nm)).setCell ⟨G,4,none⟩ (.string e.lb)).setCell ⟨G,5,none⟩ lv).setCell ⟨G,6,none⟩ (.int .i64 p)).setCell ⟨G,7,none⟩ (.int .i64 r)) G e lv p r ∧
  w.grownBy ((((((((w.setCell ⟨G,0,none⟩ (.int .i64 e.k)).setCell ⟨G,1,none⟩ (.int .i64 e.a)).setCell ⟨G,2,none⟩ (.int .i64 e.m)).setCell ⟨G,3,none⟩ (.string e.nm)).setCell ⟨G,4,none⟩ (.string e.lb)).setCell ⟨G,5,none⟩ lv).setCell ⟨G,6,none⟩ (.int .i64 p)).setCell ⟨G,7,none⟩ (.int .i64 r)) (some G):=by
 have e0:((((((((w.setCell ⟨G,0,none⟩ (.int .i64 e.k)).setCell ⟨G,1,none⟩ (.int .i64 e.a)).setCell ⟨G,2,none⟩ (.int .i64 e.m)).setCell ⟨G,3,none⟩ (.string e.nm)).setCell ⟨G,4,none⟩ (.string e.lb)).setCell ⟨G,5,none⟩ lv).setCell ⟨G,6,none⟩ (.int .i64 p)).setCell ⟨G,7,none⟩ (.int .i64 r))=w.setCells G 0 (gC e lv p r):=rfl
 rw [e0]
 have hs:∀ (vs:List Value) (o:Nat) (w:World),(w.setCells G o vs).heap.size=w.heap.size:=by
  intro vs
  induction vs with
  | nil=>intro o w;rfl
  | cons v r ih=>intro o w;exact (ih (o+1) _).trans (by simp)
 have hg:∀ (vs:List Value) (o:Nat) (w:World),w.grownBy (w.setCells G o vs) (some G):=by
  intro vs
  induction vs with
  | nil=>intro o w;exact World.grownBy.refl _ _
  | cons v r ih =>
   intro o w
   exact gb_trans (Qah w G o v) (ih (o+1) _)
 exact ⟨⟨World.rangeAt_setCells_same w G 0 _ h.there,fun j hj=>by rw [World.frozen?_setCells];exact h.fz j hj,by rw [hs];exact h.lt⟩,hg _ _ _⟩
theorem Qhu(X:Ry)(f:Nat)(hS:RSgC X f)(d p:Nat)(w:World)(hd:d≤32)(hp:p<X.L.length)(h:X.In w w.heap.size)(hf:16*(X.L.length-p)+3≤f+1)(hsg:(X.R.is p [33] || X.R.is p [45])=true)(h32:¬ d=32) :
  CP 80 #[X.val,.int .i64 (p:Int),.int .i64 (d:Int)] w (Yi w (rd X.R (f+1) .sg p d)):=by
 have hz:=Q2
 have hln:=h.2.len
 have d32:¬ (32:Int)≤(d:Int):=by omega
 have HI:=Lh h
 have H2:=Lh (Qx X w)
 have HA:Hid (∀ W,Below w.heap.size w W→CP 51 #[X.val,.int .i64 (p:Int)] W fun e w'=>e=.returned (.string (X.R.wd p))∧Below W.heap.size W w'):=Lh fun W hW=>Qg X p W ((HI.out.up hW nLe).more hW.size) (by omega)
 have HPO:Hid (∀ W,Below w.heap.size w W→CP 38 #[X.val,.int .i64 (p:Int)] W fun e w'=>e=.returned (.int .i64 (X.R.ps p))∧Below W.heap.size W w'):=Lh fun W hW=>Qz X p W ((HI.out.up hW nLe).more hW.size) (by omega)
 obtain ⟨g,hg⟩:∃ g,rd X.R f .sg (p+1) (d+1)=g:=⟨_,rfl⟩
 have HS:Hid (∀ W,Below w.heap.size w W→CP 80 #[X.val,.int .i64 ((p:Int)+1),.int .i64 ((d:Int)+1)] W (Yi W g)):=Lh fun W hW=>by
  rw [← hg]
  exact hS (d+1) (p+1) W (by omega) hp ((HI.out.up hW nLe).more hW.size) (by omega)
 have hfi:=Kw (Qo X.T X.L) (show X.R.n≤1000000 from hln) f .sg (p+1) (d+1) hp (fun h=>by cases h) trivial
 rw [hg] at hfi
 have hfi:g.r=0→Fine g.e:=fun h=>(hfi h).1
 have hnul:g.r≠0→g.e=Ex.nul:=by rw [← hg];exact Qal _ _ _ _
 have HRD:=Lh (Ql2 (d:=d) hsg h32 hg)
 have hor:((X.R.wd p).toList==[33])=true∨(((X.R.wd p).toList==[33])=false∧((X.R.wd p).toList==[45])=true):=by
  rcases Bool.or_eq_true_iff.1 hsg with h | h
  ·exact .inl h
  ·cases h3:X.R.is p [33] with
   | true=>exact .inl h3
   | false=>exact .inr ⟨h3,h⟩
 rw [HRD.out]
 obtain ⟨s,hs⟩:∃ s,X.R.wd p=s:=⟨_,rfl⟩
 rw [hs] at HA hor ⊢
 have HFI:=Lh hfi
 clear h hS hg hs hsg HRD hfi
 obtain ⟨W1,hW1⟩:∃ W1,((w.alloc (.cells #[.string X.T,.slice X.A X.L.length X.c] 92)).alloc (.cells z8 138))=W1:=⟨_,rfl⟩
 rw [hW1] at H2
 have HW1:=Lh hW1
 have hs1:=H2.out.sz
 clear hW1
 by_cases hr:g.r=0
 ·rw [if_pos hr]
  have hr2':(g.r==0)=true:=by simp [hr]
  have hr2'':decide (g.r=0)=true:=by simp [hr]
  have hfine:=HFI.out hr
  have HWF:Hid ((eUn (X.R.ps p) s g.e).wfx):=Lh (un_wfx hfine)
  have HHT:Hid ((eUn (X.R.ps p) s g.e).ht≤1000000):=Lh (by rw [Ex.ht_eq];show max g.e.ht 0+1≤_;have:=hfine.2;omega)
  obtain ⟨E5,a5,n5,P5,R5,hx0,he5,hx5⟩:∃ (E5:Ex) (a5:Nat→Option Addr) (n5 P5:Nat) (R5:Int),(∀ W B (S:Nat→Prop),Shx W S (.slice (some ⟨B,0,none⟩) 1 1) [g.e]→CP 82 #[.agg #[.int .i64 4,.int .i64 (X.R.ps p),.int .i64 0,.string s,.string ⟨#[]⟩,.slice (some ⟨B,0,none⟩) 1 1],.int .i64 (g.p:Int),.int .i64 (p:Int)] W fun e w'=>e=.returned (gV E5 (.slice (a5 B) n5 n5) (P5:Int) R5)∧Below W.heap.size W w')∧hld (eUn (X.R.ps p) s g.e) g.p p=⟨E5,P5,R5⟩∧(∀ W B (S:Nat→Prop),Shx W S (.slice (some ⟨B,0,none⟩) 1 1) [g.e]→Shx W S (.slice (a5 B) n5 n5) E5.l):=by
   by_cases hh32:32<(eUn (X.R.ps p) s g.e).ht
   ·exact ⟨Ex.nul,fun _=>none,0,p,12,fun W B S h=>Kx (eUn (X.R.ps p) s g.e) _ g.p p W S HWF.out HHT.out h hh32,by unfold hld;rw [if_pos hh32];rfl,fun W B S h=>.nil⟩
   ·exact ⟨eUn (X.R.ps p) s g.e,fun B=>some ⟨B,0,none⟩,1,g.p,0,fun W B S h=>Ky (eUn (X.R.ps p) s g.e) _ g.p p W S HWF.out HHT.out h hh32,by unfold hld;rw [if_neg hh32];rfl,fun W B S h=>h⟩
  rw [he5]
  have HX0:=Lh hx0
  have HX5:=Lh hx5
  clear hx0 hx5 he5 HWF HHT
  rcases hor with h' | ⟨h',h''⟩
  all_goals
   go_enter Try.func80,Try.ntmps80
   go_wp2_with (first
    | (go_at_call 51;rw [HW1.out];refine (HA.out _ H2.out.be).mono ?_;rintro e w2 ⟨rfl,b2⟩;have HB2:=Lh (H2.out.be.trans (b2.mono H2.out.be.size));have HG2:=Lh (H2.out.ga.below b2 (by omega));have HK2:=Lh (H2.out.row b2 (by omega));obtain ⟨k0,k1⟩:=HK2.out;have hs2:=b2.size;clear b2;dsimp only)
    | (go_at_call 80;refine (HS.out _ HB2.out).mono ?_;rintro e w3 ⟨lv,rfl,hx3,b3⟩;obtain ⟨A3,c3,rfl,_⟩:=hx3.len;have hone:=hx3.one;have HX3:=Lh hx3;have HB3:=Lh (bTr HB2 b3);have HG3:=Lh (HG2.out.below b3 (by omega));have HD3:=Lh b3;have hs3:=b3.size;clear b3 hx3;dsimp only)
    | (refine Qe rfl (.tmp 8) (.tmp 31) rfl w3.heap.size rfl (Q3 w3) (e:=g.e) (lv:=.slice A3 g.e.l.length c3) (p:=(g.p:Int)) (r:=g.r) rfl hone ?_;intro w4 hg4 hs4;have HG4:=Lh hs4;have HH4:=Lh hg4;have hs4':=hg4.size;simp only [Yf] at hs4';obtain ⟨m0,m1,m2,m3,m4,m5,m6,m7⟩:=hs4.six;clear hg4 hs4)
    | fail)
   obtain ⟨K,hK⟩:∃ K,w3.heap.size=K:=⟨_,rfl⟩
   have HB4:Hid (Below w.heap.size w w4):=Lh (Qu (HB3.out.alloc HB3.out.size _) HH4.out (by have:=HB3.out.size;omega) (by simp;have:=HB3.out.size;omega))
   have HX4:Hid (Shx w4 (fun b=>w2.heap.size≤b) (.slice A3 g.e.l.length c3) g.e.l):=Lh ((((HX3.out.weak (S':=fun b=>w2.heap.size≤b∧b<w3.heap.size) (fun b h1 h2=>⟨h1,h2⟩)).under bAl (fun b hb _=>hb.2)).grown HH4.out (by intro b hb _ e;injection e with e;omega)).weak fun b hb _=>hb.1)
   have hk0:w4.cell? ⟨w.heap.size,0,none⟩=some (.string X.T)∧w4.cell? ⟨w.heap.size,1,none⟩=some (.slice X.A X.L.length X.c):=by
    have hbk:w4.heap[w.heap.size]?=w2.heap[w.heap.size]?:=(HH4.out.block w.heap.size (by simp;omega) (by intro e;injection e;omega)).trans (((bAl:Below w3.heap.size w3 _).block w.heap.size (by omega)).trans (HD3.out.block w.heap.size (by omega)))
    exact ⟨(World.cell?_of_block (a:=⟨w.heap.size,0,none⟩) hbk).trans k0,(World.cell?_of_block (a:=⟨w.heap.size,1,none⟩) hbk).trans k1⟩
   rw [hK] at HG4 m0 m1 m2 m3 m4 m5 m6 m7 hs3 ⊢
   have HGA4:=Lh ((HG3.out.below ((Below.refl w3.heap.size w3).alloc nLe (.cells z8 138)) (by omega)).grown HH4.out (by intro e;injection e;omega))
   have hz4:=HG4.out.lt
   have KS:Hid (∀ W,Below w4.heap.size w4 W→W.cell? ⟨w.heap.size,0,none⟩=some (.string X.T)∧W.cell? ⟨w.heap.size,1,none⟩=some (.slice X.A X.L.length X.c)∧W.cell? ⟨K,0,none⟩=some (.int .i64 g.e.k)∧W.cell? ⟨K,1,none⟩=some (.int .i64 g.e.a)∧W.cell? ⟨K,2,none⟩=some (.int .i64 g.e.m)∧W.cell? ⟨K,3,none⟩=some (.string g.e.nm)∧W.cell? ⟨K,4,none⟩=some (.string g.e.lb)∧W.cell? ⟨K,5,none⟩=some (.slice A3 g.e.l.length c3)∧W.cell? ⟨K,6,none⟩=some (.int .i64 (g.p:Int))):=Lh fun W hW=>by
    obtain ⟨a0,a1,a2,a3,a4,a5,a6,a7⟩:=(HG4.out.below hW hz4).six
    have hbk:=hW.block w.heap.size (by omega)
    exact ⟨(World.cell?_of_block (a:=⟨w.heap.size,0,none⟩) hbk).trans hk0.1,(World.cell?_of_block (a:=⟨w.heap.size,1,none⟩) hbk).trans hk0.2,a0,a1,a2,a3,a4,a5,a6⟩
   have KT:Hid (∀ W0 W,Below w4.heap.size w4 W0→W0.grownBy W (some (w.heap.size+1))→W.cell? ⟨w.heap.size,0,none⟩=some (.string X.T)∧W.cell? ⟨w.heap.size,1,none⟩=some (.slice X.A X.L.length X.c)∧W.cell? ⟨K,0,none⟩=some (.int .i64 g.e.k)∧W.cell? ⟨K,1,none⟩=some (.int .i64 g.e.a)∧W.cell? ⟨K,2,none⟩=some (.int .i64 g.e.m)∧W.cell? ⟨K,3,none⟩=some (.string g.e.nm)∧W.cell? ⟨K,4,none⟩=some (.string g.e.lb)∧W.cell? ⟨K,5,none⟩=some (.slice A3 g.e.l.length c3)∧W.cell? ⟨K,6,none⟩=some (.int .i64 (g.p:Int))):=Lh fun W0 W hW hg=>by
    obtain ⟨b0,b1,a0,a1,a2,a3,a4,a5,a6⟩:=KS.out W0 hW
    have hs0:=hW.size
    have e1:=hg.block w.heap.size (by omega) (by intro e;injection e;omega)
    have e2:=hg.block K (by omega) (by intro e;injection e;omega)
    exact ⟨(World.cell?_of_block (a:=⟨w.heap.size,0,none⟩) e1).trans b0,(World.cell?_of_block (a:=⟨w.heap.size,1,none⟩) e1).trans b1,(World.cell?_of_block (a:=⟨K,0,none⟩) e2).trans a0,(World.cell?_of_block (a:=⟨K,1,none⟩) e2).trans a1,(World.cell?_of_block (a:=⟨K,2,none⟩) e2).trans a2,(World.cell?_of_block (a:=⟨K,3,none⟩) e2).trans a3,(World.cell?_of_block (a:=⟨K,4,none⟩) e2).trans a4,(World.cell?_of_block (a:=⟨K,5,none⟩) e2).trans a5,(World.cell?_of_block (a:=⟨K,6,none⟩) e2).trans a6⟩
   have HBD:=Lh (Qi w4 w4.heap.size)
   have HBL:Hid (Below w4.heap.size w4 (w4.alloc (.cells #[.int .i64 g.e.k,.int .i64 g.e.a,.int .i64 g.e.m,.string g.e.nm,.string g.e.lb,.slice A3 g.e.l.length c3] 81)).drew):=Lh (((Below.refl w4.heap.size w4).alloc nLe (.cells #[.int .i64 g.e.k,.int .i64 g.e.a,.int .i64 g.e.m,.string g.e.nm,.string g.e.lb,.slice A3 g.e.l.length c3] 81)).trans (Qi _ _))
   have HTL:Hid (Shx (w4.alloc (.cells #[.int .i64 g.e.k,.int .i64 g.e.a,.int .i64 g.e.m,.string g.e.nm,.string g.e.lb,.slice A3 g.e.l.length c3] 81)).drew (fun b=>w2.heap.size≤b) (.slice (some ⟨w4.heap.size,0,none⟩) 1 1) [g.e]):=Lh ((Shx.lit (w:=w4) (S:=fun b=>w2.heap.size≤b) [(g.e,.slice A3 g.e.l.length c3)] (by simp) (by intro q hq;rw [List.mem_singleton.1 hq];exact HX4.out) (by show w2.heap.size≤w4.heap.size;omega) rfl).under (Qi _ (w4.heap.size+1)) (by intro b _ h;simpa using h))
   clear k0 k1 m0 m1 m2 m3 m4 m5 m6 m7 hk0 HK2 HG2 HG3 HB2 HB3 HX3 HD3 HH4 H2 HW1 hK
   obtain ⟨k0,k1,m0,m1,m2,m3,m4,m5,m6⟩:=KS.out _ HBD.out
   go_region_held3 (fun W=>W.cell? ⟨w.heap.size,0,none⟩=some (.string X.T)∧W.cell? ⟨w.heap.size,1,none⟩=some (.slice X.A X.L.length X.c)∧W.cell? ⟨K,0,none⟩=some (.int .i64 g.e.k)∧W.cell? ⟨K,1,none⟩=some (.int .i64 g.e.a)∧W.cell? ⟨K,2,none⟩=some (.int .i64 g.e.m)∧W.cell? ⟨K,3,none⟩=some (.string g.e.nm)∧W.cell? ⟨K,4,none⟩=some (.string g.e.lb)∧W.cell? ⟨K,5,none⟩=some (.slice A3 g.e.l.length c3)∧W.cell? ⟨K,6,none⟩=some (.int .i64 (g.p:Int))) (((try dsimp only);first | (with_reducible exact KS.out _ HBD.out) | (with_reducible exact KS.out _ HBL.out) | (with_reducible exact KS.out _ HB6.out) | (with_reducible exact KS.out _ HBS8.out) | (with_reducible exact KT.out _ _ HBS8.out (Gar.set8 HG8.out).2) | ((repeat' apply And.intro) <;> first | (with_reducible assumption) | go_keep))) (first
    | (go_at_call 38;with_reducible refine (HPO.out _ (HB4.out.trans (HBD.out.mono HB4.out.size))).mono ?_;rintro e w6 ⟨rfl,b6⟩;have HB6:=Lh (bTr HBD b6);clear b6;dsimp only)
    | (go_at_call 38;with_reducible refine (HPO.out _ (HB4.out.trans (HBL.out.mono HB4.out.size))).mono ?_;rintro e w6 ⟨rfl,b6⟩;have HB6:=Lh (bTr HBL b6);have HT7:=Lh (HTL.out.under b6 (by intro b _ h;exact h));clear b6;dsimp only)
    | (go_at_call 82;have HX6:=Lh (HX4.out.under HB6.out (by intro b _ h;exact h));have hge6:=HB6.out.size;have HT7:=Lh (show Shx (w6.alloc (.cells #[.int .i64 g.e.k,.int .i64 g.e.a,.int .i64 g.e.m,.string g.e.nm,.string g.e.lb,.slice A3 g.e.l.length c3] 81)) (fun b=>w2.heap.size≤b) (.slice (some ⟨w6.heap.size,0,none⟩) 1 1) [g.e] from Shx.lit (w:=w6) (S:=fun b=>w2.heap.size≤b) [(g.e,.slice A3 g.e.l.length c3)] (by simp) (by intro q hq;rw [List.mem_singleton.1 hq];exact HX6.out) (by show w2.heap.size≤w6.heap.size;omega) rfl);with_reducible refine (HX0.out _ _ _ HT7.out).mono ?_;rintro e w8 ⟨rfl,b8⟩;have HB8:=Lh (((HB4.out.trans (HB6.out.mono HB4.out.size)).alloc (by have:=HB4.out.size;omega) _).trans (b8.mono (by simp;have:=HB4.out.size;omega)));have HBS8:=Lh ((HB6.out.alloc (by omega) _).trans (b8.mono (by simp;omega)));have HT8:=Lh (HT7.out.under b8 (by intro b _ h;exact h));have HG8:=Lh (HGA4.out.below HBS8.out HGA4.out.lt);obtain ⟨k0,k1,m0,m1,m2,m3,m4,m5,m6⟩:=KS.out _ HBS8.out;obtain ⟨z0,z1,z2,z3,z4,z5,z6,z7⟩:=HG8.out.six;have f0:=HG8.out.fz 0 (by omega);have f1:=HG8.out.fz 1 (by omega);have f2:=HG8.out.fz 2 (by omega);have f3:=HG8.out.fz 3 (by omega);have f4:=HG8.out.fz 4 (by omega);have f5:=HG8.out.fz 5 (by omega);have f6:=HG8.out.fz 6 (by omega);have f7:=HG8.out.fz 7 (by omega);clear b8;dsimp only)
    | (go_at_call 82;with_reducible refine (HX0.out _ _ _ HT7.out).mono ?_;rintro e w8 ⟨rfl,b8⟩;have hge6:=HB6.out.size;have HB8:=Lh ((HB4.out.trans (HB6.out.mono HB4.out.size)).trans (b8.mono (by have:=HB4.out.size;omega)));have HBS8:=Lh (HB6.out.trans (b8.mono hge6));have HT8:=Lh (HT7.out.under b8 (by intro b _ h;exact h));have HG8:=Lh (HGA4.out.below HBS8.out HGA4.out.lt);obtain ⟨k0,k1,m0,m1,m2,m3,m4,m5,m6⟩:=KS.out _ HBS8.out;obtain ⟨z0,z1,z2,z3,z4,z5,z6,z7⟩:=HG8.out.six;have f0:=HG8.out.fz 0 (by omega);have f1:=HG8.out.fz 1 (by omega);have f2:=HG8.out.fz 2 (by omega);have f3:=HG8.out.fz 3 (by omega);have f4:=HG8.out.fz 4 (by omega);have f5:=HG8.out.fz 5 (by omega);have f6:=HG8.out.fz 6 (by omega);have f7:=HG8.out.fz 7 (by omega);clear b8;dsimp only)
    | fail)
   all_goals
    go_wp2
    refine Jo (i:=6) (by kernel_rfl) rfl rfl (Gar.set8 (e:=E5) (lv:=.slice _ n5 n5) (p:=(P5:Int)) (r:=R5) HG8.out).1 ?_
    refine ⟨_,rfl,?_,Qu HB8.out (Gar.set8 HG8.out).2 (by omega) HB8.out.size⟩
    exact (HX5.out _ _ _ (HT8.out.grown (Gar.set8 HG8.out).2 (by intro b hb _ e;injection e with e;have hb:w2.heap.size≤b:=hb;omega))).weak fun b hb _=>by have hb:w2.heap.size≤b:=hb;show w.heap.size≤b;omega
 ·rw [if_neg hr]
  have hr2':(g.r==0)=false:=by simp [hr]
  have hr2'':decide (g.r=0)=false:=by simp [hr]
  have HNU:=Lh (hnul hr)
  rcases hor with h' | ⟨h',h''⟩
  all_goals
   go_enter Try.func80,Try.ntmps80
   go_wp2_with (first
    | (go_at_call 51;rw [HW1.out];refine (HA.out _ H2.out.be).mono ?_;rintro e w2 ⟨rfl,b2⟩;have HB2:=Lh (H2.out.be.trans (b2.mono H2.out.be.size));have HG2:=Lh (H2.out.ga.below b2 (by omega));obtain ⟨k0,k1⟩:=H2.out.row b2 (by omega);have hs2:=b2.size;clear b2;dsimp only)
    | (go_at_call 80;refine (HS.out _ HB2.out).mono ?_;rintro e w3 ⟨lv,rfl,hx3,b3⟩;obtain ⟨A3,c3,rfl,_⟩:=hx3.len;have hone:=hx3.one;have HX3:=Lh hx3;have HB3:=Lh (bTr HB2 b3);have HG3:=Lh (HG2.out.below b3 (by omega));have hs3:=b3.size;clear b3 hx3;dsimp only)
    | (refine Qe rfl (.tmp 8) (.tmp 31) rfl w3.heap.size rfl (Q3 w3) (e:=g.e) (lv:=.slice A3 g.e.l.length c3) (p:=(g.p:Int)) (r:=g.r) rfl hone ?_;intro w4 hg4 hs4;have HG4:=Lh hs4;have HH4:=Lh hg4;have hs4':=hg4.size;simp only [Yf] at hs4';have HGA4:=Lh ((HG3.out.below ((Below.refl w3.heap.size w3).alloc nLe (.cells z8 138)) (by omega)).grown HH4.out (by intro e;injection e;omega));have HB4:=Lh (Qu (HB3.out.alloc HB3.out.size (.cells z8 138)) HH4.out (by omega) (by simp;omega));obtain ⟨m0,m1,m2,m3,m4,m5,m6,m7⟩:=hs4.six;clear hg4 hs4)
    | (refine Js rfl (.tmp 8) rfl w3.heap.size rfl HG4.out ?_)
    | (refine Qe rfl (.tmp 6) (.tmp 35) rfl (w.heap.size+1) rfl HGA4.out (e:=g.e) (lv:=.slice A3 g.e.l.length c3) (p:=(g.p:Int)) (r:=g.r) rfl hone ?_;intro w5 hg5 hs5;have HG5:=Lh hs5;have HB5:=Lh (Qu HB4.out hg5 (by omega) HB4.out.size);clear hg5 hs5)
    | fail)
   refine Jo (i:=6) (by kernel_rfl) rfl rfl HG5.out ⟨.slice A3 g.e.l.length c3,?_,?_,HB5.out⟩
   ·show Ending.returned (gV g.e _ (g.p:Int) g.r)=Ending.returned (gV Ex.nul _ (g.p:Int) g.r)
    rw [HNU.out]
   ·have h1:g.e.l=[]:=by rw [HNU.out];rfl
    rw [h1]
    exact .emp _ _
theorem Qgb(X:Ry)(f p:Nat)(w:World)(hp:p≤X.L.length)(h:X.In w w.heap.size)(hsg:(X.R.is p [33] || X.R.is p [45])=true) :
  CP 80 #[X.val,.int .i64 (p:Int),.int .i64 32] w (Yi w (rd X.R (f+1) .sg p 32)):=by
 have hz:=Q2
 have hln:=h.2.len
 rw [Qj9 hsg rfl]
 have HI:=Lh h
 have H2:=Lh (Qx X w)
 have HA:Hid (∀ W,Below w.heap.size w W→CP 51 #[X.val,.int .i64 (p:Int)] W fun e w'=>e=.returned (.string (X.R.wd p))∧Below W.heap.size W w'):=Lh fun W hW=>Qg X p W ((HI.out.up hW nLe).more hW.size) (by omega)
 have hor:((X.R.wd p).toList==[33])=true∨(((X.R.wd p).toList==[33])=false∧((X.R.wd p).toList==[45])=true):=by
  rcases Bool.or_eq_true_iff.1 hsg with h | h
  ·exact .inl h
  ·cases h3:X.R.is p [33] with
   | true=>exact .inl h3
   | false=>exact .inr ⟨h3,h⟩
 obtain ⟨s,hs⟩:∃ s,X.R.wd p=s:=⟨_,rfl⟩
 rw [hs] at HA hor
 clear h hs hsg
 obtain ⟨W1,hW1⟩:∃ W1,((w.alloc (.cells #[.string X.T,.slice X.A X.L.length X.c] 92)).alloc (.cells z8 138))=W1:=⟨_,rfl⟩
 rw [hW1] at H2
 have HW1:=Lh hW1
 have hs1:=H2.out.sz
 clear hW1
 rcases hor with h' | ⟨h',h''⟩
 all_goals
  go_enter Try.func80,Try.ntmps80
  go_wp2_with (first
   | (go_at_call 51;rw [HW1.out];refine (HA.out _ H2.out.be).mono ?_;rintro e w2 ⟨rfl,b2⟩;have HB2:=Lh (H2.out.be.trans (b2.mono H2.out.be.size));have HG2:=Lh (H2.out.ga.below b2 (by omega));obtain ⟨k0,k1⟩:=H2.out.row b2 (by omega);have hs2:=b2.size;clear b2;dsimp only)
   | (refine Qe rfl (.tmp 6) (.tmp 25) rfl (w.heap.size+1) rfl HG2.out (e:=Ex.nul) (lv:=.slice none 0 0) (p:=(p:Int)) (r:=12) rfl rfl ?_;intro w5 hg5 hs5;have HG5:=Lh hs5;have HB5:=Lh (Qu HB2.out hg5 (by omega) HB2.out.size);clear hg5 hs5)
   | fail)
  exact Jo (i:=6) (by kernel_rfl) rfl rfl HG5.out ⟨.slice none 0 0,rfl,.nil,HB5.out⟩
theorem Qgc(X:Ry)(f:Nat)(hS:RSgC X f)(hP:RPrC X f):RSgC X (f+1):=by
 intro d p w hd hp h hf
 cases hsg:(X.R.is p [33] || X.R.is p [45]) with
 | false=>exact Qkj X f hP d p w hd hp h hf hsg
 | true =>
  by_cases h32:d=32
  ·subst h32
   exact Qgb X f p w hp h hsg
  ·have hlt:p<X.L.length:=by
    rcases Bool.or_eq_true_iff.1 hsg with h | h
    ·exact (Qo X.T X.L).is_lt h
    ·exact (Qo X.T X.L).is_lt h
   exact Qhu X f hS d p w hd hlt h hf hsg h32
theorem rExpr6(X:Ry)(f:Nat)(hS:RSgC X f)(d p:Nat)(w:World)(hd:d≤32)(hp:p≤X.L.length)(h:X.In w w.heap.size)(hf:16*(X.L.length-p)+4≤f+1) :
  CP 70 #[X.val,.int .i64 (p:Int),.int .i64 6,.int .i64 (d:Int)] w (Yi w (rd X.R (f+1) (.lev 6) p d)):=by
 have hz:=Q2
 rw [Qee nLe]
 have HI:=Lh h
 have H2:=Lh (Qx X w)
 have HS:Hid (∀ W,Below w.heap.size w W→CP 80 #[X.val,.int .i64 (p:Int),.int .i64 (d:Int)] W (Yi W (rd X.R f .sg p d))):=Lh fun W hW=>hS d p W hd hp ((HI.out.up hW nLe).more hW.size) (by omega)
 obtain ⟨g,hg⟩:∃ g,rd X.R f .sg p d=g:=⟨_,rfl⟩
 rw [hg] at HS ⊢
 clear h hg
 obtain ⟨W1,hW1⟩:∃ W1,((w.alloc (.cells #[.string X.T,.slice X.A X.L.length X.c] 92)).alloc (.cells z8 138))=W1:=⟨_,rfl⟩
 rw [hW1] at H2
 have HW1:=Lh hW1
 have hs1:=H2.out.sz
 clear hW1 hS
 go_enter Try.func70,Try.ntmps70
 go_wp2_with (first
  | (go_at_call 80;rw [HW1.out];refine (HS.out _ H2.out.be).mono ?_;rintro e w3 ⟨lv,rfl,hx3,b3⟩;have hone:=hx3.one;have HX3:=Lh hx3;have HB3:=Lh (H2.out.be.trans (b3.mono H2.out.be.size));have HG3:=Lh (H2.out.ga.below b3 (by omega));have hs3:=b3.size;clear b3 hx3;dsimp only)
  | (refine Qe rfl (.tmp 8) (.tmp 16) rfl (w.heap.size+1) rfl HG3.out (e:=g.e) (lv:=lv) (p:=(g.p:Int)) (r:=g.r) rfl hone ?_;intro w4 hg4 hs4;have HG4:=Lh hs4;have HB4:=Lh (Qu HB3.out hg4 (by omega) HB3.out.size);have HX4:=Lh (HX3.out.grown hg4 (by intro b hb _ e;injection e with e;have hb:W1.heap.size≤b:=hb;omega));clear hg4 hs4)
  | fail)
 refine Jo (i:=8) (by kernel_rfl) rfl rfl HG4.out ⟨lv,rfl,?_,HB4.out⟩
 exact HX4.out.weak fun b hb _=>by have hb:W1.heap.size≤b:=hb;show w.heap.size≤b;omega
theorem rBad_any(T:ByteArray)(bs:List Int)(w:World)(hb:bts T=bs)(hm:T.size≤1000000) :
  CP 35 #[.string T] w fun e w'=>e=.returned (.int .i64 (if Qhk (Yr bs 0)=true then (Qfu (Yr bs 0)).2.1 else -1))∧Below w.heap.size w w':=by
 have hl:bs.length=T.size:=by rw [← hb,J3]
 have htl:=Qec bs bs.length 0 (by omega)
 have HA:Hid (∀ W,CP 49 #[.string T] W (Qft (U9 bs 0) W)):=Lh fun W=>Qdw T bs W hb hm
 have hfind:∀ L:List Tk,(if Qhk L=true then (Qfu L).2.1 else -1)=((L.find? fun t=>t.1==5).map (·.2.1)).getD (-1):=fun L=>by
  unfold Qhk Qfu
  cases L.find? fun t=>t.1==5 <;> rfl
 rw [hfind,bad_live bs]
 obtain ⟨v,hv⟩:∃ v,(((U9 bs 0).find? fun t=>t.1==5).map (·.2.1)).getD (-1)=v:=⟨_,rfl⟩
 rw [hv]
 have HV:=Lh hv
 clear hb hfind hv
 obtain ⟨n,hn⟩:∃ n,(U9 bs 0).length=n:=⟨_,rfl⟩
 rw [hn] at htl
 have HN:=Lh hn
 clear hn
 go_enter Try.func35,Try.ntmps35
 go_wp2_with (first
  | (go_at_call 49;refine (HA.out _).mono ?_;rintro e w2 ⟨v2,rfl,ho2,b2⟩;rw [HN.out] at ho2;obtain ⟨A2,c2,rfl⟩:=ho2.form;have HT2:=Lh (ho2.tok (by exact HN.out));have HB2:=Lh b2;clear b2 ho2)
  | fail)
 go_loopw [4] (fun iv wr=>∃ i:Nat,iv=.int .i64 (i:Int)∧i≤n∧(∀ t∈(U9 bs 0).take i,(t.1==5)=false)∧Below w2.heap.size w2 wr) (fun iv _=>n-(intOf iv).toNat)
 case atStart=>exact ⟨0,rfl,Nat.zero_le _,(fun t ht=>by cases ht),Below.refl _ _⟩
 case round =>
  obtain ⟨i,rfl,hi,hno,hb⟩:=hrel
  have HNO:=Lh hno
  have HB:=Lh hb
  clear hno hb
  by_cases hin:i<n
  ·obtain ⟨b,off,t,hA,hbU,ht,c0,c1,c2'⟩:=(HT2.out.up HB.out nLe).at hin
   subst hA
   obtain ⟨k,y,z⟩:=t
   dsimp only at c0 c1 c2'
   have HTT:=Lh ht
   have hsplit:(U9 bs 0)=(U9 bs 0).take i++(k,y,z)::(U9 bs 0).drop (i+1):=by
    obtain ⟨hlt,he⟩:=List.getElem?_eq_some_iff.1 ht
    rw [← he,← List.drop_eq_getElem_cons hlt,List.take_append_drop]
   have HSP:=Lh hsplit
   clear ht hsplit
   by_cases h5:k=5
   ·subst h5
    have HF:Hid (((U9 bs 0).find? fun t=>t.1==5)=some (5,y,z)):=Lh (by
     rw [HSP.out,List.find?_append,List.find?_eq_none.2 (fun t ht=>by rw [HNO.out t ht];decide)]
     rfl)
    have hy:v=y:=by rw [← HV.out,HF.out];rfl
    subst hy
    go_wp2
    go_ret
    exact ⟨rfl,HB2.out.trans (HB.out.mono HB2.out.size)⟩
   ·have h5':(k==5)=false:=by simp [h5]
    have h5'':decide (k=5)=false:=by simp [h5]
    go_wp2_with fail
    go_roundw
    case rel =>
     refine ⟨i+1,by go_num,hin,fun t ht=>?_,HB.out⟩
     rw [List.take_add_one,HTT.out] at ht
     rcases List.mem_append.1 ht with ht | ht
     ·exact HNO.out t ht
     ·rw [List.mem_singleton.1 ht];exact h5'
    case measure=>simp [intOf];omega
  ·obtain rfl:i=n:=by omega
   have HF:Hid (((U9 bs 0).find? fun t=>t.1==5)=none):=Lh (List.find?_eq_none.2 fun t ht=>by
    have h1:=HNO.out
    rw [← HN.out,List.take_length] at h1
    rw [h1 t ht];decide)
   have hy:v=-1:=by rw [← HV.out,HF.out];rfl
   subst hy
   go_wp2
   go_ret
   exact ⟨rfl,HB2.out.trans (HB.out.mono HB2.out.size)⟩
end Go.Proofs.Ytjoclbeoafeebaa
