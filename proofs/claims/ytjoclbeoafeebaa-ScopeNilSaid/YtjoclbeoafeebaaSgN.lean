import Derived.Test.YtjoclbeoafeebaaSq
import Derived.Test.YtjoclbeoafeebaaMEz
import Derived.Deep.DeepCutAuto
import Derived.Deep.MidRow
import Derived.Deep.RegionLaw
set_option maxHeartbeats 400000
namespace Go.Proofs.Ytjoclbeoafeebaa
set_option linter.unusedVariables false
set_option linter.unusedSimpArgs false
open Go.RowKit
variable {N:List ByteArray}
def Zg(l:List ByteArray)(s:ByteArray):Option Nat:=l.findIdx? fun t=>decide (t=s)
theorem Z3{l:List ByteArray}{s:ByteArray}:Zg l s=none↔s∉l:=by
 unfold Zg
 rw [List.findIdx?_eq_none_iff]
 constructor
 ·intro h hs
  have:=h s hs
  simp at this
 ·intro h x hx
  simp
  intro e
  exact h (e▸hx)
theorem Qgq{l:List ByteArray}{s:ByteArray}{i:Nat}(h:Zg l s=some i):∃ hi:i<l.length,l[i]=s:=by
 unfold Zg at h
 rw [List.findIdx?_eq_some_iff_getElem] at h
 obtain ⟨hi,h1,_⟩:=h
 exact ⟨hi,by simpa using h1⟩
theorem Qni{l:List ByteArray}{s:ByteArray}{i:Nat}(h:Zg l s=some i):i<l.length:=(Qgq h).1
theorem Qb4{l:List ByteArray}{s:ByteArray}(h:s∈l):∃ i,Zg l s=some i:=by
 cases e:Zg l s with
 | none=>exact absurd h (Z3.1 e)
 | some i=>exact ⟨i,rfl⟩
theorem opos_get{l:List ByteArray}(hd:l.Nodup){i:Nat}(hi:i<l.length):Zg l l[i]=some i:=by
 obtain ⟨j,hj⟩:=Qb4 (l:=l) (s:=l[i]) (List.getElem_mem _)
 obtain ⟨h1,h2⟩:=Qgq hj
 rw [hj]
 congr 1
 exact (List.getElem_inj hd).1 h2
theorem Qb5{l:List ByteArray}{s t:ByteArray}(h:s∉l):Zg (l++[s]) t=if t=s then some l.length else Zg l t:=by
 unfold Zg
 rw [List.findIdx?_append]
 by_cases e:t=s
 ·subst e
  rw [if_pos rfl]
  have:List.findIdx? (fun x=>decide (x=t)) l=none:=Z3.2 h
  rw [this]
  simp [List.findIdx?_cons]
 ·rw [if_neg e]
  have:List.findIdx? (fun x=>decide (x=t)) [s]=none:=by
   rw [List.findIdx?_eq_none_iff]
   intro x hx
   simp at hx
   subst hx
   simp
   exact fun h=>e h.symm
  rw [this]
  simp
theorem Qnj{s t:ByteArray}(h:s.data.toList=t.data.toList):s=t:=by
 apply ByteArray.ext
 apply Array.ext'
 exact h
theorem Qnk{a b:Int}(h:a=b):Ending.returned (.int .i64 a)=.returned (.int .i64 b):=by rw [h]
theorem Qcq{p q:Nat→Bool}:∀ {l:List Nat},(∀ x∈l,p x=true→q x=true)→(∃ y∈l,q y=true∧p y=false)→l.countP p<l.countP q
 | [],_,h=>by obtain ⟨y,hy,_⟩:=h;cases hy
 | a::l,h,hy=>by
  have hle:l.countP p≤l.countP q:=List.countP_mono_left (fun x hx=>h x (by simp [hx]))
  by_cases e:∃ y∈l,q y=true∧p y=false
  ·have:=Qcq (l:=l) (fun x hx=>h x (by simp [hx])) e
   rw [List.countP_cons,List.countP_cons]
   have ha:=h a (by simp)
   cases hp:p a <;> cases hq:q a <;> simp [hp,hq] at ha ⊢ <;> omega
  ·obtain ⟨y,hy,h1,h2⟩:=hy
   rcases List.mem_cons.1 hy with rfl | hy
   ·rw [List.countP_cons,List.countP_cons,h1,h2]
    simp
    omega
   ·exact absurd ⟨y,hy,h1,h2⟩ e
def Qks(S:Nat→Bool)(j:Nat):Nat→Bool:=fun k=>if k=j then true else S k
def Zl(N:List ByteArray)(s:ByteArray):Nat:=(Zg N s).getD 0
theorem K3{s:ByteArray}(h:s∈N):Zl N s<N.length:=by
 obtain ⟨i,hi⟩:=Qb4 h
 unfold Zl
 rw [hi]
 exact Qni hi
def Z0(l:List ByteArray):List Value:=l.map Value.string
theorem strs_at{l:List ByteArray}{k:Nat}{u:Value}(h:(Z0 l)[k]?=some u):u=.string (l.getD k ⟨#[]⟩):=by
 unfold Z0 at h
 rw [List.getElem?_map] at h
 cases e:l[k]? with
 | none=>rw [e] at h;cases h
 | some x=>rw [e] at h;cases h;simp [List.getD,e]
def Uu(l:List ByteArray)(s:ByteArray):Int:=match Zg l s with | some i=>(i:Int) | none=>-1
theorem Yg{l:List ByteArray}{s:ByteArray}(h:s∈l):Uu l s=(Zl l s:Int):=by
 obtain ⟨i,hi⟩:=Qb4 h
 unfold Uu Zl
 rw [hi]
 rfl
theorem Y2{l:List ByteArray}{s:ByteArray}(h:s∉l):Uu l s=-1:=by
 unfold Uu
 rw [Z3.2 h]
theorem Qd2{l:List ByteArray}{s:ByteArray}{k:Nat}(hk:k<l.length)(h:l[k]=s)(hno:∀ j (hj:j<k),l[j]'(by omega)≠s):Zg l s=some k:=by
 unfold Zg
 rw [List.findIdx?_eq_some_iff_getElem]
 exact ⟨hk,by simpa using h,fun j hj=>by simpa using hno j hj⟩
theorem Qbj{s t:ByteArray}:(s.toList==t.toList)=decide (s=t):=by
 rw [ByteArray.toList_eq,ByteArray.toList_eq]
 by_cases h:s=t
 ·subst h;simp
 ·have:¬ s.data.toList=t.data.toList:=fun e=>h (Qnj e)
  simp [h]
  intro e
  exact this (by rw [e])
theorem Z4(A:Option Addr)(n c:Nat)(l:List ByteArray)(s:ByteArray)(w:World)(U:Nat)(h:Sh w U A n (Z0 l))(hn:n≤maxLen) :
  CP 34 #[.slice A n c,.string s] w fun e w'=>e=.returned (.int .i64 (Uu l s))∧w=w':=by
 unfold maxLen at hn
 have hl:l.length=n:=by have:=h.len;simpa [Z0] using this
 have HL:=Lh hl
 clear hl
 go_enter Try.func34,Try.ntmps34
 go_wp2
 go_loopw [5] (fun i wr=>∃ k:Nat,i=.int .i64 (k:Int)∧k≤n∧Hid (∀ j,j<k→l.getD j ⟨#[]⟩≠s)∧wr=w) (fun i _=>n-(intOf i).toNat)
 case atStart=>exact ⟨0,rfl,Nat.zero_le _,Lh (fun j hj=>absurd hj (Nat.not_lt_zero _)),rfl⟩
 case round =>
  obtain ⟨k,rfl,hk,HNO,rfl⟩:=hrel
  by_cases hlt:k<n
  ·obtain ⟨b,off,u,rfl,hb,hu,hc⟩:=h.at hlt
   rw [strs_at hu] at hc
   have hkl:k<l.length:=by rw [HL.out];exact hlt
   have hg:∀ j (hj:j<l.length),l.getD j ⟨#[]⟩=l[j]:=fun j hj=>by simp [List.getD,hj]
   have HE:=Lh (fun e:l.getD k ⟨#[]⟩=s=>(by
    unfold Uu
    rw [Qd2 hkl (by rw [← hg k hkl];exact e) (fun j hj=>by rw [← hg j (by omega)];exact HNO.out j hj)]:Uu l s=(k:Int)))
   obtain ⟨x,hx⟩:∃ x,l.getD k ⟨#[]⟩=x:=⟨_,rfl⟩
   rw [hx] at hc HE
   have HX:=Lh hx
   clear hx hu hg
   by_cases e:x=s
   ·subst e
    have ht:(x.toList==x.toList)=true:=by simp
    have HR:=Lh (HE.out rfl)
    go_wp2
    go_ret
    exact ⟨Qnk HR.out.symm,rfl⟩
   ·have ht:(x.toList==s.toList)=false:=by rw [Qbj];simpa using e
    have HN2:=Lh (show ∀ j,j<k+1→l.getD j ⟨#[]⟩≠s from fun j hj=>by
     rcases Nat.lt_or_ge j k with h | h
     ·exact HNO.out j h
     ·obtain rfl:j=k:=by omega
      rw [HX.out];exact e)
    clear e
    go_wp2
    go_roundw
    case rel=>exact ⟨k+1,by go_num,hlt,HN2,(by trivial)⟩
    case measure=>simp [intOf];omega
  ·obtain rfl:k=n:=by omega
   have HR:=Lh (show Uu l s=-1 from Y2 fun hm=>by
    obtain ⟨j,hj,e⟩:=List.getElem_of_mem hm
    have:=HNO.out j (by rw [← HL.out];exact hj)
    apply this
    simp [List.getD,hj,e])
   go_wp2
   go_ret
   exact ⟨Qnk HR.out.symm,rfl⟩
def Ys(n:Nat)(S:Nat→Bool):List Value:=(List.range n).map fun j=>Value.bool (S j)
theorem Qnl(n:Nat)(S:Nat→Bool):(Ys n S).length=n:=by simp [Ys]
theorem Qjl{n:Nat}{S:Nat→Bool}{k:Nat}{u:Value}(h:(Ys n S)[k]?=some u):u=.bool (S k):=by
 unfold Ys at h
 rw [List.getElem?_map] at h
 cases e:(List.range n)[k]? with
 | none=>rw [e] at h;cases h
 | some x =>
  rw [e] at h
  obtain ⟨_,e⟩:=List.getElem?_eq_some_iff.1 e
  simp at e
  cases h
  rw [e]
theorem Qgr(n:Nat)(S:Nat→Bool){k:Nat}(hk:k<n):(Ys n S).set k (.bool true)=Ys n (Qks S k):=by
 apply List.ext_getElem?
 intro j
 rw [List.getElem?_set,Qnl]
 unfold Ys
 rw [List.getElem?_map,List.getElem?_map]
 by_cases hj:j<n
 ·rw [List.getElem?_range hj]
  unfold Qks
  by_cases e:k=j
  ·subst e;simp [hj]
  ·rw [if_neg e]
   have e':¬ j=k:=fun h=>e h.symm
   simp [e']
 ·have:(List.range n)[j]?=none:=List.getElem?_eq_none (by simp;omega)
  rw [this]
  by_cases e:k=j
  ·subst e;omega
  ·rw [if_neg e];rfl
theorem Own.set1q{w:World}{B n size g c:Nat}{e:TypeId}{xs:List Value}(h:Own w B e size (.slice (some ⟨g,0,none⟩) n c) n xs)(j:Nat)(hj:j<n*size)(u:Value):Own (w.setCell ⟨g,j,none⟩ u) B e size (.slice (some ⟨g,0,none⟩) n c) n (xs.set j u):=by
 refine ⟨⟨by rw [List.length_set];exact h.1.1,?_⟩,by simpa using h.2⟩
 rcases h.1.2 with ⟨e1,e2⟩ | ⟨g',cap,cur,e1,h1,h2,h3,h4,h5,h6⟩
 ·cases e1
 ·injection e1 with a1 a2 a3
  injection a1 with a1
  injection a1 with a1
  subst a1
  subst a3
  refine .inr ⟨g,c,cur.setIfInBounds j u,rfl,h1,heap_setCell_same w g j cur e u h2,h3,h4,by simpa using h5,?_⟩
  rw [← h6,Array.toList_setIfInBounds,List.take_set]
theorem rowBo:Kq Try.prog 87 4 1 1:=Kq.mk (z:=.bool false) Try.underlying87 (by kernel_rfl) rfl (by omega)
theorem Qkt(n:Nat):(madeCells (Value.bool false).cells (n*1)).toList=Ys n (fun _=>false):=by
 unfold madeCells Ys
 rw [Nat.mul_one,Array.toList_map,Array.toList_range]
 refine List.map_congr_left fun i _=>?_
 have:i % (Value.bool false).cells.size=0:=Nat.mod_one i
 rw [this]
 rfl
theorem Qd3(w:World)(m:Nat)(hm:m≤1000000):∃ w1,(Instr.makeSlice 87 (.int .i64 (m:Int)) (.int .i64 (m:Int))).run Try.prog w=.ok (.slice (some ⟨w.heap.size,0,none⟩) m m) w1∧Own w1 w.heap.size 4 1 (.slice (some ⟨w.heap.size,0,none⟩) m m) m (Ys m (fun _=>false))∧Below w.heap.size w w1:=by
 obtain ⟨ht,i,z,hi,hz,hsize,hbytes,hzs,hpos⟩:=rowBo
 have hzz:z=.bool false:=by
  have h:(Try.prog.info? 4).map (fun i=>i.zero)=some (some (.bool false)):=by kernel_rfl
  rw [hi] at h
  simp only [Option.map_some,Option.some.injEq] at h
  rw [hz] at h
  exact Option.some.inj h
 obtain ⟨w1,hr,ho,hg⟩:=run_makeSlice_full (P:=Try.prog) (w:=w) w.heap.size 87 4 i z 1 ht hi hz hsize .i64 .i64 m (by omega) (by rw [hbytes];omega) (by unfold maxLen;omega) nLe
 rw [hzz,Qkt] at ho
 exact ⟨w1,hr,⟨ho,hg.size⟩,bRf.grown hg nLe (fun k hk=>by cases hk)⟩
end Go.Proofs.Ytjoclbeoafeebaa
namespace Go.Proofs.Ytjoclbeoafeebaa
set_option linter.unusedVariables false
set_option linter.unusedSimpArgs false
/-! ### numbers with pairs between -/
def g1(S:Nat→Bool)(p:Nat×Nat):Nat→Bool:=if S p.1=true then Qks S p.2 else S
def Yq(E:List (Nat×Nat))(S:Nat→Bool):Nat→Bool:=E.foldl g1 S
def Jb(E:List (Nat×Nat))(f:Nat):Nat→Nat→Bool
 | 0=>fun k=>decide (k=f)
 | t+1=>Yq E (Jb E f t)
inductive Gr (E:List (Nat×Nat)):Nat→Nat→Prop
 | refl (a:Nat):Gr E a a
 | step {a b c:Nat}:Gr E a b→(b,c)∈E→Gr E a c
theorem Gr.trans{E:List (Nat×Nat)}{a b c:Nat}(h:Gr E a b)(k:Gr E b c):Gr E a c:=by
 induction k with
 | refl=>exact h
 | step _ hp ih=>exact .step ih hp
section
variable {E:List (Nat×Nat)} {n:Nat}
theorem Qnm{S:Nat→Bool}{p:Nat×Nat}{j:Nat}(h:S j=true):g1 S p j=true:=by
 unfold g1 Qks
 split
 ·dsimp only
  split
  ·rfl
  ·exact h
 ·exact h
theorem Ue:∀ {l:List (Nat×Nat)} {S:Nat→Bool} {j:Nat},S j=true→Yq l S j=true
 | [],_,_,h=>h
 | p::l,S,j,h=>Ue (l:=l) (Qnm h)
theorem Qgs:∀ {l:List (Nat×Nat)} {S:Nat→Bool} {p:Nat×Nat},p∈l→S p.1=true→Yq l S p.2=true
 | q::l,S,p,hp,h=>by
  rcases List.mem_cons.1 hp with rfl | hp
  ·refine Ue (l:=l) ?_
   unfold g1 Qks
   rw [if_pos h]
   simp
  ·exact Qgs (l:=l) hp (Qnm h)
 | [],_,_,hp,_=>by cases hp
theorem Qcr{a:Nat}:∀ {r:List (Nat×Nat)} {S:Nat→Bool},(∀ p∈r,p∈E)→(∀ j,S j=true→Gr E a j)→∀ j,Yq r S j=true→Gr E a j
 | [],S,_,h,j,hs=>h j hs
 | p::r,S,hr,h,j,hs=>by
  refine Qcr (r:=r) (S:=g1 S p) (fun q hq=>hr q (by simp [hq])) (fun k hk=>?_) j hs
  unfold g1 Qks at hk
  split at hk
  ·rename_i hc
   dsimp only at hk
   split at hk
   ·rename_i he
    rw [he]
    exact .step (h _ hc) (hr p (by simp))
   ·exact h k hk
  ·exact h k hk
def Gshut(E:List (Nat×Nat))(S:Nat→Bool):Prop:=∀ p∈E,S p.1=true→S p.2=true
theorem g1_shut{S:Nat→Bool}{p:Nat×Nat}(h:S p.1=true→S p.2=true):g1 S p=S:=by
 unfold g1
 split
 ·rename_i hc
  funext k
  unfold Qks
  split
  ·rename_i e;rw [e];exact (h hc).symm
  ·rfl
 ·rfl
theorem Qa8:∀ {r:List (Nat×Nat)} {S:Nat→Bool},(∀ p∈r,S p.1=true→S p.2=true)→Yq r S=S
 | [],_,_=>rfl
 | p::r,S,h=>by
  show Yq r (g1 S p)=S
  rw [g1_shut (h p (by simp))]
  exact Qa8 (r:=r) fun q hq=>h q (by simp [hq])
theorem Qcs(hE:∀ p∈E,p.2<n){f:Nat}(hf:f<n):∀ t,t+1≤(List.range n).countP (Jb E f t)∨Gshut E (Jb E f t)
 | 0=>.inl (by
  have:0<(List.range n).countP (Jb E f 0):=List.countP_pos_iff.2 ⟨f,List.mem_range.2 hf,by simp [Jb]⟩
  omega)
 | t+1=>by
  rcases Qcs hE hf t with h | h
  ·by_cases hs:Gshut E (Jb E f t)
   ·refine .inr ?_
    rw [Jb,Qa8 hs]
    exact hs
   ·refine .inl ?_
    have:∃ p∈E,Jb E f t p.1=true∧Jb E f t p.2=false:=by
     refine Classical.byContradiction fun hn=>hs fun p hp h1=>?_
     cases hx:Jb E f t p.2 with
     | true=>rfl
     | false=>exact absurd ⟨p,hp,h1,hx⟩ hn
    obtain ⟨p,hp,h1,h3⟩:=this
    have:=Qcq (p:=Jb E f t) (q:=Jb E f (t+1)) (l:=List.range n) (fun x _ hx=>Ue hx) ⟨p.2,List.mem_range.2 (hE p hp),Qgs hp h1,h3⟩
    omega
  ·refine .inr ?_
   rw [Jb,Qa8 h]
   exact h
theorem Qct{f:Nat}{j:Nat}:∀ t,Jb E f 0 j=true→Jb E f t j=true
 | 0,h=>h
 | t+1,h=>Ue (Qct t h)
theorem Qbk{f:Nat}:∀ t j,Jb E f t j=true→Gr E f j
 | 0,j,h=>by
  simp [Jb] at h
  subst h
  exact .refl _
 | t+1,j,h=>Qcr (fun p hp=>hp) (fun k h=>Qbk t k h) j h
theorem Yj(hE:∀ p∈E,p.2<n){f:Nat}(hf:f<n){j:Nat}:Jb E f n j=true↔Gr E f j:=by
 refine ⟨Qbk _ j,fun h=>?_⟩
 have hs:Gshut E (Jb E f n):=by
  rcases Qcs hE hf n with h | h
  ·have:=List.countP_le_length (p:=Jb E f n) (l:=List.range n)
   rw [List.length_range] at this
   omega
  ·exact h
 induction h with
 | refl=>exact Qct _ (by simp [Jb])
 | step _ hp ih=>exact hs _ hp ih
end
/-! ### the order: of those that may come next the least one -/
def Y3(E:List (Nat×Nat))(D:List Nat)(i:Nat):Bool:=!D.contains i&&E.all fun p=>!(p.1==i) || D.contains p.2
def Qde(E:List (Nat×Nat))(n:Nat)(D:List Nat):List Nat:=match (List.range n).find? (Y3 E D) with | some i=>D++[i] | none=>D
def Qcu(E:List (Nat×Nat))(n:Nat):Nat→List Nat
 | 0=>[]
 | t+1=>Qde E n (Qcu E n t)
section
variable {E:List (Nat×Nat)} {n:Nat}
theorem Qan{D:List Nat}{i:Nat}:Y3 E D i=true↔i∉D∧∀ p∈E,p.1=i→p.2∈D:=by
 unfold Y3
 simp only [Bool.and_eq_true,Bool.not_eq_true',List.all_eq_true,Bool.or_eq_true,List.contains_iff_mem,beq_eq_false_iff_ne,ne_eq,Bool.eq_false_iff]
 constructor
 ·rintro ⟨h1,h2⟩
  refine ⟨fun h=>h1 (by simpa using h),fun p hp e=>?_⟩
  rcases h2 p hp with h | h
  ·exact absurd e (by simpa using h)
  ·exact h
 ·rintro ⟨h1,h2⟩
  refine ⟨fun h=>h1 (by simpa using h),fun p hp=>?_⟩
  by_cases e:p.1=i
  ·exact .inr (h2 p hp e)
  ·exact .inl (by simpa using e)
def Gacyc(E:List (Nat×Nat)):Prop:=∀ p∈E,¬ Gr E p.2 p.1
def gcnt(E:List (Nat×Nat))(n i:Nat):Nat:=(List.range n).countP (Jb E i n)
theorem gcnt_lt(hE:∀ p∈E,p.1<n∧p.2<n)(ha:Gacyc E){p:Nat×Nat}(hp:p∈E):gcnt E n p.2<gcnt E n p.1:=by
 have hE2:∀ p∈E,p.2<n:=fun p hp=>(hE p hp).2
 obtain ⟨h1,h2⟩:=hE p hp
 refine Qcq (fun x _ hx=>?_) ⟨p.1,List.mem_range.2 h1,?_,?_⟩
 ·rw [Yj hE2 h2] at hx
  rw [Yj hE2 h1]
  exact (Gr.step (.refl _) hp).trans hx
 ·rw [Yj hE2 h1]
  exact .refl _
 ·rw [Bool.eq_false_iff]
  intro h
  rw [Yj hE2 h2] at h
  exact ha p hp h
theorem Qjm(hE:∀ p∈E,p.1<n∧p.2<n)(ha:Gacyc E){D:List Nat}:∀ (m i:Nat),gcnt E n i≤m→i<n→i∉D→∃ j,j<n∧Y3 E D j=true
 | m,i,hm,hi,hd=>by
  by_cases hf:Y3 E D i=true
  ·exact ⟨i,hi,hf⟩
  ·have:∃ p∈E,p.1=i∧p.2∉D:=by
    refine Classical.byContradiction fun hn=>hf (Qan.2 ⟨hd,fun p hp e=>?_⟩)
    exact Classical.byContradiction fun hx=>hn ⟨p,hp,e,hx⟩
   obtain ⟨p,hp,rfl,hx⟩:=this
   have hlt:=gcnt_lt hE ha hp
   cases m with
   | zero=>omega
   | succ m=>exact Qjm hE ha m p.2 (by omega) (hE p hp).2 hx
theorem Qgt:∀ {l m:List Nat},l.Nodup→(∀ s∈l,s∈m)→l.length≤m.length
 | [],m,_,_=>Nat.zero_le _
 | s::l,m,hd,h=>by
  obtain ⟨h1,h2⟩:=List.nodup_cons.1 hd
  have:=Qgt (l:=l) (m:=m.erase s) h2 (fun t ht=>(List.mem_erase_of_ne (fun (e:t=s)=>h1 (by rw [← e];exact ht))).2 (h t (by simp [ht])))
  have hs:=h s (by simp)
  rw [List.length_erase_of_mem hs] at this
  have:=List.length_pos_of_mem hs
  simp
  omega
theorem Qnn{D:List Nat}(hd:D.Nodup)(hD:∀ i∈D,i<n)(hl:D.length<n):∃ i,i<n∧i∉D:=by
 refine Classical.byContradiction fun hn=>?_
 have hs:∀ i∈List.range n,i∈D:=fun i hi=>Classical.byContradiction fun hx=>hn ⟨i,List.mem_range.1 hi,hx⟩
 have:=Qgt (List.nodup_range (n:=n)) hs
 rw [List.length_range] at this
 omega
structure Gord (E:List (Nat×Nat)) (n:Nat) (D:List Nat):Prop where
 nd:D.Nodup
 lt:∀ i∈D,i<n
 top:∀ a b:List Nat,∀ i,D=a++i::b→∀ p∈E,p.1=i→p.2∈a
theorem Qno(hE:∀ p∈E,p.1<n∧p.2<n)(ha:Gacyc E):∀ t,t≤n→Gord E n (Qcu E n t)∧(Qcu E n t).length=t
 | 0,_=>⟨⟨List.nodup_nil,(fun i hi=>by cases hi),(fun a b i h=>by cases a <;> cases h)⟩,rfl⟩
 | t+1,ht=>by
  obtain ⟨h,hl⟩:=Qno hE ha t (by omega)
  obtain ⟨i,hi,hx⟩:=Qnn h.nd h.lt (by omega)
  obtain ⟨j,hj,hf⟩:=Qjm hE ha _ i nLe hi hx
  rw [Qcu]
  unfold Qde
  cases hfd:(List.range n).find? (Y3 E (Qcu E n t)) with
  | none =>
   have:=List.find?_eq_none.1 hfd j (List.mem_range.2 hj)
   exact absurd hf this
  | some k =>
   dsimp only
   have hk:=List.mem_range.1 (List.mem_of_find?_eq_some hfd)
   have hkf:=List.find?_some hfd
   obtain ⟨k1,k2⟩:=Qan.1 hkf
   refine ⟨⟨?_,?_,?_⟩,by simp [hl]⟩
   ·rw [List.nodup_append]
    exact ⟨h.nd,by simp,fun a ha b hb=>by
     simp at hb
     subst hb
     exact fun e=>k1 (e▸ha)⟩
   ·intro x hx
    rcases List.mem_append.1 hx with hx | hx
    ·exact h.lt x hx
    ·rw [List.mem_singleton.1 hx];exact hk
   ·intro a b x he p hp e
    rcases List.eq_nil_or_concat b with rfl | ⟨b',y,rfl⟩
    ·have:=List.append_inj' he rfl
     obtain ⟨rfl,e2⟩:=this
     cases e2
     exact k2 p hp e
    ·have e3:Qcu E n t++[k]=(a++x::b')++[y]:=by rw [he];simp
     obtain ⟨e4,_⟩:=List.append_inj' e3 rfl
     exact h.top a b' x e4 p hp e
theorem Gord.apart{D:List Nat}(h:Gord E n D){a b:Nat}(hab:a<b){i k:Nat}(hi:D[a]?=some i)(hk:D[b]?=some k):(i,k)∉E:=by
 intro hp
 have hla:a<D.length:=(List.getElem?_eq_some_iff.1 hi).1
 have hlb:b<D.length:=(List.getElem?_eq_some_iff.1 hk).1
 have e:D=D.take a++i::D.drop (a+1):=by
  have:=List.getElem?_eq_some_iff.1 hi
  rw [← this.2,List.getElem_cons_drop]
  exact (List.take_append_drop a D).symm
 have hm:=h.top _ _ _ e _ hp rfl
 obtain ⟨c,hc,e2⟩:=List.getElem_of_mem hm
 rw [List.length_take] at hc
 rw [List.getElem_take] at e2
 have e3:=(List.getElem?_eq_some_iff.1 hk).2
 exact (List.pairwise_iff_getElem.1 h.nd) c b (by omega) hlb (by omega) (e2.trans e3.symm)
end
abbrev SNm:=ByteArray×Int
structure SMd where
 im:List SNm
 hl:Bool
 he:Bool
 vs:List SNm
 fs:List SNm
abbrev Qb6:=Nat×Int×Int
def sc1:List ByteArray→List ByteArray→Nat→Option Qb6
 | _,[],_=>none
 | D,s::r,i=>if idB s=true then if (Zg D s).isSome=true then some (i,0,7) else sc1 (D++[s]) r (i+1) else some (i,0,13)
def Qe7(N:List ByteArray):List ByteArray→List SNm→Option (Int×Int)
 | _,[]=>none
 | D,x::r=>if (Zg N x.1).isSome=true then if (Zg D x.1).isSome=true then some (x.2,7) else Qe7 N (D++[x.1]) r else some (x.2,13)
def sc2(N:List ByteArray):List SMd→Nat→Option Qb6
 | [],_=>none
 | m::r,i=>match Qe7 N [] m.im with
  | some b=>some (i,b)
  | none=>sc2 N r (i+1)
def edg(N:List ByteArray)(M:List SMd):List (Nat×Nat):=M.zipIdx.flatMap fun q=>q.1.im.map fun x=>(q.2,Zl N x.1)
def Qfk(E:List (Nat×Nat))(n:Nat)(N:List ByteArray)(i:Nat):List SNm→Option (Int×Int)
 | []=>none
 | x::r=>if Jb E (Zl N x.1) n i=true then some (x.2,14) else Qfk E n N i r
def sc3(E:List (Nat×Nat))(n:Nat)(N:List ByteArray):List SMd→Nat→Option Qb6
 | [],_=>none
 | m::r,i=>match Qfk E n N i m.im with
  | some b=>some (i,b)
  | none=>sc3 E n N r (i+1)
def nth(p:SMd→Bool):List SMd→Nat→Nat→Int
 | [],_,_=>-1
 | m::r,i,k=>if p m=true then if i=0 then (k:Int) else nth p r (i-1) (k+1) else nth p r i (k+1)
def Qbr:List ByteArray→List SNm→Option (Int×Int)
 | _,[]=>none
 | D,x::r=>if (Zg D x.1).isSome=true then some (x.2,7) else Qbr (D++[x.1]) r
def sc5:List SMd→Nat→Option Qb6
 | [],_=>none
 | m::r,i=>match Qbr [] (m.vs++m.fs) with
  | some b=>some (i,b)
  | none=>sc5 r (i+1)
def Zk(N:List ByteArray)(M:List SMd):Option Qb6:=
 match sc1 [] N 0 with
 | some b=>some b
 | none=>match sc2 N M 0 with
  | some b=>some b
  | none=>sc3 (edg N M) M.length N M 0
def Qe8(N:List ByteArray)(M:List SMd):Option Qb6:=
 if N.length=M.length∧M.length≠0∧M.length≤64 then
  match Zk N M with
  | some b=>some b
  | none=>if nth SMd.hl M 0 0<0 then some (0,0,17) else if 0≤nth SMd.hl M 1 0 then some ((nth SMd.hl M 1 0).toNat,0,17)
   else if 0≤nth SMd.he M 1 0 then some ((nth SMd.he M 1 0).toNat,0,7) else sc5 M 0
 else some (0,0,1)
def Uq:Option Qb6→Int×Int×Int
 | none=>(0,0,0)
 | some (i,a,e)=>((i:Int),a,e)
theorem Qy{D:List ByteArray}{s:ByteArray}:(Zg D s).isSome=true↔s∈D:=by
 constructor
 ·intro h
  refine Classical.byContradiction fun hn=>?_
  rw [Z3.2 hn] at h
  cases h
 ·intro h
  obtain ⟨i,hi⟩:=Qb4 h
  rw [hi]
  rfl
theorem sc1_e:∀ {r D:List ByteArray} {i:Nat} {b:Qb6},sc1 D r i=some b→b.2.2≠0
 | [],D,i,b,h=>by cases h
 | s::r,D,i,b,h=>by
  unfold sc1 at h
  split at h
  ·split at h
   ·cases h;(first | exact (by decide:(7:Int)≠0) | exact (by decide:(13:Int)≠0) | exact (by decide:(14:Int)≠0) | exact (by decide:(17:Int)≠0) | exact (by decide:(1:Int)≠0))
   ·exact sc1_e h
  ·cases h;(first | exact (by decide:(7:Int)≠0) | exact (by decide:(13:Int)≠0) | exact (by decide:(14:Int)≠0) | exact (by decide:(17:Int)≠0) | exact (by decide:(1:Int)≠0))
theorem sc2k_e{N:List ByteArray}:∀ {r:List SNm} {D:List ByteArray} {b:Int×Int},Qe7 N D r=some b→b.2≠0
 | [],D,b,h=>by cases h
 | s::r,D,b,h=>by
  unfold Qe7 at h
  split at h
  ·split at h
   ·cases h;(first | exact (by decide:(7:Int)≠0) | exact (by decide:(13:Int)≠0) | exact (by decide:(14:Int)≠0) | exact (by decide:(17:Int)≠0) | exact (by decide:(1:Int)≠0))
   ·exact sc2k_e h
  ·cases h;(first | exact (by decide:(7:Int)≠0) | exact (by decide:(13:Int)≠0) | exact (by decide:(14:Int)≠0) | exact (by decide:(17:Int)≠0) | exact (by decide:(1:Int)≠0))
theorem sc2_e{N:List ByteArray}:∀ {M:List SMd} {i:Nat} {b:Qb6},sc2 N M i=some b→b.2.2≠0
 | [],i,b,h=>by cases h
 | m::r,i,b,h=>by
  unfold sc2 at h
  cases hk:Qe7 N [] m.im with
  | some c=>rw [hk] at h;cases h;exact sc2k_e hk
  | none=>rw [hk] at h;exact sc2_e h
theorem sc3k_e{E:List (Nat×Nat)}{n i:Nat}{N:List ByteArray}:∀ {r:List SNm} {b:Int×Int},Qfk E n N i r=some b→b.2≠0
 | [],b,h=>by cases h
 | s::r,b,h=>by
  unfold Qfk at h
  split at h
  ·cases h;(first | exact (by decide:(7:Int)≠0) | exact (by decide:(13:Int)≠0) | exact (by decide:(14:Int)≠0) | exact (by decide:(17:Int)≠0) | exact (by decide:(1:Int)≠0))
  ·exact sc3k_e h
theorem sc3_e{E:List (Nat×Nat)}{n:Nat}{N:List ByteArray}:∀ {M:List SMd} {i:Nat} {b:Qb6},sc3 E n N M i=some b→b.2.2≠0
 | [],i,b,h=>by cases h
 | m::r,i,b,h=>by
  unfold sc3 at h
  cases hk:Qfk E n N i m.im with
  | some c=>rw [hk] at h;cases h;exact sc3k_e hk
  | none=>rw [hk] at h;exact sc3_e h
theorem Qd4{N:List ByteArray}{M:List SMd}{b:Qb6}(h:Zk N M=some b):b.2.2≠0:=by
 unfold Zk at h
 cases h1:sc1 [] N 0 with
 | some c=>rw [h1] at h;cases h;exact sc1_e h1
 | none =>
  rw [h1] at h
  cases h2:sc2 N M 0 with
  | some c=>rw [h2] at h;cases h;exact sc2_e h2
  | none=>rw [h2] at h;exact sc3_e h
theorem sc5k_e:∀ {r:List SNm} {D:List ByteArray} {b:Int×Int},Qbr D r=some b→b.2≠0
 | [],D,b,h=>by cases h
 | s::r,D,b,h=>by
  unfold Qbr at h
  split at h
  ·cases h;(first | exact (by decide:(7:Int)≠0) | exact (by decide:(13:Int)≠0) | exact (by decide:(14:Int)≠0) | exact (by decide:(17:Int)≠0) | exact (by decide:(1:Int)≠0))
  ·exact sc5k_e h
theorem sc5_e:∀ {M:List SMd} {i:Nat} {b:Qb6},sc5 M i=some b→b.2.2≠0
 | [],i,b,h=>by cases h
 | m::r,i,b,h=>by
  unfold sc5 at h
  cases hk:Qbr [] (m.vs++m.fs) with
  | some c=>rw [hk] at h;cases h;exact sc5k_e hk
  | none=>rw [hk] at h;exact sc5_e h
theorem newS_e{N:List ByteArray}{M:List SMd}{b:Qb6}(h:Qe8 N M=some b):b.2.2≠0:=by
 unfold Qe8 at h
 split at h
 ·cases h1:Zk N M with
  | some c=>rw [h1] at h;cases h;exact Qd4 h1
  | none =>
   rw [h1] at h
   dsimp only at h
   split at h
   ·cases h;(first | exact (by decide:(7:Int)≠0) | exact (by decide:(13:Int)≠0) | exact (by decide:(14:Int)≠0) | exact (by decide:(17:Int)≠0) | exact (by decide:(1:Int)≠0))
   ·split at h
    ·cases h;(first | exact (by decide:(7:Int)≠0) | exact (by decide:(13:Int)≠0) | exact (by decide:(14:Int)≠0) | exact (by decide:(17:Int)≠0) | exact (by decide:(1:Int)≠0))
    ·split at h
     ·cases h;(first | exact (by decide:(7:Int)≠0) | exact (by decide:(13:Int)≠0) | exact (by decide:(14:Int)≠0) | exact (by decide:(17:Int)≠0) | exact (by decide:(1:Int)≠0))
     ·exact sc5_e h
 ·cases h;(first | exact (by decide:(7:Int)≠0) | exact (by decide:(13:Int)≠0) | exact (by decide:(14:Int)≠0) | exact (by decide:(17:Int)≠0) | exact (by decide:(1:Int)≠0))
/-! ### what holds of a scope -/
theorem sc1_nd:∀ {r D:List ByteArray} {i:Nat},sc1 D r i=none→D.Nodup→(D++r).Nodup∧∀ s∈r,idB s=true
 | [],D,i,h,hd=>⟨by simpa using hd,fun s hs=>by cases hs⟩
 | s::r,D,i,h,hd=>by
  unfold sc1 at h
  split at h
  ·rename_i h1
   split at h
   ·cases h
   ·rename_i h2
    rw [Qy] at h2
    obtain ⟨h3,h4⟩:=sc1_nd h (by
     rw [List.nodup_append]
     exact ⟨hd,by simp,fun a ha b hb=>by
      simp at hb
      subst hb
      exact fun e=>h2 (e▸ha)⟩)
    refine ⟨by rwa [List.append_assoc] at h3,fun t ht=>?_⟩
    rcases List.mem_cons.1 ht with rfl | ht
    ·exact h1
    ·exact h4 t ht
  ·cases h
theorem Qnp{N:List ByteArray}:∀ {r:List SNm} {D:List ByteArray},Qe7 N D r=none→∀ x∈r,x.1∈N
 | [],D,h,x,hx=>by cases hx
 | s::r,D,h,x,hx=>by
  unfold Qe7 at h
  split at h
  ·rename_i h1
   split at h
   ·cases h
   ·rcases List.mem_cons.1 hx with rfl | hx
    ·exact Qy.1 h1
    ·exact Qnp h x hx
  ·cases h
theorem Qjn{N:List ByteArray}:∀ {M:List SMd} {i:Nat},sc2 N M i=none→∀ m∈M,∀ x∈m.im,x.1∈N
 | [],i,h,m,hm=>by cases hm
 | m::r,i,h,m',hm=>by
  unfold sc2 at h
  cases hk:Qe7 N [] m.im with
  | some c=>rw [hk] at h;cases h
  | none =>
   rw [hk] at h
   rcases List.mem_cons.1 hm with rfl | hm
   ·exact Qnp hk
   ·exact Qjn h m' hm
theorem Qnq{E:List (Nat×Nat)}{n i:Nat}{N:List ByteArray}:∀ {r:List SNm},Qfk E n N i r=none→∀ x∈r,Jb E (Zl N x.1) n i=false
 | [],h,x,hx=>by cases hx
 | s::r,h,x,hx=>by
  unfold Qfk at h
  split at h
  ·cases h
  ·rename_i h1
   rcases List.mem_cons.1 hx with rfl | hx
   ·simpa using h1
   ·exact Qnq h x hx
theorem sc3_no{E:List (Nat×Nat)}{n:Nat}{N:List ByteArray}:∀ {M:List SMd} {i:Nat},sc3 E n N M i=none→∀ k m,M[k]?=some m→∀ x∈m.im,Jb E (Zl N x.1) n (i+k)=false
 | [],i,h,k,m,hm=>by cases hm
 | m::r,i,h,k,m',hm=>by
  unfold sc3 at h
  cases hk:Qfk E n N i m.im with
  | some c=>rw [hk] at h;cases h
  | none =>
   rw [hk] at h
   cases k with
   | zero=>cases hm;exact Qnq hk
   | succ k =>
    have:=sc3_no h k m' (by simpa using hm)
    rw [show i+(k+1)=i+1+k by omega]
    exact this
theorem K4{N:List ByteArray}{M:List SMd}{p:Nat×Nat}:p∈edg N M↔∃ m,M[p.1]?=some m∧∃ x∈m.im,p.2=Zl N x.1:=by
 unfold edg
 simp only [List.mem_flatMap,List.mem_map]
 constructor
 ·rintro ⟨⟨m,i⟩,hq,x,hx,rfl⟩
  have:=List.mem_zipIdx_iff_getElem?.1 hq
  exact ⟨m,this,x,hx,rfl⟩
 ·rintro ⟨m,hm,x,hx,e⟩
  exact ⟨(m,p.1),List.mem_zipIdx_iff_getElem?.2 hm,x,hx,by rw [← e]⟩
structure ScOk (N:List ByteArray) (M:List SMd):Prop where
 len:N.length=M.length
 pos:0<M.length
 h64:M.length≤64
 nd:N.Nodup
 id:∀ s∈N,idB s=true
 im:∀ m∈M,∀ x∈m.im,x.1∈N
 ac:Gacyc (edg N M)
theorem ScOk.edge{N:List ByteArray}{M:List SMd}(len:N.length=M.length)(im:∀ m∈M,∀ x∈m.im,x.1∈N):∀ p∈edg N M,p.1<M.length∧p.2<M.length:=fun p hp=>by
 obtain ⟨m,hm,x,hx,e⟩:=K4.1 hp
 refine ⟨(List.getElem?_eq_some_iff.1 hm).1,?_⟩
 rw [e,← len]
 exact K3 (im m (List.mem_of_getElem? hm) x hx)
theorem Qh9{N:List ByteArray}{M:List SMd}(h:Qe8 N M=none):ScOk N M:=by
 unfold Qe8 at h
 split at h
 ·rename_i hc
  obtain ⟨c1,c2,c3⟩:=hc
  cases h1:Zk N M with
  | some b=>rw [h1] at h;cases h
  | none =>
   unfold Zk at h1
   cases h2:sc1 [] N 0 with
   | some b=>rw [h2] at h1;cases h1
   | none =>
    rw [h2] at h1
    cases h3:sc2 N M 0 with
    | some b=>rw [h3] at h1;cases h1
    | none =>
     rw [h3] at h1
     dsimp only at h1
     obtain ⟨n1,n2⟩:=sc1_nd h2 List.nodup_nil
     have hi:=Qjn h3
     refine ⟨c1,by omega,c3,by simpa using n1,n2,hi,fun p hp hg=>?_⟩
     obtain ⟨m,hm,x,hx,e⟩:=K4.1 hp
     have hno:=sc3_no h1 p.1 m hm x hx
     rw [Nat.zero_add,← e,Bool.eq_false_iff] at hno
     exact hno ((Yj (fun q hq=>(ScOk.edge c1 hi q hq).2) ((ScOk.edge c1 hi p hp).2)).2 hg)
 ·cases h
def Qnr(N:List ByteArray)(M:List SMd):List Nat:=Qcu (edg N M) M.length M.length
theorem ScOk.ord{N:List ByteArray}{M:List SMd}(h:ScOk N M):Gord (edg N M) M.length (Qnr N M)∧(Qnr N M).length=M.length:=
 Qno (ScOk.edge h.len h.im) h.ac _ nLe
theorem ScOk.apart{N:List ByteArray}{M:List SMd}(h:ScOk N M){a b:Nat}(hab:a<b){i k:Nat}(hi:(Qnr N M)[a]?=some i)(hk:(Qnr N M)[b]?=some k){m:SMd}(hm:M[i]?=some m){x:SNm}(hx:x∈m.im){s:ByteArray}(hs:N[k]?=some s):x.1≠s:=by
 intro e
 refine (h.ord.1.apart hab hi hk) (K4.2 ⟨m,hm,x,hx,?_⟩)
 obtain ⟨hk2,rfl⟩:=List.getElem?_eq_some_iff.1 hs
 unfold Zl
 rw [e,opos_get h.nd hk2]
 rfl
/-! ### names -/
def Qa9(l:List UInt8):Option Nat:=l.findIdx? fun b=>decide (b=46)
def Qcv(N:List ByteArray)(M:List SMd)(m:SMd)(file:Nat)(s:ByteArray):Option (Nat×ByteArray):=
 match Qa9 s.data.toList with
 | none=>some (file,s)
 | some d=>if (m.im.any fun x=>decide (x.1=s.extract 0 d))=true then some (Zl N (s.extract 0 d),s.extract (d+1) s.size) else none
def Qbl(l:List SNm)(s:ByteArray):Option Nat:=Zg (l.map (·.1)) s
def Ju(sel:SMd→List SNm)(N:List ByteArray)(M:List SMd)(file:Int)(s:ByteArray):Option (Nat×Nat):=
 if 0≤file then match M[file.toNat]? with
  | none=>none
  | some m=>match Qcv N M m file.toNat s with
   | none=>none
   | some (i,x)=>match M[i]? with
    | none=>none
    | some q=>match Qbl (sel q) x with
     | none=>none
     | some k=>some (i,k)
 else none
end Go.Proofs.Ytjoclbeoafeebaa
