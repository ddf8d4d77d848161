import Derived.Test.YtjoclbeoafeebaaSq
import Derived.Test.YtjoclbeoafeebaaMem
import Derived.Deep.RegionHeld3
import Derived.Great.FillDense
import Derived.Great.BuildSlice
import Derived.Deep.MidRow
namespace Go.Proofs.Ytjoclbeoafeebaa
set_option linter.unusedVariables false
set_option linter.unusedSimpArgs false
open Go.RowKit
section
variable {P:Program} {ops:Array Oper} {Q:Exit→Act→World→Prop} {md:Region.Mode} {S:World→Prop} {z:Nat}
def Qht(md:Region.Mode)(ops:Array Oper)(ls:Array Bool):Prop:=∀ k o,ops[k]?=some o→ls.getD k false=true→∀ e∈o.after,Region.binds md e=true→ls.getD e.on false=true
theorem Qht.start(n:Nat):Qht md ops (Array.replicate n false):=fun k o _ h=>by
 rcases Nat.lt_or_ge k n with h' | h'
 ·simp [Array.getD,h'] at h
 ·simp [Array.getD] at h
theorem Qht.set{ls:Array Bool}(h:Qht md ops ls){j:Nat}(hj:j∈Region.ready md ops ls):Qht md ops (ls.setIfInBounds j true):=fun k o ho hk e he hb=>by
 obtain ⟨_,oj,hoj,hall⟩:=mem_ready.1 hj
 by_cases e1:j=k
 ·subst e1
  rw [hoj] at ho
  cases ho
  exact getD_set_true (hall e he hb)
 ·rw [getD_set_ne false e1] at hk
  exact getD_set_true (h k o ho hk e he hb)
def Ql7(md:Region.Mode)(ops:Array Oper)(z:Nat):Bool:=
 (List.range ops.size).all fun k=>k==z || (List.range ops.size).any fun u=>decide (k<u)&&(match ops[u]? with | some o=>o.after.any fun e=>Region.binds md e&&e.on==k | none=>false)
theorem Qkf{ls:Array Bool}(h:Qht md ops ls)(hu:Ql7 md ops z=true)(hz:z∈Region.ready md ops ls){i:Nat}(hi:i∈Region.ready md ops ls):i=z:=by
 obtain ⟨_,oz,hoz,hallz⟩:=mem_ready.1 hz
 obtain ⟨hi0,oi,hoi,_⟩:=mem_ready.1 hi
 have key:∀ d k,ops.size-k≤d→k<ops.size→k≠z→ls.getD k false=true:=by
  intro d
  induction d with
  | zero=>intro k h1 h2 _;omega
  | succ d ih =>
   intro k h1 h2 h3
   have:=List.all_eq_true.1 hu k (List.mem_range.2 h2)
   simp only [Bool.or_eq_true,beq_iff_eq] at this
   rcases this with h4 | h4
   ·exact absurd h4 h3
   ·obtain ⟨u,hu1,hu2⟩:=List.any_eq_true.1 h4
    simp only [Bool.and_eq_true,decide_eq_true_eq] at hu2
    obtain ⟨hku,hu3⟩:=hu2
    have hus:=List.mem_range.1 hu1
    have hou:ops[u]?=some ops[u]:=Array.getElem?_eq_getElem hus
    rw [hou] at hu3
    obtain ⟨e,he,hbe⟩:=Array.any_eq_true'.1 hu3
    simp only [Bool.and_eq_true,beq_iff_eq] at hbe
    obtain ⟨hb,rfl⟩:=hbe
    by_cases huz:u=z
    ·subst huz
     rw [hou] at hoz
     cases hoz
     exact hallz e he hb
    ·exact h u _ hou (ih u (by omega) hus huz) e he hb
 by_cases hne:i=z
 ·exact hne
 ·have hlt:i<ops.size:=(Array.getElem?_eq_some_iff.1 hoi).1
  have:=key _ i nLe hlt hne
  rcases Nat.lt_or_ge i ls.size with h' | h'
  ·simp [Array.getD,h'] at this hi0
   rw [this] at hi0
   cases hi0
  ·simp only [Array.getD] at hi0
   rw [dif_neg (by omega)] at hi0
   cases hi0
def Qa1(P:Program)(md:Region.Mode)(ops:Array Oper)(Q:Exit→Act→World→Prop)(S:World→Prop)(z:Nat):Nat→Array Bool→Act→World→Prop
 | 0,ls,a,w=>Region.ready md ops ls=[]∧Q .normal a w
 | n+1,ls,a,w=>(Region.ready md ops ls=[]→Q .normal a w) ∧
  ∀ i∈Region.ready md ops ls,wpOp P ops Q i (fun a' w'=>(S w'∨i=z)∧Qa1 P md ops Q S z n (ls.setIfInBounds i true) a' w') a w
theorem Qch:∀ (n:Nat) (ls:Array Bool) (a:Act) (w:World),Qa1 P md ops Q S z n ls a w→wpAny P md ops Q n ls a w
 | 0,_,_,_,h=>h
 | n+1,_,_,_,h=>⟨h.1,fun i hi=>wpOp_mono (fun a' w' h'=>Qch n _ a' w' h'.2) (h.2 i hi)⟩
theorem Kc{i:Nat}{oi:Oper}{v:Value}(hu:Ql7 md ops z=true)(hiz:i≠z)(hi:ops[i]?=some oi)(hsel:∀ (j:Nat) (o:Oper) cs b,ops[j]?=some o→o.op≠.select cs b)
  (hQ:∀ c a w,Q (.panic c) (a.put oi.dst v) w→Q (.panic c) a w):∀ (n:Nat) (ls:Array Bool) (a:Act) (w:World),Qht md ops ls →
   (∀ j oj,ops[j]?=some oj→j≠i→ls.getD j true=false→(∀ e∈oj.after,Region.binds md e=true→e.on≠i)→oi.apart ops oj=true) →
   i∈Region.ready md ops ls→YieldsIf P ops S oi v a→S w →
   Qa1 P md ops Q S z n (ls.setIfInBounds i true) (a.put oi.dst v) w→Qa1 P md ops Q S z (n+1) ls a w
 | n,ls,a,w,hd,hfree,hr,hy,hS,H=>by
  refine ⟨fun h=>absurd hr (by rw [h];exact List.not_mem_nil),fun j hj=>?_⟩
  by_cases hji:j=i
  ·subst hji
   exact hy.wpOp hi hS ⟨.inl hS,H⟩
  ·have hmj:=ready_mono hj hji
   have hjz:j≠z:=fun e=>hiz (Qkf hd hu (e▸hj) hr)
   match n,H with
   | 0,H=>rw [H.1] at hmj;exact absurd hmj List.not_mem_nil
   | m+1,H =>
    obtain ⟨hjun,oj,hoj,hall⟩:=mem_ready.1 hj
    have hnot:∀ e∈oj.after,Region.binds md e=true→e.on≠i:=fun e he hb heq=>by
     have q1:=hall e he hb
     have q0:=(mem_ready.1 hr).1
     rw [heq] at q1
     rcases Nat.lt_or_ge i ls.size with h' | h'
     ·simp [Array.getD,h'] at q0 q1
      rw [q1] at q0
      cases q0
     ·simp only [Array.getD] at q0
      rw [dif_neg (by omega)] at q0
      cases q0
    refine wpOp_mono (fun a' w' h3=>?_) (wpOp_putIf hoj (hfree j oj hoj hji hjun hnot) (fun cs b=>hsel i oi cs b hi) (fun cs b=>hsel j oj cs b hoj) hQ hy (H.2 j hmj))
    obtain ⟨hy',hS',hrest⟩:=h3
    have hSw:S w':=hS'.elim id fun e=>absurd e hjz
    refine ⟨.inl hSw,Kc hu hiz hi hsel hQ m (ls.setIfInBounds j true) a' w' (hd.set hj) (fun k ok hk hki hun hno=>?_) (ready_mono hr (Ne.symm hji)) hy' hSw (by rw [Array.setIfInBounds_comm _ _ hji];exact hrest)⟩
    refine hfree k ok hk hki ?_ hno
    by_cases hjk:j=k
    ·subst hjk;exact hjun
    ·rwa [getD_set_ne true hjk] at hun
structure SW (S:World→Prop) where
 w:World
 h:S w
def wpL(P:Program)(md:Region.Mode)(ops:Array Oper)(Q:Exit→Act→World→Prop)(S:World→Prop)(z:Nat)(n:Nat)(ls:Array Bool)(a:Act)(w:World):Prop:=Qht md ops ls→Qa1 P md ops Q S z n ls a w
def tameL(o:Oper):Bool:=match o.op with
 | .load _ _ | .nilCheck _ | .build _ _=>true
 | _=>tame o
theorem upon_of{C:World→Prop}{w:World}{v:Value}{r:Result Next}(h:Oper.quietUpon P C w v r)(hn:∀ u w',r=.ok u w'→∃ x,u=.value x):r=.ok (.value v) w:=by
 cases r with
 | ok u w' =>
  obtain ⟨x,rfl⟩:=hn u w' rfl
  simp only [Oper.quietUpon] at h
  rw [h.1,h.2]
 | halt x w'=>simp [Oper.quietUpon] at h
theorem andThen_ok{α β:Type}{r:Result α}{f:α→World→Result β}{u:β}{w':World}(h:r.andThen f=.ok u w'):∃ a w'',f a w''=.ok u w':=by
 cases r with
 | ok a w=>exact ⟨a,w,h⟩
 | halt x w=>simp [Result.andThen] at h
theorem Qci{o:Oper}{a:Act}{C:World→Prop}{w:World}{v:Value}(ht:tameL o=true)(h:o.quietAt P a C w v):(execOp a.eval o).run P w=.ok (.value v) w:=by
 unfold tameL at ht
 split at ht
 case h_1 t x ho=>unfold Oper.quietAt at h;simp only [execOp,ho] at h ⊢;exact upon_value h
 case h_2 x ho =>
  unfold Oper.quietAt at h
  refine upon_of h fun u w' e=>?_
  simp only [execOp,ho] at e
  split at e
  case h_4 =>
   split at e
   ·simp [runtimePanic] at e
   ·simp only [Sem.run_bind,Sem.run_pure] at e
    obtain ⟨_,_,e⟩:=andThen_ok e
    obtain ⟨b,_,e⟩:=andThen_ok e
    split at e
    ·simp only [Sem.run_bind] at e
     obtain ⟨_,_,e⟩:=andThen_ok e
     simp only [Sem.run_pure] at e;cases e;exact ⟨_,rfl⟩
    ·simp only [Sem.run_pure] at e;cases e;exact ⟨_,rfl⟩
   ·simp only [Sem.run_pure] at e;cases e;exact ⟨_,rfl⟩
  all_goals first | (simp [runtimePanic] at e;done) | (simp only [Sem.run_pure] at e;cases e;exact ⟨_,rfl⟩)
 case h_3 t x ho=>unfold Oper.quietAt at h;simp only [execOp,ho] at h ⊢;exact upon_value h
 case h_4=>exact Qdh ht h
def segL(md:Region.Mode)(ops:Array Oper)(z:Nat):Nat→Nat→Array Bool→Bool
 | 0,_,_=>true
 | m+1,k,ls=>(Region.ready md ops ls).contains k&&Region.free md ops ls k&&(match ops[k]? with | some o=>tameL o | none=>false)&&(k != z)&&segL md ops z m (k+1) (ls.setIfInBounds k true)
theorem Ql8(hu:Ql7 md ops z=true)(hs:Region.noSelect ops=true)(hQ:∀ c (a:Act) d v w,Q (.panic c) (a.put d v) w→Q (.panic c) a w)(w:World)(hS:S w)(fuel:Nat):∀ (l:List Oper) (k:Nat) (ls:Array Bool) (a:Act),
  (∀ j,j<l.length→l[j]?=ops[k+j]?)→segL md ops z l.length k ls=true →
  wpQuiet P ops (fun w'=>∃ s:SW S,w'=s.w) (fun a'=>wpL P md ops Q S z fuel (Qc7 l.length k ls) a' w) l a→wpL P md ops Q S z (fuel+l.length) ls a w
 | [],_,_,_,_,_,h=>h
 | o::l,k,ls,a,hl,hB,h=>fun hd=>by
  have h0:ops[k]?=some o:=by simpa using (hl 0 (by simp)).symm
  simp only [List.length_cons,segL,Bool.and_eq_true,h0,bne_iff_ne,ne_eq] at hB
  obtain ⟨⟨⟨⟨hr,hf⟩,ht⟩,hkz⟩,hB'⟩:=hB
  have hr':k∈Region.ready md ops ls:=by simpa using hr
  have hl':∀ j,j<l.length→l[j]?=ops[k+1+j]?:=fun j hj=>by
   have:=hl (j+1) (by simp;omega)
   simpa [Nat.add_assoc,Nat.add_comm 1 j] using this
  have next:∀ v,YieldsIf P ops S o v a→wpQuiet P ops (fun w'=>∃ s:SW S,w'=s.w) (fun a'=>wpL P md ops Q S z fuel (Qc7 (l.length+1) k ls) a' w) l (a.put o.dst v)→Qa1 P md ops Q S z (fuel+(l.length+1)) ls a w:=fun v hy hK =>
   Kc hu hkz h0 (Region.noSelect_spec hs) (fun c a' w' hp=>hQ c _ _ _ w' hp) (fuel+l.length) ls a w hd (Region.free_spec h0 hf) hr' hy hS
    (Ql8 hu hs hQ w hS fuel l (k+1) _ _ hl' hB' hK (hd.set hr'))
  unfold wpQuiet at h
  by_cases hw:Region.wanted o (yielded ops a.tmps)=true
  ·rw [if_pos hw] at h
   obtain ⟨v,hv,hK⟩:=h
   exact next v (.inl ⟨hw,fun w' hs'=>Qci ht (hv w' ⟨⟨w',hs'⟩,rfl⟩)⟩) hK
  ·rw [if_neg hw] at h
   exact next undef (.inr ⟨by simpa using hw,rfl⟩) h
theorem Ji{L:List Oper}(k m fuel:Nat){ls:Array Bool}{a:Act}{w:World}(hB:(Ql7 md L.toArray z&&Region.noSelect L.toArray&&segL md L.toArray z m k ls&&decide (k+m≤L.length))=true)
  (hQ:∀ c (a:Act) d v w,Q (.panic c) (a.put d v) w→Q (.panic c) a w) (hS:S w)
  (h:Nonempty (SW S)→wpQuiet P L.toArray (fun w'=>∃ s:SW S,w'=s.w) (fun a'=>wpL P md L.toArray Q S z fuel (Qc7 m k ls) a' w) ((L.drop k).take m) a):wpL P md L.toArray Q S z (fuel+m) ls a w:=by
 simp only [Bool.and_eq_true,decide_eq_true_eq] at hB
 obtain ⟨⟨⟨hu,hs⟩,hB⟩,hle⟩:=hB
 have hlen:((L.drop k).take m).length=m:=by simp;omega
 have hseg:=Ql8 (P:=P) (md:=md) hu hs hQ w hS fuel ((L.drop k).take m) k ls a (fun j hj=>by
  rw [hlen] at hj
  simp [List.getElem?_take,hj,List.getElem?_drop]) (by rw [hlen];exact hB) (by rw [hlen];exact h ⟨⟨w,hS⟩⟩)
 rwa [hlen] at hseg
theorem Uz{L:List Oper}{i:Nat}{o:Oper}{fuel:Nat}{ls:Array Bool}{a:Act}{w:World}(hr:Region.ready md L.toArray ls=[i])(ho:L[i]?=some o)
  (h:∀ K:Act→World→Prop,(∀ a w,S w→wpL P md L.toArray Q S z fuel (ls.setIfInBounds i true) a w→K a w)→if Region.wanted o (yielded L.toArray a.tmps)=true then Oper.wp P o a w K Q else K (a.put o.dst undef) w) :
  wpL P md L.toArray Q S z (fuel+1) ls a w:=fun hd=>by
 have hm:i∈Region.ready md L.toArray ls:=by rw [hr];exact List.mem_singleton.2 rfl
 refine ⟨fun h0=>absurd hm (by rw [h0];exact List.not_mem_nil),fun j hj=>?_⟩
 rw [hr] at hj
 obtain rfl:=List.mem_singleton.1 hj
 exact wpOp_step (by simpa using ho) fun K hK=>h K fun a' w' hS hW=>hK a' w' ⟨.inl hS,hW (hd.set hm)⟩
theorem Qbz{L:List Oper}{o:Oper}{fuel:Nat}{ls:Array Bool}{a:Act}{w:World}(hr:Region.ready md L.toArray ls=[z])(hr':Region.ready md L.toArray (ls.setIfInBounds z true)=[])(ho:L[z]?=some o)
  (h:∀ K:Act→World→Prop,(∀ a w,Q .normal a w→K a w)→if Region.wanted o (yielded L.toArray a.tmps)=true then Oper.wp P o a w K Q else K (a.put o.dst undef) w) :
  wpL P md L.toArray Q S z (fuel+1) ls a w:=fun hd=>by
 have hm:z∈Region.ready md L.toArray ls:=by rw [hr];exact List.mem_singleton.2 rfl
 refine ⟨fun h0=>absurd hm (by rw [h0];exact List.not_mem_nil),fun j hj=>?_⟩
 rw [hr] at hj
 obtain rfl:=List.mem_singleton.1 hj
 exact wpOp_step (by simpa using ho) fun K hK=>h K fun a' w' hW=>hK a' w' ⟨.inr rfl,by
  cases fuel with
  | zero=>exact ⟨hr',hW⟩
  | succ n=>exact ⟨fun _=>hW,by rw [hr'];intro i hi;cases hi⟩⟩
theorem Yd{L:List Oper}{id:Nat}{a:Act}{w:World}(hm:P.follows .mixedOrders=true)(n:Nat)(hn:L.length=n)(S:World→Prop)(z:Nat)
  (h:wpL P .any L.toArray Q S z n (Array.replicate n false) a w.drew):(Code.region id L.toArray true).wp P Q a w:=
 wp_region_any hm (Qch _ _ _ _ (by
  have:=h (Qht.start n)
  simpa [hn] using this))
end
theorem fill_one(v:Value)(n:Nat)(hn:0<n)(hv:v.cells.size=n)(cells:Array Value)(hc:cells.size=n) :
  Instr.fill (fun i=>some (i*n,n)) cells [(0,v)]=some v.cells:=by
 obtain ⟨r,hr,hs,hk⟩:=Great.fill_dense hn [v] 0 cells (by intro u hu;rw [List.mem_singleton.1 hu,hv]) (by simp [hc])
 have:([v].zipIdx 0).map (fun x=>(x.2,x.1))=[(0,v)]:=rfl
 rw [this] at hr
 rw [hr]
 congr 1
 apply Array.ext_getElem?
 intro k
 rw [hk k]
 by_cases hlt:k<n
 ·rw [if_pos ⟨by omega,by simp;omega⟩]
  simp [Nat.div_eq_of_lt hlt,Nat.mod_eq_of_lt hlt]
 ·rw [if_neg (by simp;omega),Array.getElem?_eq_none (by omega),Array.getElem?_eq_none (by omega)]
section
variable {P:Program}
theorem Qf4{o:Oper}{a:Act}{w:World}{K:Act→World→Prop}{Q:Exit→Act→World→Prop}(t e:TypeId)(x:Operand)(ho:o.op=.buildSlice t 1 #[(0,x)])
  (cs:List Value) (hx:a.eval x=.agg cs.toArray) (hn:0<cs.length) (hl:cs.length≤2^24)
  (hu:P.underlying t=some (.slice e)) (hsz:(P.info? e).map (·.size)=some cs.length) (hz:((P.info? e).bind (·.zero)).isSome=true)
  (h:K (a.put o.dst (.slice (some ⟨w.heap.size,0,none⟩) 1 1)) (w.alloc (.cells cs.toArray e))):o.wp P a w K Q:=by
 cases hie:P.info? e with
 | none=>simp [hie] at hsz
 | some ie =>
  simp only [hie,Option.map_some,Option.some.injEq,Option.bind_some] at hsz hz
  obtain ⟨z,hzz⟩:=Option.isSome_iff_exists.1 hz
  refine wp_buildSlice t e 1 _ ho cs.toArray ie z hu hie hzz (by rw [hsz];omega) (by rw [hsz];omega) ?_ h
  rw [hsz]
  have:(#[((0:Nat),x)].map fun (i,x)=>(i,a.eval x)).toList=[(0,a.eval x)]:=by simp
  rw [this,hx]
  exact fill_one (.agg cs.toArray) cs.length hn (by show cs.toArray.size=_;simp) _ (by simp)
theorem Q0{ops:Array Oper}{o:Oper}{a:Act}{w:World}{K:Act→World→Prop}{Q:Exit→Act→World→Prop}{E:Prop}(hgd:Region.wanted o (yielded ops a.tmps)=true)(t e:TypeId)(x:Operand)(ho:o.op=.buildSlice t 1 #[(0,x)])
  (cs:List Value) (hx:a.eval x=.agg cs.toArray) (hn:0<cs.length) (hl:cs.length≤2^24)
  (hu:P.underlying t=some (.slice e)) (hsz:(P.info? e).map (·.size)=some cs.length) (hz:((P.info? e).bind (·.zero)).isSome=true)
  (h:K (a.put o.dst (.slice (some ⟨w.heap.size,0,none⟩) 1 1)) (w.alloc (.cells cs.toArray e))):if Region.wanted o (yielded ops a.tmps)=true then o.wp P a w K Q else E:=by
 rw [if_pos hgd]
 exact Qf4 t e x ho cs hx hn hl hu hsz hz h
theorem Ye{ops:Array Oper}{rest:List Oper}{o:Oper}{a:Act}{w:World}{Q:Exit→Act→World→Prop}(hgd:Region.wanted o (yielded ops a.tmps)=true)(t e:TypeId)(x:Operand)(ho:o.op=.buildSlice t 1 #[(0,x)])
  (cs:List Value) (hx:a.eval x=.agg cs.toArray) (hn:0<cs.length) (hl:cs.length≤2^24)
  (hu:P.underlying t=some (.slice e)) (hsz:(P.info? e).map (·.size)=some cs.length) (hz:((P.info? e).bind (·.zero)).isSome=true)
  (h:wpList P ops Q rest (a.put o.dst (.slice (some ⟨w.heap.size,0,none⟩) 1 1)) (w.alloc (.cells cs.toArray e))):wpList P ops Q (o::rest) a w:=
 Jw hgd fun _ hK=>Qf4 t e x ho cs hx hn hl hu hsz hz (hK _ _ h)
end
section
variable {P:Program} {ops:Array Oper} {Q:Exit→Act→World→Prop} {md:Region.Mode} {S:World→Prop} {m:Nat}
def Ql9(md:Region.Mode)(ops:Array Oper)(u k:Nat):Bool:=match ops[u]? with | some o=>o.after.any fun e=>Region.binds md e&&e.on==k | none=>false
theorem Qa2{u k:Nat}(h:Ql9 md ops u k=true):∃ o,ops[u]?=some o∧∃ e∈o.after,Region.binds md e=true∧e.on=k:=by
 unfold Ql9 at h
 split at h
 ·rename_i o ho
  obtain ⟨e,he,hbe⟩:=Array.any_eq_true'.1 h
  simp only [Bool.and_eq_true,beq_iff_eq] at hbe
  exact ⟨o,ho,e,he,hbe.1,hbe.2⟩
 ·cases h
def Qma(md:Region.Mode)(ops:Array Oper)(m i:Nat):Bool:=
 ((List.range m).all fun k=>decide (k<i) || (List.range (m+1)).any fun u=>decide (k<u)&&Ql9 md ops u k)&&((List.range ops.size).all fun j=>decide (j≤m) || Ql9 md ops j m)
theorem not_late{ls:Array Bool}(h:Qht md ops ls){i j:Nat}(hu:Qma md ops m i=true)(him:i<m)(hi:i∈Region.ready md ops ls)(hj:j∈Region.ready md ops ls):j<m:=by
 rcases Nat.lt_or_ge j m with hjm | hjm
 ·exact hjm
 exfalso
 obtain ⟨_,oj,hoj,hallj⟩:=mem_ready.1 hj
 obtain ⟨hi0,oi,hoi,_⟩:=mem_ready.1 hi
 unfold Qma at hu
 rw [Bool.and_eq_true] at hu
 obtain ⟨h1,h2⟩:=hu
 have hjs:j<ops.size:=(Array.getElem?_eq_some_iff.1 hoj).1
 have hW:∀ k,Ql9 md ops m k=true→ls.getD k false=true:=by
  intro k hk
  obtain ⟨om,hom,e,he,hb,rfl⟩:=Qa2 hk
  by_cases e1:j=m
  ·subst e1
   rw [hoj] at hom
   cases hom
   exact hallj e he hb
  ·have h3:=List.all_eq_true.1 h2 j (List.mem_range.2 hjs)
   simp only [Bool.or_eq_true,decide_eq_true_eq] at h3
   rcases h3 with h3 | h3
   ·omega
   ·obtain ⟨oj',hoj',e',he',hb',hon⟩:=Qa2 h3
    rw [hoj] at hoj'
    cases hoj'
    have hm:=hallj e' he' hb'
    rw [hon] at hm
    exact h m om hom hm e he hb
 have key:∀ d k,m-k≤d→i≤k→k<m→ls.getD k false=true:=by
  intro d
  induction d with
  | zero=>intro k h3 _ h4;omega
  | succ d ih =>
   intro k h3 h4 h5
   have h6:=List.all_eq_true.1 h1 k (List.mem_range.2 h5)
   simp only [Bool.or_eq_true,decide_eq_true_eq] at h6
   rcases h6 with h6 | h6
   ·omega
   ·obtain ⟨u,hu1,hu2⟩:=List.any_eq_true.1 h6
    simp only [Bool.and_eq_true,decide_eq_true_eq] at hu2
    obtain ⟨hku,hu3⟩:=hu2
    have hum:=List.mem_range.1 hu1
    by_cases e2:u=m
    ·subst e2
     exact hW k hu3
    ·obtain ⟨ou,hou,e,he,hb,rfl⟩:=Qa2 hu3
     exact h u ou hou (ih u (by omega) (by omega) (by omega)) e he hb
 have:=key _ i nLe nLe him
 rcases Nat.lt_or_ge i ls.size with h' | h'
 ·simp [Array.getD,h'] at this hi0
  rw [this] at hi0
  cases hi0
 ·simp only [Array.getD] at hi0
  rw [dif_neg (by omega)] at hi0
  cases hi0
def Qa3(P:Program)(md:Region.Mode)(ops:Array Oper)(Q:Exit→Act→World→Prop)(S:World→Prop)(m:Nat):Nat→Array Bool→Act→World→Prop
 | 0,ls,a,w=>Region.ready md ops ls=[]∧Q .normal a w
 | n+1,ls,a,w=>(Region.ready md ops ls=[]→Q .normal a w) ∧
  ∀ i∈Region.ready md ops ls,wpOp P ops Q i (fun a' w'=>(i<m→S w'∧Qa3 P md ops Q S m n (ls.setIfInBounds i true) a' w')∧(m≤i→wpAny P md ops Q n (ls.setIfInBounds i true) a' w')) a w
theorem Qcj:∀ (n:Nat) (ls:Array Bool) (a:Act) (w:World),Qa3 P md ops Q S m n ls a w→wpAny P md ops Q n ls a w
 | 0,_,_,_,h=>h
 | n+1,_,_,_,h=>⟨h.1,fun i hi=>wpOp_mono (fun a' w' h'=>by
   rcases Nat.lt_or_ge i m with h1 | h1
   ·exact Qcj n _ a' w' (h'.1 h1).2
   ·exact h'.2 h1) (h.2 i hi)⟩
theorem Kd{i:Nat}{oi:Oper}{v:Value}(hu:Qma md ops m i=true)(him:i<m)(hi:ops[i]?=some oi)(hsel:∀ (j:Nat) (o:Oper) cs b,ops[j]?=some o→o.op≠.select cs b)
  (hQ:∀ c a w,Q (.panic c) (a.put oi.dst v) w→Q (.panic c) a w):∀ (n:Nat) (ls:Array Bool) (a:Act) (w:World),Qht md ops ls →
   (∀ j oj,ops[j]?=some oj→j≠i→ls.getD j true=false→(∀ e∈oj.after,Region.binds md e=true→e.on≠i)→oi.apart ops oj=true) →
   i∈Region.ready md ops ls→YieldsIf P ops S oi v a→S w →
   Qa3 P md ops Q S m n (ls.setIfInBounds i true) (a.put oi.dst v) w→Qa3 P md ops Q S m (n+1) ls a w
 | n,ls,a,w,hd,hfree,hr,hy,hS,H=>by
  refine ⟨fun h=>absurd hr (by rw [h];exact List.not_mem_nil),fun j hj=>?_⟩
  by_cases hji:j=i
  ·subst hji
   exact hy.wpOp hi hS ⟨fun _=>⟨hS,H⟩,fun h=>by omega⟩
  ·have hmj:=ready_mono hj hji
   have hjm:j<m:=not_late hd hu him hr hj
   match n,H with
   | 0,H=>rw [H.1] at hmj;exact absurd hmj List.not_mem_nil
   | k+1,H =>
    obtain ⟨hjun,oj,hoj,hall⟩:=mem_ready.1 hj
    have hnot:∀ e∈oj.after,Region.binds md e=true→e.on≠i:=fun e he hb heq=>by
     have q1:=hall e he hb
     have q0:=(mem_ready.1 hr).1
     rw [heq] at q1
     rcases Nat.lt_or_ge i ls.size with h' | h'
     ·simp [Array.getD,h'] at q0 q1
      rw [q1] at q0
      cases q0
     ·simp only [Array.getD] at q0
      rw [dif_neg (by omega)] at q0
      cases q0
    refine wpOp_mono (fun a' w' h3=>?_) (wpOp_putIf hoj (hfree j oj hoj hji hjun hnot) (fun cs b=>hsel i oi cs b hi) (fun cs b=>hsel j oj cs b hoj) hQ hy (H.2 j hmj))
    obtain ⟨hy',h4⟩:=h3
    obtain ⟨hS',hrest⟩:=h4.1 hjm
    refine ⟨fun _=>⟨hS',Kd hu him hi hsel hQ k (ls.setIfInBounds j true) a' w' (hd.set hj) (fun q oq hq hqi hun hno=>?_) (ready_mono hr (Ne.symm hji)) hy' hS' (by rw [Array.setIfInBounds_comm _ _ hji];exact hrest)⟩,fun h=>by omega⟩
    refine hfree q oq hq hqi ?_ hno
    by_cases hjk:j=q
    ·subst hjk;exact hjun
    ·rwa [getD_set_ne true hjk] at hun
def wpM(P:Program)(md:Region.Mode)(ops:Array Oper)(Q:Exit→Act→World→Prop)(S:World→Prop)(m:Nat)(n:Nat)(ls:Array Bool)(a:Act)(w:World):Prop:=Qht md ops ls→Qa3 P md ops Q S m n ls a w
def downMB(md:Region.Mode)(ops:Array Oper)(ls:Array Bool):Bool:=(List.range ops.size).all fun k=>!ls.getD k false || (match ops[k]? with | some o=>o.after.all fun e=>!Region.binds md e || ls.getD e.on false | none=>true)
theorem Qht.of_B{ls:Array Bool}(h:downMB md ops ls=true):Qht md ops ls:=fun k o ho hk e he hb=>by
 have hks:k<ops.size:=(Array.getElem?_eq_some_iff.1 ho).1
 have h1:=List.all_eq_true.1 h k (List.mem_range.2 hks)
 rw [ho,hk] at h1
 simp only [Bool.not_true,Bool.false_or] at h1
 have h2:=Array.all_eq_true_iff_forall_mem.1 h1 e he
 rw [hb] at h2
 simpa using h2
theorem J2{L:List Oper}(S:World→Prop)(m:Nat){n:Nat}{ls:Array Bool}{a:Act}{w:World}(hd:downMB md L.toArray ls=true)(h:wpM P md L.toArray Q S m n ls a w):wpAny P md L.toArray Q n ls a w:=
 Qcj _ _ _ _ (h (Qht.of_B hd))
theorem K9{L:List Oper}(i:Nat){o:Oper}{fuel:Nat}{ls:Array Bool}{a:Act}{w:World}(v:Value)(hB:(Qma md L.toArray m i&&Region.noSelect L.toArray&&(Region.ready md L.toArray ls).contains i&&Region.free md L.toArray ls i&&decide (i<m))=true)
  (hQ:∀ c (a:Act) d v w,Q (.panic c) (a.put d v) w→Q (.panic c) a w) (ho:L[i]?=some o) (hS:S w) (hy:YieldsIf P L.toArray S o v a)
  (h:wpM P md L.toArray Q S m fuel (ls.setIfInBounds i true) (a.put o.dst v) w):wpM P md L.toArray Q S m (fuel+1) ls a w:=fun hd=>by
 simp only [Bool.and_eq_true,decide_eq_true_eq] at hB
 obtain ⟨⟨⟨⟨hu,hs⟩,hr⟩,hf⟩,him⟩:=hB
 have h0:L.toArray[i]?=some o:=by simpa using ho
 have hr':i∈Region.ready md L.toArray ls:=by simpa using hr
 exact Kd hu him h0 (Region.noSelect_spec hs) (fun c a' w' hp=>hQ c _ _ _ w' hp) fuel ls a w hd (Region.free_spec h0 hf) hr' hy hS (h (hd.set hr'))
theorem Ql{L:List Oper}{i:Nat}{o:Oper}{fuel:Nat}{ls:Array Bool}{a:Act}{w:World}(hr:Region.ready md L.toArray ls=[i])(hi:i<m)(ho:L[i]?=some o)
  (h:∀ K:Act→World→Prop,(∀ a w,S w→wpM P md L.toArray Q S m fuel (ls.setIfInBounds i true) a w→K a w)→if Region.wanted o (yielded L.toArray a.tmps)=true then Oper.wp P o a w K Q else K (a.put o.dst undef) w) :
  wpM P md L.toArray Q S m (fuel+1) ls a w:=fun hd=>by
 have hm:i∈Region.ready md L.toArray ls:=by rw [hr];exact List.mem_singleton.2 rfl
 refine ⟨fun h0=>absurd hm (by rw [h0];exact List.not_mem_nil),fun j hj=>?_⟩
 rw [hr] at hj
 obtain rfl:=List.mem_singleton.1 hj
 exact wpOp_step (by simpa using ho) fun K hK=>h K fun a' w' hS hW=>hK a' w' ⟨fun _=>⟨hS,hW (hd.set hm)⟩,fun h=>by omega⟩
theorem Ja{L:List Oper}{i:Nat}{o:Oper}{fuel:Nat}{ls:Array Bool}{a:Act}{w:World}(hr:Region.ready md L.toArray ls=[i])(hi:m≤i)(ho:L[i]?=some o)
  (h:∀ K:Act→World→Prop,(∀ a w,wpAny P md L.toArray Q fuel (ls.setIfInBounds i true) a w→K a w)→if Region.wanted o (yielded L.toArray a.tmps)=true then Oper.wp P o a w K Q else K (a.put o.dst undef) w) :
  wpM P md L.toArray Q S m (fuel+1) ls a w:=fun hd=>by
 have hm:i∈Region.ready md L.toArray ls:=by rw [hr];exact List.mem_singleton.2 rfl
 refine ⟨fun h0=>absurd hm (by rw [h0];exact List.not_mem_nil),fun j hj=>?_⟩
 rw [hr] at hj
 obtain rfl:=List.mem_singleton.1 hj
 exact wpOp_step (by simpa using ho) fun K hK=>h K fun a' w' hW=>hK a' w' ⟨fun h=>by omega,fun _=>hW⟩
def segM(md:Region.Mode)(ops:Array Oper)(m:Nat):Nat→Nat→Array Bool→Bool
 | 0,_,_=>true
 | c+1,k,ls=>(Region.ready md ops ls).contains k&&Region.free md ops ls k&&(match ops[k]? with | some o=>tameL o | none=>false)&&(Qma md ops m k&&decide (k<m))&&segM md ops m c (k+1) (ls.setIfInBounds k true)
theorem Qmb(hs:Region.noSelect ops=true)(hQ:∀ c (a:Act) d v w,Q (.panic c) (a.put d v) w→Q (.panic c) a w)(w:World)(hS:S w)(fuel:Nat):∀ (l:List Oper) (k:Nat) (ls:Array Bool) (a:Act),
  (∀ j,j<l.length→l[j]?=ops[k+j]?)→segM md ops m l.length k ls=true →
  wpQuiet P ops (fun w'=>∃ s:SW S,w'=s.w) (fun a'=>wpM P md ops Q S m fuel (Qc7 l.length k ls) a' w) l a→wpM P md ops Q S m (fuel+l.length) ls a w
 | [],_,_,_,_,_,h=>h
 | o::l,k,ls,a,hl,hB,h=>fun hd=>by
  have h0:ops[k]?=some o:=by simpa using (hl 0 (by simp)).symm
  simp only [List.length_cons,segM,Bool.and_eq_true,h0,decide_eq_true_eq] at hB
  obtain ⟨⟨⟨⟨hr,hf⟩,ht⟩,hu,hkm⟩,hB'⟩:=hB
  have hr':k∈Region.ready md ops ls:=by simpa using hr
  have hl':∀ j,j<l.length→l[j]?=ops[k+1+j]?:=fun j hj=>by
   have:=hl (j+1) (by simp;omega)
   simpa [Nat.add_assoc,Nat.add_comm 1 j] using this
  have next:∀ v,YieldsIf P ops S o v a→wpQuiet P ops (fun w'=>∃ s:SW S,w'=s.w) (fun a'=>wpM P md ops Q S m fuel (Qc7 (l.length+1) k ls) a' w) l (a.put o.dst v)→Qa3 P md ops Q S m (fuel+(l.length+1)) ls a w:=fun v hy hK =>
   Kd hu hkm h0 (Region.noSelect_spec hs) (fun c a' w' hp=>hQ c _ _ _ w' hp) (fuel+l.length) ls a w hd (Region.free_spec h0 hf) hr' hy hS
    (Qmb hs hQ w hS fuel l (k+1) _ _ hl' hB' hK (hd.set hr'))
  unfold wpQuiet at h
  by_cases hw:Region.wanted o (yielded ops a.tmps)=true
  ·rw [if_pos hw] at h
   obtain ⟨v,hv,hK⟩:=h
   exact next v (.inl ⟨hw,fun w' hs'=>Qci ht (hv w' ⟨⟨w',hs'⟩,rfl⟩)⟩) hK
  ·rw [if_neg hw] at h
   exact next undef (.inr ⟨by simpa using hw,rfl⟩) h
theorem Qp{L:List Oper}(k c fuel:Nat){ls:Array Bool}{a:Act}{w:World}(hB:(Region.noSelect L.toArray&&segM md L.toArray m c k ls&&decide (k+c≤L.length))=true)
  (hQ:∀ c (a:Act) d v w,Q (.panic c) (a.put d v) w→Q (.panic c) a w) (hS:S w)
  (h:Nonempty (SW S)→wpQuiet P L.toArray (fun w'=>∃ s:SW S,w'=s.w) (fun a'=>wpM P md L.toArray Q S m fuel (Qc7 c k ls) a' w) ((L.drop k).take c) a):wpM P md L.toArray Q S m (fuel+c) ls a w:=by
 simp only [Bool.and_eq_true,decide_eq_true_eq] at hB
 obtain ⟨⟨hs,hB⟩,hle⟩:=hB
 have hlen:((L.drop k).take c).length=c:=by simp;omega
 have hseg:=Qmb (P:=P) (md:=md) hs hQ w hS fuel ((L.drop k).take c) k ls a (fun j hj=>by
  rw [hlen] at hj
  simp [List.getElem?_take,hj,List.getElem?_drop]) (by rw [hlen];exact hB) (by rw [hlen];exact h ⟨⟨w,hS⟩⟩)
 rwa [hlen] at hseg
end
end Go.Proofs.Ytjoclbeoafeebaa
