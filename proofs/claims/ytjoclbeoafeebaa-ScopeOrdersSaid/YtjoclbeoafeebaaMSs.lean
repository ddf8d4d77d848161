import Derived.Test.YtjoclbeoafeebaaStN
import Derived.Test.YtjoclbeoafeebaaMEi
import Derived.Test.YtjoclbeoafeebaaMSz
namespace Go.Proofs.Ytjoclbeoafeebaa
set_option linter.unusedVariables false
set_option linter.unusedSimpArgs false
open Go.RowKit
section
variable {P:Program} {md:Region.Mode} {ops:Array Oper} {Q:Exit→Act→World→Prop} {S:World→Prop} {m:Nat}
theorem Z9{L:List Oper}{i j:Nat}{o o':Oper}{fuel:Nat}{ls:Array Bool}{a:Act}{w:World}(hr:Region.ready md L.toArray ls=[i,j])(hi:i<m)(hj:j<m)(ho:L[i]?=some o)(ho':L[j]?=some o')
  (h:∀ K:Act→World→Prop,(∀ a w,S w→wpM P md L.toArray Q S m fuel (ls.setIfInBounds i true) a w→K a w)→if Region.wanted o (yielded L.toArray a.tmps)=true then Oper.wp P o a w K Q else K (a.put o.dst undef) w)
  (h':∀ K:Act→World→Prop,(∀ a w,S w→wpM P md L.toArray Q S m fuel (ls.setIfInBounds j true) a w→K a w)→if Region.wanted o' (yielded L.toArray a.tmps)=true then Oper.wp P o' a w K Q else K (a.put o'.dst undef) w) :
  wpM P md L.toArray Q S m (fuel+1) ls a w:=fun hd=>by
 have hm:i∈Region.ready md L.toArray ls:=by rw [hr];exact List.mem_cons_self
 have hm':j∈Region.ready md L.toArray ls:=by rw [hr];exact List.mem_cons_of_mem _ (List.mem_singleton.2 rfl)
 refine ⟨fun h0=>absurd hm (by rw [h0];exact List.not_mem_nil),fun q hq=>?_⟩
 rw [hr] at hq
 rcases List.mem_cons.1 hq with rfl | hq
 ·exact wpOp_step (by simpa using ho) fun K hK=>h K fun a' w' hS hW=>hK a' w' ⟨fun _=>⟨hS,hW (hd.set hm)⟩,fun h=>by omega⟩
 ·obtain rfl:=List.mem_singleton.1 hq
  exact wpOp_step (by simpa using ho') fun K hK=>h' K fun a' w' hS hW=>hK a' w' ⟨fun _=>⟨hS,hW (hd.set hm')⟩,fun h=>by omega⟩
end
theorem Qq{P:Program}{ops:Array Oper}{rest:List Oper}{o:Oper}{a:Act}{Q:Exit→Act→World→Prop}{w:World}(hgd:Region.wanted o (yielded ops a.tmps)=true)(T:TypeId)(x:Operand)(ho:o.op=.load T x)(G off:Nat)(hx:a.eval x=.pointer (some ⟨G,off,none⟩))(cs:List Value){d:TypeDesc}(hs:w.rangeAt G off cs)(hu:P.underlying T=some d)(hd:d.isRow=true)
  (hT:(P.info? T).map (·.size)=some cs.length) (h:wpList P ops Q rest (a.put o.dst (.agg cs.toArray)) w):wpList P ops Q (o::rest) a w:=
 Jw hgd fun _ hK=>wp_load_mid T x ho G off hx cs d hs hu hd hT (hK _ _ h)
theorem Var.all{w:World}{G:Nat}{cs us:List Value}(h:Var w G cs)(hl:us.length=cs.length):Var (w.setCells G 0 us) G us:=by
 have:=h.sets 0 us (by omega)
 have e:spl cs 0 us=us:=by
  unfold spl
  rw [List.take_zero,List.nil_append,Nat.zero_add,hl,List.drop_length,List.append_nil]
 rwa [e] at this
end Go.Proofs.Ytjoclbeoafeebaa
namespace Go.Proofs.Ytjoclbeoafeebaa
set_option linter.unusedVariables false
set_option linter.unusedSimpArgs false
structure Win (R R':Rw) (k:Nat) (c:Int) (N:Nat):Prop where
 wd:∀ i,i<N→R'.wd (i+k)=R.wd i
 kd:∀ i,i<N→R'.kd (i+k)=R.kd i
 idn:∀ i,i<N→R'.idn (i+k)=R.idn i
 ps:∀ i,i<N→R'.ps (i+k)=R.ps i+c
section
variable {R R':Rw} {k N:Nat} {c:Int}
theorem Win.is(h:Win R R' k c N){i:Nat}(hi:i<N)(l:List UInt8):R'.is (i+k) l=R.is i l:=by unfold Rw.is;rw [h.wd i hi]
theorem Win.name(h:Win R R' k c N){a:Nat}(ht:(R.name a).1=true)(hn:(R.name a).2.2<N):R'.name (a+k)=(true,(R.name a).2.1,(R.name a).2.2+k)∧a<(R.name a).2.2:=by
 unfold Rw.name at ht hn ⊢
 by_cases h1:R.idn a=false
 ·rw [if_pos h1] at ht;cases ht
 ·rw [if_neg h1] at ht hn ⊢
  by_cases h2:R.is (a+1) [46]=true
  ·rw [if_pos h2] at ht hn ⊢
   by_cases h3:R.idn (a+2)=true
   ·rw [if_pos h3] at ht hn ⊢
    have hn:a+3<N:=hn
    rw [h.idn a (by omega),if_neg h1,show a+k+1=a+1+k by omega,h.is (by omega),if_pos h2,show a+k+2=a+2+k by omega,h.idn _ (by omega),if_pos h3,h.wd a (by omega),h.wd _ (by omega)]
    exact ⟨by rw [show a+k+3=a+3+k by omega],by show a<a+3;omega⟩
   ·rw [if_neg h3] at ht;cases ht
  ·rw [if_neg h2] at ht hn ⊢
   have hn:a+1<N:=hn
   rw [h.idn a (by omega),if_neg h1,show a+k+1=a+1+k by omega,h.is (by omega),if_neg h2,h.wd a (by omega)]
   exact ⟨rfl,Nat.lt_succ_self _⟩
end
def An.sh(c:Int)(x:An):An:=⟨x.so,x.lk,x.lb,x.fr+c,x.to+c⟩
def St.sh(c:Int):St→St
 | .mk k a nm ty an e l r=>.mk k (a+c) nm ty (if k=0 then an.sh c else an) (if k=4 then e else e.sh c) (l.attach.map fun x=>x.1.sh c) (r.attach.map fun x=>x.1.sh c)
termination_by s=>SizeOf.sizeOf s
decreasing_by
 ·exact St.lt_l x.2
 ·exact St.lt_r x.2
section
variable {R R':Rw} {k N:Nat} {c:Int}
theorem Win.en(hW:Win R R' k c N){p:Nat}(h0:0<p)(hp:p≤N):R'.en (p+k)=R.en p+c:=by
 unfold Rw.en
 rw [if_neg (by omega),if_neg (by omega),show p+k-1=p-1+k by omega,hW.ps _ (by omega),hW.wd _ (by omega)]
 omega
end
section
variable {R R':Rw} {F k N:Nat} {c:Int}
def Ms.strict:Ms→Bool
 | .row _=>false
 | _=>true
theorem rs_in(hR:R.Ok):∀ (f:Nat) (m:Ms) (p:Nat) (d:Int),p≤R.n→(rs R F f m p d).r=0→p≤(rs R F f m p d).p∧(rs R F f m p d).p≤R.n∧(m.strict=true→p<(rs R F f m p d).p):=by
 intro f
 induction f with
 | zero =>
  intro m p d hp h
  have:rs R F 0 m p d=Kr p 99:=by cases m <;> rfl
  rw [this] at h;cases h
 | succ f ih =>
  intro m p d hp h
  cases m with
  | row acc =>
   rw [Qdt] at h ⊢
   by_cases he:Qf0 R p=true
   ·rw [if_pos he];exact ⟨Nat.le_refl _,hp,fun h=>(by cases h)⟩
   ·rw [if_neg he] at h ⊢
    have h1:=ih .st p d hp
    have h2:=fun acc q hq=>ih (.row acc) q d hq
    generalize rs R F f .st p d=g at h h1 ⊢
    by_cases h0:g.r=0
    ·rw [if_pos h0] at h ⊢
     obtain ⟨a1,a2,a3⟩:=h1 h0
     obtain ⟨b1,b2,b3⟩:=h2 (acc++[g.s]) g.p a2 h
     exact ⟨by omega,b2,fun h=>(by cases h)⟩
    ·rw [if_neg h0] at h;exact absurd h h0
  | blk =>
   rw [Qdu] at h ⊢
   by_cases hb:R.is p [123]=true
   ·rw [if_pos hb] at h ⊢
    by_cases h32:32≤d
    ·rw [if_pos h32] at h;cases h
    ·rw [if_neg h32] at h ⊢
     have h1:=ih (.row []) (p+1) (d+1) (hR.is_lt hb)
     generalize rs R F f (.row []) (p+1) (d+1)=g at h h1 ⊢
     by_cases h0:g.r=0
     ·rw [if_pos h0] at h ⊢
      obtain ⟨a1,a2,a3⟩:=h1 h0
      by_cases hk:R.is g.p [125]=true
      ·rw [if_pos hk]
       have:=hR.is_lt hk
       exact ⟨by show p≤g.p+1;omega,this,fun _=>by show p<g.p+1;omega⟩
      ·rw [if_neg hk] at h;cases h
     ·rw [if_neg h0] at h;exact absurd h h0
   ·rw [if_neg hb] at h;cases h
  | st =>
   rw [Qke] at h ⊢
   have hu:=Ql6 hR F hp
   by_cases hr:(hdS R F p).2.2=0
   ·rw [if_pos hr] at h ⊢
    have hl:p+1≤(hdS R F p).2.1:=(hu.st hr).2
    have hn:(hdS R F p).2.1≤R.n:=hu.n
    by_cases hk:(hdS R F p).1.k=2∨(hdS R F p).1.k=3
    ·rw [if_pos hk] at h ⊢
     have h1:=ih .blk (hdS R F p).2.1 d hn
     have h2:=fun q hq=>ih .blk q d hq
     generalize rs R F f .blk (hdS R F p).2.1 d=g at h h1 ⊢
     by_cases h0:g.r=0
     ·rw [if_pos h0] at h ⊢
      obtain ⟨a1,a2,a3⟩:=h1 h0
      by_cases he:(hdS R F p).1.k=2∧R.is g.p Qfz=true
      ·rw [if_pos he] at h ⊢
       have h3:=h2 (g.p+1) (hR.is_lt he.2)
       generalize rs R F f .blk (g.p+1) d=g2 at h h3 ⊢
       by_cases h00:g2.r=0
       ·rw [if_pos h00]
        obtain ⟨b1,b2,b3⟩:=h3 h00
        exact ⟨by show p≤g2.p;omega,b2,fun _=>by show p<g2.p;omega⟩
       ·rw [if_neg h00] at h;exact absurd h h00
      ·rw [if_neg he]
       exact ⟨by show p≤g.p;omega,a2,fun _=>by show p<g.p;omega⟩
     ·rw [if_neg h0] at h;exact absurd h h0
    ·rw [if_neg hk]
     exact ⟨by show p≤(hdS R F p).2.1;omega,hn,fun _=>hl⟩
   ·rw [if_neg hr] at h;exact absurd h hr
def Ms.sh(c:Int):Ms→Ms
 | .row acc=>.row (acc.map (St.sh c))
 | m=>m
def Ms.within(N p:Nat):Ms→Prop
 | .row _=>p<N
 | _=>p≤N
end
end Go.Proofs.Ytjoclbeoafeebaa
