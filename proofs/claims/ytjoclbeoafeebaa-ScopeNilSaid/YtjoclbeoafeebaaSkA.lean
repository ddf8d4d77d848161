import Derived.Test.YtjoclbeoafeebaaScL
import Derived.Maps.OwnSet
import Derived.Maps.RangeWalk
import Derived.Maps.Views
import Derived.DeepKeys5
import Derived.Laws.ShiftsVarLaws
import Derived.Laws.BitsAllLaws
import Derived.Test.YtjoclbeoafeebaaSq
import Derived.Test.YtjoclbeoafeebaaScV
set_option maxHeartbeats 1600000
set_option maxRecDepth 100000
namespace Go.Proofs.Ytjoclbeoafeebaa
set_option linter.unusedVariables false
set_option linter.unusedSimpArgs false
open Go.RowKit Go.Maps
structure KM where
 κ:Type
 α:Type
 K:TypeId
 E:TypeId
 T:TypeId
 kv:κ→Value
 vv:α→Value
 R:Value→Option (DataW Unit×List MemPlace)
 dt:α→DataW Unit
 z:α
 law:Keyed Try.prog K
 und:Try.prog.underlying T=some (.map K E)
 zero:∀ w,(zeroValue E).run Try.prog w=.ok (vv z) w
 hR:∀ a,R (vv a)=some (dt a,[])
 inv:∀ v y,R v=some y→∃ a,v=vv a∧y.1=dt a
 inj:∀ a b,dt a=dt b→a=b
 kinj:∀ a b,kv a=kv b→a=b
 kinv:∀ v l,keyOf Try.prog K v=some l→∃ a,v=kv a
def KM.At(m:KM)(w:World)(b n:Nat)(f:m.κ→Option m.α):Prop:=∃ D:DataW Unit,w.ownsMap Try.prog m.K m.R b n D∧IsMap D∧∀ k l,keyOf Try.prog m.K (m.kv k)=some l→has D l=(f k).isSome∧∀ z,D.atKey l z=((f k).map m.dt).getD z
section
variable {m:KM} {w w':World} {b n:Nat} {f:m.κ→Option m.α}
theorem KM.At.lt(h:m.At w b n f):b<w.heap.size:=by
 obtain ⟨D,h,_⟩:=h
 exact World.ownsMap.lt h
theorem KM.At.stay(h:m.At w b n f)(hk:w'.heap[b]?=w.heap[b]?):m.At w' b n f:=by
 obtain ⟨D,⟨es,clock,hb,r⟩,r'⟩:=h
 exact ⟨D,⟨es,clock,hk.trans hb,r⟩,r'⟩
theorem KM.At.made(m:KM)(w:World):m.At (w.alloc (.map #[] 0)) w.heap.size 0 (fun _=>none):=⟨.map [],World.ownsMap_made w Try.prog m.K m.R,isMap_empty,fun k l _=>⟨rfl,fun z=>rfl⟩⟩
theorem KM.At.is(h:m.At w b n f):∃ es c,w.heap[b]?=some (.map es c):=by
 obtain ⟨D,⟨es,clock,hb,_⟩,_⟩:=h
 exact ⟨es,clock,hb⟩
theorem KM.At.looks(h:m.At w b n f){k:m.κ}{l:Lit}(hk:keyOf Try.prog m.K (m.kv k)=some l):(Instr.lookup m.T (.map (some b)) (m.kv k) true).run Try.prog w=.ok (.tuple #[m.vv ((f k).getD m.z),.bool (f k).isSome]) w:=by
 obtain ⟨D,h,_,hD⟩:=h
 obtain ⟨v,ps,hrun,hv⟩:=h.look_ok m.law m.und (m.zero w) (m.hR m.z) hk
 obtain ⟨h1,h2⟩:=hD k l hk
 rw [hrun,h1]
 obtain ⟨a,rfl,ha⟩:=m.inv _ _ hv
 rw [h2] at ha
 have:(f k).getD m.z=a:=by
  cases e:f k with
  | none=>rw [e] at ha;exact m.inj _ _ ha
  | some x=>rw [e] at ha;exact m.inj _ _ ha
 rw [this]
theorem KM.At.look(h:m.At w b n f){k:m.κ}{l:Lit}(hk:keyOf Try.prog m.K (m.kv k)=some l):(Instr.lookup m.T (.map (some b)) (m.kv k) false).run Try.prog w=.ok (m.vv ((f k).getD m.z)) w:=by
 obtain ⟨D,h,_,hD⟩:=h
 obtain ⟨v,ps,hrun,hv⟩:=h.lookup m.law m.und (m.zero w) (m.hR m.z) hk
 obtain ⟨h1,h2⟩:=hD k l hk
 rw [hrun]
 obtain ⟨a,rfl,ha⟩:=m.inv _ _ hv
 rw [h2] at ha
 have:(f k).getD m.z=a:=by
  cases e:f k with
  | none=>rw [e] at ha;exact m.inj _ _ ha
  | some x=>rw [e] at ha;exact m.inj _ _ ha
 rw [this]
theorem KM.At.store(h:m.At w b n f)(hn:n<1000000000){k:m.κ}{l:Lit}(hk:keyOf Try.prog m.K (m.kv k)=some l)(a:m.α)(g:m.κ→Option m.α)(hg1:g k=some a)(hg2:∀ j,j≠k→g j=f j) :
  ∃ w',(Instr.mapUpdate m.T (.map (some b)) (m.kv k) (m.vv a)).run Try.prog w=.ok () w'∧m.At w' b (n+1) g∧w.grownBy w' (some b)∧w'.heap.size=w.heap.size:=by
 obtain ⟨D,h,hI,hD⟩:=h
 obtain ⟨w',hrun,h1,h2⟩:=h.store m.law m.und (by unfold maxLen;omega) hk (m.hR a)
 refine ⟨w',hrun,⟨_,h1,hI.put _ _,fun j l' hj=>?_⟩,h2.grown,?_⟩
 ·by_cases e:j=k
  ·subst e
   obtain rfl:l'=l:=by rw [hk] at hj;cases hj;rfl
   rw [hg1]
   exact ⟨has_put_same hI (m.law.key hk) _,fun z=>atKey_put_same hI (m.law.key hk) _ z⟩
  ·have hne:l'≠l:=fun e2=>e (m.kinj _ _ (m.law.inj hj (e2▸hk)))
   rw [hg2 j e,has_put_other hne]
   exact ⟨(hD j l' hj).1,fun z=>by rw [atKey_put_other hne];exact (hD j l' hj).2 z⟩
 ·obtain ⟨es,clock,es',clock',hb,rfl⟩:=h2
  simp [ChangeMaps.setBlock]
end
def KM.Rng(m:KM)(w:World)(b r n:Nat)(f:m.κ→Option m.α)(left:m.κ→Prop)(cnt:Nat):Prop:=∃ D lf,w.ranges Try.prog m.K m.R b r n D lf cnt∧∀ k l,keyOf Try.prog m.K (m.kv k)=some l→(lf l=true↔left k)∧∀ z,D.atKey l z=((f k).map m.dt).getD z
section
variable {m:KM} {w w':World} {b r n:Nat} {f:m.κ→Option m.α} {left:m.κ→Prop} {cnt:Nat}
theorem KM.Rng.lt(h:m.Rng w b r n f left cnt):r<w.heap.size:=by
 obtain ⟨D,lf,h,_⟩:=h
 exact World.ranges.lt h
theorem KM.Rng.keep(h:m.Rng w b r n f left cnt){row:Option Nat}(hg:w.grownBy w' row)(h1:row≠some b)(h2:row≠some r):m.Rng w' b r n f left cnt:=by
 obtain ⟨D,lf,h,k⟩:=h
 exact ⟨D,lf,World.ranges.kept h hg h1.symm h2.symm,k⟩
theorem KM.Rng.left_eq(h:m.Rng w b r n f left cnt):w.rangeLeft b r=cnt:=by
 obtain ⟨D,lf,h,_⟩:=h
 exact World.ranges.left_eq h
variable {ops:Array Oper} {rest:List Oper} {o:Oper} {a:Act} {Q:Exit→Act→World→Prop}
theorem Qff(w:World)(hg:o.guard=none)(x:Operand)(hop:o.op=Op.range m.T x)(hm:a.eval x=.map (some b))(h:m.At w b n f)
  (hK:∀ w',m.Rng w' b w.heap.size n f (fun k=>(f k).isSome=true) (w'.rangeLeft b w.heap.size)→w.grownBy w' none→w'.heap.size=w.heap.size+1→wpList Try.prog ops Q rest (a.put o.dst (.pointer (some ⟨w.heap.size,0,none⟩))) w'):wpList Try.prog ops Q (o::rest) a w:=by
 obtain ⟨D,h,hI,hD⟩:=h
 refine wpList_range_own w hg x m.T hop m.K m.E m.law m.und m.R b n D hm h fun w' h1 h2 h3=>hK w' ⟨D,Maps.has D,?_,fun k l hk=>⟨by rw [(hD k l hk).1],(hD k l hk).2⟩⟩ h2 h3
 rw [h1.left_eq]
 exact h1
theorem Qg1(w:World)(hg:o.guard=none)(it:Operand)(hop:o.op=Op.next it false)(hit:a.eval it=.pointer (some ⟨r,0,none⟩))(h:m.Rng w b r n f left cnt)
  (hDone:cnt=0→(∀ k l,keyOf Try.prog m.K (m.kv k)=some l→¬ left k)→wpList Try.prog ops Q rest (a.put o.dst (.tuple #[.bool false])) w)
  (hMore:∀ (k:m.κ) (c:m.α) (w':World) (cnt':Nat),(∃ l,keyOf Try.prog m.K (m.kv k)=some l)→left k→f k=some c→m.Rng w' b r n f (fun j=>left j∧j≠k) cnt'→cnt'<cnt→w.grownBy w' (some r)→w'.heap.size=w.heap.size →
   (Instr.entry (.pointer (some ⟨r,0,none⟩))).run Try.prog w'=.ok (.tuple #[m.kv k,m.vv c]) w'→wpList Try.prog ops Q rest (a.put o.dst (.tuple #[.bool true,m.kv k,m.vv c])) w'):wpList Try.prog ops Q (o::rest) a w:=by
 obtain ⟨D,lf,h,hD⟩:=h
 refine wpList_next_ranges w hg it hop m.K m.law m.R m.kv m.vv m.kinv (fun v y hv=>(m.inv v y hv).imp fun _ e=>e.1) b r n D lf cnt hit h (fun h0 hl=>hDone h0 fun k l hk hlk=>?_) ?_
 ·have:=((hD k l hk).1).2 hlk
  rw [hl l] at this
  cases this
 ·intro k c kl y w' cnt' hkey hlk hv hat hrg hlt hgr hsz hen
  obtain ⟨h1,h2⟩:=hD k kl hkey
  have hy:y.1=m.dt c:=by
   obtain ⟨c',e1,e2⟩:=m.inv _ _ hv
   have:=m.hR c
   rw [hv] at this
   cases this
   rfl
  have hf:f k=some c:=by
   cases e:f k with
   | none =>
    rw [e] at h2
    have a1:=(hat .nil).symm.trans (h2 .nil)
    have a2:=(hat (.slice [] [])).symm.trans (h2 (.slice [] []))
    rw [a1] at a2
    cases a2
   | some c' =>
    rw [e] at h2
    have a1:=(hat .nil).symm.trans (h2 .nil)
    rw [hy] at a1
    rw [m.inj _ _ a1]
  refine hMore k c w' cnt' ⟨kl,hkey⟩ (h1.1 hlk) hf ⟨D,_,hrg,fun j l hj=>⟨?_,(hD j l hj).2⟩⟩ hlt hgr hsz hen
  simp only [Bool.and_eq_true,Bool.not_eq_true']
  rw [(hD j l hj).1]
  constructor
  ·rintro ⟨a1,a2⟩
   refine ⟨a1,fun e=>?_⟩
   subst e
   rw [hkey] at hj
   cases hj
   rw [WideAt.sameKey_self (m.law.key hkey)] at a2
   cases a2
  ·rintro ⟨a1,a2⟩
   refine ⟨a1,Maps.sameKey_ne fun e=>a2 (m.kinj _ _ (m.law.inj hj (e▸hkey)))⟩
end
/-! ### the three kinds -/
def numR:Value→Option (DataW Unit×List MemPlace)
 | .int .i64 x=>some (.lit (.int .i64 x),[])
 | _=>none
def thgR:Value→Option (DataW Unit×List MemPlace)
 | .agg ⟨[.int .i64 x,.int .i64 y]⟩=>some (.agg [.lit (.int .i64 x),.lit (.int .i64 y)],[])
 | _=>none
def knV(k:Int×ByteArray):Value:=.agg #[.int .i64 k.1,.string k.2]
def thV(k:Int×Int):Value:=.agg #[.int .i64 k.1,.int .i64 k.2]
theorem Qju(v:Value)(y:DataW Unit×List MemPlace)(h:numR v=some y):∃ a,v=Value.int .i64 a∧y.1=.lit (.int .i64 a):=by
 unfold numR at h
 split at h
 ·cases h;exact ⟨_,rfl,rfl⟩
 ·cases h
theorem thgR_inv(v:Value)(y:DataW Unit×List MemPlace)(h:thgR v=some y):∃ a:Int×Int,v=thV a∧y.1=.agg [.lit (.int .i64 a.1),.lit (.int .i64 a.2)]:=by
 unfold thgR at h
 split at h
 ·rename_i x y
  cases h;exact ⟨(x,y),rfl,rfl⟩
 ·cases h
theorem Qoa(v:Value)(l:Lit)(h:keyOf Try.prog 102 v=some l):∃ a,v=knV a:=by
 obtain ⟨d,hd⟩:∃ d,Try.prog.types.size+1=d+2:=⟨Try.prog.types.size-1,by have:1≤Try.prog.types.size:=of_decide_eq_true (by kernel_rfl);omega⟩
 have c1:Try.prog.cellsOf 102=2:=by kernel_rfl
 have c2:Try.prog.cellsOf 3=1:=by kernel_rfl
 have c3:Try.prog.cellsOf 9=1:=by kernel_rfl
 unfold keyOf at h
 rw [Try.underlying102] at h
 dsimp only at h
 split at h
 ·rename_i hc
  simp only [Bool.and_eq_true] at hc
  rw [hd] at h
  obtain ⟨ls,h1,_⟩:=Option.map_eq_some_iff.1 h
  unfold Program.keyLits at h1
  rw [Try.underlying102] at h1
  have hf:=hc.2
  cases v
  case agg cs =>
   obtain ⟨cl⟩:=cs
   simp only [Value.cells] at h1
   rw [c1] at h1
   match cl,h1 with
   | [x,y],h1 =>
    cases ha:Try.prog.keyLits (d+1) 3 [x] with
    | none=>simp [c2,c3,ha] at h1
    | some la =>
     cases hb:Try.prog.keyLits (d+1) 9 [y] with
     | none=>simp [c2,c3,ha,hb] at h1
     | some lb =>
      unfold Program.keyLits at ha hb
      rw [Try.underlying3] at ha
      rw [Try.underlying9] at hb
      cases x <;> simp at ha
      cases y <;> simp at hb
      rename_i q i s
      obtain ⟨⟨rfl,_⟩,_⟩:=ha
      exact ⟨(i,s),rfl⟩
   | [],h1=>simp at h1
   | [x],h1=>simp at h1
   | x::y::z::r,h1=>simp at h1
  all_goals (simp [Value.formed,Try.underlying102] at hf)
 ·cases h
theorem laidOutS:laidOutB Try.prog=true:=by kernel_rfl
theorem Qob:Keyed Try.prog 102:=Keyed.of_law (deep_law_gate laidOutS (of_decide_eq_true (by kernel_rfl)) (of_decide_eq_true (by kernel_rfl)) (by kernel_rfl) (by kernel_rfl))
def mNum:KM where
 κ:=ByteArray
 α:=Int
 K:=9
 E:=3
 T:=62
 kv:=Value.string
 vv:=Value.int .i64
 R:=numR
 dt:=fun x=>.lit (.int .i64 x)
 z:=0
 law:=string_keyed Try.underlying9
 und:=by kernel_rfl
 zero:=fun w=>by kernel_rfl
 hR:=fun a=>rfl
 inv:=Qju
 inj:=fun a b h=>by injection h with h;injection h
 kinj:=fun a b h=>by injection h
 kinv:=fun v l h=>by
  obtain ⟨s,rfl,_⟩:=WideMaps.string_of_keyOf Try.underlying9 h
  exact ⟨s,rfl⟩
def Qhb:KM where
 κ:=Int×ByteArray
 α:=Int
 K:=102
 E:=3
 T:=59
 kv:=knV
 vv:=Value.int .i64
 R:=numR
 dt:=fun x=>.lit (.int .i64 x)
 z:=0
 law:=Qob
 und:=by kernel_rfl
 zero:=fun w=>by kernel_rfl
 hR:=fun a=>rfl
 inv:=Qju
 inj:=fun a b h=>by injection h with h;injection h
 kinj:=fun a b h=>by
  obtain ⟨a1,a2⟩:=a
  obtain ⟨b1,b2⟩:=b
  unfold knV at h
  injection h with h
  simp at h
  rw [h.1,h.2]
 kinv:=Qoa
def mOwn:KM where
 κ:=Int×ByteArray
 α:=Int×Int
 K:=102
 E:=107
 T:=58
 kv:=knV
 vv:=thV
 R:=thgR
 dt:=fun x=>.agg [.lit (.int .i64 x.1),.lit (.int .i64 x.2)]
 z:=(0,0)
 law:=Qob
 und:=by kernel_rfl
 zero:=fun w=>by kernel_rfl
 hR:=fun a=>rfl
 inv:=thgR_inv
 inj:=fun a b h=>by
  obtain ⟨a1,a2⟩:=a
  obtain ⟨b1,b2⟩:=b
  simp at h
  rw [h.1,h.2]
 kinj:=Qhb.kinj
 kinv:=Qoa
theorem keyS{s:ByteArray}(hs:s.size≤1000000):∃ l,keyOf Try.prog 9 (.string s)=some l:=⟨_,WideMaps.keyOf_string_mk Try.underlying9 (by unfold maxLen;omega)⟩
theorem keyN{i:Int}{s:ByteArray}(h1:-9223372036854775808≤i)(h2:i≤9223372036854775807)(hs:s.size≤1000000):∃ l,keyOf Try.prog 102 (knV (i,s))=some l:=by
 have e1:Try.prog.keyType 102=true:=by kernel_rfl
 have e3:(knV (i,s)).formed Try.prog 102=true:=by kernel_rfl
 have hw:(Lit.int .i64 i).wf=true:=WalkArith.wf_i64 ⟨h1,h2⟩
 have hm:s.size≤maxLen:=by unfold maxLen;omega
 obtain ⟨d,hd⟩:∃ d,Try.prog.types.size+1=d+2:=⟨Try.prog.types.size-1,by have:1≤Try.prog.types.size:=of_decide_eq_true (by kernel_rfl);omega⟩
 have c1:Try.prog.cellsOf 102=2:=by kernel_rfl
 have c2:Try.prog.cellsOf 3=1:=by kernel_rfl
 have c3:Try.prog.cellsOf 9=1:=by kernel_rfl
 have k1:Try.prog.keyLits (d+1) 3 [.int .i64 i]=some [.int .i64 i]:=by
  unfold Program.keyLits
  rw [Try.underlying3]
  simp [hw]
 have k2:Try.prog.keyLits (d+1) 9 [.string s]=some [.string s.data.toList]:=by
  unfold Program.keyLits
  rw [Try.underlying9]
  simp [hm]
 have k3:Try.prog.keyLits (d+2) 102 [.int .i64 i,.string s]=some [.int .i64 i,.string s.data.toList]:=by
  unfold Program.keyLits
  rw [Try.underlying102]
  simp [c1,c2,c3,k1,k2]
 unfold keyOf
 rw [Try.underlying102]
 dsimp only
 rw [if_pos (by rw [e1,e3];rfl),hd]
 show ∃ l,((Try.prog.keyLits (d+2) 102 [.int .i64 i,.string s]).map _)=some l
 rw [k3]
 exact ⟨_,rfl⟩
end Go.Proofs.Ytjoclbeoafeebaa
namespace Go.Proofs.Ytjoclbeoafeebaa
set_option linter.unusedVariables false
set_option linter.unusedSimpArgs false
open Go.RowKit
/-! ### what leads where,through more and more modules -/
def war(t:Nat)(R:Nat→Nat→Bool):Nat→Nat→Bool:=fun i j=>R i j || (R i t&&R t j)
def warN(R:Nat→Nat→Bool):Nat→Nat→Nat→Bool
 | 0=>R
 | t+1=>war t (warN R t)
theorem Qih{R:Nat→Nat→Bool}{t i j:Nat}:war t R i j=true↔R i j=true∨R i t=true∧R t j=true:=by
 unfold war
 rw [Bool.or_eq_true,Bool.and_eq_true]
theorem Qcz{R:Nat→Nat→Bool}{i j:Nat}(h:R i j=true):∀ t,warN R t i j=true
 | 0=>h
 | t+1=>Qih.2 (.inl (Qcz h t))
theorem Qd9{R:Nat→Nat→Bool}:∀ t {k i j:Nat},k<t→warN R t i k=true→warN R t k j=true→warN R t i j=true
 | 0,k,i,j,hk,_,_=>absurd hk (Nat.not_lt_zero _)
 | t+1,k,i,j,hk,h1,h2=>by
  have ih:=fun {k i j:Nat}=>Qd9 (R:=R) t (k:=k) (i:=i) (j:=j)
  rw [warN,Qih] at h1 h2 ⊢
  rcases Nat.lt_succ_iff_lt_or_eq.1 hk with hk | rfl
  ·rcases h1 with h1 | ⟨h1,h3⟩ <;> rcases h2 with h2 | ⟨h2,h4⟩
   ·exact .inl (ih hk h1 h2)
   ·exact .inr ⟨ih hk h1 h2,h4⟩
   ·exact .inr ⟨h1,ih hk h3 h2⟩
   ·exact .inr ⟨h1,h4⟩
  ·have h3:warN R k i k=true:=by rcases h1 with h | ⟨h,_⟩ <;> exact h
   have h4:warN R k k j=true:=by rcases h2 with h | ⟨_,h⟩ <;> exact h
   exact .inr ⟨h3,h4⟩
def edB(E:List (Nat×Nat)):Nat→Nat→Bool:=fun i j=>decide ((i,j)∈E)
theorem U5{E:List (Nat×Nat)}{i j:Nat}:edB E i j=true↔(i,j)∈E:=by unfold edB;rw [decide_eq_true_eq]
section
variable {E:List (Nat×Nat)} {n:Nat}
theorem Ug:∀ t {i j:Nat},warN (edB E) t i j=true→∃ k,(i,k)∈E∧Gr E k j
 | 0,i,j,h=>⟨j,U5.1 h,.refl _⟩
 | t+1,i,j,h=>by
  rw [warN,Qih] at h
  rcases h with h | ⟨h1,h2⟩
  ·exact Ug t h
  ·obtain ⟨a,ha,ga⟩:=Ug t h1
   obtain ⟨b,hb,gb⟩:=Ug t h2
   exact ⟨a,ha,(Gr.step ga hb).trans gb⟩
theorem warN_all(hE:∀ p∈E,p.1<n){a c:Nat}(h:Gr E a c):a=c∨warN (edB E) n a c=true:=by
 induction h with
 | refl=>exact .inl rfl
 | step hg hp ih =>
  rename_i b c
  have h1:warN (edB E) n b c=true:=Qcz (U5.2 hp) n
  rcases ih with rfl | ih
  ·exact .inr h1
  ·exact .inr (Qd9 n (hE _ hp) ih h1)
theorem far_iff(hE:∀ p∈E,p.1<n∧p.2<n){f i:Nat}(hp:(i,f)∈E):warN (edB E) n f i=Jb E f n i:=by
 have hf:f<n:=(hE _ hp).2
 rw [Bool.eq_iff_iff,Yj (fun p h=>(hE p h).2) hf]
 constructor
 ·intro h
  obtain ⟨k,hk,g⟩:=Ug n h
  exact (Gr.step (.refl _) hk).trans g
 ·intro h
  rcases warN_all (fun p h=>(hE p h).1) h with rfl | h
  ·exact Qcz (U5.2 hp) n
  ·exact h
end
def Qhc(t k:Nat)(R:Nat→Nat→Bool):Nat→Nat→Bool:=fun i j=>if i<k then war t R i j else R i j
theorem Qoc(t:Nat)(R:Nat→Nat→Bool):Qhc t 0 R=R:=by
 funext i j
 unfold Qhc
 rw [if_neg (Nat.not_lt_zero _)]
theorem warK_t{t k:Nat}{R:Nat→Nat→Bool}{j:Nat}:Qhc t k R t j=R t j:=by
 unfold Qhc war
 split
 ·cases R t t <;> cases R t j <;> rfl
 ·rfl
theorem Qod{t k:Nat}{R:Nat→Nat→Bool}{j:Nat}:Qhc t k R k j=R k j:=by
 unfold Qhc
 rw [if_neg (Nat.lt_irrefl _)]
/-! ### numbers as rows of bits -/
theorem otestS{x i:Nat}(hx:x<2^64)(hi:i<64):(bits .and .u64 ((x:Int) / 2^i) 1==1)=x.testBit i:=by
 have e:((x:Int) / 2^i)=((x / 2^i:Nat):Int):=by simp
 have h1:x / 2^i<18446744073709551616:=Nat.lt_of_le_of_lt (Nat.div_le_self _ _) hx
 have:=u64_and_nat (x / 2^i) 1 h1 (by decide)
 rw [e,show (1:Int)=((1:Nat):Int) from rfl,this,Nat.testBit_eq_decide_div_mod_eq,Nat.and_one_is_mod]
 by_cases h:x / 2^i % 2=1
 ·rw [h];rfl
 ·have:x / 2^i % 2=0:=by omega
  rw [this];rfl
theorem otestZ{x i:Nat}(hx:x<2^64)(hi:i<64):(bits .and .u64 ((x:Int) / 2^i) 1==0)=!x.testBit i:=by
 have e:((x:Int) / 2^i)=((x / 2^i:Nat):Int):=by simp
 have h1:x / 2^i<18446744073709551616:=Nat.lt_of_le_of_lt (Nat.div_le_self _ _) hx
 have:=u64_and_nat (x / 2^i) 1 h1 (by decide)
 rw [e,show (1:Int)=((1:Nat):Int) from rfl,this,Nat.testBit_eq_decide_div_mod_eq,Nat.and_one_is_mod]
 by_cases h:x / 2^i % 2=1
 ·rw [h];rfl
 ·have:x / 2^i % 2=0:=by omega
  rw [this];rfl
theorem highS{x j:Nat}(hx:x<2^64)(hj:64≤j):x.testBit j=false:=Nat.testBit_lt_two_pow (Nat.lt_of_lt_of_le hx (Nat.pow_le_pow_right (by decide) hj))
theorem andNotS{a b:Nat}(ha:a<2^64)(hb:b<2^64):(bits .andNot .u64 (a:Int) (b:Int)==0)=true↔∀ i,a.testBit i=true→b.testBit i=true:=by
 rw [u64_andNot_nat a b ha hb,beq_iff_eq]
 have e:18446744073709551615-b=2^64-(b+1):=by omega
 rw [e]
 constructor
 ·intro h i hi
  have h0:a &&& (2^64-(b+1))=0:=by omega
  have:=congrArg (fun z=>z.testBit i) h0
  simp only [Nat.testBit_and,Nat.zero_testBit,Nat.testBit_two_pow_sub_succ hb,hi,Bool.true_and] at this
  by_cases h64:i<64
  ·simpa [h64] using this
  ·rw [highS ha (by omega)] at hi
   cases hi
 ·intro h
  have:a &&& (2^64-(b+1))=0:=by
   refine Nat.eq_of_testBit_eq fun i=>?_
   rw [Nat.testBit_and,Nat.testBit_two_pow_sub_succ hb,Nat.zero_testBit]
   cases e:a.testBit i with
   | false=>rfl
   | true=>rw [h i e];simp
  omega
theorem powS{i:Nat}(hi:i<64):IntKind.u64.wrap ((2:Int)^i)=((2^i:Nat):Int):=by
 have h1:(2:Nat)^i<2^64:=Nat.pow_lt_pow_right (by decide) hi
 have e:((2:Int)^i)=((2^i:Nat):Int):=by simp
 rw [e]
 obtain ⟨y,hy⟩:∃ y,(2:Nat)^i=y:=⟨_,rfl⟩
 rw [hy] at h1 ⊢
 simp only [IntKind.wrap,IntKind.bits,IntKind.signed]
 exact Int.emod_eq_of_lt (by omega) (by omega)
theorem orS{x i:Nat}(hx:x<2^64)(hi:i<64):bits .or .u64 (x:Int) (IntKind.u64.wrap ((2:Int)^i))=((x ||| 2^i:Nat):Int):=by
 rw [powS hi]
 exact u64_or_nat _ _ hx (Nat.pow_lt_pow_right (by decide) hi)
theorem orT{x y:Nat}(hx:x<2^64)(hy:y<2^64):bits .or .u64 (x:Int) (y:Int)=((x ||| y:Nat):Int):=u64_or_nat _ _ hx hy
def t64(f:Nat→Nat):List Value:=(List.range 64).map fun i=>Value.int .u64 (f i:Int)
theorem Q8(f:Nat→Nat):(t64 f).length=64:=by simp [t64]
theorem U6(f:Nat→Nat){i:Nat}(h:i<64):(t64 f)[i]?=some (.int .u64 (f i:Int)):=by
 unfold t64
 rw [List.getElem?_map,List.getElem?_range h]
 rfl
def nup(f:Nat→Nat)(i v:Nat):Nat→Nat:=fun k=>if k=i then v else f k
theorem Qoe(f:Nat→Nat){i:Nat}(h:i<64)(v:Nat):(t64 f).set i (.int .u64 (v:Int))=t64 (nup f i v):=by
 apply List.ext_getElem?
 intro k
 rw [List.getElem?_set]
 by_cases hk:k<64
 ·rw [U6 _ hk,U6 _ hk,Q8]
  unfold nup
  by_cases e:i=k
  ·subst e
   simp [h]
  ·rw [if_neg e,if_neg (fun h=>e h.symm)]
 ·have h1:(t64 f)[k]?=none:=List.getElem?_eq_none (by rw [Q8];omega)
  have h2:(t64 (nup f i v))[k]?=none:=List.getElem?_eq_none (by rw [Q8];omega)
  rw [if_neg (by omega),h1,h2]
theorem U7(f:Nat→Nat):∀ u∈t64 f,u.oneCell'=true:=by
 intro u hu
 unfold t64 at hu
 obtain ⟨i,_,rfl⟩:=List.mem_map.1 hu
 rfl
structure Bm (l:Nat→Nat) (R:Nat→Nat→Bool):Prop where
 lt:∀ i,l i<2^64
 bit:∀ i j,j<64→(l i).testBit j=R i j
theorem Bm.zero:Bm (fun _=>0) (fun _ _=>false):=⟨fun _=>by decide,fun i j _=>Nat.zero_testBit j⟩
theorem Bm.step{l:Nat→Nat}{t k:Nat}{R:Nat→Nat→Bool}(h:Bm l (Qhc t k R))(ht:t<64) :
  ((l k).testBit t=true→Bm (nup l k (l k ||| l t)) (Qhc t (k+1) R))∧((l k).testBit t=false→Bm l (Qhc t (k+1) R)):=by
 have hk:=h.bit k t ht
 rw [Qod] at hk
 constructor
 ·intro hb
  rw [hk] at hb
  refine ⟨fun i=>?_,fun i j hj=>?_⟩
  ·unfold nup
   split
   ·exact Nat.or_lt_two_pow (h.lt _) (h.lt _)
   ·exact h.lt i
  ·unfold nup
   by_cases e:i=k
   ·subst e
    rw [if_pos rfl,Nat.testBit_or,h.bit i j hj,h.bit t j hj,Qod,warK_t]
    unfold Qhc war
    rw [if_pos (Nat.lt_succ_self _),hb,Bool.true_and]
   ·rw [if_neg e,h.bit i j hj]
    unfold Qhc
    by_cases hi:i<k
    ·rw [if_pos hi,if_pos (by omega)]
    ·rw [if_neg hi,if_neg (by omega)]
 ·intro hb
  rw [hk] at hb
  refine ⟨h.lt,fun i j hj=>?_⟩
  rw [h.bit i j hj]
  unfold Qhc
  by_cases e:i=k
  ·subst e
   rw [if_neg (Nat.lt_irrefl _),if_pos (Nat.lt_succ_self _)]
   unfold war
   rw [hb,Bool.false_and,Bool.or_false]
  ·by_cases hi:i<k
   ·rw [if_pos hi,if_pos (by omega)]
   ·rw [if_neg hi,if_neg (by omega)]
def Qc0(n:Nat)(R:Nat→Nat→Bool):Prop:=∀ i j,n≤i→R i j=false
theorem Qc0.war{n t:Nat}{R:Nat→Nat→Bool}(h:Qc0 n R):Qc0 n (war t R):=fun i j hi=>by
 unfold Go.Proofs.Ytjoclbeoafeebaa.war
 rw [h i j hi,h i t hi]
 rfl
theorem Qc0.warN{n:Nat}{R:Nat→Nat→Bool}(h:Qc0 n R):∀ t,Qc0 n (warN R t)
 | 0=>h
 | t+1=>(Qc0.warN h t).war
theorem Qc0.all{n t:Nat}{R:Nat→Nat→Bool}(h:Qc0 n R):Qhc t n R=Go.Proofs.Ytjoclbeoafeebaa.war t R:=by
 funext i j
 unfold Qhc
 split
 ·rfl
 ·rename_i hi
  rw [h i j (by omega),h.war i j (by omega)]
theorem Qof{N:List ByteArray}{M:List SMd}:Qc0 M.length (edB (edg N M)):=fun i j hi=>by
 rw [Bool.eq_false_iff]
 intro h
 obtain ⟨m,hm,_⟩:=K4.1 (U5.1 h)
 have:=(List.getElem?_eq_some_iff.1 hm).1
 omega
/-! ### the order,by bits -/
structure Dn (d:Nat) (D:List Nat):Prop where
 lt:d<2^64
 bit:∀ j,j<64→d.testBit j=D.contains j
theorem Dn.zero:Dn 0 []:=⟨by decide,fun j _=>Nat.zero_testBit j⟩
theorem Dn.add{d:Nat}{D:List Nat}(h:Dn d D){i:Nat}(hi:i<64):Dn (d ||| 2^i) (D++[i]):=by
 refine ⟨Nat.or_lt_two_pow h.lt (Nat.pow_lt_pow_right (by decide) hi),fun j hj=>?_⟩
 rw [Nat.testBit_or,h.bit j hj,Nat.testBit_two_pow]
 simp only [List.contains_append]
 congr 1
 by_cases e:i=j
 ·subst e;simp
 ·have:¬ j=i:=fun h=>e h.symm
  simp [e,this]
theorem Qk1{E:List (Nat×Nat)}{n:Nat}(hE:∀ p∈E,p.1<n∧p.2<n)(hn:n≤64){d:Nat}{D:List Nat}(hd:Dn d D){l:Nat→Nat}(hl:Bm l (edB E)){i:Nat}(hi:i<n) :
  Y3 E D i=((bits .and .u64 ((d:Int) / 2^i) 1==0)&&(bits .andNot .u64 (l i:Int) (d:Int)==0)):=by
 rw [Bool.eq_iff_iff,Qan,Bool.and_eq_true,andNotS (hl.lt i) hd.lt,otestZ hd.lt (by omega),hd.bit i (by omega)]
 constructor
 ·rintro ⟨h1,h2⟩
  refine ⟨by simpa using h1,fun j hj=>?_⟩
  have hj64:j<64:=by
   refine Classical.byContradiction fun hn=>?_
   rw [highS (hl.lt i) (by omega)] at hj
   cases hj
  rw [hl.bit i j hj64,U5] at hj
  rw [hd.bit j hj64]
  simpa using h2 _ hj rfl
 ·rintro ⟨h1,h2⟩
  refine ⟨by simpa using h1,fun p hp e=>?_⟩
  subst e
  have h64:p.2<64:=by have:=(hE p hp).2;omega
  have:=h2 p.2 (by rw [hl.bit _ _ h64,U5];exact hp)
  rw [hd.bit _ h64] at this
  simpa using this
/-! ### maps that are laid module by module -/
section
variable {α:Type}
def Y5(F:SMd→ByteArray→Option α)(M:List SMd)(i:Nat)(cur:ByteArray→Option α):Int×ByteArray→Option α:=fun k =>
 if k.1<0 then none else if k.1.toNat<i then (M[k.1.toNat]?).bind fun m=>F m k.2 else if k.1.toNat=i then cur k.2 else none
theorem Z5{F:SMd→ByteArray→Option α}{M:List SMd}{i:Nat}{cur:ByteArray→Option α}{s:ByteArray}:Y5 F M i cur ((i:Int),s)=cur s:=by
 unfold Y5
 have h1:¬ ((i:Int)<0):=by omega
 simp [h1]
theorem Qbc{F:SMd→ByteArray→Option α}{M:List SMd}{i:Nat}{cur cur':ByteArray→Option α}{s:ByteArray}(hc:∀ t,t≠s→cur' t=cur t){k:Int×ByteArray}(hk:k≠((i:Int),s)):Y5 F M i cur' k=Y5 F M i cur k:=by
 unfold Y5
 by_cases h0:k.1<0
 ·rw [if_pos h0,if_pos h0]
 ·rw [if_neg h0,if_neg h0]
  by_cases h1:k.1.toNat<i
  ·rw [if_pos h1,if_pos h1]
  ·rw [if_neg h1,if_neg h1]
   by_cases h2:k.1.toNat=i
   ·rw [if_pos h2,if_pos h2]
    refine hc _ fun e=>hk ?_
    have:k.1=(i:Int):=by omega
    rw [← this,← e]
   ·rw [if_neg h2,if_neg h2]
theorem Qg2{F:SMd→ByteArray→Option α}{M:List SMd}{i:Nat}{m:SMd}(hm:M[i]?=some m):Y5 F M i (F m)=Y5 F M (i+1) (fun _=>none):=by
 funext k
 unfold Y5
 by_cases h0:k.1<0
 ·rw [if_pos h0,if_pos h0]
 ·rw [if_neg h0,if_neg h0]
  by_cases h1:k.1.toNat<i
  ·rw [if_pos h1,if_pos (by omega)]
  ·rw [if_neg h1]
   by_cases h2:k.1.toNat=i
   ·rw [if_pos h2,if_pos (by omega),h2,hm]
    rfl
   ·rw [if_neg h2,if_neg (by omega)]
    split <;> rfl
theorem Qg3{F:SMd→ByteArray→Option α}{M:List SMd}:Y5 F M 0 (fun _=>none)=fun _=>none:=by
 funext k
 unfold Y5
 split
 ·rfl
 ·split
  ·omega
  ·split <;> rfl
end
def Qii(N D:List ByteArray)(s:ByteArray):Option Int:=if (Zg D s).isSome=true then some (Zl N s:Int) else none
def Qij(N:List ByteArray)(m:SMd):ByteArray→Option Int:=Qii N (m.im.map (·.1))
def Uh(nv:Nat)(D:List ByteArray)(s:ByteArray):Option (Int×Int):=(Zg D s).map fun p=>if p<nv then (0,(p:Int)) else (1,(p:Int)-(nv:Int))
def Qbd(m:SMd):ByteArray→Option (Int×Int):=Uh m.vs.length ((m.vs++m.fs).map (·.1))
theorem Qik{N D:List ByteArray}{s:ByteArray}:(Qii N D s).isSome=(Zg D s).isSome:=by
 unfold Qii
 cases h:(Zg D s).isSome <;> simp
theorem Z1{nv:Nat}{D:List ByteArray}{s:ByteArray}:(Uh nv D s).isSome=(Zg D s).isSome:=by
 unfold Uh
 cases Zg D s <;> rfl
theorem impD_nil(N:List ByteArray):Qii N []=fun _=>none:=rfl
theorem ownD_nil(nv:Nat):Uh nv []=fun _=>none:=rfl
theorem impD_new{N D:List ByteArray}{s:ByteArray}:Qii N (D++[s]) s=some (Zl N s:Int):=by
 unfold Qii
 rw [if_pos (Qy.2 (by simp))]
theorem impD_old{N D:List ByteArray}{s t:ByteArray}(h:t≠s):Qii N (D++[s]) t=Qii N D t:=by
 unfold Qii
 have:(Zg (D++[s]) t).isSome=(Zg D t).isSome:=by
  rw [Bool.eq_iff_iff,Qy,Qy]
  simp [h]
 rw [this]
theorem Qjv{nv:Nat}{D:List ByteArray}{s:ByteArray}(h:s∉D):Uh nv (D++[s]) s=some (if D.length<nv then (0,(D.length:Int)) else (1,(D.length:Int)-(nv:Int))):=by
 unfold Uh
 rw [Qb5 h,if_pos rfl]
 rfl
theorem Qjw{nv:Nat}{D:List ByteArray}{s t:ByteArray}(h:s∉D)(ht:t≠s):Uh nv (D++[s]) t=Uh nv D t:=by
 unfold Uh
 rw [Qb5 h,if_neg ht]
open Go.Maps
def scC(n:Nat)(mo mi:Nat)(la ef:Int):List Value:=[.int .i64 (n:Int),.map (some mo),.map (some mi),.int .i64 la,.int .i64 ef]
theorem Qea(w:World):(zeroValue 85).run Try.prog w=.ok (.agg (t64 fun _=>0).toArray) w:=by kernel_rfl
theorem Qog(w:World):(zeroValue 102).run Try.prog w=.ok (.agg #[.int .i64 0,.string ⟨#[]⟩]) w:=by kernel_rfl
theorem Qoh(w:World):(zeroValue 107).run Try.prog w=.ok (.agg #[.int .i64 0,.int .i64 0]) w:=by kernel_rfl
theorem Qoi:(Try.prog.info? 85).map (·.size)=some 64:=by kernel_rfl
theorem Ui(f:Nat→Nat):(Try.prog.info? 85).map (·.size)=some (t64 f).length:=by rw [Q8];exact Qoi
theorem Kj(f:Nat→Nat):(Try.prog.info? 85).map (·.size)=some (t64 f).toArray.size:=by rw [show (t64 f).toArray.size=64 from Q8 f];exact Qoi
theorem Uj{cs us:List Value}(h:us.length=cs.length):spl cs 0 us=us:=by simp [spl,h]
theorem Qg4{w:World}{b n:Nat}{f:Int×ByteArray→Option Int}(h:Qhb.At w b n f){i:Int}{s:ByteArray}(h1:-9223372036854775808≤i)(h2:i≤9223372036854775807)(hs:s.size≤1000000) :
  (Instr.lookup 59 (.map (some b)) (.agg #[.int .i64 i,.string s]) true).run Try.prog w=.ok (.tuple #[.int .i64 ((f (i,s)).getD 0),.bool (f (i,s)).isSome]) w:=by
 obtain ⟨l,hl⟩:=keyN h1 h2 hs
 exact h.looks (k:=(i,s)) hl
theorem Jl{w:World}{b n:Nat}{f:Int×ByteArray→Option (Int×Int)}(h:mOwn.At w b n f){i:Int}{s:ByteArray}(h1:-9223372036854775808≤i)(h2:i≤9223372036854775807)(hs:s.size≤1000000) :
  (Instr.lookup 58 (.map (some b)) (.agg #[.int .i64 i,.string s]) true).run Try.prog w=.ok (.tuple #[.agg #[.int .i64 ((f (i,s)).getD (0,0)).1,.int .i64 ((f (i,s)).getD (0,0)).2],.bool (f (i,s)).isSome]) w:=by
 obtain ⟨l,hl⟩:=keyN h1 h2 hs
 exact h.looks (k:=(i,s)) hl
theorem Qc1{w:World}{b n:Nat}{f:ByteArray→Option Int}(h:mNum.At w b n f){s:ByteArray}(hs:s.size≤1000000) :
  (Instr.lookup 62 (.map (some b)) (.string s) true).run Try.prog w=.ok (.tuple #[.int .i64 ((f s).getD 0),.bool (f s).isSome]) w:=by
 obtain ⟨l,hl⟩:=keyS hs
 exact h.looks (k:=s) hl
theorem num_look{w:World}{b n:Nat}{f:ByteArray→Option Int}(h:mNum.At w b n f){s:ByteArray}(hs:s.size≤1000000) :
  (Instr.lookup 62 (.map (some b)) (.string s) false).run Try.prog w=.ok (.int .i64 ((f s).getD 0)) w:=by
 obtain ⟨l,hl⟩:=keyS hs
 exact h.look (k:=s) hl
section
variable {ops:Array Oper} {rest:List Oper} {o:Oper} {a:Act} {Q:Exit→Act→World→Prop}
theorem Qg5(w:World){b r n:Nat}{f:Int×ByteArray→Option Int}{left:Int×ByteArray→Prop}{cnt:Nat}(hg:o.guard=none)(it:Operand)(hop:o.op=Op.next it false)(hit:a.eval it=.pointer (some ⟨r,0,none⟩))(h:Qhb.Rng w b r n f left cnt)
  (hDone:cnt=0→(∀ k l,keyOf Try.prog 102 (knV k)=some l→¬ left k)→wpList Try.prog ops Q rest (a.put o.dst (.tuple #[.bool false])) w)
  (hMore:∀ (i:Int) (s:ByteArray) (c:Int) (w':World) (cnt':Nat),(∃ l,keyOf Try.prog 102 (knV (i,s))=some l)→left (i,s)→f (i,s)=some c→Qhb.Rng w' b r n f (fun j=>left j∧j≠(i,s)) cnt'→cnt'<cnt→w.grownBy w' (some r)→w'.heap.size=w.heap.size →
   (Instr.entry (.pointer (some ⟨r,0,none⟩))).run Try.prog w'=.ok (.tuple #[.agg #[.int .i64 i,.string s],.int .i64 c]) w'→wpList Try.prog ops Q rest (a.put o.dst (.tuple #[.bool true,.agg #[.int .i64 i,.string s],.int .i64 c])) w'):wpList Try.prog ops Q (o::rest) a w:=
 Qg1 (m:=Qhb) w hg it hop hit h hDone fun k c w' cnt'=>hMore k.1 k.2 c w' cnt'
end
theorem Yv{w:World}{g n mo mi:Nat}{la ef:Int}(h:Var w g (scC n mo mi la ef)):CP 15 #[.pointer (some ⟨g,0,none⟩)] w fun e w'=>e=.returned (.int .i64 (n:Int))∧w=w':=by
 have c0:w.cell? ⟨g,0,none⟩=some (.int .i64 (n:Int)):=h.at 0 rfl
 clear h
 go_enter Try.func15,Try.ntmps15
 go_wp2
 go_ret
 exact ⟨rfl,rfl⟩
theorem Qb8(w:World):CP 15 #[.pointer none] w fun e w'=>e=.returned (.int .i64 0)∧w=w':=by
 go_enter Try.func15,Try.ntmps15
 go_wp2
 go_ret
 exact ⟨rfl,rfl⟩
structure Lk (F:Int×ByteArray→Option Int) (l:Nat→Nat) (left:Int×ByteArray→Prop):Prop where
 lt:∀ i,l i<2^64
 bit:∀ i j,j<64→((l i).testBit j=true↔∃ s,F ((i:Int),s)=some (j:Int)∧(∃ t,keyOf Try.prog 102 (knV ((i:Int),s))=some t)∧¬ left ((i:Int),s))
theorem Lk.zero(F:Int×ByteArray→Option Int):Lk F (fun _=>0) fun k=>(F k).isSome=true:=⟨fun _=>by decide,fun i j _=>by
 rw [Nat.zero_testBit]
 constructor
 ·intro h;cases h
 ·rintro ⟨s,h1,_,h2⟩
  exact absurd (by rw [h1];rfl) h2⟩
theorem Lk.add{F:Int×ByteArray→Option Int}{l:Nat→Nat}{left:Int×ByteArray→Prop}(h:Lk F l left){a b:Nat}{s:ByteArray}(hb:b<64)(hf:F ((a:Int),s)=some (b:Int))(hk:∃ t,keyOf Try.prog 102 (knV ((a:Int),s))=some t) :
  Lk F (nup l a (l a ||| 2^b)) fun k=>left k∧k≠((a:Int),s):=by
 refine ⟨fun i=>?_,fun i j hj=>?_⟩
 ·unfold nup
  split
  ·exact Nat.or_lt_two_pow (h.lt _) (Nat.pow_lt_pow_right (by decide) hb)
  ·exact h.lt i
 ·unfold nup
  by_cases e:i=a
  ·subst e
   rw [if_pos rfl,Nat.testBit_or,Bool.or_eq_true,h.bit i j hj,Nat.testBit_two_pow,decide_eq_true_eq]
   constructor
   ·rintro (⟨t,h1,h2,h3⟩ | rfl)
    ·exact ⟨t,h1,h2,fun h4=>h3 h4.1⟩
    ·exact ⟨s,hf,hk,fun h4=>h4.2 rfl⟩
   ·rintro ⟨t,h1,h2,h3⟩
    by_cases et:t=s
    ·subst et
     rw [hf] at h1
     right
     injection h1 with h1
     omega
    ·exact .inl ⟨t,h1,h2,fun h4=>h3 ⟨h4,fun e=>et (by injection e)⟩⟩
  ·rw [if_neg e,h.bit i j hj]
   constructor
   ·rintro ⟨t,h1,h2,h3⟩
    exact ⟨t,h1,h2,fun h4=>h3 h4.1⟩
   ·rintro ⟨t,h1,h2,h3⟩
    exact ⟨t,h1,h2,fun h4=>h3 ⟨h4,fun e2=>e (by injection e2 with e2;omega)⟩⟩
theorem Qg6{w:World}{g n mo mi k:Nat}{la ef:Int}{F:Int×ByteArray→Option Int}(hv:Var w g (scC n mo mi la ef))(hi:Qhb.At w mi k F)(hF:∀ i s c,F (i,s)=some c→∃ a b:Nat,i=(a:Int)∧c=(b:Int)∧a<64∧b<64) :
  CP 33 #[.pointer (some ⟨g,0,none⟩)] w fun e w'=>∃ l,e=.returned (.agg (t64 l).toArray)∧Lk F l (fun q=>¬ ∃ t,keyOf Try.prog 102 (knV q)=some t)∧Below w.heap.size w w':=by
 have hz:=Qea
 have hzn:=Qog
 have b0:Below w.heap.size w (w.alloc (.cells (t64 fun _=>0).toArray 85)):=bAl
 have V0:=Var.new w (t64 fun _=>0) 85 rfl
 have hi0:=hi.stay (b0.block mi hi.lt)
 have hv0:=hv.under b0
 have c2:(w.alloc (.cells (t64 fun _=>0).toArray 85)).cell? ⟨g,2,none⟩=some (.map (some mi)):=hv0.at 2 rfl
 have hs0:(w.alloc (.cells (t64 fun _=>0).toArray 85)).heap.size=w.heap.size+1:=by simp
 have hml:=hi.lt
 have HF:=Lh hF
 clear hv hi hv0 hF
 go_enter Try.func33,Try.ntmps33
 go_wp2_with (first
  | (at_range;refine Qff (m:=Qhb) _ rfl _ rfl rfl hi0 ?_;intro w0 hrg0 hg0 hs1)
  | go_in)
 go_frame
 rw [hs0] at hrg0
 rw [hs0]
 have HB0:=Lh (b0.trans ((show Below (w.alloc (.cells (t64 fun _=>0).toArray 85)).heap.size _ w0 from ⟨hg0.os,hg0.tape,hg0.output,hg0.size,fun i hi=>hg0.block i hi (by simp)⟩).mono b0.size))
 have HV0:=Lh (V0.keep (hg0.block w.heap.size (by rw [hs0];omega) (by simp)) hg0.size)
 have HL0:=Lh (Lk.zero F)
 have HR0:=Lh hrg0
 clear hz hi0 V0 c2 hg0 hs1 b0 hrg0 hs0
 go_loopw [3] (fun _ wr=>∃ l left cnt,Hid (Qhb.Rng wr mi (w.heap.size+1) k F left cnt)∧Hid (Var wr w.heap.size (t64 l))∧Hid (Lk F l left)∧Hid (Below w.heap.size w wr)) (fun _ wr=>wr.rangeLeft mi (w.heap.size+1))
 case atStart=>exact ⟨_,_,_,HR0,HV0,HL0,HB0⟩
 case round =>
  clear HR0 HV0 HL0 HB0
  obtain ⟨l,left,cnt,HR,HV,HL,HB⟩:=hrel
  go_wp2_with (first
   | (at_next;refine Qg5 _ rfl _ rfl rfl HR.out ?_ ?_)
   | go_in)
  ·intro hc0 hl0
   have HLE:=Lh (show Lk F l (fun q=>¬ ∃ t,keyOf Try.prog 102 (knV q)=some t) from ⟨HL.out.lt,fun i j hj=>by
    rw [HL.out.bit i j hj]
    constructor
    ·rintro ⟨s,h1,h2,_⟩
     exact ⟨s,h1,h2,fun h=>h h2⟩
    ·rintro ⟨s,h1,h2,_⟩
     obtain ⟨t,ht⟩:=h2
     exact ⟨s,h1,⟨t,ht⟩,hl0 _ _ t ht⟩⟩)
   clear hl0
   go_wp2_with (first
    | (refine Qb rfl 85 (.tmp 2) rfl w.heap.size 0 rfl (t64 l) HV.out.rg Try.underlying85 rfl (Ui l) ?_)
    | (refine Qa rfl 85 (.tmp 2) (.tmp 26) rfl (G:=w.heap.size) (off:=0) rfl (us:=t64 l) HV.out rfl (Kj l) (by rw [Q8];exact Nat.le_refl _) (U7 l) ?_;intro w90 ht hs;have HVD:=Lh hs;have HBD:=Lh (HB.out.trans (ht.below HB.out.size fun k hk e=>by omega));clear ht hs)
    | go_in)
   rw [Uj (by rw [Q8])] at HVD
   exact Qj 85 rfl rfl rfl HVD.out Try.underlying85 rfl (Ui l) ⟨l,rfl,HLE.out,HBD.out⟩
  ·intro i s c w1 cnt1 kk hkk hlx hf hrg1 hlt hg1 hs1 hen
   obtain ⟨a,b,rfl,rfl,ha,hb⟩:=HF.out _ _ _ hf
   have hrl:=HR.out.left_eq
   have HLA:=Lh (HL.out.add hb hf ⟨_,hkk⟩)
   have hrr:=HR.out.lt
   have V1:=HV.out.keep (hg1.block w.heap.size HV.out.lt (by intro e;injection e with e;omega)) hg1.size
   have HLt:=Lh HL.out.lt
   have b1:Below w1.heap.size w1 (w1.alloc (.cells #[.int .i64 (a:Int),.string s] 102)):=bAl
   have V2:=V1.under b1
   have R2:=hrg1.keep (row:=none) ⟨b1.os,b1.tape,b1.output,b1.size,fun i hi _=>b1.block i hi⟩ (by simp) (by simp)
   have B2:=Lh (HB.out.trans (show Below w.heap.size wr w1 from ⟨hg1.os,hg1.tape,hg1.output,hg1.size,fun i hi=>hg1.block i (Nat.lt_of_lt_of_le hi HB.out.size) (by intro e;injection e with e;omega)⟩))
   have c4:(w1.alloc (.cells #[.int .i64 (a:Int),.string s] 102)).cell? ⟨w1.heap.size,0,none⟩=some (.int .i64 (a:Int)):=(Var.new w1 [.int .i64 (a:Int),.string s] 102 rfl).at 0 rfl
   clear hlx hf hkk hs1
   go_wp2
   obtain ⟨w2,hw2⟩:∃ w2,w1.alloc (.cells #[.int .i64 (a:Int),.string s] 102)=w2:=⟨_,rfl⟩
   rw [hw2] at V2 R2 c4 b1
   rw [hw2]
   have c3:w2.cell? ⟨w.heap.size,a,none⟩=some (.int .u64 (l a:Int)):=V2.at a (U6 l ha)
   have f3:w2.frozen? ⟨w.heap.size,a,none⟩=false:=V2.fz a (by rw [Q8];exact ha)
   clear hw2
   go_region
   have V3:=V2.set a (.int .u64 (bits .or .u64 (l a:Int) (IntKind.u64.wrap ((2:Int)^b)))) (by rw [Q8];exact ha)
   have e3:=Qoe l ha (l a ||| 2^b)
   rw [← orS (HLt.out a) hb] at e3
   rw [e3] at V3
   have T3:Tn (fun j=>j=w.heap.size) w2 ((w2.setCell ⟨w.heap.size,a,none⟩ (.int .u64 (bits .or .u64 (l a:Int) (IntKind.u64.wrap ((2:Int)^b))))).drew):=(Tn.set (M:=fun j=>j=w.heap.size) w2 w.heap.size a _ rfl).trans (Tn.drew _ _)
   have B3:=B2.out.trans ((b1.mono B2.out.size).trans (T3.below (Nat.le_trans B2.out.size b1.size) fun j hj e=>by omega))
   have R3:=R2.keep T3.gb (by intro e;injection e with e;omega) (by intro e;injection e with e;omega)
   go_roundw
   case rel=>exact ⟨_,_,_,_,_,_,_,_,_,_,_,_,_,_,_,⟨_,_,_,Lh R3,Lh (V3.keep rfl nLe),HLA,Lh B3⟩,rfl⟩
   case measure=>rw [R3.left_eq,hrl];exact hlt
end Go.Proofs.Ytjoclbeoafeebaa
