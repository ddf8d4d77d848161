import Derived.Test.YtjoclbeoafeebaaStM
import Derived.Deep.RegionHeld3
namespace Go.Proofs.Ytjoclbeoafeebaa
set_option linter.unusedVariables false
set_option linter.unusedSimpArgs false
open Go.RowKit
theorem Qhs(x:An):∀ u∈anC x,u.oneCell'=true:=by
 intro u hu
 simp [anC] at hu
 rcases hu with rfl | rfl | rfl | rfl | rfl <;> rfl
section
variable {C:Cx} {G:Nat} {D:Int} {rv ov:Value} {w w':World} {x:Nat×Int}
end
theorem Tn.own{M:Nat→Prop}{K:Nat}{w w1 w2:World}(h:Tn M w w1)(ht:Tn (fun k=>k=K) w1 w2)(hK:w.heap.size≤K):Tn M w w2:=h.then_ ht fun i hi e=>by omega
structure Pe where
 b:Bk
 t:Tv
 av:Value
 al:List (St×Tv)
def Apt(a b:Value):Prop:=∀ k,a.ownBlock=some k→b.ownBlock≠some k
theorem Apt.symm{a b:Value}(h:Apt a b):Apt b a:=fun k h1 h2=>h k h2 h1
theorem Apt.none{a:Value}:Apt (.slice none 0 0) a:=fun k h=>by cases h
section
variable {G:Nat} {w w':World} {rv ov:Value} {rl:List (St×Tv)} {pl:List Pe}
end
section
variable {P:Program} {ops:Array Oper} {rest:List Oper} {o:Oper} {a:Act} {Q:Exit→Act→World→Prop}
theorem Qcg{K:Act→World→Prop}(s x:Operand)(t:TypeId)(ho:o.op=.call { callee:=.builtin .append,args:=#[s,x],argTypes:=#[t,t] })
  {e:TypeId} {size bytes:Nat} (hT:Kq P t e size bytes) (w:World) (B:Nat) (v:Value) (n:Nat) (xs us:List Value) (hs:a.eval s=v) (hown:Own w B e size v n xs)
  {G:Nat} (hx:a.eval x=.slice (some ⟨G,0,none⟩) 1 1) (hG:G=w.heap.size) (hl:us.length=size) (h1:∀ u∈us,u.oneCell'=true)
  (hlen:n≤1000000000) (hby:bytes≤256)
  (h:∀ v' w',Own w' B e size v' (n+1) (xs++us)→(w.alloc (.cells us.toArray e)).grownBy w' v.ownBlock→(v'.ownBlock=v.ownBlock∨v'.ownBlock=some (w.heap.size+1))→K (a.put o.dst v') w') :
  o.wp P a (w.alloc (.cells us.toArray e)) K Q:=by
 subst hG
 obtain ⟨ht,i,z,hi,hz,hsize,hbytes,hzs,hpos⟩:=hT
 have hbb:(n+1)*bytes≤140737488355328:=Nat.le_trans (Nat.mul_le_mul (show n+1≤1000000001 by omega) hby) (by decide)
 obtain ⟨v',w',hr,h2,h3,_,h5⟩:=run_append_own_at (P:=P) (w.alloc (.cells us.toArray e)) B t o.type e i z size bytes ht hi hz hsize hbytes hzs hpos v n xs (hown.1.alloc _) ⟨w.heap.size,0,none⟩ 1 1 us (by simpa using hl)
  (fun j y hj=>by
   rw [Addr.add_lit,Nat.zero_add,World.cell?_alloc_at _ _ _ _ rfl]
   simpa using hj) h1 (by unfold maxLen;omega) hbb (by have:=hown.2;simp;omega)
 have hge:B≤(w.alloc (.cells us.toArray e)).heap.size:=by have:=hown.2;simp;omega
 unfold Oper.wp execOp
 simp only [ho,resolve,invoke,builtin,Sem.run_bind,Sem.run_pure,Result.andThen_ok,List.map_toArray,List.map_cons,List.map_nil,hs,hx,hr]
 exact h v' w' ⟨h2,Nat.le_trans hge h3.size⟩ h3 (by simpa using h5)
theorem Ka{K:Act→World→Prop}{E:Prop}(hgd:Region.wanted o (yielded ops a.tmps)=true)(s x:Operand)(t:TypeId)(ho:o.op=.call { callee:=.builtin .append,args:=#[s,x],argTypes:=#[t,t] })
  {e:TypeId} {size bytes:Nat} (hT:Kq P t e size bytes) (w:World) (B:Nat) (v:Value) (n:Nat) (xs us:List Value) (hs:a.eval s=v) (hown:Own w B e size v n xs)
  {G:Nat} (hx:a.eval x=.slice (some ⟨G,0,none⟩) 1 1) (hG:G=w.heap.size) (hl:us.length=size) (h1:∀ u∈us,u.oneCell'=true)
  (hlen:n≤1000000000) (hby:bytes≤256)
  (h:∀ v' w',Own w' B e size v' (n+1) (xs++us)→(w.alloc (.cells us.toArray e)).grownBy w' v.ownBlock→(v'.ownBlock=v.ownBlock∨v'.ownBlock=some (w.heap.size+1))→K (a.put o.dst v') w') :
  if Region.wanted o (yielded ops a.tmps)=true then Oper.wp P o a (w.alloc (.cells us.toArray e)) K Q else E:=by
 rw [if_pos hgd]
 exact Qcg s x t ho hT w B v n xs us hs hown hx hG hl h1 hlen hby h
theorem Kb(hgd:Region.wanted o (yielded ops a.tmps)=true)(s x:Operand)(t:TypeId)(ho:o.op=.call { callee:=.builtin .append,args:=#[s,x],argTypes:=#[t,t] })
  {e:TypeId} {size bytes:Nat} (hT:Kq P t e size bytes) (w:World) (B:Nat) (v:Value) (n:Nat) (xs us:List Value) (hs:a.eval s=v) (hown:Own w B e size v n xs)
  {G:Nat} (hx:a.eval x=.slice (some ⟨G,0,none⟩) 1 1) (hG:G=w.heap.size) (hl:us.length=size) (h1:∀ u∈us,u.oneCell'=true)
  (hlen:n≤1000000000) (hby:bytes≤256)
  (h:∀ v' w',Own w' B e size v' (n+1) (xs++us)→(w.alloc (.cells us.toArray e)).grownBy w' v.ownBlock→(v'.ownBlock=v.ownBlock∨v'.ownBlock=some (w.heap.size+1))→wpList P ops Q rest (a.put o.dst v') w') :
  wpList P ops Q (o::rest) a (w.alloc (.cells us.toArray e)):=
 Jw hgd fun _ hK=>Qcg s x t ho hT w B v n xs us hs hown hx hG hl h1 hlen hby fun v' w' h2 h3 h4=>hK _ _ (h v' w' h2 h3 h4)
end
end Go.Proofs.Ytjoclbeoafeebaa
