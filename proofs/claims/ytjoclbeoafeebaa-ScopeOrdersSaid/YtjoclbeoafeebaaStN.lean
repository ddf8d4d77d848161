import Derived.Test.YtjoclbeoafeebaaMSb
import Derived.Test.YtjoclbeoafeebaaMHd
import Derived.Deep.RegionLaw
import Derived.Deep.RegionHeld3
import Derived.BigQuiet
import Derived.Test.YtjoclbeoafeebaaSq
import Derived.Test.YtjoclbeoafeebaaMSz
namespace Go.Proofs.Ytjoclbeoafeebaa
set_option linter.unusedVariables false
set_option linter.unusedSimpArgs false
open Go.RowKit
section
variable {G:Nat} {w w' w6:World} {rv av ov v6:Value} {rl al:List (St×Tv)} {pl:List Pe} {e:Pe}
end
theorem Own.set1{w:World}{B n size g c:Nat}{e:TypeId}{xs:List Value}(h:Own w B e size (.slice (some ⟨g,0,none⟩) n c) n xs)(j:Nat)(hj:j<n*size)(u:Value):Own (w.setCell ⟨g,j,none⟩ u) B e size (.slice (some ⟨g,0,none⟩) n c) n (xs.set j u):=by
 refine ⟨⟨by rw [List.length_set];exact h.1.1,?_⟩,by simpa using h.2⟩
 rcases h.1.2 with ⟨e1,e2⟩ | ⟨g',cap,cur,e1,h1,h2,h3,h4,h5,h6⟩
 ·cases e1
 ·injection e1 with a1 a2 a3
  injection a1 with a1
  injection a1 with a1
  subst a1
  subst a3
  refine .inr ⟨g,c,cur.setIfInBounds j u,rfl,h1,heap_setCell_same w g j cur e u h2,h3,h4,by simpa using h5,?_⟩
  rw [← h6,Array.toList_setIfInBounds,List.take_set]
theorem Own.sets{w:World}{B n size g c:Nat}{e:TypeId}:∀ (us xs ys:List Value) (w:World),Own w B e size (.slice (some ⟨g,0,none⟩) n c) n (xs++ys)→ys.length=us.length→Own (w.setCells g xs.length us) B e size (.slice (some ⟨g,0,none⟩) n c) n (xs++us)
 | [],xs,ys,w,h,hl=>by
  have:ys=[]:=List.eq_nil_of_length_eq_zero (by simpa using hl)
  subst this
  exact h
 | u::us,xs,ys,w,h,hl=>by
  match ys,hl with
  | y::ys,hl =>
   have hlen:=h.1.1
   have h1:=h.set1 xs.length (by rw [← hlen];simp) u
   rw [List.set_append_right _ _ nLe,Nat.sub_self] at h1
   have h2:Own (w.setCell ⟨g,xs.length,none⟩ u) B e size (.slice (some ⟨g,0,none⟩) n c) n ((xs++[u])++ys):=by simpa using h1
   have h3:=Own.sets (w:=w) us (xs++[u]) ys _ h2 (by simpa using hl)
   have e1:(xs++[u]).length=xs.length+1:=by simp
   rw [e1] at h3
   have h4:Own ((w.setCell ⟨g,xs.length,none⟩ u).setCells g (xs.length+1) us) B e size (.slice (some ⟨g,0,none⟩) n c) n (xs++u::us):=by simpa using h3
   exact h4
section
variable {P:Program} {md:Region.Mode} {Q:Exit→Act→World→Prop}
end
theorem Own.there{w:World}{B n size g c:Nat}{e:TypeId}{xs:List Value}(h:Own w B e size (.slice (some ⟨g,0,none⟩) n c) n xs){o k:Nat}(hk:o+k≤n*size):w.there g o k:=fun j hj=>by
 have hl:=h.1.1
 have h1:=h.1.cells (g:=g) rfl (o+j) (xs[o+j]'(by omega)) (List.getElem?_eq_getElem (by omega))
 rw [Addr.add_lit] at h1
 rw [Nat.zero_add] at h1
 refine ⟨by rw [h1];rfl,?_⟩
 rcases h.1.2 with ⟨e1,_⟩ | ⟨g',cap,cur,e1,_,h2,_⟩
 ·cases e1
 ·injection e1 with a1
  injection a1 with a1
  injection a1 with a1
  subst a1
  exact frozen_of_row w g _ cur e h2
section
variable {P:Program} {ops:Array Oper} {o:Oper} {a:Act} {w:World} {Q:Exit→Act→World→Prop} {K:Act→World→Prop} {E:Prop}
theorem Z2(hgd:Region.wanted o (yielded ops a.tmps)=true)(ty:TypeId)(x y:Operand)(ho:o.op=.store ty x y)(b off:Nat)(us:List Value)(hx:a.eval x=.pointer (some ⟨b,off,none⟩))(hy:a.eval y=.agg us.toArray)
  (ht:w.there b off us.length) (hi:(P.info? ty).map (·.size)=some us.length) (h1:∀ u∈us,u.oneCell'=true) (h:K (a.put o.dst undef) (w.setCells b off us)):if Region.wanted o (yielded ops a.tmps)=true then Oper.wp P o a w K Q else E:=by
 rw [if_pos hgd]
 refine wp_store_mid ty x y ho b off us.toArray hx hy (by simpa using ht) (by simpa using hi) (all_oneCell_toArray h1) ?_
 simpa using h
theorem Zb(hgd:Region.wanted o (yielded ops a.tmps)=true)(T:TypeId)(x y:Operand)(ho:o.op=.store T x y)(G off:Nat)(hx:a.eval x=.pointer (some ⟨G,off,none⟩)){v:Value}(hth:w.there G off 1)(hy:a.eval y=v)
  (hT:(P.info? T).map (·.size)=some 1) (h1:v.oneCell'=true) (h:K (a.put o.dst undef) (w.setCell ⟨G,off,none⟩ v)):if Region.wanted o (yielded ops a.tmps)=true then Oper.wp P o a w K Q else E:=by
 rw [if_pos hgd]
 have hrun:(storeVar T ⟨G,off,none⟩ v).run P w=.ok () (w.setCell ⟨G,off,none⟩ v):=by
  have:=run_storeCells_cells (P:=P) G off [v] 0 w (fun j hj=>by simpa using (hth j (by simpa using hj)).1) (fun j hj=>by simpa using (hth j (by simpa using hj)).2) (fun u hu=>by rw [List.mem_singleton.1 hu];exact h1)
  cases hq:P.info? T with
  | none=>simp [hq] at hT
  | some i =>
   have hs:1=i.size:=by simp [hq] at hT;omega
   simp only [Nat.add_zero] at this
   simp [storeVar,sizeOf,typeInfo,hq,Qf1 h1,← hs,this]
   rfl
 unfold Oper.wp execOp
 simp only [ho,hx,hy,Instr.storeAt,Instr.sureAddr,Sem.run_bind,Sem.run_pure,Result.andThen_ok,hrun]
 exact h
end
end Go.Proofs.Ytjoclbeoafeebaa
