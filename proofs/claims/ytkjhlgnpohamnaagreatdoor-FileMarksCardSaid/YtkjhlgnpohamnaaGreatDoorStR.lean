import Derived.Test.YtkjhlgnpohamnaaGreatDoorSq
import Derived.Test.YtkjhlgnpohamnaaGreatDoorMSe
import Derived.Test.YtkjhlgnpohamnaaGreatDoorMHd
namespace Go.Proofs.YtkjhlgnpohamnaaGreatDoor
set_option linter.unusedVariables false
set_option linter.unusedSimpArgs false
open Go.RowKit
theorem Own.set1 {w : World} {B n size g c : Nat} {e : TypeId} {xs : List Value} (h : Own w B e size (.slice (some ⟨g,0,none⟩) n c) n xs) (j : Nat) (hj : j < n * size) (u : Value) : Own (w.setCell ⟨g,j,none⟩ u) B e size (.slice (some ⟨g,0,none⟩) n c) n (xs.set j u):=by
 refine ⟨⟨by rw [List.length_set]; exact h.1.1,?_⟩,by simpa using h.2⟩
 rcases h.1.2 with ⟨e1,e2⟩ | ⟨g',cap,cur,e1,h1,h2,h3,h4,h5,h6⟩
 ·cases e1
 ·injection e1 with a1 a2 a3
  injection a1 with a1
  injection a1 with a1
  subst a1
  subst a3
  refine .inr ⟨g,c,cur.setIfInBounds j u,rfl,h1,heap_setCell_same w g j cur e u h2,h3,h4,by simpa using h5,?_⟩
  rw [← h6,Array.toList_setIfInBounds,List.take_set]
theorem Own.sets {w : World} {B n size g c : Nat} {e : TypeId} : ∀ (us xs ys : List Value) (w : World),Own w B e size (.slice (some ⟨g,0,none⟩) n c) n (xs ++ ys) → ys.length = us.length → Own (w.setCells g xs.length us) B e size (.slice (some ⟨g,0,none⟩) n c) n (xs ++ us)
 | [],xs,ys,w,h,hl => by
  have : ys = []:=List.eq_nil_of_length_eq_zero (by simpa using hl)
  subst this
  exact h
 | u :: us,xs,ys,w,h,hl => by
  match ys,hl with
  | y :: ys,hl =>
   have hlen:=h.1.1
   have h1:=h.set1 xs.length (by rw [← hlen]; simp) u
   rw [List.set_append_right _ _ nLe,Nat.sub_self] at h1
   have h2 : Own (w.setCell ⟨g,xs.length,none⟩ u) B e size (.slice (some ⟨g,0,none⟩) n c) n ((xs ++ [u]) ++ ys):=by simpa using h1
   have h3:=Own.sets (w:=w) us (xs ++ [u]) ys _ h2 (by simpa using hl)
   have e1 : (xs ++ [u]).length = xs.length + 1:=by simp
   rw [e1] at h3
   have h4 : Own ((w.setCell ⟨g,xs.length,none⟩ u).setCells g (xs.length + 1) us) B e size (.slice (some ⟨g,0,none⟩) n c) n (xs ++ u :: us):=by simpa using h3
   exact h4
theorem gb_elem {w w6 : World} {r : Option Nat} {g : Nat} (hg : w.grownBy w6 r) (hv : some g = r ∨ g = w.heap.size) (o : Nat) (us : List Value) : w.grownBy (w6.setCells g o us) r:=by
 have ht:=Tn.sets (M:=fun k => k = g) g us rfl o w6
 exact ⟨ht.os.trans hg.os,ht.tape.trans hg.tape,ht.output.trans hg.output,Nat.le_trans hg.size ht.size,fun i hi hn => (ht.block i (Nat.lt_of_lt_of_le hi hg.size) (fun e => by
  rcases hv with hv | hv
  ·exact hn (by rw [← hv,e])
  ·omega)).trans (hg.block i hi hn)⟩
section
variable {P : Program} {md : Region.Mode} {Q : Exit → Act → World → Prop}
def segN (md : Region.Mode) (ops : Array Oper) : Nat → Nat → Array Bool → Bool
 | 0,_,_ => true
 | m + 1,k,listed => (Region.ready md ops listed).contains k && Region.free md ops listed k && (match ops[k]? with | some o => tameL o | none => false) && segN md ops m (k + 1) (listed.setIfInBounds k true)
theorem wpAny_segN {ops : Array Oper} (hs : Region.noSelect ops = true) (hQ : ∀ c (a : Act) d v w,Q (.panic c) (a.put d v) w → Q (.panic c) a w) (w : World) (fuel : Nat) : ∀ (l : List Oper) (k : Nat) (listed : Array Bool) (a : Act),
  (∀ j,j < l.length → l[j]? = ops[k + j]?) → segN md ops l.length k listed = true →
  wpQuiet P ops (fun _ => True) (fun a' => wpAny P md ops Q fuel (markN l.length k listed) a' w) l a → wpAny P md ops Q (fuel + l.length) listed a w
 | [],_,_,_,_,_,h => h
 | o :: l,k,listed,a,hl,hB,h => by
  have h0 : ops[k]? = some o:=by simpa using (hl 0 (by simp)).symm
  simp only [List.length_cons,segN,Bool.and_eq_true,h0] at hB
  obtain ⟨⟨⟨hr,hf⟩,ht⟩,hB'⟩:=hB
  have hl' : ∀ j,j < l.length → l[j]? = ops[k + 1 + j]?:=fun j hj => by
   have:=hl (j + 1) (by simp; omega)
   simpa [Nat.add_assoc,Nat.add_comm 1 j] using this
  have next : ∀ v,Yields P ops o v a → wpQuiet P ops (fun _ => True) (fun a' => wpAny P md ops Q fuel (markN (l.length + 1) k listed) a' w) l (a.put o.dst v) → wpAny P md ops Q (fuel + (l.length + 1)) listed a w:=fun v hy hK =>
   wpAny_take h0 hs hf hr (fun c a' w' hp => hQ c _ _ _ w' hp) hy (wpAny_segN hs hQ w fuel l (k + 1) _ _ hl' hB' hK)
  unfold wpQuiet at h
  by_cases hw : Region.wanted o (yielded ops a.tmps) = true
  ·rw [if_pos hw] at h
   obtain ⟨v,hv,hK⟩:=h
   exact next v (.inl ⟨hw,fun w' => tameL_value ht (hv w' trivial)⟩) hK
  ·rw [if_neg hw] at h
   exact next undef (.inr ⟨by simpa using hw,rfl⟩) h
theorem wpAny_nextN {L : List Oper} (k m fuel : Nat) {listed : Array Bool} {a : Act} {w : World} (hB : (Region.noSelect L.toArray && segN md L.toArray m k listed && decide (k + m ≤ L.length)) = true)
  (hQ : ∀ c (a : Act) d v w,Q (.panic c) (a.put d v) w → Q (.panic c) a w)
  (h : wpQuiet P L.toArray (fun _ => True) (fun a' => wpAny P md L.toArray Q fuel (markN m k listed) a' w) ((L.drop k).take m) a) : wpAny P md L.toArray Q (fuel + m) listed a w:=by
 simp only [Bool.and_eq_true,decide_eq_true_eq] at hB
 obtain ⟨⟨hs,hB⟩,hle⟩:=hB
 have hlen : ((L.drop k).take m).length = m:=by simp; omega
 have hseg:=wpAny_segN (P:=P) (md:=md) hs hQ w fuel ((L.drop k).take m) k listed a (fun j hj => by
  rw [hlen] at hj
  simp [List.getElem?_take,hj,List.getElem?_drop]) (by rw [hlen]; exact hB) (by rw [hlen]; exact h)
 rwa [hlen] at hseg
theorem wpAny_two {L : List Oper} {i j : Nat} {o o' : Oper} {fuel : Nat} {listed : Array Bool} {a : Act} {w : World} (hr : Region.ready md L.toArray listed = [i,j]) (ho : L[i]? = some o) (ho' : L[j]? = some o')
  (h : ∀ K : Act → World → Prop,(∀ a w,wpAny P md L.toArray Q fuel (listed.setIfInBounds i true) a w → K a w) → if Region.wanted o (yielded L.toArray a.tmps) = true then Oper.wp P o a w K Q else K (a.put o.dst undef) w)
  (h' : ∀ K : Act → World → Prop,(∀ a w,wpAny P md L.toArray Q fuel (listed.setIfInBounds j true) a w → K a w) → if Region.wanted o' (yielded L.toArray a.tmps) = true then Oper.wp P o' a w K Q else K (a.put o'.dst undef) w) :
  wpAny P md L.toArray Q (fuel + 1) listed a w:=
 wpAny_ready hr (by simp) (AllReady.cons (by simpa using ho) h (AllReady.cons (by simpa using ho') h' AllReady.nil))
end
theorem setCell_comm (w : World) (a b : Addr) (u v : Value) (h : a.block ≠ b.block) : (w.setCell a u).setCell b v = (w.setCell b v).setCell a u:=by
 unfold World.setCell
 congr 1
 apply Array.ext_getElem?
 intro i
 simp only [Array.getElem?_modify]
 by_cases h1 : a.block = i
 ·have h2 : ¬ b.block = i:=fun e => h (h1.trans e.symm)
  simp [h1,h2]
 ·simp [h1]
theorem setCells_comm (G j : Nat) (v : Value) (g : Nat) (h : G ≠ g) : ∀ (us : List Value) (o : Nat) (w : World),(w.setCell ⟨G,j,none⟩ v).setCells g o us = (w.setCells g o us).setCell ⟨G,j,none⟩ v
 | [],o,w => rfl
 | u :: us,o,w => by
  show ((w.setCell ⟨G,j,none⟩ v).setCell ⟨g,o,none⟩ u).setCells g (o + 1) us = _
  rw [setCell_comm w ⟨G,j,none⟩ ⟨g,o,none⟩ v u h,setCells_comm G j v g h us (o + 1) _]
  rfl
theorem Own.there {w : World} {B n size g c : Nat} {e : TypeId} {xs : List Value} (h : Own w B e size (.slice (some ⟨g,0,none⟩) n c) n xs) {o k : Nat} (hk : o + k ≤ n * size) : w.there g o k:=fun j hj => by
 have hl:=h.1.1
 have h1:=h.1.cells (g:=g) rfl (o + j) (xs[o + j]'(by omega)) (List.getElem?_eq_getElem (by omega))
 rw [Addr.add_lit] at h1
 rw [Nat.zero_add] at h1
 refine ⟨by rw [h1]; rfl,?_⟩
 rcases h.1.2 with ⟨e1,_⟩ | ⟨g',cap,cur,e1,_,h2,_⟩
 ·cases e1
 ·injection e1 with a1
  injection a1 with a1
  injection a1 with a1
  subst a1
  exact frozen_of_row w g _ cur e h2
section
variable {P : Program} {ops : Array Oper} {o : Oper} {a : Act} {w : World} {Q : Exit → Act → World → Prop} {K : Act → World → Prop} {E : Prop}
theorem step_stm (hgd : Region.wanted o (yielded ops a.tmps) = true) (ty : TypeId) (x y : Operand) (ho : o.op = .store ty x y) (b off : Nat) (us : List Value) (hx : a.eval x = .pointer (some ⟨b,off,none⟩)) (hy : a.eval y = .agg us.toArray)
  (ht : w.there b off us.length) (hi : (P.info? ty).map (·.size) = some us.length) (h1 : ∀ u ∈ us,u.oneCell' = true) (h : K (a.put o.dst undef) (w.setCells b off us)) : if Region.wanted o (yielded ops a.tmps) = true then Oper.wp P o a w K Q else E:=by
 rw [if_pos hgd]
 refine wp_store_mid ty x y ho b off us.toArray hx hy (by simpa using ht) (by simpa using hi) (all_oneCell_toArray h1) ?_
 simpa using h
theorem step_st1 (hgd : Region.wanted o (yielded ops a.tmps) = true) (T : TypeId) (x y : Operand) (ho : o.op = .store T x y) (G off : Nat) (hx : a.eval x = .pointer (some ⟨G,off,none⟩)) {v : Value} (hth : w.there G off 1) (hy : a.eval y = v)
  (hT : (P.info? T).map (·.size) = some 1) (h1 : v.oneCell' = true) (h : K (a.put o.dst undef) (w.setCell ⟨G,off,none⟩ v)) : if Region.wanted o (yielded ops a.tmps) = true then Oper.wp P o a w K Q else E:=by
 rw [if_pos hgd]
 have hrun : (storeVar T ⟨G,off,none⟩ v).run P w = .ok () (w.setCell ⟨G,off,none⟩ v):=by
  have:=run_storeCells_cells (P:=P) G off [v] 0 w (fun j hj => by simpa using (hth j (by simpa using hj)).1) (fun j hj => by simpa using (hth j (by simpa using hj)).2) (fun u hu => by rw [List.mem_singleton.1 hu]; exact h1)
  cases hq : P.info? T with
  | none => simp [hq] at hT
  | some i =>
   have hs : 1 = i.size:=by simp [hq] at hT; omega
   simp only [Nat.add_zero] at this
   simp [storeVar,sizeOf,typeInfo,hq,cells_one h1,← hs,this]
   rfl
 unfold Oper.wp execOp
 simp only [ho,hx,hy,Instr.storeAt,Instr.sureAddr,Sem.run_bind,Sem.run_pure,Result.andThen_ok,hrun]
 exact h
end
theorem hdS_nil (R : Rw) (F p : Nat) : (hdS R F p).1.l = [] ∧ (hdS R F p).1.r = []:=by
 unfold hdS
 split
 ·exact ⟨rfl,rfl⟩
 split
 ·exact ⟨rfl,rfl⟩
 split
 ·exact ⟨rfl,rfl⟩
 split
 ·exact ⟨rfl,rfl⟩
 unfold plS
 dsimp only
 split
 ·split
  ·exact ⟨rfl,rfl⟩
  split
  ·exact ⟨rfl,rfl⟩
  ·exact ⟨rfl,rfl⟩
 ·exact ⟨rfl,rfl⟩
end Go.Proofs.YtkjhlgnpohamnaaGreatDoor
