import Derived.Test.YtkjhlgnpohamnaaGreatDoorSq
import Derived.Test.YtkjhlgnpohamnaaGreatDoorFiS
import Derived.Test.YtkjhlgnpohamnaaGreatDoorStR
import Derived.Test.YtkjhlgnpohamnaaGreatDoorMSe
import Derived.Test.YtkjhlgnpohamnaaGreatDoorMHd
import Derived.Test.YtkjhlgnpohamnaaGreatDoorMEi
import Derived.Deep.LoopGhost
namespace Go.Proofs.YtkjhlgnpohamnaaGreatDoor
set_option linter.unusedVariables false
set_option linter.unusedSimpArgs false
open Go.RowKit
def St.ct : St → Nat
 | .mk k a nm ty an e l r => ((l.attach.map fun x => x.1.ct).foldr (· + ·) 0) + ((r.attach.map fun x => x.1.ct).foldr (· + ·) 0) + 1
termination_by s => SizeOf.sizeOf s
decreasing_by
 ·exact St.lt_l x.2
 ·exact St.lt_r x.2
def cts (l : List St) : Nat:=(l.map St.ct).foldr (· + ·) 0
theorem St.ct_eq (s : St) : s.ct = cts s.l + cts s.r + 1:=by
 cases s
 rw [St.ct,List.attach_map_val (f:=St.ct),List.attach_map_val (f:=St.ct)]
 rfl
theorem cts_nil : cts [] = 0:=rfl
theorem cts_cons (x : St) (l : List St) : cts (x :: l) = x.ct + cts l:=rfl
theorem cts_app (l k : List St) : cts (l ++ k) = cts l + cts k:=by
 induction l with
 | nil => simp [cts_nil]
 | cons x l ih => rw [List.cons_append,cts_cons,cts_cons,ih]; omega
def St.ms : St → List An
 | .mk k a nm ty an e l r => if k = 0 then [an] else if k = 2 then (l.attach.map fun x => x.1.ms).flatten ++ (r.attach.map fun x => x.1.ms).flatten else if k = 3 then (l.attach.map fun x => x.1.ms).flatten else []
termination_by s => SizeOf.sizeOf s
decreasing_by
 all_goals first | exact St.lt_l x.2 | exact St.lt_r x.2
def lms (l : List St) : List An:=(l.map St.ms).flatten
theorem St.ms_eq (s : St) : s.ms = if s.k = 0 then [s.an] else if s.k = 2 then lms s.l ++ lms s.r else if s.k = 3 then lms s.l else []:=by
 cases s
 rw [St.ms,List.attach_map_val (f:=St.ms),List.attach_map_val (f:=St.ms)]
 rfl
theorem lms_nil : lms [] = []:=rfl
theorem lms_cons (x : St) (l : List St) : lms (x :: l) = x.ms ++ lms l:=rfl
theorem lms_app (l k : List St) : lms (l ++ k) = lms l ++ lms k:=by simp [lms]
def ans (l : List An) : List Value:=l.flatMap anC
theorem ans_snoc (l : List An) (x : An) : ans (l ++ [x]) = ans l ++ anC x:=by simp [ans]
theorem ans_len (l : List An) : (ans l).length = l.length * 5:=by
 induction l with
 | nil => rfl
 | cons t l ih => show (anC t ++ ans l).length = _; rw [List.length_append,ih]; simp [anC]; omega
theorem lms_len (l : List St) : ∀ n,cts l ≤ n → (lms l).length ≤ cts l:=by
 intro n
 induction n generalizing l with
 | zero =>
  intro h
  cases l with
  | nil => exact Nat.le_refl _
  | cons x l => rw [cts_cons,St.ct_eq] at h; omega
 | succ n ih =>
  intro h
  cases l with
  | nil => exact Nat.le_refl _
  | cons x l =>
   rw [cts_cons,St.ct_eq] at h
   rw [lms_cons,cts_cons,St.ct_eq,List.length_append,St.ms_eq]
   have h1:=ih l (by omega)
   have h2:=ih x.l (by omega)
   have h3:=ih x.r (by omega)
   split
   ·simp; omega
   ·split
    ·rw [List.length_append]; omega
    ·split
     ·omega
     ·simp; omega
theorem rowAn : RowT Tryz.prog 33 36 5 40:=RowT.mk (z:=anV An.nul) Tryz.underlying33 (by kernel_rfl) rfl (by omega)
theorem rowSS : RowT Tryz.prog 116 74 1 24:=RowT.mk (z:=.slice none 0 0) Tryz.underlying116 (by kernel_rfl) rfl (by omega)
def pend (PL : List (Value × List St)) : List An:=PL.reverse.flatMap fun q => lms q.2
def pmu (PL : List (Value × List St)) : Nat:=(PL.map fun q => 3 * cts q.2 + 1).foldr (· + ·) 0
theorem pend_snoc (PL : List (Value × List St)) (q : Value × List St) : pend (PL ++ [q]) = lms q.2 ++ pend PL:=by simp [pend]
theorem pmu_app (l k : List (Value × List St)) : pmu (l ++ k) = pmu l + pmu k:=by
 induction l with
 | nil => simp [pmu]
 | cons x l ih => show (3 * cts x.2 + 1) + pmu (l ++ k) = (3 * cts x.2 + 1) + pmu l + pmu k; omega
theorem pmu_one (q : Value × List St) : pmu [q] = 3 * cts q.2 + 1:=rfl
theorem pmu_len (l : List (Value × List St)) : l.length ≤ pmu l:=by
 induction l with
 | nil => exact Nat.zero_le _
 | cons x l ih => show l.length + 1 ≤ (3 * cts x.2 + 1) + pmu l; omega
theorem ShS.tail {w : World} {S : Nat → Prop} {b off n c c' : Nat} {x : St} {l : List St} (h : ShS w S (.slice (some ⟨b,off,none⟩) n c) (x :: l)) (hc : n - 1 ≤ c') : ShS w S (.slice (some ⟨b,off + 17,none⟩) (n - 1) c') l:=by
 cases h with
 | row b off n c l' vs hl hn hnc hb hlt hc2 he hs hr =>
  rw [List.length_cons] at hl
  rcases Nat.eq_zero_or_pos l.length with h0 | h0
  ·have : l = []:=List.eq_nil_of_length_eq_zero h0
   subst this
   rw [show n - 1 = 0 by simp at hl; omega]
   exact .emp _ _
  ·refine .row b (off + 17) (n - 1) c' l (fun j => vs (j + 1)) (by omega) (by omega) hc hb hlt (fun j y hy => ?_) (fun j y hy => he (j + 1) y hy) (fun j y hy => hs (j + 1) y hy) (fun j y hy => hr (j + 1) y hy)
   have:=hc2 (j + 1) y hy
   rwa [show off + (j + 1) * 17 = off + 17 + j * 17 by omega] at this
section
variable {P : Program} {ops : Array Oper} {rest : List Oper} {o : Oper} {a : Act} {w : World} {Q : Exit → Act → World → Prop}
theorem wpList_stO (hgd : o.guard = none) (T : TypeId) (x y : Operand) (ho : o.op = .store T x y) {B n g c off : Nat} {e : TypeId} {xs : List Value} (hx : a.eval x = .pointer (some ⟨g,off,none⟩)) {v : Value} (hs : Own w B e 1 (.slice (some ⟨g,0,none⟩) n c) n xs) (hy : a.eval y = v)
  (hT : (P.info? T).map (·.size) = some 1) (hl : off < n) (h1 : v.oneCell' = true)
  (h : ∀ w',Tn (fun k => k = g) w w' → Own w' B e 1 (.slice (some ⟨g,0,none⟩) n c) n (xs.set off v) → wpList P ops Q rest (a.put o.dst undef) w') : wpList P ops Q (o :: rest) a w:=by
 have hth:=hs.there (o:=off) (k:=1) (by omega)
 have hrun : (storeVar T ⟨g,off,none⟩ v).run P w = .ok () (w.setCell ⟨g,off,none⟩ v):=by
  have:=run_storeCells_cells (P:=P) g off [v] 0 w (fun j hj => by simpa using (hth j (by simpa using hj)).1) (fun j hj => by simpa using (hth j (by simpa using hj)).2) (fun u hu => by rw [List.mem_singleton.1 hu]; exact h1)
  cases hq : P.info? T with
  | none => simp [hq] at hT
  | some i =>
   have hs : 1 = i.size:=by simp [hq] at hT; omega
   simp only [Nat.add_zero] at this
   simp [storeVar,sizeOf,typeInfo,hq,cells_one h1,← hs,this]
   rfl
 refine wpList_plain hgd fun K hK => ?_
 unfold Oper.wp execOp
 simp only [ho,hx,hy,Instr.storeAt,Instr.sureAddr,Sem.run_bind,Sem.run_pure,Result.andThen_ok,hrun]
 exact hK _ _ (h _ (Tn.set w g off v rfl) (hs.set1 off (by omega) v))
theorem wpList_push_v (hgd : Region.wanted o (yielded ops a.tmps) = true) (s x : Operand) (t : TypeId) (ho : o.op = .call { callee:=.builtin .append,args:=#[s,x],argTypes:=#[t,t] })
  {e : TypeId} {size bytes : Nat} (hT : RowT P t e size bytes) (w : World) (B : Nat) (v : Value) (n : Nat) (xs us : List Value) (hs : a.eval s = v) (hown : Own w B e size v n xs)
  {S : Nat → Prop} {lv : Value} {m : Nat} (hx : a.eval x = lv) (hsh : ShV w S lv m us) (hl : us.length = m * size) (h1 : ∀ u ∈ us,u.oneCell' = true)
  (hlen : n + m ≤ 1000000000) (hby : bytes ≤ 256)
  (h : ∀ v' w',Own w' B e size v' (n + m) (xs ++ us) → w.grownBy w' v.ownBlock → (v'.ownBlock = v.ownBlock ∨ v'.ownBlock = some w.heap.size) → wpList P ops Q rest (a.put o.dst v') w') :
  wpList P ops Q (o :: rest) a w:=wpList_wanted hgd fun K hK => by
 obtain ⟨ht,i,z,hi,hz,hsize,hbytes,hzs,hpos⟩:=hT
 have hbb : (n + m) * bytes ≤ 140737488355328:=Nat.le_trans (Nat.mul_le_mul hlen hby) (by decide)
 obtain ⟨A,c,rfl,hc,hr⟩:=hsh
 have hful : ∀ ad : Addr,(∀ k u,us[k]? = some u → w.cell? (ad.add k) = some u) → A = some ad → o.wp P a w K Q:=by
  intro ad hcl hA
  subst hA
  obtain ⟨v',w',hrun,h2,h3,_,h5⟩:=run_append_own_at (P:=P) w B t o.type e i z size bytes ht hi hz hsize hbytes hzs hpos v n xs hown.1 ad m c us hl hcl h1 (by unfold maxLen; omega) hbb hown.2
  unfold Oper.wp execOp
  simp only [ho,resolve,invoke,builtin,Sem.run_bind,Sem.run_pure,Result.andThen_ok,List.map_toArray,List.map_cons,List.map_nil,hs,hx,hrun]
  exact hK _ _ (h v' w' ⟨h2,Nat.le_trans hown.2 h3.size⟩ h3 h5)
 rcases Nat.eq_zero_or_pos m with h0 | h0
 ·subst h0
  have hn : us = []:=List.eq_nil_of_length_eq_zero (by omega)
  subst hn
  rcases A with _ | ad
  ·have hrun : (Builtin.append_ #[t,t] o.type #[v,.slice none 0 c]).run P w = .ok v w:=by
    rcases hown.1.2 with ⟨rfl,rfl⟩ | ⟨g,cap,cur,rfl,_,_,hnc,_⟩
    ·simp [Builtin.append_,run_underlying ht,sizeOf,typeInfo,hi,Builtin.lenOf,Builtin.firstCells]
    ·simp [Builtin.append_,run_underlying ht,sizeOf,typeInfo,hi,Builtin.lenOf,Builtin.firstCells,hnc,storeCells]
   unfold Oper.wp
   simp [execOp,ho,resolve,invoke,builtin,hs,hx,hrun,Result.andThen]
   exact hK _ _ (h v w (by simpa using hown) (World.grownBy.refl _ _) (.inl rfl))
  ·exact hful ad (by simp) rfl
 ·obtain ⟨b,off,rfl,_,_,hrg⟩:=hr h0
  refine hful ⟨b,off,none⟩ (fun k u hu => ?_) rfl
  rw [Addr.add_lit]
  exact hrg k u hu
end
def LtTo (l : List St) (w : World) (e : Ending) (w' : World) : Prop:=∃ v,e = .returned v ∧ Own w' w.heap.size 36 5 v (lms l).length (ans (lms l)) ∧ Below w.heap.size w w'
theorem Var.mid {w : World} {G : Nat} {cs : List Value} (h : Var w G cs) (o : Nat) (us : List Value) (he : us = (cs.drop o).take us.length) : w.rangeAt G o us:=fun j u hu => by
 have hj:=(List.getElem?_eq_some_iff.1 hu).1
 have hk : us[j]? = ((cs.drop o).take us.length)[j]?:=by rw [← he]
 rw [List.getElem?_take,if_pos hj,List.getElem?_drop] at hk
 have:=h.rg (o + j) u (by rw [← hk]; exact hu)
 rwa [Nat.zero_add] at this
set_option maxRecDepth 100000 in
set_option maxHeartbeats 6400000 in
theorem lets_any (l : List St) (hc : cts l ≤ 2000000) (lv : Value) (w : World) (S : Nat → Prop) (h : ShS w S lv l) : CP 33 #[lv] w (LtTo l w):=by
 have hz:=zeroSt
 have hone0:=h.one
 obtain ⟨A0,c0,rfl,_⟩:=h.len
 obtain ⟨T,hT⟩ : ∃ T,lms l = T:=⟨_,rfl⟩
 have hTl : T.length ≤ 2000000:=by rw [← hT]; exact Nat.le_trans (lms_len l _ nLe) hc
 have hb1 : Below w.heap.size w (w.alloc (.cells #[.slice A0 l.length c0] 74)):=bAl
 have hp1 : Own (w.alloc (.cells #[.slice A0 l.length c0] 74)) w.heap.size 74 1 (.slice (some ⟨w.heap.size,0,none⟩) 1 1) 1 [.slice A0 l.length c0]:=
  ⟨⟨rfl,.inr ⟨w.heap.size,1,#[.slice A0 l.length c0],rfl,Nat.le_refl _,heap_alloc_new w _,Nat.le_refl _,by unfold maxLen; omega,rfl,rfl⟩⟩,by simp⟩
 have HP1:=Lh hp1
 have HB1:=Lh hb1
 have HSH:=Lh h
 have HT:=Lh hT
 obtain ⟨N,hN⟩ : ∃ N,3 * cts l + 1 = N:=⟨_,rfl⟩
 have hN1 : N ≤ 6000001:=by omega
 have HN:=Lh hN
 unfold LtTo
 rw [hT]
 clear hp1 hb1 h hT hN hc
 go_enter Tryz.func33,Tryz.ntmps33
 go_wp2
 go_loopg [3,4] N (fun k lv pv wr => ∃ (acc : List An) (PL : List (Value × List St)),Own wr w.heap.size 36 5 lv acc.length (ans acc) ∧ Own wr w.heap.size 74 1 pv PL.length (PL.map (·.1)) ∧ (∀ q ∈ PL,ShS w S q.1 q.2) ∧ acc ++ pend PL = T ∧ pmu PL = k ∧ k ≤ N ∧ Below w.heap.size w wr)
 case atStart =>
  exact ⟨[],[(.slice A0 l.length c0,l)],Own.nil _ _ _ _ (by simp),HP1.out,fun q hq => by rw [List.mem_singleton.1 hq]; exact HSH.out,by simp [pend,HT.out],by rw [pmu_one]; exact HN.out,Nat.le_refl _,HB1.out⟩
 case round =>
  clear HP1 HB1 HSH HT HN
  obtain ⟨acc,PL,hO,hP,hS,hT,hmu,hk,hb⟩:=hrel
  have hal : acc.length ≤ 2000000:=by
   have:=congrArg List.length hT
   rw [List.length_append] at this
   omega
  have hpl : PL.length ≤ 6000001:=by have:=pmu_len PL; omega
  rcases List.eq_nil_or_concat PL with rfl | ⟨PL,q,rfl⟩
  ·obtain ⟨Ap,cp,e⟩:=hP.form
   subst e
   have hfin : acc = T:=by rw [← hT]; simp [pend]
   have HO:=Lh hO
   have HB:=Lh hb
   clear hO hP hS hT hmu hb
   go_wp2
   go_ret
   subst hfin
   exact ⟨_,rfl,HO.out,HB.out⟩
  ·obtain ⟨qv,ql⟩:=q
   have hqs:=hS (qv,ql) (by simp)
   have hSP : ∀ q ∈ PL,ShS w S q.1 q.2:=fun q hq => hS q (by simp [hq])
   rw [List.concat_eq_append] at hP hT hmu hpl
   rw [pend_snoc] at hT
   rw [pmu_app,pmu_one] at hmu
   dsimp only at hT hmu hqs
   obtain ⟨kp,hkp⟩ : ∃ kp,PL.length = kp:=⟨_,rfl⟩
   have hPP : Own wr w.heap.size 74 1 u4 (kp + 1) (PL.map (·.1) ++ [qv]):=hP.cast (by simp [hkp]) (by simp)
   clear hP
   have hkp1 : kp ≤ 6000000:=by simp at hpl; omega
   have hml : (PL.map (·.1)).length = kp:=by simp [hkp]
   obtain ⟨g,cp,hpv,hgB,hgl⟩:=hPP.1.form (Nat.succ_pos _)
   subst hpv
   have hcell : wr.cell? ⟨g,kp,none⟩ = some qv:=by
    have:=hPP.1.cells (g:=g) rfl kp qv (by rw [List.getElem?_append_right (by omega),hml]; simp)
    rwa [Addr.add_lit,Nat.zero_add] at this
   obtain ⟨Aq,cq,hqv,hcq⟩:=hqs.len
   have hcap:=(hPP.cap).1
   have d1 : decide ((0 : Int) < (kp : Int) + 1) = true:=decide_eq_true (by omega)
   have d2 : (0 : Int) < (kp : Int) + 1:=by omega
   have d3 : (0 : Int) ≤ (kp : Int):=by omega
   have d4 : (kp : Int) < (kp : Int) + 1:=by omega
   have d5 : (kp : Int) ≤ (cp : Int):=by omega
   have w1 : IntKind.i64.wrap ((kp : Int) + 1 - 1) = (kp : Int):=(IntWalk.i64_in _ (by omega)).trans (by omega)
   have w2 : (kp : Int) + 1 - 1 = (kp : Int):=by omega
   cases ql with
   | nil =>
    subst hqv
    have HO:=Lh hO
    have HB:=Lh hb
    have HP2:=Lh (hPP.cut (m:=kp) (by omega))
    have HSP:=Lh hSP
    have HT:=Lh hT
    have HMU:=Lh hmu
    have HKP:=Lh hkp
    have HML:=Lh hml
    clear hO hPP hS hT hmu hb hqs hSP hkp hml hcap hpl
    go_wp2
    go_roundg (pmu PL)
    case measure => rw [← HMU.out]; omega
    case rel =>
     exact ⟨acc,PL,HO.out,by
      have:=HP2.out
      rw [Nat.mul_one,List.take_left' HML.out] at this
      rw [HKP.out]
      exact this,HSP.out,by rw [← HT.out]; rfl,rfl,by have:=HMU.out; omega,HB.out⟩
   | cons s l2 =>
    subst hqv
    obtain ⟨b,off,s',v,hAq,hs',hncq,hrg,htr,_,hbl⟩:=hqs.at (j:=0) (by simp)
    obtain rfl : s = s':=Option.some.inj hs'
    subst hAq
    rw [Nat.zero_mul,Nat.add_zero] at hrg
    have hone:=htr.one
    have hln : (s :: l2).length = l2.length + 1:=rfl
    obtain ⟨ve,vl,vr⟩:=v
    obtain ⟨Al,cl,rfl,_⟩:=htr.l.len
    obtain ⟨Ar,cr,rfl,_⟩:=htr.r.len
    obtain ⟨Ae,ce,rfl,_⟩:=htr.e.len
    obtain ⟨n2,hn2⟩ : ∃ n2,l2.length = n2:=⟨_,rfl⟩
    rw [hln,hn2] at hcell hcq hncq hPP hqs
    have hmuS : 3 * cts (s :: l2) + 1 = (3 * cts l2 + 1) + (3 * (cts s.l + cts s.r) + 3):=by rw [cts_cons,St.ct_eq]; omega
    have htT : acc ++ (s.ms ++ lms l2 ++ pend PL) = T:=by rw [← hT,lms_cons]
    have e1 : ((n2 : Int) + 1 == 0) = false:=by rw [beq_eq_false_iff_ne]; omega
    have e2 : decide ((n2 : Int) + 1 = 0) = false:=decide_eq_false (by omega)
    have e3 : ¬ (n2 : Int) + 1 = 0:=by omega
    have e4 : (1 : Int) ≤ (cq : Int):=by omega
    have e5 : (1 : Int) ≤ (n2 : Int) + 1:=by omega
    have e6 : (n2 : Int) + 1 ≤ (cq : Int):=by omega
    have e7 : (0 : Int) < (n2 : Int) + 1:=by omega
    have HRG : Hid (∀ W,Below w.heap.size w W → W.rangeAt b off (stC s ⟨.slice Ae s.e.l.length ce,.slice Al s.l.length cl,.slice Ar s.r.length cr⟩)):=Lh fun W hW j u hu => (World.cell?_of_block (a:=⟨b,_,none⟩) (hW.block b hbl)).trans (hrg j u hu)
    have HTR:=Lh htr
    have HB:=Lh hb
    have HO:=Lh hO
    have HPP:=Lh hPP
    have HSP:=Lh hSP
    have HT:=Lh htT
    have HMU:=Lh hmu
    have HMS:=Lh hmuS
    have HKP:=Lh hkp
    have HML:=Lh hml
    have HQ:=Lh hqs
    have HMSQ:=Lh s.ms_eq
    have HCQ:=Lh hcq
    have HN2:=Lh hn2
    clear hO hPP hS hT hmu hb hqs hSP hkp hml hcap hpl htr hrg hmuS htT hcq hs' hln hn2 hncq
    by_cases hcq : cq = 1
    ·obtain rfl : n2 = 0:=by have:=HCQ.out; omega
     subst hcq
     have HTL : Hid (ShS w S (.slice (some ⟨b,off,none⟩) 0 0) l2):=Lh (by
      rw [List.eq_nil_of_length_eq_zero HN2.out]
      exact .emp _ _)
     by_cases hk0 : s.k = 0
     ·have HMSM : Hid (s.ms = [s.an]):=Lh (by rw [HMSQ.out,if_pos hk0])
      have f0 : (s.k == 0) = true:=by simp [hk0]
      go_wp2_with (first
       | (refine wpList_stO rfl _ _ _ rfl (g:=g) (off:=kp) (v:=.slice (some ⟨b,off,none⟩) 0 0) rfl HPP.out rfl (by kernel_rfl) (by omega) rfl ?_; intro w3 ht hs; have HB:=Lh (HB.out.trans (ht.below HB.out.size (fun k hk e => by omega))); have HO:=Lh (HO.out.turn ht (fun k hk e => (Own.apt HO.out HPP.out (by decide)) k hk (by rw [e]; rfl))); have HPP:=Lh hs; have hz3:=HB.out.size; clear ht hs hcell)
       | (refine wpList_ldV rfl 118 _ rfl b off rfl (stC s ⟨.slice Ae s.e.l.length ce,.slice Al s.l.length cl,.slice Ar s.r.length cr⟩) (HRG.out _ HB.out) Tryz.underlying118 rfl info_st ?_)
       | (refine wpList_stV rfl 118 _ _ rfl (G:=w3.heap.size) (off:=0) rfl (us:=stC s ⟨.slice Ae s.e.l.length ce,.slice Al s.l.length cl,.slice Ar s.r.length cr⟩) (Var.new w3 (stC St.nul Tv.nul) 118 rfl) rfl info_st (Nat.le_refl 17) hone ?_; intro w4 ht hs; have ta:=Tn.alloc (fun k => k = w3.heap.size) w3 (.cells z17 118); have HB:=Lh (HB.out.trans ((ta.trans ht).below HB.out.size (fun k hk e => by omega))); have HO:=Lh (HO.out.turn (ta.trans ht) (fun k hk e => by have:=(HO.out.1.lt k hk).2; omega)); have HPP:=Lh (HPP.out.turn (ta.trans ht) (fun k hk e => by have:=(HPP.out.1.lt k hk).2; omega)); have JV:=Lh (show Var w4 w3.heap.size (stC s ⟨.slice Ae s.e.l.length ce,.slice Al s.l.length cl,.slice Ar s.r.length cr⟩) from hs); clear ht hs ta; have k0:=JV.out.at 0 rfl; have k15:=JV.out.at 15 rfl; have k16:=JV.out.at 16 rfl)
       | (refine wpList_ldV rfl 36 _ rfl w3.heap.size 4 rfl (anC s.an) (JV.out.mid 4 (anC s.an) rfl) Tryz.underlying36 rfl info_an ?_)
       | (refine wpList_build1 rfl 33 36 _ rfl (anC s.an) rfl (by simp [anC]) (by simp [anC]) Tryz.underlying33 info_an (by kernel_rfl) ?_; have HB:=Lh (HB.out.alloc HB.out.size (.cells (anC s.an).toArray 36)); have HPP:=Lh (HPP.out.alloc (.cells (anC s.an).toArray 36)))
       | (refine wpList_push_b rfl _ _ 33 rfl rowAn w4 w.heap.size u3 acc.length (ans acc) (anC s.an) rfl HO.out rfl rfl rfl (anC_one _) (by omega) (by omega) ?_; intro v6 w6 ho6 hg6 hv6; have HB:=Lh (HB.out.grown hg6 HB.out.size (fun k hk => (HO.out.1.lt k hk).1)); have HPP:=Lh (HPP.out.turn (Tn.of_gb (M:=fun k => u3.ownBlock = some k) hg6 fun k e _ => e) (fun k hk e => Own.apt HPP.out (HO.out.alloc _) (by decide) k hk e)); have HO:=Lh ho6; clear ho6 hg6 hv6)
       | fail)
      go_roundg (pmu (PL ++ [(.slice (some ⟨b,off,none⟩) 0 0,l2)]))
      case measure =>
       have:=HMU.out; have:=HMS.out
       simp only [pmu_app,pmu_one]
       omega
      case rel =>
       refine ⟨acc ++ [s.an],PL ++ [(.slice (some ⟨b,off,none⟩) 0 0,l2)],(HO.out.cast (by simp) (ans_snoc _ _).symm),by
         have hx:=HPP.out
         rw [List.set_append_right _ _ (Nat.le_of_eq HML.out),HML.out,Nat.sub_self] at hx
         refine hx.cast ?_ ?_
         ·simp [HKP.out]
         ·simp,fun q hq => by
         simp only [List.mem_append,List.mem_singleton] at hq
         rcases hq with hq | rfl
         ·exact HSP.out q hq
         ·exact HTL.out,?_,rfl,?_,HB.out⟩
       ·rw [← HT.out,HMSM.out]
        simp [pend]
       ·have:=HMU.out; have:=HMS.out
        simp only [pmu_app,pmu_one]
        omega
     ·skip
      by_cases hk2 : s.k = 2
      ·have HMSM : Hid (s.ms = lms s.l ++ lms s.r):=Lh (by rw [HMSQ.out,if_neg hk0,if_pos hk2])
       have f0 : (s.k == 0) = false:=by simp [hk0]
       have f2 : (s.k == 2) = true:=by simp [hk2]
       go_wp2_with (first
        | (refine wpList_stO rfl _ _ _ rfl (g:=g) (off:=kp) (v:=.slice (some ⟨b,off,none⟩) 0 0) rfl HPP.out rfl (by kernel_rfl) (by omega) rfl ?_; intro w3 ht hs; have HB:=Lh (HB.out.trans (ht.below HB.out.size (fun k hk e => by omega))); have HO:=Lh (HO.out.turn ht (fun k hk e => (Own.apt HO.out HPP.out (by decide)) k hk (by rw [e]; rfl))); have HPP:=Lh hs; have hz3:=HB.out.size; clear ht hs hcell)
        | (refine wpList_ldV rfl 118 _ rfl b off rfl (stC s ⟨.slice Ae s.e.l.length ce,.slice Al s.l.length cl,.slice Ar s.r.length cr⟩) (HRG.out _ HB.out) Tryz.underlying118 rfl info_st ?_)
        | (refine wpList_stV rfl 118 _ _ rfl (G:=w3.heap.size) (off:=0) rfl (us:=stC s ⟨.slice Ae s.e.l.length ce,.slice Al s.l.length cl,.slice Ar s.r.length cr⟩) (Var.new w3 (stC St.nul Tv.nul) 118 rfl) rfl info_st (Nat.le_refl 17) hone ?_; intro w4 ht hs; have ta:=Tn.alloc (fun k => k = w3.heap.size) w3 (.cells z17 118); have HB:=Lh (HB.out.trans ((ta.trans ht).below HB.out.size (fun k hk e => by omega))); have HO:=Lh (HO.out.turn (ta.trans ht) (fun k hk e => by have:=(HO.out.1.lt k hk).2; omega)); have HPP:=Lh (HPP.out.turn (ta.trans ht) (fun k hk e => by have:=(HPP.out.1.lt k hk).2; omega)); have JV:=Lh (show Var w4 w3.heap.size (stC s ⟨.slice Ae s.e.l.length ce,.slice Al s.l.length cl,.slice Ar s.r.length cr⟩) from hs); clear ht hs ta; have k0:=JV.out.at 0 rfl; have k15:=JV.out.at 15 rfl; have k16:=JV.out.at 16 rfl)
        | (refine wpList_push_v rfl _ _ 116 rfl rowSS (w4.alloc (.cells #[.slice Ar s.r.length cr,.slice Al s.l.length cl] 74)) w.heap.size (.slice (some ⟨g,0,none⟩) (kp + 1) cp) (kp + 1) _ [.slice Ar s.r.length cr,.slice Al s.l.length cl] rfl (HPP.out.alloc _) (S:=fun _ => True) (m:=2) rfl ⟨some ⟨w4.heap.size,0,none⟩,2,rfl,Nat.le_refl _,fun _ => ⟨w4.heap.size,0,rfl,trivial,by simp,(Var.new w4 [.slice Ar s.r.length cr,.slice Al s.l.length cl] 74 rfl).rg⟩⟩ rfl (by intro u hu; simp at hu; rcases hu with rfl | rfl <;> rfl) (by omega) (by omega) ?_; intro v6 w6 ho6 hg6 hv6; have HB:=Lh ((HB.out.alloc HB.out.size (.cells #[.slice Ar s.r.length cr,.slice Al s.l.length cl] 74)).grown hg6 (HB.out.alloc HB.out.size (.cells #[.slice Ar s.r.length cr,.slice Al s.l.length cl] 74)).size (fun k hk => (HPP.out.1.lt k hk).1)); have HO:=Lh ((HO.out.alloc (.cells #[.slice Ar s.r.length cr,.slice Al s.l.length cl] 74)).turn (Tn.of_gb (M:=fun k => (Value.slice (some ⟨g,0,none⟩) (kp + 1) cp).ownBlock = some k) hg6 fun k e _ => e) (fun k hk e => Own.apt HO.out HPP.out (by decide) k hk e)); have HPP:=Lh ho6; clear ho6 hg6 hv6)
        | fail)
       go_roundg (pmu (PL ++ [(.slice (some ⟨b,off,none⟩) 0 0,l2)] ++ [(.slice Ar s.r.length cr,s.r)] ++ [(.slice Al s.l.length cl,s.l)]))
       case measure =>
        have:=HMU.out; have:=HMS.out
        simp only [pmu_app,pmu_one]
        omega
       case rel =>
        refine ⟨acc,PL ++ [(.slice (some ⟨b,off,none⟩) 0 0,l2)] ++ [(.slice Ar s.r.length cr,s.r)] ++ [(.slice Al s.l.length cl,s.l)],HO.out,by
          have hx:=HPP.out
          rw [List.set_append_right _ _ (Nat.le_of_eq HML.out),HML.out,Nat.sub_self] at hx
          refine hx.cast ?_ ?_
          ·simp [HKP.out]
          ·simp,fun q hq => by
          simp only [List.mem_append,List.mem_singleton] at hq
          rcases hq with ((hq | rfl) | rfl) | rfl
          ·exact HSP.out q hq
          ·exact HTL.out
          ·exact HTR.out.r
          ·exact HTR.out.l,?_,rfl,?_,HB.out⟩
        ·rw [← HT.out,HMSM.out]
         simp [pend]
        ·have:=HMU.out; have:=HMS.out
         simp only [pmu_app,pmu_one]
         omega
      ·skip
       by_cases hk3 : s.k = 3
       ·have HMSM : Hid (s.ms = lms s.l):=Lh (by rw [HMSQ.out,if_neg hk0,if_neg hk2,if_pos hk3])
        have f0 : (s.k == 0) = false:=by simp [hk0]
        have f2 : (s.k == 2) = false:=by simp [hk2]
        have f3 : (s.k == 3) = true:=by simp [hk3]
        go_wp2_with (first
         | (refine wpList_stO rfl _ _ _ rfl (g:=g) (off:=kp) (v:=.slice (some ⟨b,off,none⟩) 0 0) rfl HPP.out rfl (by kernel_rfl) (by omega) rfl ?_; intro w3 ht hs; have HB:=Lh (HB.out.trans (ht.below HB.out.size (fun k hk e => by omega))); have HO:=Lh (HO.out.turn ht (fun k hk e => (Own.apt HO.out HPP.out (by decide)) k hk (by rw [e]; rfl))); have HPP:=Lh hs; have hz3:=HB.out.size; clear ht hs hcell)
         | (refine wpList_ldV rfl 118 _ rfl b off rfl (stC s ⟨.slice Ae s.e.l.length ce,.slice Al s.l.length cl,.slice Ar s.r.length cr⟩) (HRG.out _ HB.out) Tryz.underlying118 rfl info_st ?_)
         | (refine wpList_stV rfl 118 _ _ rfl (G:=w3.heap.size) (off:=0) rfl (us:=stC s ⟨.slice Ae s.e.l.length ce,.slice Al s.l.length cl,.slice Ar s.r.length cr⟩) (Var.new w3 (stC St.nul Tv.nul) 118 rfl) rfl info_st (Nat.le_refl 17) hone ?_; intro w4 ht hs; have ta:=Tn.alloc (fun k => k = w3.heap.size) w3 (.cells z17 118); have HB:=Lh (HB.out.trans ((ta.trans ht).below HB.out.size (fun k hk e => by omega))); have HO:=Lh (HO.out.turn (ta.trans ht) (fun k hk e => by have:=(HO.out.1.lt k hk).2; omega)); have HPP:=Lh (HPP.out.turn (ta.trans ht) (fun k hk e => by have:=(HPP.out.1.lt k hk).2; omega)); have JV:=Lh (show Var w4 w3.heap.size (stC s ⟨.slice Ae s.e.l.length ce,.slice Al s.l.length cl,.slice Ar s.r.length cr⟩) from hs); clear ht hs ta; have k0:=JV.out.at 0 rfl; have k15:=JV.out.at 15 rfl; have k16:=JV.out.at 16 rfl)
         | (refine wpList_push_v rfl _ _ 116 rfl rowSS (w4.alloc (.cells #[.slice Al s.l.length cl] 74)) w.heap.size (.slice (some ⟨g,0,none⟩) (kp + 1) cp) (kp + 1) _ [.slice Al s.l.length cl] rfl (HPP.out.alloc _) (S:=fun _ => True) (m:=1) rfl ⟨some ⟨w4.heap.size,0,none⟩,1,rfl,Nat.le_refl _,fun _ => ⟨w4.heap.size,0,rfl,trivial,by simp,(Var.new w4 [.slice Al s.l.length cl] 74 rfl).rg⟩⟩ rfl (by intro u hu; simp at hu; rcases hu with rfl; rfl) (by omega) (by omega) ?_; intro v6 w6 ho6 hg6 hv6; have HB:=Lh ((HB.out.alloc HB.out.size (.cells #[.slice Al s.l.length cl] 74)).grown hg6 (HB.out.alloc HB.out.size (.cells #[.slice Al s.l.length cl] 74)).size (fun k hk => (HPP.out.1.lt k hk).1)); have HO:=Lh ((HO.out.alloc (.cells #[.slice Al s.l.length cl] 74)).turn (Tn.of_gb (M:=fun k => (Value.slice (some ⟨g,0,none⟩) (kp + 1) cp).ownBlock = some k) hg6 fun k e _ => e) (fun k hk e => Own.apt HO.out HPP.out (by decide) k hk e)); have HPP:=Lh ho6; clear ho6 hg6 hv6)
         | fail)
        go_roundg (pmu (PL ++ [(.slice (some ⟨b,off,none⟩) 0 0,l2)] ++ [(.slice Al s.l.length cl,s.l)]))
        case measure =>
         have:=HMU.out; have:=HMS.out
         simp only [pmu_app,pmu_one]
         omega
        case rel =>
         refine ⟨acc,PL ++ [(.slice (some ⟨b,off,none⟩) 0 0,l2)] ++ [(.slice Al s.l.length cl,s.l)],HO.out,by
           have hx:=HPP.out
           rw [List.set_append_right _ _ (Nat.le_of_eq HML.out),HML.out,Nat.sub_self] at hx
           refine hx.cast ?_ ?_
           ·simp [HKP.out]
           ·simp,fun q hq => by
           simp only [List.mem_append,List.mem_singleton] at hq
           rcases hq with (hq | rfl) | rfl
           ·exact HSP.out q hq
           ·exact HTL.out
           ·exact HTR.out.l,?_,rfl,?_,HB.out⟩
         ·rw [← HT.out,HMSM.out]
          simp [pend]
         ·have:=HMU.out; have:=HMS.out
          simp only [pmu_app,pmu_one]
          omega
       ·skip
        have HMSM : Hid (s.ms = []):=Lh (by rw [HMSQ.out,if_neg hk0,if_neg hk2,if_neg hk3])
        have f0 : (s.k == 0) = false:=by simp [hk0]
        have f2 : (s.k == 2) = false:=by simp [hk2]
        have f3 : (s.k == 3) = false:=by simp [hk3]
        go_wp2_with (first
         | (refine wpList_stO rfl _ _ _ rfl (g:=g) (off:=kp) (v:=.slice (some ⟨b,off,none⟩) 0 0) rfl HPP.out rfl (by kernel_rfl) (by omega) rfl ?_; intro w3 ht hs; have HB:=Lh (HB.out.trans (ht.below HB.out.size (fun k hk e => by omega))); have HO:=Lh (HO.out.turn ht (fun k hk e => (Own.apt HO.out HPP.out (by decide)) k hk (by rw [e]; rfl))); have HPP:=Lh hs; have hz3:=HB.out.size; clear ht hs hcell)
         | (refine wpList_ldV rfl 118 _ rfl b off rfl (stC s ⟨.slice Ae s.e.l.length ce,.slice Al s.l.length cl,.slice Ar s.r.length cr⟩) (HRG.out _ HB.out) Tryz.underlying118 rfl info_st ?_)
         | (refine wpList_stV rfl 118 _ _ rfl (G:=w3.heap.size) (off:=0) rfl (us:=stC s ⟨.slice Ae s.e.l.length ce,.slice Al s.l.length cl,.slice Ar s.r.length cr⟩) (Var.new w3 (stC St.nul Tv.nul) 118 rfl) rfl info_st (Nat.le_refl 17) hone ?_; intro w4 ht hs; have ta:=Tn.alloc (fun k => k = w3.heap.size) w3 (.cells z17 118); have HB:=Lh (HB.out.trans ((ta.trans ht).below HB.out.size (fun k hk e => by omega))); have HO:=Lh (HO.out.turn (ta.trans ht) (fun k hk e => by have:=(HO.out.1.lt k hk).2; omega)); have HPP:=Lh (HPP.out.turn (ta.trans ht) (fun k hk e => by have:=(HPP.out.1.lt k hk).2; omega)); have JV:=Lh (show Var w4 w3.heap.size (stC s ⟨.slice Ae s.e.l.length ce,.slice Al s.l.length cl,.slice Ar s.r.length cr⟩) from hs); clear ht hs ta; have k0:=JV.out.at 0 rfl; have k15:=JV.out.at 15 rfl; have k16:=JV.out.at 16 rfl)
         | fail)
        go_roundg (pmu (PL ++ [(.slice (some ⟨b,off,none⟩) 0 0,l2)]))
        case measure =>
         have:=HMU.out; have:=HMS.out
         simp only [pmu_app,pmu_one]
         omega
        case rel =>
         refine ⟨acc,PL ++ [(.slice (some ⟨b,off,none⟩) 0 0,l2)],HO.out,by
           have hx:=HPP.out
           rw [List.set_append_right _ _ (Nat.le_of_eq HML.out),HML.out,Nat.sub_self] at hx
           refine hx.cast ?_ ?_
           ·simp [HKP.out]
           ·simp,fun q hq => by
           simp only [List.mem_append,List.mem_singleton] at hq
           rcases hq with hq | rfl
           ·exact HSP.out q hq
           ·exact HTL.out,?_,rfl,?_,HB.out⟩
         ·rw [← HT.out,HMSM.out]
          simp [pend]
         ·have:=HMU.out; have:=HMS.out
          simp only [pmu_app,pmu_one]
          omega
    ·have HTL : Hid (ShS w S (.slice (some ⟨b,off + 17,none⟩) n2 (cq - 1)) l2):=Lh (by
      have:=HQ.out.tail (c':=cq - 1) (by have:=HCQ.out; omega)
      simpa using this)
     have hcq2 : ¬ (cq : Int) = 1:=by omega
     by_cases hk0 : s.k = 0
     ·have HMSM : Hid (s.ms = [s.an]):=Lh (by rw [HMSQ.out,if_pos hk0])
      have f0 : (s.k == 0) = true:=by simp [hk0]
      go_wp2_with (first
       | (refine wpList_stO rfl _ _ _ rfl (g:=g) (off:=kp) (v:=.slice (some ⟨b,off + 17,none⟩) n2 (cq - 1)) rfl HPP.out rfl (by kernel_rfl) (by omega) rfl ?_; intro w3 ht hs; have HB:=Lh (HB.out.trans (ht.below HB.out.size (fun k hk e => by omega))); have HO:=Lh (HO.out.turn ht (fun k hk e => (Own.apt HO.out HPP.out (by decide)) k hk (by rw [e]; rfl))); have HPP:=Lh hs; have hz3:=HB.out.size; clear ht hs hcell)
       | (refine wpList_ldV rfl 118 _ rfl b off rfl (stC s ⟨.slice Ae s.e.l.length ce,.slice Al s.l.length cl,.slice Ar s.r.length cr⟩) (HRG.out _ HB.out) Tryz.underlying118 rfl info_st ?_)
       | (refine wpList_stV rfl 118 _ _ rfl (G:=w3.heap.size) (off:=0) rfl (us:=stC s ⟨.slice Ae s.e.l.length ce,.slice Al s.l.length cl,.slice Ar s.r.length cr⟩) (Var.new w3 (stC St.nul Tv.nul) 118 rfl) rfl info_st (Nat.le_refl 17) hone ?_; intro w4 ht hs; have ta:=Tn.alloc (fun k => k = w3.heap.size) w3 (.cells z17 118); have HB:=Lh (HB.out.trans ((ta.trans ht).below HB.out.size (fun k hk e => by omega))); have HO:=Lh (HO.out.turn (ta.trans ht) (fun k hk e => by have:=(HO.out.1.lt k hk).2; omega)); have HPP:=Lh (HPP.out.turn (ta.trans ht) (fun k hk e => by have:=(HPP.out.1.lt k hk).2; omega)); have JV:=Lh (show Var w4 w3.heap.size (stC s ⟨.slice Ae s.e.l.length ce,.slice Al s.l.length cl,.slice Ar s.r.length cr⟩) from hs); clear ht hs ta; have k0:=JV.out.at 0 rfl; have k15:=JV.out.at 15 rfl; have k16:=JV.out.at 16 rfl)
       | (refine wpList_ldV rfl 36 _ rfl w3.heap.size 4 rfl (anC s.an) (JV.out.mid 4 (anC s.an) rfl) Tryz.underlying36 rfl info_an ?_)
       | (refine wpList_build1 rfl 33 36 _ rfl (anC s.an) rfl (by simp [anC]) (by simp [anC]) Tryz.underlying33 info_an (by kernel_rfl) ?_; have HB:=Lh (HB.out.alloc HB.out.size (.cells (anC s.an).toArray 36)); have HPP:=Lh (HPP.out.alloc (.cells (anC s.an).toArray 36)))
       | (refine wpList_push_b rfl _ _ 33 rfl rowAn w4 w.heap.size u3 acc.length (ans acc) (anC s.an) rfl HO.out rfl rfl rfl (anC_one _) (by omega) (by omega) ?_; intro v6 w6 ho6 hg6 hv6; have HB:=Lh (HB.out.grown hg6 HB.out.size (fun k hk => (HO.out.1.lt k hk).1)); have HPP:=Lh (HPP.out.turn (Tn.of_gb (M:=fun k => u3.ownBlock = some k) hg6 fun k e _ => e) (fun k hk e => Own.apt HPP.out (HO.out.alloc _) (by decide) k hk e)); have HO:=Lh ho6; clear ho6 hg6 hv6)
       | fail)
      go_roundg (pmu (PL ++ [(.slice (some ⟨b,off + 17,none⟩) n2 (cq - 1),l2)]))
      case measure =>
       have:=HMU.out; have:=HMS.out
       simp only [pmu_app,pmu_one]
       omega
      case rel =>
       refine ⟨acc ++ [s.an],PL ++ [(.slice (some ⟨b,off + 17,none⟩) n2 (cq - 1),l2)],(HO.out.cast (by simp) (ans_snoc _ _).symm),by
         have hx:=HPP.out
         rw [List.set_append_right _ _ (Nat.le_of_eq HML.out),HML.out,Nat.sub_self] at hx
         refine hx.cast ?_ ?_
         ·simp [HKP.out]
         ·simp,fun q hq => by
         simp only [List.mem_append,List.mem_singleton] at hq
         rcases hq with hq | rfl
         ·exact HSP.out q hq
         ·exact HTL.out,?_,rfl,?_,HB.out⟩
       ·rw [← HT.out,HMSM.out]
        simp [pend]
       ·have:=HMU.out; have:=HMS.out
        simp only [pmu_app,pmu_one]
        omega
     ·skip
      by_cases hk2 : s.k = 2
      ·have HMSM : Hid (s.ms = lms s.l ++ lms s.r):=Lh (by rw [HMSQ.out,if_neg hk0,if_pos hk2])
       have f0 : (s.k == 0) = false:=by simp [hk0]
       have f2 : (s.k == 2) = true:=by simp [hk2]
       go_wp2_with (first
        | (refine wpList_stO rfl _ _ _ rfl (g:=g) (off:=kp) (v:=.slice (some ⟨b,off + 17,none⟩) n2 (cq - 1)) rfl HPP.out rfl (by kernel_rfl) (by omega) rfl ?_; intro w3 ht hs; have HB:=Lh (HB.out.trans (ht.below HB.out.size (fun k hk e => by omega))); have HO:=Lh (HO.out.turn ht (fun k hk e => (Own.apt HO.out HPP.out (by decide)) k hk (by rw [e]; rfl))); have HPP:=Lh hs; have hz3:=HB.out.size; clear ht hs hcell)
        | (refine wpList_ldV rfl 118 _ rfl b off rfl (stC s ⟨.slice Ae s.e.l.length ce,.slice Al s.l.length cl,.slice Ar s.r.length cr⟩) (HRG.out _ HB.out) Tryz.underlying118 rfl info_st ?_)
        | (refine wpList_stV rfl 118 _ _ rfl (G:=w3.heap.size) (off:=0) rfl (us:=stC s ⟨.slice Ae s.e.l.length ce,.slice Al s.l.length cl,.slice Ar s.r.length cr⟩) (Var.new w3 (stC St.nul Tv.nul) 118 rfl) rfl info_st (Nat.le_refl 17) hone ?_; intro w4 ht hs; have ta:=Tn.alloc (fun k => k = w3.heap.size) w3 (.cells z17 118); have HB:=Lh (HB.out.trans ((ta.trans ht).below HB.out.size (fun k hk e => by omega))); have HO:=Lh (HO.out.turn (ta.trans ht) (fun k hk e => by have:=(HO.out.1.lt k hk).2; omega)); have HPP:=Lh (HPP.out.turn (ta.trans ht) (fun k hk e => by have:=(HPP.out.1.lt k hk).2; omega)); have JV:=Lh (show Var w4 w3.heap.size (stC s ⟨.slice Ae s.e.l.length ce,.slice Al s.l.length cl,.slice Ar s.r.length cr⟩) from hs); clear ht hs ta; have k0:=JV.out.at 0 rfl; have k15:=JV.out.at 15 rfl; have k16:=JV.out.at 16 rfl)
        | (refine wpList_push_v rfl _ _ 116 rfl rowSS (w4.alloc (.cells #[.slice Ar s.r.length cr,.slice Al s.l.length cl] 74)) w.heap.size (.slice (some ⟨g,0,none⟩) (kp + 1) cp) (kp + 1) _ [.slice Ar s.r.length cr,.slice Al s.l.length cl] rfl (HPP.out.alloc _) (S:=fun _ => True) (m:=2) rfl ⟨some ⟨w4.heap.size,0,none⟩,2,rfl,Nat.le_refl _,fun _ => ⟨w4.heap.size,0,rfl,trivial,by simp,(Var.new w4 [.slice Ar s.r.length cr,.slice Al s.l.length cl] 74 rfl).rg⟩⟩ rfl (by intro u hu; simp at hu; rcases hu with rfl | rfl <;> rfl) (by omega) (by omega) ?_; intro v6 w6 ho6 hg6 hv6; have HB:=Lh ((HB.out.alloc HB.out.size (.cells #[.slice Ar s.r.length cr,.slice Al s.l.length cl] 74)).grown hg6 (HB.out.alloc HB.out.size (.cells #[.slice Ar s.r.length cr,.slice Al s.l.length cl] 74)).size (fun k hk => (HPP.out.1.lt k hk).1)); have HO:=Lh ((HO.out.alloc (.cells #[.slice Ar s.r.length cr,.slice Al s.l.length cl] 74)).turn (Tn.of_gb (M:=fun k => (Value.slice (some ⟨g,0,none⟩) (kp + 1) cp).ownBlock = some k) hg6 fun k e _ => e) (fun k hk e => Own.apt HO.out HPP.out (by decide) k hk e)); have HPP:=Lh ho6; clear ho6 hg6 hv6)
        | fail)
       go_roundg (pmu (PL ++ [(.slice (some ⟨b,off + 17,none⟩) n2 (cq - 1),l2)] ++ [(.slice Ar s.r.length cr,s.r)] ++ [(.slice Al s.l.length cl,s.l)]))
       case measure =>
        have:=HMU.out; have:=HMS.out
        simp only [pmu_app,pmu_one]
        omega
       case rel =>
        refine ⟨acc,PL ++ [(.slice (some ⟨b,off + 17,none⟩) n2 (cq - 1),l2)] ++ [(.slice Ar s.r.length cr,s.r)] ++ [(.slice Al s.l.length cl,s.l)],HO.out,by
          have hx:=HPP.out
          rw [List.set_append_right _ _ (Nat.le_of_eq HML.out),HML.out,Nat.sub_self] at hx
          refine hx.cast ?_ ?_
          ·simp [HKP.out]
          ·simp,fun q hq => by
          simp only [List.mem_append,List.mem_singleton] at hq
          rcases hq with ((hq | rfl) | rfl) | rfl
          ·exact HSP.out q hq
          ·exact HTL.out
          ·exact HTR.out.r
          ·exact HTR.out.l,?_,rfl,?_,HB.out⟩
        ·rw [← HT.out,HMSM.out]
         simp [pend]
        ·have:=HMU.out; have:=HMS.out
         simp only [pmu_app,pmu_one]
         omega
      ·skip
       by_cases hk3 : s.k = 3
       ·have HMSM : Hid (s.ms = lms s.l):=Lh (by rw [HMSQ.out,if_neg hk0,if_neg hk2,if_pos hk3])
        have f0 : (s.k == 0) = false:=by simp [hk0]
        have f2 : (s.k == 2) = false:=by simp [hk2]
        have f3 : (s.k == 3) = true:=by simp [hk3]
        go_wp2_with (first
         | (refine wpList_stO rfl _ _ _ rfl (g:=g) (off:=kp) (v:=.slice (some ⟨b,off + 17,none⟩) n2 (cq - 1)) rfl HPP.out rfl (by kernel_rfl) (by omega) rfl ?_; intro w3 ht hs; have HB:=Lh (HB.out.trans (ht.below HB.out.size (fun k hk e => by omega))); have HO:=Lh (HO.out.turn ht (fun k hk e => (Own.apt HO.out HPP.out (by decide)) k hk (by rw [e]; rfl))); have HPP:=Lh hs; have hz3:=HB.out.size; clear ht hs hcell)
         | (refine wpList_ldV rfl 118 _ rfl b off rfl (stC s ⟨.slice Ae s.e.l.length ce,.slice Al s.l.length cl,.slice Ar s.r.length cr⟩) (HRG.out _ HB.out) Tryz.underlying118 rfl info_st ?_)
         | (refine wpList_stV rfl 118 _ _ rfl (G:=w3.heap.size) (off:=0) rfl (us:=stC s ⟨.slice Ae s.e.l.length ce,.slice Al s.l.length cl,.slice Ar s.r.length cr⟩) (Var.new w3 (stC St.nul Tv.nul) 118 rfl) rfl info_st (Nat.le_refl 17) hone ?_; intro w4 ht hs; have ta:=Tn.alloc (fun k => k = w3.heap.size) w3 (.cells z17 118); have HB:=Lh (HB.out.trans ((ta.trans ht).below HB.out.size (fun k hk e => by omega))); have HO:=Lh (HO.out.turn (ta.trans ht) (fun k hk e => by have:=(HO.out.1.lt k hk).2; omega)); have HPP:=Lh (HPP.out.turn (ta.trans ht) (fun k hk e => by have:=(HPP.out.1.lt k hk).2; omega)); have JV:=Lh (show Var w4 w3.heap.size (stC s ⟨.slice Ae s.e.l.length ce,.slice Al s.l.length cl,.slice Ar s.r.length cr⟩) from hs); clear ht hs ta; have k0:=JV.out.at 0 rfl; have k15:=JV.out.at 15 rfl; have k16:=JV.out.at 16 rfl)
         | (refine wpList_push_v rfl _ _ 116 rfl rowSS (w4.alloc (.cells #[.slice Al s.l.length cl] 74)) w.heap.size (.slice (some ⟨g,0,none⟩) (kp + 1) cp) (kp + 1) _ [.slice Al s.l.length cl] rfl (HPP.out.alloc _) (S:=fun _ => True) (m:=1) rfl ⟨some ⟨w4.heap.size,0,none⟩,1,rfl,Nat.le_refl _,fun _ => ⟨w4.heap.size,0,rfl,trivial,by simp,(Var.new w4 [.slice Al s.l.length cl] 74 rfl).rg⟩⟩ rfl (by intro u hu; simp at hu; rcases hu with rfl; rfl) (by omega) (by omega) ?_; intro v6 w6 ho6 hg6 hv6; have HB:=Lh ((HB.out.alloc HB.out.size (.cells #[.slice Al s.l.length cl] 74)).grown hg6 (HB.out.alloc HB.out.size (.cells #[.slice Al s.l.length cl] 74)).size (fun k hk => (HPP.out.1.lt k hk).1)); have HO:=Lh ((HO.out.alloc (.cells #[.slice Al s.l.length cl] 74)).turn (Tn.of_gb (M:=fun k => (Value.slice (some ⟨g,0,none⟩) (kp + 1) cp).ownBlock = some k) hg6 fun k e _ => e) (fun k hk e => Own.apt HO.out HPP.out (by decide) k hk e)); have HPP:=Lh ho6; clear ho6 hg6 hv6)
         | fail)
        go_roundg (pmu (PL ++ [(.slice (some ⟨b,off + 17,none⟩) n2 (cq - 1),l2)] ++ [(.slice Al s.l.length cl,s.l)]))
        case measure =>
         have:=HMU.out; have:=HMS.out
         simp only [pmu_app,pmu_one]
         omega
        case rel =>
         refine ⟨acc,PL ++ [(.slice (some ⟨b,off + 17,none⟩) n2 (cq - 1),l2)] ++ [(.slice Al s.l.length cl,s.l)],HO.out,by
           have hx:=HPP.out
           rw [List.set_append_right _ _ (Nat.le_of_eq HML.out),HML.out,Nat.sub_self] at hx
           refine hx.cast ?_ ?_
           ·simp [HKP.out]
           ·simp,fun q hq => by
           simp only [List.mem_append,List.mem_singleton] at hq
           rcases hq with (hq | rfl) | rfl
           ·exact HSP.out q hq
           ·exact HTL.out
           ·exact HTR.out.l,?_,rfl,?_,HB.out⟩
         ·rw [← HT.out,HMSM.out]
          simp [pend]
         ·have:=HMU.out; have:=HMS.out
          simp only [pmu_app,pmu_one]
          omega
       ·skip
        have HMSM : Hid (s.ms = []):=Lh (by rw [HMSQ.out,if_neg hk0,if_neg hk2,if_neg hk3])
        have f0 : (s.k == 0) = false:=by simp [hk0]
        have f2 : (s.k == 2) = false:=by simp [hk2]
        have f3 : (s.k == 3) = false:=by simp [hk3]
        go_wp2_with (first
         | (refine wpList_stO rfl _ _ _ rfl (g:=g) (off:=kp) (v:=.slice (some ⟨b,off + 17,none⟩) n2 (cq - 1)) rfl HPP.out rfl (by kernel_rfl) (by omega) rfl ?_; intro w3 ht hs; have HB:=Lh (HB.out.trans (ht.below HB.out.size (fun k hk e => by omega))); have HO:=Lh (HO.out.turn ht (fun k hk e => (Own.apt HO.out HPP.out (by decide)) k hk (by rw [e]; rfl))); have HPP:=Lh hs; have hz3:=HB.out.size; clear ht hs hcell)
         | (refine wpList_ldV rfl 118 _ rfl b off rfl (stC s ⟨.slice Ae s.e.l.length ce,.slice Al s.l.length cl,.slice Ar s.r.length cr⟩) (HRG.out _ HB.out) Tryz.underlying118 rfl info_st ?_)
         | (refine wpList_stV rfl 118 _ _ rfl (G:=w3.heap.size) (off:=0) rfl (us:=stC s ⟨.slice Ae s.e.l.length ce,.slice Al s.l.length cl,.slice Ar s.r.length cr⟩) (Var.new w3 (stC St.nul Tv.nul) 118 rfl) rfl info_st (Nat.le_refl 17) hone ?_; intro w4 ht hs; have ta:=Tn.alloc (fun k => k = w3.heap.size) w3 (.cells z17 118); have HB:=Lh (HB.out.trans ((ta.trans ht).below HB.out.size (fun k hk e => by omega))); have HO:=Lh (HO.out.turn (ta.trans ht) (fun k hk e => by have:=(HO.out.1.lt k hk).2; omega)); have HPP:=Lh (HPP.out.turn (ta.trans ht) (fun k hk e => by have:=(HPP.out.1.lt k hk).2; omega)); have JV:=Lh (show Var w4 w3.heap.size (stC s ⟨.slice Ae s.e.l.length ce,.slice Al s.l.length cl,.slice Ar s.r.length cr⟩) from hs); clear ht hs ta; have k0:=JV.out.at 0 rfl; have k15:=JV.out.at 15 rfl; have k16:=JV.out.at 16 rfl)
         | fail)
        go_roundg (pmu (PL ++ [(.slice (some ⟨b,off + 17,none⟩) n2 (cq - 1),l2)]))
        case measure =>
         have:=HMU.out; have:=HMS.out
         simp only [pmu_app,pmu_one]
         omega
        case rel =>
         refine ⟨acc,PL ++ [(.slice (some ⟨b,off + 17,none⟩) n2 (cq - 1),l2)],HO.out,by
           have hx:=HPP.out
           rw [List.set_append_right _ _ (Nat.le_of_eq HML.out),HML.out,Nat.sub_self] at hx
           refine hx.cast ?_ ?_
           ·simp [HKP.out]
           ·simp,fun q hq => by
           simp only [List.mem_append,List.mem_singleton] at hq
           rcases hq with hq | rfl
           ·exact HSP.out q hq
           ·exact HTL.out,?_,rfl,?_,HB.out⟩
         ·rw [← HT.out,HMSM.out]
          simp [pend]
         ·have:=HMU.out; have:=HMS.out
          simp only [pmu_app,pmu_one]
          omega
end Go.Proofs.YtkjhlgnpohamnaaGreatDoor
