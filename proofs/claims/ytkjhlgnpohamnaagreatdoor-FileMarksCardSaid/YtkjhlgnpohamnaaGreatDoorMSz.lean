import Derived.Test.YtkjhlgnpohamnaaGreatDoorStM
namespace Go.Proofs.YtkjhlgnpohamnaaGreatDoor
set_option linter.unusedVariables false
set_option linter.unusedSimpArgs false
structure Up (R : Rw) (k : Nat) (x y : Nat × Int) : Prop where
 le : x.1 ≤ y.1
 n : y.1 ≤ R.n
 st : y.2 = 0 → x.2 = 0 ∧ x.1 + k ≤ y.1
section
variable {R : Rw} {k j : Nat} {x y z : Nat × Int}
theorem Up.refl (h : x.1 ≤ R.n) : Up R 0 x x:=⟨Nat.le_refl _,h,fun e => ⟨e,Nat.le_refl _⟩⟩
theorem Up.trans (h : Up R k x y) (h' : Up R j y z) : Up R (k + j) x z:=⟨Nat.le_trans h.le h'.le,h'.n,fun e => by
 obtain ⟨e1,e2⟩:=h'.st e
 obtain ⟨e3,e4⟩:=h.st e1
 exact ⟨e3,by omega⟩⟩
theorem Up.weak (h : Up R k x y) (hj : j ≤ k) : Up R j x y:=⟨h.le,h.n,fun e => ⟨(h.st e).1,by have:=(h.st e).2; omega⟩⟩
theorem Up.bad (h : x.1 ≤ R.n) {r : Int} (hr : ¬ r = 0) : Up R k x (x.1,r):=⟨Nat.le_refl _,h,fun e => absurd e hr⟩
theorem Up.stay (h : x.1 ≤ R.n) (hr : ¬ x.2 = 0) : Up R k x x:=⟨Nat.le_refl _,h,fun e => absurd e hr⟩
theorem mu_up (hR : R.Ok) : ∀ (l : List ByteArray),(∀ s ∈ l,∃ c t,s.toList = c :: t) → ∀ (x : Nat × Int),x.1 ≤ R.n → Up R l.length x (mu R x l)
 | [],_,x,h => by
  unfold mu
  split
  ·rename_i e
   show Up R 0 x (x.1,0)
   exact ⟨Nat.le_refl _,h,fun _ => ⟨e,Nat.le_refl _⟩⟩
  ·exact Up.refl h
 | s :: l,hl,x,h => by
  by_cases hr : x.2 = 0
  ·obtain ⟨p,r⟩:=x
   dsimp only at hr h
   subst hr
   obtain ⟨c,t,hc⟩:=hl s List.mem_cons_self
   have hl' : ∀ s ∈ l,∃ c t,s.toList = c :: t:=fun q hq => hl q (List.mem_cons_of_mem _ hq)
   cases hi : R.is p s.toList with
   | true =>
    have hlt:=hR.is_lt (hc ▸ hi)
    have e : mu R (p,0) (s :: l) = mu R (p + 1,0) l:=by
     unfold mu
     rw [if_pos rfl,if_pos rfl]
     show (if R.is p s.toList = true then _ else _) = _
     rw [if_pos hi]
    rw [e]
    have h1 : Up R 1 (p,0) (p + 1,0):=⟨Nat.le_succ _,hlt,fun _ => ⟨rfl,Nat.le_refl _⟩⟩
    exact (h1.trans (mu_up hR l hl' (p + 1,0) hlt)).weak (by simp; omega)
   | false =>
    have e : mu R (p,0) (s :: l) = (p,11):=by
     unfold mu
     rw [if_pos rfl]
     show (if R.is p s.toList = true then _ else _) = _
     rw [if_neg (by rw [hi]; decide)]
    rw [e]
    exact Up.bad (x:=(p,0)) h (by decide)
  ·unfold mu
   rw [if_neg hr]
   exact Up.stay h hr
theorem mu1 (hR : R.Ok) (s : ByteArray) (c : UInt8) (t : List UInt8) (hs : s.toList = c :: t) (h : x.1 ≤ R.n) : Up R 1 x (mu R x [s]):=mu_up hR [s] (fun q hq => by rw [List.mem_singleton.1 hq]; exact ⟨c,t,hs⟩) x h
theorem pnm_up (hR : R.Ok) (h : x.1 ≤ R.n) : Up R 1 x (pnm R x).2:=by
 unfold pnm nmS
 split
 ·rename_i e
  split
  ·rename_i hi
   exact ⟨Nat.le_succ _,hR.id_lt hi,fun _ => ⟨e,Nat.le_refl _⟩⟩
  ·exact Up.bad h (by decide)
 ·exact Up.stay h (by assumption)
theorem pty_up (hR : R.Ok) (h : x.1 ≤ R.n) : Up R 1 x (pty R x).2:=by
 unfold pty tyS
 split
 ·rename_i e
  split
  ·rename_i hi
   exact ⟨Nat.le_succ _,hR.is_lt hi,fun _ => ⟨e,Nat.le_refl _⟩⟩
  ·split
   ·rename_i hi
    exact ⟨Nat.le_succ _,hR.is_lt hi,fun _ => ⟨e,Nat.le_refl _⟩⟩
   ·exact Up.bad h (by decide)
 ·exact Up.stay h (by assumption)
theorem pmk_up (hR : R.Ok) (h : x.1 ≤ R.n) : Up R 0 x (pmk R x).2:=by
 unfold pmk markS
 split
 ·rename_i e
  split
  ·rename_i ha
   have hlt : x.1 < R.n:=by
    rw [Bool.or_eq_true] at ha
    exact ha.elim hR.is_lt hR.is_lt
   split
   ·rename_i hi
    exact ⟨by show x.1 ≤ x.1 + 2; omega,by have:=hR.id_lt hi; show x.1 + 2 ≤ R.n; omega,fun _ => ⟨e,by show x.1 + 0 ≤ x.1 + 2; omega⟩⟩
   ·exact ⟨by show x.1 ≤ x.1 + 1; omega,by show x.1 + 1 ≤ R.n; omega,fun h => by cases h⟩
  ·exact ⟨Nat.le_refl _,h,fun _ => ⟨e,Nat.le_refl _⟩⟩
 ·exact Up.stay h (by assumption)
theorem pex_up (hR : R.Ok) (F : Nat) (h : x.1 ≤ R.n) : Up R 0 x (pex R F x).2:=by
 unfold pex exS
 split
 ·rename_i e
  have hi:=rd_in hR F (.lev 1) x.1 0 h (fun h => by cases h)
  exact ⟨hi.1,hi.2.1,fun _ => ⟨e,hi.1⟩⟩
 ·exact Up.stay h (by assumption)
theorem wd1 (c : UInt8) (t : List UInt8) : (⟨(c :: t).toArray⟩ : ByteArray).toList = c :: t:=by rw [ByteArray.toList_eq]
theorem mw (hR : R.Ok) (c : UInt8) (t : List UInt8) (h : x.1 ≤ R.n) : Up R 1 x (mu R x [⟨(c :: t).toArray⟩]):=mu1 hR _ c t (wd1 c t) h
theorem hdS_up (hR : R.Ok) (F : Nat) {p : Nat} (h : p ≤ R.n) : Up R 1 (p,0) (hdS R F p).2:=by
 have h0 : ((p,0) : Nat × Int).1 ≤ R.n:=h
 unfold hdS
 split
 ·unfold letS
  dsimp only
  have u1:=mw (x:=(p,0)) hR 108 [101,116] h0
  have u2:=pnm_up hR u1.n
  have u3:=mw hR 58 [] u2.n
  have u4:=pty_up hR u3.n
  have u5:=pmk_up hR u4.n
  have u6:=mw hR 61 [] u5.n
  have u7:=pex_up hR F u6.n
  have u8:=mw hR 59 [] u7.n
  exact (((((((u1.trans u2).trans u3).trans u4).trans u5).trans u6).trans u7).trans u8).weak (by omega)
 have ask : ∀ (k a : Int) (c : UInt8) (t : List UInt8),Up R 1 (p,0) (askS R F k a ⟨(c :: t).toArray⟩ (p,0)).2:=fun k a c t => by
  unfold askS
  dsimp only
  have u1:=mu_up hR [⟨(c :: t).toArray⟩,wPar] (fun s hs => by
   rcases List.mem_cons.1 hs with e | hs
   ·exact ⟨c,t,by rw [e,wd1]⟩
   ·exact ⟨40,[],by rw [List.mem_singleton.1 hs]; exact wd1 40 []⟩) (p,0) h0
  have u2:=pex_up hR F u1.n
  have u3:=mw hR 41 [] u2.n
  exact ((u1.trans u2).trans u3).weak (by omega)
 split
 ·exact ask _ _ 105 [102]
 split
 ·exact ask _ _ 119 [104,105,108,101]
 split
 ·unfold doS
  dsimp only
  have u1:=mw (x:=(p,0)) hR 100 [111] h0
  have u2:=pnm_up hR u1.n
  have u3:=mw hR 59 [] u2.n
  exact ((u1.trans u2).trans u3).weak (by omega)
 ·unfold plS
  dsimp only
  have u1:=pex_up (x:=(p,0)) hR F h0
  split
  ·split
   ·have u2:=mw hR 61 [] u1.n
    have u3:=pex_up hR F u2.n
    have u4:=mw hR 59 [] u3.n
    exact (((u1.trans u2).trans u3).trans u4).weak (by omega)
   split
   ·have u2:=mw hR 59 [] u1.n
    exact (u1.trans u2).weak (by omega)
   ·exact ⟨u1.le,u1.n,fun e => by cases e⟩
  ·rename_i hr
   exact ⟨u1.le,u1.n,fun e => absurd e hr⟩
theorem enter_up (hR : R.Ok) (D : Int) (m : Mc) (b : Bk) (h : m.p ≤ R.n) : Up R 1 (m.p,m.r) ((m.enter R D b).p,(m.enter R D b).r):=by
 unfold Mc.enter
 dsimp only
 split
 ·have u:=mw (x:=(m.p,12)) hR 123 [] h
  exact ⟨u.le,u.n,fun e => by cases (u.st e).1⟩
 ·exact mw (x:=(m.p,m.r)) hR 123 [] h
structure Mc.Fit (R : Rw) (m : Mc) : Prop where
 n : m.p ≤ R.n
 row : m.row.length ≤ m.p
 op : m.op.length ≤ m.p
 ah : ∀ b ∈ m.op,b.ah.length ≤ m.p
theorem enter_fit (hR : R.Ok) (D : Int) (m : Mc) (b : Bk) (h : m.p ≤ R.n) (ho : m.op.length ≤ m.p) (ha : ∀ b ∈ m.op,b.ah.length ≤ m.p) (hb : b.ah.length ≤ m.p) (hr : (m.enter R D b).r = 0) : m.r = 0 ∧ m.p < (m.enter R D b).p ∧ (m.enter R D b).Fit R:=by
 have u:=enter_up hR D m b h
 obtain ⟨h1,h2⟩:=u.st hr
 dsimp only at h1 h2
 have hn:=u.n
 dsimp only at hn
 refine ⟨h1,by omega,⟨hn,?_,?_,fun q hq => ?_⟩⟩
 ·show 0 ≤ _; omega
 ·show (m.op ++ [b]).length ≤ _; simp; omega
 ·have hq' : q ∈ m.op ++ [b]:=hq
  rcases List.mem_append.1 hq' with hq' | hq'
  ·have:=ha q hq'; omega
  ·rw [List.mem_singleton.1 hq']; omega
theorem step_fit (hR : R.Ok) (F : Nat) (D : Int) (m : Mc) (hm : m.Fit R) (h0 : m.r = 0) (hr : (m.step R F D).r = 0) : m.p < (m.step R F D).p ∧ (m.step R F D).Fit R:=by
 have hu:=hdS_up hR F hm.n
 have hd : ∀ (hr : (if (hdS R F m.p).1.k = 2 ∨ (hdS R F m.p).1.k = 3 then Mc.enter R D ⟨m.row,m.op,(hdS R F m.p).2.1,(hdS R F m.p).2.2⟩ ⟨(hdS R F m.p).1,m.row,false⟩ else ⟨m.row ++ [(hdS R F m.p).1],m.op,(hdS R F m.p).2.1,(hdS R F m.p).2.2⟩ : Mc).r = 0),
   m.p < (if (hdS R F m.p).1.k = 2 ∨ (hdS R F m.p).1.k = 3 then Mc.enter R D ⟨m.row,m.op,(hdS R F m.p).2.1,(hdS R F m.p).2.2⟩ ⟨(hdS R F m.p).1,m.row,false⟩ else ⟨m.row ++ [(hdS R F m.p).1],m.op,(hdS R F m.p).2.1,(hdS R F m.p).2.2⟩ : Mc).p ∧
   (if (hdS R F m.p).1.k = 2 ∨ (hdS R F m.p).1.k = 3 then Mc.enter R D ⟨m.row,m.op,(hdS R F m.p).2.1,(hdS R F m.p).2.2⟩ ⟨(hdS R F m.p).1,m.row,false⟩ else ⟨m.row ++ [(hdS R F m.p).1],m.op,(hdS R F m.p).2.1,(hdS R F m.p).2.2⟩ : Mc).Fit R:=by
  split
  ·intro hr
   have hl : m.p ≤ (hdS R F m.p).2.1:=hu.le
   obtain ⟨h1,h2,h3⟩:=enter_fit hR D ⟨m.row,m.op,(hdS R F m.p).2.1,(hdS R F m.p).2.2⟩ ⟨(hdS R F m.p).1,m.row,false⟩ hu.n (Nat.le_trans hm.op hl) (fun b hb => Nat.le_trans (hm.ah b hb) hl) (Nat.le_trans hm.row hl) hr
   exact ⟨Nat.lt_of_le_of_lt hl h2,h3⟩
  ·intro hr
   have hl : m.p ≤ (hdS R F m.p).2.1:=hu.le
   have h2 : m.p + 1 ≤ (hdS R F m.p).2.1:=(hu.st hr).2
   exact ⟨h2,⟨hu.n,by show (m.row ++ [(hdS R F m.p).1]).length ≤ (hdS R F m.p).2.1; have:=hm.row; simp; omega,Nat.le_trans hm.op hl,fun b hb => Nat.le_trans (hm.ah b hb) hl⟩⟩
 unfold Mc.step at hr ⊢
 split at hr
 ·rename_i b hb
  have hbm : b ∈ m.op:=List.mem_of_getLast? hb
  split at hr
  ·rename_i he
   simp only [hb,if_pos he]
   have hx : m.p ≤ R.n:=hm.n
   have u:=mw (x:=(m.p,m.r)) hR 125 [] hx
   have hab:=hm.ah b hbm
   have hdl : ∀ q ∈ m.op.dropLast,q ∈ m.op:=fun q hq => (List.dropLast_sublist _).subset hq
   have hol:=hm.op
   unfold Mc.leave at hr ⊢
   dsimp only at hr ⊢
   have hul : m.p ≤ (mu R (m.p,m.r) [wKet]).1:=u.le
   split at hr
   ·rename_i hc
    rw [if_pos hc]
    have hlt : (mu R (m.p,m.r) [wKet]).1 + 1 ≤ R.n:=hR.is_lt hc.2.2
    have hl1 : m.p ≤ (mu R (m.p,m.r) [wKet]).1 + 1:=Nat.le_succ_of_le hul
    obtain ⟨h1,h2,h3⟩:=enter_fit hR D ⟨m.row,m.op.dropLast,(mu R (m.p,m.r) [wKet]).1 + 1,(mu R (m.p,m.r) [wKet]).2⟩ ⟨b.shut m.row,b.ah,true⟩ hlt (by show m.op.dropLast.length ≤ (mu R (m.p,m.r) [wKet]).1 + 1; simp; omega) (fun q hq => Nat.le_trans (hm.ah q (hdl q hq)) hl1) (Nat.le_trans hab hl1) hr
    exact ⟨Nat.lt_of_le_of_lt hl1 h2,h3⟩
   ·rename_i hc
    rw [if_neg hc]
    have h2 : m.p + 1 ≤ (mu R (m.p,m.r) [wKet]).1:=(u.st hr).2
    exact ⟨h2,⟨u.n,by show (b.ah ++ [b.shut m.row]).length ≤ (mu R (m.p,m.r) [wKet]).1; simp; omega,by show m.op.dropLast.length ≤ (mu R (m.p,m.r) [wKet]).1; simp; omega,fun q hq => Nat.le_trans (hm.ah q (hdl q hq)) hul⟩⟩
  ·rename_i he
   simp only [hb,if_neg he]
   exact hd hr
 ·exact hd hr
end
section
variable {R : Rw} {F f : Nat} {D : Int} {dn : Mc → Bool}
theorem rs_row {acc : List St} {p : Nat} {d : Int} : rs R F (f + 1) (.row acc) p d =
  if endsB R p = true then goods St.nul acc p
  else if (rs R F f .st p d).r = 0 then rs R F f (.row (acc ++ [(rs R F f .st p d).s])) (rs R F f .st p d).p d
  else bads (rs R F f .st p d).p (rs R F f .st p d).r:=by simp only [rs]
theorem rs_blk {p : Nat} {d : Int} : rs R F (f + 1) .blk p d =
  if R.is p [123] = true then
   if 32 ≤ d then bads p 12
   else if (rs R F f (.row []) (p + 1) (d + 1)).r = 0 then
    (if R.is (rs R F f (.row []) (p + 1) (d + 1)).p [125] = true then goods St.nul (rs R F f (.row []) (p + 1) (d + 1)).l ((rs R F f (.row []) (p + 1) (d + 1)).p + 1) else bads (rs R F f (.row []) (p + 1) (d + 1)).p 11)
   else bads (rs R F f (.row []) (p + 1) (d + 1)).p (rs R F f (.row []) (p + 1) (d + 1)).r
  else bads p 11:=by simp only [rs]
theorem rs_st {p : Nat} {d : Int} : rs R F (f + 1) .st p d =
  if (hdS R F p).2.2 = 0 then
   if (hdS R F p).1.k = 2 ∨ (hdS R F p).1.k = 3 then
    if (rs R F f .blk (hdS R F p).2.1 d).r = 0 then
     if (hdS R F p).1.k = 2 ∧ R.is (rs R F f .blk (hdS R F p).2.1 d).p lElse = true then
      if (rs R F f .blk ((rs R F f .blk (hdS R F p).2.1 d).p + 1) d).r = 0 then goods (((hdS R F p).1.setL (rs R F f .blk (hdS R F p).2.1 d).l).setR (rs R F f .blk ((rs R F f .blk (hdS R F p).2.1 d).p + 1) d).l) [] (rs R F f .blk ((rs R F f .blk (hdS R F p).2.1 d).p + 1) d).p
      else bads (rs R F f .blk ((rs R F f .blk (hdS R F p).2.1 d).p + 1) d).p (rs R F f .blk ((rs R F f .blk (hdS R F p).2.1 d).p + 1) d).r
     else goods ((hdS R F p).1.setL (rs R F f .blk (hdS R F p).2.1 d).l) [] (rs R F f .blk (hdS R F p).2.1 d).p
    else bads (rs R F f .blk (hdS R F p).2.1 d).p (rs R F f .blk (hdS R F p).2.1 d).r
   else goods (hdS R F p).1 [] (hdS R F p).2.1
  else bads (hdS R F p).2.1 (hdS R F p).2.2:=by simp only [rs]
def Goes (R : Rw) (F : Nat) (D : Int) (dn : Mc → Bool) (m m' : Mc) : Prop:=∀ x,EndsS R F D dn m' x → EndsS R F D dn m x
def Errs (R : Rw) (F : Nat) (D : Int) (dn : Mc → Bool) (m : Mc) (p : Nat) (r : Int) : Prop:=¬ r = 0 ∧ ∃ x,EndsS R F D dn m x ∧ x.p = p ∧ x.r = r
theorem Goes.refl (m : Mc) : Goes R F D dn m m:=fun x h => h
theorem Goes.trans {a b c : Mc} (h : Goes R F D dn a b) (k : Goes R F D dn b c) : Goes R F D dn a c:=fun x hx => h x (k x hx)
theorem Goes.errs {a b : Mc} {p : Nat} {r : Int} (h : Goes R F D dn a b) (k : Errs R F D dn b p r) : Errs R F D dn a p r:=⟨k.1,by obtain ⟨x,h1,h2⟩:=k.2; exact ⟨x,h x h1,h2⟩⟩
theorem Goes.step {m : Mc} (hd : dn m = false) (hr : (m.step R F D).r = 0) : Goes R F D dn m (m.step R F D):=fun x hx => .on m x hd hr hx
theorem Errs.step {m : Mc} (hd : dn m = false) (hr : ¬ (m.step R F D).r = 0) : Errs R F D dn m (m.step R F D).p (m.step R F D).r:=⟨hr,_,.err m hd hr,rfl,rfl⟩
theorem step_head {row : List St} {op : List Bk} {p : Nat} {r : Int} (h : op = [] ∨ endsB R p = false) : Mc.step R F D ⟨row,op,p,r⟩ =
  if (hdS R F p).1.k = 2 ∨ (hdS R F p).1.k = 3 then Mc.enter R D ⟨row,op,(hdS R F p).2.1,(hdS R F p).2.2⟩ ⟨(hdS R F p).1,row,false⟩
  else ⟨row ++ [(hdS R F p).1],op,(hdS R F p).2.1,(hdS R F p).2.2⟩:=by
 unfold Mc.step
 rcases h with h | h
 ·subst h; rfl
 ·dsimp only
  split
  ·rw [if_neg (by rw [h]; decide)]
  ·rfl
theorem stepz_leave {row : List St} {op : List Bk} {b : Bk} {p : Nat} {r : Int} (h : endsB R p = true) : Mc.step R F D ⟨row,op ++ [b],p,r⟩ = Mc.leave R D ⟨row,op ++ [b],p,r⟩ b:=by
 unfold Mc.step
 simp only [List.getLast?_concat,if_pos h]
theorem muz_bad {x : Nat × Int} (h : ¬ x.2 = 0) (l : List ByteArray) : mu R x l = x:=by unfold mu; rw [if_neg h]
theorem muz_yes {p : Nat} {c : UInt8} {t : List UInt8} (h : R.is p (c :: t) = true) : mu R (p,0) [⟨(c :: t).toArray⟩] = (p + 1,0):=by
 unfold mu
 rw [if_pos rfl]
 show (if R.is p (⟨(c :: t).toArray⟩ : ByteArray).toList = true then _ else _) = _
 rw [wd1,if_pos h]
 rfl
theorem muz_no {p : Nat} {c : UInt8} {t : List UInt8} (h : R.is p (c :: t) = false) : mu R (p,0) [⟨(c :: t).toArray⟩] = (p,11):=by
 unfold mu
 rw [if_pos rfl]
 show (if R.is p (⟨(c :: t).toArray⟩ : ByteArray).toList = true then _ else _) = _
 rw [wd1,if_neg (by rw [h]; decide)]
theorem is_one {p : Nat} {l k : List UInt8} (h : R.is p l = true) (hk : k ≠ l) : R.is p k = false:=by
 unfold Rw.is at h ⊢
 have h' : (R.wd p).toList = l:=by simpa using h
 rw [h']
 simpa using Ne.symm hk
theorem ends_else (hR : R.Ok) {p : Nat} (h : endsB R p = true) : R.is p lElse = false:=by
 unfold endsB at h
 rcases Bool.or_eq_true_iff.1 h with h | h
 ·rcases Bool.or_eq_true_iff.1 h with h | h
  ·exact is_one h (by decide)
  ·exact is_one h (by decide)
 ·have : p = R.n:=of_decide_eq_true h
  cases hc : R.is p lElse with
  | false => rfl
  | true => have:=hR.is_lt hc; omega
def SimSt (R : Rw) (F : Nat) (D : Int) (dn : Mc → Bool) (f : Nat) : Prop:=∀ (p : Nat) (row : List St) (op : List Bk) (d : Int),d = D + (op.length : Int) → 3 * (R.n - p) + 2 ≤ f → p ≤ R.n → dn ⟨row,op,p,0⟩ = false → (op = [] ∨ endsB R p = false) →
 ((rs R F f .st p d).r = 0 → Goes R F D dn ⟨row,op,p,0⟩ ⟨row ++ [(rs R F f .st p d).s],op,(rs R F f .st p d).p,0⟩ ∧ p < (rs R F f .st p d).p ∧ (rs R F f .st p d).p ≤ R.n) ∧
 (¬ (rs R F f .st p d).r = 0 → Errs R F D dn ⟨row,op,p,0⟩ (rs R F f .st p d).p (rs R F f .st p d).r)
def SimRow (R : Rw) (F : Nat) (D : Int) (dn : Mc → Bool) (f : Nat) : Prop:=∀ (p : Nat) (acc : List St) (op : List Bk) (d : Int),d = D + (op.length : Int) → 3 * (R.n - p) + 3 ≤ f → p ≤ R.n → (∀ row p,endsB R p = false → dn ⟨row,op,p,0⟩ = false) →
 ((rs R F f (.row acc) p d).r = 0 → Goes R F D dn ⟨acc,op,p,0⟩ ⟨(rs R F f (.row acc) p d).l,op,(rs R F f (.row acc) p d).p,0⟩ ∧ endsB R (rs R F f (.row acc) p d).p = true ∧ p ≤ (rs R F f (.row acc) p d).p ∧ (rs R F f (.row acc) p d).p ≤ R.n) ∧
 (¬ (rs R F f (.row acc) p d).r = 0 → Errs R F D dn ⟨acc,op,p,0⟩ (rs R F f (.row acc) p d).p (rs R F f (.row acc) p d).r)
def SimBlk (R : Rw) (F : Nat) (D : Int) (dn : Mc → Bool) (f : Nat) : Prop:=∀ (p : Nat) (row : List St) (op : List Bk) (b : Bk) (d : Int),d = D + (op.length : Int) → 3 * (R.n - p) + 1 ≤ f → p ≤ R.n →
 ((rs R F f .blk p d).r = 0 → (Mc.enter R D ⟨row,op,p,0⟩ b).r = 0 ∧ ∃ q,Goes R F D dn (Mc.enter R D ⟨row,op,p,0⟩ b) ⟨(rs R F f .blk p d).l,op ++ [b],q,0⟩ ∧ R.is q [125] = true ∧ (rs R F f .blk p d).p = q + 1 ∧ p < q ∧ q + 1 ≤ R.n) ∧
 (¬ (rs R F f .blk p d).r = 0 → (¬ (Mc.enter R D ⟨row,op,p,0⟩ b).r = 0 ∧ (Mc.enter R D ⟨row,op,p,0⟩ b).r = (rs R F f .blk p d).r ∧ (Mc.enter R D ⟨row,op,p,0⟩ b).p = (rs R F f .blk p d).p) ∨ ((Mc.enter R D ⟨row,op,p,0⟩ b).r = 0 ∧ Errs R F D dn (Mc.enter R D ⟨row,op,p,0⟩ b) (rs R F f .blk p d).p (rs R F f .blk p d).r))
theorem sim_row (h1 : SimSt R F D dn f) (h2 : SimRow R F D dn f) : SimRow R F D dn (f + 1):=by
 intro p acc op d hd hf hp hdn
 rw [rs_row]
 by_cases he : endsB R p = true
 ·rw [if_pos he]
  exact ⟨fun _ => ⟨Goes.refl _,he,Nat.le_refl _,hp⟩,fun h => absurd rfl h⟩
 ·rw [if_neg he]
  have he' : endsB R p = false:=by simpa using he
  obtain ⟨a1,a2⟩:=h1 p acc op d hd (by omega) hp (hdn _ _ he') (.inr he')
  have h2':=fun q acc => h2 q acc op d hd
  generalize rs R F f .st p d = g at a1 a2 ⊢
  by_cases h0 : g.r = 0
  ·rw [if_pos h0]
   obtain ⟨c1,c2,c3⟩:=a1 h0
   obtain ⟨b1,b2⟩:=h2' g.p (acc ++ [g.s]) (by omega) c3 hdn
   refine ⟨fun hr => ?_,fun hr => c1.errs (b2 hr)⟩
   obtain ⟨d1,d2,d3,d4⟩:=b1 hr
   exact ⟨c1.trans d1,d2,by omega,d4⟩
  ·rw [if_neg h0]
   exact ⟨fun hr => absurd hr h0,fun _ => a2 h0⟩
theorem enter_ok {p : Nat} {row : List St} {op : List Bk} {b : Bk} (h1 : R.is p [123] = true) (h2 : ¬ 32 ≤ D + (op.length : Int)) : Mc.enter R D ⟨row,op,p,0⟩ b = ⟨[],op ++ [b],p + 1,0⟩:=by
 unfold Mc.enter
 dsimp only
 rw [if_neg (by rintro ⟨_,_,h⟩; omega),muz_yes h1]
theorem enter_deep {p : Nat} {row : List St} {op : List Bk} {b : Bk} (h1 : R.is p [123] = true) (h2 : 32 ≤ D + (op.length : Int)) : Mc.enter R D ⟨row,op,p,0⟩ b = ⟨[],op ++ [b],p,12⟩:=by
 unfold Mc.enter
 dsimp only
 rw [if_pos ⟨rfl,h1,by omega⟩,muz_bad (show ¬ (12 : Int) = 0 by decide)]
theorem enter_no {p : Nat} {row : List St} {op : List Bk} {b : Bk} (h1 : R.is p [123] = false) : Mc.enter R D ⟨row,op,p,0⟩ b = ⟨[],op ++ [b],p,11⟩:=by
 unfold Mc.enter
 dsimp only
 rw [if_neg (by rintro ⟨_,h,_⟩; rw [h1] at h; cases h),muz_no h1]
theorem enter_bad {p : Nat} {r : Int} {row : List St} {op : List Bk} {b : Bk} (h : ¬ r = 0) : Mc.enter R D ⟨row,op,p,r⟩ b = ⟨[],op ++ [b],p,r⟩:=by
 unfold Mc.enter
 dsimp only
 rw [if_neg (by rintro ⟨h',_⟩; exact h h'),muz_bad h]
theorem sim_blk (hR : R.Ok) (hdn : ∀ m : Mc,m.op ≠ [] → dn m = false) (h2 : SimRow R F D dn f) : SimBlk R F D dn (f + 1):=by
 intro p row op b d hd hf hp
 rw [rs_blk]
 cases hc : R.is p [123] with
 | false =>
  rw [if_neg (by decide),enter_no hc]
  exact ⟨fun h => (by cases h),fun _ => .inl ⟨(by decide : ¬ (11 : Int) = 0),rfl,rfl⟩⟩
 | true =>
  rw [if_pos rfl]
  by_cases h32 : 32 ≤ d
  ·rw [if_pos h32,enter_deep hc (by omega)]
   exact ⟨fun h => (by cases h),fun _ => .inl ⟨(by decide : ¬ (12 : Int) = 0),rfl,rfl⟩⟩
  ·rw [if_neg h32,enter_ok hc (by omega)]
   have hlt:=hR.is_lt hc
   have hne : ∀ row p,dn ⟨row,op ++ [b],p,0⟩ = false:=fun row p => hdn _ (by simp)
   obtain ⟨a1,a2⟩:=h2 (p + 1) [] (op ++ [b]) (d + 1) (by rw [List.length_append]; simp; omega) (by omega) hlt (fun row p _ => hne row p)
   generalize rs R F f (.row []) (p + 1) (d + 1) = g at a1 a2 ⊢
   by_cases h0 : g.r = 0
   ·rw [if_pos h0]
    obtain ⟨c1,c2,c3,c4⟩:=a1 h0
    cases hk : R.is g.p [125] with
    | true =>
     rw [if_pos rfl]
     exact ⟨fun _ => ⟨rfl,g.p,c1,hk,rfl,by omega,hR.is_lt hk⟩,fun h => absurd rfl h⟩
    | false =>
     rw [if_neg (by decide)]
     refine ⟨fun h => (by cases h),fun _ => .inr ⟨rfl,c1.errs ?_⟩⟩
     have hs:=stepz_leave (R:=R) (F:=F) (D:=D) (row:=g.l) (op:=op) (b:=b) (r:=0) c2
     have hl : Mc.leave R D ⟨g.l,op ++ [b],g.p,0⟩ b = ⟨b.ah ++ [b.shut g.l],op,g.p,11⟩:=by
      unfold Mc.leave
      dsimp only
      rw [muz_no hk,if_neg (by rintro ⟨_,_,h⟩; rw [ends_else hR c2] at h; cases h),List.dropLast_concat]
     rw [hl] at hs
     have:=Errs.step (R:=R) (F:=F) (D:=D) (dn:=dn) (m:=⟨g.l,op ++ [b],g.p,0⟩) (hne _ _) (by rw [hs]; show ¬ (11 : Int) = 0; decide)
     rw [hs] at this
     exact this
   ·rw [if_neg h0]
    exact ⟨fun h => absurd h h0,fun _ => .inr ⟨rfl,a2 h0⟩⟩
theorem sim_st (hR : R.Ok) (hdn : ∀ m : Mc,m.op ≠ [] → dn m = false) (h3 : SimBlk R F D dn f) : SimSt R F D dn (f + 1):=by
 intro p row op d hd hf hp hm hop
 rw [rs_st]
 have hs:=step_head (R:=R) (F:=F) (D:=D) (row:=row) (r:=0) hop
 have hu:=hdS_up hR F hp
 obtain ⟨s,hp1,r1,hh⟩ : ∃ s q r,hdS R F p = (s,q,r):=⟨_,_,_,rfl⟩
 rw [hh] at hs hu ⊢
 dsimp only at hs hu ⊢
 have hn1 : hp1 ≤ R.n:=hu.n
 have hon : ∀ (M : Mc),Mc.step R F D ⟨row,op,p,0⟩ = M → (M.r = 0 → Goes R F D dn ⟨row,op,p,0⟩ M) ∧ (¬ M.r = 0 → Errs R F D dn ⟨row,op,p,0⟩ M.p M.r):=fun M e => by
  subst e
  exact ⟨fun h => Goes.step hm h,fun h => Errs.step hm h⟩
 by_cases hr : r1 = 0
 ·subst hr
  rw [if_pos rfl]
  have hlt : p + 1 ≤ hp1:=(hu.st rfl).2
  by_cases hk : s.k = 2 ∨ s.k = 3
  ·rw [if_pos hk] at hs ⊢
   obtain ⟨a1,a2⟩:=h3 hp1 row op ⟨s,row,false⟩ d hd (by omega) hn1
   obtain ⟨o1,o2⟩:=hon _ hs
   obtain ⟨g,hg⟩ : ∃ g,rs R F f .blk hp1 d = g:=⟨_,rfl⟩
   rw [hg] at a1 a2 ⊢
   by_cases h0 : g.r = 0
   ·rw [if_pos h0]
    obtain ⟨c1,q,c2,c3,c4,c5,c6⟩:=a1 h0
    have w1:=(o1 c1).trans c2
    have he : endsB R q = true:=by unfold endsB; rw [c3]; rfl
    have hs2:=stepz_leave (R:=R) (F:=F) (D:=D) (row:=g.l) (op:=op) (b:=⟨s,row,false⟩) (r:=0) he
    have hne : dn ⟨g.l,op ++ [⟨s,row,false⟩],q,0⟩ = false:=hdn _ (by simp)
    rw [c4]
    by_cases hel : s.k = 2 ∧ R.is (q + 1) lElse = true
    ·rw [if_pos hel]
     have hlt2:=hR.is_lt hel.2
     have hl : Mc.leave R D ⟨g.l,op ++ [⟨s,row,false⟩],q,0⟩ ⟨s,row,false⟩ = Mc.enter R D ⟨g.l,op,q + 1 + 1,0⟩ ⟨s.setL g.l,row,true⟩:=by
      unfold Mc.leave
      dsimp only
      rw [muz_yes c3,if_pos ⟨hel.1,rfl,hel.2⟩,List.dropLast_concat]
      rfl
     rw [hl] at hs2
     obtain ⟨b1,b2⟩:=h3 (q + 1 + 1) g.l op ⟨s.setL g.l,row,true⟩ d hd (by omega) hlt2
     obtain ⟨g2,hg2⟩ : ∃ g2,rs R F f .blk (q + 1 + 1) d = g2:=⟨_,rfl⟩
     rw [hg2] at b1 b2 ⊢
     by_cases h20 : g2.r = 0
     ·rw [if_pos h20]
      obtain ⟨e1,q2,e2,e3,e4,e5,e6⟩:=b1 h20
      have w2:=Goes.step (R:=R) (F:=F) (D:=D) (dn:=dn) hne (by rw [hs2]; exact e1)
      rw [hs2] at w2
      have w3:=(w1.trans w2).trans e2
      have he2 : endsB R q2 = true:=by unfold endsB; rw [e3]; rfl
      have hs3:=stepz_leave (R:=R) (F:=F) (D:=D) (row:=g2.l) (op:=op) (b:=⟨s.setL g.l,row,true⟩) (r:=0) he2
      have hl3 : Mc.leave R D ⟨g2.l,op ++ [⟨s.setL g.l,row,true⟩],q2,0⟩ ⟨s.setL g.l,row,true⟩ = ⟨row ++ [(s.setL g.l).setR g2.l],op,q2 + 1,0⟩:=by
       unfold Mc.leave
       dsimp only
       rw [muz_yes e3,if_neg (by rintro ⟨_,h,_⟩; cases h),List.dropLast_concat]
       rfl
      rw [hl3] at hs3
      have w4:=Goes.step (R:=R) (F:=F) (D:=D) (dn:=dn) (m:=⟨g2.l,op ++ [⟨s.setL g.l,row,true⟩],q2,0⟩) (hdn _ (by simp)) (by rw [hs3])
      rw [hs3] at w4
      refine ⟨fun _ => ⟨?_,?_,?_⟩,fun h => absurd rfl h⟩
      ·show Goes R F D dn _ ⟨row ++ [(s.setL g.l).setR g2.l],op,g2.p,0⟩
       rw [e4]
       exact w3.trans w4
      ·show p < g2.p; omega
      ·show g2.p ≤ R.n; omega
     ·rw [if_neg h20]
      refine ⟨fun h => absurd h h20,fun _ => ?_⟩
      show Errs R F D dn _ g2.p g2.r
      rcases b2 h20 with ⟨e1,e2,e3⟩ | ⟨e1,e2⟩
      ·have:=Errs.step (R:=R) (F:=F) (D:=D) (dn:=dn) hne (by rw [hs2]; exact e1)
       rw [hs2,e2,e3] at this
       exact w1.errs this
      ·have w2:=Goes.step (R:=R) (F:=F) (D:=D) (dn:=dn) hne (by rw [hs2]; exact e1)
       rw [hs2] at w2
       exact (w1.trans w2).errs e2
    ·rw [if_neg hel]
     have hl : Mc.leave R D ⟨g.l,op ++ [⟨s,row,false⟩],q,0⟩ ⟨s,row,false⟩ = ⟨row ++ [s.setL g.l],op,q + 1,0⟩:=by
      unfold Mc.leave
      dsimp only
      rw [muz_yes c3,if_neg (by rintro ⟨h,_,h'⟩; exact hel ⟨h,h'⟩),List.dropLast_concat]
      rfl
     rw [hl] at hs2
     have w2:=Goes.step (R:=R) (F:=F) (D:=D) (dn:=dn) hne (by rw [hs2])
     rw [hs2] at w2
     exact ⟨fun _ => ⟨w1.trans w2,by show p < q + 1; omega,c6⟩,fun h => absurd rfl h⟩
   ·rw [if_neg h0]
    refine ⟨fun h => absurd h h0,fun _ => ?_⟩
    show Errs R F D dn _ g.p g.r
    rcases a2 h0 with ⟨c1,c2,c3⟩ | ⟨c1,c2⟩
    ·have:=o2 c1
     rw [c2,c3] at this
     exact this
    ·exact (o1 c1).errs c2
  ·rw [if_neg hk] at hs ⊢
   exact ⟨fun _ => ⟨(hon _ hs).1 rfl,hlt,hn1⟩,fun h => absurd rfl h⟩
 ·rw [if_neg hr]
  refine ⟨fun h => absurd h hr,fun _ => ?_⟩
  show Errs R F D dn _ hp1 r1
  by_cases hk : s.k = 2 ∨ s.k = 3
  ·rw [if_pos hk,enter_bad hr] at hs
   exact (hon _ hs).2 hr
  ·rw [if_neg hk] at hs
   exact (hon _ hs).2 hr
theorem sim_all (hR : R.Ok) (hdn : ∀ m : Mc,m.op ≠ [] → dn m = false) : ∀ f,SimSt R F D dn f ∧ SimRow R F D dn f ∧ SimBlk R F D dn f
 | 0 => ⟨fun p row op d _ hf => by omega,fun p row op d _ hf => by omega,fun p row op b d _ hf => by omega⟩
 | f + 1 => by
  obtain ⟨h1,h2,h3⟩:=sim_all hR hdn f
  exact ⟨sim_st hR hdn h3,sim_row h1 h2,sim_blk hR hdn h2⟩
theorem dnRow_op (m : Mc) (h : m.op ≠ []) : dnRow R m = false:=by
 unfold dnRow
 cases ho : m.op with
 | nil => exact absurd ho h
 | cons b l => rfl
theorem row_rs (hR : R.Ok) {f p : Nat} (hf : 3 * (R.n - p) + 3 ≤ f) (hp : p ≤ R.n) {m : Mc} (h : EndsS R F D (dnRow R) (mc0 p) m) :
  ((rs R F f (.row []) p D).r = 0 → m = ⟨(rs R F f (.row []) p D).l,[],(rs R F f (.row []) p D).p,0⟩ ∧ endsB R m.p = true ∧ p ≤ m.p ∧ m.p ≤ R.n) ∧
  (¬ (rs R F f (.row []) p D).r = 0 → m.p = (rs R F f (.row []) p D).p ∧ m.r = (rs R F f (.row []) p D).r):=by
 obtain ⟨a1,a2⟩:=(sim_all (R:=R) (F:=F) (D:=D) (dn:=dnRow R) hR dnRow_op f).2.1 p [] [] D (by simp) hf hp (fun row p h => by unfold dnRow; rw [h]; rfl)
 refine ⟨fun hr => ?_,fun hr => ?_⟩
 ·obtain ⟨c1,c2,c3,c4⟩:=a1 hr
  have e:=h.det (c1 _ (.here _ (by unfold dnRow; rw [c2]; rfl)))
  subst e
  exact ⟨rfl,c2,c3,c4⟩
 ·obtain ⟨_,x,h1,h2,h3⟩:=a2 hr
  have e:=h.det h1
  subst e
  exact ⟨h2,h3⟩
end
end Go.Proofs.YtkjhlgnpohamnaaGreatDoor
