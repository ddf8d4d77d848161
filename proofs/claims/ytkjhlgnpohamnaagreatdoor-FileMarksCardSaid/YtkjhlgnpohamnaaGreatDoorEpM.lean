import Derived.Test.YtkjhlgnpohamnaaGreatDoorSq
import Derived.Test.YtkjhlgnpohamnaaGreatDoorMem
import Derived.Lib.ParseIntB
namespace Go.Proofs.YtkjhlgnpohamnaaGreatDoor
set_option linter.unusedVariables false
set_option linter.unusedSimpArgs false
inductive Ex where
 | mk (k a m : Int) (nm lb : ByteArray) (l : List Ex)
def Ex.k : Ex → Int
 | .mk k _ _ _ _ _ => k
def Ex.a : Ex → Int
 | .mk _ a _ _ _ _ => a
def Ex.m : Ex → Int
 | .mk _ _ m _ _ _ => m
def Ex.nm : Ex → ByteArray
 | .mk _ _ _ nm _ _ => nm
def Ex.lb : Ex → ByteArray
 | .mk _ _ _ _ lb _ => lb
def Ex.l : Ex → List Ex
 | .mk _ _ _ _ _ l => l
def Ex.nul : Ex:=.mk 0 0 0 ⟨#[]⟩ ⟨#[]⟩ []
theorem Ex.lt_of {x : Ex} {k a m : Int} {nm lb : ByteArray} {l : List Ex} (h : x ∈ l) : SizeOf.sizeOf x < SizeOf.sizeOf (Ex.mk k a m nm lb l):=by
 have:=List.sizeOf_lt_of_mem h
 simp
 omega
theorem Ex.ind {P : Ex → Prop} (h : ∀ k a m nm lb l,(∀ x ∈ l,P x) → P (.mk k a m nm lb l)) : ∀ e,P e
 | .mk k a m nm lb l => h k a m nm lb l fun x hx => Ex.ind h x
termination_by e => SizeOf.sizeOf e
decreasing_by exact Ex.lt_of hx
def Ex.ht : Ex → Nat
 | .mk k a m nm lb l => (l.attach.map fun x => x.1.ht).foldr max 0 + 1
termination_by e => SizeOf.sizeOf e
decreasing_by exact Ex.lt_of x.2
def hts (l : List Ex) : Nat:=(l.map Ex.ht).foldr max 0
theorem Ex.ht_eq (e : Ex) : e.ht = hts e.l + 1:=by
 cases e
 rw [Ex.ht]
 unfold hts Ex.l
 rw [List.attach_map_val (f:=Ex.ht)]
theorem hts_nil : hts [] = 0:=rfl
theorem hts_cons (x : Ex) (l : List Ex) : hts (x :: l) = max x.ht (hts l):=rfl
theorem hts_app (l k : List Ex) : hts (l ++ k) = max (hts l) (hts k):=by
 induction l with
 | nil => simp [hts_nil]
 | cons x l ih => rw [List.cons_append,hts_cons,hts_cons,ih]; omega
def Ex.leaf (e : Ex) : Prop:=(e.k = 0 ∨ e.k = 1 ∨ e.k = 2) → e.l = []
def Ex.wfx : Ex → Prop
 | .mk k a m nm lb l => ((k = 0 ∨ k = 1 ∨ k = 2) → l = []) ∧ l.length ≤ 1000000 ∧ ∀ x (h : x ∈ l),x.wfx
termination_by e => SizeOf.sizeOf e
decreasing_by exact Ex.lt_of h
theorem Ex.wfx_eq (e : Ex) : e.wfx ↔ e.leaf ∧ e.l.length ≤ 1000000 ∧ ∀ x ∈ e.l,x.wfx:=by
 cases e
 rw [Ex.wfx]
 rfl
def Ex.sh (c : Int) : Ex → Ex
 | .mk k a m nm lb l => .mk k (a + c) m nm lb (l.attach.map fun x => x.1.sh c)
termination_by e => SizeOf.sizeOf e
decreasing_by exact Ex.lt_of x.2
structure Rw where
 n : Nat
 wd : Nat → ByteArray
 kd : Nat → Int
 ps : Nat → Int
 idn : Nat → Bool
def Rw.is (R : Rw) (i : Nat) (l : List UInt8) : Bool:=(R.wd i).toList == l
def sgnL (l : Nat) (s : ByteArray) : Bool:=
 if l = 1 then s.toList == [124,124] else if l = 2 then s.toList == [38,38] else if l = 3 then s.toList == [61,61] || s.toList == [60]
 else if l = 4 then s.toList == [43] || s.toList == [45] else s.toList == [42]
def numB (s : ByteArray) : Option Int:=
 match Lib.parseIntB 64 s.data.toList with
 | .ok v => some v
 | _ => none
structure Gt where
 e : Ex
 p : Nat
 r : Int
def good (e : Ex) (p : Nat) : Gt:=⟨e,p,0⟩
def bad (p : Nat) (r : Int) : Gt:=⟨Ex.nul,p,r⟩
def hld (e : Ex) (p q : Nat) : Gt:=if 32 < e.ht then bad q 12 else good e p
def eNum (a v : Int) : Ex:=.mk 0 a v ⟨#[]⟩ ⟨#[]⟩ []
def eBool (a v : Int) : Ex:=.mk 1 a v ⟨#[]⟩ ⟨#[]⟩ []
def eName (a : Int) (s : ByteArray) : Ex:=.mk 2 a 0 s ⟨#[]⟩ []
def eCall (a : Int) (s : ByteArray) (l : List Ex) : Ex:=.mk 3 a 0 s ⟨#[]⟩ l
def eUn (a : Int) (s : ByteArray) (x : Ex) : Ex:=.mk 4 a 0 s ⟨#[]⟩ [x]
def eBin (s : ByteArray) (x y : Ex) : Ex:=.mk 5 x.a 0 s ⟨#[]⟩ [x,y]
def eOpen (a : Int) (s : ByteArray) (x : Ex) : Ex:=.mk 6 a 0 ⟨#[]⟩ s [x]
def eList (l : List Ex) : Ex:=.mk 3 0 0 ⟨#[]⟩ ⟨#[]⟩ l
def dot (s t : ByteArray) : ByteArray:=s ++ (⟨#[46]⟩ ++ t)
inductive Md where
 | lev (l : Nat)
 | loop (l : Nat) (e : Ex)
 | sg
 | pr
 | gr
 | op
 | nm
 | ar
 | an (acc : List Ex)
def Rw.name (R : Rw) (a : Nat) : Bool × ByteArray × Nat:=
 if R.idn a = false then (false,⟨#[]⟩,a)
 else if R.is (a + 1) [46] = true then
  if R.idn (a + 2) = true then (true,dot (R.wd a) (R.wd (a + 2)),a + 3) else (false,⟨#[]⟩,a + 2)
 else (true,R.wd a,a + 1)
def rd (R : Rw) : Nat → Md → Nat → Nat → Gt
 | 0,_,a,_ => bad a 99
 | f + 1,.lev l,a,d =>
  if 6 ≤ l then rd R f .sg a d else
  let g:=rd R f (.lev (l + 1)) a d
  if g.r = 0 then rd R f (.loop l g.e) g.p d else bad g.p g.r
 | f + 1,.loop l e,a,d =>
  if sgnL l (R.wd a) = true then
   let g:=rd R f (.lev (l + 1)) (a + 1) d
   if g.r = 0 then
    let h:=hld (eBin (R.wd a) e g.e) g.p a
    if h.r = 0 then rd R f (.loop l h.e) h.p d else bad h.p h.r
   else bad g.p g.r
  else good e a
 | f + 1,.sg,a,d =>
  if (R.is a [33] || R.is a [45]) = true then
   if d = 32 then bad a 12 else
   let g:=rd R f .sg (a + 1) (d + 1)
   if g.r = 0 then hld (eUn (R.ps a) (R.wd a) g.e) g.p a else bad g.p g.r
  else rd R f .pr a d
 | f + 1,.pr,a,d =>
  if R.kd a = 3 then
   match numB (R.wd a) with
   | some v => good (eNum (R.ps a) v) (a + 1)
   | none => bad a 18
  else if R.is a [116,114,117,101] = true then good (eBool (R.ps a) 1) (a + 1)
  else if R.is a [102,97,108,115,101] = true then good (eBool (R.ps a) 0) (a + 1)
  else if R.is a [40] = true then
   let g:=rd R f .gr a d
   if g.r = 0 then (if R.is g.p [41] = true then good g.e (g.p + 1) else bad g.p 11) else bad g.p g.r
  else if R.is a [100,101,99,108,97,115,115,105,102,121] = true then rd R f .op a d
  else rd R f .nm a d
 | f + 1,.gr,a,d =>
  if R.is a [40] = true then
   if d = 32 then bad a 12 else
   let g:=rd R f (.lev 1) (a + 1) (d + 1)
   if g.r = 0 then good g.e g.p else bad g.p g.r
  else bad a 11
 | f + 1,.op,a,d =>
  let g:=rd R f .gr (a + 1) d
  if g.r = 0 then
   if R.is g.p [44] = true then
    if R.is (g.p + 1) [64] = true then
     if R.idn (g.p + 2) = true then
      if R.is (g.p + 3) [41] = true then hld (eOpen (R.ps a) (R.wd (g.p + 2)) g.e) (g.p + 4) a
      else bad (g.p + 3) 11
     else bad (g.p + 2) 11
    else bad (g.p + 1) 11
   else bad g.p 11
  else bad g.p g.r
 | f + 1,.nm,a,d =>
  let x:=R.name a
  if x.1 = true then
   if R.is x.2.2 [40] = true then
    let g:=rd R f .ar x.2.2 d
    if g.r = 0 then hld (eCall (R.ps a) x.2.1 g.e.l) g.p a else bad g.p g.r
   else good (eName (R.ps a) x.2.1) x.2.2
  else bad x.2.2 11
 | f + 1,.ar,a,d =>
  if d = 32 then bad a 12
  else if R.is (a + 1) [41] = true then good (eList []) (a + 2)
  else rd R f (.an []) (a + 1) (d + 1)
 | f + 1,.an acc,a,d =>
  let g:=rd R f (.lev 1) a d
  if g.r = 0 then
   if R.is g.p [44] = true then rd R f (.an (acc ++ [g.e])) (g.p + 1) d
   else if R.is g.p [41] = true then good (eList (acc ++ [g.e])) (g.p + 1)
   else bad g.p 11
  else bad g.p g.r
section
variable {R : Rw} {f l a d : Nat} {e : Ex} {acc : List Ex}
theorem rd_0 (m : Md) : rd R 0 m a d = bad a 99:=by cases m <;> rfl
theorem rd_lev6 (h : 6 ≤ l) : rd R (f + 1) (.lev l) a d = rd R f .sg a d:=by
 show (if 6 ≤ l then _ else _) = _
 rw [if_pos h]
theorem rd_lev (h : ¬ 6 ≤ l) : rd R (f + 1) (.lev l) a d = if (rd R f (.lev (l + 1)) a d).r = 0 then rd R f (.loop l (rd R f (.lev (l + 1)) a d).e) (rd R f (.lev (l + 1)) a d).p d else bad (rd R f (.lev (l + 1)) a d).p (rd R f (.lev (l + 1)) a d).r:=by
 show (if 6 ≤ l then _ else _) = _
 rw [if_neg h]
end
structure Rw.Ok (R : Rw) : Prop where
 end_is : ∀ i,R.n ≤ i → R.wd i = ⟨#[]⟩
 end_kd : ∀ i,R.n ≤ i → R.kd i = 0
 end_id : ∀ i,R.n ≤ i → R.idn i = false
theorem empty_toList : (⟨#[]⟩ : ByteArray).toList = []:=by
 rw [ByteArray.toList,ByteArray.toList.loop]
 rfl
theorem Rw.Ok.is_lt {R : Rw} (h : R.Ok) {i : Nat} {c : UInt8} {l : List UInt8} (hi : R.is i (c :: l) = true) : i < R.n:=by
 rcases Nat.lt_or_ge i R.n with h1 | h1
 ·exact h1
 ·unfold Rw.is at hi
  rw [h.end_is i h1,empty_toList] at hi
  simp at hi
theorem Rw.Ok.sgnL_lt {R : Rw} (h : R.Ok) {i l : Nat} (hi : sgnL l (R.wd i) = true) : i < R.n:=by
 rcases Nat.lt_or_ge i R.n with h1 | h1
 ·exact h1
 ·rw [h.end_is i h1] at hi
  unfold sgnL at hi
  rw [empty_toList] at hi
  revert hi
  repeat' split
  all_goals simp
theorem Rw.Ok.id_lt {R : Rw} (h : R.Ok) {i : Nat} (hi : R.idn i = true) : i < R.n:=by
 rcases Nat.lt_or_ge i R.n with h1 | h1
 ·exact h1
 ·rw [h.end_id i h1] at hi; cases hi
theorem Rw.Ok.kd_lt {R : Rw} (h : R.Ok) {i : Nat} (hi : R.kd i = 3) : i < R.n:=by
 rcases Nat.lt_or_ge i R.n with h1 | h1
 ·exact h1
 ·rw [h.end_kd i h1] at hi; cases hi
theorem Rw.Ok.name_lt {R : Rw} (h : R.Ok) {a : Nat} (ha : a ≤ R.n) : (R.name a).2.2 ≤ R.n ∧ a ≤ (R.name a).2.2 ∧ ((R.name a).1 = true → a < (R.name a).2.2):=by
 unfold Rw.name
 by_cases h1 : R.idn a = false
 ·rw [if_pos h1]; exact ⟨ha,Nat.le_refl _,fun h => by cases h⟩
 ·rw [if_neg h1]
  have:=h.id_lt (i:=a) (by simpa using h1)
  by_cases h2 : R.is (a + 1) [46] = true
  ·rw [if_pos h2]
   have:=h.is_lt h2
   by_cases h3 : R.idn (a + 2) = true
   ·rw [if_pos h3]
    have:=h.id_lt h3
    exact ⟨by show a + 3 ≤ _; omega,by show a ≤ a + 3; omega,fun _ => by show a < a + 3; omega⟩
   ·rw [if_neg h3]
    exact ⟨by show a + 2 ≤ _; omega,by show a ≤ a + 2; omega,fun h => by cases h⟩
  ·rw [if_neg h2]
   exact ⟨by show a + 1 ≤ _; omega,by show a ≤ a + 1; omega,fun _ => by show a < a + 1; omega⟩
theorem hld_p (e : Ex) (p q : Nat) : ((hld e p q).r = 0 ∧ (hld e p q).p = p ∧ (hld e p q).e = e ∧ e.ht ≤ 32) ∨ ((hld e p q).r = 12 ∧ (hld e p q).p = q ∧ (hld e p q).e = Ex.nul):=by
 unfold hld
 by_cases h : 32 < e.ht
 ·rw [if_pos h]; exact .inr ⟨rfl,rfl,rfl⟩
 ·rw [if_neg h]; exact .inl ⟨rfl,rfl,rfl,by omega⟩
def Md.strict : Md → Bool
 | .loop _ _ => false
 | _ => true
def InR (R : Rw) (m : Md) (a : Nat) (g : Gt) : Prop:=a ≤ g.p ∧ g.p ≤ R.n ∧ (g.r = 0 → m.strict = true → a < g.p)
def Md.there : Md → Bool
 | .op => true
 | .ar => true
 | _ => false
theorem rd_in {R : Rw} (hR : R.Ok) : ∀ (f : Nat) (m : Md) (a d : Nat),a ≤ R.n → (m.there = true → a < R.n) → InR R m a (rd R f m a d):=by
 intro f
 induction f with
 | zero => intro m a d ha _; rw [rd_0]; exact ⟨Nat.le_refl _,ha,fun h => by cases h⟩
 | succ f ih =>
  intro m a d ha hth
  have bd : ∀ (m m' : Md) (b : Nat) (r : Int),r ≠ 0 → ∀ p,a ≤ p → p ≤ R.n → InR R m a (bad p r):=fun m m' b r hr p h1 h2 => ⟨h1,h2,fun h => absurd h hr⟩
  have gd : ∀ (m : Md) (e : Ex) p,a < p → p ≤ R.n → InR R m a (good e p):=fun m e p h1 h2 => ⟨Nat.le_of_lt h1,h2,fun _ _ => h1⟩
  have hl : ∀ (m : Md) (e : Ex) p,a < p → p ≤ R.n → InR R m a (hld e p a):=fun m e p h1 h2 => by
   unfold hld
   split
   ·exact bd m m a 12 (by decide) a nLe ha
   ·exact gd m e p h1 h2
  cases m with
  | lev l =>
   by_cases h6 : 6 ≤ l
   ·rw [rd_lev6 h6]; exact ih .sg a d ha (fun h => by cases h)
   ·rw [rd_lev h6]
    have h1:=ih (.lev (l + 1)) a d ha (fun h => by cases h)
    generalize rd R f (.lev (l + 1)) a d = g at h1 ⊢
    by_cases h0 : g.r = 0
    ·rw [if_pos h0]
     have h2:=ih (.loop l g.e) g.p d h1.2.1 (fun h => by cases h)
     have h3:=h1.2.2 h0 rfl
     exact ⟨Nat.le_trans h1.1 h2.1,h2.2.1,fun _ _ => Nat.lt_of_lt_of_le h3 h2.1⟩
    ·rw [if_neg h0]; exact bd _ .sg 0 _ h0 _ h1.1 h1.2.1
  | loop l e =>
   simp only [rd]
   by_cases hs : sgnL l (R.wd a) = true
   ·rw [if_pos hs]
    have hlt:=hR.sgnL_lt hs
    have h1:=ih (.lev (l + 1)) (a + 1) d hlt (fun h => by cases h)
    generalize rd R f (.lev (l + 1)) (a + 1) d = g at h1 ⊢
    by_cases h0 : g.r = 0
    ·rw [if_pos h0]
     rcases hld_p (eBin (R.wd a) e g.e) g.p a with ⟨e1,e2,e3,_⟩ | ⟨e1,e2,e3⟩
     ·rw [if_pos e1,e2,e3]
      have h2:=ih (.loop l (eBin (R.wd a) e g.e)) g.p d h1.2.1 (fun h => by cases h)
      have:=h1.1
      exact ⟨by have:=h2.1; omega,h2.2.1,fun _ h => by cases h⟩
     ·rw [if_neg (by rw [e1]; decide),e2]
      refine bd _ .sg 0 _ (by rw [e1]; decide) _ nLe ha
    ·rw [if_neg h0]; exact bd _ .sg 0 _ h0 _ (by have:=h1.1; omega) h1.2.1
   ·rw [if_neg hs]; exact ⟨Nat.le_refl _,ha,fun _ h => by cases h⟩
  | sg =>
   simp only [rd]
   by_cases hs : (R.is a [33] || R.is a [45]) = true
   ·rw [if_pos hs]
    have hlt : a < R.n:=by
     rcases Bool.or_eq_true_iff.1 hs with h | h
     ·exact hR.is_lt h
     ·exact hR.is_lt h
    by_cases hd : d = 32
    ·rw [if_pos hd]; exact bd _ .sg 0 _ (by decide) _ nLe ha
    ·rw [if_neg hd]
     have h1:=ih .sg (a + 1) (d + 1) hlt (fun h => by cases h)
     generalize rd R f .sg (a + 1) (d + 1) = g at h1 ⊢
     by_cases h0 : g.r = 0
     ·rw [if_pos h0]; exact hl _ _ _ (by have:=h1.1; omega) h1.2.1
     ·rw [if_neg h0]; exact bd _ .sg 0 _ h0 _ (by have:=h1.1; omega) h1.2.1
   ·rw [if_neg hs]; exact ih .pr a d ha (fun h => by cases h)
  | pr =>
   simp only [rd]
   by_cases hk : R.kd a = 3
   ·rw [if_pos hk]
    have:=hR.kd_lt hk
    split
    ·exact gd _ _ _ (Nat.lt_succ_self _) this
    ·exact bd _ .sg 0 _ (by decide) _ nLe ha
   ·rw [if_neg hk]
    split
    ·rename_i h; exact gd _ _ _ (Nat.lt_succ_self _) (hR.is_lt h)
    ·split
     ·rename_i h; exact gd _ _ _ (Nat.lt_succ_self _) (hR.is_lt h)
     ·split
      ·have h1:=ih .gr a d ha (fun h => by cases h)
       generalize rd R f .gr a d = g at h1 ⊢
       by_cases h0 : g.r = 0
       ·rw [if_pos h0]
        have:=h1.2.2 h0 rfl
        split
        ·rename_i h; exact gd _ _ _ (by omega) (hR.is_lt h)
        ·exact bd _ .sg 0 _ (by decide) _ h1.1 h1.2.1
       ·rw [if_neg h0]; exact bd _ .sg 0 _ h0 _ h1.1 h1.2.1
      ·split
       ·rename_i h
        have h1:=ih .op a d ha (fun _ => hR.is_lt h)
        exact ⟨h1.1,h1.2.1,fun h _ => h1.2.2 h rfl⟩
       ·have h1:=ih .nm a d ha (fun h => by cases h)
        exact ⟨h1.1,h1.2.1,fun h _ => h1.2.2 h rfl⟩
  | gr =>
   simp only [rd]
   split
   ·rename_i h
    have hlt:=hR.is_lt h
    split
    ·exact bd _ .sg 0 _ (by decide) _ nLe ha
    ·have h1:=ih (.lev 1) (a + 1) (d + 1) hlt (fun h => by cases h)
     generalize rd R f (.lev 1) (a + 1) (d + 1) = g at h1 ⊢
     by_cases h0 : g.r = 0
     ·rw [if_pos h0]; exact gd _ _ _ (by have:=h1.1; omega) h1.2.1
     ·rw [if_neg h0]; exact bd _ .sg 0 _ h0 _ (by have:=h1.1; omega) h1.2.1
   ·exact bd _ .sg 0 _ (by decide) _ nLe ha
  | op =>
   simp only [rd]
   ·have hlt:=hth rfl
    have h1:=ih .gr (a + 1) d hlt (fun h => by cases h)
    generalize rd R f .gr (a + 1) d = g at h1 ⊢
    by_cases h0 : g.r = 0
    ·rw [if_pos h0]
     have h2:=h1.1
     have h3:=h1.2.1
     split
     ·rename_i h
      have:=hR.is_lt h
      split
      ·rename_i h
       have:=hR.is_lt h
       split
       ·rename_i h
        have:=hR.id_lt h
        split
        ·rename_i h
         have:=hR.is_lt h
         exact hl _ _ _ (by omega) (by omega)
        ·exact bd _ .sg 0 _ (by decide) _ (by omega) (by omega)
       ·exact bd _ .sg 0 _ (by decide) _ (by omega) (by omega)
      ·exact bd _ .sg 0 _ (by decide) _ (by omega) (by omega)
     ·exact bd _ .sg 0 _ (by decide) _ (by omega) (by omega)
    ·rw [if_neg h0]; exact bd _ .sg 0 _ h0 _ (by have:=h1.1; omega) h1.2.1
  | nm =>
   simp only [rd]
   have hn:=hR.name_lt ha
   split
   ·rename_i h
    have hlt:=hn.2.2 h
    split
    ·rename_i h
     have h1:=ih .ar (R.name a).2.2 d hn.1 (fun _ => hR.is_lt h)
     generalize rd R f .ar (R.name a).2.2 d = g at h1 ⊢
     by_cases h0 : g.r = 0
     ·rw [if_pos h0]; exact hl _ _ _ (by have:=h1.1; omega) h1.2.1
     ·rw [if_neg h0]; exact bd _ .sg 0 _ h0 _ (by have:=h1.1; omega) h1.2.1
    ·exact gd _ _ _ hlt hn.1
   ·exact bd _ .sg 0 _ (by decide) _ hn.2.1 hn.1
  | ar =>
   simp only [rd]
   split
   ·exact bd _ .sg 0 _ (by decide) _ nLe ha
   ·split
    ·rename_i h; exact gd _ _ _ (by omega) (hR.is_lt h)
    ·have h1:=ih (.an []) (a + 1) (d + 1) (hth rfl) (fun h => by cases h)
     have:=h1.1
     exact ⟨by omega,h1.2.1,fun _ _ => by omega⟩
  | an acc =>
   simp only [rd]
   have h1:=ih (.lev 1) a d ha (fun h => by cases h)
   generalize rd R f (.lev 1) a d = g at h1 ⊢
   by_cases h0 : g.r = 0
   ·rw [if_pos h0]
    have h2:=h1.2.2 h0 rfl
    split
    ·rename_i h
     have h3:=ih (.an (acc ++ [g.e])) (g.p + 1) d (hR.is_lt h) (fun h => by cases h)
     have:=h3.1
     exact ⟨by omega,h3.2.1,fun _ _ => by omega⟩
    ·split
     ·rename_i h; exact gd _ _ _ (by omega) (hR.is_lt h)
     ·exact bd _ .sg 0 _ (by decide) _ h1.1 h1.2.1
   ·rw [if_neg h0]; exact bd _ .sg 0 _ h0 _ h1.1 h1.2.1
end Go.Proofs.YtkjhlgnpohamnaaGreatDoor
