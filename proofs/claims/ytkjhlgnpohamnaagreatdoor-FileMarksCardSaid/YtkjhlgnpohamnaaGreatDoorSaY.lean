import Derived.Test.YtkjhlgnpohamnaaGreatDoorSq
import Derived.Test.YtkjhlgnpohamnaaGreatDoorFiS
import Derived.Test.YtkjhlgnpohamnaaGreatDoorRowB
import Derived.Sort.LotA
import Derived.Test.YtkjhlgnpohamnaaGreatDoorShelfA
import Derived.Shelf.SlSortCmp.KitK
import Derived.Sort.WalkB2
import Derived.Sort.WalkB12
import Derived.Deep.LoopGhost
import Derived.Test.YtkjhlgnpohamnaaGreatDoorMHd
namespace Go.Proofs.YtkjhlgnpohamnaaGreatDoor.Mk
set_option linter.unusedVariables false
set_option linter.unusedSimpArgs false
open Go.Sort
abbrev Ed:=Int × Int × (Bool × Bool × ByteArray)
def ecell (x : Ed) : List Value:=[.bool x.2.2.1,.bool x.2.2.2.1,.string x.2.2.2.2,.int .i64 x.1,.int .i64 x.2.1]
theorem ecell_one : ∀ x : Ed,∀ u ∈ ecell x,u.oneCell' = true:=fun x u hu => by
 simp [ecell] at hu
 rcases hu with rfl | rfl | rfl | rfl | rfl <;> rfl
def edA (x : An) : Ed:=(x.fr,x.to,x.so,x.lk,x.lb)
def anE (x : Ed) : An:=⟨x.2.2.1,x.2.2.2.1,x.2.2.2.2,x.1,x.2.1⟩
theorem anE_edA (x : An) : anE (edA x) = x:=rfl
theorem edA_anE (x : Ed) : edA (anE x) = x:=rfl
def ecs (L : List Ed) : List Value:=L.flatMap ecell
theorem ecs_len (L : List Ed) : (ecs L).length = L.length * 5:=by
 induction L with
 | nil => rfl
 | cons t L ih => show (ecell t ++ ecs L).length = _; rw [List.length_append,ih]; simp [ecell]; omega
def kf (f : Int) (x : Ed) : Bool:=x.1 == f
def Fl (A B : List Ed) : Prop:=A.length = B.length ∧ ∀ f,A.filter (kf f) = B.filter (kf f)
theorem Fl.refl (A : List Ed) : Fl A A:=⟨rfl,fun _ => rfl⟩
theorem Fl.symm {A B : List Ed} (h : Fl A B) : Fl B A:=⟨h.1.symm,fun f => (h.2 f).symm⟩
theorem Fl.trans {A B C : List Ed} (h : Fl A B) (k : Fl B C) : Fl A C:=⟨h.1.trans k.1,fun f => (h.2 f).trans (k.2 f)⟩
theorem Fl.app {A B C D : List Ed} (h : Fl A B) (k : Fl C D) : Fl (A ++ C) (B ++ D):=⟨by rw [List.length_append,List.length_append,h.1,k.1],fun f => by rw [List.filter_append,List.filter_append,h.2,k.2]⟩
theorem Fl.left {A C D : List Ed} (h : Fl C D) : Fl (A ++ C) (A ++ D):=(Fl.refl A).app h
theorem Fl.right {A B C : List Ed} (h : Fl A B) : Fl (A ++ C) (B ++ C):=h.app (Fl.refl C)
theorem Fl.cancel {P A B R : List Ed} (h : Fl (P ++ A ++ R) (P ++ B ++ R)) : Fl A B:=by
 refine ⟨?_,fun f => ?_⟩
 ·have:=h.1
  simp only [List.length_append] at this
  omega
 ·have:=h.2 f
  simp only [List.filter_append] at this
  exact List.append_cancel_left (List.append_cancel_right this)
theorem Fl.swap {U V : List Ed} (h : ∀ u ∈ U,∀ v ∈ V,u.1 ≠ v.1) : Fl (U ++ V) (V ++ U):=by
 refine ⟨by simp [Nat.add_comm],fun f => ?_⟩
 rw [List.filter_append,List.filter_append]
 by_cases hu : ∃ u ∈ U,u.1 = f
 ·obtain ⟨u,hu,rfl⟩:=hu
  have : V.filter (kf u.1) = []:=List.filter_eq_nil_iff.2 fun v hv e => h u hu v hv (by simpa [kf] using e : v.1 = u.1).symm
  rw [this,List.append_nil,List.nil_append]
 ·have : U.filter (kf f) = []:=List.filter_eq_nil_iff.2 fun u hU e => hu ⟨u,hU,by simpa [kf] using e⟩
  rw [this,List.append_nil,List.nil_append]
def Srt (L : List Ed) : Prop:=L.Pairwise (fun x y => x.1 ≤ y.1)
theorem Srt.app {A B : List Ed} (h : Srt A) (k : Srt B) (hab : ∀ x ∈ A,∀ y ∈ B,x.1 ≤ y.1) : Srt (A ++ B):=List.pairwise_append.2 ⟨h,k,hab⟩
theorem Srt.left {A B : List Ed} (h : Srt (A ++ B)) : Srt A:=(List.pairwise_append.1 h).1
theorem Srt.right {A B : List Ed} (h : Srt (A ++ B)) : Srt B:=(List.pairwise_append.1 h).2.1
theorem Srt.between {A B : List Ed} (h : Srt (A ++ B)) : ∀ x ∈ A,∀ y ∈ B,x.1 ≤ y.1:=(List.pairwise_append.1 h).2.2
theorem Fl.mem {A B : List Ed} (h : Fl A B) {x : Ed} (hx : x ∈ A) : x ∈ B:=by
 have : x ∈ A.filter (kf x.1):=List.mem_filter.2 ⟨hx,by simp [kf]⟩
 rw [h.2] at this
 exact (List.mem_filter.1 this).1
theorem srt_one {A B : List Ed} (ha : Srt A) (hb : Srt B) (h : Fl A B) : A = B:=by
 induction A generalizing B with
 | nil => exact (List.eq_nil_of_length_eq_zero h.1.symm).symm
 | cons x A ih =>
  cases B with
  | nil => exact absurd h.1 (by simp)
  | cons y B =>
   have hxy : y.1 ≤ x.1:=by
    rcases List.mem_cons.1 (h.mem (List.mem_cons_self (a:=x) (l:=A))) with e | e
    ·rw [e]; exact Int.le_refl _
    ·exact (List.pairwise_cons.1 hb).1 x e
   have hyx : x.1 ≤ y.1:=by
    rcases List.mem_cons.1 (h.symm.mem (List.mem_cons_self (a:=y) (l:=B))) with e | e
    ·rw [e]; exact Int.le_refl _
    ·exact (List.pairwise_cons.1 ha).1 y e
   have e : x.1 = y.1:=by omega
   have hf:=h.2 x.1
   have k1 : kf x.1 x = true:=by simp [kf]
   have k2 : kf x.1 y = true:=by simp [kf,e]
   rw [List.filter_cons_of_pos k1,List.filter_cons_of_pos k2] at hf
   obtain ⟨rfl,_⟩:=List.cons.inj hf
   rw [ih (List.pairwise_cons.1 ha).2 (List.pairwise_cons.1 hb).2 ⟨by simpa using h.1,fun f => ?_⟩]
   have:=h.2 f
   by_cases hk : kf f x = true
   ·rw [List.filter_cons_of_pos hk,List.filter_cons_of_pos hk] at this
    exact (List.cons.inj this).2
   ·rw [List.filter_cons_of_neg hk,List.filter_cons_of_neg hk] at this
    exact this
/-! ### arrays by their lists -/
instance : Inhabited Ed:=⟨(0,0,false,false,⟨#[]⟩)⟩
theorem get_mid {d : Array Ed} {A B : List Ed} {x : Ed} {i : Nat} (h : d.toList = A ++ x :: B) (hi : i = A.length) : d[i]! = x:=by
 subst hi
 have hs : A.length < d.size:=by rw [← Array.length_toList,h]; simp
 rw [getElem!_pos d A.length hs,← Array.getElem_toList]
 simp [h]
theorem size_of {d : Array Ed} {L : List Ed} (h : d.toList = L) : d.size = L.length:=by rw [← h,Array.length_toList]
theorem set_mid (P : List Ed) (x v : Ed) (T : List Ed) : (P ++ x :: T).set P.length v = P ++ v :: T:=by
 induction P with
 | nil => rfl
 | cons a P ih => simp
theorem swp_mid {d : Array Ed} {P Q R : List Ed} {x y : Ed} {i j : Nat} (h : d.toList = P ++ x :: (Q ++ y :: R)) (hi : i = P.length) (hj : j = P.length + 1 + Q.length) : (swp d i j).toList = P ++ y :: (Q ++ x :: R):=by
 have h2 : d.toList = (P ++ x :: Q) ++ y :: R:=by rw [h]; simp
 have e1 : d[i]! = x:=get_mid h hi
 have e2 : d[j]! = y:=get_mid h2 (by rw [hj]; simp; omega)
 unfold swp
 rw [e1,e2,Array.toList_setIfInBounds,Array.toList_setIfInBounds,h,hi,set_mid]
 have e3 : P ++ y :: (Q ++ y :: R) = (P ++ y :: Q) ++ y :: R:=by simp
 have e4 : j = (P ++ y :: Q).length:=by rw [hj]; simp; omega
 rw [e3,e4,set_mid]
 simp
theorem swp_mid' {d : Array Ed} {P Q R : List Ed} {x y : Ed} {i j : Nat} (h : d.toList = P ++ x :: (Q ++ y :: R)) (hi : i = P.length) (hj : j = P.length + 1 + Q.length) : (swp d j i).toList = P ++ y :: (Q ++ x :: R):=by
 have h2 : d.toList = (P ++ x :: Q) ++ y :: R:=by rw [h]; simp
 have e1 : d[i]! = x:=get_mid h hi
 have e2 : d[j]! = y:=get_mid h2 (by rw [hj]; simp; omega)
 unfold swp
 rw [e1,e2,Array.toList_setIfInBounds,Array.toList_setIfInBounds,h2]
 have e4 : j = (P ++ x :: Q).length:=by rw [hj]; simp; omega
 rw [e4,set_mid]
 have e3 : (P ++ x :: Q) ++ x :: R = P ++ x :: (Q ++ x :: R):=by simp
 rw [e3,hi,set_mid]
theorem split_at {L : List Ed} {k : Nat} (h : k < L.length) : ∃ x,L[k]? = some x ∧ L = L.take k ++ x :: L.drop (k + 1):=by
 refine ⟨L[k],List.getElem?_eq_getElem h,?_⟩
 rw [← List.drop_eq_getElem_cons h,List.take_append_drop]
/-! ### the insertion sort -/
def ltE (x y : Ed) : Bool:=decide (x.1 < y.1)
theorem ltE_swo : SWO ltE where
 irrefl x:=by simp [ltE]
 trans x y z h1 h2:=by simp [ltE] at *; omega
 ntrans x y z h1 h2:=by simp [ltE] at *; omega
theorem split2 {L : List Ed} {j : Nat} (h : j + 1 < L.length) : ∃ A x y B,L = A ++ x :: y :: B ∧ A.length = j:=by
 obtain ⟨x,_,e⟩:=split_at (show j < L.length by omega)
 obtain ⟨y,_,e2⟩:=split_at (show 0 < (L.drop (j + 1)).length by rw [List.length_drop]; omega)
 rw [List.take_zero,List.nil_append] at e2
 rw [e2] at e
 exact ⟨_,x,y,_,e,by rw [List.length_take]; omega⟩
theorem swp_fl {d : Array Ed} {j : Nat} (hj : j + 1 < d.size) (hl : ltE d[j + 1]! d[j]! = true) : Fl (swp d (j + 1) j).toList d.toList:=by
 obtain ⟨A,x,y,B,e,hA⟩:=split2 (L:=d.toList) (j:=j) (by rw [Array.length_toList]; exact hj)
 have ex : d[j]! = x:=get_mid e hA.symm
 have ey : d[j + 1]! = y:=get_mid (A:=A ++ [x]) (B:=B) (by rw [e]; simp) (by simp; omega)
 rw [ex,ey] at hl
 have hlt : y.1 < x.1:=by simpa [ltE] using hl
 rw [swp_mid' (Q:=[]) (x:=x) (y:=y) (R:=B) (i:=j) (j:=j + 1) (by simpa using e) hA.symm (by simp; omega),e]
 show Fl (A ++ ([y] ++ [x] ++ B)) (A ++ ([x] ++ [y] ++ B))
 refine Fl.left (Fl.right (Fl.swap fun u hu v hv => ?_))
 rw [List.mem_singleton.1 hu,List.mem_singleton.1 hv]
 omega
theorem insInner_fl (a : Nat) : ∀ (j : Nat) (d : Array Ed),j < d.size → Fl (insInner ltE a j d).toList d.toList
 | 0,d,_ => Fl.refl _
 | j + 1,d,hj => by
  unfold insInner
  split
  ·rename_i h
   rw [Bool.and_eq_true] at h
   exact (insInner_fl a j (swp d (j + 1) j) (by rw [size_swp]; omega)).trans (swp_fl hj h.2)
  ·exact Fl.refl _
theorem insOuter_fl (a b : Nat) : ∀ (n i : Nat) (d : Array Ed),b - i = n → b ≤ d.size → Fl (insOuter ltE a b i d).toList d.toList
 | 0,i,d,hn,hb => by
  unfold insOuter
  rw [if_neg (by omega)]
  exact Fl.refl _
 | n + 1,i,d,hn,hb => by
  unfold insOuter
  rw [if_pos (by omega)]
  have h1:=insInner_fl a i d (by omega)
  have hs : (insInner ltE a i d).size = d.size:=by
   have:=h1.1
   simpa using this
  exact (insOuter_fl a b n (i + 1) _ (by omega) (by rw [hs]; exact hb)).trans h1
theorem ins_fl (a b : Nat) (d : Array Ed) (hb : b ≤ d.size) : Fl (insertionSort ltE d a b).toList d.toList:=insOuter_fl a b _ _ d rfl hb
theorem getD_list {d : Array Ed} {i : Nat} (h : i < d.size) : d.toList[i]? = some d[i]!:=by
 rw [getElem!_pos d i h,Array.getElem?_toList,Array.getElem?_eq_getElem h]
theorem ins_list {d : Array Ed} {P U R : List Ed} {a b : Nat} (h : d.toList = P ++ U ++ R) (ha : a = P.length) (hb : b = P.length + U.length) :
  ∃ M,(insertionSort ltE d a b).toList = P ++ M ++ R ∧ Srt M ∧ Fl M U:=by
 have hsz:=size_of h
 simp only [List.length_append] at hsz
 obtain ⟨⟨hs,ho,_⟩,hsort⟩:=insertionSort_holds ltE_swo d a b (by omega) (by omega)
 have hfl:=ins_fl a b d (by omega)
 obtain ⟨d',hd'⟩ : ∃ d',insertionSort ltE d a b = d':=⟨_,rfl⟩
 rw [hd'] at hs ho hsort hfl ⊢
 have hlen : d'.toList.length = P.length + U.length + R.length:=by rw [Array.length_toList,hs,hsz]
 have e1 : d'.toList.take a = P:=by
  apply List.ext_getElem?
  intro i
  rw [List.getElem?_take]
  by_cases hi : i < a
  ·rw [if_pos hi,getD_list (by omega),ho i (.inl hi),← getD_list (by omega),h,List.append_assoc,List.getElem?_append_left (by omega)]
  ·rw [if_neg hi,List.getElem?_eq_none (by omega)]
 have e2 : d'.toList.drop b = R:=by
  apply List.ext_getElem?
  intro i
  rw [List.getElem?_drop]
  by_cases hi : b + i < d.size
  ·rw [getD_list (by omega),ho _ (.inr (by omega)),← getD_list hi,h,List.getElem?_append_right (by simp; omega)]
   congr 1
   simp
   omega
  ·rw [List.getElem?_eq_none (by rw [hlen]; omega),List.getElem?_eq_none (by omega)]
 have e3 : d'.toList = P ++ (d'.toList.take b).drop a ++ R:=by
  conv => lhs; rw [← List.take_append_drop b d'.toList,← List.take_append_drop a (d'.toList.take b)]
  rw [List.take_take,Nat.min_eq_left (by omega),e1,e2]
 refine ⟨(d'.toList.take b).drop a,e3,?_,?_⟩
 ·refine List.pairwise_iff_getElem.2 fun i j hi hj hij => ?_
  have hj' : a + j < b:=by rw [List.length_drop,List.length_take] at hj; omega
  have:=hsort (a + i) (a + j) (by omega) (by omega) hj'
  have g : ∀ k (hk : k < ((d'.toList.take b).drop a).length),((d'.toList.take b).drop a)[k] = d'[a + k]!:=fun k hk => by
   have hk' : a + k < b:=by rw [List.length_drop,List.length_take] at hk; omega
   rw [List.getElem_drop,List.getElem_take,getElem!_pos d' (a + k) (by omega),Array.getElem_toList]
  rw [g,g]
  simp only [ltE,decide_eq_false_iff_not] at this
  omega
 ·rw [e3,h] at hfl
  exact hfl.cancel
/-! ### blocks -/
def BS (bs : Nat) (L : List Ed) : Prop:=∀ k,Srt ((L.drop (k * bs)).take bs)
theorem BS.app {bs : Nat} {A M : List Ed} (h : BS bs A) {t : Nat} (ht : A.length = t * bs) (hm : Srt M) (hl : M.length ≤ bs) : BS bs (A ++ M):=by
 intro k
 rcases Nat.lt_trichotomy k t with hk | hk | hk
 ·have h1 : (k + 1) * bs ≤ t * bs:=Nat.mul_le_mul_right _ hk
  rw [Nat.add_mul,Nat.one_mul] at h1
  rw [List.drop_append_of_le_length (by omega),List.take_append_of_le_length (by rw [List.length_drop]; omega)]
  exact h k
 ·subst hk
  rw [← ht,List.drop_left,List.take_of_length_le hl]
  exact hm
 ·have h1 : (t + 1) * bs ≤ k * bs:=Nat.mul_le_mul_right _ hk
  rw [Nat.add_mul,Nat.one_mul] at h1
  rw [List.drop_eq_nil_iff.2 (by rw [List.length_append]; omega),List.take_nil]
  exact List.Pairwise.nil
theorem BS.drop {bs : Nat} {L : List Ed} (h : BS bs L) (t : Nat) : BS bs (L.drop (t * bs)):=by
 intro k
 rw [List.drop_drop,← Nat.add_mul]
 exact h (t + k)
theorem BS.first {bs : Nat} {L : List Ed} (h : BS bs L) : Srt (L.take bs):=by
 have:=h 0
 rwa [Nat.zero_mul,List.drop_zero] at this
theorem BS.all {bs : Nat} {L : List Ed} (h : BS bs L) (hl : L.length ≤ bs) : Srt L:=by
 have:=h.first
 rwa [List.take_of_length_le hl] at this
theorem BS.nil (bs : Nat) : BS bs []:=fun k => by simp [Srt]
/-! ### the merge -/
theorem srt_insert {V1 V2 : List Ed} {x : Ed} (h : Srt (V1 ++ V2)) (h1 : ∀ v ∈ V1,v.1 ≤ x.1) (h2 : ∀ v ∈ V2,x.1 ≤ v.1) : Srt (V1 ++ x :: V2):=by
 refine Srt.app h.left (List.pairwise_cons.2 ⟨h2,h.right⟩) fun u hu v hv => ?_
 rcases List.mem_cons.1 hv with rfl | hv
 ·exact h1 u hu
 ·exact h.between u hu v hv
theorem srt_get {L : List Ed} (h : Srt L) {i j : Nat} {x y : Ed} (hi : L[i]? = some x) (hj : L[j]? = some y) (hij : i ≤ j) : x.1 ≤ y.1:=by
 rcases Nat.lt_or_ge i j with hlt | hge
 ·obtain ⟨h1,rfl⟩:=List.getElem?_eq_some_iff.1 hi
  obtain ⟨h2,rfl⟩:=List.getElem?_eq_some_iff.1 hj
  exact List.pairwise_iff_getElem.1 h i j h1 h2 hlt
 ·obtain rfl : i = j:=by omega
  rw [hi] at hj; cases hj; exact Int.le_refl _
theorem mem_take {L : List Ed} {k : Nat} {x : Ed} (h : x ∈ L.take k) : ∃ i,i < k ∧ L[i]? = some x:=by
 obtain ⟨i,hi,rfl⟩:=List.mem_iff_getElem.1 h
 have h2 : i < k:=by rw [List.length_take] at hi; omega
 exact ⟨i,h2,by rw [List.getElem_take]; exact List.getElem?_eq_getElem _⟩
theorem mem_drop {L : List Ed} {k : Nat} {x : Ed} (h : x ∈ L.drop k) : ∃ i,k ≤ i ∧ L[i]? = some x:=by
 obtain ⟨i,hi,rfl⟩:=List.mem_iff_getElem.1 h
 exact ⟨k + i,by omega,by rw [List.getElem_drop]; exact List.getElem?_eq_getElem _⟩
theorem cut_ok {U V : List Ed} {s e : Nat} (hU : Srt U) (hV : Srt V) (hs : s ≤ U.length) (he : e ≤ V.length)
  (h1 : ∀ k x y,k + 1 = s → U[k]? = some x → V[e]? = some y → x.1 ≤ y.1) (h2 : ∀ k x y,k + 1 = e → V[k]? = some y → U[s]? = some x → y.1 < x.1) {M1 M2 : List Ed}
  (hM1 : Srt M1) (f1 : Fl M1 (U.take s ++ V.take e)) (hM2 : Srt M2) (f2 : Fl M2 (U.drop s ++ V.drop e)) : Srt (M1 ++ M2) ∧ Fl (M1 ++ M2) (U ++ V):=by
 have c1 : ∀ x ∈ U.take s,∀ y ∈ V.drop e,x.1 ≤ y.1:=fun x hx y hy => by
  obtain ⟨i,hi,gi⟩:=mem_take hx
  obtain ⟨j,hj,gj⟩:=mem_drop hy
  obtain ⟨u,hu⟩ : ∃ u,U[s - 1]? = some u:=⟨_,List.getElem?_eq_getElem (by omega)⟩
  obtain ⟨v,hv⟩ : ∃ v,V[e]? = some v:=⟨_,List.getElem?_eq_getElem (by have:=(List.getElem?_eq_some_iff.1 gj).1; omega)⟩
  have a1:=srt_get hU gi hu (by omega)
  have a2:=h1 (s - 1) u v (by omega) hu hv
  have a3:=srt_get hV hv gj hj
  omega
 have c2 : ∀ y ∈ V.take e,∀ x ∈ U.drop s,y.1 < x.1:=fun y hy x hx => by
  obtain ⟨i,hi,gi⟩:=mem_take hy
  obtain ⟨j,hj,gj⟩:=mem_drop hx
  obtain ⟨u,hu⟩ : ∃ u,U[s]? = some u:=⟨_,List.getElem?_eq_getElem (by have:=(List.getElem?_eq_some_iff.1 gj).1; omega)⟩
  obtain ⟨v,hv⟩ : ∃ v,V[e - 1]? = some v:=⟨_,List.getElem?_eq_getElem (by omega)⟩
  have a1:=srt_get hV gi hv (by omega)
  have a2:=h2 (e - 1) u v (by omega) hv hu
  have a3:=srt_get hU hu gj hj
  omega
 have c3 : ∀ x ∈ U.take s,∀ y ∈ U.drop s,x.1 ≤ y.1:=by
  have:=hU
  rw [← List.take_append_drop s U] at this
  exact this.between
 have c4 : ∀ x ∈ V.take e,∀ y ∈ V.drop e,x.1 ≤ y.1:=by
  have:=hV
  rw [← List.take_append_drop e V] at this
  exact this.between
 refine ⟨hM1.app hM2 fun x hx y hy => ?_,?_⟩
 ·rcases List.mem_append.1 (f1.mem hx) with hx | hx <;> rcases List.mem_append.1 (f2.mem hy) with hy | hy
  ·exact c3 x hx y hy
  ·exact c1 x hx y hy
  ·exact Int.le_of_lt (c2 x hx y hy)
  ·exact c4 x hx y hy
 ·refine (f1.app f2).trans ?_
  have e1 : U ++ V = U.take s ++ (U.drop s ++ V.take e) ++ V.drop e:=by
   conv => lhs; rw [← List.take_append_drop s U,← List.take_append_drop e V]
   simp only [List.append_assoc]
  have e2 : U.take s ++ V.take e ++ (U.drop s ++ V.drop e) = U.take s ++ (V.take e ++ U.drop s) ++ V.drop e:=by simp [List.append_assoc]
  rw [e1,e2]
  refine Fl.right (Fl.left (Fl.swap fun y hy x hx => ?_))
  have:=c2 y hy x hx
  omega
end Go.Proofs.YtkjhlgnpohamnaaGreatDoor.Mk
namespace Go.Proofs.YtkjhlgnpohamnaaGreatDoor.Mk
set_option linter.unusedVariables false
set_option linter.unusedSimpArgs false
open Go.RowKit Go.Lib Go.Sort
abbrev cfE (x y : Ed) : Int:=Lib.compareInt x.1 y.1
theorem ltOf_cfE : ltOf cfE = ltE:=by
 funext x y
 unfold ltOf cfE Lib.compareInt ltE
 by_cases h1 : x.1 < y.1
 ·simp [h1]
 ·by_cases h2 : y.1 < x.1 <;> simp [h1,h2]
theorem cfE_lt (x y : Ed) : cfE x y < 0 ↔ x.1 < y.1:=by
 have:=congrFun (congrFun ltOf_cfE x) y
 unfold ltOf ltE at this
 simpa using this
theorem byFrom_any (x y : Ed) (W : World) : CP 35 #[.agg (ecell x).toArray,.agg (ecell y).toArray] W fun e w' => e = .returned (.int .i64 (cfE x y)) ∧ ∃ q os',w' = Go.Sort.grow (W.drewN q) os':=by
 have hcon:=fun W' => AnyG.cmp_Compare_int Tryz.cmpInt x.1 y.1 W'
 change ∀ W',CP 36 _ _ _ at hcon
 unfold cfE
 generalize Lib.compareInt x.1 y.1 = r at hcon ⊢
 unfold ecell
 go_enter Tryz.func35,Tryz.ntmps35
 go_wp2_with (go_at_call 36; refine (hcon _).mono ?_; rintro e w' ⟨rfl,rfl⟩)
 go_ret
 exact ⟨rfl,0,_,by rw [alloc_eq_grow,alloc_eq_grow,grow_grow]; rfl⟩
theorem cmpE (blk off size : Nat) (w : World) : CmpLays Tryz.prog 35 #[] ecell 5 cfE blk off size w:=fun _ _ _ _ x y => byFrom_any x y _
theorem egE : ∀ args w,(callFunc 35 args).run Tryz.prog w = .ok (.enter 35 args) w:=enters_of Tryz.func35 (by kernel_rfl) rfl
abbrev SWE (w0 : World) (g : Nat) (L : List Ed) (w : World) : Prop:=∃ d : Array Ed,d.toList = L ∧ SWK ecell 5 w0 g 0 d w
abbrev cmpV : Value:=.func (.func 35) #[] #[]
theorem ins_any (g cap a b : Nat) (d0 : Array Ed) (w0 w : World) (P U R : List Ed) (hR : RowK ecell 5 w0 g 0 d0) (n : Nat) (hn : n = d0.size) (hS : SWE w0 g (P ++ U ++ R) w) (hs : (P ++ U ++ R).length = n) (ha : a = P.length) (hb : b = P.length + U.length) (hsz : n ≤ 100000) :
  CP 106 #[.slice (some ⟨g,0,none⟩) n cap,.int .i64 a,.int .i64 b,cmpV] w fun e w' => e = .returned (.tuple #[]) ∧ ∃ M,SWE w0 g (P ++ M ++ R) w' ∧ Srt M ∧ Fl M U:=by
 obtain ⟨d,hd,hw⟩:=hS
 have hds : d.size = n:=by rw [size_of hd,hs]
 have hH:=hw.holds hR.hblk hR.hH (by rw [hds,hn])
 simp only [List.length_append] at hs
 have:=AnyQ.insertionSortCmpFunc Tryz.anIns 5 Tryz.isAgg36 Tryz.sizeOf36 ecell (fun _ => rfl) ecell_one cfE 35 #[] g 0 cap a b d w egE (cmpE g 0 d.size w) hH (hw.lt hR.hblk) (by omega) (by omega) (by omega)
 rw [hds] at this
 refine (this : CP 106 _ _ _).mono ?_
 rintro e w' ⟨he,m,os,hw'⟩
 obtain ⟨M,hM,hm1,hm2⟩:=ins_list hd ha hb
 rw [ltOf_cfE] at hw'
 refine ⟨he,M,⟨_,hM,?_⟩,hm1,hm2⟩
 rw [hw']
 exact hw.on hR.hblk m _ os (by have h1:=size_of hM; have h2:=size_of hd; simp only [List.length_append] at h1 h2; have:=hm2.1; omega)
theorem ed_cells {W : World} {g : Nat} {d : Array Ed} {i : Nat} {x : Ed} (h : HoldsK ecell 5 W g 0 d) (hi : i < d.size) (hx : d[i]! = x) :
  (W.cell? ⟨g,i * 5,none⟩ = some (.bool x.2.2.1) ∧ W.cell? ⟨g,i * 5 + 1,none⟩ = some (.bool x.2.2.2.1) ∧ W.cell? ⟨g,i * 5 + 2,none⟩ = some (.string x.2.2.2.2) ∧ W.cell? ⟨g,i * 5 + 3,none⟩ = some (.int .i64 x.1) ∧ W.cell? ⟨g,i * 5 + 4,none⟩ = some (.int .i64 x.2.1)) ∧ W.frozen? ⟨g,i * 5,none⟩ = false ∧ W.frozen? ⟨g,i * 5 + 1,none⟩ = false ∧ W.frozen? ⟨g,i * 5 + 2,none⟩ = false ∧ W.frozen? ⟨g,i * 5 + 3,none⟩ = false ∧ W.frozen? ⟨g,i * 5 + 4,none⟩ = false:=by
 have h0:=h.cell hi (show 0 < 5 by omega)
 have h1:=h.cell hi (show 1 < 5 by omega)
 have h2:=h.cell hi (show 2 < 5 by omega)
 have h3:=h.cell hi (show 3 < 5 by omega)
 have h4:=h.cell hi (show 4 < 5 by omega)
 rw [hx,Nat.zero_add] at h0 h1 h2 h3 h4
 exact ⟨⟨h0.1,h1.1,h2.1,h3.1,h4.1⟩,h0.2,h1.2,h2.2,h3.2,h4.2⟩
theorem swapped_end {w0 w : World} {g : Nat} {d : Array Ed} {n0 : Array Ed} {i j : Nat} {x y : Ed} (hR : RowK ecell 5 w0 g 0 n0) (h : SWK ecell 5 w0 g 0 d w) (hi : i < d.size) (hj : j < d.size) (hx : d[i]! = x) (hy : d[j]! = y) :
  SWK ecell 5 w0 g 0 (swp d i j) ((((((((((w.setCell ⟨g,i * 5,none⟩ (.bool y.2.2.1)).setCell ⟨g,i * 5 + 1,none⟩ (.bool y.2.2.2.1)).setCell ⟨g,i * 5 + 2,none⟩ (.string y.2.2.2.2)).setCell ⟨g,i * 5 + 3,none⟩ (.int .i64 y.1)).setCell ⟨g,i * 5 + 4,none⟩ (.int .i64 y.2.1)).setCell ⟨g,j * 5,none⟩ (.bool x.2.2.1)).setCell ⟨g,j * 5 + 1,none⟩ (.bool x.2.2.2.1)).setCell ⟨g,j * 5 + 2,none⟩ (.string x.2.2.2.2)).setCell ⟨g,j * 5 + 3,none⟩ (.int .i64 x.1)).setCell ⟨g,j * 5 + 4,none⟩ (.int .i64 x.2.1)).drew:=by
 have:=(h.swap hR.hk hR.hblk i j hi hj).drew
 rw [hx,hy,Nat.zero_add,Nat.zero_add] at this
 exact this
set_option maxRecDepth 1000000 in
theorem swapRange_any (g cap a b k : Nat) (d0 : Array Ed) (w0 w : World) (P X Q Y R : List Ed) (hR : RowK ecell 5 w0 g 0 d0) (n : Nat) (hn : n = d0.size) (hS : SWE w0 g (P ++ X ++ Q ++ Y ++ R) w) (hs : (P ++ X ++ Q ++ Y ++ R).length = n)
  (ha : a = P.length) (hX : X.length = k) (hY : Y.length = k) (hb : b = P.length + X.length + Q.length) (hsz : n ≤ 100000) :
  CP 141 #[.slice (some ⟨g,0,none⟩) n cap,.int .i64 a,.int .i64 b,.int .i64 k,cmpV] w fun e w' => e = .returned (.tuple #[]) ∧ SWE w0 g (P ++ Y ++ Q ++ X ++ R) w':=by
 simp only [List.length_append] at hs
 have HS:=Lh hS
 have HX:=Lh hX
 have HY:=Lh hY
 have HA:=Lh ha
 have HB:=Lh hb
 have HN:=Lh hs
 have hak : a + k ≤ n:=by omega
 have hbk : b + k ≤ n:=by omega
 have mixed : Tryz.prog.follows .mixedOrders = true:=by kernel_rfl
 clear hS hX hY hs ha hb
 go_enter Tryz.func141,Tryz.ntmps141
 go_wp2
 go_loopw [10] (fun i wr => ∃ t : Nat,i = .int .i64 (t : Int) ∧ t ≤ k ∧ SWE w0 g (P ++ Y.take t ++ X.drop t ++ Q ++ X.take t ++ Y.drop t ++ R) wr) (fun i _ => k - (intOf i).toNat)
 case atStart => exact ⟨0,rfl,Nat.zero_le _,by simpa using HS.out⟩
 case round =>
  obtain ⟨t,rfl,ht,d,hd,hw⟩:=hrel
  by_cases hlt : t < k
  ·obtain ⟨x,hx,ex⟩:=split_at (show t < X.length by rw [HX.out]; exact hlt)
   obtain ⟨y,hy,ey⟩:=split_at (show t < Y.length by rw [HY.out]; exact hlt)
   have hN:=HN.out
   have hX1:=HX.out
   have hY1:=HY.out
   have ha1:=HA.out
   have hb1:=HB.out
   have hlX : (X.take t).length = t:=by rw [List.length_take]; omega
   have hlY : (Y.take t).length = t:=by rw [List.length_take]; omega
   have hdX : X.drop t = x :: X.drop (t + 1):=by rw [List.drop_eq_getElem_cons (by omega)]; have:=(List.getElem?_eq_some_iff.1 hx).2; rw [this]
   have hdY : Y.drop t = y :: Y.drop (t + 1):=by rw [List.drop_eq_getElem_cons (by omega)]; have:=(List.getElem?_eq_some_iff.1 hy).2; rw [this]
   have hlX2 : (X.drop (t + 1)).length = k - t - 1:=by rw [List.length_drop]; omega
   have hd2 : d.toList = (P ++ Y.take t) ++ x :: ((X.drop (t + 1) ++ Q ++ X.take t) ++ y :: (Y.drop (t + 1) ++ R)):=by
    rw [hd,hdX,hdY]
    simp only [List.append_assoc,List.cons_append]
   have i1 : a + t = (P ++ Y.take t).length:=by rw [List.length_append,hlY]; omega
   have i2 : b + t = (P ++ Y.take t).length + 1 + (X.drop (t + 1) ++ Q ++ X.take t).length:=by
    simp only [List.length_append]
    rw [hlX,hlY,hlX2]
    omega
   have hds : d.size = n:=by
    rw [size_of hd2]
    simp only [List.length_append,List.length_cons]
    rw [hlX,hlY,hlX2,List.length_drop]
    omega
   have gx : d[a + t]! = x:=get_mid hd2 i1
   have gy : d[b + t]! = y:=get_mid (A:=(P ++ Y.take t) ++ x :: (X.drop (t + 1) ++ Q ++ X.take t)) (B:=Y.drop (t + 1) ++ R) (by rw [hd2]; simp only [List.append_assoc,List.cons_append]) (by rw [i2]; simp only [List.length_append,List.length_cons]; omega)
   have HSW : Hid ((swp d (a + t) (b + t)).toList = P ++ Y.take (t + 1) ++ X.drop (t + 1) ++ Q ++ X.take (t + 1) ++ Y.drop (t + 1) ++ R):=Lh (by
    rw [swp_mid hd2 i1 i2]
    have e1 : Y.take (t + 1) = Y.take t ++ [y]:=by rw [List.take_succ_eq_append_getElem (by omega)]; have:=(List.getElem?_eq_some_iff.1 hy).2; rw [this]
    have e2 : X.take (t + 1) = X.take t ++ [x]:=by rw [List.take_succ_eq_append_getElem (by omega)]; have:=(List.getElem?_eq_some_iff.1 hx).2; rw [this]
    rw [e1,e2]
    simp only [List.append_assoc,List.cons_append,List.nil_append])
   have S2:=Lh (swapped_end hR hw (show a + t < d.size by omega) (show b + t < d.size by omega) gx gy)
   have hH:=hw.drew.holds hR.hblk hR.hH (by omega)
   obtain ⟨⟨c0,c1,c2,c2x,c2y⟩,f0,f1,f2,f2x,f2y⟩:=ed_cells hH (show a + t < d.size by omega) gx
   obtain ⟨⟨d0,d1,d2,d2x,d2y⟩,k0,k1,k2,k2x,k2y⟩:=ed_cells hH (show b + t < d.size by omega) gy
   obtain ⟨⟨c0',c1',c2',c2x',c2y'⟩,f0',f1',f2',f2x',f2y'⟩:=ed_cells (hw.holds hR.hblk hR.hH (by omega)) (show a + t < d.size by omega) gx
   obtain ⟨⟨d0',d1',d2',d2x',d2y'⟩,k0',k1',k2',k2x',k2y'⟩:=ed_cells (hw.holds hR.hblk hR.hH (by omega)) (show b + t < d.size by omega) gy
   have hoo : (a + t) * 5 + 5 ≤ (b + t) * 5:=by omega
   obtain ⟨oA,hoA⟩ : ∃ oA,(a + t) * 5 = oA:=⟨_,rfl⟩
   obtain ⟨oB,hoB⟩ : ∃ oB,(b + t) * 5 = oB:=⟨_,rfl⟩
   rw [hoA] at c0 c1 c2 c2x c2y f0 f1 f2 f2x f2y c0' c1' c2' c2x' c2y' f0' f1' f2' f2x' f2y' hoo S2
   rw [hoB] at d0 d1 d2 d2x d2y k0 k1 k2 k2x k2y d0' d1' d2' d2x' d2y' k0' k1' k2' k2x' k2y' hoo S2
   have ea : ((a : Int) + (t : Int)).toNat = a + t:=by omega
   have pa : (0 : Int) ≤ (a : Int) + (t : Int):=by omega
   have ba : (a : Int) + (t : Int) < (n : Int):=by omega
   have ra : IntKind.i64.wrap ((a : Int) + (t : Int)) = (a : Int) + (t : Int):=IntWalk.i64_in _ (by omega)
   have eb : ((b : Int) + (t : Int)).toNat = b + t:=by omega
   have pb : (0 : Int) ≤ (b : Int) + (t : Int):=by omega
   have bb : (b : Int) + (t : Int) < (n : Int):=by omega
   have rb : IntKind.i64.wrap ((b : Int) + (t : Int)) = (b : Int) + (t : Int):=IntWalk.i64_in _ (by omega)
   clear hw hd hx hy ex ey hN hX1 hY1 ha1 hb1 hlX hlY hdX hdY hlX2 hd2 i1 i2 hds gx gy hH
   go_wp2_with fail
   go_big_region_o
   clear c0 c1 c2 c2x c2y f0 f1 f2 f2x f2y d0 d1 d2 d2x d2y k0 k1 k2 k2x k2y c0' c1' c2' c2x' c2y' f0' f1' f2' f2x' f2y' d0' d1' d2' d2x' d2y' k0' k1' k2' k2x' k2y'
   go_wp2
   go_roundw
   case rel =>
    exact ⟨t + 1,by go_num,by omega,_,HSW.out,S2.out⟩
   case measure => simp [intOf]; omega
  ·obtain rfl : t = k:=by omega
   have HW:=Lh hw
   have HD:=Lh hd
   clear hw hd
   go_wp2
   go_end0
   refine ⟨rfl,d,?_,HW.out⟩
   have:=HD.out
   rw [List.take_of_length_le (by rw [HY.out]; exact Nat.le_refl _),List.take_of_length_le (by rw [HX.out]; exact Nat.le_refl _),List.drop_eq_nil_iff.2 (by rw [HX.out]; exact Nat.le_refl _),List.drop_eq_nil_iff.2 (by rw [HY.out]; exact Nat.le_refl _)] at this
   simpa using this
end Go.Proofs.YtkjhlgnpohamnaaGreatDoor.Mk
namespace Go.Proofs.YtkjhlgnpohamnaaGreatDoor.Mk
set_option linter.unusedVariables false
set_option linter.unusedSimpArgs false
open Go.RowKit Go.Lib Go.Sort
set_option maxRecDepth 1000000 in
theorem rotate_any (g cap a m b : Nat) (d0 : Array Ed) (w0 w : World) (P U V R : List Ed) (hR : RowK ecell 5 w0 g 0 d0) (n : Nat) (hn : n = d0.size) (hS : SWE w0 g (P ++ U ++ V ++ R) w) (hs : (P ++ U ++ V ++ R).length = n)
  (ha : a = P.length) (hm : m = P.length + U.length) (hb : b = P.length + U.length + V.length) (hU : 0 < U.length) (hV : 0 < V.length) (hsz : n ≤ 100000) :
  CP 125 #[.slice (some ⟨g,0,none⟩) n cap,.int .i64 a,.int .i64 m,.int .i64 b,cmpV] w fun e w' => e = .returned (.tuple #[]) ∧ SWE w0 g (P ++ V ++ U ++ R) w':=by
 simp only [List.length_append] at hs
 have HS:=Lh hS
 have HN:=Lh hs
 have HA:=Lh ha
 have HM:=Lh hm
 have HB:=Lh hb
 have hmn : m ≤ n:=by omega
 have hbn : b ≤ n:=by omega
 have ham : a < m:=by omega
 have hmb : m < b:=by omega
 have HNN:=Lh hn
 clear hS hs ha hm hb hn
 go_enter Tryz.func125,Tryz.ntmps125
 go_wp2
 go_loopw [10,11] (fun vi vj wr => ∃ (P' U' V' R' : List Ed) (i j : Nat),vi = .int .i64 (i : Int) ∧ vj = .int .i64 (j : Int) ∧ U'.length = i ∧ V'.length = j ∧ 0 < i ∧ 0 < j ∧ P'.length + i = m ∧ m + j ≤ n ∧ P'.length + i + j + R'.length = n ∧ SWE w0 g (P' ++ U' ++ V' ++ R') wr ∧ P' ++ V' ++ U' ++ R' = P ++ V ++ U ++ R) (fun vi vj _ => (intOf vi).toNat + (intOf vj).toNat)
 case atStart => exact ⟨P,U,V,R,m - a,b - m,by go_num,by go_num,by have:=HA.out; have:=HM.out; omega,by have:=HM.out; have:=HB.out; omega,by omega,by omega,by have:=HA.out; have:=HM.out; omega,by omega,by have:=HN.out; have:=HA.out; have:=HM.out; have:=HB.out; omega,HS.out,rfl⟩
 case round =>
  obtain ⟨P',U',V',R',i,j,rfl,rfl,hu,hv,hi,hj,hpm,hmj,hlen,hw,he⟩:=hrel
  have HW:=Lh hw
  have HE:=Lh he
  have HU:=Lh hu
  have HV:=Lh hv
  have HL:=Lh hlen
  have HPM:=Lh hpm
  clear hw he hu hv hlen hpm
  obtain ⟨p,hp⟩ : ∃ p,m - i = p:=⟨_,rfl⟩
  have HP:=Lh hp
  have r1 : IntKind.i64.wrap ((m : Int) - (i : Int)) = (p : Int):=(IntWalk.i64_in _ (by have:=HPM.out; omega)).trans (by have:=HPM.out; omega)
  have r1' : (m : Int) - (i : Int) = (p : Int):=by have:=HPM.out; omega
  clear hp
  rcases Nat.lt_trichotomy i j with hij | hij | hij
  ·have t1 : ((i : Int) != (j : Int)) = true:=by simp; omega
   have t2 : ¬ (j : Int) < (i : Int):=by omega
   obtain ⟨q,hq⟩ : ∃ q,m + j - i = q:=⟨_,rfl⟩
   have r2 : IntKind.i64.wrap ((m : Int) + (j : Int)) = (m : Int) + (j : Int):=IntWalk.i64_in _ (by omega)
   have r3 : IntKind.i64.wrap ((m : Int) + (j : Int) - (i : Int)) = (q : Int):=(IntWalk.i64_in _ (by omega)).trans (by omega)
   have r3' : (m : Int) + (j : Int) - (i : Int) = (q : Int):=by omega
   have HQ:=Lh hq
   clear hq
   have HC : Hid (CP 141 #[.slice (some ⟨g,0,none⟩) n cap,.int .i64 (p : Int),.int .i64 (q : Int),.int .i64 (i : Int),cmpV] wr fun e w' => e = .returned (.tuple #[]) ∧ Hid (SWE w0 g (P' ++ V'.drop (j - i) ++ V'.take (j - i) ++ (U' ++ R')) w')):=Lh (by
    have e1 : P' ++ U' ++ V' ++ R' = P' ++ U' ++ V'.take (j - i) ++ V'.drop (j - i) ++ R':=by
     conv => lhs; rw [← List.take_append_drop (j - i) V']
     simp only [List.append_assoc]
    have h1:=HU.out
    have h2:=HV.out
    have h3:=HPM.out
    have h4:=HL.out
    have h5:=HP.out
    have h6:=HQ.out
    have hw:=HW.out
    rw [e1] at hw
    refine (swapRange_any g cap p q i d0 w0 wr P' U' (V'.take (j - i)) (V'.drop (j - i)) R' hR n HNN.out hw (by simp only [List.length_append,List.length_take,List.length_drop]; omega) (by omega) h1 (by rw [List.length_drop]; omega) (by rw [List.length_take]; omega) hsz).mono ?_
    rintro e w' ⟨he,hw'⟩
    refine ⟨he,Lh ?_⟩
    have e2 : P' ++ V'.drop (j - i) ++ V'.take (j - i) ++ U' ++ R' = P' ++ V'.drop (j - i) ++ V'.take (j - i) ++ (U' ++ R'):=by simp only [List.append_assoc]
    rw [e2] at hw'
    exact hw')
   go_wp2_with (first
    | (go_at_call 141; refine HC.out.mono ?_; rintro e w2 ⟨rfl,H2⟩)
    | fail)
   go_roundw
   case rel =>
    refine ⟨P',V'.drop (j - i),V'.take (j - i),U' ++ R',i,j - i,rfl,by go_num,by have:=HV.out; rw [List.length_drop]; omega,by have:=HV.out; rw [List.length_take]; omega,hi,by omega,HPM.out,by omega,?_,H2.out,?_⟩
    ·have:=HU.out; have:=HL.out; rw [List.length_append]; omega
    ·rw [← HE.out]
     conv => rhs; rw [← List.take_append_drop (j - i) V']
     simp only [List.append_assoc]
   case measure => simp [intOf]; omega
  ·subst hij
   have t1 : ((i : Int) != (i : Int)) = false:=by simp
   have HC : Hid (CP 141 #[.slice (some ⟨g,0,none⟩) n cap,.int .i64 (p : Int),.int .i64 (m : Int),.int .i64 (i : Int),cmpV] wr fun e w' => e = .returned (.tuple #[]) ∧ Hid (SWE w0 g (P ++ V ++ U ++ R) w')):=Lh (by
    have h1:=HU.out
    have h2:=HV.out
    have h3:=HPM.out
    have h4:=HL.out
    have h5:=HP.out
    have hw:=HW.out
    have e1 : P' ++ U' ++ V' ++ R' = P' ++ U' ++ [] ++ V' ++ R':=by simp
    rw [e1] at hw
    refine (swapRange_any g cap p m i d0 w0 wr P' U' [] V' R' hR n HNN.out hw (by simp only [List.length_append,List.length_nil]; omega) (by omega) h1 h2 (by simp only [List.length_nil]; omega) hsz).mono ?_
    rintro e w' ⟨he,hw'⟩
    refine ⟨he,Lh ?_⟩
    rw [← HE.out]
    simpa using hw')
   go_wp2_with (first
    | (go_at_call 141; refine HC.out.mono ?_; rintro e w2 ⟨rfl,H2⟩)
    | fail)
   go_end0
   exact ⟨rfl,H2.out⟩
  ·have t1 : ((i : Int) != (j : Int)) = true:=by simp; omega
   have t2 : (j : Int) < (i : Int):=by omega
   have HC : Hid (CP 141 #[.slice (some ⟨g,0,none⟩) n cap,.int .i64 (p : Int),.int .i64 (m : Int),.int .i64 (j : Int),cmpV] wr fun e w' => e = .returned (.tuple #[]) ∧ Hid (SWE w0 g (P' ++ V' ++ U'.drop j ++ U'.take j ++ R') w')):=Lh (by
    have e1 : P' ++ U' ++ V' ++ R' = P' ++ U'.take j ++ U'.drop j ++ V' ++ R':=by
     conv => lhs; rw [← List.take_append_drop j U']
     simp only [List.append_assoc]
    have h1:=HU.out
    have h2:=HV.out
    have h3:=HPM.out
    have h4:=HL.out
    have h5:=HP.out
    have hw:=HW.out
    rw [e1] at hw
    refine (swapRange_any g cap p m j d0 w0 wr P' (U'.take j) (U'.drop j) V' R' hR n HNN.out hw (by simp only [List.length_append,List.length_take,List.length_drop]; omega) (by omega) (by rw [List.length_take]; omega) h2 (by rw [List.length_take,List.length_drop]; omega) hsz).mono ?_
    rintro e w' ⟨he,hw'⟩
    exact ⟨he,Lh hw'⟩)
   go_wp2_with (first
    | (go_at_call 141; refine HC.out.mono ?_; rintro e w2 ⟨rfl,H2⟩)
    | fail)
   go_roundw
   case rel =>
    refine ⟨P' ++ V',U'.drop j,U'.take j,R',i - j,j,by go_num,rfl,by have:=HU.out; rw [List.length_drop]; omega,by have:=HU.out; rw [List.length_take]; omega,by omega,hj,?_,hmj,?_,H2.out,?_⟩
    ·have:=HV.out; have:=HPM.out; rw [List.length_append]; omega
    ·have:=HV.out; have:=HL.out; rw [List.length_append]; omega
    ·rw [← HE.out]
     conv => rhs; rw [← List.take_append_drop j U']
     simp only [List.append_assoc]
   case measure => simp [intOf]; omega
end Go.Proofs.YtkjhlgnpohamnaaGreatDoor.Mk
namespace Go.Proofs.YtkjhlgnpohamnaaGreatDoor.Mk
set_option linter.unusedVariables false
set_option linter.unusedSimpArgs false
open Go.RowKit Go.Lib Go.Sort
def MgTo (w0 : World) (g : Nat) (P U V R : List Ed) (e : Ending) (w' : World) : Prop:=e = .returned (.tuple #[]) ∧ ∃ M,SWE w0 g (P ++ M ++ R) w' ∧ Srt M ∧ Fl M (U ++ V)
theorem cmp_SW {w0 : World} {g : Nat} {d : Array Ed} {W : World} (h : SWK ecell 5 w0 g 0 d W) (x y : Ed) :
  CP 35 #[.agg #[.bool x.2.2.1,.bool x.2.2.2.1,.string x.2.2.2.2,.int .i64 x.1,.int .i64 x.2.1],.agg #[.bool y.2.2.1,.bool y.2.2.2.1,.string y.2.2.2.2,.int .i64 y.1,.int .i64 y.2.1]] W fun e w' => e = .returned (.int .i64 (cfE x y)) ∧ SWK ecell 5 w0 g 0 d w':=
 (byFrom_any x y W).mono fun e w' ⟨he,q,os,hw⟩ => ⟨he,by rw [hw]; exact h.grown q os⟩
theorem get_at {d : Array Ed} {L : List Ed} {i : Nat} {x : Ed} (hd : d.toList = L) (h : L[i]? = some x) : i < d.size ∧ d[i]! = x:=by
 have hs : i < d.size:=by rw [size_of hd]; exact (List.getElem?_eq_some_iff.1 h).1
 refine ⟨hs,?_⟩
 have:=getD_list hs
 rw [hd,h] at this
 exact (Option.some.inj this).symm
theorem mid_get {P U R : List Ed} {m t : Nat} {y : Ed} (hm : m = P.length) (h : U[t]? = some y) : (P ++ U ++ R)[m + t]? = some y:=by
 subst hm
 have:=(List.getElem?_eq_some_iff.1 h).1
 rw [List.append_assoc,List.getElem?_append_right (by omega),Nat.add_sub_cancel_left,List.getElem?_append_left this]
 exact h
set_option maxRecDepth 1000000 in
theorem merge_one (g cap a m b : Nat) (d0 : Array Ed) (w0 w : World) (P V R : List Ed) (x : Ed) (hR : RowK ecell 5 w0 g 0 d0) (n : Nat) (hn : n = d0.size) (hS : SWE w0 g (P ++ [x] ++ V ++ R) w) (hs : (P ++ [x] ++ V ++ R).length = n)
  (ha : a = P.length) (hm : m = P.length + 1) (hb : b = P.length + 1 + V.length) (hVs : Srt V) (hsz : n ≤ 100000) :
  CP 107 #[.slice (some ⟨g,0,none⟩) n cap,.int .i64 a,.int .i64 m,.int .i64 b,cmpV] w (MgTo w0 g P [x] V R):=by
 have hs0:=hs
 simp only [List.length_append,List.length_cons,List.length_nil] at hs
 have HS:=Lh hS
 have HN:=Lh hs
 have HN0:=Lh hs0
 have HA:=Lh ha
 have HM:=Lh hm
 have HB:=Lh hb
 have HNN:=Lh hn
 have HV:=Lh hVs
 have hma : (m : Int) - (a : Int) = 1:=by omega
 have hwma : IntKind.i64.wrap ((m : Int) - (a : Int)) = 1:=(IntWalk.i64_in _ (by omega)).trans hma
 have hmn : m ≤ n:=by omega
 have hbn : b ≤ n:=by omega
 have hmb : m ≤ b:=by omega
 have hm1 : m = a + 1:=by omega
 have HM1:=Lh hm1
 have HVG : Hid (∀ t y,V[t]? = some y → (P ++ [x] ++ V ++ R)[m + t]? = some y):=Lh fun t y h => by
  have:=mid_get (P:=P ++ [x]) (R:=R) (m:=m) (by simp; omega) h
  exact this
 have HXG : Hid ((P ++ [x] ++ V ++ R)[a]? = some x):=Lh (by
  have:=mid_get (P:=P) (U:=[x]) (R:=V ++ R) (m:=a) (t:=0) ha rfl
  simpa [List.append_assoc] using this)
 have mixed : Tryz.prog.follows .mixedOrders = true:=by kernel_rfl
 clear hS hs ha hm hb hn hVs hs0 hm1
 go_enter Tryz.func107,Tryz.ntmps107
 go_wp2
 go_loopw [10,11] (fun vi vj wr => ∃ (i j : Nat),vi = .int .i64 (i : Int) ∧ vj = .int .i64 (j : Int) ∧ m ≤ i ∧ i ≤ j ∧ j ≤ b ∧ (∀ t y,m + t < i → V[t]? = some y → y.1 < x.1) ∧ (∀ t y,j ≤ m + t → V[t]? = some y → x.1 ≤ y.1) ∧ SWE w0 g (P ++ [x] ++ V ++ R) wr) (fun vi vj _ => (intOf vj).toNat - (intOf vi).toNat)
 case atStart => exact ⟨m,b,rfl,rfl,Nat.le_refl _,hmb,Nat.le_refl _,(fun t y h _ => absurd h (by omega)),(fun t y h hy => by have:=(List.getElem?_eq_some_iff.1 hy).1; have:=HB.out; have:=HM.out; omega),HS.out⟩
 case round =>
  obtain ⟨i,j,rfl,rfl,hi,hij,hj,h1,h2,d,hd,hw⟩:=hrel
  have H1:=Lh h1
  have H2:=Lh h2
  have HW:=Lh hw
  have HD:=Lh hd
  have HDS : Hid (d.size = d0.size):=Lh (by rw [size_of hd,HN0.out,HNN.out])
  clear h1 h2 hw hd
  by_cases hlt : i < j
  ·obtain ⟨h,hh⟩ : ∃ h,(i + j) / 2 = h:=⟨_,rfl⟩
   have hih : i ≤ h:=by omega
   have hhj : h < j:=by omega
   have hhn : (h : Int) < (n : Int):=by omega
   have han : (a : Int) < (n : Int):=by have:=HM1.out; omega
   have r0 : IntKind.i64.wrap ((i : Int) + (j : Int)) = (i : Int) + (j : Int):=IntWalk.i64_in _ (by omega)
   have r1 : ((i : Int) + (j : Int)) / 2 = (h : Int):=by omega
   clear hh
   obtain ⟨y,hy⟩ : ∃ y,V[h - m]? = some y:=⟨_,List.getElem?_eq_getElem (by have:=HB.out; have:=HM.out; omega)⟩
   have hyy:=HVG.out _ _ hy
   rw [show m + (h - m) = h by omega] at hyy
   have HY:=Lh hy
   have HP1:=Lh (get_at HD.out hyy)
   have HP2:=Lh (get_at HD.out HXG.out)
   obtain ⟨cv,hcv⟩ : ∃ cv,cfE y x = cv:=⟨_,rfl⟩
   have HCV:=Lh hcv
   have HLT : Hid (cv < 0 ↔ y.1 < x.1):=Lh (by rw [← hcv]; exact cfE_lt y x)
   clear hy hyy hcv
   by_cases hc : cv < 0
   ·have HC:=Lh (HLT.out.1 hc)
    go_wp2_with fail
    obtain ⟨S0,hS0⟩ : ∃ S0 : World → Prop,S0 = fun w' => SWK ecell 5 w0 g 0 d w':=⟨_,rfl⟩
    have HSI : Hid (∀ w',SWK ecell 5 w0 g 0 d w' → S0 w'):=Lh fun w' b => by rw [hS0]; exact b
    have HSF : Hid (∀ w',S0 w' → SWK ecell 5 w0 g 0 d w'):=Lh fun w' b => by rw [hS0] at b; exact b
    have s0 : ∀ s : SW S0,s.w.cell? ⟨g,h * 5,none⟩ = some (.bool y.2.2.1):=fun s => (ed_cells ((HSF.out _ s.h).holds hR.hblk hR.hH HDS.out) HP1.out.1 HP1.out.2).1.1
    have s1 : ∀ s : SW S0,s.w.cell? ⟨g,h * 5 + 1,none⟩ = some (.bool y.2.2.2.1):=fun s => (ed_cells ((HSF.out _ s.h).holds hR.hblk hR.hH HDS.out) HP1.out.1 HP1.out.2).1.2.1
    have s2 : ∀ s : SW S0,s.w.cell? ⟨g,h * 5 + 2,none⟩ = some (.string y.2.2.2.2):=fun s => (ed_cells ((HSF.out _ s.h).holds hR.hblk hR.hH HDS.out) HP1.out.1 HP1.out.2).1.2.2.1
    have s2x : ∀ s : SW S0,s.w.cell? ⟨g,h * 5 + 3,none⟩ = some (.int .i64 y.1):=fun s => (ed_cells ((HSF.out _ s.h).holds hR.hblk hR.hH HDS.out) HP1.out.1 HP1.out.2).1.2.2.2.1
    have s2y : ∀ s : SW S0,s.w.cell? ⟨g,h * 5 + 4,none⟩ = some (.int .i64 y.2.1):=fun s => (ed_cells ((HSF.out _ s.h).holds hR.hblk hR.hH HDS.out) HP1.out.1 HP1.out.2).1.2.2.2.2
    have r0 : ∀ s : SW S0,s.w.cell? ⟨g,a * 5,none⟩ = some (.bool x.2.2.1):=fun s => (ed_cells ((HSF.out _ s.h).holds hR.hblk hR.hH HDS.out) HP2.out.1 HP2.out.2).1.1
    have r1 : ∀ s : SW S0,s.w.cell? ⟨g,a * 5 + 1,none⟩ = some (.bool x.2.2.2.1):=fun s => (ed_cells ((HSF.out _ s.h).holds hR.hblk hR.hH HDS.out) HP2.out.1 HP2.out.2).1.2.1
    have r2 : ∀ s : SW S0,s.w.cell? ⟨g,a * 5 + 2,none⟩ = some (.string x.2.2.2.2):=fun s => (ed_cells ((HSF.out _ s.h).holds hR.hblk hR.hH HDS.out) HP2.out.1 HP2.out.2).1.2.2.1
    have r2x : ∀ s : SW S0,s.w.cell? ⟨g,a * 5 + 3,none⟩ = some (.int .i64 x.1):=fun s => (ed_cells ((HSF.out _ s.h).holds hR.hblk hR.hH HDS.out) HP2.out.1 HP2.out.2).1.2.2.2.1
    have r2y : ∀ s : SW S0,s.w.cell? ⟨g,a * 5 + 4,none⟩ = some (.int .i64 x.2.1):=fun s => (ed_cells ((HSF.out _ s.h).holds hR.hblk hR.hH HDS.out) HP2.out.1 HP2.out.2).1.2.2.2.2
    have hS1 : S0 wr.drew:=HSI.out _ HW.out.drew
    have HCM : Hid (CP 35 #[.agg #[.bool y.2.2.1,.bool y.2.2.2.1,.string y.2.2.2.2,.int .i64 y.1,.int .i64 y.2.1],.agg #[.bool x.2.2.1,.bool x.2.2.2.1,.string x.2.2.2.2,.int .i64 x.1,.int .i64 x.2.1]] wr.drew fun e w' => e = .returned (.int .i64 cv) ∧ SWK ecell 5 w0 g 0 d w'):=Lh (by
     have:=cmp_SW HW.out.drew y x
     rw [HCV.out] at this
     exact this)
    clear hS0
    refine regionH_start (by kernel_rfl) 11 rfl S0 10 ?_
    refine wpL_next 0 9 2 (by kernel_rfl) (fun _ _ d _ _ h => by cases d <;> exact h) hS1 (fun hne => ?_)
    simp only [sD,sE,sF,sG]
    repeat (go_big_quiet_step (fail))
    refine wpQuiet_nil ?_
    refine wpL_one (i:=9) (fuel:=1) (by kernel_rfl) rfl (fun KK hKK => ?_)
    go_simp
    refine HCM.out.mono ?_
    rintro e w7 ⟨rfl,h7⟩
    have H7:=Lh h7
    refine hKK _ _ (HSI.out _ h7) ?_
    clear hKK KK h7
    refine wpL_last (fuel:=0) (by kernel_rfl) (by kernel_rfl) rfl (fun KK hKK => ?_)
    go_simp
    refine hKK _ _ ?_
    clear hKK KK s0 s1 s2 s2x s2y r0 r1 r2 r2x r2y hS1
    go_wp2
    go_roundw
    case rel =>
     refine ⟨h + 1,j,by go_num,rfl,by omega,by omega,hj,fun t z ht hz => ?_,H2.out,d,HD.out,H7.out⟩
     have:=srt_get HV.out hz HY.out (by omega)
     have:=HC.out
     omega
    case measure => simp [intOf]; omega
   ·have HC : Hid (¬ y.1 < x.1):=Lh fun e => hc (HLT.out.2 e)
    go_wp2_with fail
    obtain ⟨S0,hS0⟩ : ∃ S0 : World → Prop,S0 = fun w' => SWK ecell 5 w0 g 0 d w':=⟨_,rfl⟩
    have HSI : Hid (∀ w',SWK ecell 5 w0 g 0 d w' → S0 w'):=Lh fun w' b => by rw [hS0]; exact b
    have HSF : Hid (∀ w',S0 w' → SWK ecell 5 w0 g 0 d w'):=Lh fun w' b => by rw [hS0] at b; exact b
    have s0 : ∀ s : SW S0,s.w.cell? ⟨g,h * 5,none⟩ = some (.bool y.2.2.1):=fun s => (ed_cells ((HSF.out _ s.h).holds hR.hblk hR.hH HDS.out) HP1.out.1 HP1.out.2).1.1
    have s1 : ∀ s : SW S0,s.w.cell? ⟨g,h * 5 + 1,none⟩ = some (.bool y.2.2.2.1):=fun s => (ed_cells ((HSF.out _ s.h).holds hR.hblk hR.hH HDS.out) HP1.out.1 HP1.out.2).1.2.1
    have s2 : ∀ s : SW S0,s.w.cell? ⟨g,h * 5 + 2,none⟩ = some (.string y.2.2.2.2):=fun s => (ed_cells ((HSF.out _ s.h).holds hR.hblk hR.hH HDS.out) HP1.out.1 HP1.out.2).1.2.2.1
    have s2x : ∀ s : SW S0,s.w.cell? ⟨g,h * 5 + 3,none⟩ = some (.int .i64 y.1):=fun s => (ed_cells ((HSF.out _ s.h).holds hR.hblk hR.hH HDS.out) HP1.out.1 HP1.out.2).1.2.2.2.1
    have s2y : ∀ s : SW S0,s.w.cell? ⟨g,h * 5 + 4,none⟩ = some (.int .i64 y.2.1):=fun s => (ed_cells ((HSF.out _ s.h).holds hR.hblk hR.hH HDS.out) HP1.out.1 HP1.out.2).1.2.2.2.2
    have r0 : ∀ s : SW S0,s.w.cell? ⟨g,a * 5,none⟩ = some (.bool x.2.2.1):=fun s => (ed_cells ((HSF.out _ s.h).holds hR.hblk hR.hH HDS.out) HP2.out.1 HP2.out.2).1.1
    have r1 : ∀ s : SW S0,s.w.cell? ⟨g,a * 5 + 1,none⟩ = some (.bool x.2.2.2.1):=fun s => (ed_cells ((HSF.out _ s.h).holds hR.hblk hR.hH HDS.out) HP2.out.1 HP2.out.2).1.2.1
    have r2 : ∀ s : SW S0,s.w.cell? ⟨g,a * 5 + 2,none⟩ = some (.string x.2.2.2.2):=fun s => (ed_cells ((HSF.out _ s.h).holds hR.hblk hR.hH HDS.out) HP2.out.1 HP2.out.2).1.2.2.1
    have r2x : ∀ s : SW S0,s.w.cell? ⟨g,a * 5 + 3,none⟩ = some (.int .i64 x.1):=fun s => (ed_cells ((HSF.out _ s.h).holds hR.hblk hR.hH HDS.out) HP2.out.1 HP2.out.2).1.2.2.2.1
    have r2y : ∀ s : SW S0,s.w.cell? ⟨g,a * 5 + 4,none⟩ = some (.int .i64 x.2.1):=fun s => (ed_cells ((HSF.out _ s.h).holds hR.hblk hR.hH HDS.out) HP2.out.1 HP2.out.2).1.2.2.2.2
    have hS1 : S0 wr.drew:=HSI.out _ HW.out.drew
    have HCM : Hid (CP 35 #[.agg #[.bool y.2.2.1,.bool y.2.2.2.1,.string y.2.2.2.2,.int .i64 y.1,.int .i64 y.2.1],.agg #[.bool x.2.2.1,.bool x.2.2.2.1,.string x.2.2.2.2,.int .i64 x.1,.int .i64 x.2.1]] wr.drew fun e w' => e = .returned (.int .i64 cv) ∧ SWK ecell 5 w0 g 0 d w'):=Lh (by
     have:=cmp_SW HW.out.drew y x
     rw [HCV.out] at this
     exact this)
    clear hS0
    refine regionH_start (by kernel_rfl) 11 rfl S0 10 ?_
    refine wpL_next 0 9 2 (by kernel_rfl) (fun _ _ d _ _ h => by cases d <;> exact h) hS1 (fun hne => ?_)
    simp only [sD,sE,sF,sG]
    repeat (go_big_quiet_step (fail))
    refine wpQuiet_nil ?_
    refine wpL_one (i:=9) (fuel:=1) (by kernel_rfl) rfl (fun KK hKK => ?_)
    go_simp
    refine HCM.out.mono ?_
    rintro e w7 ⟨rfl,h7⟩
    have H7:=Lh h7
    refine hKK _ _ (HSI.out _ h7) ?_
    clear hKK KK h7
    refine wpL_last (fuel:=0) (by kernel_rfl) (by kernel_rfl) rfl (fun KK hKK => ?_)
    go_simp
    refine hKK _ _ ?_
    clear hKK KK s0 s1 s2 s2x s2y r0 r1 r2 r2x r2y hS1
    go_wp2
    go_roundw
    case rel =>
     refine ⟨i,h,rfl,rfl,hi,hih,by omega,H1.out,fun t z ht hz => ?_,d,HD.out,H7.out⟩
     have:=srt_get HV.out HY.out hz (by omega)
     have:=HC.out
     omega
    case measure => simp [intOf]; omega
  ·obtain rfl : i = j:=by omega
   have HSP : Hid (∀ V1 V2,V = V1 ++ V2 → V1.length = i - m → Srt (V1 ++ x :: V2) ∧ Fl (V1 ++ x :: V2) ([x] ++ V)):=Lh fun V1 V2 e hl => by
    have hv:=HV.out
    rw [e] at hv
    have c1 : ∀ v ∈ V1,v.1 < x.1:=fun v hv => by
     obtain ⟨t,ht,rfl⟩:=List.mem_iff_getElem.1 hv
     exact H1.out t _ (by omega) (by rw [e,List.getElem?_append_left ht]; exact List.getElem?_eq_getElem ht)
    have c2 : ∀ v ∈ V2,x.1 ≤ v.1:=fun v hv => by
     obtain ⟨t,ht,rfl⟩:=List.mem_iff_getElem.1 hv
     exact H2.out (V1.length + t) _ (by omega) (by rw [e,List.getElem?_append_right (by omega),Nat.add_sub_cancel_left]; exact List.getElem?_eq_getElem ht)
    refine ⟨srt_insert hv (fun v hv => Int.le_of_lt (c1 v hv)) c2,?_⟩
    rw [e]
    have e1 : V1 ++ x :: V2 = V1 ++ [x] ++ V2:=by simp
    have e2 : [x] ++ (V1 ++ V2) = [x] ++ V1 ++ V2:=by simp
    rw [e1,e2]
    refine Fl.right (Fl.swap fun u hu v hv => ?_)
    have:=c1 u hu
    rw [List.mem_singleton.1 hv]
    omega
   go_wp2
   obtain ⟨wa,hwa⟩ : ∃ wa,wa = wr:=⟨_,rfl⟩
   rw [← hwa] at HW ⊢
   clear hwa
   have rq : IntKind.i64.wrap ((i : Int) - 1) = (i : Int) - 1:=IntWalk.i64_in _ (by omega)
   go_loopw [13] (fun vk wq => ∃ (t : Nat),vk = .int .i64 ((a + t : Nat) : Int) ∧ t ≤ i - m ∧ SWE w0 g (P ++ V.take t ++ x :: V.drop t ++ R) wq) (fun vk _ => i - (intOf vk).toNat)
   case atStart => exact ⟨0,rfl,Nat.zero_le _,d,by rw [HD.out]; simp,HW.out⟩
   case round =>
    obtain ⟨t,rfl,ht,dk,hdk,hwk⟩:=hrel
    have HWK:=Lh hwk
    have HDK:=Lh hdk
    clear hwk hdk HW HD HDS d
    obtain ⟨k,hk⟩ : ∃ k,a + t = k:=⟨_,rfl⟩
    rw [hk]
    have HK:=Lh hk
    have HVL : Hid (V.length = b - m):=Lh (by have:=HB.out; have:=HM.out; omega)
    have ham:=HM1.out
    by_cases hlt2 : t < i - m
    ·have HW:=HWK
     obtain ⟨y,hy⟩ : ∃ y,V[t]? = some y:=⟨_,List.getElem?_eq_getElem (by rw [HVL.out]; omega)⟩
     have hdrop : V.drop t = y :: V.drop (t + 1):=by rw [List.drop_eq_getElem_cons (by rw [HVL.out]; omega)]; have:=(List.getElem?_eq_some_iff.1 hy).2; rw [this]
     have htake : V.take (t + 1) = V.take t ++ [y]:=by rw [List.take_succ_eq_append_getElem (by rw [HVL.out]; omega)]; have:=(List.getElem?_eq_some_iff.1 hy).2; rw [this]
     have hlt3 : (V.take t).length = t:=by rw [List.length_take,HVL.out]; omega
     have hd2 : dk.toList = (P ++ V.take t) ++ x :: ([] ++ y :: (V.drop (t + 1) ++ R)):=by rw [HDK.out,hdrop]; simp
     have i1 : k = (P ++ V.take t).length:=by rw [List.length_append,hlt3]; have:=HA.out; omega
     have hds : dk.size = n:=by
      rw [size_of hd2]
      simp only [List.length_append,List.length_cons,List.length_nil,List.length_drop]
      rw [hlt3]
      have:=HN.out
      rw [HVL.out] at *
      omega
     have HDS : Hid (dk.size = d0.size):=Lh (by rw [hds,HNN.out])
     have HP1:=Lh (And.intro (show k < dk.size by omega) (get_mid hd2 i1))
     have HP2:=Lh (And.intro (show k + 1 < dk.size by omega) (get_mid (A:=(P ++ V.take t) ++ [x]) (B:=V.drop (t + 1) ++ R) (x:=y) (i:=k + 1) (by rw [hd2]; simp) (by rw [i1]; simp; omega)))
     have HSW : Hid ((swp dk k (k + 1)).toList = P ++ V.take (t + 1) ++ x :: V.drop (t + 1) ++ R):=Lh (by
      rw [swp_mid hd2 i1 (by rw [← i1]; rfl),htake]
      simp)
     have t1 : (k : Int) < (i : Int) - 1:=by omega
     have p1 : (k : Int) < (n : Int):=by omega
     have p2 : (k : Int) + 1 < (n : Int):=by omega
     have p3 : (0 : Int) ≤ (k : Int) + 1:=by omega
     have p4 : IntKind.i64.wrap ((k : Int) + 1) = (k : Int) + 1:=IntWalk.i64_in _ (by omega)
     have p5 : ((k : Int) + 1).toNat = k + 1:=by omega
     clear hy hdrop htake hlt3 hd2 i1 hds hk
     have S2:=Lh (swapped_end hR HW.out HP1.out.1 HP2.out.1 HP1.out.2 HP2.out.2)
     obtain ⟨⟨c0,c1,c2,c2x,c2y⟩,f0,f1,f2,f2x,f2y⟩:=ed_cells (HW.out.drew.holds hR.hblk hR.hH HDS.out) HP1.out.1 HP1.out.2
     obtain ⟨⟨d0',d1',d2',d2x',d2y'⟩,k0,k1,k2,k2x,k2y⟩:=ed_cells (HW.out.drew.holds hR.hblk hR.hH HDS.out) HP2.out.1 HP2.out.2
     obtain ⟨⟨c3,c4,c5,c5x,c5y⟩,f3,f4,f5,f5x,f5y⟩:=ed_cells (HW.out.holds hR.hblk hR.hH HDS.out) HP1.out.1 HP1.out.2
     obtain ⟨⟨d3',d4',d5',d5x',d5y'⟩,k3,k4,k5,k5x,k5y⟩:=ed_cells (HW.out.holds hR.hblk hR.hH HDS.out) HP2.out.1 HP2.out.2
     obtain ⟨oA,hoA⟩ : ∃ oA,(k) * 5 = oA:=⟨_,rfl⟩
     obtain ⟨oB,hoB⟩ : ∃ oB,(k + 1) * 5 = oB:=⟨_,rfl⟩
     rw [hoA] at c0 c1 c2 c2x c2y c3 c4 c5 c5x c5y f0 f1 f2 f2x f2y f3 f4 f5 f5x f5y S2
     rw [hoB] at d0' d1' d2' d2x' d2y' d3' d4' d5' d5x' d5y' k0 k1 k2 k2x k2y k3 k4 k5 k5x k5y S2
     have hoo : oA + 5 = oB:=by omega
     clear HW
     go_wp2_with fail
     go_big_region_o
     clear c0 c1 c2 c2x c2y c3 c4 c5 c5x c5y f0 f1 f2 f2x f2y f3 f4 f5 f5x f5y d0' d1' d2' d2x' d2y' d3' d4' d5' d5x' d5y' k0 k1 k2 k2x k2y k3 k4 k5 k5x k5y
     go_wp2
     go_roundw
     case rel => exact ⟨t + 1,by have:=HK.out; go_num,by omega,_,HSW.out,S2.out⟩
     case measure => simp [intOf]; omega
    ·obtain rfl : t = i - m:=by omega
     have t1 : ¬ (k : Int) < (i : Int) - 1:=by omega
     clear hk
     go_wp2
     go_end0
     obtain ⟨q1,q2⟩:=HSP.out (V.take (i - m)) (V.drop (i - m)) (List.take_append_drop _ _).symm (by rw [List.length_take,HVL.out]; omega)
     refine ⟨rfl,V.take (i - m) ++ x :: V.drop (i - m),⟨dk,?_,HWK.out⟩,q1,q2⟩
     rw [HDK.out]
     simp
end Go.Proofs.YtkjhlgnpohamnaaGreatDoor.Mk
namespace Go.Proofs.YtkjhlgnpohamnaaGreatDoor.Mk
set_option linter.unusedVariables false
set_option linter.unusedSimpArgs false
open Go.RowKit Go.Lib Go.Sort
set_option maxRecDepth 1000000 in
theorem merge_last (g cap a m b : Nat) (d0 : Array Ed) (w0 w : World) (P U R : List Ed) (y : Ed) (hR : RowK ecell 5 w0 g 0 d0) (n : Nat) (hn : n = d0.size) (hS : SWE w0 g (P ++ U ++ [y] ++ R) w) (hs : (P ++ U ++ [y] ++ R).length = n)
  (ha : a = P.length) (hm : m = P.length + U.length) (hb : b = P.length + U.length + 1) (hU2 : 2 ≤ U.length) (hUs : Srt U) (hsz : n ≤ 100000) :
  CP 107 #[.slice (some ⟨g,0,none⟩) n cap,.int .i64 a,.int .i64 m,.int .i64 b,cmpV] w (MgTo w0 g P U [y] R):=by
 have hs0:=hs
 simp only [List.length_append,List.length_cons,List.length_nil] at hs
 have HS:=Lh hS
 have HN:=Lh hs
 have HN0:=Lh hs0
 have HA:=Lh ha
 have HM:=Lh hm
 have HB:=Lh hb
 have HNN:=Lh hn
 have HV:=Lh hUs
 have hma : ((m : Int) - (a : Int) == 1) = false:=by simp; omega
 have hbm : (b : Int) - (m : Int) = 1:=by omega
 have hwma : IntKind.i64.wrap ((m : Int) - (a : Int)) = (m : Int) - (a : Int):=IntWalk.i64_in _ (by omega)
 have hwbm : IntKind.i64.wrap ((b : Int) - (m : Int)) = 1:=(IntWalk.i64_in _ (by omega)).trans hbm
 have hmn : m < n:=by omega
 have ham : a ≤ m:=by omega
 have HVL : Hid (U.length = m - a):=Lh (by omega)
 have HVG : Hid (∀ t u,U[t]? = some u → (P ++ U ++ [y] ++ R)[a + t]? = some u):=Lh fun t u h => by
  have:=mid_get (P:=P) (R:=[y] ++ R) (m:=a) ha h
  simpa only [List.append_assoc] using this
 have HXG : Hid ((P ++ U ++ [y] ++ R)[m]? = some y):=Lh (by
  have:=mid_get (P:=P ++ U) (U:=[y]) (R:=R) (m:=m) (t:=0) (by simp; omega) rfl
  simpa only [Nat.add_zero] using this)
 have mixed : Tryz.prog.follows .mixedOrders = true:=by kernel_rfl
 clear hS hs ha hm hb hn hUs hs0 hU2
 go_enter Tryz.func107,Tryz.ntmps107
 go_wp2
 go_loopw [14,15] (fun vi vj wr => ∃ (i j : Nat),vi = .int .i64 (i : Int) ∧ vj = .int .i64 (j : Int) ∧ a ≤ i ∧ i ≤ j ∧ j ≤ m ∧ (∀ t u,a + t < i → U[t]? = some u → u.1 ≤ y.1) ∧ (∀ t u,j ≤ a + t → U[t]? = some u → y.1 < u.1) ∧ SWE w0 g (P ++ U ++ [y] ++ R) wr) (fun vi vj _ => (intOf vj).toNat - (intOf vi).toNat)
 case atStart => exact ⟨a,m,rfl,rfl,Nat.le_refl _,ham,Nat.le_refl _,(fun t u h _ => absurd h (by omega)),(fun t u h hy => by have:=(List.getElem?_eq_some_iff.1 hy).1; have:=HVL.out; omega),HS.out⟩
 case round =>
  obtain ⟨i,j,rfl,rfl,hi,hij,hj,h1,h2,d,hd,hw⟩:=hrel
  have H1:=Lh h1
  have H2:=Lh h2
  have HW:=Lh hw
  have HD:=Lh hd
  have HDS : Hid (d.size = d0.size):=Lh (by rw [size_of hd,HN0.out,HNN.out])
  clear h1 h2 hw hd
  by_cases hlt : i < j
  ·obtain ⟨h,hh⟩ : ∃ h,(i + j) / 2 = h:=⟨_,rfl⟩
   have hih : i ≤ h:=by omega
   have hhj : h < j:=by omega
   have hhn : (h : Int) < (n : Int):=by omega
   have hmn' : (m : Int) < (n : Int):=by omega
   have r0 : IntKind.i64.wrap ((i : Int) + (j : Int)) = (i : Int) + (j : Int):=IntWalk.i64_in _ (by omega)
   have r1 : ((i : Int) + (j : Int)) / 2 = (h : Int):=by omega
   clear hh
   obtain ⟨u,hu⟩ : ∃ u,U[h - a]? = some u:=⟨_,List.getElem?_eq_getElem (by have:=HVL.out; omega)⟩
   have huu:=HVG.out _ _ hu
   rw [show a + (h - a) = h by omega] at huu
   have HY:=Lh hu
   have HP1:=Lh (get_at HD.out HXG.out)
   have HP2:=Lh (get_at HD.out huu)
   obtain ⟨cv,hcv⟩ : ∃ cv,cfE y u = cv:=⟨_,rfl⟩
   have HCV:=Lh hcv
   have HLT : Hid (cv < 0 ↔ y.1 < u.1):=Lh (by rw [← hcv]; exact cfE_lt y u)
   clear hu huu hcv
   by_cases hc : cv < 0
   ·have HC:=Lh (HLT.out.1 hc)
    have hdc : decide (cv < 0) = true:=decide_eq_true hc
    have hdn : (!decide (cv < 0)) = false:=by rw [hdc]; rfl
    go_wp2_with fail
    obtain ⟨S0,hS0⟩ : ∃ S0 : World → Prop,S0 = fun w' => SWK ecell 5 w0 g 0 d w':=⟨_,rfl⟩
    have HSI : Hid (∀ w',SWK ecell 5 w0 g 0 d w' → S0 w'):=Lh fun w' b => by rw [hS0]; exact b
    have HSF : Hid (∀ w',S0 w' → SWK ecell 5 w0 g 0 d w'):=Lh fun w' b => by rw [hS0] at b; exact b
    have s0 : ∀ s : SW S0,s.w.cell? ⟨g,m * 5,none⟩ = some (.bool y.2.2.1):=fun s => (ed_cells ((HSF.out _ s.h).holds hR.hblk hR.hH HDS.out) HP1.out.1 HP1.out.2).1.1
    have s1 : ∀ s : SW S0,s.w.cell? ⟨g,m * 5 + 1,none⟩ = some (.bool y.2.2.2.1):=fun s => (ed_cells ((HSF.out _ s.h).holds hR.hblk hR.hH HDS.out) HP1.out.1 HP1.out.2).1.2.1
    have s2 : ∀ s : SW S0,s.w.cell? ⟨g,m * 5 + 2,none⟩ = some (.string y.2.2.2.2):=fun s => (ed_cells ((HSF.out _ s.h).holds hR.hblk hR.hH HDS.out) HP1.out.1 HP1.out.2).1.2.2.1
    have s2x : ∀ s : SW S0,s.w.cell? ⟨g,m * 5 + 3,none⟩ = some (.int .i64 y.1):=fun s => (ed_cells ((HSF.out _ s.h).holds hR.hblk hR.hH HDS.out) HP1.out.1 HP1.out.2).1.2.2.2.1
    have s2y : ∀ s : SW S0,s.w.cell? ⟨g,m * 5 + 4,none⟩ = some (.int .i64 y.2.1):=fun s => (ed_cells ((HSF.out _ s.h).holds hR.hblk hR.hH HDS.out) HP1.out.1 HP1.out.2).1.2.2.2.2
    have r0 : ∀ s : SW S0,s.w.cell? ⟨g,h * 5,none⟩ = some (.bool u.2.2.1):=fun s => (ed_cells ((HSF.out _ s.h).holds hR.hblk hR.hH HDS.out) HP2.out.1 HP2.out.2).1.1
    have r1 : ∀ s : SW S0,s.w.cell? ⟨g,h * 5 + 1,none⟩ = some (.bool u.2.2.2.1):=fun s => (ed_cells ((HSF.out _ s.h).holds hR.hblk hR.hH HDS.out) HP2.out.1 HP2.out.2).1.2.1
    have r2 : ∀ s : SW S0,s.w.cell? ⟨g,h * 5 + 2,none⟩ = some (.string u.2.2.2.2):=fun s => (ed_cells ((HSF.out _ s.h).holds hR.hblk hR.hH HDS.out) HP2.out.1 HP2.out.2).1.2.2.1
    have r2x : ∀ s : SW S0,s.w.cell? ⟨g,h * 5 + 3,none⟩ = some (.int .i64 u.1):=fun s => (ed_cells ((HSF.out _ s.h).holds hR.hblk hR.hH HDS.out) HP2.out.1 HP2.out.2).1.2.2.2.1
    have r2y : ∀ s : SW S0,s.w.cell? ⟨g,h * 5 + 4,none⟩ = some (.int .i64 u.2.1):=fun s => (ed_cells ((HSF.out _ s.h).holds hR.hblk hR.hH HDS.out) HP2.out.1 HP2.out.2).1.2.2.2.2
    have hS1 : S0 wr.drew:=HSI.out _ HW.out.drew
    have HCM : Hid (CP 35 #[.agg #[.bool y.2.2.1,.bool y.2.2.2.1,.string y.2.2.2.2,.int .i64 y.1,.int .i64 y.2.1],.agg #[.bool u.2.2.1,.bool u.2.2.2.1,.string u.2.2.2.2,.int .i64 u.1,.int .i64 u.2.1]] wr.drew fun e w' => e = .returned (.int .i64 cv) ∧ SWK ecell 5 w0 g 0 d w'):=Lh (by
     have:=cmp_SW HW.out.drew y u
     rw [HCV.out] at this
     exact this)
    clear hS0
    refine regionH_start (by kernel_rfl) 12 rfl S0 11 ?_
    refine wpL_next 0 9 3 (by kernel_rfl) (fun _ _ d _ _ h => by cases d <;> exact h) hS1 (fun hne => ?_)
    simp only [sD,sE,sF,sG]
    repeat (go_big_quiet_step (fail))
    refine wpQuiet_nil ?_
    refine wpL_one (i:=9) (fuel:=2) (by kernel_rfl) rfl (fun KK hKK => ?_)
    go_simp
    refine HCM.out.mono ?_
    rintro e w7 ⟨rfl,h7⟩
    have H7:=Lh h7
    refine hKK _ _ (HSI.out _ h7) ?_
    clear hKK KK h7
    refine wpL_next 10 1 1 (by kernel_rfl) (fun _ _ d _ _ h => by cases d <;> exact h) (HSI.out _ H7.out) (fun hne => ?_)
    simp only [sD,sE,sF,sG]
    repeat (go_big_quiet_step (fail))
    refine wpQuiet_nil ?_
    refine wpL_last (fuel:=0) (by kernel_rfl) (by kernel_rfl) rfl (fun KK hKK => ?_)
    go_simp
    refine hKK _ _ ?_
    clear hKK KK s0 s1 s2 s2x s2y r0 r1 r2 r2x r2y hS1
    go_wp2
    go_roundw
    case rel =>
     refine ⟨i,h,rfl,rfl,hi,hih,by omega,H1.out,fun t z ht hz => ?_,d,HD.out,H7.out⟩
     have:=srt_get HV.out HY.out hz (by omega)
     have:=HC.out
     omega
    case measure => simp [intOf]; omega
   ·have HC : Hid (¬ y.1 < u.1):=Lh fun e => hc (HLT.out.2 e)
    have hdc : decide (cv < 0) = false:=decide_eq_false hc
    have hdn : (!decide (cv < 0)) = true:=by rw [hdc]; rfl
    go_wp2_with fail
    obtain ⟨S0,hS0⟩ : ∃ S0 : World → Prop,S0 = fun w' => SWK ecell 5 w0 g 0 d w':=⟨_,rfl⟩
    have HSI : Hid (∀ w',SWK ecell 5 w0 g 0 d w' → S0 w'):=Lh fun w' b => by rw [hS0]; exact b
    have HSF : Hid (∀ w',S0 w' → SWK ecell 5 w0 g 0 d w'):=Lh fun w' b => by rw [hS0] at b; exact b
    have s0 : ∀ s : SW S0,s.w.cell? ⟨g,m * 5,none⟩ = some (.bool y.2.2.1):=fun s => (ed_cells ((HSF.out _ s.h).holds hR.hblk hR.hH HDS.out) HP1.out.1 HP1.out.2).1.1
    have s1 : ∀ s : SW S0,s.w.cell? ⟨g,m * 5 + 1,none⟩ = some (.bool y.2.2.2.1):=fun s => (ed_cells ((HSF.out _ s.h).holds hR.hblk hR.hH HDS.out) HP1.out.1 HP1.out.2).1.2.1
    have s2 : ∀ s : SW S0,s.w.cell? ⟨g,m * 5 + 2,none⟩ = some (.string y.2.2.2.2):=fun s => (ed_cells ((HSF.out _ s.h).holds hR.hblk hR.hH HDS.out) HP1.out.1 HP1.out.2).1.2.2.1
    have s2x : ∀ s : SW S0,s.w.cell? ⟨g,m * 5 + 3,none⟩ = some (.int .i64 y.1):=fun s => (ed_cells ((HSF.out _ s.h).holds hR.hblk hR.hH HDS.out) HP1.out.1 HP1.out.2).1.2.2.2.1
    have s2y : ∀ s : SW S0,s.w.cell? ⟨g,m * 5 + 4,none⟩ = some (.int .i64 y.2.1):=fun s => (ed_cells ((HSF.out _ s.h).holds hR.hblk hR.hH HDS.out) HP1.out.1 HP1.out.2).1.2.2.2.2
    have r0 : ∀ s : SW S0,s.w.cell? ⟨g,h * 5,none⟩ = some (.bool u.2.2.1):=fun s => (ed_cells ((HSF.out _ s.h).holds hR.hblk hR.hH HDS.out) HP2.out.1 HP2.out.2).1.1
    have r1 : ∀ s : SW S0,s.w.cell? ⟨g,h * 5 + 1,none⟩ = some (.bool u.2.2.2.1):=fun s => (ed_cells ((HSF.out _ s.h).holds hR.hblk hR.hH HDS.out) HP2.out.1 HP2.out.2).1.2.1
    have r2 : ∀ s : SW S0,s.w.cell? ⟨g,h * 5 + 2,none⟩ = some (.string u.2.2.2.2):=fun s => (ed_cells ((HSF.out _ s.h).holds hR.hblk hR.hH HDS.out) HP2.out.1 HP2.out.2).1.2.2.1
    have r2x : ∀ s : SW S0,s.w.cell? ⟨g,h * 5 + 3,none⟩ = some (.int .i64 u.1):=fun s => (ed_cells ((HSF.out _ s.h).holds hR.hblk hR.hH HDS.out) HP2.out.1 HP2.out.2).1.2.2.2.1
    have r2y : ∀ s : SW S0,s.w.cell? ⟨g,h * 5 + 4,none⟩ = some (.int .i64 u.2.1):=fun s => (ed_cells ((HSF.out _ s.h).holds hR.hblk hR.hH HDS.out) HP2.out.1 HP2.out.2).1.2.2.2.2
    have hS1 : S0 wr.drew:=HSI.out _ HW.out.drew
    have HCM : Hid (CP 35 #[.agg #[.bool y.2.2.1,.bool y.2.2.2.1,.string y.2.2.2.2,.int .i64 y.1,.int .i64 y.2.1],.agg #[.bool u.2.2.1,.bool u.2.2.2.1,.string u.2.2.2.2,.int .i64 u.1,.int .i64 u.2.1]] wr.drew fun e w' => e = .returned (.int .i64 cv) ∧ SWK ecell 5 w0 g 0 d w'):=Lh (by
     have:=cmp_SW HW.out.drew y u
     rw [HCV.out] at this
     exact this)
    clear hS0
    refine regionH_start (by kernel_rfl) 12 rfl S0 11 ?_
    refine wpL_next 0 9 3 (by kernel_rfl) (fun _ _ d _ _ h => by cases d <;> exact h) hS1 (fun hne => ?_)
    simp only [sD,sE,sF,sG]
    repeat (go_big_quiet_step (fail))
    refine wpQuiet_nil ?_
    refine wpL_one (i:=9) (fuel:=2) (by kernel_rfl) rfl (fun KK hKK => ?_)
    go_simp
    refine HCM.out.mono ?_
    rintro e w7 ⟨rfl,h7⟩
    have H7:=Lh h7
    refine hKK _ _ (HSI.out _ h7) ?_
    clear hKK KK h7
    refine wpL_next 10 1 1 (by kernel_rfl) (fun _ _ d _ _ h => by cases d <;> exact h) (HSI.out _ H7.out) (fun hne => ?_)
    simp only [sD,sE,sF,sG]
    repeat (go_big_quiet_step (fail))
    refine wpQuiet_nil ?_
    refine wpL_last (fuel:=0) (by kernel_rfl) (by kernel_rfl) rfl (fun KK hKK => ?_)
    go_simp
    refine hKK _ _ ?_
    clear hKK KK s0 s1 s2 s2x s2y r0 r1 r2 r2x r2y hS1
    go_wp2
    go_roundw
    case rel =>
     refine ⟨h + 1,j,by go_num,rfl,by omega,by omega,hj,fun t z ht hz => ?_,H2.out,d,HD.out,H7.out⟩
     have:=srt_get HV.out hz HY.out (by omega)
     have:=HC.out
     omega
    case measure => simp [intOf]; omega
  ·obtain rfl : i = j:=by omega
   have HSP : Hid (∀ V1 V2,U = V1 ++ V2 → V1.length = i - a → Srt (V1 ++ y :: V2) ∧ Fl (V1 ++ y :: V2) (U ++ [y])):=Lh fun V1 V2 e hl => by
    have hv:=HV.out
    rw [e] at hv
    have c1 : ∀ v ∈ V1,v.1 ≤ y.1:=fun v hv => by
     obtain ⟨t,ht,rfl⟩:=List.mem_iff_getElem.1 hv
     exact H1.out t _ (by omega) (by rw [e,List.getElem?_append_left ht]; exact List.getElem?_eq_getElem ht)
    have c2 : ∀ v ∈ V2,y.1 < v.1:=fun v hv => by
     obtain ⟨t,ht,rfl⟩:=List.mem_iff_getElem.1 hv
     exact H2.out (V1.length + t) _ (by omega) (by rw [e,List.getElem?_append_right (by omega),Nat.add_sub_cancel_left]; exact List.getElem?_eq_getElem ht)
    refine ⟨srt_insert hv c1 (fun v hv => Int.le_of_lt (c2 v hv)),?_⟩
    rw [e]
    have e1 : V1 ++ y :: V2 = V1 ++ ([y] ++ V2):=by simp
    have e2 : V1 ++ V2 ++ [y] = V1 ++ (V2 ++ [y]):=by simp
    rw [e1,e2]
    refine Fl.left (Fl.swap fun u hu v hv => ?_)
    have:=c2 v hv
    rw [List.mem_singleton.1 hu]
    omega
   go_wp2
   obtain ⟨wa,hwa⟩ : ∃ wa,wa = wr:=⟨_,rfl⟩
   rw [← hwa] at HW ⊢
   clear hwa
   go_loopw [17] (fun vk wq => ∃ (t : Nat),vk = .int .i64 ((a + t : Nat) : Int) ∧ i - a ≤ t ∧ t ≤ m - a ∧ SWE w0 g (P ++ U.take t ++ y :: U.drop t ++ R) wq) (fun vk _ => (intOf vk).toNat)
   case atStart => exact ⟨m - a,by rw [show a + (m - a) = m by omega],by omega,Nat.le_refl _,d,by rw [HD.out,List.take_of_length_le (by rw [HVL.out]; exact Nat.le_refl _),List.drop_eq_nil_iff.2 (by rw [HVL.out]; exact Nat.le_refl _)],HW.out⟩
   case round =>
    obtain ⟨t,rfl,ht0,ht,dk,hdk,hwk⟩:=hrel
    have HWK:=Lh hwk
    have HDK:=Lh hdk
    clear hwk hdk HW HD HDS d
    obtain ⟨k,hk⟩ : ∃ k,a + t = k:=⟨_,rfl⟩
    rw [hk]
    have HK:=Lh hk
    by_cases hlt2 : i - a < t
    ·have HW:=HWK
     obtain ⟨s,rfl⟩ : ∃ s,t = s + 1:=⟨t - 1,by omega⟩
     obtain ⟨u,hu⟩ : ∃ u,U[s]? = some u:=⟨_,List.getElem?_eq_getElem (by rw [HVL.out]; omega)⟩
     have hdrop : U.drop s = u :: U.drop (s + 1):=by rw [List.drop_eq_getElem_cons (by rw [HVL.out]; omega)]; have:=(List.getElem?_eq_some_iff.1 hu).2; rw [this]
     have htake : U.take (s + 1) = U.take s ++ [u]:=by rw [List.take_succ_eq_append_getElem (by rw [HVL.out]; omega)]; have:=(List.getElem?_eq_some_iff.1 hu).2; rw [this]
     have hlt3 : (U.take s).length = s:=by rw [List.length_take,HVL.out]; omega
     obtain ⟨q,hq⟩ : ∃ q,a + s = q:=⟨_,rfl⟩
     have hkq : k = q + 1:=by omega
     have hd2 : dk.toList = (P ++ U.take s) ++ u :: ([] ++ y :: (U.drop (s + 1) ++ R)):=by rw [HDK.out,htake]; simp
     have i1 : q = (P ++ U.take s).length:=by rw [List.length_append,hlt3]; have:=HA.out; omega
     have hds : dk.size = n:=by
      rw [size_of hd2]
      simp only [List.length_append,List.length_cons,List.length_nil,List.length_drop]
      rw [hlt3]
      have h1:=HN.out
      have h2:=HVL.out
      omega
     have HDS : Hid (dk.size = d0.size):=Lh (by rw [hds,HNN.out])
     have HP1:=Lh (And.intro (show k < dk.size by omega) (get_mid (A:=(P ++ U.take s) ++ [u]) (B:=U.drop (s + 1) ++ R) (x:=y) (i:=k) (by rw [hd2]; simp) (by rw [hkq,i1]; simp; omega)))
     have HP2:=Lh (And.intro (show q < dk.size by omega) (get_mid hd2 i1))
     have HSW : Hid ((swp dk k q).toList = P ++ U.take s ++ y :: U.drop s ++ R):=Lh (by
      rw [swp_mid' hd2 i1 (by rw [← i1,hkq]; rfl),hdrop]
      simp)
     have t1 : (i : Int) < (k : Int):=by omega
     have p1 : (k : Int) < (n : Int):=by omega
     have p2 : (q : Int) < (n : Int):=by omega
     have p3 : (0 : Int) ≤ (q : Int):=by omega
     have p4 : IntKind.i64.wrap ((k : Int) - 1) = (q : Int):=(IntWalk.i64_in _ (by omega)).trans (by omega)
     have p5 : (k : Int) - 1 = (q : Int):=by omega
     have HQ:=Lh hq
     have HKQ:=Lh hkq
     have S2:=Lh (swapped_end hR HW.out HP1.out.1 HP2.out.1 HP1.out.2 HP2.out.2)
     obtain ⟨⟨c0,c1,c2,c2x,c2y⟩,f0,f1,f2,f2x,f2y⟩:=ed_cells (HW.out.drew.holds hR.hblk hR.hH HDS.out) HP1.out.1 HP1.out.2
     obtain ⟨⟨d0',d1',d2',d2x',d2y'⟩,k0,k1,k2,k2x,k2y⟩:=ed_cells (HW.out.drew.holds hR.hblk hR.hH HDS.out) HP2.out.1 HP2.out.2
     obtain ⟨⟨c3,c4,c5,c5x,c5y⟩,f3,f4,f5,f5x,f5y⟩:=ed_cells (HW.out.holds hR.hblk hR.hH HDS.out) HP1.out.1 HP1.out.2
     obtain ⟨⟨d3',d4',d5',d5x',d5y'⟩,k3,k4,k5,k5x,k5y⟩:=ed_cells (HW.out.holds hR.hblk hR.hH HDS.out) HP2.out.1 HP2.out.2
     obtain ⟨oA,hoA⟩ : ∃ oA,(k) * 5 = oA:=⟨_,rfl⟩
     obtain ⟨oB,hoB⟩ : ∃ oB,(q) * 5 = oB:=⟨_,rfl⟩
     rw [hoA] at c0 c1 c2 c2x c2y c3 c4 c5 c5x c5y f0 f1 f2 f2x f2y f3 f4 f5 f5x f5y S2
     rw [hoB] at d0' d1' d2' d2x' d2y' d3' d4' d5' d5x' d5y' k0 k1 k2 k2x k2y k3 k4 k5 k5x k5y S2
     have hoo : oB + 5 = oA:=by omega
     clear hu hdrop htake hlt3 hd2 i1 hds hk hq hkq
     clear HW
     go_wp2_with fail
     go_big_region_o
     clear c0 c1 c2 c2x c2y c3 c4 c5 c5x c5y f0 f1 f2 f2x f2y f3 f4 f5 f5x f5y d0' d1' d2' d2x' d2y' d3' d4' d5' d5x' d5y' k0 k1 k2 k2x k2y k3 k4 k5 k5x k5y
     go_wp2
     go_roundw
     case rel => exact ⟨s,by rw [HQ.out],by omega,by omega,_,HSW.out,S2.out⟩
     case measure => simp [intOf]; have:=HKQ.out; omega
    ·obtain rfl : t = i - a:=by omega
     have t1 : ¬ (i : Int) < (k : Int):=by omega
     clear hk
     go_wp2
     go_end0
     obtain ⟨q1,q2⟩:=HSP.out (U.take (i - a)) (U.drop (i - a)) (List.take_append_drop _ _).symm (by rw [List.length_take,HVL.out]; omega)
     refine ⟨rfl,U.take (i - a) ++ y :: U.drop (i - a),⟨dk,?_,HWK.out⟩,q1,q2⟩
     rw [HDK.out]
     simp
end Go.Proofs.YtkjhlgnpohamnaaGreatDoor.Mk
