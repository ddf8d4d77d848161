import Derived.Test.YtkjhlgnpohamnaaGreatDoorSq
import Derived.Test.YtkjhlgnpohamnaaGreatDoorFiU
namespace Go.Proofs.YtkjhlgnpohamnaaGreatDoor
set_option linter.unusedVariables false
set_option linter.unusedSimpArgs false
open Go.RowKit
theorem str_btsF (s : ByteArray) : strOfNums (bts s) = s:=by
 apply ByteArray.ext
 apply Array.ext'
 rw [strOfNums_data]
 unfold bts
 rw [List.map_map]
 refine (List.map_congr_left fun b _ => ?_).trans (List.map_id _)
 simp
theorem ext_seg {xs : List Int} (h : Byt8 xs) {F G : Nat} (hFG : F ≤ G) : strOfNums ((xs.drop F).take (G - F)) = (strOfNums xs).extract F G:=by
 have h1 : bts ((strOfNums xs).extract F G) = ((bts (strOfNums xs)).take G).drop F:=ext_bts _ _ _
 rw [bts_str h,List.drop_take] at h1
 rw [← h1,str_btsF]
theorem lmr_len : ∀ (n : Nat) (l : List St),cts l ≤ n → (lmr l).length ≤ cts l:=by
 intro n
 induction n with
 | zero =>
  intro l h
  cases l with
  | nil => exact Nat.le_refl _
  | cons x l => rw [cts_cons,St.ct_eq] at h; omega
 | succ n ih =>
  intro l h
  cases l with
  | nil => exact Nat.le_refl _
  | cons x l =>
   rw [cts_cons,St.ct_eq] at h ⊢
   have h1:=ih l (by omega)
   have h2:=ih x.l (by omega)
   have h3:=ih x.r (by omega)
   rw [lmr_cons,St.mr_eq,List.length_append,List.length_append,List.length_append]
   have h4 : (if x.k = 0 then [x.an] else ([] : List An)).length ≤ 1:=by split <;> simp
   omega
theorem lmr_take {l : List St} {k : Nat} {x : St} (h : l[k]? = some x) : lmr (l.take (k + 1)) = lmr (l.take k) ++ x.mr:=by
 rw [List.take_add_one,h,lmr_app]
 simp [lmr]
theorem cts_mem {l : List St} {x : St} (h : x ∈ l) : cts x.l + cts x.r + 1 ≤ cts l:=by
 induction l with
 | nil => cases h
 | cons y l ih =>
  rw [cts_cons,St.ct_eq]
  rcases List.mem_cons.1 h with rfl | h
  ·omega
  ·have:=ih h; omega
theorem cts_takeL (l : List St) (k : Nat) : cts (l.take k) ≤ cts l:=by
 have:=cts_app (l.take k) (l.drop k)
 rw [List.take_append_drop] at this
 omega
theorem cts_len (l : List St) : l.length ≤ cts l:=by
 induction l with
 | nil => exact Nat.le_refl _
 | cons x l ih => rw [cts_cons,St.ct_eq,List.length_cons]; omega
theorem rg_sub {w : World} {b o : Nat} {cs us : List Value} (h : w.rangeAt b o cs) (d : Nat) (he : us = (cs.drop d).take us.length) : w.rangeAt b (o + d) us:=fun j v hv => by
 have hj:=(List.getElem?_eq_some_iff.1 hv).1
 have hk : us[j]? = ((cs.drop d).take us.length)[j]?:=by rw [← he]
 rw [List.getElem?_take,if_pos hj,List.getElem?_drop] at hk
 have:=h (d + j) v (by rw [← hk]; exact hv)
 rwa [← Nat.add_assoc] at this
def RlTo (l : List St) (w : World) (e : Ending) (w' : World) : Prop:=∃ v,e = .returned v ∧ Own w' w.heap.size 36 5 v (lmr l).length (ans (lmr l)) ∧ Below w.heap.size w w'
set_option maxRecDepth 100000 in
set_option maxHeartbeats 6400000 in
theorem rlets_any (N : Nat) : ∀ (l : List St),cts l = N → N ≤ 2000000 → ∀ (lv : Value) (w : World) (S : Nat → Prop),ShS w S lv l → CP 37 #[lv] w (RlTo l w):=by
 induction N using Nat.strongRecOn with
 | _ N ih =>
  intro l hl hN lv w S h
  obtain ⟨A0,c0,rfl,hc0⟩:=h.len
  obtain ⟨n,hn⟩ : ∃ n,l.length = n:=⟨_,rfl⟩
  have hn2 : n ≤ 2000000:=by have:=cts_len l; omega
  rw [hn] at h hc0
  rw [hn]
  have HIH : Hid (∀ l',cts l' < N → ∀ lv' W S',ShS W S' lv' l' → CP 37 #[lv'] W (RlTo l' W)):=Lh fun l' h' lv' W S' hs => ih (cts l') h' l' rfl (by omega) lv' W S' hs
  have HSH:=Lh h
  have HL:=Lh hl
  have HN:=Lh hn
  have HNN:=Lh hN
  unfold RlTo
  clear h hl ih hn hN
  go_enter Tryz.func37,Tryz.ntmps37
  go_wp2
  go_loopw [3,4] (fun lv iv wr => ∃ k : Nat,iv = .int .i64 (k : Int) ∧ k ≤ n ∧ Own wr w.heap.size 36 5 lv (lmr (l.take k)).length (ans (lmr (l.take k))) ∧ Below w.heap.size w wr) (fun _ iv _ => n - (intOf iv).toNat)
  case atStart => exact ⟨0,rfl,Nat.zero_le _,Own.nil _ _ _ _ nLe,Below.refl _ _⟩
  case round =>
   obtain ⟨k,rfl,hk,hO,hb⟩:=hrel
   by_cases hlt : k < n
   ·obtain ⟨b,off,x,v,hA,hx,_,hrg,htr,hSb,hbl⟩:=HSH.out.at hlt
    subst hA
    obtain ⟨ve,vl,vr⟩:=v
    obtain ⟨Al,cl,hvl,_⟩:=htr.l.len
    obtain ⟨Ar,cr,hvr,_⟩:=htr.r.len
    dsimp only at hvl hvr
    subst hvl hvr
    have hcm:=cts_mem (List.mem_of_getElem? hx)
    have hcl : cts x.l < N:=by rw [← HL.out]; omega
    have hcr : cts x.r < N:=by rw [← HL.out]; omega
    have HTL:=Lh htr.l
    have HTR:=Lh htr.r
    have HIL : Hid (∀ W,Below w.heap.size w W → CP 37 #[.slice Al x.l.length cl] W (RlTo x.l W)):=Lh fun W hW => HIH.out x.l hcl _ W S (HTL.out.under hW)
    have HIR : Hid (∀ W,Below w.heap.size w W → CP 37 #[.slice Ar x.r.length cr] W (RlTo x.r W)):=Lh fun W hW => HIH.out x.r hcr _ W S (HTR.out.under hW)
    have HCELL : Hid (∀ W,Below w.heap.size w W → W.cell? ⟨b,off + k * 17,none⟩ = some (.int .i64 x.k) ∧ W.rangeAt b (off + k * 17 + 4) (anC x.an) ∧ W.cell? ⟨b,off + k * 17 + 15,none⟩ = some (.slice Al x.l.length cl) ∧ W.cell? ⟨b,off + k * 17 + 16,none⟩ = some (.slice Ar x.r.length cr)):=Lh fun W hW => by
     have hb':=hW.block b hbl
     have hr' : W.rangeAt b (off + k * 17) (stC x ⟨ve,.slice Al x.l.length cl,.slice Ar x.r.length cr⟩):=fun j u hu => (World.cell?_of_block (a:=⟨b,_,none⟩) hb').trans (hrg j u hu)
     exact ⟨hr' 0 _ rfl,rg_sub hr' 4 rfl,hr' 15 _ rfl,hr' 16 _ rfl⟩
    obtain ⟨O,hO2⟩ : ∃ O,lmr (l.take k) = O:=⟨_,rfl⟩
    rw [hO2] at hO
    have hst:=lmr_take hx
    rw [hO2,St.mr_eq] at hst
    have hbd : O.length + (if x.k = 0 then [x.an] else ([] : List An)).length + (lmr x.l).length + (lmr x.r).length ≤ 2000000:=by
     have h1:=lmr_len _ (l.take (k + 1)) nLe
     have h2:=cts_takeL l (k + 1)
     rw [hst,List.length_append,List.length_append,List.length_append] at h1
     have:=HL.out; have:=HNN.out
     omega
    have hin : (k : Int) < (n : Int):=by omega
    have hc0' : (n : Int) ≤ (c0 : Int):=by omega
    have HO:=Lh hO
    have HB:=Lh hb
    have HST:=Lh hst
    obtain ⟨k0,kr,k15,k16⟩:=HCELL.out _ hb
    clear hO hb hst hO2 hx hrg htr hcm hcl hcr
    unfold RlTo at HIL HIR
    have hsw:=HB.out.size
    by_cases hk0 : x.k = 0
    ·have f0 : (x.k == 0) = true:=by simp [hk0]
     have f1 : decide (x.k = 0) = true:=decide_eq_true hk0
     rw [if_pos hk0] at HST hbd
     have hbd' : O.length + 1 + (lmr x.l).length + (lmr x.r).length ≤ 2000000:=hbd
     clear hbd
     go_wp2_with (first
      | (refine wpList_ldV rfl 36 _ rfl b (off + k * 17 + 4) rfl (anC x.an) kr Tryz.underlying36 rfl info_an ?_)
      | (refine wpList_build1 rfl 33 36 _ rfl (anC x.an) rfl (by simp [anC]) (by simp [anC]) Tryz.underlying33 info_an (by kernel_rfl) ?_; have HB:=Lh (HB.out.alloc (by omega) (.cells (anC x.an).toArray 36)))
      | (refine wpList_push_b rfl _ _ 33 rfl rowAn wr w.heap.size u3 O.length (ans O) (anC x.an) rfl HO.out rfl rfl rfl (anC_one _) (by omega) (by omega) ?_; intro v6 w6 ho6 hg6 hv6; have HB:=Lh (HB.out.grown hg6 (by rw [size_al]; omega) (fun k hk => (HO.out.1.lt k hk).1)); have HO:=Lh ho6; have hsw6:=HB.out.size; clear ho6 hg6 hv6 k0 kr k15 k16; obtain ⟨k0,kr,k15,k16⟩:=HCELL.out _ HB.out)
      | (go_at_call 37; (with_reducible refine (HIL.out _ HB.out).mono ?_); rintro e w7 ⟨lu,rfl,hlo,hlb⟩; have HO:=Lh (HO.out.turn (Tn.of_below (fun _ => False) hlb) (fun _ _ h => h)); have HB:=Lh (bTr HB hlb); have HLU:=Lh (ShV.of_own (S:=fun _ => True) hlo (fun _ _ _ _ => trivial)); have hsw7:=HB.out.size; clear hlo hlb; dsimp only)
      | (refine wpList_push_v rfl _ _ 33 rfl rowAn w7 w.heap.size v6 (O.length + 1) _ (ans (lmr x.l)) rfl HO.out (m:=(lmr x.l).length) rfl HLU.out (ans_len _) (ans_one _) (by omega) (by omega) ?_; intro v8 w8 ho9 hg9 hv9; have HB:=Lh (HB.out.grown hg9 (by omega) (fun k hk => (HO.out.1.lt k hk).1)); have HO:=Lh ho9; clear ho9 hg9 hv9 k0 kr k15 k16; obtain ⟨k0,kr,k15,k16⟩:=HCELL.out _ HB.out; have hsw8:=HB.out.size)
      | (go_at_call 37; (with_reducible refine (HIR.out _ HB.out).mono ?_); rintro e w9 ⟨lu,rfl,hlo,hlb⟩; have HO:=Lh (HO.out.turn (Tn.of_below (fun _ => False) hlb) (fun _ _ h => h)); have HB:=Lh (bTr HB hlb); have HRU:=Lh (ShV.of_own (S:=fun _ => True) hlo (fun _ _ _ _ => trivial)); have hsw9:=HB.out.size; clear hlo hlb; dsimp only)
      | (refine wpList_push_v rfl _ _ 33 rfl rowAn w9 w.heap.size v8 (O.length + 1 + (lmr x.l).length) _ (ans (lmr x.r)) rfl HO.out (m:=(lmr x.r).length) rfl HRU.out (ans_len _) (ans_one _) (by omega) (by omega) ?_; intro v10 w10 ho9 hg9 hv9; have HB:=Lh (HB.out.grown hg9 (by omega) (fun k hk => (HO.out.1.lt k hk).1)); have HO:=Lh ho9; clear ho9 hg9 hv9 k0 kr k15 k16; obtain ⟨k0,kr,k15,k16⟩:=HCELL.out _ HB.out)
      | fail)
     go_roundw
     case rel => exact ⟨k + 1,by go_num,hlt,HO.out.cast (by rw [HST.out]; simp; omega) (by rw [HST.out]; simp [ans]),HB.out⟩
     case measure => simp [intOf]; omega
    ·have f0 : (x.k == 0) = false:=by simp [hk0]
     have f1 : decide (x.k = 0) = false:=decide_eq_false hk0
     rw [if_neg hk0] at HST hbd
     have hbd' : O.length + (lmr x.l).length + (lmr x.r).length ≤ 2000000:=hbd
     clear hbd
     go_wp2_with (first
      | (go_at_call 37; (with_reducible refine (HIL.out _ HB.out).mono ?_); rintro e w7 ⟨lu,rfl,hlo,hlb⟩; have HO:=Lh (HO.out.turn (Tn.of_below (fun _ => False) hlb) (fun _ _ h => h)); have HB:=Lh (bTr HB hlb); have HLU:=Lh (ShV.of_own (S:=fun _ => True) hlo (fun _ _ _ _ => trivial)); have hsw7:=HB.out.size; clear hlo hlb; dsimp only)
      | (refine wpList_push_v rfl _ _ 33 rfl rowAn w7 w.heap.size u3 O.length _ (ans (lmr x.l)) rfl HO.out (m:=(lmr x.l).length) rfl HLU.out (ans_len _) (ans_one _) (by omega) (by omega) ?_; intro v8 w8 ho9 hg9 hv9; have HB:=Lh (HB.out.grown hg9 (by omega) (fun k hk => (HO.out.1.lt k hk).1)); have HO:=Lh ho9; clear ho9 hg9 hv9 k0 kr k15 k16; obtain ⟨k0,kr,k15,k16⟩:=HCELL.out _ HB.out; have hsw8:=HB.out.size)
      | (go_at_call 37; (with_reducible refine (HIR.out _ HB.out).mono ?_); rintro e w9 ⟨lu,rfl,hlo,hlb⟩; have HO:=Lh (HO.out.turn (Tn.of_below (fun _ => False) hlb) (fun _ _ h => h)); have HB:=Lh (bTr HB hlb); have HRU:=Lh (ShV.of_own (S:=fun _ => True) hlo (fun _ _ _ _ => trivial)); have hsw9:=HB.out.size; clear hlo hlb; dsimp only)
      | (refine wpList_push_v rfl _ _ 33 rfl rowAn w9 w.heap.size v8 (O.length + (lmr x.l).length) _ (ans (lmr x.r)) rfl HO.out (m:=(lmr x.r).length) rfl HRU.out (ans_len _) (ans_one _) (by omega) (by omega) ?_; intro v10 w10 ho9 hg9 hv9; have HB:=Lh (HB.out.grown hg9 (by omega) (fun k hk => (HO.out.1.lt k hk).1)); have HO:=Lh ho9; clear ho9 hg9 hv9 k0 kr k15 k16; obtain ⟨k0,kr,k15,k16⟩:=HCELL.out _ HB.out)
      | fail)
     go_roundw
     case rel => exact ⟨k + 1,by go_num,hlt,HO.out.cast (by rw [HST.out]; simp; omega) (by rw [HST.out]; simp [ans]),HB.out⟩
     case measure => simp [intOf]; omega
   ·obtain rfl : k = n:=by omega
    rw [List.take_of_length_le (by rw [HN.out]; exact Nat.le_refl _)] at hO
    have HO:=Lh hO
    have HB:=Lh hb
    clear hO hb
    go_wp2
    go_ret
    exact ⟨_,rfl,HO.out,HB.out⟩
theorem ShV.more {w : World} {S : Nat → Prop} {A : Option Addr} {n c : Nat} {cs : List Value} (h : ShV w S (.slice A n c) n cs) : n ≤ c:=by
 obtain ⟨A',c',e,h1,_⟩:=h
 injection e with _ _ e
 omega
theorem ans_take (l : List An) (k : Nat) : (ans l).take (k * 5) = ans (l.take k):=by
 induction l generalizing k with
 | nil => simp [ans]
 | cons x l ih =>
  cases k with
  | zero => simp [ans]
  | succ k =>
   show ((anC x) ++ ans l).take ((k + 1) * 5) = anC x ++ ans (l.take k)
   rw [List.take_append,← ih k,show (k + 1) * 5 - (anC x).length = k * 5 by simp [anC]; omega,List.take_of_length_le (by simp [anC]; omega)]
theorem ans_drop (l : List An) (k : Nat) : (ans l).drop (k * 5) = ans (l.drop k):=by
 induction l generalizing k with
 | nil => simp [ans]
 | cons x l ih =>
  cases k with
  | zero => simp [ans]
  | succ k =>
   show ((anC x) ++ ans l).drop ((k + 1) * 5) = ans (l.drop k)
   rw [List.drop_append,← ih k,show (k + 1) * 5 - (anC x).length = k * 5 by simp [anC]; omega,List.drop_of_length_le (by simp [anC]; omega)]
   rfl
theorem srt_low {O : List An} {k : Nat} {x : An} (hs : SrtA O) (hk : k ≤ O.length) (h : ∀ y,0 < k → O[k - 1]? = some y → y.fr ≤ x.fr) : ∀ y ∈ O.take k,y.fr ≤ x.fr:=fun y hy => by
 rcases Nat.eq_zero_or_pos k with h0 | h0
 ·subst h0; cases hy
 ·obtain ⟨i,hi⟩:=List.mem_iff_getElem?.1 hy
  rw [List.getElem?_take] at hi
  split at hi
  ·rename_i hik
   have hz:=List.getElem?_eq_getElem (l:=O) (i:=k - 1) (by omega)
   have h1:=h _ h0 hz
   obtain ⟨hlt,he⟩:=List.getElem?_eq_some_iff.1 hi
   by_cases e : i = k - 1
   ·subst e; rw [← he]; exact h1
   ·have:=List.pairwise_iff_getElem.1 hs i (k - 1) hlt (by omega) (by omega)
    rw [he] at this
    omega
  ·cases hi
theorem ShV.dropA {w : World} {S : Nat → Prop} {b n c k : Nat} {l : List An} (h : ShV w S (.slice (some ⟨b,0,none⟩) n c) n (ans l)) (hk : k ≤ n) : ShV w S (.slice (some ⟨b,k * 5,none⟩) (n - k) (c - k)) (n - k) (ans (l.drop k)):=by
 obtain ⟨A',c',e,hc,hr⟩:=h
 injection e with e1 _ e3
 subst e1 e3
 refine ⟨_,_,rfl,by omega,fun hn => ?_⟩
 obtain ⟨b',off',e',hS,hlt,hrg⟩:=hr (by omega)
 injection e' with e'
 injection e' with e4 e5
 subst e4 e5
 refine ⟨b,k * 5,rfl,hS,hlt,fun j v hv => ?_⟩
 rw [← ans_drop,List.getElem?_drop] at hv
 have:=hrg (k * 5 + j) v hv
 rwa [Nat.zero_add] at this
theorem fl_step {O M : List An} {i k : Nat} {x : An} (hO : FlA O (M.take i)) (hx : M[i]? = some x) (hp : FlA (O.take k ++ x :: O.drop k) (O ++ [x])) : FlA (O.take k ++ x :: O.drop k) (M.take (i + 1)):=by
 refine hp.trans ?_
 rw [List.take_add_one,hx]
 exact ⟨by rw [List.length_append,List.length_append,hO.1]; rfl,fun f => by rw [List.filter_append,List.filter_append,hO.2]; rfl⟩
end Go.Proofs.YtkjhlgnpohamnaaGreatDoor
