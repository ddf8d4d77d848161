import Derived.Test.YtkjhlgnpohamnaaGreatDoorSq
import Derived.Test.YtkjhlgnpohamnaaGreatDoorFiV
import Derived.Test.YtkjhlgnpohamnaaGreatDoorFiU
namespace Go.Proofs.YtkjhlgnpohamnaaGreatDoor
set_option linter.unusedVariables false
set_option linter.unusedSimpArgs false
open Go.RowKit
theorem MoSh.formsL {w : World} {S : Nat → Prop} {m : MoT} {v : MoV} (h : MoSh w S m v) : ∃ A0 c0 A2 c2 A4 c4 A5 c5 A6 c6,v = ⟨.slice A0 m.im.length c0,.slice A2 m.la.length c2,.slice A4 m.ef.length c4,.slice A5 m.va.length c5,.slice A6 m.fn.length c6⟩:=by
 obtain ⟨FL,h1,h2,h3⟩:=h.fn
 obtain ⟨A0,c0,e0⟩:=h.im.formA
 obtain ⟨A2,c2,e2⟩:=h.la.formA
 obtain ⟨A4,c4,e4⟩:=h.ef.formA
 obtain ⟨A5,c5,e5⟩:=h.va.formA
 obtain ⟨A6,c6,e6⟩:=h2.formA
 have hl : FL.length = m.fn.length:=by rw [← h1,List.length_map]
 obtain ⟨im,la,ef,va,fn⟩:=v
 dsimp only at e0 e2 e4 e5 e6
 subst e0 e2 e4 e5 e6
 exact ⟨A0,c0,A2,c2,A4,c4,A5,c5,A6,c6,by rw [hl]⟩
theorem byt8_bts (s : ByteArray) : Byt8 (bts s):=fun x hx => by
 unfold bts at hx
 obtain ⟨u,_,rfl⟩:=List.mem_map.1 hx
 have:=u.toNat_lt
 exact ⟨by omega,by omega⟩
def noteB (bs : List Int) : List Int:=bs.filter fun x => x != 10
theorem noteB_no (bs : List Int) : ∀ u ∈ noteB bs,u ≠ 10:=fun u hu => by
 have:=(List.mem_filter.1 hu).2
 simpa using this
theorem noteB_len (bs : List Int) : (noteB bs).length ≤ bs.length:=List.length_filter_le _ _
theorem noteB_step {bs : List Int} {k : Nat} {x : Int} (h : bs[k]? = some x) : noteB (bs.take (k + 1)) = noteB (bs.take k) ++ (if x != 10 then [x] else []):=by
 unfold noteB
 rw [List.take_add_one,h,List.filter_append]
 congr 1
 show List.filter _ [x] = _
 rw [List.filter_cons]
 rfl
theorem parse_pos {bs : List Int} (hb : Byt8 bs) (hn : bs.length ≤ 1500) {n F f : Nat} : 0 ≤ (parseM (rowT (strOfNums bs) (live bs 0)) (live bs 0) n F f).2.1 ∧ (parseM (rowT (strOfNums bs) (live bs 0)) (live bs 0) n F f).2.1 ≤ 20000:=by
 have hok : TokOk (strOfNums bs) (live bs 0):=live_ok (bts_str hb) (by omega)
 have hs : (strOfNums bs).size = bs.length:=str_len bs
 have hps : ∀ i,0 ≤ (rowT (strOfNums bs) (live bs 0)).ps i ∧ (rowT (strOfNums bs) (live bs 0)).ps i ≤ 20000:=fun i => by
  cases h : (live bs 0)[i]? with
  | none =>
   have : (rowT (strOfNums bs) (live bs 0)).ps i = ((strOfNums bs).size : Int):=by simp only [rowT,h]
   rw [this]; omega
  | some t =>
   have : (rowT (strOfNums bs) (live bs 0)).ps i = t.2.1:=by simp only [rowT,h]
   have:=hok.tok t (List.mem_of_getElem? h)
   omega
 unfold parseM
 split
 ·exact ⟨by decide,by decide⟩
 ·split
  ·show 0 ≤ (badOf (live bs 0)).2.1 ∧ (badOf (live bs 0)).2.1 ≤ 20000
   unfold badOf
   cases h : (live bs 0).find? fun t => t.1 == 5 with
   | none => exact ⟨by decide,by decide⟩
   | some t =>
    have:=hok.tok t (List.mem_of_find?_eq_some h)
    show 0 ≤ t.2.1 ∧ t.2.1 ≤ 20000
    omega
  ·split
   ·exact hps _
   ·exact hps _
theorem fileLater_long (A : Option Addr) (n c : Nat) (s : ByteArray) (w : World) (h : 1500 < n ∨ (¬ 1500 < n ∧ 100 < s.size)) (hm : n ≤ maxLen) (hm2 : s.size ≤ maxLen) (hv : Vars w) :
  CP 4 #[.slice A n c,.string s] w fun e w' => e = .returned (.bool true) ∧ Below w.heap.size w w':=by
 unfold maxLen at hm hm2
 have h' : (1500 : Int) < (n : Int) ∨ (¬ (1500 : Int) < (n : Int) ∧ (100 : Int) < (s.size : Int)):=by omega
 clear h
 rcases h' with h1 | ⟨h1,h2⟩
 all_goals
  go_enter Tryz.func4,Tryz.ntmps4
  go_wp2_with (go_at_call 10; refine (awake10_any _ hv).mono ?_; rintro e w1 ⟨rfl,b1⟩)
  go_ret
  exact ⟨rfl,b1⟩
set_option maxRecDepth 100000 in
set_option maxHeartbeats 12800000 in
theorem fileLater_short (A : Option Addr) (n c : Nat) (xs : List Int) (s : ByteArray) (w : World) (h1 : ¬ 1500 < n) (h2 : ¬ 100 < s.size) (hnc : n ≤ c) (hcm : c ≤ maxLen) (hx : Sh w w.heap.size A n (by8 xs)) (hbx : Byt8 xs) (hv : Vars w) :
  CP 4 #[.slice A n c,.string s] w fun e w' => e = .returned (.bool true) ∧ Below w.heap.size w w':=by
 have hl : xs.length = n:=by have:=hx.len; rwa [by8_len] at this
 have hvs:=hv.size
 have XX:=Lh (fun w' (b : Below w.heap.size w w') => (hx.below b).more b.size)
 have HAW : Hid (∀ W,Below w.heap.size w W → CP 10 #[] W fun e w' => e = .returned (.bool true) ∧ Below W.heap.size W w'):=Lh fun W hW => awake10_any W (hv.under hW hvs)
 obtain ⟨us,hus⟩ : ∃ us,noteB (bts s) = us:=⟨_,rfl⟩
 have hun : ∀ u ∈ us,u ≠ 10:=by rw [← hus]; exact noteB_no _
 have hul : us.length ≤ 100:=by have:=noteB_len (bts s); rw [bts_len,hus] at this; omega
 have hub : Byt8 us:=fun u hu => by rw [← hus] at hu; exact byt8_bts s u (List.mem_filter.1 hu).1
 obtain ⟨K,hK⟩ : ∃ K,us.length + 2 = K:=⟨_,rfl⟩
 have hbz : Byt8 (35 :: us ++ 10 :: xs):=fun x hx => by
  rcases List.mem_append.1 hx with hx | hx
  ·rcases List.mem_cons.1 hx with rfl | hx
   ·decide
   ·exact hub x hx
  ·rcases List.mem_cons.1 hx with rfl | hx
   ·decide
   ·exact hbx x hx
 have hlz : (35 :: us ++ 10 :: xs).length = K + n:=by simp [hl]; omega
 obtain ⟨X,hX⟩ : ∃ X,parseM (rowT (strOfNums xs) (live xs 0)) (live xs 0) n 29000 5500 = X:=⟨_,rfl⟩
 have hZ:=parseM_later hun hbx hul (by omega) (F:=29000) (f:=5500) (by omega) (X:=X) (by rw [hl]; exact hX)
 rw [hlz,show (us.length : Int) + 2 = (K : Int) by omega] at hZ
 have a1:=parse_mks (row_ok (strOfNums xs) (live xs 0)) (n:=n) (F:=29000) (f:=5500)
 have a2:=parse_mks (row_ok (strOfNums (35 :: us ++ 10 :: xs)) (live (35 :: us ++ 10 :: xs) 0)) (n:=K + n) (F:=29000) (f:=5500)
 have a3:=parse_pos hbx (by omega) (n:=n) (F:=29000) (f:=5500)
 have a4:=parse_D (bts_str hbx) (n:=n) (F:=29000) (f:=5500)
 have l1:=live_len xs
 have l2:=live_len (35 :: us ++ 10 :: xs)
 have hsx : (strOfNums xs).size = n:=by rw [str_len,hl]
 rw [hX] at a1 a3 a4
 rw [hZ] at a2
 have HPA : Hid (∀ W,Below w.heap.size w W → CP 11 #[.slice A n c] W (FpTo X W)):=Lh fun W hW => by
  rw [← hX]
  exact fparse_any A n c xs W (XX.out W hW) hbx (by omega) hnc hcm (hv.under hW hvs) 29000 5500 (by omega) (by omega)
 have HPC : Hid (∀ W A' c',Below w.heap.size w W → Sh W W.heap.size A' (K + n) (by8 (35 :: us ++ 10 :: xs)) → K + n ≤ c' → c' ≤ maxLen → CP 11 #[.slice A' (K + n) c'] W (FpTo (MoT.nul.plus X.1 (K : Int),X.2.1 + (K : Int),X.2.2) W)):=Lh fun W A' c' hW hs g1 g2 => by
  rw [← hZ]
  exact fparse_any A' (K + n) c' (35 :: us ++ 10 :: xs) W hs hbz (by omega) g1 g2 (hv.under hW hvs) 29000 5500 (by omega) (by omega)
 obtain ⟨MA,X2,X3⟩:=X
 dsimp only at a1 a2 a3 a4 HPC
 obtain ⟨KX,hks,hkf⟩:=sort_ex MA.mks
 have hml : (MoT.nul.plus MA (K : Int)).mks.length = MA.mks.length:=by rw [later_mks,List.length_map]
 have hys : SrtA (KX.map (An.sh (K : Int))):=srtA_sh _ hks
 have hyf : FlA (KX.map (An.sh (K : Int))) (MoT.nul.plus MA (K : Int)).mks:=by rw [later_mks]; exact flA_sh _ hkf
 have e5 : (MoT.nul.plus MA (K : Int)).va.length = MA.va.length:=by unfold MoT.plus; simp [MoT.nul]
 have e6 : (MoT.nul.plus MA (K : Int)).fn.length = MA.fn.length:=by unfold MoT.plus; simp [MoT.nul]
 have e2 : (MoT.nul.plus MA (K : Int)).la.length = MA.la.length:=by unfold MoT.plus; simp [MoT.nul]
 obtain ⟨MZ,hMZ⟩ : ∃ MZ,MoT.nul.plus MA (K : Int) = MZ:=⟨_,rfl⟩
 rw [hMZ] at HPC a2 hml hyf e5 e6 e2
 obtain ⟨L,hL⟩ : ∃ L,MA.mks.length = L:=⟨_,rfl⟩
 have hkl : KX.length = L:=by rw [hkf.1,hL]
 have hLn : L ≤ 1500:=by omega
 have hN2 : MZ.mks.length ≤ 100000:=by omega
 have HKX : Hid (∀ z1 W v,MoSh W (fun b => z1 ≤ b) MA v → CP 12 #[moV MA.hl MA.he v] W (MkL KX L W)):=Lh fun z1 W v h => marks_to h (by omega) (fun f hf => Nat.le_trans (a1.2 f hf) (by omega)) hks hkf hL
 have HKY : Hid (∀ z1 W v,MoSh W (fun b => z1 ≤ b) MZ v → CP 12 #[moV MZ.hl MZ.he v] W (MkL (KX.map (An.sh (K : Int))) L W)):=Lh fun z1 W v h => marks_to h hN2 (fun f hf => Nat.le_trans (a2.2 f hf) (by omega)) hys hyf (hml.trans hL)
 have HAT : Hid (∀ (i : Nat),i < L → ∃ a,KX[i]? = some a ∧ (KX.map (An.sh (K : Int)))[i]? = some (a.sh (K : Int)) ∧ 0 ≤ a.fr ∧ a.fr ≤ 1500 ∧ 0 ≤ a.to ∧ a.to ≤ 1500):=Lh fun i hi => by
  obtain ⟨a,ha⟩ : ∃ a,KX[i]? = some a:=⟨_,List.getElem?_eq_getElem (by omega)⟩
  have hok:=(a4.2.1 a (hkf.mem (List.mem_of_getElem? ha))).1
  rw [OkA,hsx] at hok
  exact ⟨a,ha,by rw [List.getElem?_map,ha]; rfl,by omega,by omega,by omega,by omega⟩
 have HC:=Lh hcm
 have HUS:=Lh hus
 have HK:=Lh hK
 have HBTS:=Lh (bts_len s)
 have g1 : ¬ (1500 : Int) < (n : Int):=by omega
 have g2 : ¬ (100 : Int) < (s.size : Int):=by omega
 have hK102 : K ≤ 102:=by omega
 have hK2 : 2 ≤ K:=by omega
 have HB:=Lh (Below.refl w.heap.size w)
 obtain ⟨p1,p2⟩:=a3
 have wp : IntKind.i64.wrap (X2 + (K : Int)) = X2 + (K : Int):=IntWalk.i64_in _ (by omega)
 unfold FpTo at HPA HPC
 unfold MkL moV at HKX HKY
 dsimp only at HPA HPC
 clear hl hlz hx hcm hv hX hZ hbx hbz hun hub hks hkf hys hyf hml hMZ hL hkl hN2 a1 a2 a4 l1 l2 hsx hul hus hK
 go_enter Tryz.func4,Tryz.ntmps4
 go_wp2_with (first
  | (at_builtin; refine wpList_more rfl (.tmp 27) (.tmp 28) 22 rfl rowB w _ w.heap.size _ 0 [] (by8 [35]) rfl (Own.nil _ w.heap.size 5 1 (by simp)) (w.heap.size + 1) (some ⟨w.heap.size,0,none⟩) 1 1 rfl (Sh.lit w (by8 [35]) 5) (by8_one _) (HB.out.alloc nLe _) (by omega) (by omega) ?_; intro v1 u1 ho1 hb1; have HO:=Lh (ho1.cast rfl (List.nil_append _)); have HB:=Lh hb1; clear ho1 hb1)
  | fail)
 go_loopw [5,6] (fun lv iv wr => ∃ (k : Nat) (l : List Int),iv = .int .i64 (k : Int) ∧ k ≤ s.size ∧ l = noteB ((bts s).take k) ∧ Own wr w.heap.size 5 1 lv (l.length + 1) (by8 (35 :: l)) ∧ Below w.heap.size w wr) (fun _ iv _ => s.size - (intOf iv).toNat)
 case atStart => exact ⟨0,[],rfl,Nat.zero_le _,rfl,HO.out,HB.out⟩
 case round =>
  clear HO HB
  obtain ⟨k,l,rfl,hk,hnl,hO,hb⟩:=hrel
  have hll : l.length ≤ 100:=by have h3:=noteB_len ((bts s).take k); rw [← hnl,List.length_take] at h3; omega
  have HO:=Lh hO
  have HB:=Lh hb
  have HNL:=Lh hnl
  clear hO hb hnl
  by_cases hlt : k < s.size
  ·have hx : ((s[k]'hlt).toNat : Int) = (bts s).getD k 0:=bts_at2 rfl hlt
   obtain ⟨x,hx0⟩ : ∃ x,(bts s).getD k 0 = x:=⟨_,rfl⟩
   rw [hx0] at hx
   have hg : (bts s)[k]? = some x:=by
    have hkl : k < (bts s).length:=by rw [HBTS.out]; exact hlt
    rw [List.getD,List.getElem?_eq_getElem hkl] at hx0
    rw [List.getElem?_eq_getElem hkl]
    exact congrArg some hx0
   have hst:=noteB_step hg
   rw [← HNL.out] at hst
   by_cases h10 : x = 10
   ·have d1 : (x == 10) = true:=by simp [h10]
    have d2 : (x != 10) = false:=by simp [h10]
    have d3 : decide (x = 10) = true:=decide_eq_true h10
    rw [d2,if_neg (by decide),List.append_nil] at hst
    have HST:=Lh hst
    clear hst hg hx0 h10
    go_wp2_with fail
    go_roundw
    case rel => exact ⟨k + 1,l,by go_num,hlt,HST.out.symm,HO.out,HB.out⟩
    case measure => simp [intOf]; omega
   ·have d1 : (x == 10) = false:=by simp [h10]
    have d2 : (x != 10) = true:=by simp [h10]
    have d3 : decide (x = 10) = false:=decide_eq_false h10
    rw [d2,if_pos rfl] at hst
    have HST:=Lh hst
    clear hst hg hx0 h10
    go_wp2_with (first
     | (at_builtin; refine wpList_more rfl (.tmp 40) (.tmp 44) 22 rfl rowB w _ w.heap.size _ (l.length + 1) (by8 (35 :: l)) (by8 [x]) rfl (HO.out.alloc _) (wr.heap.size + 1) (some ⟨wr.heap.size,0,none⟩) 1 1 rfl (Sh.lit wr (by8 [x]) 5) (by8_one _) (HB.out.alloc HB.out.size _) (by omega) (by omega) ?_; intro v1 u1 ho1 hb1; have HO:=Lh (ho1.cast rfl (by8_append _ _).symm); have HB:=Lh hb1; clear ho1 hb1)
     | fail)
    go_roundw
    case rel => exact ⟨k + 1,l ++ [x],by go_num,hlt,HST.out.symm,HO.out.cast (by simp) rfl,HB.out⟩
    case measure => simp [intOf]; omega
  ·obtain rfl : k = s.size:=by omega
   have hfin : l = us:=by rw [HNL.out,List.take_of_length_le (by rw [HBTS.out]; exact Nat.le_refl _),HUS.out]
   subst hfin
   clear HNL HUS HBTS
   obtain ⟨wa,hwa⟩ : ∃ wa,wa = wr:=⟨_,rfl⟩
   subst hwa
   go_wp2_with (first
    | (at_builtin; refine wpList_more rfl (.tmp 46) (.tmp 47) 22 rfl rowB w _ w.heap.size _ (l.length + 1) (by8 (35 :: l)) (by8 [10]) rfl (HO.out.alloc _) (wa.heap.size + 1) (some ⟨wa.heap.size,0,none⟩) 1 1 rfl (Sh.lit wa (by8 [10]) 5) (by8_one _) (HB.out.alloc HB.out.size _) (by omega) (by omega) ?_; intro v1 u1 ho1 hb1; have HO:=Lh (ho1.cast (show _ = K by have:=HK.out; omega) (by8_append _ _).symm); have HB:=Lh hb1; clear ho1 hb1; obtain ⟨G,gc,hpv,hgB,hgl⟩:=HO.out.1.form (by omega); subst hpv; refine Hid.out ?_)
    | fail)
   obtain ⟨z1,hz1⟩ : ∃ z,u1.heap.size = z:=⟨_,rfl⟩
   have hz0:=HB.out.size
   have hcap:=HO.out.cap
   rw [hz1] at hgl hz0
   have HKX:=Lh (HKX.out z1)
   have HKY:=Lh (HKY.out z1)
   clear hll
   refine Lh ?_
   go_wp2_with (first
    | (go_at_call 11; (with_reducible refine (HPA.out _ HB.out).mono ?_); rintro e w1 ⟨va,rfl,hs2,hb2⟩; have honeX:=hs2.one MA.hl MA.he; have hbzX:=hb2.size; have HO:=Lh (HO.out.below hb2); have MX:=Lh (hs2.weak (S':=fun b => z1 ≤ b) fun b hb _ => by omega); have HB:=Lh (bTr HB hb2); clear hs2 hb2; unfold moV; dsimp only)
    | (refine wpList_stV rfl 29 _ _ rfl (G:=w1.heap.size) (off:=0) rfl (us:=moC MA.hl MA.he va) (Var.new w1 (moC false false MoV.nul) 29 rfl) rfl info_mo (Nat.le_refl 7) honeX ?_; intro w2 ht hs; have bb:=((Tn.alloc (fun k => k = w1.heap.size) w1 (.cells #[.slice none 0 0,.bool false,.slice none 0 0,.bool false,.slice none 0 0,.slice none 0 0,.slice none 0 0] 29)).trans ht).below nLe (by intro k hk e; omega); have MX:=Lh (MX.out.under bb); have HO:=Lh (HO.out.below bb); have HB:=Lh (bTr HB bb); have VX:=Lh (show Var w2 w1.heap.size (moC MA.hl MA.he va) from hs); have hszX:=bb.size; clear ht hs bb; refine Hid.out ?_)
    | fail)
   obtain ⟨GX,hGX⟩ : ∃ G,w1.heap.size = G:=⟨_,rfl⟩
   have hgx : z1 ≤ GX:=by omega
   have hz2 : z1 ≤ w2.heap.size:=by omega
   rw [hGX] at VX ⊢
   clear hGX hbzX
   have hge:=HB.out.size
   refine Lh ?_
   go_wp2_with (first
    | (at_builtin; refine wpList_more_g rfl (.tmp 58) (.tmp 59) 22 rfl rowB w2 w.heap.size _ K (by8 (35 :: l ++ [10])) (by8 xs) rfl HO.out _ A n c rfl (XX.out _ HB.out) (by8_one _) (by omega) (by omega) ?_; intro v3 u3 ho3 hg3; have tg:=Tn.of_gb (M:=fun k => k = G) hg3 (fun k e _ => (Option.some.inj e).symm); have MX:=Lh (MX.out.keep (S':=fun b => z1 ≤ b) fun b h1 h2 => ⟨h1,Nat.lt_of_lt_of_le h2 tg.size,tg.block b h2 (by omega)⟩); have VX:=Lh (VX.out.turn tg (by omega)); have HB:=Lh (HB.out.grown hg3 hge (fun k hk => by rw [← Option.some.inj hk]; exact hgB)); have HO:=Lh (ho3.cast rfl (by8_append _ _).symm); have hz3:=tg.size; clear ho3 hg3 tg; obtain ⟨G3,gc3,hpv,_,_⟩:=HO.out.1.form (by omega); subst hpv; refine Hid.out ?_)
    | fail)
   have hcap3:=HO.out.cap
   have hja : 35 :: l ++ [10] ++ xs = 35 :: l ++ 10 :: xs:=by simp
   have HS5:=Lh HO.out.sh
   rw [hja] at HS5
   have HP:=Lh (HPC.out _ _ _ HB.out HS5.out hcap3.1 hcap3.2)
   have hz4 : z1 ≤ u3.heap.size:=by omega
   clear HPC HPA HS5 XX HO hcap hcap3 hja
   refine Lh ?_
   go_wp2_with (first
    | (go_at_call 11; (with_reducible refine (HP.out).mono ?_); rintro e w3 ⟨vb,rfl,hs2,hb2⟩; have honeY:=hs2.one MZ.hl MZ.he; have hbzY:=hb2.size; have MX:=Lh (MX.out.under hb2); have VX:=Lh (VX.out.under hb2); have MY:=Lh (hs2.weak (S':=fun b => z1 ≤ b) fun b hb _ => by omega); have HB:=Lh (bTr HB hb2); clear hs2 hb2; unfold moV; dsimp only)
    | (refine wpList_stV rfl 29 _ _ rfl (G:=w3.heap.size) (off:=0) rfl (us:=moC MZ.hl MZ.he vb) (Var.new w3 (moC false false MoV.nul) 29 rfl) rfl info_mo (Nat.le_refl 7) honeY ?_; intro w4 ht hs; have bb:=((Tn.alloc (fun k => k = w3.heap.size) w3 (.cells #[.slice none 0 0,.bool false,.slice none 0 0,.bool false,.slice none 0 0,.slice none 0 0,.slice none 0 0] 29)).trans ht).below nLe (by intro k hk e; omega); have MX:=Lh (MX.out.under bb); have MY:=Lh (MY.out.under bb); have VX:=Lh (VX.out.under bb); have HB:=Lh (bTr HB bb); have VY:=Lh (show Var w4 w3.heap.size (moC MZ.hl MZ.he vb) from hs); have hszY:=bb.size; clear ht hs bb; refine Hid.out ?_)
    | fail)
   obtain ⟨GY,hGY⟩ : ∃ G,w3.heap.size = G:=⟨_,rfl⟩
   rw [hGY] at VY ⊢
   clear hGY HP
   obtain ⟨A0,c0,A2,c2,A4,c4,A5,c5,A6,c6,rfl⟩:=MX.out.formsL
   obtain ⟨B0,d0,B2,d2,B4,d4,B5,d5,B6,d6,rfl⟩:=MY.out.formsL
   rw [e2,e5,e6] at VY MY
   rw [e2,e5,e6]
   clear e2 e5 e6
   have KS : Hid (∀ W,Var W GX (moC MA.hl MA.he ⟨.slice A0 MA.im.length c0,.slice A2 MA.la.length c2,.slice A4 MA.ef.length c4,.slice A5 MA.va.length c5,.slice A6 MA.fn.length c6⟩) → Var W GY (moC MZ.hl MZ.he ⟨.slice B0 MZ.im.length d0,.slice B2 MA.la.length d2,.slice B4 MZ.ef.length d4,.slice B5 MA.va.length d5,.slice B6 MA.fn.length d6⟩) → (W.cell? ⟨GX,0,none⟩ = some (.slice A0 MA.im.length c0) ∧ W.cell? ⟨GX,1,none⟩ = some (.bool MA.hl) ∧ W.cell? ⟨GX,2,none⟩ = some (.slice A2 MA.la.length c2) ∧ W.cell? ⟨GX,3,none⟩ = some (.bool MA.he) ∧ W.cell? ⟨GX,4,none⟩ = some (.slice A4 MA.ef.length c4) ∧ W.cell? ⟨GX,5,none⟩ = some (.slice A5 MA.va.length c5) ∧ W.cell? ⟨GX,6,none⟩ = some (.slice A6 MA.fn.length c6) ∧ W.cell? ⟨GY,0,none⟩ = some (.slice B0 MZ.im.length d0) ∧ W.cell? ⟨GY,1,none⟩ = some (.bool MZ.hl) ∧ W.cell? ⟨GY,2,none⟩ = some (.slice B2 MA.la.length d2) ∧ W.cell? ⟨GY,3,none⟩ = some (.bool MZ.he) ∧ W.cell? ⟨GY,4,none⟩ = some (.slice B4 MZ.ef.length d4) ∧ W.cell? ⟨GY,5,none⟩ = some (.slice B5 MA.va.length d5) ∧ W.cell? ⟨GY,6,none⟩ = some (.slice B6 MA.fn.length d6))):=Lh fun W hx hy => ⟨hx.at 0 rfl,hx.at 1 rfl,hx.at 2 rfl,hx.at 3 rfl,hx.at 4 rfl,hx.at 5 rfl,hx.at 6 rfl,hy.at 0 rfl,hy.at 1 rfl,hy.at 2 rfl,hy.at 3 rfl,hy.at 4 rfl,hy.at 5 rfl,hy.at 6 rfl⟩
   refine Lh ?_
   go_wp2_with fail
   have bd:=below_drew w4 w4.heap.size
   have VX:=Lh (VX.out.under bd)
   have VY:=Lh (VY.out.under bd)
   have MX:=Lh (MX.out.under bd)
   have MY:=Lh (MY.out.under bd)
   have HB:=Lh (bTr HB bd)
   clear bd
   obtain ⟨x0,x1,x2,x3,x4,x5,x6,y0,y1,y2,y3,y4,y5,y6⟩:=KS.out _ VX.out VY.out
   go_region_held3 (fun W => (W.cell? ⟨GX,0,none⟩ = some (.slice A0 MA.im.length c0) ∧ W.cell? ⟨GX,1,none⟩ = some (.bool MA.hl) ∧ W.cell? ⟨GX,2,none⟩ = some (.slice A2 MA.la.length c2) ∧ W.cell? ⟨GX,3,none⟩ = some (.bool MA.he) ∧ W.cell? ⟨GX,4,none⟩ = some (.slice A4 MA.ef.length c4) ∧ W.cell? ⟨GX,5,none⟩ = some (.slice A5 MA.va.length c5) ∧ W.cell? ⟨GX,6,none⟩ = some (.slice A6 MA.fn.length c6) ∧ W.cell? ⟨GY,0,none⟩ = some (.slice B0 MZ.im.length d0) ∧ W.cell? ⟨GY,1,none⟩ = some (.bool MZ.hl) ∧ W.cell? ⟨GY,2,none⟩ = some (.slice B2 MA.la.length d2) ∧ W.cell? ⟨GY,3,none⟩ = some (.bool MZ.he) ∧ W.cell? ⟨GY,4,none⟩ = some (.slice B4 MZ.ef.length d4) ∧ W.cell? ⟨GY,5,none⟩ = some (.slice B5 MA.va.length d5) ∧ W.cell? ⟨GY,6,none⟩ = some (.slice B6 MA.fn.length d6))) (((try dsimp only); first | (with_reducible exact KS.out _ VX.out VY.out) | ((repeat' apply And.intro) <;> first | (with_reducible assumption) | go_keep))) (first
    | (go_at_call 12; (with_reducible refine (HKX.out _ _ MX.out).mono ?_); rintro e wn ⟨ax,kx,rfl,hu,b⟩; have UX:=Lh (hu.weak (S':=fun _ => True) fun _ _ _ => trivial); (try (have UY:=Lh (UY.out.under b))); have MX:=Lh (MX.out.under b); have MY:=Lh (MY.out.under b); have VX:=Lh (VX.out.under b); have VY:=Lh (VY.out.under b); have HB:=Lh (bTr HB b); clear b hu; obtain ⟨x0,x1,x2,x3,x4,x5,x6,y0,y1,y2,y3,y4,y5,y6⟩:=KS.out _ VX.out VY.out)
    | (go_at_call 12; (with_reducible refine (HKY.out _ _ MY.out).mono ?_); rintro e wn ⟨ay,ky,rfl,hu,b⟩; have UY:=Lh (hu.weak (S':=fun _ => True) fun _ _ _ => trivial); (try (have UX:=Lh (UX.out.under b))); have MX:=Lh (MX.out.under b); have MY:=Lh (MY.out.under b); have VX:=Lh (VX.out.under b); have VY:=Lh (VY.out.under b); have HB:=Lh (bTr HB b); clear b hu; obtain ⟨x0,x1,x2,x3,x4,x5,x6,y0,y1,y2,y3,y4,y5,y6⟩:=KS.out _ VX.out VY.out)
    | fail)
   all_goals
    clear KS
    refine Lh ?_
    go_wp2_with fail
    go_loopw [16] (fun iv wr => ∃ i : Nat,iv = .int .i64 (i : Int) ∧ i ≤ L ∧ Below wn.heap.size wn wr) (fun iv _ => L - (intOf iv).toNat)
    case' atStart => exact ⟨0,rfl,Nat.zero_le _,Below.refl _ _⟩
    case' round =>
     obtain ⟨i,rfl,hi,hb⟩:=hrel
     have HBL:=Lh hb
     have hsl:=hb.size
     by_cases hlt : i < L
     ·obtain ⟨a,ha,ha2,f1,f2,t1,t2⟩:=HAT.out i hlt
      obtain ⟨b,off,hA,_,hbl,hrg⟩:=(UX.out.under hb).elem (f:=anC) (sz:=5) (fun _ => rfl) ha hlt
      obtain ⟨b',off',hA',_,hbl',hrg'⟩:=(UY.out.under hb).elem (f:=anC) (sz:=5) (fun _ => rfl) ha2 hlt
      subst hA hA'
      obtain ⟨so,lk,lb,fr,to⟩:=a
      dsimp only at f1 f2 t1 t2
      have wf : IntKind.i64.wrap (fr + (K : Int)) = fr + (K : Int):=IntWalk.i64_in _ (by omega)
      have wt : IntKind.i64.wrap (to + (K : Int)) = to + (K : Int):=IntWalk.i64_in _ (by omega)
      have hin : (i : Int) < (L : Int):=by omega
      have HRG:=Lh hrg'
      have hza:=zeroAn
      clear ha ha2 hb hrg'
      go_wp2_with (first
       | (refine wpList_ldV rfl 36 _ rfl b (off + i * 5) rfl (anC ⟨so,lk,lb,fr,to⟩) hrg Tryz.underlying36 rfl info_an ?_)
       | (refine wpList_stV rfl 36 _ _ rfl (G:=wr.heap.size) (off:=0) rfl (us:=anC ⟨so,lk,lb,fr,to⟩) (Var.new wr (anC An.nul) 36 rfl) rfl info_an (Nat.le_refl 5) (anC_one _) ?_; intro w91 ht hs; have bb:=((Tn.alloc (fun k => k = wr.heap.size) wr (.cells #[.bool false,.bool false,.string ⟨#[]⟩,.int .i64 0,.int .i64 0] 36)).trans ht).below nLe (by intro k hk e; omega); have JV:=Lh (show Var w91 wr.heap.size (anC ⟨so,lk,lb,fr,to⟩) from hs); have HRG:=Lh (show w91.rangeAt b' (off' + i * 5) (anC (An.sh (K : Int) ⟨so,lk,lb,fr,to⟩)) from fun j u hu => (World.cell?_of_block (a:=⟨b',_,none⟩) (bb.block b' hbl')).trans (HRG.out j u hu)); have HBL:=Lh (HBL.out.trans (bb.mono hsl)); have k3:=JV.out.at 3 rfl; have k4:=JV.out.at 4 rfl; have f3:=JV.out.fz 3 (show 3 < 5 by decide); have f4:=JV.out.fz 4 (show 4 < 5 by decide); have hs91:=bb.size; clear ht hs bb)
       | fail)
      obtain ⟨w93,hw93⟩ : ∃ W,(w91.setCell ⟨wr.heap.size,3,none⟩ (.int .i64 (fr + (K : Int)))).setCell ⟨wr.heap.size,4,none⟩ (.int .i64 (to + (K : Int))) = W:=⟨_,rfl⟩
      have hv93 : Var w93 wr.heap.size (anC ⟨so,lk,lb,fr + (K : Int),to + (K : Int)⟩):=by rw [← hw93]; exact (JV.out.set 3 _ (show 3 < 5 by decide)).set 4 _ (show 4 < 5 by decide)
      have ht93 : Tn (fun k => k = wr.heap.size) w91 w93:=by rw [← hw93]; exact (Tn.set (M:=fun k => k = wr.heap.size) w91 wr.heap.size 3 _ rfl).trans (Tn.set (M:=fun k => k = wr.heap.size) _ wr.heap.size 4 _ rfl)
      have hr93 : w93.rangeAt b' (off' + i * 5) (anC ⟨so,lk,lb,fr + (K : Int),to + (K : Int)⟩):=fun j u hu => (World.cell?_of_block (a:=⟨b',_,none⟩) (ht93.block b' (by omega) (by omega))).trans (HRG.out j u hu)
      have HBL:=Lh (HBL.out.trans (ht93.below HBL.out.size (by intro k hk e; omega)))
      rw [hw93]
      have q0:=hv93.at 0 rfl
      have q1:=hv93.at 1 rfl
      have q2:=hv93.at 2 rfl
      have q3:=hv93.at 3 rfl
      have q4:=hv93.at 4 rfl
      have r0 : w93.cell? ⟨b',off' + i * 5,none⟩ = some (.bool so):=hr93 0 _ rfl
      have r1 : w93.cell? ⟨b',off' + i * 5 + 1,none⟩ = some (.bool lk):=hr93 1 _ rfl
      have r2 : w93.cell? ⟨b',off' + i * 5 + 2,none⟩ = some (.string lb):=hr93 2 _ rfl
      have r3 : w93.cell? ⟨b',off' + i * 5 + 3,none⟩ = some (.int .i64 (fr + (K : Int))):=hr93 3 _ rfl
      have r4 : w93.cell? ⟨b',off' + i * 5 + 4,none⟩ = some (.int .i64 (to + (K : Int))):=hr93 4 _ rfl
      clear hw93 hv93 ht93 hr93 JV HRG k3 k4 f3 f4 hrg
      refine Lh ?_
      go_wp2_with fail
      go_quiet (fail)
      go_wp2
      go_roundw
      case' rel => exact ⟨i + 1,by go_num,hlt,HBL.out.trans ((Quiet.one w93 _).below _)⟩
      case' measure => (simp [intOf]; omega)
     ·obtain rfl : i = L:=by omega
      have HB:=Lh (bTr HB hb)
      go_wp2_with (first
       | (go_at_call 10; (with_reducible refine (HAW.out _ HB.out).mono ?_); rintro e w9 ⟨rfl,b⟩; have HB:=Lh (bTr HB b); clear b)
       | fail)
      go_ret
      exact ⟨rfl,HB.out⟩
theorem fileLater_walk (A : Option Addr) (n c : Nat) (xs : List Int) (s : ByteArray) (w : World) (hr : IsRow .u8 w A n c xs) (hs : s.size ≤ maxLen) (hv : Vars w) :
  CP 4 #[.slice A n c,.string s] w fun e w' => e = .returned (.bool true) ∧ Below w.heap.size w w':=by
 obtain ⟨hnc,hcm,_,hx,hwf⟩:=hr.sh
 by_cases h : 1500 < n
 ·exact fileLater_long A n c s w (.inl h) (Nat.le_trans hnc hcm) hs hv
 ·by_cases h2 : 100 < s.size
  ·exact fileLater_long A n c s w (.inr ⟨h,h2⟩) (Nat.le_trans hnc hcm) hs hv
  ·exact fileLater_short A n c (xs.take n) s w h h2 hnc hcm hx (byt8_of hwf) hv
end Go.Proofs.YtkjhlgnpohamnaaGreatDoor
