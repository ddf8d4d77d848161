import Derived.Test.YtkjhlgnpohamnaaGreatDoorSq
import Derived.Test.YtkjhlgnpohamnaaGreatDoorFiT
import Derived.BigQuiet
namespace Go.Proofs.YtkjhlgnpohamnaaGreatDoor
set_option linter.unusedVariables false
set_option linter.unusedSimpArgs false
open Go.RowKit
set_option maxRecDepth 100000 in
set_option maxHeartbeats 12800000 in
theorem fileMarks_walk (A : Option Addr) (n c : Nat) (zs : List Int) (w : World) (hr : IsRow .u8 w A n c zs) (hv : Vars w) :
  CP 3 #[.slice A n c] w fun e w' => e = .returned (.bool true) ∧ Below w.heap.size w w':=by
 obtain ⟨hnc,hcm,_,hx,hwf⟩:=hr.sh
 have hbx:=byt8_of hwf
 obtain ⟨xs,hxs⟩ : ∃ xs,zs.take n = xs:=⟨_,rfl⟩
 rw [hxs] at hx hbx
 have hx : Sh w w.heap.size A n (by8 xs):=hx
 have hl : xs.length = n:=by have:=hx.len; rwa [by8_len] at this
 have hvs:=hv.size
 have XX:=Lh (fun w' (b : Below w.heap.size w w') => (hx.below b).more b.size)
 have HAW : Hid (∀ W,Below w.heap.size w W → CP 10 #[] W fun e w' => e = .returned (.bool true) ∧ Below W.heap.size W w'):=Lh fun W hW => awake10_any W (hv.under hW hvs)
 have HB:=Lh (Below.refl w.heap.size w)
 have hcm2:=hcm
 unfold maxLen at hcm2
 by_cases h1 : 2000 < n
 ·have g1 : (2000 : Int) < (n : Int):=by omega
  clear hr hx hbx hl hv hxs hwf
  go_enter Tryz.func3,Tryz.ntmps3
  go_wp2_with (first
   | (go_at_call 10; (with_reducible refine (HAW.out _ HB.out).mono ?_); rintro e w9 ⟨rfl,b⟩; have HB:=Lh (bTr HB b); clear b)
   | fail)
  go_ret
  exact ⟨rfl,HB.out⟩
 ·have g1 : ¬ (2000 : Int) < (n : Int):=by omega
  obtain ⟨X,hX⟩ : ∃ X,parseM (rowT (strOfNums xs) (live xs 0)) (live xs 0) n 33000 7000 = X:=⟨_,rfl⟩
  have a1:=parse_mks (row_ok (strOfNums xs) (live xs 0)) (n:=n) (F:=33000) (f:=7000)
  have a4:=parse_D (bts_str hbx) (n:=n) (F:=33000) (f:=7000)
  have l1:=live_len xs
  have hsx : (strOfNums xs).size = n:=by rw [str_len,hl]
  rw [hX] at a1 a4
  have HPA : Hid (∀ W,Below w.heap.size w W → CP 11 #[.slice A n c] W (FpTo X W)):=Lh fun W hW => by
   rw [← hX]
   exact fparse_any A n c xs W (XX.out W hW) hbx (by omega) hnc hcm (hv.under hW hvs) 33000 7000 (by omega) (by omega)
  obtain ⟨MA,X2,X3⟩:=X
  dsimp only at a1 a4
  obtain ⟨KX,hks,hkf⟩:=sort_ex MA.mks
  have hri:=rises hks hkf a4.1
  obtain ⟨L,hL⟩ : ∃ L,MA.mks.length = L:=⟨_,rfl⟩
  have hkl : KX.length = L:=by rw [hkf.1,hL]
  have hLn : L ≤ 2000:=by omega
  have HKX : Hid (∀ W v,MoSh W (fun _ => True) MA v → CP 12 #[moV MA.hl MA.he v] W (MkL KX L W)):=Lh fun W v h => marks_to h (by omega) (fun f hf => Nat.le_trans (a1.2 f hf) (by omega)) hks hkf hL
  have HKY : Hid (∀ W v,MoSh W (fun _ => True) MA v → CP 13 #[moV MA.hl MA.he v] W (MkL KX L W)):=Lh fun W v h => rmarks_any MA v W _ h (by omega) (fun f hf => Nat.le_trans (a1.2 f hf) (by omega)) a4.2.2 hks hkf hL
  have HAT : Hid (∀ (i : Nat),i < L → ∃ so lk lb F G,KX[i]? = some ⟨so,lk,lb,((F : Nat) : Int),((G : Nat) : Int)⟩ ∧ F ≤ G ∧ G ≤ n ∧ F < n ∧ strOfNums ((xs.drop F).take (G - F)) = lb ∧ (so = true ↔ 0 < lb.size)):=Lh fun i hi => by
   obtain ⟨a,ha⟩ : ∃ a,KX[i]? = some a:=⟨_,List.getElem?_eq_getElem (by omega)⟩
   have hok:=a4.2.1 a (hkf.mem (List.mem_of_getElem? ha))
   rw [OkA,hsx] at hok
   obtain ⟨so,lk,lb,fr,to⟩:=a
   obtain ⟨⟨o1,o2,o3,o4,o5⟩,o6⟩:=hok
   dsimp only at o1 o2 o3 o4 o5 o6
   obtain ⟨F,rfl⟩:=Int.eq_ofNat_of_zero_le o1
   obtain ⟨G,rfl⟩:=Int.eq_ofNat_of_zero_le (Int.le_trans o1 o2)
   refine ⟨so,lk,lb,F,G,ha,by omega,by omega,by omega,?_,o5⟩
   rw [← o4]
   exact ext_seg hbx (by omega)
  have HPR : Hid (∀ (i : Nat) x y,KX[i]? = some x → KX[i + 1]? = some y → x.fr < y.fr):=Lh fun i x y h1 h2 => by
   obtain ⟨l1,e1⟩:=List.getElem?_eq_some_iff.1 h1
   obtain ⟨l2,e2⟩:=List.getElem?_eq_some_iff.1 h2
   have:=List.pairwise_iff_getElem.1 hri i (i + 1) l1 l2 (by omega)
   rwa [e1,e2] at this
  unfold FpTo at HPA
  unfold MkL moV at HKX HKY
  dsimp only at HPA
  clear hr hx hbx hl hv hX hks hkf hri hL hkl a1 a4 l1 hsx hxs hwf
  by_cases hz : X3 = 0
  ·subst hz
   go_enter Tryz.func3,Tryz.ntmps3
   go_wp2_with (first
    | (go_at_call 11; (with_reducible refine (HPA.out _ HB.out).mono ?_); rintro e w1 ⟨va,rfl,hs2,hb2⟩; have honeX:=hs2.one MA.hl MA.he; have MX:=Lh (hs2.weak (S':=fun _ => True) fun b hb _ => trivial); have HB:=Lh (bTr HB hb2); clear hs2 hb2; unfold moV; dsimp only)
    | (refine wpList_stV rfl 29 _ _ rfl (G:=w1.heap.size) (off:=0) rfl (us:=moC MA.hl MA.he va) (Var.new w1 (moC false false MoV.nul) 29 rfl) rfl info_mo (Nat.le_refl 7) honeX ?_; intro w2 ht hs; have bb:=((Tn.alloc (fun k => k = w1.heap.size) w1 (.cells #[.slice none 0 0,.bool false,.slice none 0 0,.bool false,.slice none 0 0,.slice none 0 0,.slice none 0 0] 29)).trans ht).below nLe (by intro k hk e; omega); have MX:=Lh (MX.out.under bb); have HB:=Lh (bTr HB bb); have VX:=Lh (show Var w2 w1.heap.size (moC MA.hl MA.he va) from hs); have hszX:=bb.size; clear ht hs bb)
    | (refine wpList_ldV rfl 29 _ rfl w1.heap.size 0 rfl (moC MA.hl MA.he va) VX.out.rg Tryz.underlying29 rfl info_mo ?_; simp only [moC])
    | (go_at_call 12; (with_reducible refine (HKX.out _ _ MX.out).mono ?_); rintro e w5 ⟨ax,kx,rfl,hu,b⟩; have UX:=Lh (hu.weak (S':=fun _ => True) fun _ _ _ => trivial); have MX:=Lh (MX.out.under b); have VX:=Lh (VX.out.under b); have HB:=Lh (bTr HB b); clear b hu)
    | (go_at_call 13; (with_reducible refine (HKY.out _ _ MX.out).mono ?_); rintro e w6 ⟨ay,ky,rfl,hu,b⟩; have UY:=Lh (hu.weak (S':=fun _ => True) fun _ _ _ => trivial); have UX:=Lh (UX.out.under b); have HB:=Lh (bTr HB b); clear b hu)
    | fail)
   go_loopw [8] (fun iv wr => ∃ i : Nat,iv = .int .i64 (i : Int) ∧ i ≤ L ∧ Below w6.heap.size w6 wr) (fun iv _ => L - (intOf iv).toNat)
   case atStart => exact ⟨0,rfl,Nat.zero_le _,Below.refl _ _⟩
   case round =>
    obtain ⟨i,rfl,hi,hb⟩:=hrel
    have HB:=Lh (bTr HB hb)
    have UX:=Lh (UX.out.under hb)
    have UY:=Lh (UY.out.under hb)
    have HB6:=Lh hb
    clear hb
    by_cases hlt : i < L
    ·obtain ⟨so,lk,lb,F,G,hx,hFG,hGn,hFn,hlb,hso⟩:=HAT.out i hlt
     have hin : (i : Int) < (L : Int):=by omega
     obtain ⟨b,off,hA,_,hbl,hrg⟩:=UX.out.elem (f:=anC) (sz:=5) (fun _ => rfl) hx hlt
     obtain ⟨b',off',hA',_,hbl',hrg'⟩:=UY.out.elem (f:=anC) (sz:=5) (fun _ => rfl) hx hlt
     subst hA hA'
     have hprev : i = 0 ∨ ∃ j F',i = j + 1 ∧ F' < F ∧ wr.cell? ⟨b,off + j * 5 + 3,none⟩ = some (.int .i64 ((F' : Nat) : Int)):=by
      rcases Nat.eq_zero_or_pos i with h0 | h0
      ·exact .inl h0
      ·obtain ⟨j,rfl⟩ : ∃ j,i = j + 1:=⟨i - 1,by omega⟩
       obtain ⟨so',lk',lb',F',G',hx',_⟩:=HAT.out j (by omega)
       obtain ⟨b2,off2,e2,_,_,hrg2⟩:=UX.out.elem (f:=anC) (sz:=5) (fun _ => rfl) hx' (show j < L by omega)
       injection e2 with e2
       injection e2 with e3 e4
       subst e3 e4
       have hlt2 : ((F' : Nat) : Int) < (F : Int):=HPR.out j _ _ hx' hx
       exact .inr ⟨j,F',rfl,by omega,hrg2 3 _ rfl⟩
     obtain ⟨bk,ofk,hAk,_,_⟩:=(XX.out _ HB.out).2 (by omega)
     subst hAk
     have HCV : Hid (∀ W,Below w.heap.size w W → (convert 22 9 (.slice (some ⟨bk,ofk + F,none⟩) (G - F) (c - F))).run Tryz.prog W = .ok (.string lb) W):=Lh fun W hW => by
      have h1:=(XX.out W hW).piece (lo:=F) (hi:=G) hFG hGn (A':=some ⟨bk,ofk + F,none⟩) (fun _ _ e _ => by cases e; rfl)
      rw [by8_take,by8_drop] at h1
      have h2:=convert_sh h1 (c - F)
      rw [List.drop_take] at h2
      rw [← hlb]
      exact h2
     have hso2 : (so = true ∧ (lb.toList == []) = false) ∨ (so = false ∧ (lb.toList == []) = true):=by
      rw [toList_nil]
      cases so with
      | true => exact .inl ⟨rfl,decide_eq_false (by have:=hso.1 rfl; omega)⟩
      | false => exact .inr ⟨rfl,decide_eq_true (by have : ¬ 0 < lb.size:=(fun h => by cases hso.2 h); omega)⟩
     have hza:=zeroAn
     have HHC:=Lh hrg'
     have c1 : decide ((F : Int) < 0) = false:=decide_eq_false (by omega)
     have c2 : decide ((G : Int) < (F : Int)) = false:=decide_eq_false (by omega)
     have c3 : decide (G < F) = false:=decide_eq_false (by omega)
     have c4 : decide ((n : Int) < (G : Int)) = false:=decide_eq_false (by omega)
     have c5 : decide (n < G) = false:=decide_eq_false (by omega)
     have c6 : (F : Int) ≤ (G : Int):=by omega
     have c7 : (G : Int) ≤ (c : Int):=by omega
     have c8 : ¬ (c : Int) = (F : Int):=by omega
     have c9 : (0 : Int) ≤ (F : Int):=by omega
     have hs6:=HB.out.size
     clear hx hlb hso
     rcases hprev with h0 | ⟨j,F',hj,hFF,hcp⟩
     all_goals rcases hso2 with ⟨rfl,hl⟩ | ⟨rfl,hl⟩
     all_goals first
      | (have d0 : decide ((0 : Int) < (i : Int)) = false:=decide_eq_false (by omega); have d2 : decide (0 < i) = false:=decide_eq_false (by omega); have HCP : Hid True:=Lh trivial; clear h0)
      | (have d0 : decide ((0 : Int) < (i : Int)) = true:=decide_eq_true (by omega); have d2 : decide (0 < i) = true:=decide_eq_true (by omega); have w1 : IntKind.i64.wrap ((i : Int) - 1) = (j : Int):=(IntWalk.i64_in _ (by omega)).trans (by omega); have hjL : (j : Int) < (L : Int):=(by omega); have g0 : decide ((F : Int) ≤ (F' : Int)) = false:=decide_eq_false (by omega); have g2 : decide (F ≤ F') = false:=decide_eq_false (by omega); have HCP : Hid (∀ W,Below wr.heap.size wr W → W.cell? ⟨b,off + j * 5 + 3,none⟩ = some (.int .i64 ((F' : Nat) : Int))):=Lh fun W hW => (World.cell?_of_block (a:=⟨b,_,none⟩) (hW.block b hbl)).trans hcp; clear hj hcp hFF)
     all_goals
      go_wp2_with (first
       | (refine wpList_ldV rfl 36 _ rfl b (off + i * 5) rfl (anC ⟨_,lk,lb,(F : Int),(G : Int)⟩) hrg Tryz.underlying36 rfl info_an ?_)
       | (refine wpList_stV rfl 36 _ _ rfl (G:=wr.heap.size) (off:=0) rfl (us:=anC ⟨_,lk,lb,(F : Int),(G : Int)⟩) (Var.new wr (anC An.nul) 36 rfl) rfl info_an (Nat.le_refl 5) (anC_one _) ?_; intro w91 ht hs; have bb:=((Tn.alloc (fun k => k = wr.heap.size) wr (.cells #[.bool false,.bool false,.string ⟨#[]⟩,.int .i64 0,.int .i64 0] 36)).trans ht).below nLe (by intro k hk e; omega); have JV:=Lh (show Var w91 wr.heap.size (anC ⟨_,lk,lb,(F : Int),(G : Int)⟩) from hs); have HBB:=Lh bb; clear ht hs bb; refine Hid.out ?_)
       | fail)
     all_goals
      have q0:=JV.out.at 0 rfl
      have q1:=JV.out.at 1 rfl
      have q2:=JV.out.at 2 rfl
      have q3:=JV.out.at 3 rfl
      have q4:=JV.out.at 4 rfl
      have hr9 : w91.rangeAt b' (off' + i * 5) (anC ⟨_,lk,lb,(F : Int),(G : Int)⟩):=fun j u hu => (World.cell?_of_block (a:=⟨b',_,none⟩) (HBB.out.block b' hbl')).trans (HHC.out j u hu)
      have r0:=hr9 0 _ rfl
      have r1:=hr9 1 _ rfl
      have r2:=hr9 2 _ rfl
      have r3:=hr9 3 _ rfl
      have r4:=hr9 4 _ rfl
      rw [Nat.add_zero] at r0
      have hcv : ∀ q,(convert 22 9 (.slice (some ⟨bk,ofk + F,none⟩) (G - F) (c - F))).run Tryz.prog (w91.drewN q) = .ok (.string lb) (w91.drewN q):=fun q => HCV.out _ ((HB.out.trans (HBB.out.mono HB.out.size)).trans ((Quiet.one w91 q).below _))
      have hcp9:=HCP.out
      have HBW:=Lh (HB6.out.trans (HBB.out.mono HB6.out.size))
      try (have hcp9:=hcp9 w91 HBB.out)
      clear hr9
      refine Lh ?_
      go_wp2
      go_quiet (fail)
      go_wp2
      go_roundw
      case' rel => exact ⟨i + 1,by go_num,hlt,HBW.out.trans ((Quiet.one w91 _).below _)⟩
      case' measure => (simp [intOf]; omega)
    ·obtain rfl : i = L:=by omega
     go_wp2_with (first
      | (go_at_call 10; (with_reducible refine (HAW.out _ HB.out).mono ?_); rintro e w9 ⟨rfl,b⟩; have HB:=Lh (bTr HB b); clear b)
      | fail)
     go_ret
     exact ⟨rfl,HB.out⟩
  ·have hr1 : (X3 == 0) = false:=by simp [hz]
   have hr2 : (X3 != 0) = true:=by simp [hz]
   have hr3 : decide (X3 = 0) = false:=by simp [hz]
   go_enter Tryz.func3,Tryz.ntmps3
   go_wp2_with (first
    | (go_at_call 11; (with_reducible refine (HPA.out _ HB.out).mono ?_); rintro e w1 ⟨va,rfl,hs2,hb2⟩; have honeX:=hs2.one MA.hl MA.he; have MX:=Lh (hs2.weak (S':=fun _ => True) fun b hb _ => trivial); have HB:=Lh (bTr HB hb2); clear hs2 hb2; unfold moV; dsimp only)
    | (refine wpList_stV rfl 29 _ _ rfl (G:=w1.heap.size) (off:=0) rfl (us:=moC MA.hl MA.he va) (Var.new w1 (moC false false MoV.nul) 29 rfl) rfl info_mo (Nat.le_refl 7) honeX ?_; intro w2 ht hs; have bb:=((Tn.alloc (fun k => k = w1.heap.size) w1 (.cells #[.slice none 0 0,.bool false,.slice none 0 0,.bool false,.slice none 0 0,.slice none 0 0,.slice none 0 0] 29)).trans ht).below nLe (by intro k hk e; omega); have MX:=Lh (MX.out.under bb); have HB:=Lh (bTr HB bb); have VX:=Lh (show Var w2 w1.heap.size (moC MA.hl MA.he va) from hs); have hszX:=bb.size; clear ht hs bb)
    | (go_at_call 10; (with_reducible refine (HAW.out _ HB.out).mono ?_); rintro e w9 ⟨rfl,b⟩; have HB:=Lh (bTr HB b); clear b)
    | fail)
   go_ret
   exact ⟨rfl,HB.out⟩
end Go.Proofs.YtkjhlgnpohamnaaGreatDoor
