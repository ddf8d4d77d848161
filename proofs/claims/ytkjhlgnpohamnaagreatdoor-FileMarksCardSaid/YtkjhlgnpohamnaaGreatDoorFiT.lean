import Derived.Test.YtkjhlgnpohamnaaGreatDoorSq
import Derived.Test.YtkjhlgnpohamnaaGreatDoorFiR
import Derived.BigQuiet
namespace Go.Proofs.YtkjhlgnpohamnaaGreatDoor
set_option linter.unusedVariables false
set_option linter.unusedSimpArgs false
open Go.RowKit
set_option maxRecDepth 100000 in
set_option maxHeartbeats 12800000 in
theorem rmarks_any (m : MoT) (v : MoV) (w : World) (S : Nat → Prop) (h : MoSh w S m v) (hN : m.mks.length ≤ 100000) (hC : ∀ f ∈ m.fn,cts f.bd ≤ 2000000) (hR : ∀ f ∈ m.fn,lmr f.bd = lms f.bd) {K : List An} {L : Nat} (hs : SrtA K) (hf : FlA K m.mks) (hL : m.mks.length = L) :
  CP 13 #[moV m.hl m.he v] w (MkL K L w):=by
 have hz2:=zeroFn
 obtain ⟨FL,hfl,hF,hFS⟩:=h.fn
 have hV:=h.va
 obtain ⟨im,la,ef,va,fn⟩:=v
 dsimp only at hV hF
 obtain ⟨Av,cv,rfl⟩:=hV.formA
 obtain ⟨Af,cf,rfl⟩:=hF.formA
 obtain ⟨nV,hnV⟩ : ∃ n,m.va.length = n:=⟨_,rfl⟩
 obtain ⟨nF,hnF⟩ : ∃ n,FL.length = n:=⟨_,rfl⟩
 rw [hnV] at hV
 rw [hnF] at hF
 have hmf : m.fn.length = nF:=by rw [← hfl,List.length_map,hnF]
 have hml : m.mks.length = nV + (m.fn.flatMap FnT.mks).length:=by unfold MoT.mks; rw [List.length_append,List.length_map,hnV]
 have hnV2 : nV ≤ 100000:=by omega
 have hnF2 : nF ≤ 100000:=by have:=fn_len m.fn; omega
 have hL2 : L ≤ 100000:=by omega
 have HNV:=Lh hnV
 have HMF:=Lh hmf
 have HML:=Lh hml
 have HFL:=Lh hfl
 have HV:=Lh hV
 have HF:=Lh hF
 have HFS:=Lh hFS
 have HC:=Lh hC
 have HN:=Lh hN
 have HR:=Lh hR
 have HS:=Lh hs
 have HFK:=Lh hf
 have HLL:=Lh hL
 rw [hnV,hnF]
 have hJ0 : Var (w.alloc (.cells #[im,.bool m.hl,la,.bool m.he,ef,.slice Av nV cv,.slice Af nF cf] 29)) w.heap.size [im,.bool m.hl,la,.bool m.he,ef,.slice Av nV cv,.slice Af nF cf]:=Var.new w _ 29 rfl
 have hB1 : Below w.heap.size w (w.alloc (.cells #[im,.bool m.hl,la,.bool m.he,ef,.slice Av nV cv,.slice Af nF cf] 29)):=bAl
 have hs1 : (w.alloc (.cells #[im,.bool m.hl,la,.bool m.he,ef,.slice Av nV cv,.slice Af nF cf] 29)).heap.size = w.heap.size + 1:=by simp
 obtain ⟨w1,hw1⟩ : ∃ w1,w.alloc (.cells #[im,.bool m.hl,la,.bool m.he,ef,.slice Av nV cv,.slice Af nF cf] 29) = w1:=⟨_,rfl⟩
 have HW1:=Lh hw1
 rw [hw1] at hJ0 hB1 hs1
 have k5:=hJ0.at 5 rfl
 have k6:=hJ0.at 6 rfl
 have HB1:=Lh hB1
 have HS1:=Lh hs1
 have HK5 : Hid (∀ W,Below (w.heap.size + 1) w1 W → W.cell? ⟨w.heap.size,5,none⟩ = some (.slice Av nV cv) ∧ W.cell? ⟨w.heap.size,6,none⟩ = some (.slice Af nF cf)):=Lh fun W hW => ⟨(World.cell?_of_block (a:=⟨w.heap.size,5,none⟩) (hW.block w.heap.size (by omega))).trans k5,(World.cell?_of_block (a:=⟨w.heap.size,6,none⟩) (hW.block w.heap.size (by omega))).trans k6⟩
 unfold moV MkL
 clear h hV hF hFS hnV hnF hmf hml hfl hN hC hR hs hf hL hJ0 hB1 hs1 hw1 k5 k6
 go_enter Tryz.func13,Tryz.ntmps13
 go_wp2
 rw [HW1.out]
 go_loopw [3,4] (fun lv iv wr => ∃ k : Nat,iv = .int .i64 (k : Int) ∧ k ≤ nV ∧ Own wr (w.heap.size + 1) 36 5 lv k (ans ((m.va.take k).map (·.an))) ∧ Below (w.heap.size + 1) w1 wr) (fun _ iv _ => nV - (intOf iv).toNat)
 case atStart => exact ⟨0,rfl,Nat.zero_le _,Own.nil _ _ _ _ (by rw [HS1.out]; exact Nat.le_refl _),Below.refl _ _⟩
 case round =>
  obtain ⟨k,rfl,hk,hO,hb⟩:=hrel
  have HO:=Lh hO
  have HB:=Lh hb
  have hsw:=hb.size
  rw [HS1.out] at hsw
  obtain ⟨k5,k6⟩:=HK5.out _ hb
  clear hO hb
  by_cases hlt : k < nV
  ·obtain ⟨x,hx⟩ : ∃ x,m.va[k]? = some x:=⟨_,List.getElem?_eq_getElem (by rw [HNV.out]; exact hlt)⟩
   have hBw : Below w.heap.size w wr:=HB1.out.trans (HB.out.mono (Nat.le_succ _))
   obtain ⟨b,off,hA,_,hbl,hrg⟩:=(HV.out.under hBw).elem (f:=vrC) vrC_len hx hlt
   subst hA
   have kr:=rg_sub hrg 3 (us:=anC x.an) rfl
   have hin : (k : Int) < (nV : Int):=by omega
   have HX:=Lh hx
   clear hx hBw hrg
   go_wp2_with (first
    | (refine wpList_ldV rfl 36 _ rfl b (off + k * 8 + 3) rfl (anC x.an) kr Tryz.underlying36 rfl info_an ?_)
    | (refine wpList_build1 rfl 33 36 _ rfl (anC x.an) rfl (by simp [anC]) (by simp [anC]) Tryz.underlying33 info_an (by kernel_rfl) ?_; have HB:=Lh (HB.out.alloc (by omega) (.cells (anC x.an).toArray 36)))
    | (refine wpList_push_b rfl _ _ 33 rfl rowAn wr (w.heap.size + 1) u3 k (ans ((m.va.take k).map (·.an))) (anC x.an) rfl HO.out rfl rfl rfl (anC_one _) (by omega) (by omega) ?_; intro v6 w6 ho6 hg6 hv6; have HB:=Lh (HB.out.grown hg6 (by rw [size_al]; omega) (fun k hk => (HO.out.1.lt k hk).1)); have HO:=Lh ho6; clear ho6 hg6 hv6)
    | fail)
   go_roundw
   case rel => exact ⟨k + 1,by go_num,hlt,HO.out.cast rfl (by rw [ps_take HX.out,ans_snoc]),HB.out⟩
   case measure => simp [intOf]; omega
  ·obtain rfl : k = nV:=by omega
   have hva : (m.va.take k).map (·.an) = m.va.map (·.an):=by rw [List.take_of_length_le (by rw [HNV.out]; exact Nat.le_refl _)]
   rw [hva] at HO
   have HLV : Hid ((m.va.map (·.an)).length = k):=Lh (by rw [List.length_map]; exact HNV.out)
   obtain ⟨VA,hVA⟩ : ∃ VA,m.va.map (·.an) = VA:=⟨_,rfl⟩
   rw [hVA] at HO HLV
   have HVA:=Lh hVA
   clear hva hVA
   obtain ⟨wa,hwa⟩ : ∃ wa,wa = wr:=⟨_,rfl⟩
   subst hwa
   go_wp2
   go_loopw [3,5] (fun lv iv wr => ∃ j : Nat,iv = .int .i64 (j : Int) ∧ j ≤ nF ∧ Own wr (w.heap.size + 1) 36 5 lv (VA ++ (m.fn.take j).flatMap FnT.mks).length (ans (VA ++ (m.fn.take j).flatMap FnT.mks)) ∧ Below (w.heap.size + 1) w1 wr) (fun _ iv _ => nF - (intOf iv).toNat)
   case atStart => exact ⟨0,rfl,Nat.zero_le _,HO.out.cast (by simp [HLV.out]) (by simp),HB.out⟩
   case round =>
    clear HO HB hsw k5 k6
    obtain ⟨j,rfl,hj,hO,hb⟩:=hrel
    have hsw:=hb.size
    rw [HS1.out] at hsw
    obtain ⟨k5,k6⟩:=HK5.out _ hb
    by_cases hlt2 : j < nF
    ·obtain ⟨q,hq⟩ : ∃ q,FL[j]? = some q:=⟨_,List.getElem?_eq_getElem (by have:=congrArg List.length HFL.out; rw [List.length_map,HMF.out] at this; omega)⟩
     have hqf : m.fn[j]? = some q.1:=by rw [← HFL.out,List.getElem?_map,hq]; rfl
     have hqs:=HFS.out q (List.mem_of_getElem? hq)
     have hbd:=HC.out q.1 (List.mem_of_getElem? hqf)
     have hrl:=HR.out q.1 (List.mem_of_getElem? hqf)
     obtain ⟨mt1,mt2⟩:=mks_take hqf
     have hBw : Below w.heap.size w wr:=HB1.out.trans (hb.mono (Nat.le_succ _))
     obtain ⟨b,off,hA,_,hbl,hrg⟩:=(HF.out.under hBw).elem (f:=fun q : FnT × FnV => fnC q.1 q.2) (fun x => fnC_len x.1 x.2) hq hlt2
     subst hA
     obtain ⟨f,⟨pv,rv,bv,ev⟩⟩:=q
     dsimp only at hqf hqs hbd hrl mt1 mt2 hrg
     have hqp:=hqs.ps
     dsimp only at hqp
     obtain ⟨Ap,cp,rfl⟩:=hqp.formA
     obtain ⟨nP,hnP⟩ : ∃ n,f.ps.length = n:=⟨_,rfl⟩
     have hone:=hqs.one
     rw [hnP] at hqp hrg
     rw [hnP] at hone
     obtain ⟨BA,hBA⟩ : ∃ BA,VA ++ (m.fn.take j).flatMap FnT.mks = BA:=⟨_,rfl⟩
     rw [hBA] at hO
     have hfm : f.mks.length = nP + (1 + (lms f.bd).length):=by unfold FnT.mks; rw [List.length_append,List.length_append,List.length_map,hnP]; rfl
     have hBAl : BA.length + f.mks.length ≤ 100000:=by rw [← hBA,List.length_append,HLV.out]; have h1:=HML.out; have h2:=HN.out; omega
     have HBA:=Lh hBA
     have HMT:=Lh mt1
     have HFM:=Lh hfm
     have hno : ∀ k,u3.ownBlock = some k → k < wr.heap.size:=fun k hk => (hO.1.lt k hk).2
     have HO:=Lh hO
     have HB:=Lh hb
     have HNP:=Lh hnP
     have HQP:=Lh hqp
     have HQS:=Lh hqs
     have HBD:=Lh hbd
     have HRL:=Lh hrl
     have hin : (j : Int) < (nF : Int):=by omega
     have hnP2 : nP ≤ 100000:=by omega
     clear hO hb hq hqf hqs hbd hrl mt1 mt2 hBw hqp hnP hBA hfm
     obtain ⟨we,hwe⟩ : ∃ we,we = wr:=⟨_,rfl⟩
     subst hwe
     go_wp2_with (first
      | (refine wpList_ldV rfl 79 _ rfl b (off + j * 18) rfl (fnC f ⟨.slice Ap nP cp,rv,bv,ev⟩) hrg Tryz.underlying79 rfl info_fn ?_)
      | (refine wpList_stV rfl 79 _ _ rfl (G:=we.heap.size) (off:=0) rfl (us:=fnC f ⟨.slice Ap nP cp,rv,bv,ev⟩) (Var.new we (fnC FnT.nul ⟨.slice none 0 0,.slice none 0 0,.slice none 0 0,.slice none 0 0⟩) 79 rfl) rfl info_fn (Nat.le_refl 18) hone ?_; intro w4 ht hs; have ta:=Tn.alloc (fun k => k = we.heap.size) we (.cells #[.string ⟨#[]⟩,.int .i64 0,.slice none 0 0,.int .i64 0,.bool false,.bool false,.string ⟨#[]⟩,.int .i64 0,.int .i64 0,.bool false,.slice none 0 0,.slice none 0 0,.int .i64 0,.int .i64 0,.int .i64 0,.string ⟨#[]⟩,.string ⟨#[]⟩,.slice none 0 0] 79); have HB:=Lh (HB.out.trans ((ta.trans ht).below (by omega) (fun k hk e => by omega))); have HO:=Lh (HO.out.turn (ta.trans ht) (fun k hk e => by have:=(HO.out.1.lt k hk).2; omega)); have JF:=Lh (show Var w4 we.heap.size (fnC f ⟨.slice Ap nP cp,rv,bv,ev⟩) from hs); have hsw4:=ht.size; rw [size_al] at hsw4; clear ht hs ta; have k2:=JF.out.at 2 rfl)
      | fail)
     go_loopw [3,7] (fun lv iv wr => ∃ i : Nat,iv = .int .i64 (i : Int) ∧ i ≤ nP ∧ Own wr (w.heap.size + 1) 36 5 lv (BA.length + i) (ans (BA ++ (f.ps.take i).map (·.an))) ∧ (∀ k,lv.ownBlock = some k → k ≠ we.heap.size) ∧ Var wr we.heap.size (fnC f ⟨.slice Ap nP cp,rv,bv,ev⟩) ∧ we.heap.size + 1 ≤ wr.heap.size ∧ Below (w.heap.size + 1) w1 wr) (fun _ iv _ => nP - (intOf iv).toNat)
     case atStart => exact ⟨0,rfl,Nat.zero_le _,HO.out.cast rfl (by simp),fun k hk e => by have:=hno k hk; omega,JF.out,hsw4,HB.out⟩
     case round =>
      clear HO HB JF hsw4 hno k2 k5 k6
      obtain ⟨i,rfl,hi,hO,hno,hJF,hsw5,hb⟩:=hrel
      have HO:=Lh hO
      have HB:=Lh hb
      have JF:=Lh hJF
      have HNO:=Lh hno
      have hswr:=hb.size
      rw [HS1.out] at hswr
      have k2:=hJF.at 2 rfl
      by_cases hlt3 : i < nP
      ·obtain ⟨x,hx⟩ : ∃ x,f.ps[i]? = some x:=⟨_,List.getElem?_eq_getElem (by rw [HNP.out]; exact hlt3)⟩
       have hBw : Below w.heap.size w wr:=HB1.out.trans (HB.out.mono (Nat.le_succ _))
       obtain ⟨b3,off3,hA,_,hbl3,hrg3⟩:=(HQP.out.under hBw).elem (f:=vrC) vrC_len hx hlt3
       subst hA
       have kr:=rg_sub hrg3 3 (us:=anC x.an) rfl
       have hin : (i : Int) < (nP : Int):=by omega
       have hBAi : BA.length + i < 100000:=by have:=HFM.out; omega
       have HX:=Lh hx
       clear hx hBw hO hb hJF hno hrg3
       go_wp2_with (first
        | (refine wpList_ldV rfl 36 _ rfl b3 (off3 + i * 8 + 3) rfl (anC x.an) kr Tryz.underlying36 rfl info_an ?_)
        | (refine wpList_build1 rfl 33 36 _ rfl (anC x.an) rfl (by simp [anC]) (by simp [anC]) Tryz.underlying33 info_an (by kernel_rfl) ?_; have HB:=Lh (HB.out.alloc (by omega) (.cells (anC x.an).toArray 36)))
        | (refine wpList_push_b rfl _ _ 33 rfl rowAn wr (w.heap.size + 1) u3 (BA.length + i) (ans (BA ++ (f.ps.take i).map (·.an))) (anC x.an) rfl HO.out rfl rfl rfl (anC_one _) (by omega) (by omega) ?_; intro v7 w7 ho6 hg6 hv6; have HB:=Lh (HB.out.grown hg6 (by rw [size_al]; omega) (fun k hk => (HO.out.1.lt k hk).1)); have JF:=Lh ((JF.out.under (bRf.alloc nLe (.cells (anC x.an).toArray 36))).turn (Tn.of_gb (M:=fun k => u3.ownBlock = some k) hg6 fun k e _ => e) (fun e => HNO.out _ e rfl)); have HNO : Hid (∀ k,v7.ownBlock = some k → k ≠ we.heap.size):=Lh (fun k hk e => by rcases hv6 with h | h; exact HNO.out k (by rw [← h]; exact hk) e; rw [h] at hk; injection hk; omega); have HO:=Lh ho6; have hsw7:=hg6.size; rw [size_al] at hsw7; clear ho6 hg6 hv6)
        | fail)
       go_roundw
       case rel => exact ⟨i + 1,by go_num,hlt3,HO.out.cast rfl (by rw [ps_take HX.out,← List.append_assoc,ans_snoc]),HNO.out,JF.out,by omega,HB.out⟩
       case measure => simp [intOf]; omega
      ·obtain rfl : i = nP:=by omega
       have hps : (f.ps.take i).map (·.an) = f.ps.map (·.an):=by rw [List.take_of_length_le (by rw [HNP.out]; exact Nat.le_refl _)]
       rw [hps] at HO
       have hbs:=HQS.out.bd
       have hbone:=hbs.one
       dsimp only at hbs hbone
       have k11:=JF.out.at 11 rfl
       have hBAi : BA.length + i + (1 + (lms f.bd).length) ≤ 100000:=by have:=HFM.out; omega
       have HLT : Hid (∀ W,Below w.heap.size w W → CP 37 #[bv] W (LtTo f.bd W)):=Lh fun W hW => by
        have h:=rlets_any _ f.bd rfl HBD.out bv W S (hbs.under hW)
        unfold RlTo at h
        rw [HRL.out] at h
        exact h
       clear hbs hO hb hJF hno hps
       obtain ⟨wi,hwi⟩ : ∃ wi,wi = wr:=⟨_,rfl⟩
       subst hwi
       go_wp2_with (first
        | (refine wpList_ldV rfl 36 _ rfl we.heap.size 4 rfl (anC f.an) (JF.out.mid 4 (anC f.an) rfl) Tryz.underlying36 rfl info_an ?_)
        | (refine wpList_build1 rfl 33 36 _ rfl (anC f.an) rfl (by simp [anC]) (by simp [anC]) Tryz.underlying33 info_an (by kernel_rfl) ?_; have HB:=Lh (HB.out.alloc (by omega) (.cells (anC f.an).toArray 36)))
        | (refine wpList_push_b rfl _ _ 33 rfl rowAn wi (w.heap.size + 1) u3 (BA.length + i) (ans (BA ++ f.ps.map (·.an))) (anC f.an) rfl HO.out rfl rfl rfl (anC_one _) (by omega) (by omega) ?_; intro v7 w7 ho6 hg6 hv6; have HB:=Lh (HB.out.grown hg6 (by rw [size_al]; omega) (fun k hk => (HO.out.1.lt k hk).1)); have JF:=Lh ((JF.out.under (bRf.alloc nLe (.cells (anC f.an).toArray 36))).turn (Tn.of_gb (M:=fun k => u3.ownBlock = some k) hg6 fun k e _ => e) (fun e => HNO.out _ e rfl)); have HO:=Lh ho6; have hsw7:=hg6.size; rw [size_al] at hsw7; clear ho6 hg6 hv6 k11; have k11:=JF.out.at 11 rfl)
        | (go_at_call 37; (with_reducible refine (HLT.out _ (HB1.out.trans (HB.out.mono (Nat.le_succ _)))).mono ?_); rintro e w8 ⟨lu,rfl,hlo,hlb⟩; have HO:=Lh (HO.out.turn (Tn.of_below (fun _ => False) hlb) (fun _ _ h => h)); have HB:=Lh (HB.out.trans (hlb.mono (by omega))); have HLU:=Lh (ShV.of_own (S:=fun _ => True) hlo (fun _ _ _ _ => trivial)); have hsw8:=hlb.size; clear hlo hlb; dsimp only)
        | (refine wpList_push_v rfl _ _ 33 rfl rowAn w8 (w.heap.size + 1) v7 (BA.length + i + 1) _ (ans (lms f.bd)) rfl HO.out (m:=(lms f.bd).length) rfl HLU.out (ans_len _) (ans_one _) (by omega) (by omega) ?_; intro v9 w9 ho9 hg9 hv9; have HB:=Lh (HB.out.grown hg9 (by omega) (fun k hk => (HO.out.1.lt k hk).1)); have HO:=Lh ho9; clear ho9 hg9 hv9)
        | fail)
       go_roundw
       case rel =>
        exact ⟨j + 1,by go_num,hlt2,HO.out.cast (by rw [HMT.out,← List.append_assoc,HBA.out,List.length_append,HFM.out]; omega) (by
         rw [HMT.out,← List.append_assoc,HBA.out]
         unfold FnT.mks
         simp [ans]),HB.out⟩
       case measure => simp [intOf]; omega
    ·obtain rfl : j = nF:=by omega
     have hfn : VA ++ (m.fn.take j).flatMap FnT.mks = m.mks:=by rw [List.take_of_length_le (by rw [HMF.out]; exact Nat.le_refl _),← HVA.out]; rfl
     rw [hfn,HLL.out] at hO
     have HO:=Lh hO
     have HB:=Lh (HB1.out.trans (hb.mono (Nat.le_succ _)))
     clear hO hb hfn k5 HNV HMF HML HFL HV HF HFS HC HN HR HB1 HS1 HK5 HLV HVA HW1
     obtain ⟨AA,cA,rfl⟩:=HO.out.form
     obtain ⟨M,hM⟩ : ∃ M,m.mks = M:=⟨_,rfl⟩
     rw [hM] at HO HFK HLL
     have HALL : Hid (∀ W,Below wr.heap.size wr W → ShV W (fun _ => True) (.slice AA L cA) L (ans M)):=Lh fun W hW => (ShV.of_own (S:=fun _ => True) HO.out (fun _ _ _ _ => trivial)).under hW
     clear hM HO
     obtain ⟨wb,hwb⟩ : ∃ wb,wb = wr:=⟨_,rfl⟩
     subst hwb
     go_wp2
     clear k6
     go_loopw [8,9] (fun lv iv wr => ∃ (i : Nat) (O : List An),iv = .int .i64 (i : Int) ∧ i ≤ L ∧ O.length = i ∧ SrtA O ∧ FlA O (M.take i) ∧ (i = 0 → lv = .slice none 0 0) ∧ Own wr wb.heap.size 36 5 lv i (ans O) ∧ Below wb.heap.size wb wr) (fun _ iv _ => L - (intOf iv).toNat)
     case atStart => exact ⟨0,[],rfl,Nat.zero_le _,rfl,List.Pairwise.nil,⟨rfl,fun _ => rfl⟩,(fun _ => rfl),Own.nil _ _ _ _ nLe,Below.refl _ _⟩
     case round =>
      obtain ⟨i,O,rfl,hi,hOl,hOs,hOf,hnil,hO,hb⟩:=hrel
      have HO:=Lh hO
      have HBB:=Lh hb
      have HOL:=Lh hOl
      have HOS:=Lh hOs
      have HOF:=Lh hOf
      have hsb:=hb.size
      clear hO hb hOl hOs hOf
      by_cases hlt4 : i < L
      ·obtain ⟨x,hx⟩ : ∃ x,M[i]? = some x:=⟨_,List.getElem?_eq_getElem (by rw [HLL.out]; exact hlt4)⟩
       have hin : (i : Int) < (L : Int):=by omega
       obtain ⟨bA,offA,hA,_,hbl,hrg⟩:=(HALL.out _ HBB.out).elem (f:=anC) (sz:=5) (fun _ => rfl) hx hlt4
       subst hA
       have hc3:=(HALL.out _ HBB.out).more
       have HMX:=Lh hx
       have HRG:=Lh hrg
       clear hx hrg
       have hone : ∀ u ∈ anC x,u.oneCell' = true:=anC_one _
       obtain ⟨wc,hwc⟩ : ∃ wc,wc = wr:=⟨_,rfl⟩
       subst hwc
       rcases Nat.eq_zero_or_pos i with hi0 | hi0
       ·subst hi0
        have hnl:=hnil rfl
        subst hnl
        obtain rfl:=List.eq_nil_of_length_eq_zero HOL.out
        clear HO hnil
        go_wp2
        go_loopw [10] (fun kv wr => kv = .int .i64 0 ∧ Below wc.heap.size wc wr) (fun kv _ => (intOf kv).toNat)
        case atStart => exact ⟨rfl,Below.refl _ _⟩
        case round =>
         obtain ⟨rfl,hb2⟩:=hrel
         have hbA:=hb2.block bA hbl
         have hrx : wr.rangeAt bA (offA + 0 * 5) (anC x):=fun j u hu => (World.cell?_of_block (a:=⟨bA,_,none⟩) hbA).trans (HRG.out j u hu)
         have HBB2:=Lh (bTr HBB hb2)
         have hs2:=hb2.size
         clear hb2 hbA
         go_wp2
         go_quiet (fail)
         obtain ⟨wd,hwd⟩ : ∃ W,wr.drewN nq = W:=⟨_,rfl⟩
         have hq:=(Quiet.one wr nq).below wr.heap.size
         rw [hwd] at hq ⊢
         have hqs:=hq.size
         have hrx : wd.rangeAt bA (offA + 0 * 5) (anC x):=fun j u hu => (World.cell?_of_block (a:=⟨bA,_,none⟩) (hq.block bA (by omega))).trans (hrx j u hu)
         have HB:=Lh ((Below.refl wd.heap.size wd).alloc nLe (.cells #[] 36))
         have HBB2:=Lh (bTr HBB2 hq)
         have hra : (wd.alloc (.cells #[] 36)).rangeAt bA offA (anC x):=fun j u hu => (World.cell?_of_block (a:=⟨bA,_,none⟩) (HB.out.block bA (by omega))).trans (hrx j u hu)
         have hs3:=HB.out.size
         clear hwd hq
         go_wp2_with (first
          | (refine wpList_ldV rfl 36 _ rfl bA offA rfl (anC x) hra Tryz.underlying36 rfl info_an ?_)
          | (refine wpList_build1 rfl 33 36 _ rfl (anC x) rfl (by simp [anC]) (by simp [anC]) Tryz.underlying33 info_an (by kernel_rfl) ?_; have HB:=Lh (HB.out.alloc (by omega) (.cells (anC x).toArray 36)))
          | (refine wpList_push_b rfl (.tmp 97) (.tmp 102) 33 rfl rowAn (wd.alloc (.cells #[] 36)) wd.heap.size (.slice (some ⟨wd.heap.size,0,none⟩) 0 0) 0 [] (anC x) rfl (Own.empty wd wd.heap.size 36 5 nLe) rfl (by simp) rfl hone (by omega) (by omega) ?_; intro v6 w6 ho6 hg6 hv6; have HB:=Lh (HB.out.grown hg6 (by rw [size_al]; omega) (fun k hk => Nat.le_of_eq (Option.some.inj hk))); have HO:=Lh (ho6.cast (Nat.zero_add 1) (List.nil_append _)); clear ho6 hg6 hv6; obtain ⟨g6,c6,hv6,_,_⟩:=HO.out.1.form (by omega); subst hv6; refine Hid.out ?_)
          | fail)
         have hcap6:=HO.out.cap
         have hsb2:=HBB2.out.size
         obtain ⟨p1,p2⟩:=put_srt (O:=[]) (x:=x) (k:=0) HOS.out (fun y hy => by cases hy) (fun y hy => by cases hy)
         have HP1:=Lh p1
         have HP2:=Lh (fl_step HOF.out HMX.out p2)
         clear p1 p2
         refine Lh ?_
         go_wp2_with (first
          | (refine wpList_push_v rfl (.tmp 104) (.tmp 107) 33 rfl rowAn w6 wd.heap.size (.slice (some ⟨g6,0,none⟩) 1 c6) 1 (anC x) [] rfl HO.out (m:=0) rfl (ShV.nil (S:=fun _ => True)) rfl (fun u hu => by cases hu) (by omega) (by omega) ?_; intro v8 w8 ho8 hg8 hv8; have HB:=Lh (HB.out.grown hg8 HB.out.size (fun k hk => (HO.out.1.lt k hk).1)); have HO:=Lh ho8; clear ho8 hg8 hv8)
          | fail)
         go_roundw
         case rel => exact ⟨1,[x],by go_num,hlt4,rfl,HP1.out,HP2.out,(fun h => absurd h (by omega)),(HO.out.cast rfl (by simp [ans])).lower hsb2,HBB2.out.trans (HB.out.mono hsb2)⟩
         case measure => simp [intOf]; omega
       ·have hfm:=HO.out.1.form hi0
        obtain ⟨gO,cO,hAO,hgB,hgl⟩:=hfm
        subst hAO
        have hcap:=HO.out.cap
        go_wp2
        go_loopw [10] (fun kv wr => ∃ k : Nat,kv = .int .i64 (k : Int) ∧ k ≤ i ∧ (∀ y ∈ O.drop k,x.fr < y.fr) ∧ Below wc.heap.size wc wr) (fun kv _ => (intOf kv).toNat)
        case atStart => exact ⟨i,rfl,Nat.le_refl _,(fun y hy => by rw [List.drop_of_length_le (by rw [HOL.out]; exact Nat.le_refl _)] at hy; cases hy),Below.refl _ _⟩
        case round =>
         obtain ⟨k,rfl,hk,hdr,hb2⟩:=hrel
         have hbA:=hb2.block bA hbl
         have hcx : wr.cell? ⟨bA,offA + i * 5 + 3,none⟩ = some (.int .i64 x.fr):=(World.cell?_of_block (a:=⟨bA,_,none⟩) hbA).trans (HRG.out 3 _ rfl)
         have hrx : wr.rangeAt bA (offA + i * 5) (anC x):=fun j u hu => (World.cell?_of_block (a:=⟨bA,_,none⟩) hbA).trans (HRG.out j u hu)
         have HO2:=Lh (HO.out.below hb2)
         have HBB2:=Lh (bTr HBB hb2)
         have HB2:=Lh hb2
         have HDR:=Lh hdr
         have hs2:=hb2.size
         have hkc : (k : Int) ≤ (cO : Int):=by have:=hcap.1; omega
         have hki : (k : Int) ≤ (i : Int):=by omega
         have e1 : (0 : Int) ≤ (k : Int):=by omega
         clear hb2 hdr hbA
         rcases Nat.eq_zero_or_pos k with h0 | h0
         ·have d0 : decide ((0 : Int) < (k : Int)) = false:=decide_eq_false (by omega)
          have d1 : ¬ (0 : Int) < (k : Int):=by omega
          have d2 : decide (0 < k) = false:=decide_eq_false (by omega)
          have HLOW : Hid (∀ y ∈ O.take k,y.fr ≤ x.fr):=Lh (by subst h0; simp)
          clear h0
          go_wp2
          go_quiet (fail)
          obtain ⟨wd,hwd⟩ : ∃ W,wr.drewN nq = W:=⟨_,rfl⟩
          have hq:=(Quiet.one wr nq).below wr.heap.size
          rw [hwd] at hq ⊢
          have hqs:=hq.size
          have hrx : wd.rangeAt bA (offA + i * 5) (anC x):=fun j u hu => (World.cell?_of_block (a:=⟨bA,_,none⟩) (hq.block bA (by omega))).trans (hrx j u hu)
          have HO2:=Lh (HO2.out.below hq)
          have HBB2:=Lh (bTr HBB2 hq)
          have HC1:=Lh (ShV.of_own (S:=fun b => b < wd.heap.size) (HO2.out.cut hk) (fun b _ h _ => h))
          rw [ans_take] at HC1
          clear hcx hwd hq HB2
          have HB:=Lh (Below.refl wd.heap.size wd)
          go_wp2_with (first
           | (refine wpList_push_v rfl (.tmp 92) (.tmp 95) 33 rfl rowAn (wd.alloc (.cells #[] 36)) wd.heap.size (.slice (some ⟨wd.heap.size,0,none⟩) 0 0) 0 [] (ans (O.take k)) rfl (Own.empty wd wd.heap.size 36 5 nLe) (m:=k) rfl (HC1.out.under bAl) (by rw [ans_len,List.length_take,HOL.out]; omega) (ans_one _) (by omega) (by omega) ?_; intro v9 w9 ho9 hg9 hv9; have HB:=Lh ((HB.out.alloc nLe (.cells #[] 36)).grown hg9 (by rw [size_al]; omega) (fun k hk => Nat.le_of_eq (Option.some.inj hk))); have HO:=Lh (ho9.cast (Nat.zero_add _) (List.nil_append _)); have hs9:=HB.out.size; have hra : w9.rangeAt bA (offA + i * 5) (anC x):=fun j u hu => (World.cell?_of_block (a:=⟨bA,_,none⟩) (HB.out.block bA (by omega))).trans (hrx j u hu); clear ho9 hg9 hv9)
           | (refine wpList_ldV rfl 36 _ rfl bA (offA + i * 5) rfl (anC x) hra Tryz.underlying36 rfl info_an ?_)
           | (refine wpList_build1 rfl 33 36 _ rfl (anC x) rfl (by simp [anC]) (by simp [anC]) Tryz.underlying33 info_an (by kernel_rfl) ?_; have HB:=Lh (HB.out.alloc (by omega) (.cells (anC x).toArray 36)))
           | (refine wpList_push_b rfl (.tmp 97) (.tmp 102) 33 rfl rowAn w9 wd.heap.size v9 k (ans (O.take k)) (anC x) rfl HO.out rfl rfl rfl hone (by omega) (by omega) ?_; intro v6 w6 ho6 hg6 hv6; have HB:=Lh (HB.out.grown hg6 (by rw [size_al]; omega) (fun k hk => (HO.out.1.lt k hk).1)); have HO:=Lh ho6; clear ho6 hg6 hv6; refine Hid.out ?_)
           | fail)
          refine Lh ?_
          have HC2:=Lh ((ShV.of_own (S:=fun _ => True) HO2.out (fun _ _ _ _ => trivial)).dropA hk)
          have hsb2:=HBB2.out.size
          obtain ⟨p1,p2⟩:=put_srt HOS.out HLOW.out HDR.out
          have HP1:=Lh p1
          have HP2:=Lh (fl_step HOF.out HMX.out p2)
          clear p1 p2
          go_wp2_with (first
           | (refine wpList_push_v rfl (.tmp 104) (.tmp 107) 33 rfl rowAn w6 wd.heap.size v6 (k + 1) (ans (O.take k) ++ anC x) (ans (O.drop k)) rfl HO.out (m:=i - k) rfl (HC2.out.under HB.out) (by rw [ans_len,List.length_drop,HOL.out]) (ans_one _) (by omega) (by omega) ?_; intro v8 w8 ho8 hg8 hv8; have HB:=Lh (HB.out.grown hg8 HB.out.size (fun k hk => (HO.out.1.lt k hk).1)); have HO:=Lh ho8; clear ho8 hg8 hv8)
           | fail)
          go_roundw
          case rel =>
           exact ⟨i + 1,_,by go_num,hlt4,by simp [HOL.out]; omega,HP1.out,HP2.out,(fun h => absurd h (by omega)),(HO.out.cast (show _ = i + 1 by omega) (by simp [ans])).lower hsb2,HBB2.out.trans (HB.out.mono hsb2)⟩
          case measure => simp [intOf]; omega
         ·obtain ⟨j,hj⟩ : ∃ j,k = j + 1:=⟨k - 1,by omega⟩
          obtain ⟨y,hy⟩ : ∃ y,O[j]? = some y:=⟨_,List.getElem?_eq_getElem (by rw [HOL.out]; omega)⟩
          obtain ⟨gO',ofO,hAO,_,hgl',hrgO⟩:=(ShV.of_own (S:=fun _ => True) HO2.out (fun _ _ _ _ => trivial)).elem (f:=anC) (sz:=5) (fun _ => rfl) hy (show j < i by omega)
          injection hAO with hAO
          injection hAO with e2 e3
          subst e2 e3
          have hcy : wr.cell? ⟨gO,0 + j * 5 + 3,none⟩ = some (.int .i64 y.fr):=hrgO 3 _ rfl
          have d0 : decide ((0 : Int) < (k : Int)) = true:=decide_eq_true (by omega)
          have d1 : (0 : Int) < (k : Int):=by omega
          have d2 : decide (0 < k) = true:=decide_eq_true h0
          have w1 : IntKind.i64.wrap ((k : Int) - 1) = (j : Int):=(IntWalk.i64_in _ (by omega)).trans (by omega)
          have hji : (j : Int) < (i : Int):=by omega
          rw [Nat.zero_add] at hcy
          by_cases hgt : x.fr < y.fr
          ·have g0 : decide (x.fr < y.fr) = true:=decide_eq_true hgt
           have HDR2 : Hid (∀ z ∈ O.drop j,x.fr < z.fr):=Lh fun z hz => by
            rw [List.drop_eq_getElem_cons (by rw [HOL.out]; omega)] at hz
            obtain ⟨_,he⟩:=List.getElem?_eq_some_iff.1 hy
            rcases List.mem_cons.1 hz with rfl | hz
            ·rw [he]; exact hgt
            ·exact HDR.out z (by rw [hj]; exact hz)
           have hjk : j < k:=by omega
           clear hj hy h0 hrgO
           go_wp2
           go_quiet (fail)
           go_wp2
           go_roundw
           case rel => exact ⟨j,by go_num,by omega,HDR2.out,HB2.out.trans ((Quiet.one wr _).below _)⟩
           case measure => simp [intOf]; omega
          ·have g0 : decide (x.fr < y.fr) = false:=decide_eq_false hgt
           have HLOW : Hid (∀ z ∈ O.take k,z.fr ≤ x.fr):=Lh (srt_low HOS.out (by rw [HOL.out]; exact hk) (fun z _ hz => by
            rw [hj,Nat.add_sub_cancel,hy] at hz
            rw [← Option.some.inj hz]
            omega))
           clear hj hy h0 hrgO hgt
           by_cases hck : (cO : Int) = (k : Int)
           ·go_wp2
            go_quiet (fail)
            obtain ⟨wd,hwd⟩ : ∃ W,wr.drewN nq = W:=⟨_,rfl⟩
            have hq:=(Quiet.one wr nq).below wr.heap.size
            rw [hwd] at hq ⊢
            have hqs:=hq.size
            have hrx : wd.rangeAt bA (offA + i * 5) (anC x):=fun j u hu => (World.cell?_of_block (a:=⟨bA,_,none⟩) (hq.block bA (by omega))).trans (hrx j u hu)
            have HO2:=Lh (HO2.out.below hq)
            have HBB2:=Lh (bTr HBB2 hq)
            have HC1:=Lh (ShV.of_own (S:=fun b => b < wd.heap.size) (HO2.out.cut hk) (fun b _ h _ => h))
            rw [ans_take] at HC1
            clear hcx hwd hq HB2
            have HB:=Lh (Below.refl wd.heap.size wd)
            go_wp2_with (first
             | (refine wpList_push_v rfl (.tmp 92) (.tmp 95) 33 rfl rowAn (wd.alloc (.cells #[] 36)) wd.heap.size (.slice (some ⟨wd.heap.size,0,none⟩) 0 0) 0 [] (ans (O.take k)) rfl (Own.empty wd wd.heap.size 36 5 nLe) (m:=k) rfl (HC1.out.under bAl) (by rw [ans_len,List.length_take,HOL.out]; omega) (ans_one _) (by omega) (by omega) ?_; intro v9 w9 ho9 hg9 hv9; have HB:=Lh ((HB.out.alloc nLe (.cells #[] 36)).grown hg9 (by rw [size_al]; omega) (fun k hk => Nat.le_of_eq (Option.some.inj hk))); have HO:=Lh (ho9.cast (Nat.zero_add _) (List.nil_append _)); have hs9:=HB.out.size; have hra : w9.rangeAt bA (offA + i * 5) (anC x):=fun j u hu => (World.cell?_of_block (a:=⟨bA,_,none⟩) (HB.out.block bA (by omega))).trans (hrx j u hu); clear ho9 hg9 hv9)
             | (refine wpList_ldV rfl 36 _ rfl bA (offA + i * 5) rfl (anC x) hra Tryz.underlying36 rfl info_an ?_)
             | (refine wpList_build1 rfl 33 36 _ rfl (anC x) rfl (by simp [anC]) (by simp [anC]) Tryz.underlying33 info_an (by kernel_rfl) ?_; have HB:=Lh (HB.out.alloc (by omega) (.cells (anC x).toArray 36)))
             | (refine wpList_push_b rfl (.tmp 97) (.tmp 102) 33 rfl rowAn w9 wd.heap.size v9 k (ans (O.take k)) (anC x) rfl HO.out rfl rfl rfl hone (by omega) (by omega) ?_; intro v6 w6 ho6 hg6 hv6; have HB:=Lh (HB.out.grown hg6 (by rw [size_al]; omega) (fun k hk => (HO.out.1.lt k hk).1)); have HO:=Lh ho6; clear ho6 hg6 hv6; refine Hid.out ?_)
             | fail)
            refine Lh ?_
            have HC2:=Lh (show ShV wd (fun _ => True) (.slice (some ⟨gO,0,none⟩) (i - k) (cO - k)) (i - k) (ans (O.drop k)) from ⟨_,_,rfl,by omega,fun h => by have:=hcap.1; omega⟩)
            have hsb2:=HBB2.out.size
            obtain ⟨p1,p2⟩:=put_srt HOS.out HLOW.out HDR.out
            have HP1:=Lh p1
            have HP2:=Lh (fl_step HOF.out HMX.out p2)
            clear p1 p2
            go_wp2_with (first
             | (refine wpList_push_v rfl (.tmp 104) (.tmp 107) 33 rfl rowAn w6 wd.heap.size v6 (k + 1) (ans (O.take k) ++ anC x) (ans (O.drop k)) rfl HO.out (m:=i - k) rfl (HC2.out.under HB.out) (by rw [ans_len,List.length_drop,HOL.out]) (ans_one _) (by omega) (by omega) ?_; intro v8 w8 ho8 hg8 hv8; have HB:=Lh (HB.out.grown hg8 HB.out.size (fun k hk => (HO.out.1.lt k hk).1)); have HO:=Lh ho8; clear ho8 hg8 hv8)
             | fail)
            go_roundw
            case rel =>
             exact ⟨i + 1,_,by go_num,hlt4,by simp [HOL.out]; omega,HP1.out,HP2.out,(fun h => absurd h (by omega)),(HO.out.cast (show _ = i + 1 by omega) (by simp [ans])).lower hsb2,HBB2.out.trans (HB.out.mono hsb2)⟩
            case measure => simp [intOf]; omega
           ·go_wp2
            go_quiet (fail)
            obtain ⟨wd,hwd⟩ : ∃ W,wr.drewN nq = W:=⟨_,rfl⟩
            have hq:=(Quiet.one wr nq).below wr.heap.size
            rw [hwd] at hq ⊢
            have hqs:=hq.size
            have hrx : wd.rangeAt bA (offA + i * 5) (anC x):=fun j u hu => (World.cell?_of_block (a:=⟨bA,_,none⟩) (hq.block bA (by omega))).trans (hrx j u hu)
            have HO2:=Lh (HO2.out.below hq)
            have HBB2:=Lh (bTr HBB2 hq)
            have HC1:=Lh (ShV.of_own (S:=fun b => b < wd.heap.size) (HO2.out.cut hk) (fun b _ h _ => h))
            rw [ans_take] at HC1
            clear hcx hwd hq HB2
            have HB:=Lh (Below.refl wd.heap.size wd)
            go_wp2_with (first
             | (refine wpList_push_v rfl (.tmp 92) (.tmp 95) 33 rfl rowAn (wd.alloc (.cells #[] 36)) wd.heap.size (.slice (some ⟨wd.heap.size,0,none⟩) 0 0) 0 [] (ans (O.take k)) rfl (Own.empty wd wd.heap.size 36 5 nLe) (m:=k) rfl (HC1.out.under bAl) (by rw [ans_len,List.length_take,HOL.out]; omega) (ans_one _) (by omega) (by omega) ?_; intro v9 w9 ho9 hg9 hv9; have HB:=Lh ((HB.out.alloc nLe (.cells #[] 36)).grown hg9 (by rw [size_al]; omega) (fun k hk => Nat.le_of_eq (Option.some.inj hk))); have HO:=Lh (ho9.cast (Nat.zero_add _) (List.nil_append _)); have hs9:=HB.out.size; have hra : w9.rangeAt bA (offA + i * 5) (anC x):=fun j u hu => (World.cell?_of_block (a:=⟨bA,_,none⟩) (HB.out.block bA (by omega))).trans (hrx j u hu); clear ho9 hg9 hv9)
             | (refine wpList_ldV rfl 36 _ rfl bA (offA + i * 5) rfl (anC x) hra Tryz.underlying36 rfl info_an ?_)
             | (refine wpList_build1 rfl 33 36 _ rfl (anC x) rfl (by simp [anC]) (by simp [anC]) Tryz.underlying33 info_an (by kernel_rfl) ?_; have HB:=Lh (HB.out.alloc (by omega) (.cells (anC x).toArray 36)))
             | (refine wpList_push_b rfl (.tmp 97) (.tmp 102) 33 rfl rowAn w9 wd.heap.size v9 k (ans (O.take k)) (anC x) rfl HO.out rfl rfl rfl hone (by omega) (by omega) ?_; intro v6 w6 ho6 hg6 hv6; have HB:=Lh (HB.out.grown hg6 (by rw [size_al]; omega) (fun k hk => (HO.out.1.lt k hk).1)); have HO:=Lh ho6; clear ho6 hg6 hv6; refine Hid.out ?_)
             | fail)
            refine Lh ?_
            have HC2:=Lh ((ShV.of_own (S:=fun _ => True) HO2.out (fun _ _ _ _ => trivial)).dropA hk)
            have hsb2:=HBB2.out.size
            obtain ⟨p1,p2⟩:=put_srt HOS.out HLOW.out HDR.out
            have HP1:=Lh p1
            have HP2:=Lh (fl_step HOF.out HMX.out p2)
            clear p1 p2
            go_wp2_with (first
             | (refine wpList_push_v rfl (.tmp 104) (.tmp 107) 33 rfl rowAn w6 wd.heap.size v6 (k + 1) (ans (O.take k) ++ anC x) (ans (O.drop k)) rfl HO.out (m:=i - k) rfl (HC2.out.under HB.out) (by rw [ans_len,List.length_drop,HOL.out]) (ans_one _) (by omega) (by omega) ?_; intro v8 w8 ho8 hg8 hv8; have HB:=Lh (HB.out.grown hg8 HB.out.size (fun k hk => (HO.out.1.lt k hk).1)); have HO:=Lh ho8; clear ho8 hg8 hv8)
             | fail)
            go_roundw
            case rel =>
             exact ⟨i + 1,_,by go_num,hlt4,by simp [HOL.out]; omega,HP1.out,HP2.out,(fun h => absurd h (by omega)),(HO.out.cast (show _ = i + 1 by omega) (by simp [ans])).lower hsb2,HBB2.out.trans (HB.out.mono hsb2)⟩
            case measure => simp [intOf]; omega
      ·obtain rfl : i = L:=by omega
       have hOf:=HOF.out
       rw [List.take_of_length_le (by rw [HLL.out]; exact Nat.le_refl _)] at hOf
       obtain rfl : O = K:=srtA_one HOS.out HS.out (hOf.trans HFK.out.symm)
       obtain ⟨AO,cO,rfl⟩:=HO.out.form
       have HSH:=Lh (ShV.of_own (S:=fun b => w.heap.size ≤ b) HO.out (fun b h1 _ _ => Nat.le_trans HB.out.size h1))
       have HB:=Lh (HB.out.trans (HBB.out.mono HB.out.size))
       clear hOf
       go_wp2
       go_ret
       exact ⟨_,_,rfl,HSH.out,HB.out⟩
end Go.Proofs.YtkjhlgnpohamnaaGreatDoor
