import Derived.Test.YtkjhlgnpohamnaaGreatDoorSq
import Derived.Test.YtkjhlgnpohamnaaGreatDoorSaS
import Derived.Test.YtkjhlgnpohamnaaGreatDoorFiN
import Derived.Test.YtkjhlgnpohamnaaGreatDoorFiH
namespace Go.Proofs.YtkjhlgnpohamnaaGreatDoor
set_option linter.unusedVariables false
set_option linter.unusedSimpArgs false
open Go.RowKit Go.Lib Go.Sort
def SrtA (L : List An) : Prop:=L.Pairwise (fun x y => x.fr ≤ y.fr)
def FlA (A B : List An) : Prop:=A.length = B.length ∧ ∀ f,A.filter (fun x => x.fr == f) = B.filter (fun x => x.fr == f)
theorem srtA_one {A B : List An} (ha : SrtA A) (hb : SrtA B) (h : FlA A B) : A = B:=by
 have hm : ∀ L : List An,Mk.Srt (L.map Mk.edA) ↔ SrtA L:=fun L => by unfold Mk.Srt SrtA; rw [List.pairwise_map]; rfl
 have hf : Mk.Fl (A.map Mk.edA) (B.map Mk.edA):=⟨by simp [h.1],fun f => by
  rw [List.filter_map,List.filter_map]
  exact congrArg _ (h.2 f)⟩
 have:=Mk.srt_one ((hm A).2 ha) ((hm B).2 hb) hf
 have h2:=congrArg (List.map Mk.anE) this
 simpa [List.map_map,Function.comp_def,Mk.anE_edA] using h2
theorem ecs_ans (L : List An) : Mk.ecs (L.map Mk.edA) = ans L:=by
 unfold Mk.ecs ans
 rw [List.flatMap_map]
 rfl
theorem sortA_any {v : Value} {n B : Nat} {L : List An} {w : World} (h : Own w B 36 5 v n (ans L)) (hn : L.length = n) (hsz : n ≤ 100000) :
  CP 34 #[v,.func (.func 35) #[] #[]] w fun e w' => e = .returned none0 ∧ (∃ K : List An,ShV w' (fun b => B ≤ b) v n (ans K) ∧ SrtA K ∧ FlA K L) ∧ Below B w w':=by
 rcases Nat.eq_zero_or_pos n with h0 | h0
 ·subst h0
  obtain ⟨A,c,rfl⟩:=h.form
  have hL : L = []:=List.eq_nil_of_length_eq_zero hn
  subst hL
  refine (Mk.sortFn_none A c w).mono ?_
  rintro e w' ⟨rfl,rfl⟩
  exact ⟨rfl,⟨[],.of_own h (fun b hb _ _ => hb),List.Pairwise.nil,rfl,fun _ => rfl⟩,Below.refl _ _⟩
 ·obtain ⟨g,cap,rfl,_,_⟩:=h.1.form h0
  have hcap:=(h.cap).1
  obtain ⟨hH,hg,hB⟩:=Mk.holds_of (L:=L.map Mk.edA) (by rw [ecs_ans]; exact h.1) (by simp [hn])
  have hR : RowK Mk.ecell 5 w g 0 (L.map Mk.edA).toArray:=⟨fun _ => rfl,Mk.ecell_one,hH,hg⟩
  refine (Mk.sortFn_any g cap _ w w (L.map Mk.edA) hR n (by simp [hn]) ⟨(L.map Mk.edA).toArray,by simp,SWK.start hH⟩ (by simp [hn]) hsz).mono ?_
  rintro e w' ⟨rfl,K,⟨dk,hdk,hw⟩,k1,k2⟩
  have hlk : K.length = n:=by rw [k2.1]; simp [hn]
  have hwh:=hw.holds hR.hblk hR.hH (by rw [Mk.size_of hdk,hlk]; simp [hn])
  have hgl:=hw.lt hR.hblk
  refine ⟨rfl,⟨K.map Mk.anE,⟨_,cap,rfl,hcap,fun _ => ⟨g,0,rfl,hB,hgl,fun j u hu => ?_⟩⟩,?_,?_⟩,Mk.below_SWK hw hB h.2⟩
  ·have e : ans (K.map Mk.anE) = Mk.ecs K:=by
    rw [← ecs_ans,List.map_map]
    congr 1
    exact List.map_id'' (fun x => Mk.edA_anE x) K
   rw [e] at hu
   obtain ⟨t,ht,hc⟩:=Mk.ecs_get hu
   obtain ⟨hk,hx⟩:=Mk.get_at hdk ht
   have hm : j % 5 < 5:=Nat.mod_lt _ (by decide)
   have:=(hwh.cell hk hm).1
   rw [hx,Nat.zero_add,show j / 5 * 5 + j % 5 = j by omega] at this
   rw [Nat.zero_add,this]
   have hm2 : j % 5 < (Mk.ecell t).length:=hm
   rw [getElem!_pos (Mk.ecell t) (j % 5) hm2,← hc]
   exact (List.getElem?_eq_getElem hm2).symm
  ·unfold SrtA
   rw [List.pairwise_map]
   exact k1
  ·refine ⟨by simp [hlk,hn],fun f => ?_⟩
   have:=congrArg (List.map Mk.anE) (k2.2 f)
   rw [List.filter_map,List.map_map] at this
   rw [List.filter_map]
   refine Eq.trans ?_ (this.trans ?_)
   ·rfl
   ·rw [show (Mk.anE ∘ Mk.edA) = id from rfl,List.map_id]
    rfl
theorem flat_at {α : Type} (f : α → List Value) (sz : Nat) (hf : ∀ x,(f x).length = sz) : ∀ (l : List α) (k : Nat) (x : α),l[k]? = some x → ∀ i,i < sz → (l.flatMap f)[k * sz + i]? = (f x)[i]?:=by
 intro l
 induction l with
 | nil => intro k x h; simp at h
 | cons y l ih =>
  intro k x h i hi
  rw [List.flatMap_cons]
  cases k with
  | zero =>
   rw [List.getElem?_cons_zero] at h
   cases h
   rw [Nat.zero_mul,Nat.zero_add,List.getElem?_append_left (by rw [hf]; exact hi)]
  | succ k =>
   rw [List.getElem?_cons_succ] at h
   rw [List.getElem?_append_right (by rw [hf,Nat.succ_mul]; omega),hf,← ih k x h i hi]
   congr 1
   rw [Nat.succ_mul]; omega
theorem ShV.elem {α : Type} {w : World} {S : Nat → Prop} {A : Option Addr} {n c : Nat} {f : α → List Value} {sz : Nat} (hf : ∀ x,(f x).length = sz) {l : List α} (h : ShV w S (.slice A n c) n (l.flatMap f)) {k : Nat} {x : α} (hx : l[k]? = some x) (hk : k < n) :
  ∃ b off,A = some ⟨b,off,none⟩ ∧ S b ∧ b < w.heap.size ∧ w.rangeAt b (off + k * sz) (f x):=by
 obtain ⟨A',c',e,_,hr⟩:=h
 injection e with e1 _ _
 subst e1
 obtain ⟨b,off,e2,hb,hlt,hrg⟩:=hr (by omega)
 refine ⟨b,off,e2,hb,hlt,fun i v hv => ?_⟩
 have hi : i < sz:=by rw [← hf x]; exact (List.getElem?_eq_some_iff.1 hv).1
 have:=hrg (k * sz + i) v (by rw [flat_at f sz hf l k x hx i hi]; exact hv)
 rwa [← Nat.add_assoc] at this
def FnT.mks (f : FnT) : List An:=f.ps.map (·.an) ++ ([f.an] ++ lms f.bd)
def MoT.mks (m : MoT) : List An:=m.va.map (·.an) ++ m.fn.flatMap FnT.mks
def MkTo (m : MoT) (w : World) (e : Ending) (w' : World) : Prop:=∃ u K,e = .returned u ∧ ShV w' (fun b => w.heap.size ≤ b) u m.mks.length (ans K) ∧ SrtA K ∧ FlA K m.mks ∧ Below w.heap.size w w'
end Go.Proofs.YtkjhlgnpohamnaaGreatDoor
namespace Go.Proofs.YtkjhlgnpohamnaaGreatDoor
set_option linter.unusedVariables false
set_option linter.unusedSimpArgs false
open Go.RowKit
theorem mks_take {l : List FnT} {k : Nat} {f : FnT} (h : l[k]? = some f) : (l.take (k + 1)).flatMap FnT.mks = (l.take k).flatMap FnT.mks ++ f.mks ∧ ((l.take k).flatMap FnT.mks).length + f.mks.length ≤ (l.flatMap FnT.mks).length:=by
 have hlt:=(List.getElem?_eq_some_iff.1 h).1
 have e : l.take (k + 1) = l.take k ++ [f]:=by rw [List.take_add_one,h]; rfl
 have e1 : (l.take (k + 1)).flatMap FnT.mks = (l.take k).flatMap FnT.mks ++ f.mks:=by rw [e,List.flatMap_append]; simp
 refine ⟨e1,?_⟩
 have e2 : l.flatMap FnT.mks = (l.take (k + 1)).flatMap FnT.mks ++ (l.drop (k + 1)).flatMap FnT.mks:=by rw [← List.flatMap_append,List.take_append_drop]
 rw [e2,e1,List.length_append,List.length_append]
 omega
theorem ans_one (l : List An) : ∀ u ∈ ans l,u.oneCell' = true:=fun u hu => by
 obtain ⟨x,_,hx⟩:=List.mem_flatMap.1 hu
 exact anC_one x u hx
theorem fn_len (l : List FnT) : l.length ≤ (l.flatMap FnT.mks).length:=by
 induction l with
 | nil => exact Nat.zero_le _
 | cons f l ih =>
  rw [List.flatMap_cons,List.length_append,List.length_cons]
  have : 1 ≤ f.mks.length:=by unfold FnT.mks; simp; omega
  omega
theorem ps_take {l : List VrT} {k : Nat} {x : VrT} (h : l[k]? = some x) : (l.take (k + 1)).map (·.an) = (l.take k).map (·.an) ++ [x.an]:=by
 rw [List.take_add_one,h,List.map_append]; rfl
theorem ShV.formA {w : World} {S : Nat → Prop} {lv : Value} {n : Nat} {cs : List Value} (h : ShV w S lv n cs) : ∃ A c,lv = .slice A n c:=by
 obtain ⟨A,c,e,_⟩:=h
 exact ⟨A,c,e⟩
set_option maxRecDepth 100000 in
set_option maxHeartbeats 6400000 in
theorem marks_any (m : MoT) (v : MoV) (w : World) (S : Nat → Prop) (h : MoSh w S m v) (hN : m.mks.length ≤ 100000) (hC : ∀ f ∈ m.fn,cts f.bd ≤ 2000000) :
  CP 12 #[moV m.hl m.he v] w (MkTo m w):=by
 have hz1:=zeroVr
 have hz2:=zeroFn
 obtain ⟨FL,hfl,hF,hFS⟩:=h.fn
 have hV:=h.va
 obtain ⟨im,la,ef,va,fn⟩:=v
 dsimp only at hV hF
 obtain ⟨Av,cv,rfl⟩:=hV.formA
 obtain ⟨Af,cf,rfl⟩:=hF.formA
 obtain ⟨nV,hnV⟩ : ∃ n,m.va.length = n:=⟨_,rfl⟩
 obtain ⟨nF,hnF⟩ : ∃ n,FL.length = n:=⟨_,rfl⟩
 rw [hnV] at hV
 rw [hnF] at hF
 have hmf : m.fn.length = nF:=by rw [← hfl,List.length_map,hnF]
 have hml : m.mks.length = nV + (m.fn.flatMap FnT.mks).length:=by unfold MoT.mks; rw [List.length_append,List.length_map,hnV]
 have hnV2 : nV ≤ 100000:=by omega
 have hnF2 : nF ≤ 100000:=by have:=fn_len m.fn; omega
 have HNV:=Lh hnV
 have HMF:=Lh hmf
 have HML:=Lh hml
 have HFL:=Lh hfl
 have HV:=Lh hV
 have HF:=Lh hF
 have HFS:=Lh hFS
 have HC:=Lh hC
 have HN:=Lh hN
 rw [hnV,hnF]
 have hJ0 : Var (w.alloc (.cells #[im,.bool m.hl,la,.bool m.he,ef,.slice Av nV cv,.slice Af nF cf] 29)) w.heap.size [im,.bool m.hl,la,.bool m.he,ef,.slice Av nV cv,.slice Af nF cf]:=Var.new w _ 29 rfl
 have hB1 : Below w.heap.size w (w.alloc (.cells #[im,.bool m.hl,la,.bool m.he,ef,.slice Av nV cv,.slice Af nF cf] 29)):=bAl
 have hs1 : (w.alloc (.cells #[im,.bool m.hl,la,.bool m.he,ef,.slice Av nV cv,.slice Af nF cf] 29)).heap.size = w.heap.size + 1:=by simp
 obtain ⟨w1,hw1⟩ : ∃ w1,w.alloc (.cells #[im,.bool m.hl,la,.bool m.he,ef,.slice Av nV cv,.slice Af nF cf] 29) = w1:=⟨_,rfl⟩
 have HW1:=Lh hw1
 rw [hw1] at hJ0 hB1 hs1
 have k5:=hJ0.at 5 rfl
 have k6:=hJ0.at 6 rfl
 have J0:=Lh hJ0
 have HB1:=Lh hB1
 have HS1:=Lh hs1
 unfold moV
 clear h hV hF hFS hnV hnF hmf hml hfl hN hC hJ0 hB1 hs1 hw1
 go_enter Tryz.func12,Tryz.ntmps12
 go_wp2
 rw [HW1.out]
 go_loopw [3,13] (fun lv iv wr => ∃ k : Nat,iv = .int .i64 (k : Int) ∧ k ≤ nV ∧ Own wr (w.heap.size + 1) 36 5 lv k (ans ((m.va.take k).map (·.an))) ∧ Below (w.heap.size + 1) w1 wr) (fun _ iv _ => nV - (intOf iv).toNat)
 case atStart => exact ⟨0,rfl,Nat.zero_le _,Own.nil _ _ _ _ (by rw [HS1.out]; exact Nat.le_refl _),Below.refl _ _⟩
 case round =>
  obtain ⟨k,rfl,hk,hO,hb⟩:=hrel
  have HO:=Lh hO
  have HB:=Lh hb
  have hsw:=hb.size
  rw [HS1.out] at hsw
  clear hO hb
  by_cases hlt : k < nV
  ·obtain ⟨x,hx⟩ : ∃ x,m.va[k]? = some x:=⟨_,List.getElem?_eq_getElem (by rw [HNV.out]; exact hlt)⟩
   have hBw : Below w.heap.size w wr:=HB1.out.trans (HB.out.mono (Nat.le_succ _))
   obtain ⟨b,off,hA,_,hbl,hrg⟩:=(HV.out.under hBw).elem (f:=vrC) vrC_len hx hlt
   subst hA
   have hin : (k : Int) < (nV : Int):=by omega
   have HX:=Lh hx
   clear hx hBw
   go_wp2_with (first
    | (refine wpList_ldV rfl 71 _ rfl b (off + k * 8) rfl (vrC x) hrg Tryz.underlying71 rfl info_vr ?_)
    | (refine wpList_stV rfl 71 _ _ rfl (G:=wr.heap.size) (off:=0) rfl (us:=vrC x) (Var.new wr (vrC VrT.nul) 71 rfl) rfl info_vr (Nat.le_refl 8) (vrC_one _) ?_; intro w4 ht hs; have ta:=Tn.alloc (fun k => k = wr.heap.size) wr (.cells #[.string ⟨#[]⟩,.int .i64 0,.int .i64 0,.bool false,.bool false,.string ⟨#[]⟩,.int .i64 0,.int .i64 0] 71); have HB:=Lh (HB.out.trans ((ta.trans ht).below (by omega) (fun k hk e => by omega))); have HO:=Lh (HO.out.turn (ta.trans ht) (fun k hk e => by have:=(HO.out.1.lt k hk).2; omega)); have JV:=Lh (show Var w4 wr.heap.size (vrC x) from hs); have hsw4:=(ta.trans ht).size; clear ht hs ta)
    | (refine wpList_ldV rfl 36 _ rfl wr.heap.size 3 rfl (anC x.an) (JV.out.mid 3 (anC x.an) rfl) Tryz.underlying36 rfl info_an ?_)
    | (refine wpList_build1 rfl 33 36 _ rfl (anC x.an) rfl (by simp [anC]) (by simp [anC]) Tryz.underlying33 info_an (by kernel_rfl) ?_; have HB:=Lh (HB.out.alloc (by omega) (.cells (anC x.an).toArray 36)))
    | (refine wpList_push_b rfl _ _ 33 rfl rowAn w4 (w.heap.size + 1) u3 k (ans ((m.va.take k).map (·.an))) (anC x.an) rfl HO.out rfl rfl rfl (anC_one _) (by omega) (by omega) ?_; intro v6 w6 ho6 hg6 hv6; have HB:=Lh (HB.out.grown hg6 (by rw [size_al]; omega) (fun k hk => (HO.out.1.lt k hk).1)); have HO:=Lh ho6; clear ho6 hg6 hv6)
    | fail)
   go_roundw
   case rel => exact ⟨k + 1,by go_num,hlt,HO.out.cast rfl (by rw [ps_take HX.out,ans_snoc]),HB.out⟩
   case measure => simp [intOf]; omega
  ·obtain rfl : k = nV:=by omega
   have hva : (m.va.take k).map (·.an) = m.va.map (·.an):=by rw [List.take_of_length_le (by rw [HNV.out]; exact Nat.le_refl _)]
   rw [hva] at HO
   have k6 : wr.cell? ⟨w.heap.size,6,none⟩ = some (.slice Af nF cf):=(World.cell?_of_block (a:=⟨w.heap.size,6,none⟩) (HB.out.block w.heap.size (by omega))).trans k6
   have HLV : Hid ((m.va.map (·.an)).length = k):=Lh (by rw [List.length_map]; exact HNV.out)
   obtain ⟨VA,hVA⟩ : ∃ VA,m.va.map (·.an) = VA:=⟨_,rfl⟩
   rw [hVA] at HO HLV
   have HVA:=Lh hVA
   clear hva k5 hVA
   obtain ⟨wa,hwa⟩ : ∃ wa,wa = wr:=⟨_,rfl⟩
   subst hwa
   go_wp2
   go_loopw [3,26] (fun lv iv wr => ∃ j : Nat,iv = .int .i64 (j : Int) ∧ j ≤ nF ∧ Own wr (w.heap.size + 1) 36 5 lv (VA ++ (m.fn.take j).flatMap FnT.mks).length (ans (VA ++ (m.fn.take j).flatMap FnT.mks)) ∧ Below (w.heap.size + 1) w1 wr) (fun _ iv _ => nF - (intOf iv).toNat)
   case atStart => exact ⟨0,rfl,Nat.zero_le _,HO.out.cast (by simp [HLV.out]) (by simp),HB.out⟩
   case round =>
    clear HO HB hsw k6
    obtain ⟨j,rfl,hj,hO,hb⟩:=hrel
    have hsw:=hb.size
    rw [HS1.out] at hsw
    by_cases hlt2 : j < nF
    ·obtain ⟨q,hq⟩ : ∃ q,FL[j]? = some q:=⟨_,List.getElem?_eq_getElem (by have:=congrArg List.length HFL.out; rw [List.length_map,HMF.out] at this; omega)⟩
     have hqf : m.fn[j]? = some q.1:=by rw [← HFL.out,List.getElem?_map,hq]; rfl
     have hqs:=HFS.out q (List.mem_of_getElem? hq)
     have hbd:=HC.out q.1 (List.mem_of_getElem? hqf)
     obtain ⟨mt1,mt2⟩:=mks_take hqf
     have hBw : Below w.heap.size w wr:=HB1.out.trans (hb.mono (Nat.le_succ _))
     obtain ⟨b,off,hA,_,hbl,hrg⟩:=(HF.out.under hBw).elem (f:=fun q : FnT × FnV => fnC q.1 q.2) (fun x => fnC_len x.1 x.2) hq hlt2
     subst hA
     obtain ⟨f,⟨pv,rv,bv,ev⟩⟩:=q
     dsimp only at hqf hqs hbd mt1 mt2 hrg
     have hqp:=hqs.ps
     dsimp only at hqp
     obtain ⟨Ap,cp,rfl⟩:=hqp.formA
     obtain ⟨nP,hnP⟩ : ∃ n,f.ps.length = n:=⟨_,rfl⟩
     have hone:=hqs.one
     rw [hnP] at hqp hrg
     rw [hnP] at hone
     obtain ⟨BA,hBA⟩ : ∃ BA,VA ++ (m.fn.take j).flatMap FnT.mks = BA:=⟨_,rfl⟩
     rw [hBA] at hO
     have hfm : f.mks.length = nP + (1 + (lms f.bd).length):=by unfold FnT.mks; rw [List.length_append,List.length_append,List.length_map,hnP]; rfl
     have hBAl : BA.length + f.mks.length ≤ 100000:=by rw [← hBA,List.length_append,HLV.out]; have h1:=HML.out; have h2:=HN.out; omega
     have HBA:=Lh hBA
     have HMT:=Lh mt1
     have HFM:=Lh hfm
     have hno : ∀ k,u3.ownBlock = some k → k < wr.heap.size:=fun k hk => (hO.1.lt k hk).2
     have HO:=Lh hO
     have HB:=Lh hb
     have HNP:=Lh hnP
     have HQP:=Lh hqp
     have HQS:=Lh hqs
     have HBD:=Lh hbd
     have hin : (j : Int) < (nF : Int):=by omega
     have hnP2 : nP ≤ 100000:=by omega
     clear hO hb hq hqf hqs hbd mt1 mt2 hBw hqp hnP hBA hfm
     obtain ⟨we,hwe⟩ : ∃ we,we = wr:=⟨_,rfl⟩
     subst hwe
     go_wp2_with (first
      | (refine wpList_ldV rfl 79 _ rfl b (off + j * 18) rfl (fnC f ⟨.slice Ap nP cp,rv,bv,ev⟩) hrg Tryz.underlying79 rfl info_fn ?_)
      | (refine wpList_stV rfl 79 _ _ rfl (G:=we.heap.size) (off:=0) rfl (us:=fnC f ⟨.slice Ap nP cp,rv,bv,ev⟩) (Var.new we (fnC FnT.nul ⟨.slice none 0 0,.slice none 0 0,.slice none 0 0,.slice none 0 0⟩) 79 rfl) rfl info_fn (Nat.le_refl 18) hone ?_; intro w4 ht hs; have ta:=Tn.alloc (fun k => k = we.heap.size) we (.cells #[.string ⟨#[]⟩,.int .i64 0,.slice none 0 0,.int .i64 0,.bool false,.bool false,.string ⟨#[]⟩,.int .i64 0,.int .i64 0,.bool false,.slice none 0 0,.slice none 0 0,.int .i64 0,.int .i64 0,.int .i64 0,.string ⟨#[]⟩,.string ⟨#[]⟩,.slice none 0 0] 79); have HB:=Lh (HB.out.trans ((ta.trans ht).below (by omega) (fun k hk e => by omega))); have HO:=Lh (HO.out.turn (ta.trans ht) (fun k hk e => by have:=(HO.out.1.lt k hk).2; omega)); have JF:=Lh (show Var w4 we.heap.size (fnC f ⟨.slice Ap nP cp,rv,bv,ev⟩) from hs); have hsw4:=ht.size; rw [size_al] at hsw4; clear ht hs ta; have k2:=JF.out.at 2 rfl)
      | fail)
     go_loopw [3,33] (fun lv iv wr => ∃ i : Nat,iv = .int .i64 (i : Int) ∧ i ≤ nP ∧ Own wr (w.heap.size + 1) 36 5 lv (BA.length + i) (ans (BA ++ (f.ps.take i).map (·.an))) ∧ (∀ k,lv.ownBlock = some k → k ≠ we.heap.size) ∧ Var wr we.heap.size (fnC f ⟨.slice Ap nP cp,rv,bv,ev⟩) ∧ we.heap.size + 1 ≤ wr.heap.size ∧ Below (w.heap.size + 1) w1 wr) (fun _ iv _ => nP - (intOf iv).toNat)
     case atStart => exact ⟨0,rfl,Nat.zero_le _,HO.out.cast rfl (by simp),fun k hk e => by have:=hno k hk; omega,JF.out,hsw4,HB.out⟩
     case round =>
      clear HO HB JF hsw4 hno k2
      obtain ⟨i,rfl,hi,hO,hno,hJF,hsw5,hb⟩:=hrel
      have HO:=Lh hO
      have HB:=Lh hb
      have JF:=Lh hJF
      have HNO:=Lh hno
      have hswr:=hb.size
      rw [HS1.out] at hswr
      by_cases hlt3 : i < nP
      ·obtain ⟨x,hx⟩ : ∃ x,f.ps[i]? = some x:=⟨_,List.getElem?_eq_getElem (by rw [HNP.out]; exact hlt3)⟩
       have hBw : Below w.heap.size w wr:=HB1.out.trans (HB.out.mono (Nat.le_succ _))
       obtain ⟨b3,off3,hA,_,hbl3,hrg3⟩:=(HQP.out.under hBw).elem (f:=vrC) vrC_len hx hlt3
       subst hA
       have hin : (i : Int) < (nP : Int):=by omega
       have hBAi : BA.length + i < 100000:=by have:=HFM.out; omega
       have HX:=Lh hx
       clear hx hBw hO hb hJF hno
       go_wp2_with (first
        | (refine wpList_ldV rfl 71 _ rfl b3 (off3 + i * 8) rfl (vrC x) hrg3 Tryz.underlying71 rfl info_vr ?_)
        | (refine wpList_stV rfl 71 _ _ rfl (G:=wr.heap.size) (off:=0) rfl (us:=vrC x) (Var.new wr (vrC VrT.nul) 71 rfl) rfl info_vr (Nat.le_refl 8) (vrC_one _) ?_; intro w6 ht hs; have ta:=Tn.alloc (fun k => k = wr.heap.size) wr (.cells #[.string ⟨#[]⟩,.int .i64 0,.int .i64 0,.bool false,.bool false,.string ⟨#[]⟩,.int .i64 0,.int .i64 0] 71); have HB:=Lh (HB.out.trans ((ta.trans ht).below (by omega) (fun k hk e => by omega))); have HO:=Lh (HO.out.turn (ta.trans ht) (fun k hk e => by have:=(HO.out.1.lt k hk).2; omega)); have JF:=Lh (JF.out.turn (ta.trans ht) (by omega)); have JV:=Lh (show Var w6 wr.heap.size (vrC x) from hs); have hsw6:=(ta.trans ht).size; clear ht hs ta)
        | (refine wpList_ldV rfl 36 _ rfl wr.heap.size 3 rfl (anC x.an) (JV.out.mid 3 (anC x.an) rfl) Tryz.underlying36 rfl info_an ?_)
        | (refine wpList_build1 rfl 33 36 _ rfl (anC x.an) rfl (by simp [anC]) (by simp [anC]) Tryz.underlying33 info_an (by kernel_rfl) ?_; have HB:=Lh (HB.out.alloc (by omega) (.cells (anC x.an).toArray 36)))
        | (refine wpList_push_b rfl _ _ 33 rfl rowAn w6 (w.heap.size + 1) u3 (BA.length + i) (ans (BA ++ (f.ps.take i).map (·.an))) (anC x.an) rfl HO.out rfl rfl rfl (anC_one _) (by omega) (by omega) ?_; intro v7 w7 ho6 hg6 hv6; have HB:=Lh (HB.out.grown hg6 (by rw [size_al]; omega) (fun k hk => (HO.out.1.lt k hk).1)); have JF:=Lh ((JF.out.under (bRf.alloc nLe (.cells (anC x.an).toArray 36))).turn (Tn.of_gb (M:=fun k => u3.ownBlock = some k) hg6 fun k e _ => e) (fun e => HNO.out _ e rfl)); have HNO : Hid (∀ k,v7.ownBlock = some k → k ≠ we.heap.size):=Lh (fun k hk e => by rcases hv6 with h | h; exact HNO.out k (by rw [← h]; exact hk) e; rw [h] at hk; injection hk; omega); have HO:=Lh ho6; have hsw7:=hg6.size; rw [size_al] at hsw7; clear ho6 hg6 hv6)
        | fail)
       go_roundw
       case rel => exact ⟨i + 1,by go_num,hlt3,HO.out.cast rfl (by rw [ps_take HX.out,← List.append_assoc,ans_snoc]),HNO.out,JF.out,by omega,HB.out⟩
       case measure => simp [intOf]; omega
      ·obtain rfl : i = nP:=by omega
       have hps : (f.ps.take i).map (·.an) = f.ps.map (·.an):=by rw [List.take_of_length_le (by rw [HNP.out]; exact Nat.le_refl _)]
       rw [hps] at HO
       have hBw : Below w.heap.size w wr:=HB1.out.trans (HB.out.mono (Nat.le_succ _))
       have hbs:=HQS.out.bd
       have hbone:=hbs.one
       dsimp only at hbs hbone
       have k11:=JF.out.at 11 rfl
       have hBAi : BA.length + i + (1 + (lms f.bd).length) ≤ 100000:=by have:=HFM.out; omega
       have HLT : Hid (∀ W,Below w.heap.size w W → CP 33 #[bv] W (LtTo f.bd W)):=Lh fun W hW => lets_any f.bd HBD.out bv W S (hbs.under hW)
       clear hBw hbs hO hb hJF hno hps
       obtain ⟨wi,hwi⟩ : ∃ wi,wi = wr:=⟨_,rfl⟩
       subst hwi
       go_wp2_with (first
        | (refine wpList_ldV rfl 36 _ rfl we.heap.size 4 rfl (anC f.an) (JF.out.mid 4 (anC f.an) rfl) Tryz.underlying36 rfl info_an ?_)
        | (refine wpList_build1 rfl 33 36 _ rfl (anC f.an) rfl (by simp [anC]) (by simp [anC]) Tryz.underlying33 info_an (by kernel_rfl) ?_; have HB:=Lh (HB.out.alloc (by omega) (.cells (anC f.an).toArray 36)))
        | (refine wpList_push_b rfl _ _ 33 rfl rowAn wi (w.heap.size + 1) u3 (BA.length + i) (ans (BA ++ f.ps.map (·.an))) (anC f.an) rfl HO.out rfl rfl rfl (anC_one _) (by omega) (by omega) ?_; intro v7 w7 ho6 hg6 hv6; have HB:=Lh (HB.out.grown hg6 (by rw [size_al]; omega) (fun k hk => (HO.out.1.lt k hk).1)); have JF:=Lh ((JF.out.under (bRf.alloc nLe (.cells (anC f.an).toArray 36))).turn (Tn.of_gb (M:=fun k => u3.ownBlock = some k) hg6 fun k e _ => e) (fun e => HNO.out _ e rfl)); have HO:=Lh ho6; have hsw7:=hg6.size; rw [size_al] at hsw7; clear ho6 hg6 hv6 k11; have k11:=JF.out.at 11 rfl)
        | (go_at_call 33; (with_reducible refine (HLT.out _ (HB1.out.trans (HB.out.mono (Nat.le_succ _)))).mono ?_); rintro e w8 ⟨lu,rfl,hlo,hlb⟩; have HO:=Lh (HO.out.turn (Tn.of_below (fun _ => False) hlb) (fun _ _ h => h)); have HB:=Lh (HB.out.trans (hlb.mono (by omega))); have HLU:=Lh (ShV.of_own (S:=fun _ => True) hlo (fun _ _ _ _ => trivial)); have hsw8:=hlb.size; clear hlo hlb; dsimp only)
        | (refine wpList_push_v rfl _ _ 33 rfl rowAn w8 (w.heap.size + 1) v7 (BA.length + i + 1) _ (ans (lms f.bd)) rfl HO.out (m:=(lms f.bd).length) rfl HLU.out (ans_len _) (ans_one _) (by omega) (by omega) ?_; intro v9 w9 ho9 hg9 hv9; have HB:=Lh (HB.out.grown hg9 (by omega) (fun k hk => (HO.out.1.lt k hk).1)); have HO:=Lh ho9; clear ho9 hg9 hv9)
        | fail)
       go_roundw
       case rel =>
        exact ⟨j + 1,by go_num,hlt2,HO.out.cast (by rw [HMT.out,← List.append_assoc,HBA.out,List.length_append,HFM.out]; omega) (by
         rw [HMT.out,← List.append_assoc,HBA.out]
         unfold FnT.mks
         simp [ans]),HB.out⟩
       case measure => simp [intOf]; omega
    ·obtain rfl : j = nF:=by omega
     have hfn : VA ++ (m.fn.take j).flatMap FnT.mks = m.mks:=by rw [List.take_of_length_le (by rw [HMF.out]; exact Nat.le_refl _),← HVA.out]; rfl
     rw [hfn] at hO
     have hsr:=sortA_any hO rfl HN.out
     have HSR:=Lh hsr
     have HB:=Lh hb
     clear hO hb hsr hfn
     go_wp2_with (first
      | (go_at_call 34; (with_reducible refine HSR.out.mono ?_); rintro e w8 ⟨rfl,⟨K,hK1,hK2,hK3⟩,hKb⟩; have HK1:=Lh hK1; have HK2:=Lh hK2; have HK3:=Lh hK3; have HB:=Lh (HB.out.trans hKb); clear hK1 hK2 hK3 hKb; dsimp only)
      | fail)
     go_ret
     exact ⟨_,K,rfl,HK1.out.weak (fun b hb _ => by have hb : w.heap.size + 1 ≤ b:=hb; show w.heap.size ≤ b; omega),HK2.out,HK3.out,HB1.out.trans (HB.out.mono (Nat.le_succ _))⟩
end Go.Proofs.YtkjhlgnpohamnaaGreatDoor
