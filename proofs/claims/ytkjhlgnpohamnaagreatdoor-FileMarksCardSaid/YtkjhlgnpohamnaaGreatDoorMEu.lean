import Derived.Test.YtkjhlgnpohamnaaGreatDoorSq
import Derived.Test.YtkjhlgnpohamnaaGreatDoorMEq
import Derived.Test.YtkjhlgnpohamnaaGreatDoorMEs
set_option maxHeartbeats 1600000
namespace Go.Proofs.YtkjhlgnpohamnaaGreatDoor
set_option linter.unusedVariables false
set_option linter.unusedSimpArgs false
open Go.RowKit
theorem mem_toks (bs : List Int) : ∀ (m u : Nat),bs.length - u ≤ m → ∀ t ∈ toks bs u,∃ v,u ≤ v ∧ v < bs.length ∧ t = (tk (bs.drop v),(v : Int),((v + tl (bs.drop v) : Nat) : Int)):=by
 intro m
 induction m with
 | zero => intro u h t ht; rw [toks_end (by omega)] at ht; cases ht
 | succ m ih =>
  intro u h t ht
  by_cases hu : u < bs.length
  ·rw [toks_at hu] at ht
   rcases List.mem_cons.1 ht with rfl | ht
   ·exact ⟨u,Nat.le_refl _,hu,rfl⟩
   ·have:=tl_pos (bs.drop u)
    obtain ⟨v,h1,h2,h3⟩:=ih (u + tl (bs.drop u)) (by omega) t ht
    exact ⟨v,by omega,h2,h3⟩
  ·rw [toks_end (by omega)] at ht; cases ht
theorem mem_live {bs : List Int} {t : Tk} (h : t ∈ live bs 0) : ∃ v,v < bs.length ∧ t = (tk (bs.drop v),(v : Int),((v + tl (bs.drop v) : Nat) : Int)):=by
 obtain ⟨v,_,h2,h3⟩:=mem_toks bs _ 0 nLe t (List.mem_filter.1 h).1
 exact ⟨v,h2,h3⟩
theorem live_len (bs : List Int) : (live bs 0).length ≤ bs.length:=by
 have h1:=toks_len bs bs.length 0 (by omega)
 have h2 : (live bs 0).length ≤ (toks bs 0).length:=List.length_filter_le _ _
 omega
theorem live_ok {T : ByteArray} {bs : List Int} (hb : bts T = bs) (hn : bs.length ≤ 1000000) : TokOk T (live bs 0):=by
 have hs : T.size = bs.length:=by rw [← hb,bts_len]
 have:=live_len bs
 refine ⟨by omega,by omega,fun t ht => ?_⟩
 obtain ⟨v,hv,rfl⟩:=mem_live ht
 have:=tl_in hv
 exact ⟨by show (0 : Int) ≤ (v : Int); omega,by show (v : Int) ≤ ((v + tl (bs.drop v) : Nat) : Int); omega,by show ((v + tl (bs.drop v) : Nat) : Int) ≤ (T.size : Int); omega⟩
theorem ext_bts (T : ByteArray) (a b : Nat) : (T.extract a b).data.toList.map (fun u => (u.toNat : Int)) = ((bts T).take b).drop a:=by
 unfold bts
 have : (T.extract a b).data.toList = (T.data.toList.take b).drop a:=by simp [List.drop_take]
 rw [this,List.map_drop,List.map_take]
theorem runB_mem (p : Int → Bool) (l : List Int) : ∀ x ∈ l.take (runB p l),p x = true:=by
 induction l with
 | nil => intro x hx; cases hx
 | cons y l ih =>
  intro x hx
  cases h : p y
  ·rw [runB_no h] at hx; cases hx
  ·rw [runB_yes h,List.take_succ_cons] at hx
   rcases List.mem_cons.1 hx with rfl | hx
   ·exact h
   ·exact ih x hx
theorem live_dig {T : ByteArray} {bs : List Int} (hb : bts T = bs) (p : Nat) (h : (rowT T (live bs 0)).kd p = 3) : ((rowT T (live bs 0)).wd p).data.toList ≠ [] ∧ ∀ c ∈ ((rowT T (live bs 0)).wd p).data.toList,48 ≤ c.toNat ∧ c.toNat ≤ 57:=by
 cases hp : (live bs 0)[p]? with
 | none =>
  have : (rowT T (live bs 0)).kd p = 0:=by simp only [rowT,hp]
  rw [this] at h; cases h
 | some t =>
  have hk : (rowT T (live bs 0)).kd p = t.1:=by simp only [rowT,hp]
  have hw : (rowT T (live bs 0)).wd p = T.extract t.2.1.toNat t.2.2.toNat:=by
   show wdT T (live bs 0) p = _
   simp only [wdT,hp]
  rw [hk] at h
  rw [hw]
  obtain ⟨v,hv,rfl⟩:=mem_live (List.mem_of_getElem? hp)
  obtain ⟨c,r,hd⟩ : ∃ c r,bs.drop v = c :: r:=by
   cases hh : bs.drop v with
   | nil => have:=congrArg List.length hh; simp at this; omega
   | cons c r => exact ⟨c,r,rfl⟩
  have h3 : tk (c :: r) = 3:=by rw [← hd]; exact h
  have hkc : kd c = 3:=by
   rw [tk_cons] at h3
   by_cases h4 : kd c < 4
   ·rwa [if_pos h4] at h3
   ·rw [if_neg h4] at h3
    split at h3
    ·cases h3
    ·omega
  have htl : tl (bs.drop v) = 1 + runB (goes 3) r:=by rw [hd,tl_cons,if_pos (by omega),hkc]
  have hlist : (T.extract v (v + tl (bs.drop v))).data.toList.map (fun u => (u.toNat : Int)) = c :: r.take (runB (goes 3) r):=by
   rw [ext_bts,hb,List.drop_take,htl,hd,show v + (1 + runB (goes 3) r) - v = runB (goes 3) r + 1 by omega,List.take_succ_cons]
  have hall : ∀ x ∈ c :: r.take (runB (goes 3) r),48 ≤ x ∧ x ≤ 57:=fun x hx => by
   rcases List.mem_cons.1 hx with rfl | hx
   ·exact (kd_3 x).1 hkc
   ·have:=runB_mem (goes 3) r x hx
    have h9 : kd x = 3:=by simpa [goes] using this
    exact (kd_3 x).1 h9
  show (T.extract v (v + tl (bs.drop v))).data.toList ≠ [] ∧ ∀ c ∈ (T.extract v (v + tl (bs.drop v))).data.toList,48 ≤ c.toNat ∧ c.toNat ≤ 57
  refine ⟨fun e => ?_,fun u hu => ?_⟩
  ·rw [e] at hlist; cases hlist
  ·have:=hall (u.toNat : Int) (by rw [← hlist]; exact List.mem_map.2 ⟨u,hu,rfl⟩)
   omega
theorem bad_live (bs : List Int) : ((live bs 0).find? fun t => t.1 == 5) = ((toks bs 0).find? fun t => t.1 == 5):=by
 unfold live
 rw [List.find?_filter]
 congr 1
 funext t
 cases h : (t.1 == 5)
 ·simp
 ·have : t.1 = 5:=by simpa using h
  simp [lv,this]
theorem Sh.bel {w w' : World} {B n : Nat} {A : Option Addr} {xs : List Value} (h : Sh w B A n xs) (hb : Below B w w') : Sh w' B A n xs:=h.below hb
theorem Cur.skip {C : Cx} {w w' : World} {p k : Nat} (h : Cur C w p) (hg : w.grownBy w' (some k)) (hk : k ≠ C.g) (hA : ∀ b off,C.A = some ⟨b,off,none⟩ → b ≠ k) (h2 : 3 < k) : Cur C w' p:=by
 have hgb:=hg.block C.g h.lt (fun e => hk (by injection e with e; exact e.symm))
 have hc : ∀ j,w'.cell? ⟨C.g,j,none⟩ = w.cell? ⟨C.g,j,none⟩:=fun j => World.cell?_of_block (a:=⟨C.g,j,none⟩) hgb
 have hlt:=h.lt
 have hfar:=h.far
 refine ⟨(hc 0).trans h.t,(hc 1).trans h.l,(hc 2).trans h.pl,(World.frozen?_of_block (a:=⟨C.g,2,none⟩) hgb).trans h.fz,?_,Nat.lt_of_lt_of_le h.lt hg.size,h.le,
  h.vars.keep (hg.block 1 (by omega) (fun e => by injection e; omega)) (hg.block 3 (by omega) (fun e => by injection e; omega)),h.far⟩
 refine ⟨h.sh.1,fun hn => ?_⟩
 obtain ⟨b,off,e,hb,hcell⟩:=h.sh.2 hn
 refine ⟨b,off,e,hb,fun j t ht => ?_⟩
 obtain ⟨c0,c1,c2⟩:=hcell j t ht
 have hbk:=hg.block b (by omega) (fun e' => hA b off e (by injection e'))
 exact ⟨(World.cell?_of_block (a:=⟨b,_,none⟩) hbk).trans c0,(World.cell?_of_block (a:=⟨b,_,none⟩) hbk).trans c1,(World.cell?_of_block (a:=⟨b,_,none⟩) hbk).trans c2⟩
def NewTo (bs : List Int) (w : World) (e : Ending) (w' : World) : Prop:=
 ∃ C : Cx,e = .returned C.ptr ∧ C.T = strOfNums bs ∧ C.L = live bs 0 ∧ Cur C w' 0 ∧ Below w.heap.size w w' ∧ w.heap.size ≤ C.g ∧ ∀ b off,C.A = some ⟨b,off,none⟩ → w.heap.size ≤ b
set_option maxRecDepth 10000 in
theorem new_any (A : Option Addr) (n c : Nat) (bs : List Int) (w : World) (hx : Sh w w.heap.size A n (by8 bs)) (hn : n ≤ 1000000) (hnc : n ≤ c) (hcm : c ≤ maxLen) (hv : Vars w) :
  CP 29 #[.slice A n c] w (NewTo bs w):=by
 have hl : bs.length = n:=by have:=hx.len; rwa [by8_len] at this
 have hvs:=hv.size
 have HV:=Lh hv
 have htl:=toks_len bs bs.length 0 (by omega)
 have HCV : Hid (∀ w',Below w.heap.size w w' → (convert 22 9 (.slice A n c)).run Tryz.prog w' = .ok (.string (strOfNums bs)) w'):=Lh fun w' hb => convert_sh (hx.below hb) c
 have HX:=Lh hx
 have HA : Hid (∀ w',Below w.heap.size w w' → CP 28 #[.slice A n c] w' (ToksTo (toks bs 0) w')):=Lh fun w' hb => lexAll_any A n c bs w' ((HX.out.below hb).more hb.size) hn hnc hcm
 have HLV : Hid (∀ w' A n c,ShT w' w'.heap.size A n (toks bs 0) → CP 38 #[.slice A n c] w' (ToksTo (live bs 0) w')):=Lh fun w' A m c h => live_any A m c (toks bs 0) w' h (by have:=h.1; omega)
 have HLL:=Lh (live_len bs)
 have k0:=HCV.out _ (below_drew w _)
 have B0:=Lh (below_drew w w.heap.size)
 clear hx hv hl
 go_enter Tryz.func29,Tryz.ntmps29
 go_wp2_with fail
 go_region_held3 (fun w' => (convert 22 9 (.slice A n c)).run Tryz.prog w' = .ok (.string (strOfNums bs)) w') (((try dsimp only); first | assumption | exact HCV.out _ (B3.out.alloc B3.out.size _) | go_keep)) (first
  | (go_at_call 28; refine (HA.out _ B0.out).mono ?_; rintro e w2 ⟨v2,rfl,ho2,b2⟩; obtain ⟨A2,c2,rfl⟩:=ho2.form; have HO2:=Lh ho2; have B2:=Lh (B0.out.trans b2); have k2:=HCV.out _ B2.out; clear b2 ho2)
  | (go_at_call 38; refine (HLV.out _ _ _ _ (HO2.out.tok rfl)).mono ?_; rintro e w3 ⟨v3,rfl,ho3,b3⟩; obtain ⟨A3,c3,rfl⟩:=ho3.form; have HO3:=Lh ho3; have B3:=Lh (bTr B2 b3); have k3:=HCV.out _ B3.out; clear b3 ho3)
  | fail)
 go_wp2
 go_ret
 have B4 : Below w.heap.size w (w3.alloc (.cells #[.string (strOfNums bs),.slice A3 (live bs 0).length c3,.int .i64 0] 104)):=B3.out.alloc B3.out.size _
 refine ⟨⟨w3.heap.size,strOfNums bs,A3,c3,live bs 0⟩,rfl,rfl,rfl,?_,B4,B3.out.size,fun b off e => ?_⟩
 rotate_left
 ·have e' : A3 = some ⟨b,off,none⟩:=e
  have:=HO3.out.block_ge b (by rw [e']; rfl)
  exact Nat.le_trans B2.out.size this
 refine ⟨by rw [World.cell?_alloc_at _ _ _ _ rfl]; rfl,by rw [World.cell?_alloc_at _ _ _ _ rfl]; rfl,by rw [World.cell?_alloc_at _ _ _ _ rfl]; rfl,World.frozen?_alloc_new _ _ _ _,?_,by simp,Nat.zero_le _,HV.out.under B4 hvs,Nat.lt_of_lt_of_le hvs B3.out.size⟩
 exact (HO3.out.tok rfl).up bAl nLe
set_option maxRecDepth 10000 in
theorem expr_any (C : Cx) (hC : TokOk C.T C.L) (hDg : DigOk C) (f p : Nat) (w : World) (h : Cur C w p) (hf : 16 * (C.L.length - p) + 9 ≤ f) :
  CP 105 #[C.ptr] w (RdTo C w (rd C.R f (.lev 1) p 0)):=by
 have hz:=zeroEx'
 have hlt:=h.lt
 have HB:=Lh ((all_step C hC hDg f).1 1 0 p _ (by omega) (by omega) (by omega) (h.under (entry_below w)) (by omega))
 have HE:=Lh (entry_slot w)
 have HES:=Lh (entry_size w)
 have HEB:=Lh (entry_below w)
 obtain ⟨g,hg⟩ : ∃ g,rd C.R f (.lev 1) p 0 = g:=⟨_,rfl⟩
 rw [hg] at HB ⊢
 clear h hg
 go_enter Tryz.func105,Tryz.ntmps105
 go_wp2_with (first
  | (go_at_call 124; refine HB.out.mono ?_; rintro e w2 ⟨lv,rfl,hx,hg,hc⟩; have hone:=hx.one; have HX:=Lh hx; have HG:=Lh hg; have HC2:=Lh hc; clear hx hg hc; dsimp only)
  | (refine wpList_stx rfl (.tmp 2) (.tmp 9) rfl w.heap.size rfl (HE.out.grown HG.out (by intro e; injection e; omega)) (e:=g.e) (lv:=lv) rfl hone ?_; intro w3 hg3 hs3; have HG3:=Lh hg3; have HS3:=Lh hs3; clear hg3 hs3)
  | fail)
 refine ex_done rfl rfl rfl rfl HS3.out ⟨lv,rfl,?_,?_,?_⟩
 ·exact (HX.out.grown HG3.out (fun b hb _ e => by injection e with e; rw [HES.out] at hb; omega)).weak (fun b hb _ => by rw [HES.out] at hb; omega)
 ·exact fr_new (gb_trans (below_fr HEB.out _) HG.out) HG3.out nLe
 ·exact HC2.out.grown HG3.out (fun k e => by cases e; omega)
end Go.Proofs.YtkjhlgnpohamnaaGreatDoor
