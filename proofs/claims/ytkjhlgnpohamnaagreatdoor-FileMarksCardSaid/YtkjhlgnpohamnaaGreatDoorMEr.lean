import Derived.Test.YtkjhlgnpohamnaaGreatDoorSq
import Derived.Test.YtkjhlgnpohamnaaGreatDoorMEp
import Derived.Deep.RegionHeld3
set_option maxHeartbeats 1600000
namespace Go.Proofs.YtkjhlgnpohamnaaGreatDoor
set_option linter.unusedVariables false
set_option linter.unusedSimpArgs false
open Go.RowKit
def DigOk (C : Cx) : Prop:=∀ p,C.R.kd p = 3 → Digits (C.R.wd p)
def RdTo (C : Cx) (w : World) (G : Gt) (e : Ending) (w' : World) : Prop:=PutTo C (fun b => w.heap.size ≤ b) w G e w'
def BinC (C : Cx) (f : Nat) : Prop:=∀ (l d p : Nat) (w : World),1 ≤ l → l ≤ 6 → d ≤ 32 → Cur C w p → 16 * (C.L.length - p) + (10 - l) ≤ f →
 CP 124 #[C.ptr,.int .i64 (l : Int),.int .i64 (d : Int)] w (RdTo C w (rd C.R f (.lev l) p d))
def SgC (C : Cx) (f : Nat) : Prop:=∀ (d p : Nat) (w : World),d ≤ 32 → Cur C w p → 16 * (C.L.length - p) + 3 ≤ f →
 CP 138 #[C.ptr,.int .i64 (d : Int)] w (RdTo C w (rd C.R f .sg p d))
def PrC (C : Cx) (f : Nat) : Prop:=∀ (d p : Nat) (w : World),d ≤ 32 → Cur C w p → 16 * (C.L.length - p) + 2 ≤ f →
 CP 152 #[C.ptr,.int .i64 (d : Int)] w (RdTo C w (rd C.R f .pr p d))
def OpC (C : Cx) (f : Nat) : Prop:=∀ (d p : Nat) (w : World),d ≤ 32 → Cur C w p → p < C.L.length → 16 * (C.L.length - p) + 1 ≤ f →
 CP 167 #[C.ptr,.int .i64 (d : Int)] w (RdTo C w (rd C.R f .op p d))
def NmC (C : Cx) (f : Nat) : Prop:=∀ (d p : Nat) (w : World),d ≤ 32 → Cur C w p → 16 * (C.L.length - p) + 1 ≤ f →
 CP 168 #[C.ptr,.int .i64 (d : Int)] w (RdTo C w (rd C.R f .nm p d))
def wiG (R : Rw) (g : Gt) (ss : List ByteArray) : Gt:=if g.r = 0 then (if (mustP R g.p ss).2 = 0 then good g.e (mustP R g.p ss).1 else bad (mustP R g.p ss).1 (mustP R g.p ss).2) else bad g.p g.r
def WiC (C : Cx) (f : Nat) : Prop:=∀ (d p : Nat) (w : World) (ss : List ByteArray) (A : Option Addr) (n c : Nat),d ≤ 32 → Cur C w p → 16 * (C.L.length - p) + 1 ≤ f →
 (∀ s ∈ ss,s.size ≠ 0) → Sh w w.heap.size A n (ss.map Value.string) → n ≤ 1000 → (∀ b off,A = some ⟨b,off,none⟩ → b ≠ C.g) →
 CP 166 #[C.ptr,.int .i64 (d : Int),.slice A n c] w (RdTo C w (wiG C.R (rd C.R f .gr p d) ss))
def ArTo (C : Cx) (w : World) (G : Gt) (e : Ending) (w' : World) : Prop:=
 ∃ lv,e = .returned (.tuple #[lv,.int .i64 G.r]) ∧ (G.r = 0 → Shx w' (fun b => w.heap.size ≤ b) lv G.e.l) ∧ w.grownBy w' (some C.g) ∧ Cur C w' G.p
def ArC (C : Cx) (f : Nat) : Prop:=∀ (d p : Nat) (w : World),d ≤ 32 → Cur C w p → C.R.is p [40] = true → 16 * (C.L.length - p) + 1 ≤ f →
 CP 178 #[C.ptr,.int .i64 (d : Int)] w (ArTo C w (rd C.R f .ar p d))
theorem rd_loop_no {R : Rw} {f l a d : Nat} {e : Ex} (h : sgnL l (R.wd a) = false) : rd R (f + 1) (.loop l e) a d = good e a:=by
 simp only [rd]
 rw [if_neg (by rw [h]; decide)]
theorem rd_loop_yes {R : Rw} {f l a d : Nat} {e : Ex} {g : Gt} (h : sgnL l (R.wd a) = true) (hg : rd R f (.lev (l + 1)) (a + 1) d = g) : rd R (f + 1) (.loop l e) a d =
  if g.r = 0 then (if (hld (eBin (R.wd a) e g.e) g.p a).r = 0 then rd R f (.loop l (hld (eBin (R.wd a) e g.e) g.p a).e) (hld (eBin (R.wd a) e g.e) g.p a).p d else bad (hld (eBin (R.wd a) e g.e) g.p a).p (hld (eBin (R.wd a) e g.e) g.p a).r) else bad g.p g.r:=by
 simp only [rd]
 rw [if_pos h,hg]
theorem sgnL_ne {l : Nat} {s : ByteArray} (h : sgnL l s = true) : (s.toList == []) = false:=by
 cases hs : s.toList with
 | nil =>
  unfold sgnL at h
  rw [hs] at h
  revert h
  repeat' split
  all_goals simp
 | cons c r => rfl
set_option maxRecDepth 10000 in
theorem binary6 (C : Cx) (hC : TokOk C.T C.L) (f : Nat) (hS : SgC C f) (d p : Nat) (w : World) (hd : d ≤ 32) (h : Cur C w p) (hf : 16 * (C.L.length - p) + 4 ≤ f + 1) :
  CP 124 #[C.ptr,.int .i64 6,.int .i64 (d : Int)] w (RdTo C w (rd C.R (f + 1) (.lev 6) p d)):=by
 have hz:=zeroEx'
 have hlt:=h.lt
 have HS:=Lh (hS d p _ hd (h.under (entry_below w)) (by omega))
 have HE:=Lh (entry_slot w)
 have HES:=Lh (entry_size w)
 have HEB:=Lh (entry_below w)
 have HR:=Lh (rd_lev6 (R:=C.R) (f:=f) (l:=6) (a:=p) (d:=d) nLe)
 rw [HR.out]
 clear h hS
 go_enter Tryz.func124,Tryz.ntmps124
 go_wp2_with (first
  | (go_at_call 138; refine HS.out.mono ?_; rintro e w2 ⟨lv,rfl,hx,hg,hc⟩; have hone:=hx.one; have HX:=Lh hx; have HG:=Lh hg; have HC2:=Lh hc; clear hx hg hc; dsimp only)
  | (refine wpList_stx rfl (.tmp 6) (.tmp 19) rfl w.heap.size rfl (HE.out.grown HG.out (by intro e; injection e; omega)) (e:=(rd C.R f .sg p d).e) (lv:=lv) rfl hone ?_; intro w3 hg3 hs3; have HG3:=Lh hg3; have HS3:=Lh hs3; clear hg3 hs3)
  | fail)
 refine ex_done rfl rfl rfl rfl HS3.out ⟨lv,rfl,?_,?_,?_⟩
 ·exact (HX.out.grown HG3.out (fun b hb _ e => by injection e with e; rw [HES.out] at hb; omega)).weak (fun b hb _ => by rw [HES.out] at hb; omega)
 ·exact fr_new (gb_trans (below_fr HEB.out _) HG.out) HG3.out nLe
 ·exact HC2.out.grown HG3.out (fun k e => by cases e; omega)
def placeOf (w : World) (g : Nat) : Nat:=match w.cell? ⟨g,2,none⟩ with
 | some (.int _ z) => z.toNat
 | _ => 0
theorem placeOf_eq {C : Cx} {w : World} {q : Nat} (h : Cur C w q) : placeOf w C.g = q:=by unfold placeOf; rw [h.pl]; rfl
set_option maxRecDepth 10000 in
theorem binaryL (C : Cx) (hC : TokOk C.T C.L) (f : Nat) (hB : ∀ f' ≤ f,BinC C f') (l d p : Nat) (w : World) (h1 : 1 ≤ l) (h5 : l ≤ 5) (hd : d ≤ 32) (h : Cur C w p) (hf : 16 * (C.L.length - p) + (10 - l) ≤ f + 1) :
  CP 124 #[C.ptr,.int .i64 (l : Int),.int .i64 (d : Int)] w (RdTo C w (rd C.R (f + 1) (.lev l) p d)):=by
 have hz:=zeroEx'
 have hlt:=h.lt
 have hle:=h.le
 have hln:=hC.len
 have hw1 : IntKind.i64.wrap ((l : Int) + 1) = ((l + 1 : Nat) : Int):=by rw [IntWalk.i64_in _ (by omega)]; omega
 have hl6 : ((l : Int) == 6) = false:=by simp; omega
 have hl6' : decide ((l : Int) = 6) = false:=by simp; omega
 have hl6'' : decide (l = 6) = false:=by simp; omega
 have HB1:=Lh (hB f nLe (l + 1) d p _ (by omega) (by omega) hd (h.under (entry_below w)) (by omega))
 have HBB:=Lh hB
 have HE:=Lh (entry_slot w)
 have HES:=Lh (entry_size w)
 have HEB:=Lh (entry_below w)
 have hin:=rd_in (row_ok C.T C.L) f (.lev (l + 1)) p d hle (fun h => by cases h)
 have hfi:=rd_fine (row_ok C.T C.L) hC.len f (.lev (l + 1)) p d hle (fun h => by cases h) trivial
 have hrd:=rd_lev (R:=C.R) (f:=f) (l:=l) (a:=p) (d:=d) (by omega)
 obtain ⟨g,hg⟩ : ∃ g,rd C.R f (.lev (l + 1)) p d = g:=⟨_,rfl⟩
 rw [hg] at HB1 hin hfi hrd
 obtain ⟨X,hX⟩ : ∃ X,rd C.R (f + 1) (.lev l) p d = X:=⟨_,rfl⟩
 rw [hX] at hrd ⊢
 have HIN:=Lh hin
 have HFI:=Lh hfi
 have HRD:=Lh hrd
 have SL : Hid (∀ p,Cur C w p → True):=Lh fun _ _ => trivial
 clear hB h hg hX hin hfi hrd SL
 go_enter Tryz.func124,Tryz.ntmps124
 go_wp2_with (first
  | (go_at_call 124; refine HB1.out.mono ?_; rintro e w2 ⟨lv,rfl,hx,hgr,hc⟩; have hone:=hx.one; have HX:=Lh hx; have HG:=Lh hgr; have HC2:=Lh hc; clear hx hgr hc; dsimp only [exV])
  | (refine wpList_stx rfl (.tmp 8) (.tmp 27) rfl w2.heap.size rfl (entry_slot w2) (e:=g.e) (lv:=lv) rfl hone ?_; intro w3 hg3 hs3; have HG3:=Lh hg3; have HS3:=Lh hs3; clear hg3 hs3)
  | fail)
 have hs12:=HG.out.size
 rw [HES.out] at hs12
 have hs23:=HG3.out.size
 rw [entry_size] at hs23
 -- the state at the loop's head
 have hg3 : w.grownBy w3 (some C.g):=fr_new (gb_trans (gb_trans (below_fr HEB.out _) HG.out) (below_fr (entry_below w2) _)) HG3.out (by omega)
 have hc3 : Cur C w3 g.p:=(HC2.out.under (entry_below w2)).grown HG3.out (fun k e => by cases e; omega)
 have hs6 : Slot w3 w.heap.size Ex.nul (.slice none 0 0):=((HE.out.grown HG.out (by intro e; injection e; omega)).below (entry_below w2) (by omega)).grown HG3.out (by intro e; injection e; omega)
 have hx3 : Shx w3 (fun b => w.heap.size < b ∧ b ≠ w2.heap.size) lv g.e.l:=((HX.out.weak (S':=fun b => w.heap.size < b ∧ b ≠ w2.heap.size) fun b hb hlt => ⟨by rw [HES.out] at hb; omega,by omega⟩).under (entry_below w2) (fun b _ hb => hb)).grown HG3.out (fun b hb _ e => by injection e with e; exact hb.2 e)
 obtain ⟨G8,hG8⟩ : ∃ G8,w2.heap.size = G8:=⟨_,rfl⟩
 rw [hG8] at hx3 HS3 ⊢
 have hG8l : w.heap.size < G8:=by omega
 have hinv : g.r = 0 → Fine g.e ∧ g.e.cnt + p ≤ g.p ∧ ∃ f',f' ≤ f ∧ 16 * (C.L.length - g.p) + 15 ≤ f' ∧ rd C.R f' (.loop l g.e) g.p d = X:=fun h0 => by
  have h2:=HFI.out h0
  have h3:=HIN.out.2.2 h0 rfl
  refine ⟨h2.1,h2.2,f,Nat.le_refl _,by have:=HIN.out.2.1; have : g.p ≤ C.L.length:=this; omega,?_⟩
  have h4:=HRD.out
  rw [if_pos h0] at h4
  exact h4.symm
 have hinv2 : g.r ≠ 0 → X = bad g.p g.r:=fun h0 => by
  have h4:=HRD.out
  rw [if_neg h0] at h4
  exact h4
 have J1:=Lh hg3
 have J2:=Lh hc3
 have J3:=Lh hs6
 have J4:=Lh hx3
 have J5:=Lh hinv
 have J6:=Lh hinv2
 clear hg3 hc3 hs6 hx3 hG8 hinv hinv2 hs12 hs23
 clear HB1 HIN HFI HRD HX HG HC2 HG3
 go_loopw [9] (fun ev wr => ∃ (x : Ex) (zv : Value) (q : Nat) (er : Int),ev = .int .i64 er ∧ w.grownBy wr (some C.g) ∧ Cur C wr q ∧ Slot wr w.heap.size Ex.nul (.slice none 0 0) ∧ Slot wr G8 x zv ∧ Shx wr (fun b => w.heap.size < b ∧ b ≠ G8) zv x.l ∧
   (er = 0 → Fine x ∧ x.cnt + p ≤ q ∧ ∃ f',f' ≤ f ∧ 16 * (C.L.length - q) + 15 ≤ f' ∧ rd C.R f' (.loop l x) q d = X) ∧ (er ≠ 0 → X = bad q er)) (fun ev wr => if intOf ev = 0 then 1 + (C.L.length - placeOf wr C.g) else 0)
 case atStart => exact ⟨g.e,lv,g.p,g.r,rfl,J1.out,J2.out,J3.out,HS3.out,J4.out,J5.out,J6.out⟩
 case round =>
  clear J1 J2 J3 J4 J5 J6 HS3 hone
  obtain ⟨x,zv,q,er,rfl,hg,hc,hs6,hs8,hx,hi1,hi2⟩:=hrel
  have K1:=Lh hg
  have K2:=Lh hc
  have K3:=Lh hs6
  have K4:=Lh hs8
  have K5:=Lh hx
  have hone:=hx.one
  have c2:=hc.pl
  have hpl:=placeOf_eq hc
  have hql:=hc.le
  clear hg hc hs6 hs8 hx
  by_cases h0 : er = 0
  ·subst h0
   obtain ⟨hfx,hcx,f',hf1,hf2,hf3⟩:=hi1 rfl
   have M1:=Lh hfx
   have M3:=Lh hf3
   have hSG:=Lh (sign_lev C hC q l wr K2.out h1 h5)
   obtain ⟨f'',rfl⟩ : ∃ f'',f' = f'' + 1:=⟨f' - 1,by omega⟩
   clear hi1 hi2 hfx hf3
   cases hsg : sgnL l (C.R.wd q) with
   | false =>
    rw [hsg] at hSG
    have M4 : Hid (good x q = X):=Lh (by rw [← M3.out,rd_loop_no hsg])
    go_wp2_with (first
     | (go_at_call 139; refine hSG.out.mono ?_; rintro e w4 ⟨rfl,hc4,hg4⟩; have HC4:=Lh hc4; have HG4:=Lh hg4; clear hc4 hg4; dsimp only)
     | (refine wpList_ldx' rfl (.tmp 8) rfl G8 0 rfl (K4.out.grown HG4.out (by intro e; injection e; omega)).cs ?_)
     | (refine wpList_stx rfl (.tmp 6) (.tmp 40) rfl w.heap.size rfl (K3.out.grown HG4.out (by intro e; injection e; omega)) (e:=x) (lv:=zv) rfl hone ?_; intro w5 hg5 hs5; have HG5:=Lh hg5; have HS5:=Lh hs5; clear hg5 hs5)
     | fail)
    rw [← M4.out]
    refine ex_done rfl rfl rfl rfl HS5.out ⟨zv,rfl,?_,?_,?_⟩
    ·exact ((K5.out.grown HG4.out (fun b hb _ e => by injection e with e; omega)).grown HG5.out (fun b hb _ e => by injection e with e; omega)).weak (fun b hb _ => by omega)
    ·exact fr_new (gb_trans K1.out HG4.out) HG5.out nLe
    ·exact (show Cur C _ q from HC4.out).grown HG5.out (fun k e => by cases e; omega)
   | true =>
    rw [hsg] at hSG
    have hne:=sgnL_ne hsg
    have hql2 : q < C.L.length:=(row_ok C.T C.L).sgnL_lt hsg
    have hwr:=K1.out.size
    have hwr8:=K4.out.lt
    obtain ⟨g2,hg2⟩ : ∃ g2,rd C.R f'' (.lev (l + 1)) (q + 1) d = g2:=⟨_,rfl⟩
    have hin:=rd_in (row_ok C.T C.L) f'' (.lev (l + 1)) (q + 1) d hql2 (fun h => by cases h)
    have hfi:=rd_fine (row_ok C.T C.L) hC.len f'' (.lev (l + 1)) (q + 1) d hql2 (fun h => by cases h) trivial
    have hly:=rd_loop_yes (e:=x) hsg hg2
    rw [M3.out] at hly
    rw [hg2] at hin hfi
    have HBC : Hid (∀ W,Cur C W (q + 1) → CP 124 #[C.ptr,.int .i64 ((l + 1 : Nat) : Int),.int .i64 (d : Int)] W (RdTo C W g2)):=Lh fun W hW => by
     have:=HBB.out f'' (by omega) (l + 1) d (q + 1) W (by omega) (by omega) hd hW (by omega)
     rwa [hg2] at this
    have M5:=Lh hin
    have M6:=Lh hfi
    have M7:=Lh hly
    have hg2p : g2.p ≤ C.L.length:=hin.2.1
    have hg2q : q + 1 ≤ g2.p:=hin.1
    clear hg2 hin hfi hly
    by_cases hr2 : g2.r = 0
    ·have hfg:=M6.out hr2
     have hgt:=M5.out.2.2 hr2 rfl
     obtain ⟨G2,hG2⟩ : ∃ G2,hld (eBin (C.R.wd q) x g2.e) g2.p q = G2:=⟨_,rfl⟩
     have hcnt : (eBin (C.R.wd q) x g2.e).cnt ≤ 1000000:=by rw [bin_cnt]; have:=hfg.2; omega
     have HPU : Hid (∀ W lv (S : Nat → Prop),Cur C W g2.p → Shx W S lv (eBin (C.R.wd q) x g2.e).l → (∀ b,S b → b ≠ C.g) → CP 140 #[C.ptr,.int .i64 (q : Int),exV (eBin (C.R.wd q) x g2.e) lv] W (PutTo C S W G2)):=Lh fun W lv S h1 h2 h3 => by
      have:=put_any C hC g2.p q W h1 (by omega) (eBin (C.R.wd q) x g2.e) lv S (bin_wfx M1.out hfg.1) hcnt h2 h3
      rwa [hG2] at this
     have M8:=Lh hfg
     have M9:=Lh hG2
     have hr2' : (g2.r == 0) = true:=by simp [hr2]
     have hr2'' : decide (g2.r = 0) = true:=by simp [hr2]
     clear hfg hG2
     go_wp2_with (first
      | (go_at_call 139; refine hSG.out.mono ?_; rintro e w4 ⟨rfl,hc4,hg4⟩; have HC4:=Lh (show Cur C w4 (q + 1) from hc4); have HG4:=Lh hg4; have hs4:=hg4.size; clear hc4 hg4; dsimp only)
      | (go_at_call 124; refine (HBC.out _ (HC4.out.under (entry_below w4))).mono ?_; rintro e w5 ⟨lv2,rfl,hx5,hg5,hc5⟩; have hone5:=hx5.one; have HX5:=Lh hx5; have HG5:=Lh hg5; have HC5:=Lh hc5; have hs5:=hg5.size; rw [entry_size] at hs5; clear hx5 hg5 hc5; dsimp only [exV])
      | (refine wpList_stx rfl (.tmp 12) (.tmp 47) rfl w4.heap.size rfl ((entry_slot w4).grown HG5.out (by intro e; injection e; omega)) (e:=g2.e) (lv:=lv2) rfl hone5 ?_; intro w6 hg6 hs6; have HG6:=Lh hg6; have HS6:=Lh hs6; have hz6:=hg6.size; have HK8:=Lh ((((K4.out.grown HG4.out (by intro e; injection e; omega)).below (entry_below w4) (by omega)).grown HG5.out (by intro e; injection e; omega)).grown hg6 (by intro e; injection e; omega)); have c81 : ∀ o,(w6.alloc o).cell? ⟨G8,1,none⟩ = some (.int .i64 x.a):=(fun o => (World.cell?_alloc_past _ _ _ HK8.out.lt).trans (HK8.out.cs 1 _ rfl)); clear hg6 hs6)
      | (refine wpList_ldx' rfl (.tmp 8) rfl G8 0 rfl HK8.out.cs ?_)
      | (refine wpList_ldx' rfl (.tmp 12) rfl w4.heap.size 0 rfl HS6.out.cs ?_)
      | (go_at_call 140; have HXA : Hid (Shx w6 (fun b => w.heap.size < b ∧ b ≠ G8) zv x.l):=Lh ((((((K5.out.weak (S':=fun b => (w.heap.size < b ∧ b ≠ G8) ∧ b < wr.heap.size) (by intro b h1 h2; exact ⟨h1,h2⟩)).grown HG4.out (by intro b hb _ e; injection e; omega)).under (entry_below w4) (by intro b _ hb; exact hb)).grown HG5.out (by intro b hb _ e; injection e; omega)).grown HG6.out (by intro b hb _ e; injection e with e; omega)).weak (by intro b hb _; exact hb.1)); have HXB : Hid (Shx w6 (fun b => w.heap.size < b ∧ b ≠ G8) lv2 g2.e.l):=Lh ((HX5.out.grown HG6.out (by intro b hb _ e; injection e with e; rw [entry_size] at hb; omega)).weak (by intro b hb _; rw [entry_size] at hb; omega)); have HC6 : Hid (Cur C w6 g2.p):=Lh (HC5.out.grown HG6.out (by intro k e; cases e; omega)); have HLT:=Lh (Shx.lit (w:=w6) (S:=fun b => w.heap.size < b ∧ b ≠ G8) [(x,zv),(g2.e,lv2)] (by simp) (by intro p hp; simp at hp; rcases hp with rfl | rfl; exact HXA.out; exact HXB.out) (by omega) (C:=#[.int .i64 x.k,.int .i64 x.a,.int .i64 x.m,.string x.nm,.string x.lb,zv,.int .i64 g2.e.k,.int .i64 g2.e.a,.int .i64 g2.e.m,.string g2.e.nm,.string g2.e.lb,lv2]) rfl); refine (HPU.out _ _ (fun b => w.heap.size < b ∧ b ≠ G8) (HC6.out.under bAl) HLT.out (by intro b hb; omega)).mono ?_; rintro e w7 ⟨lv7,rfl,hx7,hg7,hc7⟩; have hone7:=hx7.one; have HX7:=Lh hx7; have HG7:=Lh hg7; have HC7:=Lh hc7; have hs7:=hg7.size; clear hx7 hg7 hc7; dsimp only [exV])
      | (refine wpList_stx rfl (.tmp 8) (.tmp 63) rfl G8 rfl ((HK8.out.below bAl HK8.out.lt).grown HG7.out (by intro e; injection e; omega)) (e:=G2.e) (lv:=lv7) rfl hone7 ?_; intro w8 hg8 hs8; have HG8':=Lh hg8; have HS8:=Lh hs8; clear hg8 hs8)
      | fail)
     have hfrm : w.grownBy w8 (some C.g):=fr_new (gb_trans (gb_trans (fr_new (gb_trans (gb_trans (gb_trans K1.out HG4.out) (below_fr (entry_below w4) _)) HG5.out) HG6.out (by omega)) (below_fr bAl _)) HG7.out) HG8'.out (by omega)
     have hcur : Cur C w8 G2.p:=HC7.out.grown HG8'.out (fun k e => by cases e; omega)
     have hs6 : Slot w8 w.heap.size Ex.nul (.slice none 0 0):=(((((((K3.out.grown HG4.out (by intro e; injection e; omega)).below (entry_below w4) (by omega)).grown HG5.out (by intro e; injection e; omega)).grown HG6.out (by intro e; injection e; omega)).below bAl (by omega)).grown HG7.out (by intro e; injection e; omega)).grown HG8'.out (by intro e; injection e; omega))
     have hshx : Shx w8 (fun b => w.heap.size < b ∧ b ≠ G8) lv7 G2.e.l:=HX7.out.grown HG8'.out (fun b hb _ e => by injection e with e; exact hb.2 e)
     have hpl8:=placeOf_eq hcur
     have hfin : (G2.r = 0 → G2.p = g2.p ∧ Fine G2.e ∧ G2.e.cnt + p ≤ G2.p ∧ rd C.R f'' (.loop l G2.e) G2.p d = X) ∧ (G2.r ≠ 0 → X = bad G2.p G2.r):=by
      have h7:=M7.out
      rw [if_pos hr2,M9.out] at h7
      refine ⟨fun h0 => ?_,fun h0 => ?_⟩
      ·rw [if_pos h0] at h7
       rcases hld_p (eBin (C.R.wd q) x g2.e) g2.p q with ⟨e1,e2,e3,e4⟩ | ⟨e1,_,_⟩
       ·rw [M9.out] at e2 e3
        have h8:=M8.out.2
        rw [e2,e3]
        refine ⟨rfl,⟨bin_wfx M1.out M8.out.1,e4⟩,by rw [bin_cnt]; omega,?_⟩
        rw [e2,e3] at h7
        exact h7.symm
       ·rw [M9.out,h0] at e1; cases e1
      ·rw [if_neg h0] at h7
       exact h7
     have HF1:=Lh hfrm
     have HF2:=Lh hcur
     have HF3:=Lh hs6
     have HF4:=Lh hshx
     have HF5:=Lh hfin
     clear hfrm hcur hs6 hshx hfin
     go_roundw
     case rel =>
      refine ⟨G2.e,lv7,G2.p,G2.r,rfl,HF1.out,HF2.out,HF3.out,HS8.out,HF4.out,fun h0 => ?_,HF5.out.2⟩
      obtain ⟨e1,e2,e3,e4⟩:=HF5.out.1 h0
      exact ⟨e2,e3,f'',by omega,by omega,e4⟩
     case measure =>
      rw [hpl8,hpl]
      by_cases h0 : G2.r = 0
      ·obtain ⟨e1,_,_,_⟩:=HF5.out.1 h0
       simp only [intOf,h0,if_true]
       omega
      ·simp only [intOf,h0,if_false,if_true]
       omega
    ·have hr2' : (g2.r == 0) = false:=by simp [hr2]
     have hr2'' : decide (g2.r = 0) = false:=by simp [hr2]
     go_wp2_with (first
      | (go_at_call 139; refine hSG.out.mono ?_; rintro e w4 ⟨rfl,hc4,hg4⟩; have HC4:=Lh (show Cur C w4 (q + 1) from hc4); have HG4:=Lh hg4; have hs4:=hg4.size; clear hc4 hg4; dsimp only)
      | (go_at_call 124; refine (HBC.out _ (HC4.out.under (entry_below w4))).mono ?_; rintro e w5 ⟨lv2,rfl,hx5,hg5,hc5⟩; have hone5:=hx5.one; have HX5:=Lh hx5; have HG5:=Lh hg5; have HC5:=Lh hc5; have hs5:=hg5.size; rw [entry_size] at hs5; clear hx5 hg5 hc5; dsimp only [exV])
      | (refine wpList_stx rfl (.tmp 12) (.tmp 47) rfl w4.heap.size rfl ((entry_slot w4).grown HG5.out (by intro e; injection e; omega)) (e:=g2.e) (lv:=lv2) rfl hone5 ?_; intro w6 hg6 hs6; have HG6:=Lh hg6; have HS6:=Lh hs6; have hz6:=hg6.size; clear hg6 hs6)
      | fail)
     have hfrm : w.grownBy w6 (some C.g):=fr_new (gb_trans (gb_trans (gb_trans K1.out HG4.out) (below_fr (entry_below w4) _)) HG5.out) HG6.out (by omega)
     have hcur : Cur C w6 g2.p:=HC5.out.grown HG6.out (fun k e => by cases e; omega)
     have hs6 : Slot w6 w.heap.size Ex.nul (.slice none 0 0):=((((K3.out.grown HG4.out (by intro e; injection e; omega)).below (entry_below w4) (by omega)).grown HG5.out (by intro e; injection e; omega)).grown HG6.out (by intro e; injection e; omega))
     have hs8 : Slot w6 G8 x zv:=((((K4.out.grown HG4.out (by intro e; injection e; omega)).below (entry_below w4) (by omega)).grown HG5.out (by intro e; injection e; omega)).grown HG6.out (by intro e; injection e; omega))
     have hshx : Shx w6 (fun b => w.heap.size < b ∧ b ≠ G8) zv x.l:=((((((K5.out.weak (S':=fun b => (w.heap.size < b ∧ b ≠ G8) ∧ b < wr.heap.size) (by intro b h1 h2; exact ⟨h1,h2⟩)).grown HG4.out (by intro b hb _ e; injection e; omega)).under (entry_below w4) (by intro b _ hb; exact hb)).grown HG5.out (by intro b hb _ e; injection e; omega)).grown HG6.out (by intro b hb _ e; injection e with e; omega)).weak (by intro b hb _; exact hb.1))
     have hpl8:=placeOf_eq hcur
     have hX2 : X = bad g2.p g2.r:=by
      have h7:=M7.out
      rw [if_neg hr2] at h7
      exact h7
     have HF1:=Lh hfrm
     have HF2:=Lh hcur
     have HF3:=Lh hs6
     have HF4:=Lh hshx
     have HF5:=Lh hs8
     have HF6:=Lh hX2
     clear hfrm hcur hs6 hshx hs8 hX2
     go_roundw
     case rel => exact ⟨x,zv,g2.p,g2.r,rfl,HF1.out,HF2.out,HF3.out,HF5.out,HF4.out,fun h0 => absurd h0 hr2,fun _ => HF6.out⟩
     case measure =>
      rw [hpl]
      simp only [intOf,hr2,if_false,if_true]
      omega
  ·have h0' : (er == 0) = false:=by simp [h0]
   have h0'' : decide (er = 0) = false:=by simp [h0]
   have M4:=Lh (hi2 h0)
   clear hi1 hi2
   go_wp2_with (first
    | (refine wpList_stx rfl (.tmp 6) (.tmp 65) rfl w.heap.size rfl K3.out (e:=Ex.nul) (lv:=.slice none 0 0) rfl rfl ?_; intro w5 hg5 hs5; have HG5:=Lh hg5; have HS5:=Lh hs5; clear hg5 hs5)
    | fail)
   rw [M4.out]
   refine ex_done rfl rfl rfl rfl HS5.out ⟨.slice none 0 0,rfl,.nil,?_,?_⟩
   ·exact fr_new K1.out HG5.out nLe
   ·exact K2.out.grown HG5.out (fun k e => by cases e; omega)
theorem bin_step (C : Cx) (hC : TokOk C.T C.L) (f : Nat) (hB : ∀ f' ≤ f,BinC C f') (hS : SgC C f) : BinC C (f + 1):=fun l d p w h1 h6 hd h hf => by
 by_cases h5 : l ≤ 5
 ·exact binaryL C hC f hB l d p w h1 h5 hd h hf
 ·obtain rfl : l = 6:=by omega
  exact binary6 C hC f hS d p w hd h (by omega)
theorem Cur.drew {C : Cx} {w : World} {p : Nat} (h : Cur C w p) : Cur C w.drew p:=⟨h.t,h.l,h.pl,h.fz,h.sh,h.lt,h.le,⟨h.vars.lev,h.vars.rng⟩,h.far⟩
theorem Slot.drew {w : World} {G : Nat} {x : Ex} {lv : Value} (h : Slot w G x lv) : Slot w.drew G x lv:=⟨h.cs,h.fz,h.lt⟩
theorem below_drew (w : World) (B : Nat) : Below B w w.drew:=⟨rfl,rfl,rfl,Nat.le_refl _,fun _ _ => rfl⟩
theorem rd_sg_no {R : Rw} {f a d : Nat} (h : (R.is a [33] || R.is a [45]) = false) : rd R (f + 1) .sg a d = rd R f .pr a d:=by
 simp only [rd]
 rw [if_neg (by rw [h]; decide)]
theorem rd_sg_deep {R : Rw} {f a d : Nat} (h : (R.is a [33] || R.is a [45]) = true) (hd : d = 32) : rd R (f + 1) .sg a d = bad a 12:=by
 simp only [rd]
 rw [if_pos h,if_pos hd]
theorem rd_sg_yes {R : Rw} {f a d : Nat} {g : Gt} (h : (R.is a [33] || R.is a [45]) = true) (hd : ¬ d = 32) (hg : rd R f .sg (a + 1) (d + 1) = g) : rd R (f + 1) .sg a d = if g.r = 0 then hld (eUn (R.ps a) (R.wd a) g.e) g.p a else bad g.p g.r:=by
 simp only [rd]
 rw [if_pos h,if_neg hd,hg]
set_option maxRecDepth 10000 in
theorem signed_step (C : Cx) (hC : TokOk C.T C.L) (f : Nat) (hS : SgC C f) (hP : PrC C f) : SgC C (f + 1):=by
 intro d p w hd h hf
 have hz:=zeroEx'
 have hlt:=h.lt
 have hle:=h.le
 have hln:=hC.len
 have HC0:=Lh (h.under (entry_below w)).drew
 have HE:=Lh (entry_slot w).drew
 have HES:=Lh (show ((w.alloc (.cells z6 77)).drew).heap.size = w.heap.size + 1 from entry_size w)
 have HEB:=Lh ((entry_below w).trans (below_drew _ _))
 have HPO : Hid (∀ W,Cur C W p → CP 32 #[C.ptr] W fun e w' => e = .returned (.int .i64 (C.R.ps p)) ∧ Below W.heap.size W w'):=Lh fun W h2 => pos_any C hC p W h2
 have HPK : Hid (∀ W,Cur C W p → CP 56 #[C.ptr] W fun e w' => e = .returned (.string (C.R.wd p)) ∧ Below W.heap.size W w'):=Lh fun W h2 => peek_any C hC p W h2
 have c0:=HC0.out.pl
 obtain ⟨W0,hW0⟩ : ∃ W0,w.alloc (.cells z6 77) = W0:=⟨_,rfl⟩
 have HW:=Lh hW0
 rw [hW0] at HC0 HE HES HEB c0
 clear h hW0
 go_enter Tryz.func138,Tryz.ntmps138
 go_wp2_with fail
 rw [HW.out]
 go_region_held3 (fun w' => w'.cell? ⟨C.g,2,none⟩ = some (.int .i64 (p : Int))) (((try dsimp only); first | assumption | go_keep)) (first
  | (go_at_call 32; refine (HPO.out _ HC0.out).mono ?_; rintro e w2 ⟨rfl,b2⟩; have HC2:=Lh (HC0.out.under b2); have B2:=Lh b2; have c2:=HC2.out.pl; clear b2)
  | (go_at_call 56; refine (HPK.out _ HC2.out).mono ?_; rintro e w3 ⟨rfl,b3⟩; have HC3:=Lh (HC2.out.under b3); have B3:=Lh b3; have c3:=HC3.out.pl; clear b3)
  | fail)
 have hfr3 : w.grownBy w3 (some C.g):=gb_trans (gb_trans (below_fr HEB.out _) (below_fr B2.out _)) (below_fr B3.out _)
 have hsl3 : Slot w3 w.heap.size Ex.nul (.slice none 0 0):=(HE.out.below B2.out (by have:=HES.out; show w.heap.size < W0.drew.heap.size; omega)).below B3.out (by have:=HES.out; have:=B2.out.size; omega)
 have hsz3 : w.heap.size + 1 ≤ w3.heap.size:=by have:=HES.out; have:=B2.out.size; have:=B3.out.size; omega
 have J1:=Lh hfr3
 have J2:=Lh hsl3
 clear hfr3 hsl3 c0 c2 c3 HC0 HC2 HE HES HEB HW B2 B3
 cases hsg : (C.R.is p [33] || C.R.is p [45]) with
 | false =>
  obtain ⟨e33,e45⟩:=Bool.or_eq_false_iff.1 hsg
  have e33' : ((C.R.wd p).toList == [33]) = false:=e33
  have e45' : ((C.R.wd p).toList == [45]) = false:=e45
  have HRD:=Lh (rd_sg_no (f:=f) (d:=d) hsg)
  have HP:=Lh (hP d p w3 hd HC3.out (by omega))
  obtain ⟨g,hg⟩ : ∃ g,rd C.R f .pr p d = g:=⟨_,rfl⟩
  rw [hg] at HP
  have HG0:=Lh hg
  clear hS hP hsg e33 e45 hg
  go_wp2_with (first
   | (go_at_call 152; refine HP.out.mono ?_; rintro e w4 ⟨lv,rfl,hx,hg,hc⟩; have hone:=hx.one; have HX:=Lh hx; have HG:=Lh hg; have HC4:=Lh hc; clear hx hg hc; dsimp only)
   | (refine wpList_stx rfl (.tmp 4) (.tmp 29) rfl w.heap.size rfl (J2.out.grown HG.out (by intro e; injection e; omega)) (e:=g.e) (lv:=lv) rfl hone ?_; intro w5 hg5 hs5; have HG5:=Lh hg5; have HS5:=Lh hs5; clear hg5 hs5)
   | fail)
  rw [HRD.out,HG0.out]
  refine ex_done rfl rfl rfl rfl HS5.out ⟨lv,rfl,?_,?_,?_⟩
  ·exact (HX.out.grown HG5.out (fun b hb _ e => by injection e with e; omega)).weak (fun b hb _ => by omega)
  ·exact fr_new (gb_trans J1.out HG.out) HG5.out nLe
  ·exact HC4.out.grown HG5.out (fun k e => by cases e; omega)
 | true =>
  have hw0 : (C.R.wd p).size ≠ 0:=fun h0 => by
   have : C.R.wd p = ⟨#[]⟩:=by
    apply ByteArray.ext
    exact Array.eq_empty_of_size_eq_zero h0
   unfold Rw.is at hsg
   rw [this,empty_toList] at hsg
   cases hsg
  have hplt : p < C.L.length:=by
   rcases Bool.or_eq_true_iff.1 hsg with h | h
   ·exact (row_ok C.T C.L).is_lt h
   ·exact (row_ok C.T C.L).is_lt h
  have hself : C.R.is p (C.R.wd p).toList = true:=by unfold Rw.is; simp
  have hor : ((C.R.wd p).toList == [33]) = true ∨ (((C.R.wd p).toList == [33]) = false ∧ ((C.R.wd p).toList == [45]) = true):=by
   rcases Bool.or_eq_true_iff.1 hsg with h | h
   ·exact .inl h
   ·cases h3 : C.R.is p [33] with
    | true => exact .inl h3
    | false => exact .inr ⟨h3,h⟩
  have HD:=Lh (deeper_any C hC p d w3 HC3.out (C.R.wd p) hw0 hd)
  by_cases h32 : d = 32
  ·have HDP : Hid (deepP C.R p (C.R.wd p) d = (p,12)):=Lh (by unfold deepP; rw [if_pos hself,if_pos h32])
   rw [HDP.out] at HD
   have HRD:=Lh (rd_sg_deep (f:=f) hsg h32)
   subst h32
   have HX : Hid (∀ e : Ending,e = .returned (.tuple #[exV (bad p 12).e (.slice none 0 0),.int .i64 (bad p 12).r]) → True):=Lh fun _ _ => trivial
   clear HX
   rcases hor with h' | ⟨h',h''⟩
   all_goals
    clear hS hP hsg hself
    go_wp2_with (first
     | (go_at_call 153; refine HD.out.mono ?_; rintro e w4 ⟨rfl,hc4,hg4⟩; have HC4:=Lh hc4; have HG4:=Lh hg4; clear hc4 hg4; dsimp only)
     | (refine wpList_stx rfl (.tmp 4) (.tmp 37) rfl w.heap.size rfl (J2.out.grown HG4.out (by intro e; injection e; omega)) (e:=Ex.nul) (lv:=.slice none 0 0) rfl rfl ?_; intro w5 hg5 hs5; have HG5:=Lh hg5; have HS5:=Lh hs5; clear hg5 hs5)
     | fail)
    rw [HRD.out]
    refine ex_done rfl rfl rfl rfl HS5.out ⟨.slice none 0 0,rfl,.nil,?_,?_⟩
    ·exact fr_new (gb_trans J1.out HG4.out) HG5.out nLe
    ·exact HC4.out.grown HG5.out (fun k e => by cases e; omega)
  ·have HDP : Hid (deepP C.R p (C.R.wd p) d = (p + 1,0)):=Lh (by unfold deepP; rw [if_pos hself,if_neg h32])
   rw [HDP.out] at HD
   obtain ⟨g,hg⟩ : ∃ g,rd C.R f .sg (p + 1) (d + 1) = g:=⟨_,rfl⟩
   have HRD:=Lh (rd_sg_yes hsg h32 hg)
   have hin:=rd_in (row_ok C.T C.L) f .sg (p + 1) (d + 1) hplt (fun h => by cases h)
   have hfi:=rd_fine (row_ok C.T C.L) hC.len f .sg (p + 1) (d + 1) hplt (fun h => by cases h) trivial
   have HSC : Hid (∀ W,Cur C W (p + 1) → CP 138 #[C.ptr,.int .i64 ((d + 1 : Nat) : Int)] W (RdTo C W g)):=Lh fun W hW => by
    have:=hS (d + 1) (p + 1) W (by omega) hW (by omega)
    rwa [hg] at this
   rw [hg] at hin hfi
   have hgp : g.p ≤ C.L.length:=hin.2.1
   have hw1 : IntKind.i64.wrap ((d : Int) + 1) = ((d + 1 : Nat) : Int):=by rw [IntWalk.i64_in _ (by omega)]; omega
   have HIN:=Lh hin
   have HFI:=Lh hfi
   clear hin hfi hg
   by_cases hr : g.r = 0
   ·have hfg:=HFI.out hr
    have hcnt : (eUn (C.R.ps p) (C.R.wd p) g.e).cnt ≤ 1000000:=by rw [un_cnt]; have:=hfg.2; omega
    obtain ⟨G2,hG2⟩ : ∃ G2,hld (eUn (C.R.ps p) (C.R.wd p) g.e) g.p p = G2:=⟨_,rfl⟩
    have HPU : Hid (∀ W lv (S : Nat → Prop),Cur C W g.p → Shx W S lv (eUn (C.R.ps p) (C.R.wd p) g.e).l → (∀ b,S b → b ≠ C.g) → CP 140 #[C.ptr,.int .i64 (p : Int),exV (eUn (C.R.ps p) (C.R.wd p) g.e) lv] W (PutTo C S W G2)):=Lh fun W lv S h1 h2 h3 => by
     have:=put_any C hC g.p p W h1 hle (eUn (C.R.ps p) (C.R.wd p) g.e) lv S (un_wfx hfg.1) hcnt h2 h3
     rwa [hG2] at this
    have HX2 : Hid (rd C.R (f + 1) .sg p d = G2):=Lh (by rw [HRD.out,if_pos hr,hG2])
    have hr2' : (g.r == 0) = true:=by simp [hr]
    have hr2'' : decide (g.r = 0) = true:=by simp [hr]
    rcases hor with h' | ⟨h',h''⟩
    all_goals
     clear hS hP hsg hself hfg hG2
     go_wp2_with (first
      | (go_at_call 153; refine HD.out.mono ?_; rintro e w4 ⟨rfl,hc4,hg4⟩; have HC4:=Lh hc4; have HG4:=Lh hg4; have hs4:=hg4.size; clear hc4 hg4; dsimp only)
      | (go_at_call 138; refine (HSC.out _ HC4.out).mono ?_; rintro e w5 ⟨lv,rfl,hx5,hg5,hc5⟩; have hone5:=hx5.one; have HX5:=Lh hx5; have HG5:=Lh hg5; have HC5:=Lh hc5; have hs5:=hg5.size; clear hx5 hg5 hc5; dsimp only [exV])
      | (refine wpList_stx rfl (.tmp 10) (.tmp 44) rfl w5.heap.size rfl (entry_slot w5) (e:=g.e) (lv:=lv) rfl hone5 ?_; intro w6 hg6 hs6; have HG6:=Lh hg6; have HS6:=Lh hs6; have hz6:=hg6.size; rw [entry_size] at hz6; clear hg6 hs6)
      | (refine wpList_ldx' rfl (.tmp 10) rfl w5.heap.size 0 rfl HS6.out.cs ?_)
      | (go_at_call 140; have HXA : Hid (Shx w6 (fun b => w.heap.size < b) lv g.e.l):=Lh (((HX5.out.weak (S':=fun b => w.heap.size < b ∧ b < w5.heap.size) (by intro b h1 h2; omega)).under (entry_below w5) (by intro b _ hb; exact hb)).grown HG6.out (by intro b hb _ e; injection e with e; omega) |>.weak (by intro b hb _; exact hb.1)); have HC6 : Hid (Cur C w6 g.p):=Lh ((HC5.out.under (entry_below w5)).grown HG6.out (by intro k e; cases e; omega)); have HLT:=Lh (Shx.lit (w:=w6) (S:=fun b => w.heap.size < b) [(g.e,lv)] (by simp) (by intro p hp; simp at hp; rcases hp with rfl; exact HXA.out) (by omega) (C:=#[.int .i64 g.e.k,.int .i64 g.e.a,.int .i64 g.e.m,.string g.e.nm,.string g.e.lb,lv]) rfl); refine (HPU.out _ _ (fun b => w.heap.size < b) (HC6.out.under bAl) HLT.out (by intro b hb; omega)).mono ?_; rintro e w7 ⟨lv7,rfl,hx7,hg7,hc7⟩; have hone7:=hx7.one; have HX7:=Lh hx7; have HG7:=Lh hg7; have HC7:=Lh hc7; have hs7:=hg7.size; clear hx7 hg7 hc7; dsimp only [exV])
      | (refine wpList_stx rfl (.tmp 4) (.tmp 58) rfl w.heap.size rfl ((((((J2.out.grown HG4.out (by intro e; injection e; omega)).grown HG5.out (by intro e; injection e; omega)).below (entry_below w5) (by omega)).grown HG6.out (by intro e; injection e; omega)).below bAl (by omega)).grown HG7.out (by intro e; injection e; omega)) (e:=G2.e) (lv:=lv7) rfl hone7 ?_; intro w8 hg8 hs8; have HG8:=Lh hg8; have HS8:=Lh hs8; clear hg8 hs8)
      | fail)
     rw [HX2.out]
     refine ex_done rfl rfl rfl rfl HS8.out ⟨lv7,rfl,?_,?_,?_⟩
     ·exact (HX7.out.grown HG8.out (fun b hb _ e => by injection e with e; omega)).weak (fun b hb _ => by omega)
     ·exact fr_new (gb_trans (gb_trans (fr_new (gb_trans (gb_trans (gb_trans J1.out HG4.out) HG5.out) (below_fr (entry_below w5) _)) HG6.out (by omega)) (below_fr bAl _)) HG7.out) HG8.out nLe
     ·exact HC7.out.grown HG8.out (fun k e => by cases e; omega)
   ·have HX2 : Hid (rd C.R (f + 1) .sg p d = bad g.p g.r):=Lh (by rw [HRD.out,if_neg hr])
    have hr2' : (g.r == 0) = false:=by simp [hr]
    have hr2'' : decide (g.r = 0) = false:=by simp [hr]
    rcases hor with h' | ⟨h',h''⟩
    all_goals
     clear hS hP hsg hself
     go_wp2_with (first
      | (go_at_call 153; refine HD.out.mono ?_; rintro e w4 ⟨rfl,hc4,hg4⟩; have HC4:=Lh hc4; have HG4:=Lh hg4; have hs4:=hg4.size; clear hc4 hg4; dsimp only)
      | (go_at_call 138; refine (HSC.out _ HC4.out).mono ?_; rintro e w5 ⟨lv,rfl,hx5,hg5,hc5⟩; have hone5:=hx5.one; have HX5:=Lh hx5; have HG5:=Lh hg5; have HC5:=Lh hc5; have hs5:=hg5.size; clear hx5 hg5 hc5; dsimp only [exV])
      | (refine wpList_stx rfl (.tmp 10) (.tmp 44) rfl w5.heap.size rfl (entry_slot w5) (e:=g.e) (lv:=lv) rfl hone5 ?_; intro w6 hg6 hs6; have HG6:=Lh hg6; have HS6:=Lh hs6; have hz6:=hg6.size; rw [entry_size] at hz6; clear hg6 hs6)
      | (refine wpList_stx rfl (.tmp 4) (.tmp 48) rfl w.heap.size rfl ((((J2.out.grown HG4.out (by intro e; injection e; omega)).grown HG5.out (by intro e; injection e; omega)).below (entry_below w5) (by omega)).grown HG6.out (by intro e; injection e; omega)) (e:=Ex.nul) (lv:=.slice none 0 0) rfl rfl ?_; intro w8 hg8 hs8; have HG8:=Lh hg8; have HS8:=Lh hs8; clear hg8 hs8)
      | fail)
     rw [HX2.out]
     refine ex_done rfl rfl rfl rfl HS8.out ⟨.slice none 0 0,rfl,.nil,?_,?_⟩
     ·exact fr_new (fr_new (gb_trans (gb_trans (gb_trans J1.out HG4.out) HG5.out) (below_fr (entry_below w5) _)) HG6.out (by omega)) HG8.out nLe
     ·exact (show Cur C w6 g.p from (HC5.out.under (entry_below w5)).grown HG6.out (fun k e => by cases e; omega)).grown HG8.out (fun k e => by cases e; omega)
theorem rd_gr_no {R : Rw} {f a d : Nat} (h : R.is a [40] = false) : rd R (f + 1) .gr a d = bad a 11:=by
 simp only [rd]
 rw [if_neg (by rw [h]; decide)]
theorem rd_gr_deep {R : Rw} {f a d : Nat} (h : R.is a [40] = true) (hd : d = 32) : rd R (f + 1) .gr a d = bad a 12:=by
 simp only [rd]
 rw [if_pos h,if_pos hd]
theorem rd_gr_yes {R : Rw} {f a d : Nat} {g : Gt} (h : R.is a [40] = true) (hd : ¬ d = 32) (hg : rd R f (.lev 1) (a + 1) (d + 1) = g) : rd R (f + 1) .gr a d = if g.r = 0 then good g.e g.p else bad g.p g.r:=by
 simp only [rd]
 rw [if_pos h,if_neg hd,hg]
theorem deep_40 (R : Rw) (p d : Nat) : deepP R p ⟨#[40]⟩ d = if R.is p [40] = true then (if d = 32 then (p,12) else (p + 1,0)) else (p,11):=by
 unfold deepP
 rw [show (⟨#[40]⟩ : ByteArray).toList = [40] by rw [ByteArray.toList_eq]]
theorem wiG_bad {R : Rw} {p : Nat} {r : Int} (ss : List ByteArray) (h : r ≠ 0) : wiG R (bad p r) ss = bad p r:=by
 unfold wiG
 rw [if_neg (show ¬ (bad p r).r = 0 from h)]
 rfl
set_option maxRecDepth 10000 in
theorem within_step (C : Cx) (hC : TokOk C.T C.L) (f : Nat) (hB : BinC C f) : WiC C (f + 1):=by
 intro d p w ss A n c hd h hf hss hsh hn hA
 have hz:=zeroEx'
 have hlt:=h.lt
 have hle:=h.le
 have hln:=hC.len
 have HC0:=Lh (h.under (entry_below w))
 have HE:=Lh (entry_slot w)
 have HES:=Lh (entry_size w)
 have HEB:=Lh (entry_below w)
 have HSH:=Lh hsh
 have HSS:=Lh hss
 have HA:=Lh hA
 have HD:=Lh (deeper_any C hC p d _ HC0.out ⟨#[40]⟩ (by decide) hd)
 rw [deep_40] at HD
 clear h hsh hss hA
 cases h40 : C.R.is p [40] with
 | false =>
  have HX2 : Hid (wiG C.R (rd C.R (f + 1) .gr p d) ss = bad p 11):=Lh (by rw [rd_gr_no h40,wiG_bad _ (by decide)])
  rw [if_neg (by rw [h40]; decide)] at HD
  go_enter Tryz.func166,Tryz.ntmps166
  go_wp2_with (first
   | (go_at_call 153; refine HD.out.mono ?_; rintro e w4 ⟨rfl,hc4,hg4⟩; have HC4:=Lh hc4; have HG4:=Lh hg4; clear hc4 hg4; dsimp only)
   | (refine wpList_stx rfl (.tmp 6) (.tmp 16) rfl w.heap.size rfl (HE.out.grown HG4.out (by intro e; injection e; omega)) (e:=Ex.nul) (lv:=.slice none 0 0) rfl rfl ?_; intro w5 hg5 hs5; have HG5:=Lh hg5; have HS5:=Lh hs5; clear hg5 hs5)
   | fail)
  rw [HX2.out]
  refine ex_done rfl rfl rfl rfl HS5.out ⟨.slice none 0 0,rfl,.nil,?_,?_⟩
  ·exact fr_new (gb_trans (below_fr HEB.out _) HG4.out) HG5.out nLe
  ·exact HC4.out.grown HG5.out (fun k e => by cases e; omega)
 | true =>
  rw [if_pos h40] at HD
  have hplt : p < C.L.length:=(row_ok C.T C.L).is_lt h40
  by_cases h32 : d = 32
  ·have HX2 : Hid (wiG C.R (rd C.R (f + 1) .gr p d) ss = bad p 12):=Lh (by rw [rd_gr_deep h40 h32,wiG_bad _ (by decide)])
   rw [if_pos h32] at HD
   subst h32
   go_enter Tryz.func166,Tryz.ntmps166
   go_wp2_with (first
    | (go_at_call 153; refine HD.out.mono ?_; rintro e w4 ⟨rfl,hc4,hg4⟩; have HC4:=Lh hc4; have HG4:=Lh hg4; clear hc4 hg4; dsimp only)
    | (refine wpList_stx rfl (.tmp 6) (.tmp 16) rfl w.heap.size rfl (HE.out.grown HG4.out (by intro e; injection e; omega)) (e:=Ex.nul) (lv:=.slice none 0 0) rfl rfl ?_; intro w5 hg5 hs5; have HG5:=Lh hg5; have HS5:=Lh hs5; clear hg5 hs5)
    | fail)
   rw [HX2.out]
   refine ex_done rfl rfl rfl rfl HS5.out ⟨.slice none 0 0,rfl,.nil,?_,?_⟩
   ·exact fr_new (gb_trans (below_fr HEB.out _) HG4.out) HG5.out nLe
   ·exact HC4.out.grown HG5.out (fun k e => by cases e; omega)
  ·rw [if_neg h32] at HD
   obtain ⟨g,hg⟩ : ∃ g,rd C.R f (.lev 1) (p + 1) (d + 1) = g:=⟨_,rfl⟩
   have HRD:=Lh (rd_gr_yes h40 h32 hg)
   have hin:=rd_in (row_ok C.T C.L) f (.lev 1) (p + 1) (d + 1) hplt (fun h => by cases h)
   have hw1 : IntKind.i64.wrap ((d : Int) + 1) = ((d + 1 : Nat) : Int):=by rw [IntWalk.i64_in _ (by omega)]; omega
   have HBC : Hid (∀ W,Cur C W (p + 1) → CP 124 #[C.ptr,.int .i64 1,.int .i64 ((d + 1 : Nat) : Int)] W (RdTo C W g)):=Lh fun W hW => by
    have:=hB 1 (d + 1) (p + 1) W (by omega) (by omega) (by omega) hW (by omega)
    rwa [hg] at this
   rw [hg] at hin
   have hgp : g.p ≤ C.L.length:=hin.2.1
   have HM : Hid (∀ W,w.grownBy W (some C.g) → Cur C W g.p → CP 169 #[C.ptr,.slice A n c] W (MustTo C (mustP C.R g.p ss) W)):=Lh fun W hW hc =>
    must_any C hC g.p W hc ss HSS.out A n c ((HSH.out.gb nLe hW (fun b off e he => HA.out b off e (by injection he))).more hW.size) hn HA.out
   clear hB hg hin
   by_cases hr : g.r = 0
   ·have hr2' : (g.r == 0) = true:=by simp [hr]
    have hr2'' : decide (g.r = 0) = true:=by simp [hr]
    have HG1 : Hid (wiG C.R (rd C.R (f + 1) .gr p d) ss = if (mustP C.R g.p ss).2 = 0 then good g.e (mustP C.R g.p ss).1 else bad (mustP C.R g.p ss).1 (mustP C.R g.p ss).2):=Lh (by
     rw [HRD.out,if_pos hr]
     unfold wiG
     rw [if_pos (show (good g.e g.p).r = 0 from rfl)]
     rfl)
    obtain ⟨M,hM⟩ : ∃ M,mustP C.R g.p ss = M:=⟨_,rfl⟩
    rw [hM] at HG1 HM
    clear hM
    by_cases hm0 : M.2 = 0
    ·have hm' : (M.2 == 0) = true:=by simp [hm0]
     have hm'' : decide (M.2 = 0) = true:=by simp [hm0]
     go_enter Tryz.func166,Tryz.ntmps166
     go_wp2_with (first
      | (go_at_call 153; refine HD.out.mono ?_; rintro e w4 ⟨rfl,hc4,hg4⟩; have HC4:=Lh hc4; have HG4:=Lh hg4; have hs4:=hg4.size; rw [HES.out] at hs4; clear hc4 hg4; dsimp only)
      | (go_at_call 124; refine (HBC.out _ HC4.out).mono ?_; rintro e w5 ⟨lv,rfl,hx5,hg5,hc5⟩; have hone5:=hx5.one; have HX5:=Lh hx5; have HG5:=Lh hg5; have HC5:=Lh hc5; have hs5:=hg5.size; clear hx5 hg5 hc5; dsimp only [exV])
      | (refine wpList_stx rfl (.tmp 9) (.tmp 23) rfl w5.heap.size rfl (entry_slot w5) (e:=g.e) (lv:=lv) rfl hone5 ?_; intro w6 hg6 hs6; have HG6:=Lh hg6; have HS6:=Lh hs6; have hz6:=hg6.size; rw [entry_size] at hz6; have HF6:=Lh (show w.grownBy w6 (some C.g) from fr_new (gb_trans (gb_trans (gb_trans (below_fr HEB.out _) HG4.out) HG5.out) (below_fr (entry_below w5) _)) hg6 (by omega)); have HC6:=Lh (show Cur C w6 g.p from (HC5.out.under (entry_below w5)).grown hg6 (by intro k e; cases e; omega)); clear hg6 hs6)
      | (go_at_call 169; refine (HM.out _ HF6.out HC6.out).mono ?_; rintro e w7 ⟨rfl,hc7,hg7⟩; have HC7:=Lh hc7; have HG7:=Lh hg7; have hs7:=hg7.size; clear hc7 hg7; dsimp only)
      | (refine wpList_ldx' rfl (.tmp 9) rfl w5.heap.size 0 rfl (HS6.out.grown HG7.out (by intro e; injection e; omega)).cs ?_)
      | (refine wpList_stx rfl (.tmp 6) (.tmp 34) rfl w.heap.size rfl (((((HE.out.grown HG4.out (by intro e; injection e; omega)).grown HG5.out (by intro e; injection e; omega)).below (entry_below w5) (by omega)).grown HG6.out (by intro e; injection e; omega)).grown HG7.out (by intro e; injection e; omega)) (e:=g.e) (lv:=lv) rfl hone5 ?_; intro w8 hg8 hs8; have HG8:=Lh hg8; have HS8:=Lh hs8; clear hg8 hs8)
      | fail)
     rw [HG1.out,if_pos hm0]
     refine ex_done rfl rfl rfl rfl HS8.out ⟨lv,rfl,?_,?_,?_⟩
     ·exact (((((HX5.out.weak (S':=fun b => w.heap.size < b ∧ b < w5.heap.size) (by intro b h1 h2; omega)).under (entry_below w5) (by intro b _ hb; exact hb)).grown HG6.out (by intro b hb _ e; injection e with e; omega)).grown HG7.out (by intro b hb _ e; injection e with e; omega)).grown HG8.out (by intro b hb _ e; injection e with e; omega)).weak (by intro b hb _; omega)
     ·exact fr_new (gb_trans HF6.out HG7.out) HG8.out nLe
     ·exact HC7.out.grown HG8.out (fun k e => by cases e; omega)
    ·have hm' : (M.2 == 0) = false:=by simp [hm0]
     have hm'' : decide (M.2 = 0) = false:=by simp [hm0]
     go_enter Tryz.func166,Tryz.ntmps166
     go_wp2_with (first
      | (go_at_call 153; refine HD.out.mono ?_; rintro e w4 ⟨rfl,hc4,hg4⟩; have HC4:=Lh hc4; have HG4:=Lh hg4; have hs4:=hg4.size; rw [HES.out] at hs4; clear hc4 hg4; dsimp only)
      | (go_at_call 124; refine (HBC.out _ HC4.out).mono ?_; rintro e w5 ⟨lv,rfl,hx5,hg5,hc5⟩; have hone5:=hx5.one; have HX5:=Lh hx5; have HG5:=Lh hg5; have HC5:=Lh hc5; have hs5:=hg5.size; clear hx5 hg5 hc5; dsimp only [exV])
      | (refine wpList_stx rfl (.tmp 9) (.tmp 23) rfl w5.heap.size rfl (entry_slot w5) (e:=g.e) (lv:=lv) rfl hone5 ?_; intro w6 hg6 hs6; have HG6:=Lh hg6; have HS6:=Lh hs6; have hz6:=hg6.size; rw [entry_size] at hz6; have HF6:=Lh (show w.grownBy w6 (some C.g) from fr_new (gb_trans (gb_trans (gb_trans (below_fr HEB.out _) HG4.out) HG5.out) (below_fr (entry_below w5) _)) hg6 (by omega)); have HC6:=Lh (show Cur C w6 g.p from (HC5.out.under (entry_below w5)).grown hg6 (by intro k e; cases e; omega)); clear hg6 hs6)
      | (go_at_call 169; refine (HM.out _ HF6.out HC6.out).mono ?_; rintro e w7 ⟨rfl,hc7,hg7⟩; have HC7:=Lh hc7; have HG7:=Lh hg7; have hs7:=hg7.size; clear hc7 hg7; dsimp only)
      | (refine wpList_stx rfl (.tmp 6) (.tmp 32) rfl w.heap.size rfl (((((HE.out.grown HG4.out (by intro e; injection e; omega)).grown HG5.out (by intro e; injection e; omega)).below (entry_below w5) (by omega)).grown HG6.out (by intro e; injection e; omega)).grown HG7.out (by intro e; injection e; omega)) (e:=Ex.nul) (lv:=.slice none 0 0) rfl rfl ?_; intro w8 hg8 hs8; have HG8:=Lh hg8; have HS8:=Lh hs8; clear hg8 hs8)
      | fail)
     rw [HG1.out,if_neg hm0]
     refine ex_done rfl rfl rfl rfl HS8.out ⟨.slice none 0 0,rfl,.nil,?_,?_⟩
     ·exact fr_new (gb_trans HF6.out HG7.out) HG8.out nLe
     ·exact HC7.out.grown HG8.out (fun k e => by cases e; omega)
   ·have hr2' : (g.r == 0) = false:=by simp [hr]
    have hr2'' : decide (g.r = 0) = false:=by simp [hr]
    have HG1 : Hid (wiG C.R (rd C.R (f + 1) .gr p d) ss = bad g.p g.r):=Lh (by
     rw [HRD.out,if_neg hr,wiG_bad _ hr])
    go_enter Tryz.func166,Tryz.ntmps166
    go_wp2_with (first
     | (go_at_call 153; refine HD.out.mono ?_; rintro e w4 ⟨rfl,hc4,hg4⟩; have HC4:=Lh hc4; have HG4:=Lh hg4; have hs4:=hg4.size; rw [HES.out] at hs4; clear hc4 hg4; dsimp only)
     | (go_at_call 124; refine (HBC.out _ HC4.out).mono ?_; rintro e w5 ⟨lv,rfl,hx5,hg5,hc5⟩; have hone5:=hx5.one; have HX5:=Lh hx5; have HG5:=Lh hg5; have HC5:=Lh hc5; have hs5:=hg5.size; clear hx5 hg5 hc5; dsimp only [exV])
     | (refine wpList_stx rfl (.tmp 9) (.tmp 23) rfl w5.heap.size rfl (entry_slot w5) (e:=g.e) (lv:=lv) rfl hone5 ?_; intro w6 hg6 hs6; have HG6:=Lh hg6; have HS6:=Lh hs6; have hz6:=hg6.size; rw [entry_size] at hz6; have HF6:=Lh (show w.grownBy w6 (some C.g) from fr_new (gb_trans (gb_trans (gb_trans (below_fr HEB.out _) HG4.out) HG5.out) (below_fr (entry_below w5) _)) hg6 (by omega)); have HC6:=Lh (show Cur C w6 g.p from (HC5.out.under (entry_below w5)).grown hg6 (by intro k e; cases e; omega)); clear hg6 hs6)
     | (refine wpList_stx rfl (.tmp 6) (.tmp 32) rfl w.heap.size rfl ((((HE.out.grown HG4.out (by intro e; injection e; omega)).grown HG5.out (by intro e; injection e; omega)).below (entry_below w5) (by omega)).grown HG6.out (by intro e; injection e; omega)) (e:=Ex.nul) (lv:=.slice none 0 0) rfl rfl ?_; intro w8 hg8 hs8; have HG8:=Lh hg8; have HS8:=Lh hs8; clear hg8 hs8)
     | fail)
    rw [HG1.out]
    refine ex_done rfl rfl rfl rfl HS8.out ⟨.slice none 0 0,rfl,.nil,?_,?_⟩
    ·exact fr_new HF6.out HG8.out nLe
    ·exact HC6.out.grown HG8.out (fun k e => by cases e; omega)
end Go.Proofs.YtkjhlgnpohamnaaGreatDoor
