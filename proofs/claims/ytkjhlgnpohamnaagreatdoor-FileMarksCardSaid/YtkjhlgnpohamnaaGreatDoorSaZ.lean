import Derived.Test.YtkjhlgnpohamnaaGreatDoorSq
import Derived.Test.YtkjhlgnpohamnaaGreatDoorSaY
namespace Go.Proofs.YtkjhlgnpohamnaaGreatDoor.Mk
set_option linter.unusedVariables false
set_option linter.unusedSimpArgs false
open Go.RowKit Go.Lib Go.Sort
set_option maxHeartbeats 4000000 in
set_option maxRecDepth 1000000 in
theorem merge_any (g cap : Nat) (d0 : Array Ed) (w0 : World) (hR : RowK ecell 5 w0 g 0 d0) (n : Nat) (hn : n = d0.size) (hsz : n ≤ 100000) : ∀ (N : Nat) (a m b : Nat) (w : World) (P U V R : List Ed),U.length + V.length ≤ N → SWE w0 g (P ++ U ++ V ++ R) w → (P ++ U ++ V ++ R).length = n →
  a = P.length → m = P.length + U.length → b = P.length + U.length + V.length → 0 < U.length → 0 < V.length → Srt U → Srt V →
  CP 107 #[.slice (some ⟨g,0,none⟩) n cap,.int .i64 a,.int .i64 m,.int .i64 b,cmpV] w (MgTo w0 g P U V R):=by
 intro N
 induction N with
 | zero => intro a m b w P U V R hN _ _ _ _ _ hU _ _ _; omega
 | succ N ih =>
  intro a m b w P U V R hN hS hs ha hm hb hU hV hUs hVs
  rcases Nat.lt_or_ge U.length 2 with h1 | h1
  ·obtain ⟨x,rfl⟩ : ∃ x,U = [x]:=by
    match U,hU,h1 with
    | [x],_,_ => exact ⟨x,rfl⟩
    | x :: y :: r,_,h => rw [List.length_cons,List.length_cons] at h; omega
   exact merge_one g cap a m b d0 w0 w P V R x hR n hn hS hs ha (by simpa using hm) (by simpa using hb) hVs hsz
  rcases Nat.lt_or_ge V.length 2 with h2 | h2
  ·obtain ⟨y,rfl⟩ : ∃ y,V = [y]:=by
    match V,hV,h2 with
    | [y],_,_ => exact ⟨y,rfl⟩
    | x :: y :: r,_,h => rw [List.length_cons,List.length_cons] at h; omega
   exact merge_last g cap a m b d0 w0 w P U R y hR n hn hS hs ha hm (by simpa using hb) h1 hUs hsz
  have hs0:=hs
  simp only [List.length_append] at hs
  have HS:=Lh hS
  have HN0:=Lh hs0
  have HUS:=Lh hUs
  have HVS:=Lh hVs
  have HNN:=Lh hn
  have HUL : Hid (U.length = m - a):=Lh (by omega)
  have HVL : Hid (V.length = b - m):=Lh (by omega)
  have HA:=Lh ha
  have HLN:=Lh hs
  have HNN2:=Lh hN
  have HIH:=Lh ih
  have ham : a + 2 ≤ m:=by omega
  have hmb : m + 2 ≤ b:=by omega
  have hbn : b ≤ n:=by omega
  have hma : ((m : Int) - (a : Int) == 1) = false:=by simp; omega
  have hbm : ((b : Int) - (m : Int) == 1) = false:=by simp; omega
  have HUG : Hid (∀ t u,U[t]? = some u → (P ++ U ++ V ++ R)[a + t]? = some u):=Lh fun t u h => by
   have:=mid_get (P:=P) (R:=V ++ R) (m:=a) ha h
   simpa only [List.append_assoc] using this
  have HVG : Hid (∀ t u,V[t]? = some u → (P ++ U ++ V ++ R)[m + t]? = some u):=Lh fun t u h => by
   have:=mid_get (P:=P ++ U) (R:=R) (m:=m) (by simp; omega) h
   exact this
  obtain ⟨md,hmd⟩ : ∃ md,(a + b) / 2 = md:=⟨_,rfl⟩
  have hmd1 : a + 2 ≤ md:=by omega
  have hmd2 : md + 2 ≤ b:=by omega
  have hmd3 : 2 * md ≤ a + b:=by omega
  have hmd4 : a + b ≤ 2 * md + 1:=by omega
  have r1 : IntKind.i64.wrap ((a : Int) + (b : Int)) = (a : Int) + (b : Int):=IntWalk.i64_in _ (by omega)
  have r2 : ((a : Int) + (b : Int)) / 2 = (md : Int):=by omega
  obtain ⟨NN,hNN⟩ : ∃ NN,md + m = NN:=⟨_,rfl⟩
  have r3 : (md : Int) + (m : Int) = (NN : Int):=by omega
  have r4 : IntKind.i64.wrap (NN : Int) = (NN : Int):=IntWalk.i64_in _ (by omega)
  have r5 : IntKind.i64.wrap ((NN : Int) - 1) = ((NN : Int) - 1):=IntWalk.i64_in _ (by omega)
  -- behind the cut at st
  have HEND : Hid (∀ (st : Nat) (wx : World),a ≤ st → st ≤ m → st ≤ md → NN ≤ st + b → (∀ k x y,k + 1 = st - a → U[k]? = some x → V[md - st]? = some y → x.1 ≤ y.1) → (∀ k x y,k + 1 = md - st → V[k]? = some y → U[st - a]? = some x → y.1 < x.1) →
    SWE w0 g (P ++ U ++ V ++ R) wx → ∃ U1 U2 V1 V2 : List Ed,U1.length = st - a ∧ U2.length = m - st ∧ V1.length = md - st ∧ V2.length = b - (NN - st) ∧
     SWE w0 g (P ++ U1 ++ U2 ++ V1 ++ V2 ++ R) wx ∧ Srt U1 ∧ Srt U2 ∧ Srt V1 ∧ Srt V2 ∧
     ∀ M1 M2,Srt M1 → Fl M1 (U1 ++ V1) → Srt M2 → Fl M2 (U2 ++ V2) → Srt (M1 ++ M2) ∧ Fl (M1 ++ M2) (U ++ V)):=Lh fun st wx q1 q2 q3 q4 k1 k2 hw => by
   have e1:=HUL.out
   have e2:=HVL.out
   refine ⟨U.take (st - a),U.drop (st - a),V.take (md - st),V.drop (md - st),by rw [List.length_take]; omega,by rw [List.length_drop]; omega,by rw [List.length_take]; omega,by rw [List.length_drop]; omega,?_,?_,?_,?_,?_,?_⟩
   ·have : P ++ U.take (st - a) ++ U.drop (st - a) ++ V.take (md - st) ++ V.drop (md - st) ++ R = P ++ (U.take (st - a) ++ U.drop (st - a)) ++ (V.take (md - st) ++ V.drop (md - st)) ++ R:=by simp only [List.append_assoc]
    rw [this,List.take_append_drop,List.take_append_drop]
    exact hw
   ·have:=HUS.out; rw [← List.take_append_drop (st - a) U] at this; exact this.left
   ·have:=HUS.out; rw [← List.take_append_drop (st - a) U] at this; exact this.right
   ·have:=HVS.out; rw [← List.take_append_drop (md - st) V] at this; exact this.left
   ·have:=HVS.out; rw [← List.take_append_drop (md - st) V] at this; exact this.right
   ·intro M1 M2 a1 a2 a3 a4
    exact cut_ok HUS.out HVS.out (by omega) (by omega) k1 k2 a1 a2 a3 a4
  have mixed : Tryz.prog.follows .mixedOrders = true:=by kernel_rfl
  have HNE:=Lh hNN
  have HMD:=Lh hmd
  clear hS hs ha hm hb hn hUs hVs hs0 hmd ih hN hU hV h1 h2
  by_cases hmm : md < m
  ·go_enter Tryz.func107,Tryz.ntmps107
   have t0 : (md : Int) < (m : Int):=by omega
   go_wp2
   go_loopw [20,21] (fun vi vj wr => ∃ (i j : Nat),vi = .int .i64 (i : Int) ∧ vj = .int .i64 (j : Int) ∧ (NN - b) ≤ i ∧ i ≤ j ∧ j ≤ md ∧ (∀ c x y,(NN - b) ≤ c → c < i → U[c - a]? = some x → V[md - 1 - c]? = some y → x.1 ≤ y.1) ∧ (∀ c x y,j ≤ c → c < md → U[c - a]? = some x → V[md - 1 - c]? = some y → y.1 < x.1) ∧ SWE w0 g (P ++ U ++ V ++ R) wr) (fun vi vj _ => (intOf vj).toNat - (intOf vi).toNat)
   case atStart => exact ⟨(NN - b),md,by go_num,rfl,Nat.le_refl _,by omega,Nat.le_refl _,(fun c x y h h' => absurd h (by omega)),(fun c x y h h' => absurd h (by omega)),HS.out⟩
   case round =>
    obtain ⟨i,j,rfl,rfl,hi,hij,hj,h1,h2,d,hd,hw⟩:=hrel
    have H1:=Lh h1
    have H2:=Lh h2
    have HW:=Lh hw
    have HD:=Lh hd
    have HDS : Hid (d.size = d0.size):=Lh (by rw [size_of hd,HN0.out,HNN.out])
    clear h1 h2 hw hd
    by_cases hlt : i < j
    ·obtain ⟨h,hh⟩ : ∃ h,(i + j) / 2 = h:=⟨_,rfl⟩
     have hih : i ≤ h:=by omega
     have hhj : h < j:=by omega
     have hhn : (h : Int) < (n : Int):=by omega
     have s0' : IntKind.i64.wrap ((i : Int) + (j : Int)) = (i : Int) + (j : Int):=IntWalk.i64_in _ (by omega)
     have s1' : ((i : Int) + (j : Int)) / 2 = (h : Int):=by omega
     clear hh
     obtain ⟨q,hq⟩ : ∃ q,NN - 1 - h = q:=⟨_,rfl⟩
     have q1 : IntKind.i64.wrap ((NN : Int) - 1 - (h : Int)) = (q : Int):=(IntWalk.i64_in _ (by omega)).trans (by omega)
     have q2 : (NN : Int) - 1 - (h : Int) = (q : Int):=by omega
     have q3 : (q : Int) < (n : Int):=by omega
     obtain ⟨x,hx⟩ : ∃ x,U[h - a]? = some x:=⟨_,List.getElem?_eq_getElem (by rw [HUL.out]; omega)⟩
     obtain ⟨y,hy⟩ : ∃ y,V[md - 1 - h]? = some y:=⟨_,List.getElem?_eq_getElem (by rw [HVL.out]; omega)⟩
     have hxx:=HUG.out _ _ hx
     have hyy:=HVG.out _ _ hy
     rw [show a + (h - a) = h by omega] at hxx
     rw [show m + (md - 1 - h) = q by omega] at hyy
     have HX:=Lh hx
     have HY:=Lh hy
     have HP1:=Lh (get_at HD.out hyy)
     have HP2:=Lh (get_at HD.out hxx)
     obtain ⟨cv,hcv⟩ : ∃ cv,cfE y x = cv:=⟨_,rfl⟩
     have HCV:=Lh hcv
     have HLT : Hid (cv < 0 ↔ y.1 < x.1):=Lh (by rw [← hcv]; exact cfE_lt y x)
     clear hx hy hxx hyy hcv hq
     by_cases hc : cv < 0
     ·have HC:=Lh (HLT.out.1 hc)
      have hdc : decide (cv < 0) = true:=decide_eq_true hc
      have hdn : (!decide (cv < 0)) = false:=by rw [hdc]; rfl
      go_wp2_with fail
      obtain ⟨S0,hS0⟩ : ∃ S0 : World → Prop,S0 = fun w' => SWK ecell 5 w0 g 0 d w':=⟨_,rfl⟩
      have HSI : Hid (∀ w',SWK ecell 5 w0 g 0 d w' → S0 w'):=Lh fun w' b => by rw [hS0]; exact b
      have HSF : Hid (∀ w',S0 w' → SWK ecell 5 w0 g 0 d w'):=Lh fun w' b => by rw [hS0] at b; exact b
      have s0 : ∀ s : SW S0,s.w.cell? ⟨g,q * 5,none⟩ = some (.bool y.2.2.1):=fun s => (ed_cells ((HSF.out _ s.h).holds hR.hblk hR.hH HDS.out) HP1.out.1 HP1.out.2).1.1
      have s1 : ∀ s : SW S0,s.w.cell? ⟨g,q * 5 + 1,none⟩ = some (.bool y.2.2.2.1):=fun s => (ed_cells ((HSF.out _ s.h).holds hR.hblk hR.hH HDS.out) HP1.out.1 HP1.out.2).1.2.1
      have s2 : ∀ s : SW S0,s.w.cell? ⟨g,q * 5 + 2,none⟩ = some (.string y.2.2.2.2):=fun s => (ed_cells ((HSF.out _ s.h).holds hR.hblk hR.hH HDS.out) HP1.out.1 HP1.out.2).1.2.2.1
      have s2x : ∀ s : SW S0,s.w.cell? ⟨g,q * 5 + 3,none⟩ = some (.int .i64 y.1):=fun s => (ed_cells ((HSF.out _ s.h).holds hR.hblk hR.hH HDS.out) HP1.out.1 HP1.out.2).1.2.2.2.1
      have s2y : ∀ s : SW S0,s.w.cell? ⟨g,q * 5 + 4,none⟩ = some (.int .i64 y.2.1):=fun s => (ed_cells ((HSF.out _ s.h).holds hR.hblk hR.hH HDS.out) HP1.out.1 HP1.out.2).1.2.2.2.2
      have r0 : ∀ s : SW S0,s.w.cell? ⟨g,h * 5,none⟩ = some (.bool x.2.2.1):=fun s => (ed_cells ((HSF.out _ s.h).holds hR.hblk hR.hH HDS.out) HP2.out.1 HP2.out.2).1.1
      have r1 : ∀ s : SW S0,s.w.cell? ⟨g,h * 5 + 1,none⟩ = some (.bool x.2.2.2.1):=fun s => (ed_cells ((HSF.out _ s.h).holds hR.hblk hR.hH HDS.out) HP2.out.1 HP2.out.2).1.2.1
      have r2 : ∀ s : SW S0,s.w.cell? ⟨g,h * 5 + 2,none⟩ = some (.string x.2.2.2.2):=fun s => (ed_cells ((HSF.out _ s.h).holds hR.hblk hR.hH HDS.out) HP2.out.1 HP2.out.2).1.2.2.1
      have r2x : ∀ s : SW S0,s.w.cell? ⟨g,h * 5 + 3,none⟩ = some (.int .i64 x.1):=fun s => (ed_cells ((HSF.out _ s.h).holds hR.hblk hR.hH HDS.out) HP2.out.1 HP2.out.2).1.2.2.2.1
      have r2y : ∀ s : SW S0,s.w.cell? ⟨g,h * 5 + 4,none⟩ = some (.int .i64 x.2.1):=fun s => (ed_cells ((HSF.out _ s.h).holds hR.hblk hR.hH HDS.out) HP2.out.1 HP2.out.2).1.2.2.2.2
      have hS1 : S0 wr.drew:=HSI.out _ HW.out.drew
      have HCM : Hid (CP 35 #[.agg #[.bool y.2.2.1,.bool y.2.2.2.1,.string y.2.2.2.2,.int .i64 y.1,.int .i64 y.2.1],.agg #[.bool x.2.2.1,.bool x.2.2.2.1,.string x.2.2.2.2,.int .i64 x.1,.int .i64 x.2.1]] wr.drew fun e w' => e = .returned (.int .i64 cv) ∧ SWK ecell 5 w0 g 0 d w'):=Lh (by
       have:=cmp_SW HW.out.drew y x
       rw [HCV.out] at this
       exact this)
      clear hS0
      refine regionH_start (by kernel_rfl) 14 rfl S0 13 ?_
      refine wpL_next 0 11 3 (by kernel_rfl) (fun _ _ d _ _ h => by cases d <;> exact h) hS1 (fun hne => ?_)
      simp only [sD,sE,sF,sG]
      repeat (go_big_quiet_step (fail))
      refine wpQuiet_nil ?_
      refine wpL_one (i:=11) (fuel:=2) (by kernel_rfl) rfl (fun KK hKK => ?_)
      go_simp
      refine HCM.out.mono ?_
      rintro e w7 ⟨rfl,h7⟩
      have H7:=Lh h7
      refine hKK _ _ (HSI.out _ h7) ?_
      clear hKK KK h7
      refine wpL_next 12 1 1 (by kernel_rfl) (fun _ _ d _ _ h => by cases d <;> exact h) (HSI.out _ H7.out) (fun hne => ?_)
      simp only [sD,sE,sF,sG]
      repeat (go_big_quiet_step (fail))
      refine wpQuiet_nil ?_
      refine wpL_last (fuel:=0) (by kernel_rfl) (by kernel_rfl) rfl (fun KK hKK => ?_)
      go_simp
      refine hKK _ _ ?_
      clear hKK KK s0 s1 s2 s2x s2y r0 r1 r2 r2x r2y hS1
      go_wp2
      go_roundw
      case rel =>
       refine ⟨i,h,rfl,rfl,hi,hih,by omega,H1.out,fun c u v e1 e2 hu hv => ?_,d,HD.out,H7.out⟩
       have z1:=srt_get HUS.out HX.out hu (by omega)
       have z2:=srt_get HVS.out hv HY.out (by omega)
       have:=HC.out
       omega
      case measure => simp [intOf]; omega
     ·have HC : Hid (¬ y.1 < x.1):=Lh fun e => hc (HLT.out.2 e)
      have hdc : decide (cv < 0) = false:=decide_eq_false hc
      have hdn : (!decide (cv < 0)) = true:=by rw [hdc]; rfl
      go_wp2_with fail
      obtain ⟨S0,hS0⟩ : ∃ S0 : World → Prop,S0 = fun w' => SWK ecell 5 w0 g 0 d w':=⟨_,rfl⟩
      have HSI : Hid (∀ w',SWK ecell 5 w0 g 0 d w' → S0 w'):=Lh fun w' b => by rw [hS0]; exact b
      have HSF : Hid (∀ w',S0 w' → SWK ecell 5 w0 g 0 d w'):=Lh fun w' b => by rw [hS0] at b; exact b
      have s0 : ∀ s : SW S0,s.w.cell? ⟨g,q * 5,none⟩ = some (.bool y.2.2.1):=fun s => (ed_cells ((HSF.out _ s.h).holds hR.hblk hR.hH HDS.out) HP1.out.1 HP1.out.2).1.1
      have s1 : ∀ s : SW S0,s.w.cell? ⟨g,q * 5 + 1,none⟩ = some (.bool y.2.2.2.1):=fun s => (ed_cells ((HSF.out _ s.h).holds hR.hblk hR.hH HDS.out) HP1.out.1 HP1.out.2).1.2.1
      have s2 : ∀ s : SW S0,s.w.cell? ⟨g,q * 5 + 2,none⟩ = some (.string y.2.2.2.2):=fun s => (ed_cells ((HSF.out _ s.h).holds hR.hblk hR.hH HDS.out) HP1.out.1 HP1.out.2).1.2.2.1
      have s2x : ∀ s : SW S0,s.w.cell? ⟨g,q * 5 + 3,none⟩ = some (.int .i64 y.1):=fun s => (ed_cells ((HSF.out _ s.h).holds hR.hblk hR.hH HDS.out) HP1.out.1 HP1.out.2).1.2.2.2.1
      have s2y : ∀ s : SW S0,s.w.cell? ⟨g,q * 5 + 4,none⟩ = some (.int .i64 y.2.1):=fun s => (ed_cells ((HSF.out _ s.h).holds hR.hblk hR.hH HDS.out) HP1.out.1 HP1.out.2).1.2.2.2.2
      have r0 : ∀ s : SW S0,s.w.cell? ⟨g,h * 5,none⟩ = some (.bool x.2.2.1):=fun s => (ed_cells ((HSF.out _ s.h).holds hR.hblk hR.hH HDS.out) HP2.out.1 HP2.out.2).1.1
      have r1 : ∀ s : SW S0,s.w.cell? ⟨g,h * 5 + 1,none⟩ = some (.bool x.2.2.2.1):=fun s => (ed_cells ((HSF.out _ s.h).holds hR.hblk hR.hH HDS.out) HP2.out.1 HP2.out.2).1.2.1
      have r2 : ∀ s : SW S0,s.w.cell? ⟨g,h * 5 + 2,none⟩ = some (.string x.2.2.2.2):=fun s => (ed_cells ((HSF.out _ s.h).holds hR.hblk hR.hH HDS.out) HP2.out.1 HP2.out.2).1.2.2.1
      have r2x : ∀ s : SW S0,s.w.cell? ⟨g,h * 5 + 3,none⟩ = some (.int .i64 x.1):=fun s => (ed_cells ((HSF.out _ s.h).holds hR.hblk hR.hH HDS.out) HP2.out.1 HP2.out.2).1.2.2.2.1
      have r2y : ∀ s : SW S0,s.w.cell? ⟨g,h * 5 + 4,none⟩ = some (.int .i64 x.2.1):=fun s => (ed_cells ((HSF.out _ s.h).holds hR.hblk hR.hH HDS.out) HP2.out.1 HP2.out.2).1.2.2.2.2
      have hS1 : S0 wr.drew:=HSI.out _ HW.out.drew
      have HCM : Hid (CP 35 #[.agg #[.bool y.2.2.1,.bool y.2.2.2.1,.string y.2.2.2.2,.int .i64 y.1,.int .i64 y.2.1],.agg #[.bool x.2.2.1,.bool x.2.2.2.1,.string x.2.2.2.2,.int .i64 x.1,.int .i64 x.2.1]] wr.drew fun e w' => e = .returned (.int .i64 cv) ∧ SWK ecell 5 w0 g 0 d w'):=Lh (by
       have:=cmp_SW HW.out.drew y x
       rw [HCV.out] at this
       exact this)
      clear hS0
      refine regionH_start (by kernel_rfl) 14 rfl S0 13 ?_
      refine wpL_next 0 11 3 (by kernel_rfl) (fun _ _ d _ _ h => by cases d <;> exact h) hS1 (fun hne => ?_)
      simp only [sD,sE,sF,sG]
      repeat (go_big_quiet_step (fail))
      refine wpQuiet_nil ?_
      refine wpL_one (i:=11) (fuel:=2) (by kernel_rfl) rfl (fun KK hKK => ?_)
      go_simp
      refine HCM.out.mono ?_
      rintro e w7 ⟨rfl,h7⟩
      have H7:=Lh h7
      refine hKK _ _ (HSI.out _ h7) ?_
      clear hKK KK h7
      refine wpL_next 12 1 1 (by kernel_rfl) (fun _ _ d _ _ h => by cases d <;> exact h) (HSI.out _ H7.out) (fun hne => ?_)
      simp only [sD,sE,sF,sG]
      repeat (go_big_quiet_step (fail))
      refine wpQuiet_nil ?_
      refine wpL_last (fuel:=0) (by kernel_rfl) (by kernel_rfl) rfl (fun KK hKK => ?_)
      go_simp
      refine hKK _ _ ?_
      clear hKK KK s0 s1 s2 s2x s2y r0 r1 r2 r2x r2y hS1
      go_wp2
      go_roundw
      case rel =>
       refine ⟨h + 1,j,by go_num,rfl,by omega,by omega,hj,fun c u v e1 e2 hu hv => ?_,H2.out,d,HD.out,H7.out⟩
       have z1:=srt_get HUS.out hu HX.out (by omega)
       have z2:=srt_get HVS.out HY.out hv (by omega)
       have:=HC.out
       omega
      case measure => simp [intOf]; omega
    ·obtain rfl : i = j:=by omega
     obtain ⟨U1,U2,V1,V2,l1,l2,l3,l4,hwx,g1,g2,g3,g4,hall⟩:=HEND.out i wr (by omega) (by omega) (by omega) (by omega)
      (fun k x y e hx hy => by
       have:=(List.getElem?_eq_some_iff.1 hy).1
       have h3:=HVL.out
       refine H1.out (i - 1) x y (by omega) (by omega) ?_ ?_
       ·rw [show i - 1 - a = k by omega]; exact hx
       ·rw [show md - 1 - (i - 1) = md - i by omega]; exact hy)
      (fun k x y e hy hx => by
       have:=(List.getElem?_eq_some_iff.1 hx).1
       have h3:=HUL.out
       refine H2.out i x y nLe (by omega) hx ?_
       rw [show md - 1 - i = k by omega]; exact hy)
      ⟨d,HD.out,HW.out⟩
     obtain ⟨en,hen⟩ : ∃ en,NN - i = en:=⟨_,rfl⟩
     have w1 : IntKind.i64.wrap ((NN : Int) - (i : Int)) = (en : Int):=(IntWalk.i64_in _ (by omega)).trans (by omega)
     have w2 : (NN : Int) - (i : Int) = (en : Int):=by omega
     have HWX:=Lh hwx
     have HALL:=Lh hall
     have L1:=Lh l1
     have L2:=Lh l2
     have L3:=Lh l3
     have L4:=Lh l4
     have G1:=Lh g1
     have G2:=Lh g2
     have G3:=Lh g3
     have G4:=Lh g4
     have HEN:=Lh hen
     have HROT : Hid (∀ wx,i < m → m < en → SWE w0 g (P ++ U1 ++ U2 ++ V1 ++ V2 ++ R) wx → CP 125 #[.slice (some ⟨g,0,none⟩) n cap,.int .i64 i,.int .i64 m,.int .i64 en,cmpV] wx fun e w' => e = .returned (.tuple #[]) ∧ SWE w0 g (P ++ U1 ++ V1 ++ U2 ++ V2 ++ R) w'):=Lh fun wx c1 c2 hw => by
      have a1:=HA.out
      have a2:=L1.out
      have a3:=L2.out
      have a4:=L3.out
      have a5:=L4.out
      have a6:=HEN.out
      have a7:=HLN.out
      have a8:=HUL.out
      have a9:=HVL.out
      have b1 : P ++ U1 ++ U2 ++ V1 ++ V2 ++ R = (P ++ U1) ++ U2 ++ V1 ++ (V2 ++ R):=by simp only [List.append_assoc]
      have b2 : P ++ U1 ++ V1 ++ U2 ++ V2 ++ R = (P ++ U1) ++ V1 ++ U2 ++ (V2 ++ R):=by simp only [List.append_assoc]
      rw [b1] at hw
      rw [b2]
      exact rotate_any g cap i m en d0 w0 wx (P ++ U1) U2 V1 (V2 ++ R) hR n HNN.out hw (by simp only [List.length_append]; omega) (by simp only [List.length_append]; omega) (by simp only [List.length_append]; omega) (by simp only [List.length_append]; omega) (by omega) (by omega) hsz
     have HLEFT : Hid (∀ wx,a < i → i < md → SWE w0 g (P ++ U1 ++ V1 ++ U2 ++ V2 ++ R) wx → CP 107 #[.slice (some ⟨g,0,none⟩) n cap,.int .i64 a,.int .i64 i,.int .i64 md,cmpV] wx fun e w' => e = .returned (.tuple #[]) ∧ ∃ M,SWE w0 g (P ++ M ++ U2 ++ V2 ++ R) w' ∧ Srt M ∧ Fl M (U1 ++ V1)):=Lh fun wx c1 c2 hw => by
      have a1:=HA.out
      have a2:=L1.out
      have a3:=L2.out
      have a4:=L3.out
      have a5:=L4.out
      have a6:=HEN.out
      have a7:=HLN.out
      have a8:=HUL.out
      have a9:=HVL.out
      have a10:=HNN2.out
      have a11:=HNE.out
      have b1 : P ++ U1 ++ V1 ++ U2 ++ V2 ++ R = P ++ U1 ++ V1 ++ (U2 ++ V2 ++ R):=by simp only [List.append_assoc]
      rw [b1] at hw
      refine (HIH.out a i md wx P U1 V1 (U2 ++ V2 ++ R) (by omega) hw (by simp only [List.length_append]; omega) a1 (by omega) (by omega) (by omega) (by omega) G1.out G3.out).mono ?_
      rintro e w' ⟨he,M,hM,z1,z2⟩
      refine ⟨he,M,?_,z1,z2⟩
      have b2 : P ++ M ++ U2 ++ V2 ++ R = P ++ M ++ (U2 ++ V2 ++ R):=by simp only [List.append_assoc]
      rw [b2]
      exact hM
     have HRIGHT : Hid (∀ wx M,M.length = U1.length + V1.length → md < en → en < b → SWE w0 g (P ++ M ++ U2 ++ V2 ++ R) wx → CP 107 #[.slice (some ⟨g,0,none⟩) n cap,.int .i64 md,.int .i64 en,.int .i64 b,cmpV] wx fun e w' => e = .returned (.tuple #[]) ∧ ∃ K,SWE w0 g (P ++ M ++ K ++ R) w' ∧ Srt K ∧ Fl K (U2 ++ V2)):=Lh fun wx M c0 c1 c2 hw => by
      have a1:=HA.out
      have a2:=L1.out
      have a3:=L2.out
      have a4:=L3.out
      have a5:=L4.out
      have a6:=HEN.out
      have a7:=HLN.out
      have a8:=HUL.out
      have a9:=HVL.out
      have a10:=HNN2.out
      have a11:=HNE.out
      refine (HIH.out md en b wx (P ++ M) U2 V2 R (by omega) hw (by simp only [List.length_append]; omega) (by simp only [List.length_append]; omega) (by simp only [List.length_append]; omega) (by simp only [List.length_append]; omega) (by omega) (by omega) G2.out G4.out).mono ?_
      rintro e w' ⟨he,K,hK,z1,z2⟩
      exact ⟨he,K,hK,z1,z2⟩
     have HNR : Hid (¬ (i < m ∧ m < en) → U2 = [] ∨ V1 = []):=Lh fun c => by
      have a3:=L2.out
      have a4:=L3.out
      have a6:=HEN.out
      have a11:=HNE.out
      by_cases z : i < m
      ·exact .inr (List.eq_nil_of_length_eq_zero (by omega))
      ·exact .inl (List.eq_nil_of_length_eq_zero (by omega))
     have HNL : Hid (¬ (a < i ∧ i < md) → U1 = [] ∨ V1 = []):=Lh fun c => by
      have a3:=L1.out
      have a4:=L3.out
      by_cases z : a < i
      ·exact .inr (List.eq_nil_of_length_eq_zero (by omega))
      ·exact .inl (List.eq_nil_of_length_eq_zero (by omega))
     have HNQ : Hid (¬ (md < en ∧ en < b) → U2 = [] ∨ V2 = []):=Lh fun c => by
      have a3:=L2.out
      have a4:=L4.out
      have a6:=HEN.out
      have a11:=HNE.out
      by_cases z : md < en
      ·exact .inr (List.eq_nil_of_length_eq_zero (by omega))
      ·exact .inl (List.eq_nil_of_length_eq_zero (by omega))
     clear hwx hall l1 l2 l3 l4 g1 g2 g3 g4 hen
     have W1 : Hid (¬ (i < m ∧ m < en) → SWE w0 g (P ++ U1 ++ V1 ++ U2 ++ V2 ++ R) wr):=Lh fun c => by
      have:=HWX.out
      rcases HNR.out c with e | e
      ·rw [e] at this ⊢; simpa using this
      ·rw [e] at this ⊢; simpa using this
     have W2 : Hid (¬ (a < i ∧ i < md) → Srt (U1 ++ V1)):=Lh fun c => by
      rcases HNL.out c with e | e
      ·rw [e]; exact G3.out
      ·rw [e,List.append_nil]; exact G1.out
     have W3 : Hid (¬ (md < en ∧ en < b) → Srt (U2 ++ V2)):=Lh fun c => by
      rcases HNQ.out c with e | e
      ·rw [e]; exact G4.out
      ·rw [e,List.append_nil]; exact G2.out
     clear HNR HNL HNQ
     rcases Classical.em (i < m ∧ m < en) with ⟨x1,x2⟩ | x0
     ·have x1' : (i : Int) < (m : Int):=by omega
      have x2' : (m : Int) < (en : Int):=by omega
      go_wp2_with fail
      refine (HROT.out _ x1 x2 HWX.out).mono ?_
      rintro e w7 ⟨rfl,h7⟩
      have H7:=Lh h7
      clear h7
      rcases Classical.em (a < i ∧ i < md) with ⟨y1,y2⟩ | y0
      ·have y1' : (a : Int) < (i : Int):=by omega
       have y2' : (i : Int) < (md : Int):=by omega
       go_wp2_with fail
       refine (HLEFT.out _ y1 y2 H7.out).mono ?_
       rintro e w8 ⟨rfl,M,hM,m1,m2⟩
       have HM8:=Lh hM
       have HM1:=Lh m1
       have HM2:=Lh m2
       clear hM m1 m2
       rcases Classical.em (md < en ∧ en < b) with ⟨z1,z2⟩ | z0
       ·have z1' : (md : Int) < (en : Int):=by omega
        have z2' : (en : Int) < (b : Int):=by omega
        go_wp2_with fail
        all_goals
         refine (HRIGHT.out _ M (by have:=HM2.out.1; rw [List.length_append] at this; exact this) z1 z2 HM8.out).mono ?_
         rintro e w9 ⟨rfl,K,hK,k1,k2⟩
         go_wp2
         go_end0
         obtain ⟨j1,j2⟩:=HALL.out M K HM1.out HM2.out k1 k2
         exact ⟨rfl,M ++ K,by rw [← List.append_assoc]; exact hK,j1,j2⟩
       ·have HZ:=Lh z0
        by_cases z1 : md < en
        ·have z1' : (md : Int) < (en : Int):=by omega
         have z2' : ¬ (en : Int) < (b : Int):=by omega
         clear z0
         go_wp2
         all_goals
          go_end0
          obtain ⟨j1,j2⟩:=HALL.out M (U2 ++ V2) HM1.out HM2.out (W3.out HZ.out) (Fl.refl _)
          refine ⟨rfl,M ++ (U2 ++ V2),?_,j1,j2⟩
          have h:=HM8.out
          simpa only [List.append_assoc] using h
        ·have z1' : ¬ (md : Int) < (en : Int):=by omega
         clear z0
         go_wp2
         all_goals
          go_end0
          obtain ⟨j1,j2⟩:=HALL.out M (U2 ++ V2) HM1.out HM2.out (W3.out HZ.out) (Fl.refl _)
          refine ⟨rfl,M ++ (U2 ++ V2),?_,j1,j2⟩
          have h:=HM8.out
          simpa only [List.append_assoc] using h
      ·have HY0:=Lh y0
       have HM8 : Hid (SWE w0 g (P ++ (U1 ++ V1) ++ U2 ++ V2 ++ R) w7):=Lh (by have h:=H7.out; simpa only [List.append_assoc] using h)
       by_cases y1 : a < i
       ·have y1' : (a : Int) < (i : Int):=by omega
        have y2' : ¬ (i : Int) < (md : Int):=by omega
        clear y0
        rcases Classical.em (md < en ∧ en < b) with ⟨z1,z2⟩ | z0
        ·have z1' : (md : Int) < (en : Int):=by omega
         have z2' : (en : Int) < (b : Int):=by omega
         go_wp2_with fail
         all_goals
          refine (HRIGHT.out _ (U1 ++ V1) (List.length_append) z1 z2 HM8.out).mono ?_
          rintro e w9 ⟨rfl,K,hK,k1,k2⟩
          go_wp2
          go_end0
          obtain ⟨j1,j2⟩:=HALL.out (U1 ++ V1) K (W2.out HY0.out) (Fl.refl _) k1 k2
          exact ⟨rfl,(U1 ++ V1) ++ K,by rw [← List.append_assoc]; exact hK,j1,j2⟩
        ·have HZ:=Lh z0
         by_cases z1 : md < en
         ·have z1' : (md : Int) < (en : Int):=by omega
          have z2' : ¬ (en : Int) < (b : Int):=by omega
          clear z0
          go_wp2
          all_goals
           go_end0
           obtain ⟨j1,j2⟩:=HALL.out (U1 ++ V1) (U2 ++ V2) (W2.out HY0.out) (Fl.refl _) (W3.out HZ.out) (Fl.refl _)
           refine ⟨rfl,(U1 ++ V1) ++ (U2 ++ V2),?_,j1,j2⟩
           have h:=HM8.out
           simpa only [List.append_assoc] using h
         ·have z1' : ¬ (md : Int) < (en : Int):=by omega
          clear z0
          go_wp2
          all_goals
           go_end0
           obtain ⟨j1,j2⟩:=HALL.out (U1 ++ V1) (U2 ++ V2) (W2.out HY0.out) (Fl.refl _) (W3.out HZ.out) (Fl.refl _)
           refine ⟨rfl,(U1 ++ V1) ++ (U2 ++ V2),?_,j1,j2⟩
           have h:=HM8.out
           simpa only [List.append_assoc] using h
       ·have y1' : ¬ (a : Int) < (i : Int):=by omega
        clear y0
        rcases Classical.em (md < en ∧ en < b) with ⟨z1,z2⟩ | z0
        ·have z1' : (md : Int) < (en : Int):=by omega
         have z2' : (en : Int) < (b : Int):=by omega
         go_wp2_with fail
         all_goals
          refine (HRIGHT.out _ (U1 ++ V1) (List.length_append) z1 z2 HM8.out).mono ?_
          rintro e w9 ⟨rfl,K,hK,k1,k2⟩
          go_wp2
          go_end0
          obtain ⟨j1,j2⟩:=HALL.out (U1 ++ V1) K (W2.out HY0.out) (Fl.refl _) k1 k2
          exact ⟨rfl,(U1 ++ V1) ++ K,by rw [← List.append_assoc]; exact hK,j1,j2⟩
        ·have HZ:=Lh z0
         by_cases z1 : md < en
         ·have z1' : (md : Int) < (en : Int):=by omega
          have z2' : ¬ (en : Int) < (b : Int):=by omega
          clear z0
          go_wp2
          all_goals
           go_end0
           obtain ⟨j1,j2⟩:=HALL.out (U1 ++ V1) (U2 ++ V2) (W2.out HY0.out) (Fl.refl _) (W3.out HZ.out) (Fl.refl _)
           refine ⟨rfl,(U1 ++ V1) ++ (U2 ++ V2),?_,j1,j2⟩
           have h:=HM8.out
           simpa only [List.append_assoc] using h
         ·have z1' : ¬ (md : Int) < (en : Int):=by omega
          clear z0
          go_wp2
          all_goals
           go_end0
           obtain ⟨j1,j2⟩:=HALL.out (U1 ++ V1) (U2 ++ V2) (W2.out HY0.out) (Fl.refl _) (W3.out HZ.out) (Fl.refl _)
           refine ⟨rfl,(U1 ++ V1) ++ (U2 ++ V2),?_,j1,j2⟩
           have h:=HM8.out
           simpa only [List.append_assoc] using h
     ·have HX0:=Lh x0
      have H7:=Lh (W1.out HX0.out)
      by_cases x1 : i < m
      ·have x1' : (i : Int) < (m : Int):=by omega
       have x2' : ¬ (m : Int) < (en : Int):=by omega
       clear x0
       rcases Classical.em (a < i ∧ i < md) with ⟨y1,y2⟩ | y0
       ·have y1' : (a : Int) < (i : Int):=by omega
        have y2' : (i : Int) < (md : Int):=by omega
        go_wp2_with fail
        refine (HLEFT.out _ y1 y2 H7.out).mono ?_
        rintro e w8 ⟨rfl,M,hM,m1,m2⟩
        have HM8:=Lh hM
        have HM1:=Lh m1
        have HM2:=Lh m2
        clear hM m1 m2
        rcases Classical.em (md < en ∧ en < b) with ⟨z1,z2⟩ | z0
        ·have z1' : (md : Int) < (en : Int):=by omega
         have z2' : (en : Int) < (b : Int):=by omega
         go_wp2_with fail
         all_goals
          refine (HRIGHT.out _ M (by have:=HM2.out.1; rw [List.length_append] at this; exact this) z1 z2 HM8.out).mono ?_
          rintro e w9 ⟨rfl,K,hK,k1,k2⟩
          go_wp2
          go_end0
          obtain ⟨j1,j2⟩:=HALL.out M K HM1.out HM2.out k1 k2
          exact ⟨rfl,M ++ K,by rw [← List.append_assoc]; exact hK,j1,j2⟩
        ·have HZ:=Lh z0
         by_cases z1 : md < en
         ·have z1' : (md : Int) < (en : Int):=by omega
          have z2' : ¬ (en : Int) < (b : Int):=by omega
          clear z0
          go_wp2
          all_goals
           go_end0
           obtain ⟨j1,j2⟩:=HALL.out M (U2 ++ V2) HM1.out HM2.out (W3.out HZ.out) (Fl.refl _)
           refine ⟨rfl,M ++ (U2 ++ V2),?_,j1,j2⟩
           have h:=HM8.out
           simpa only [List.append_assoc] using h
         ·have z1' : ¬ (md : Int) < (en : Int):=by omega
          clear z0
          go_wp2
          all_goals
           go_end0
           obtain ⟨j1,j2⟩:=HALL.out M (U2 ++ V2) HM1.out HM2.out (W3.out HZ.out) (Fl.refl _)
           refine ⟨rfl,M ++ (U2 ++ V2),?_,j1,j2⟩
           have h:=HM8.out
           simpa only [List.append_assoc] using h
       ·have HY0:=Lh y0
        have HM8 : Hid (SWE w0 g (P ++ (U1 ++ V1) ++ U2 ++ V2 ++ R) wr):=Lh (by have h:=H7.out; simpa only [List.append_assoc] using h)
        by_cases y1 : a < i
        ·have y1' : (a : Int) < (i : Int):=by omega
         have y2' : ¬ (i : Int) < (md : Int):=by omega
         clear y0
         rcases Classical.em (md < en ∧ en < b) with ⟨z1,z2⟩ | z0
         ·have z1' : (md : Int) < (en : Int):=by omega
          have z2' : (en : Int) < (b : Int):=by omega
          go_wp2_with fail
          all_goals
           refine (HRIGHT.out _ (U1 ++ V1) (List.length_append) z1 z2 HM8.out).mono ?_
           rintro e w9 ⟨rfl,K,hK,k1,k2⟩
           go_wp2
           go_end0
           obtain ⟨j1,j2⟩:=HALL.out (U1 ++ V1) K (W2.out HY0.out) (Fl.refl _) k1 k2
           exact ⟨rfl,(U1 ++ V1) ++ K,by rw [← List.append_assoc]; exact hK,j1,j2⟩
         ·have HZ:=Lh z0
          by_cases z1 : md < en
          ·have z1' : (md : Int) < (en : Int):=by omega
           have z2' : ¬ (en : Int) < (b : Int):=by omega
           clear z0
           go_wp2
           all_goals
            go_end0
            obtain ⟨j1,j2⟩:=HALL.out (U1 ++ V1) (U2 ++ V2) (W2.out HY0.out) (Fl.refl _) (W3.out HZ.out) (Fl.refl _)
            refine ⟨rfl,(U1 ++ V1) ++ (U2 ++ V2),?_,j1,j2⟩
            have h:=HM8.out
            simpa only [List.append_assoc] using h
          ·have z1' : ¬ (md : Int) < (en : Int):=by omega
           clear z0
           go_wp2
           all_goals
            go_end0
            obtain ⟨j1,j2⟩:=HALL.out (U1 ++ V1) (U2 ++ V2) (W2.out HY0.out) (Fl.refl _) (W3.out HZ.out) (Fl.refl _)
            refine ⟨rfl,(U1 ++ V1) ++ (U2 ++ V2),?_,j1,j2⟩
            have h:=HM8.out
            simpa only [List.append_assoc] using h
        ·have y1' : ¬ (a : Int) < (i : Int):=by omega
         clear y0
         rcases Classical.em (md < en ∧ en < b) with ⟨z1,z2⟩ | z0
         ·have z1' : (md : Int) < (en : Int):=by omega
          have z2' : (en : Int) < (b : Int):=by omega
          go_wp2_with fail
          all_goals
           refine (HRIGHT.out _ (U1 ++ V1) (List.length_append) z1 z2 HM8.out).mono ?_
           rintro e w9 ⟨rfl,K,hK,k1,k2⟩
           go_wp2
           go_end0
           obtain ⟨j1,j2⟩:=HALL.out (U1 ++ V1) K (W2.out HY0.out) (Fl.refl _) k1 k2
           exact ⟨rfl,(U1 ++ V1) ++ K,by rw [← List.append_assoc]; exact hK,j1,j2⟩
         ·have HZ:=Lh z0
          by_cases z1 : md < en
          ·have z1' : (md : Int) < (en : Int):=by omega
           have z2' : ¬ (en : Int) < (b : Int):=by omega
           clear z0
           go_wp2
           all_goals
            go_end0
            obtain ⟨j1,j2⟩:=HALL.out (U1 ++ V1) (U2 ++ V2) (W2.out HY0.out) (Fl.refl _) (W3.out HZ.out) (Fl.refl _)
            refine ⟨rfl,(U1 ++ V1) ++ (U2 ++ V2),?_,j1,j2⟩
            have h:=HM8.out
            simpa only [List.append_assoc] using h
          ·have z1' : ¬ (md : Int) < (en : Int):=by omega
           clear z0
           go_wp2
           all_goals
            go_end0
            obtain ⟨j1,j2⟩:=HALL.out (U1 ++ V1) (U2 ++ V2) (W2.out HY0.out) (Fl.refl _) (W3.out HZ.out) (Fl.refl _)
            refine ⟨rfl,(U1 ++ V1) ++ (U2 ++ V2),?_,j1,j2⟩
            have h:=HM8.out
            simpa only [List.append_assoc] using h
      ·have x1' : ¬ (i : Int) < (m : Int):=by omega
       clear x0
       rcases Classical.em (a < i ∧ i < md) with ⟨y1,y2⟩ | y0
       ·have y1' : (a : Int) < (i : Int):=by omega
        have y2' : (i : Int) < (md : Int):=by omega
        go_wp2_with fail
        refine (HLEFT.out _ y1 y2 H7.out).mono ?_
        rintro e w8 ⟨rfl,M,hM,m1,m2⟩
        have HM8:=Lh hM
        have HM1:=Lh m1
        have HM2:=Lh m2
        clear hM m1 m2
        rcases Classical.em (md < en ∧ en < b) with ⟨z1,z2⟩ | z0
        ·have z1' : (md : Int) < (en : Int):=by omega
         have z2' : (en : Int) < (b : Int):=by omega
         go_wp2_with fail
         all_goals
          refine (HRIGHT.out _ M (by have:=HM2.out.1; rw [List.length_append] at this; exact this) z1 z2 HM8.out).mono ?_
          rintro e w9 ⟨rfl,K,hK,k1,k2⟩
          go_wp2
          go_end0
          obtain ⟨j1,j2⟩:=HALL.out M K HM1.out HM2.out k1 k2
          exact ⟨rfl,M ++ K,by rw [← List.append_assoc]; exact hK,j1,j2⟩
        ·have HZ:=Lh z0
         by_cases z1 : md < en
         ·have z1' : (md : Int) < (en : Int):=by omega
          have z2' : ¬ (en : Int) < (b : Int):=by omega
          clear z0
          go_wp2
          all_goals
           go_end0
           obtain ⟨j1,j2⟩:=HALL.out M (U2 ++ V2) HM1.out HM2.out (W3.out HZ.out) (Fl.refl _)
           refine ⟨rfl,M ++ (U2 ++ V2),?_,j1,j2⟩
           have h:=HM8.out
           simpa only [List.append_assoc] using h
         ·have z1' : ¬ (md : Int) < (en : Int):=by omega
          clear z0
          go_wp2
          all_goals
           go_end0
           obtain ⟨j1,j2⟩:=HALL.out M (U2 ++ V2) HM1.out HM2.out (W3.out HZ.out) (Fl.refl _)
           refine ⟨rfl,M ++ (U2 ++ V2),?_,j1,j2⟩
           have h:=HM8.out
           simpa only [List.append_assoc] using h
       ·have HY0:=Lh y0
        have HM8 : Hid (SWE w0 g (P ++ (U1 ++ V1) ++ U2 ++ V2 ++ R) wr):=Lh (by have h:=H7.out; simpa only [List.append_assoc] using h)
        by_cases y1 : a < i
        ·have y1' : (a : Int) < (i : Int):=by omega
         have y2' : ¬ (i : Int) < (md : Int):=by omega
         clear y0
         rcases Classical.em (md < en ∧ en < b) with ⟨z1,z2⟩ | z0
         ·have z1' : (md : Int) < (en : Int):=by omega
          have z2' : (en : Int) < (b : Int):=by omega
          go_wp2_with fail
          all_goals
           refine (HRIGHT.out _ (U1 ++ V1) (List.length_append) z1 z2 HM8.out).mono ?_
           rintro e w9 ⟨rfl,K,hK,k1,k2⟩
           go_wp2
           go_end0
           obtain ⟨j1,j2⟩:=HALL.out (U1 ++ V1) K (W2.out HY0.out) (Fl.refl _) k1 k2
           exact ⟨rfl,(U1 ++ V1) ++ K,by rw [← List.append_assoc]; exact hK,j1,j2⟩
         ·have HZ:=Lh z0
          by_cases z1 : md < en
          ·have z1' : (md : Int) < (en : Int):=by omega
           have z2' : ¬ (en : Int) < (b : Int):=by omega
           clear z0
           go_wp2
           all_goals
            go_end0
            obtain ⟨j1,j2⟩:=HALL.out (U1 ++ V1) (U2 ++ V2) (W2.out HY0.out) (Fl.refl _) (W3.out HZ.out) (Fl.refl _)
            refine ⟨rfl,(U1 ++ V1) ++ (U2 ++ V2),?_,j1,j2⟩
            have h:=HM8.out
            simpa only [List.append_assoc] using h
          ·have z1' : ¬ (md : Int) < (en : Int):=by omega
           clear z0
           go_wp2
           all_goals
            go_end0
            obtain ⟨j1,j2⟩:=HALL.out (U1 ++ V1) (U2 ++ V2) (W2.out HY0.out) (Fl.refl _) (W3.out HZ.out) (Fl.refl _)
            refine ⟨rfl,(U1 ++ V1) ++ (U2 ++ V2),?_,j1,j2⟩
            have h:=HM8.out
            simpa only [List.append_assoc] using h
        ·have y1' : ¬ (a : Int) < (i : Int):=by omega
         clear y0
         rcases Classical.em (md < en ∧ en < b) with ⟨z1,z2⟩ | z0
         ·have z1' : (md : Int) < (en : Int):=by omega
          have z2' : (en : Int) < (b : Int):=by omega
          go_wp2_with fail
          all_goals
           refine (HRIGHT.out _ (U1 ++ V1) (List.length_append) z1 z2 HM8.out).mono ?_
           rintro e w9 ⟨rfl,K,hK,k1,k2⟩
           go_wp2
           go_end0
           obtain ⟨j1,j2⟩:=HALL.out (U1 ++ V1) K (W2.out HY0.out) (Fl.refl _) k1 k2
           exact ⟨rfl,(U1 ++ V1) ++ K,by rw [← List.append_assoc]; exact hK,j1,j2⟩
         ·have HZ:=Lh z0
          by_cases z1 : md < en
          ·have z1' : (md : Int) < (en : Int):=by omega
           have z2' : ¬ (en : Int) < (b : Int):=by omega
           clear z0
           go_wp2
           all_goals
            go_end0
            obtain ⟨j1,j2⟩:=HALL.out (U1 ++ V1) (U2 ++ V2) (W2.out HY0.out) (Fl.refl _) (W3.out HZ.out) (Fl.refl _)
            refine ⟨rfl,(U1 ++ V1) ++ (U2 ++ V2),?_,j1,j2⟩
            have h:=HM8.out
            simpa only [List.append_assoc] using h
          ·have z1' : ¬ (md : Int) < (en : Int):=by omega
           clear z0
           go_wp2
           all_goals
            go_end0
            obtain ⟨j1,j2⟩:=HALL.out (U1 ++ V1) (U2 ++ V2) (W2.out HY0.out) (Fl.refl _) (W3.out HZ.out) (Fl.refl _)
            refine ⟨rfl,(U1 ++ V1) ++ (U2 ++ V2),?_,j1,j2⟩
            have h:=HM8.out
            simpa only [List.append_assoc] using h
  ·go_enter Tryz.func107,Tryz.ntmps107
   have t0 : ¬ (md : Int) < (m : Int):=by omega
   go_wp2
   go_loopw [20,21] (fun vi vj wr => ∃ (i j : Nat),vi = .int .i64 (i : Int) ∧ vj = .int .i64 (j : Int) ∧ a ≤ i ∧ i ≤ j ∧ j ≤ m ∧ (∀ c x y,a ≤ c → c < i → U[c - a]? = some x → V[md - 1 - c]? = some y → x.1 ≤ y.1) ∧ (∀ c x y,j ≤ c → c < m → U[c - a]? = some x → V[md - 1 - c]? = some y → y.1 < x.1) ∧ SWE w0 g (P ++ U ++ V ++ R) wr) (fun vi vj _ => (intOf vj).toNat - (intOf vi).toNat)
   case atStart => exact ⟨a,m,by rfl,rfl,Nat.le_refl _,by omega,Nat.le_refl _,(fun c x y h h' => absurd h (by omega)),(fun c x y h h' => absurd h (by omega)),HS.out⟩
   case round =>
    obtain ⟨i,j,rfl,rfl,hi,hij,hj,h1,h2,d,hd,hw⟩:=hrel
    have H1:=Lh h1
    have H2:=Lh h2
    have HW:=Lh hw
    have HD:=Lh hd
    have HDS : Hid (d.size = d0.size):=Lh (by rw [size_of hd,HN0.out,HNN.out])
    clear h1 h2 hw hd
    by_cases hlt : i < j
    ·obtain ⟨h,hh⟩ : ∃ h,(i + j) / 2 = h:=⟨_,rfl⟩
     have hih : i ≤ h:=by omega
     have hhj : h < j:=by omega
     have hhn : (h : Int) < (n : Int):=by omega
     have s0' : IntKind.i64.wrap ((i : Int) + (j : Int)) = (i : Int) + (j : Int):=IntWalk.i64_in _ (by omega)
     have s1' : ((i : Int) + (j : Int)) / 2 = (h : Int):=by omega
     clear hh
     obtain ⟨q,hq⟩ : ∃ q,NN - 1 - h = q:=⟨_,rfl⟩
     have q1 : IntKind.i64.wrap ((NN : Int) - 1 - (h : Int)) = (q : Int):=(IntWalk.i64_in _ (by omega)).trans (by omega)
     have q2 : (NN : Int) - 1 - (h : Int) = (q : Int):=by omega
     have q3 : (q : Int) < (n : Int):=by omega
     obtain ⟨x,hx⟩ : ∃ x,U[h - a]? = some x:=⟨_,List.getElem?_eq_getElem (by rw [HUL.out]; omega)⟩
     obtain ⟨y,hy⟩ : ∃ y,V[md - 1 - h]? = some y:=⟨_,List.getElem?_eq_getElem (by rw [HVL.out]; omega)⟩
     have hxx:=HUG.out _ _ hx
     have hyy:=HVG.out _ _ hy
     rw [show a + (h - a) = h by omega] at hxx
     rw [show m + (md - 1 - h) = q by omega] at hyy
     have HX:=Lh hx
     have HY:=Lh hy
     have HP1:=Lh (get_at HD.out hyy)
     have HP2:=Lh (get_at HD.out hxx)
     obtain ⟨cv,hcv⟩ : ∃ cv,cfE y x = cv:=⟨_,rfl⟩
     have HCV:=Lh hcv
     have HLT : Hid (cv < 0 ↔ y.1 < x.1):=Lh (by rw [← hcv]; exact cfE_lt y x)
     clear hx hy hxx hyy hcv hq
     by_cases hc : cv < 0
     ·have HC:=Lh (HLT.out.1 hc)
      have hdc : decide (cv < 0) = true:=decide_eq_true hc
      have hdn : (!decide (cv < 0)) = false:=by rw [hdc]; rfl
      go_wp2_with fail
      obtain ⟨S0,hS0⟩ : ∃ S0 : World → Prop,S0 = fun w' => SWK ecell 5 w0 g 0 d w':=⟨_,rfl⟩
      have HSI : Hid (∀ w',SWK ecell 5 w0 g 0 d w' → S0 w'):=Lh fun w' b => by rw [hS0]; exact b
      have HSF : Hid (∀ w',S0 w' → SWK ecell 5 w0 g 0 d w'):=Lh fun w' b => by rw [hS0] at b; exact b
      have s0 : ∀ s : SW S0,s.w.cell? ⟨g,q * 5,none⟩ = some (.bool y.2.2.1):=fun s => (ed_cells ((HSF.out _ s.h).holds hR.hblk hR.hH HDS.out) HP1.out.1 HP1.out.2).1.1
      have s1 : ∀ s : SW S0,s.w.cell? ⟨g,q * 5 + 1,none⟩ = some (.bool y.2.2.2.1):=fun s => (ed_cells ((HSF.out _ s.h).holds hR.hblk hR.hH HDS.out) HP1.out.1 HP1.out.2).1.2.1
      have s2 : ∀ s : SW S0,s.w.cell? ⟨g,q * 5 + 2,none⟩ = some (.string y.2.2.2.2):=fun s => (ed_cells ((HSF.out _ s.h).holds hR.hblk hR.hH HDS.out) HP1.out.1 HP1.out.2).1.2.2.1
      have s2x : ∀ s : SW S0,s.w.cell? ⟨g,q * 5 + 3,none⟩ = some (.int .i64 y.1):=fun s => (ed_cells ((HSF.out _ s.h).holds hR.hblk hR.hH HDS.out) HP1.out.1 HP1.out.2).1.2.2.2.1
      have s2y : ∀ s : SW S0,s.w.cell? ⟨g,q * 5 + 4,none⟩ = some (.int .i64 y.2.1):=fun s => (ed_cells ((HSF.out _ s.h).holds hR.hblk hR.hH HDS.out) HP1.out.1 HP1.out.2).1.2.2.2.2
      have r0 : ∀ s : SW S0,s.w.cell? ⟨g,h * 5,none⟩ = some (.bool x.2.2.1):=fun s => (ed_cells ((HSF.out _ s.h).holds hR.hblk hR.hH HDS.out) HP2.out.1 HP2.out.2).1.1
      have r1 : ∀ s : SW S0,s.w.cell? ⟨g,h * 5 + 1,none⟩ = some (.bool x.2.2.2.1):=fun s => (ed_cells ((HSF.out _ s.h).holds hR.hblk hR.hH HDS.out) HP2.out.1 HP2.out.2).1.2.1
      have r2 : ∀ s : SW S0,s.w.cell? ⟨g,h * 5 + 2,none⟩ = some (.string x.2.2.2.2):=fun s => (ed_cells ((HSF.out _ s.h).holds hR.hblk hR.hH HDS.out) HP2.out.1 HP2.out.2).1.2.2.1
      have r2x : ∀ s : SW S0,s.w.cell? ⟨g,h * 5 + 3,none⟩ = some (.int .i64 x.1):=fun s => (ed_cells ((HSF.out _ s.h).holds hR.hblk hR.hH HDS.out) HP2.out.1 HP2.out.2).1.2.2.2.1
      have r2y : ∀ s : SW S0,s.w.cell? ⟨g,h * 5 + 4,none⟩ = some (.int .i64 x.2.1):=fun s => (ed_cells ((HSF.out _ s.h).holds hR.hblk hR.hH HDS.out) HP2.out.1 HP2.out.2).1.2.2.2.2
      have hS1 : S0 wr.drew:=HSI.out _ HW.out.drew
      have HCM : Hid (CP 35 #[.agg #[.bool y.2.2.1,.bool y.2.2.2.1,.string y.2.2.2.2,.int .i64 y.1,.int .i64 y.2.1],.agg #[.bool x.2.2.1,.bool x.2.2.2.1,.string x.2.2.2.2,.int .i64 x.1,.int .i64 x.2.1]] wr.drew fun e w' => e = .returned (.int .i64 cv) ∧ SWK ecell 5 w0 g 0 d w'):=Lh (by
       have:=cmp_SW HW.out.drew y x
       rw [HCV.out] at this
       exact this)
      clear hS0
      refine regionH_start (by kernel_rfl) 14 rfl S0 13 ?_
      refine wpL_next 0 11 3 (by kernel_rfl) (fun _ _ d _ _ h => by cases d <;> exact h) hS1 (fun hne => ?_)
      simp only [sD,sE,sF,sG]
      repeat (go_big_quiet_step (fail))
      refine wpQuiet_nil ?_
      refine wpL_one (i:=11) (fuel:=2) (by kernel_rfl) rfl (fun KK hKK => ?_)
      go_simp
      refine HCM.out.mono ?_
      rintro e w7 ⟨rfl,h7⟩
      have H7:=Lh h7
      refine hKK _ _ (HSI.out _ h7) ?_
      clear hKK KK h7
      refine wpL_next 12 1 1 (by kernel_rfl) (fun _ _ d _ _ h => by cases d <;> exact h) (HSI.out _ H7.out) (fun hne => ?_)
      simp only [sD,sE,sF,sG]
      repeat (go_big_quiet_step (fail))
      refine wpQuiet_nil ?_
      refine wpL_last (fuel:=0) (by kernel_rfl) (by kernel_rfl) rfl (fun KK hKK => ?_)
      go_simp
      refine hKK _ _ ?_
      clear hKK KK s0 s1 s2 s2x s2y r0 r1 r2 r2x r2y hS1
      go_wp2
      go_roundw
      case rel =>
       refine ⟨i,h,rfl,rfl,hi,hih,by omega,H1.out,fun c u v e1 e2 hu hv => ?_,d,HD.out,H7.out⟩
       have z1:=srt_get HUS.out HX.out hu (by omega)
       have z2:=srt_get HVS.out hv HY.out (by omega)
       have:=HC.out
       omega
      case measure => simp [intOf]; omega
     ·have HC : Hid (¬ y.1 < x.1):=Lh fun e => hc (HLT.out.2 e)
      have hdc : decide (cv < 0) = false:=decide_eq_false hc
      have hdn : (!decide (cv < 0)) = true:=by rw [hdc]; rfl
      go_wp2_with fail
      obtain ⟨S0,hS0⟩ : ∃ S0 : World → Prop,S0 = fun w' => SWK ecell 5 w0 g 0 d w':=⟨_,rfl⟩
      have HSI : Hid (∀ w',SWK ecell 5 w0 g 0 d w' → S0 w'):=Lh fun w' b => by rw [hS0]; exact b
      have HSF : Hid (∀ w',S0 w' → SWK ecell 5 w0 g 0 d w'):=Lh fun w' b => by rw [hS0] at b; exact b
      have s0 : ∀ s : SW S0,s.w.cell? ⟨g,q * 5,none⟩ = some (.bool y.2.2.1):=fun s => (ed_cells ((HSF.out _ s.h).holds hR.hblk hR.hH HDS.out) HP1.out.1 HP1.out.2).1.1
      have s1 : ∀ s : SW S0,s.w.cell? ⟨g,q * 5 + 1,none⟩ = some (.bool y.2.2.2.1):=fun s => (ed_cells ((HSF.out _ s.h).holds hR.hblk hR.hH HDS.out) HP1.out.1 HP1.out.2).1.2.1
      have s2 : ∀ s : SW S0,s.w.cell? ⟨g,q * 5 + 2,none⟩ = some (.string y.2.2.2.2):=fun s => (ed_cells ((HSF.out _ s.h).holds hR.hblk hR.hH HDS.out) HP1.out.1 HP1.out.2).1.2.2.1
      have s2x : ∀ s : SW S0,s.w.cell? ⟨g,q * 5 + 3,none⟩ = some (.int .i64 y.1):=fun s => (ed_cells ((HSF.out _ s.h).holds hR.hblk hR.hH HDS.out) HP1.out.1 HP1.out.2).1.2.2.2.1
      have s2y : ∀ s : SW S0,s.w.cell? ⟨g,q * 5 + 4,none⟩ = some (.int .i64 y.2.1):=fun s => (ed_cells ((HSF.out _ s.h).holds hR.hblk hR.hH HDS.out) HP1.out.1 HP1.out.2).1.2.2.2.2
      have r0 : ∀ s : SW S0,s.w.cell? ⟨g,h * 5,none⟩ = some (.bool x.2.2.1):=fun s => (ed_cells ((HSF.out _ s.h).holds hR.hblk hR.hH HDS.out) HP2.out.1 HP2.out.2).1.1
      have r1 : ∀ s : SW S0,s.w.cell? ⟨g,h * 5 + 1,none⟩ = some (.bool x.2.2.2.1):=fun s => (ed_cells ((HSF.out _ s.h).holds hR.hblk hR.hH HDS.out) HP2.out.1 HP2.out.2).1.2.1
      have r2 : ∀ s : SW S0,s.w.cell? ⟨g,h * 5 + 2,none⟩ = some (.string x.2.2.2.2):=fun s => (ed_cells ((HSF.out _ s.h).holds hR.hblk hR.hH HDS.out) HP2.out.1 HP2.out.2).1.2.2.1
      have r2x : ∀ s : SW S0,s.w.cell? ⟨g,h * 5 + 3,none⟩ = some (.int .i64 x.1):=fun s => (ed_cells ((HSF.out _ s.h).holds hR.hblk hR.hH HDS.out) HP2.out.1 HP2.out.2).1.2.2.2.1
      have r2y : ∀ s : SW S0,s.w.cell? ⟨g,h * 5 + 4,none⟩ = some (.int .i64 x.2.1):=fun s => (ed_cells ((HSF.out _ s.h).holds hR.hblk hR.hH HDS.out) HP2.out.1 HP2.out.2).1.2.2.2.2
      have hS1 : S0 wr.drew:=HSI.out _ HW.out.drew
      have HCM : Hid (CP 35 #[.agg #[.bool y.2.2.1,.bool y.2.2.2.1,.string y.2.2.2.2,.int .i64 y.1,.int .i64 y.2.1],.agg #[.bool x.2.2.1,.bool x.2.2.2.1,.string x.2.2.2.2,.int .i64 x.1,.int .i64 x.2.1]] wr.drew fun e w' => e = .returned (.int .i64 cv) ∧ SWK ecell 5 w0 g 0 d w'):=Lh (by
       have:=cmp_SW HW.out.drew y x
       rw [HCV.out] at this
       exact this)
      clear hS0
      refine regionH_start (by kernel_rfl) 14 rfl S0 13 ?_
      refine wpL_next 0 11 3 (by kernel_rfl) (fun _ _ d _ _ h => by cases d <;> exact h) hS1 (fun hne => ?_)
      simp only [sD,sE,sF,sG]
      repeat (go_big_quiet_step (fail))
      refine wpQuiet_nil ?_
      refine wpL_one (i:=11) (fuel:=2) (by kernel_rfl) rfl (fun KK hKK => ?_)
      go_simp
      refine HCM.out.mono ?_
      rintro e w7 ⟨rfl,h7⟩
      have H7:=Lh h7
      refine hKK _ _ (HSI.out _ h7) ?_
      clear hKK KK h7
      refine wpL_next 12 1 1 (by kernel_rfl) (fun _ _ d _ _ h => by cases d <;> exact h) (HSI.out _ H7.out) (fun hne => ?_)
      simp only [sD,sE,sF,sG]
      repeat (go_big_quiet_step (fail))
      refine wpQuiet_nil ?_
      refine wpL_last (fuel:=0) (by kernel_rfl) (by kernel_rfl) rfl (fun KK hKK => ?_)
      go_simp
      refine hKK _ _ ?_
      clear hKK KK s0 s1 s2 s2x s2y r0 r1 r2 r2x r2y hS1
      go_wp2
      go_roundw
      case rel =>
       refine ⟨h + 1,j,by go_num,rfl,by omega,by omega,hj,fun c u v e1 e2 hu hv => ?_,H2.out,d,HD.out,H7.out⟩
       have z1:=srt_get HUS.out hu HX.out (by omega)
       have z2:=srt_get HVS.out HY.out hv (by omega)
       have:=HC.out
       omega
      case measure => simp [intOf]; omega
    ·obtain rfl : i = j:=by omega
     obtain ⟨U1,U2,V1,V2,l1,l2,l3,l4,hwx,g1,g2,g3,g4,hall⟩:=HEND.out i wr (by omega) (by omega) (by omega) (by omega)
      (fun k x y e hx hy => by
       have:=(List.getElem?_eq_some_iff.1 hy).1
       have h3:=HVL.out
       refine H1.out (i - 1) x y (by omega) (by omega) ?_ ?_
       ·rw [show i - 1 - a = k by omega]; exact hx
       ·rw [show md - 1 - (i - 1) = md - i by omega]; exact hy)
      (fun k x y e hy hx => by
       have:=(List.getElem?_eq_some_iff.1 hx).1
       have h3:=HUL.out
       refine H2.out i x y nLe (by omega) hx ?_
       rw [show md - 1 - i = k by omega]; exact hy)
      ⟨d,HD.out,HW.out⟩
     obtain ⟨en,hen⟩ : ∃ en,NN - i = en:=⟨_,rfl⟩
     have w1 : IntKind.i64.wrap ((NN : Int) - (i : Int)) = (en : Int):=(IntWalk.i64_in _ (by omega)).trans (by omega)
     have w2 : (NN : Int) - (i : Int) = (en : Int):=by omega
     have HWX:=Lh hwx
     have HALL:=Lh hall
     have L1:=Lh l1
     have L2:=Lh l2
     have L3:=Lh l3
     have L4:=Lh l4
     have G1:=Lh g1
     have G2:=Lh g2
     have G3:=Lh g3
     have G4:=Lh g4
     have HEN:=Lh hen
     have HROT : Hid (∀ wx,i < m → m < en → SWE w0 g (P ++ U1 ++ U2 ++ V1 ++ V2 ++ R) wx → CP 125 #[.slice (some ⟨g,0,none⟩) n cap,.int .i64 i,.int .i64 m,.int .i64 en,cmpV] wx fun e w' => e = .returned (.tuple #[]) ∧ SWE w0 g (P ++ U1 ++ V1 ++ U2 ++ V2 ++ R) w'):=Lh fun wx c1 c2 hw => by
      have a1:=HA.out
      have a2:=L1.out
      have a3:=L2.out
      have a4:=L3.out
      have a5:=L4.out
      have a6:=HEN.out
      have a7:=HLN.out
      have a8:=HUL.out
      have a9:=HVL.out
      have b1 : P ++ U1 ++ U2 ++ V1 ++ V2 ++ R = (P ++ U1) ++ U2 ++ V1 ++ (V2 ++ R):=by simp only [List.append_assoc]
      have b2 : P ++ U1 ++ V1 ++ U2 ++ V2 ++ R = (P ++ U1) ++ V1 ++ U2 ++ (V2 ++ R):=by simp only [List.append_assoc]
      rw [b1] at hw
      rw [b2]
      exact rotate_any g cap i m en d0 w0 wx (P ++ U1) U2 V1 (V2 ++ R) hR n HNN.out hw (by simp only [List.length_append]; omega) (by simp only [List.length_append]; omega) (by simp only [List.length_append]; omega) (by simp only [List.length_append]; omega) (by omega) (by omega) hsz
     have HLEFT : Hid (∀ wx,a < i → i < md → SWE w0 g (P ++ U1 ++ V1 ++ U2 ++ V2 ++ R) wx → CP 107 #[.slice (some ⟨g,0,none⟩) n cap,.int .i64 a,.int .i64 i,.int .i64 md,cmpV] wx fun e w' => e = .returned (.tuple #[]) ∧ ∃ M,SWE w0 g (P ++ M ++ U2 ++ V2 ++ R) w' ∧ Srt M ∧ Fl M (U1 ++ V1)):=Lh fun wx c1 c2 hw => by
      have a1:=HA.out
      have a2:=L1.out
      have a3:=L2.out
      have a4:=L3.out
      have a5:=L4.out
      have a6:=HEN.out
      have a7:=HLN.out
      have a8:=HUL.out
      have a9:=HVL.out
      have a10:=HNN2.out
      have a11:=HNE.out
      have b1 : P ++ U1 ++ V1 ++ U2 ++ V2 ++ R = P ++ U1 ++ V1 ++ (U2 ++ V2 ++ R):=by simp only [List.append_assoc]
      rw [b1] at hw
      refine (HIH.out a i md wx P U1 V1 (U2 ++ V2 ++ R) (by omega) hw (by simp only [List.length_append]; omega) a1 (by omega) (by omega) (by omega) (by omega) G1.out G3.out).mono ?_
      rintro e w' ⟨he,M,hM,z1,z2⟩
      refine ⟨he,M,?_,z1,z2⟩
      have b2 : P ++ M ++ U2 ++ V2 ++ R = P ++ M ++ (U2 ++ V2 ++ R):=by simp only [List.append_assoc]
      rw [b2]
      exact hM
     have HRIGHT : Hid (∀ wx M,M.length = U1.length + V1.length → md < en → en < b → SWE w0 g (P ++ M ++ U2 ++ V2 ++ R) wx → CP 107 #[.slice (some ⟨g,0,none⟩) n cap,.int .i64 md,.int .i64 en,.int .i64 b,cmpV] wx fun e w' => e = .returned (.tuple #[]) ∧ ∃ K,SWE w0 g (P ++ M ++ K ++ R) w' ∧ Srt K ∧ Fl K (U2 ++ V2)):=Lh fun wx M c0 c1 c2 hw => by
      have a1:=HA.out
      have a2:=L1.out
      have a3:=L2.out
      have a4:=L3.out
      have a5:=L4.out
      have a6:=HEN.out
      have a7:=HLN.out
      have a8:=HUL.out
      have a9:=HVL.out
      have a10:=HNN2.out
      have a11:=HNE.out
      refine (HIH.out md en b wx (P ++ M) U2 V2 R (by omega) hw (by simp only [List.length_append]; omega) (by simp only [List.length_append]; omega) (by simp only [List.length_append]; omega) (by simp only [List.length_append]; omega) (by omega) (by omega) G2.out G4.out).mono ?_
      rintro e w' ⟨he,K,hK,z1,z2⟩
      exact ⟨he,K,hK,z1,z2⟩
     have HNR : Hid (¬ (i < m ∧ m < en) → U2 = [] ∨ V1 = []):=Lh fun c => by
      have a3:=L2.out
      have a4:=L3.out
      have a6:=HEN.out
      have a11:=HNE.out
      by_cases z : i < m
      ·exact .inr (List.eq_nil_of_length_eq_zero (by omega))
      ·exact .inl (List.eq_nil_of_length_eq_zero (by omega))
     have HNL : Hid (¬ (a < i ∧ i < md) → U1 = [] ∨ V1 = []):=Lh fun c => by
      have a3:=L1.out
      have a4:=L3.out
      by_cases z : a < i
      ·exact .inr (List.eq_nil_of_length_eq_zero (by omega))
      ·exact .inl (List.eq_nil_of_length_eq_zero (by omega))
     have HNQ : Hid (¬ (md < en ∧ en < b) → U2 = [] ∨ V2 = []):=Lh fun c => by
      have a3:=L2.out
      have a4:=L4.out
      have a6:=HEN.out
      have a11:=HNE.out
      by_cases z : md < en
      ·exact .inr (List.eq_nil_of_length_eq_zero (by omega))
      ·exact .inl (List.eq_nil_of_length_eq_zero (by omega))
     clear hwx hall l1 l2 l3 l4 g1 g2 g3 g4 hen
     have W1 : Hid (¬ (i < m ∧ m < en) → SWE w0 g (P ++ U1 ++ V1 ++ U2 ++ V2 ++ R) wr):=Lh fun c => by
      have:=HWX.out
      rcases HNR.out c with e | e
      ·rw [e] at this ⊢; simpa using this
      ·rw [e] at this ⊢; simpa using this
     have W2 : Hid (¬ (a < i ∧ i < md) → Srt (U1 ++ V1)):=Lh fun c => by
      rcases HNL.out c with e | e
      ·rw [e]; exact G3.out
      ·rw [e,List.append_nil]; exact G1.out
     have W3 : Hid (¬ (md < en ∧ en < b) → Srt (U2 ++ V2)):=Lh fun c => by
      rcases HNQ.out c with e | e
      ·rw [e]; exact G4.out
      ·rw [e,List.append_nil]; exact G2.out
     clear HNR HNL HNQ
     rcases Classical.em (i < m ∧ m < en) with ⟨x1,x2⟩ | x0
     ·have x1' : (i : Int) < (m : Int):=by omega
      have x2' : (m : Int) < (en : Int):=by omega
      go_wp2_with fail
      refine (HROT.out _ x1 x2 HWX.out).mono ?_
      rintro e w7 ⟨rfl,h7⟩
      have H7:=Lh h7
      clear h7
      rcases Classical.em (a < i ∧ i < md) with ⟨y1,y2⟩ | y0
      ·have y1' : (a : Int) < (i : Int):=by omega
       have y2' : (i : Int) < (md : Int):=by omega
       go_wp2_with fail
       refine (HLEFT.out _ y1 y2 H7.out).mono ?_
       rintro e w8 ⟨rfl,M,hM,m1,m2⟩
       have HM8:=Lh hM
       have HM1:=Lh m1
       have HM2:=Lh m2
       clear hM m1 m2
       rcases Classical.em (md < en ∧ en < b) with ⟨z1,z2⟩ | z0
       ·have z1' : (md : Int) < (en : Int):=by omega
        have z2' : (en : Int) < (b : Int):=by omega
        go_wp2_with fail
        all_goals
         refine (HRIGHT.out _ M (by have:=HM2.out.1; rw [List.length_append] at this; exact this) z1 z2 HM8.out).mono ?_
         rintro e w9 ⟨rfl,K,hK,k1,k2⟩
         go_wp2
         go_end0
         obtain ⟨j1,j2⟩:=HALL.out M K HM1.out HM2.out k1 k2
         exact ⟨rfl,M ++ K,by rw [← List.append_assoc]; exact hK,j1,j2⟩
       ·have HZ:=Lh z0
        by_cases z1 : md < en
        ·have z1' : (md : Int) < (en : Int):=by omega
         have z2' : ¬ (en : Int) < (b : Int):=by omega
         clear z0
         go_wp2
         all_goals
          go_end0
          obtain ⟨j1,j2⟩:=HALL.out M (U2 ++ V2) HM1.out HM2.out (W3.out HZ.out) (Fl.refl _)
          refine ⟨rfl,M ++ (U2 ++ V2),?_,j1,j2⟩
          have h:=HM8.out
          simpa only [List.append_assoc] using h
        ·have z1' : ¬ (md : Int) < (en : Int):=by omega
         clear z0
         go_wp2
         all_goals
          go_end0
          obtain ⟨j1,j2⟩:=HALL.out M (U2 ++ V2) HM1.out HM2.out (W3.out HZ.out) (Fl.refl _)
          refine ⟨rfl,M ++ (U2 ++ V2),?_,j1,j2⟩
          have h:=HM8.out
          simpa only [List.append_assoc] using h
      ·have HY0:=Lh y0
       have HM8 : Hid (SWE w0 g (P ++ (U1 ++ V1) ++ U2 ++ V2 ++ R) w7):=Lh (by have h:=H7.out; simpa only [List.append_assoc] using h)
       by_cases y1 : a < i
       ·have y1' : (a : Int) < (i : Int):=by omega
        have y2' : ¬ (i : Int) < (md : Int):=by omega
        clear y0
        rcases Classical.em (md < en ∧ en < b) with ⟨z1,z2⟩ | z0
        ·have z1' : (md : Int) < (en : Int):=by omega
         have z2' : (en : Int) < (b : Int):=by omega
         go_wp2_with fail
         all_goals
          refine (HRIGHT.out _ (U1 ++ V1) (List.length_append) z1 z2 HM8.out).mono ?_
          rintro e w9 ⟨rfl,K,hK,k1,k2⟩
          go_wp2
          go_end0
          obtain ⟨j1,j2⟩:=HALL.out (U1 ++ V1) K (W2.out HY0.out) (Fl.refl _) k1 k2
          exact ⟨rfl,(U1 ++ V1) ++ K,by rw [← List.append_assoc]; exact hK,j1,j2⟩
        ·have HZ:=Lh z0
         by_cases z1 : md < en
         ·have z1' : (md : Int) < (en : Int):=by omega
          have z2' : ¬ (en : Int) < (b : Int):=by omega
          clear z0
          go_wp2
          all_goals
           go_end0
           obtain ⟨j1,j2⟩:=HALL.out (U1 ++ V1) (U2 ++ V2) (W2.out HY0.out) (Fl.refl _) (W3.out HZ.out) (Fl.refl _)
           refine ⟨rfl,(U1 ++ V1) ++ (U2 ++ V2),?_,j1,j2⟩
           have h:=HM8.out
           simpa only [List.append_assoc] using h
         ·have z1' : ¬ (md : Int) < (en : Int):=by omega
          clear z0
          go_wp2
          all_goals
           go_end0
           obtain ⟨j1,j2⟩:=HALL.out (U1 ++ V1) (U2 ++ V2) (W2.out HY0.out) (Fl.refl _) (W3.out HZ.out) (Fl.refl _)
           refine ⟨rfl,(U1 ++ V1) ++ (U2 ++ V2),?_,j1,j2⟩
           have h:=HM8.out
           simpa only [List.append_assoc] using h
       ·have y1' : ¬ (a : Int) < (i : Int):=by omega
        clear y0
        rcases Classical.em (md < en ∧ en < b) with ⟨z1,z2⟩ | z0
        ·have z1' : (md : Int) < (en : Int):=by omega
         have z2' : (en : Int) < (b : Int):=by omega
         go_wp2_with fail
         all_goals
          refine (HRIGHT.out _ (U1 ++ V1) (List.length_append) z1 z2 HM8.out).mono ?_
          rintro e w9 ⟨rfl,K,hK,k1,k2⟩
          go_wp2
          go_end0
          obtain ⟨j1,j2⟩:=HALL.out (U1 ++ V1) K (W2.out HY0.out) (Fl.refl _) k1 k2
          exact ⟨rfl,(U1 ++ V1) ++ K,by rw [← List.append_assoc]; exact hK,j1,j2⟩
        ·have HZ:=Lh z0
         by_cases z1 : md < en
         ·have z1' : (md : Int) < (en : Int):=by omega
          have z2' : ¬ (en : Int) < (b : Int):=by omega
          clear z0
          go_wp2
          all_goals
           go_end0
           obtain ⟨j1,j2⟩:=HALL.out (U1 ++ V1) (U2 ++ V2) (W2.out HY0.out) (Fl.refl _) (W3.out HZ.out) (Fl.refl _)
           refine ⟨rfl,(U1 ++ V1) ++ (U2 ++ V2),?_,j1,j2⟩
           have h:=HM8.out
           simpa only [List.append_assoc] using h
         ·have z1' : ¬ (md : Int) < (en : Int):=by omega
          clear z0
          go_wp2
          all_goals
           go_end0
           obtain ⟨j1,j2⟩:=HALL.out (U1 ++ V1) (U2 ++ V2) (W2.out HY0.out) (Fl.refl _) (W3.out HZ.out) (Fl.refl _)
           refine ⟨rfl,(U1 ++ V1) ++ (U2 ++ V2),?_,j1,j2⟩
           have h:=HM8.out
           simpa only [List.append_assoc] using h
     ·have HX0:=Lh x0
      have H7:=Lh (W1.out HX0.out)
      by_cases x1 : i < m
      ·have x1' : (i : Int) < (m : Int):=by omega
       have x2' : ¬ (m : Int) < (en : Int):=by omega
       clear x0
       rcases Classical.em (a < i ∧ i < md) with ⟨y1,y2⟩ | y0
       ·have y1' : (a : Int) < (i : Int):=by omega
        have y2' : (i : Int) < (md : Int):=by omega
        go_wp2_with fail
        refine (HLEFT.out _ y1 y2 H7.out).mono ?_
        rintro e w8 ⟨rfl,M,hM,m1,m2⟩
        have HM8:=Lh hM
        have HM1:=Lh m1
        have HM2:=Lh m2
        clear hM m1 m2
        rcases Classical.em (md < en ∧ en < b) with ⟨z1,z2⟩ | z0
        ·have z1' : (md : Int) < (en : Int):=by omega
         have z2' : (en : Int) < (b : Int):=by omega
         go_wp2_with fail
         all_goals
          refine (HRIGHT.out _ M (by have:=HM2.out.1; rw [List.length_append] at this; exact this) z1 z2 HM8.out).mono ?_
          rintro e w9 ⟨rfl,K,hK,k1,k2⟩
          go_wp2
          go_end0
          obtain ⟨j1,j2⟩:=HALL.out M K HM1.out HM2.out k1 k2
          exact ⟨rfl,M ++ K,by rw [← List.append_assoc]; exact hK,j1,j2⟩
        ·have HZ:=Lh z0
         by_cases z1 : md < en
         ·have z1' : (md : Int) < (en : Int):=by omega
          have z2' : ¬ (en : Int) < (b : Int):=by omega
          clear z0
          go_wp2
          all_goals
           go_end0
           obtain ⟨j1,j2⟩:=HALL.out M (U2 ++ V2) HM1.out HM2.out (W3.out HZ.out) (Fl.refl _)
           refine ⟨rfl,M ++ (U2 ++ V2),?_,j1,j2⟩
           have h:=HM8.out
           simpa only [List.append_assoc] using h
         ·have z1' : ¬ (md : Int) < (en : Int):=by omega
          clear z0
          go_wp2
          all_goals
           go_end0
           obtain ⟨j1,j2⟩:=HALL.out M (U2 ++ V2) HM1.out HM2.out (W3.out HZ.out) (Fl.refl _)
           refine ⟨rfl,M ++ (U2 ++ V2),?_,j1,j2⟩
           have h:=HM8.out
           simpa only [List.append_assoc] using h
       ·have HY0:=Lh y0
        have HM8 : Hid (SWE w0 g (P ++ (U1 ++ V1) ++ U2 ++ V2 ++ R) wr):=Lh (by have h:=H7.out; simpa only [List.append_assoc] using h)
        by_cases y1 : a < i
        ·have y1' : (a : Int) < (i : Int):=by omega
         have y2' : ¬ (i : Int) < (md : Int):=by omega
         clear y0
         rcases Classical.em (md < en ∧ en < b) with ⟨z1,z2⟩ | z0
         ·have z1' : (md : Int) < (en : Int):=by omega
          have z2' : (en : Int) < (b : Int):=by omega
          go_wp2_with fail
          all_goals
           refine (HRIGHT.out _ (U1 ++ V1) (List.length_append) z1 z2 HM8.out).mono ?_
           rintro e w9 ⟨rfl,K,hK,k1,k2⟩
           go_wp2
           go_end0
           obtain ⟨j1,j2⟩:=HALL.out (U1 ++ V1) K (W2.out HY0.out) (Fl.refl _) k1 k2
           exact ⟨rfl,(U1 ++ V1) ++ K,by rw [← List.append_assoc]; exact hK,j1,j2⟩
         ·have HZ:=Lh z0
          by_cases z1 : md < en
          ·have z1' : (md : Int) < (en : Int):=by omega
           have z2' : ¬ (en : Int) < (b : Int):=by omega
           clear z0
           go_wp2
           all_goals
            go_end0
            obtain ⟨j1,j2⟩:=HALL.out (U1 ++ V1) (U2 ++ V2) (W2.out HY0.out) (Fl.refl _) (W3.out HZ.out) (Fl.refl _)
            refine ⟨rfl,(U1 ++ V1) ++ (U2 ++ V2),?_,j1,j2⟩
            have h:=HM8.out
            simpa only [List.append_assoc] using h
          ·have z1' : ¬ (md : Int) < (en : Int):=by omega
           clear z0
           go_wp2
           all_goals
            go_end0
            obtain ⟨j1,j2⟩:=HALL.out (U1 ++ V1) (U2 ++ V2) (W2.out HY0.out) (Fl.refl _) (W3.out HZ.out) (Fl.refl _)
            refine ⟨rfl,(U1 ++ V1) ++ (U2 ++ V2),?_,j1,j2⟩
            have h:=HM8.out
            simpa only [List.append_assoc] using h
        ·have y1' : ¬ (a : Int) < (i : Int):=by omega
         clear y0
         rcases Classical.em (md < en ∧ en < b) with ⟨z1,z2⟩ | z0
         ·have z1' : (md : Int) < (en : Int):=by omega
          have z2' : (en : Int) < (b : Int):=by omega
          go_wp2_with fail
          all_goals
           refine (HRIGHT.out _ (U1 ++ V1) (List.length_append) z1 z2 HM8.out).mono ?_
           rintro e w9 ⟨rfl,K,hK,k1,k2⟩
           go_wp2
           go_end0
           obtain ⟨j1,j2⟩:=HALL.out (U1 ++ V1) K (W2.out HY0.out) (Fl.refl _) k1 k2
           exact ⟨rfl,(U1 ++ V1) ++ K,by rw [← List.append_assoc]; exact hK,j1,j2⟩
         ·have HZ:=Lh z0
          by_cases z1 : md < en
          ·have z1' : (md : Int) < (en : Int):=by omega
           have z2' : ¬ (en : Int) < (b : Int):=by omega
           clear z0
           go_wp2
           all_goals
            go_end0
            obtain ⟨j1,j2⟩:=HALL.out (U1 ++ V1) (U2 ++ V2) (W2.out HY0.out) (Fl.refl _) (W3.out HZ.out) (Fl.refl _)
            refine ⟨rfl,(U1 ++ V1) ++ (U2 ++ V2),?_,j1,j2⟩
            have h:=HM8.out
            simpa only [List.append_assoc] using h
          ·have z1' : ¬ (md : Int) < (en : Int):=by omega
           clear z0
           go_wp2
           all_goals
            go_end0
            obtain ⟨j1,j2⟩:=HALL.out (U1 ++ V1) (U2 ++ V2) (W2.out HY0.out) (Fl.refl _) (W3.out HZ.out) (Fl.refl _)
            refine ⟨rfl,(U1 ++ V1) ++ (U2 ++ V2),?_,j1,j2⟩
            have h:=HM8.out
            simpa only [List.append_assoc] using h
      ·have x1' : ¬ (i : Int) < (m : Int):=by omega
       clear x0
       rcases Classical.em (a < i ∧ i < md) with ⟨y1,y2⟩ | y0
       ·have y1' : (a : Int) < (i : Int):=by omega
        have y2' : (i : Int) < (md : Int):=by omega
        go_wp2_with fail
        refine (HLEFT.out _ y1 y2 H7.out).mono ?_
        rintro e w8 ⟨rfl,M,hM,m1,m2⟩
        have HM8:=Lh hM
        have HM1:=Lh m1
        have HM2:=Lh m2
        clear hM m1 m2
        rcases Classical.em (md < en ∧ en < b) with ⟨z1,z2⟩ | z0
        ·have z1' : (md : Int) < (en : Int):=by omega
         have z2' : (en : Int) < (b : Int):=by omega
         go_wp2_with fail
         all_goals
          refine (HRIGHT.out _ M (by have:=HM2.out.1; rw [List.length_append] at this; exact this) z1 z2 HM8.out).mono ?_
          rintro e w9 ⟨rfl,K,hK,k1,k2⟩
          go_wp2
          go_end0
          obtain ⟨j1,j2⟩:=HALL.out M K HM1.out HM2.out k1 k2
          exact ⟨rfl,M ++ K,by rw [← List.append_assoc]; exact hK,j1,j2⟩
        ·have HZ:=Lh z0
         by_cases z1 : md < en
         ·have z1' : (md : Int) < (en : Int):=by omega
          have z2' : ¬ (en : Int) < (b : Int):=by omega
          clear z0
          go_wp2
          all_goals
           go_end0
           obtain ⟨j1,j2⟩:=HALL.out M (U2 ++ V2) HM1.out HM2.out (W3.out HZ.out) (Fl.refl _)
           refine ⟨rfl,M ++ (U2 ++ V2),?_,j1,j2⟩
           have h:=HM8.out
           simpa only [List.append_assoc] using h
         ·have z1' : ¬ (md : Int) < (en : Int):=by omega
          clear z0
          go_wp2
          all_goals
           go_end0
           obtain ⟨j1,j2⟩:=HALL.out M (U2 ++ V2) HM1.out HM2.out (W3.out HZ.out) (Fl.refl _)
           refine ⟨rfl,M ++ (U2 ++ V2),?_,j1,j2⟩
           have h:=HM8.out
           simpa only [List.append_assoc] using h
       ·have HY0:=Lh y0
        have HM8 : Hid (SWE w0 g (P ++ (U1 ++ V1) ++ U2 ++ V2 ++ R) wr):=Lh (by have h:=H7.out; simpa only [List.append_assoc] using h)
        by_cases y1 : a < i
        ·have y1' : (a : Int) < (i : Int):=by omega
         have y2' : ¬ (i : Int) < (md : Int):=by omega
         clear y0
         rcases Classical.em (md < en ∧ en < b) with ⟨z1,z2⟩ | z0
         ·have z1' : (md : Int) < (en : Int):=by omega
          have z2' : (en : Int) < (b : Int):=by omega
          go_wp2_with fail
          all_goals
           refine (HRIGHT.out _ (U1 ++ V1) (List.length_append) z1 z2 HM8.out).mono ?_
           rintro e w9 ⟨rfl,K,hK,k1,k2⟩
           go_wp2
           go_end0
           obtain ⟨j1,j2⟩:=HALL.out (U1 ++ V1) K (W2.out HY0.out) (Fl.refl _) k1 k2
           exact ⟨rfl,(U1 ++ V1) ++ K,by rw [← List.append_assoc]; exact hK,j1,j2⟩
         ·have HZ:=Lh z0
          by_cases z1 : md < en
          ·have z1' : (md : Int) < (en : Int):=by omega
           have z2' : ¬ (en : Int) < (b : Int):=by omega
           clear z0
           go_wp2
           all_goals
            go_end0
            obtain ⟨j1,j2⟩:=HALL.out (U1 ++ V1) (U2 ++ V2) (W2.out HY0.out) (Fl.refl _) (W3.out HZ.out) (Fl.refl _)
            refine ⟨rfl,(U1 ++ V1) ++ (U2 ++ V2),?_,j1,j2⟩
            have h:=HM8.out
            simpa only [List.append_assoc] using h
          ·have z1' : ¬ (md : Int) < (en : Int):=by omega
           clear z0
           go_wp2
           all_goals
            go_end0
            obtain ⟨j1,j2⟩:=HALL.out (U1 ++ V1) (U2 ++ V2) (W2.out HY0.out) (Fl.refl _) (W3.out HZ.out) (Fl.refl _)
            refine ⟨rfl,(U1 ++ V1) ++ (U2 ++ V2),?_,j1,j2⟩
            have h:=HM8.out
            simpa only [List.append_assoc] using h
        ·have y1' : ¬ (a : Int) < (i : Int):=by omega
         clear y0
         rcases Classical.em (md < en ∧ en < b) with ⟨z1,z2⟩ | z0
         ·have z1' : (md : Int) < (en : Int):=by omega
          have z2' : (en : Int) < (b : Int):=by omega
          go_wp2_with fail
          all_goals
           refine (HRIGHT.out _ (U1 ++ V1) (List.length_append) z1 z2 HM8.out).mono ?_
           rintro e w9 ⟨rfl,K,hK,k1,k2⟩
           go_wp2
           go_end0
           obtain ⟨j1,j2⟩:=HALL.out (U1 ++ V1) K (W2.out HY0.out) (Fl.refl _) k1 k2
           exact ⟨rfl,(U1 ++ V1) ++ K,by rw [← List.append_assoc]; exact hK,j1,j2⟩
         ·have HZ:=Lh z0
          by_cases z1 : md < en
          ·have z1' : (md : Int) < (en : Int):=by omega
           have z2' : ¬ (en : Int) < (b : Int):=by omega
           clear z0
           go_wp2
           all_goals
            go_end0
            obtain ⟨j1,j2⟩:=HALL.out (U1 ++ V1) (U2 ++ V2) (W2.out HY0.out) (Fl.refl _) (W3.out HZ.out) (Fl.refl _)
            refine ⟨rfl,(U1 ++ V1) ++ (U2 ++ V2),?_,j1,j2⟩
            have h:=HM8.out
            simpa only [List.append_assoc] using h
          ·have z1' : ¬ (md : Int) < (en : Int):=by omega
           clear z0
           go_wp2
           all_goals
            go_end0
            obtain ⟨j1,j2⟩:=HALL.out (U1 ++ V1) (U2 ++ V2) (W2.out HY0.out) (Fl.refl _) (W3.out HZ.out) (Fl.refl _)
            refine ⟨rfl,(U1 ++ V1) ++ (U2 ++ V2),?_,j1,j2⟩
            have h:=HM8.out
            simpa only [List.append_assoc] using h
end Go.Proofs.YtkjhlgnpohamnaaGreatDoor.Mk
