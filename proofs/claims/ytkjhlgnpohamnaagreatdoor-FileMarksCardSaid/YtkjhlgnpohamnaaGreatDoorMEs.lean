import Derived.Test.YtkjhlgnpohamnaaGreatDoorSq
import Derived.Test.YtkjhlgnpohamnaaGreatDoorMEr
set_option maxHeartbeats 3200000
namespace Go.Proofs.YtkjhlgnpohamnaaGreatDoor
set_option linter.unusedVariables false
set_option linter.unusedSimpArgs false
open Go.RowKit
theorem must_one (R : Rw) (p : Nat) (s : ByteArray) (l : List UInt8) (hs : s.toList = l) : mustP R p [s] = if R.is p l = true then (p + 1,0) else (p,11):=by
 unfold mustP mustP
 rw [hs]
theorem must_two (R : Rw) (p : Nat) (s t : ByteArray) (l k : List UInt8) (hs : s.toList = l) (ht : t.toList = k) : mustP R p [s,t] = if R.is p l = true then (if R.is (p + 1) k = true then (p + 2,0) else (p + 1,11)) else (p,11):=by
 unfold mustP
 rw [must_one R (p + 1) t k ht,hs]
theorem tl44 : (⟨#[44]⟩ : ByteArray).toList = [44]:=by rw [ByteArray.toList_eq]
theorem tl64 : (⟨#[64]⟩ : ByteArray).toList = [64]:=by rw [ByteArray.toList_eq]
theorem tl41 : (⟨#[41]⟩ : ByteArray).toList = [41]:=by rw [ByteArray.toList_eq]
theorem tl46 : (⟨#[46]⟩ : ByteArray).toList = [46]:=by rw [ByteArray.toList_eq]
abbrev comAt : List ByteArray:=[⟨#[44]⟩,⟨#[64]⟩]
theorem rd_op {R : Rw} {f a d : Nat} {g W : Gt} (hg : rd R f .gr (a + 1) d = g) (hW : wiG R g comAt = W) : rd R (f + 1) .op a d =
  if W.r = 0 then (if R.idn W.p = true then (if R.is (W.p + 1) [41] = true then hld (eOpen (R.ps a) (R.wd W.p) W.e) (W.p + 2) a else bad (W.p + 1) 11) else bad W.p 11) else bad W.p W.r:=by
 simp only [rd]
 rw [hg,← hW]
 unfold wiG
 by_cases h0 : g.r = 0
 ·rw [if_pos h0,if_pos h0,must_two R g.p _ _ _ _ tl44 tl64]
  by_cases h1 : R.is g.p [44] = true
  ·rw [if_pos h1,if_pos h1]
   by_cases h2 : R.is (g.p + 1) [64] = true
   ·rw [if_pos h2,if_pos h2]
    rfl
   ·rw [if_neg h2,if_neg h2]
    rfl
  ·rw [if_neg h1,if_neg h1]
   rfl
 ·rw [if_neg h0,if_neg h0,if_neg (show ¬ (bad g.p g.r).r = 0 from h0)]
  rfl
theorem wi_in {R : Rw} (hR : R.Ok) {g : Gt} (hg : g.p ≤ R.n) : ∀ (ss : List ByteArray),(∀ s ∈ ss,s.size ≠ 0) → g.p ≤ (wiG R g ss).p ∧ (wiG R g ss).p ≤ R.n ∧ ((wiG R g ss).r = 0 → g.r = 0 ∧ (wiG R g ss).e = g.e):=by
 intro ss hss
 have hm : ∀ (ss : List ByteArray) (p : Nat),(∀ s ∈ ss,s.size ≠ 0) → p ≤ R.n → p ≤ (mustP R p ss).1 ∧ (mustP R p ss).1 ≤ R.n:=by
  intro ss
  induction ss with
  | nil => intro p _ hp; exact ⟨Nat.le_refl _,hp⟩
  | cons s ss ih =>
   intro p hs hp
   unfold mustP
   by_cases h1 : R.is p s.toList = true
   ·rw [if_pos h1]
    obtain ⟨c,l,hl⟩ : ∃ c l,s.toList = c :: l:=by
     cases hh : s.toList with
     | nil => have:=toList_ne (hs s (by simp)); rw [hh] at this; cases this
     | cons c l => exact ⟨c,l,rfl⟩
    rw [hl] at h1
    have:=ih (p + 1) (fun t ht => hs t (by simp [ht])) (hR.is_lt h1)
    exact ⟨by omega,this.2⟩
   ·rw [if_neg h1]; exact ⟨Nat.le_refl _,hp⟩
 have h2:=hm ss g.p hss hg
 unfold wiG
 by_cases h0 : g.r = 0
 ·rw [if_pos h0]
  split
  ·exact ⟨h2.1,h2.2,fun _ => ⟨h0,rfl⟩⟩
  ·rename_i h3
   exact ⟨h2.1,h2.2,fun h => absurd h h3⟩
 ·rw [if_neg h0]
  exact ⟨Nat.le_refl _,hg,fun h => absurd h h0⟩
set_option maxRecDepth 10000 in
theorem open_step (C : Cx) (hC : TokOk C.T C.L) (f : Nat) (hW : WiC C f) : OpC C (f + 1):=by
 intro d p w hd h hplt hf
 have hz:=zeroEx'
 have hlt:=h.lt
 have hle:=h.le
 have hln:=hC.len
 have HC0:=Lh (h.under (entry_below w)).drew
 have HE:=Lh (entry_slot w).drew
 have HES:=Lh (show ((w.alloc (.cells z6 77)).drew).heap.size = w.heap.size + 1 from entry_size w)
 have HEB:=Lh ((entry_below w).trans (below_drew _ _))
 have HPO : Hid (∀ W,Cur C W p → CP 32 #[C.ptr] W fun e w' => e = .returned (.int .i64 (C.R.ps p)) ∧ Below W.heap.size W w'):=Lh fun W h2 => pos_any C hC p W h2
 have c0:=HC0.out.pl
 obtain ⟨W0,hW0⟩ : ∃ W0,w.alloc (.cells z6 77) = W0:=⟨_,rfl⟩
 have HW:=Lh hW0
 rw [hW0] at HC0 HE HES HEB c0
 clear h hW0
 obtain ⟨g,hg⟩ : ∃ g,rd C.R f .gr (p + 1) d = g:=⟨_,rfl⟩
 obtain ⟨V,hV⟩ : ∃ V,wiG C.R g comAt = V:=⟨_,rfl⟩
 have hin:=rd_in (row_ok C.T C.L) f .gr (p + 1) d hplt (fun h => by cases h)
 have hfi:=rd_fine (row_ok C.T C.L) hC.len f .gr (p + 1) d hplt (fun h => by cases h) trivial
 have HRD:=Lh (rd_op hg hV)
 rw [hg] at hin hfi
 have hcom : ∀ s ∈ comAt,s.size ≠ 0:=by
  intro s hs
  simp [comAt] at hs
  rcases hs with rfl | rfl <;> decide
 have hwi:=wi_in (row_ok C.T C.L) hin.2.1 comAt hcom
 rw [hV] at hwi
 have hVn : V.p ≤ C.L.length:=hwi.2.1
 have hVf : V.r = 0 → Fine V.e ∧ V.e.cnt + (p + 1) ≤ V.p:=fun h0 => by
  obtain ⟨h1,h2⟩:=hwi.2.2 h0
  have h3:=hfi h1
  rw [h2]
  exact ⟨h3.1,by have:=h3.2; have:=hwi.1; omega⟩
 have HVF:=Lh hVf
 have HWC : Hid (∀ W G,W.heap.size = G → Cur C W (p + 1) → CP 166 #[C.ptr,.int .i64 (d : Int),.slice (some ⟨G,0,none⟩) 2 2] (W.alloc (.cells #[.string ⟨#[44]⟩,.string ⟨#[64]⟩] 9)) (RdTo C (W.alloc (.cells #[.string ⟨#[44]⟩,.string ⟨#[64]⟩] 9)) V)):=Lh fun W G hG hc => by
  subst hG
  have h1:=hW d (p + 1) (W.alloc (.cells #[.string ⟨#[44]⟩,.string ⟨#[64]⟩] 9)) comAt (some ⟨W.heap.size,0,none⟩) 2 2 hd (hc.under bAl) (by omega) hcom (by
   have:=Sh.lit W [.string ⟨#[44]⟩,.string ⟨#[64]⟩] 9
   simpa using this) (by omega) (fun b off e => by cases e; have:=hc.lt; omega)
  rw [hg,hV] at h1
  exact h1
 have HID : Hid (∀ W,Cur C W V.p → CP 93 #[C.ptr] W (IdTo C V.p W)):=Lh fun W hc => identC_any C hC V.p W hc
 have HTK : Hid (∀ W,Cur C W (V.p + 1) → CP 119 #[C.ptr,.string ⟨#[41]⟩] W (TakeTo C (V.p + 1) (C.R.is (V.p + 1) [41]) W)):=Lh fun W hc => by
  have:=takeL C hC (V.p + 1) W hc ⟨#[41]⟩ (by decide)
  rwa [tl41] at this
 clear hW hg hV hin hfi hwi hVf hcom
 go_enter Tryz.func167,Tryz.ntmps167
 go_wp2_with fail
 rw [HW.out]
 go_region_held3 (fun w' => w'.cell? ⟨C.g,2,none⟩ = some (.int .i64 (p : Int))) (((try dsimp only); first | assumption | go_keep)) (first
  | (go_at_call 32; refine (HPO.out _ HC0.out).mono ?_; rintro e w2 ⟨rfl,b2⟩; have HC2:=Lh (HC0.out.under b2); have B2:=Lh b2; have c2:=HC2.out.pl; clear b2)
  | fail)
 have hfr2 : w.grownBy w2 (some C.g):=gb_trans (below_fr HEB.out _) (below_fr B2.out _)
 have hsl2 : Slot w2 w.heap.size Ex.nul (.slice none 0 0):=HE.out.below B2.out (by have:=HES.out; show w.heap.size < W0.drew.heap.size; omega)
 have hsz2 : w.heap.size + 1 ≤ w2.heap.size:=by have:=HES.out; have:=B2.out.size; omega
 have f2:=HC2.out.fz
 have hm:=HC2.out.move (q:=p + 1) hplt
 have J1:=Lh (gb_trans hfr2 hm.2)
 have J2:=Lh (hsl2.grown hm.2 (by intro e; injection e; omega))
 have J3:=Lh hm.1
 have J4:=Lh (show (w2.setCell ⟨C.g,2,none⟩ (.int .i64 ((p + 1 : Nat) : Int))).heap.size = w2.heap.size by simp)
 have hw1 : IntKind.i64.wrap ((p : Int) + 1) = ((p + 1 : Nat) : Int):=by rw [IntWalk.i64_in _ (by omega)]; omega
 clear hfr2 hsl2 hm c0 HC0 HE HES HEB HW B2 HPO
 by_cases hr : V.r = 0
 ·have hr2' : (V.r == 0) = true:=by simp [hr]
  have hr2'' : decide (V.r = 0) = true:=by simp [hr]
  cases hid : C.R.idn V.p with
  | false =>
   have HX2 : Hid (rd C.R (f + 1) .op p d = bad V.p 11):=Lh (by rw [HRD.out,if_pos hr,if_neg (by rw [hid]; decide)])
   go_wp2_with (first
    | (go_at_call 166; refine (HWC.out _ _ J4.out J3.out).mono ?_; rintro e w4 ⟨lv,rfl,hx4,hg4,hc4⟩; have hone4:=hx4.one; have HX4:=Lh hx4; have HG4:=Lh hg4; have HC4:=Lh hc4; have hs4:=hg4.size; have hs4' : w2.heap.size + 1 ≤ w4.heap.size:=(by have:=J4.out; simp at hs4; omega); clear hx4 hg4 hc4 hs4; dsimp only [exV])
    | (refine wpList_stx rfl (.tmp 8) (.tmp 30) rfl w4.heap.size rfl (entry_slot w4) (e:=V.e) (lv:=lv) rfl hone4 ?_; intro w5 hg5 hs5; have HG5:=Lh hg5; have HS5:=Lh hs5; have hz5:=hg5.size; rw [entry_size] at hz5; have HF5:=Lh (show w.grownBy w5 (some C.g) from fr_new (gb_trans (gb_trans (gb_trans J1.out (below_fr bAl _)) HG4.out) (below_fr (entry_below w4) _)) hg5 (by omega)); have HC5:=Lh (show Cur C w5 V.p from (HC4.out.under (entry_below w4)).grown hg5 (by intro k e; cases e; omega)); have HE5:=Lh (show Slot w5 w.heap.size Ex.nul (.slice none 0 0) from ((((J2.out.below bAl (by rw [J4.out]; omega)).grown HG4.out (by intro e; injection e; omega)).below (entry_below w4) (by omega)).grown hg5 (by intro e; injection e; omega))); have HX5:=Lh (show Shx w5 (fun b => w.heap.size < b) lv V.e.l from ((((HX4.out.weak (S':=fun b => w.heap.size < b ∧ b < w4.heap.size) (by intro b h1 h2; simp at h1; omega)).under (entry_below w4) (by intro b _ hb; exact hb)).grown hg5 (by intro b hb _ e; injection e with e; omega)).weak (by intro b hb _; exact hb.1))); clear hg5 hs5)
    | (go_at_call 93; refine (HID.out _ HC5.out).mono ?_; rintro e w6 ⟨rfl,hc6,hg6⟩; have HC6:=Lh (show Cur C w6 V.p from (by simpa [hid] using hc6)); have HG6:=Lh hg6; have hs6:=hg6.size; clear hc6 hg6; rw [hid]; dsimp only)
    | (refine wpList_stx rfl (.tmp 4) (.tmp 48) rfl w.heap.size rfl (HE5.out.grown HG6.out (by intro e; injection e; omega)) (e:=Ex.nul) (lv:=.slice none 0 0) rfl rfl ?_; intro w8 hg8 hs8; have HG8:=Lh hg8; have HS8:=Lh hs8; clear hg8 hs8)
    | fail)
   rw [HX2.out]
   refine ex_done rfl rfl rfl rfl HS8.out ⟨.slice none 0 0,rfl,.nil,?_,?_⟩
   ·exact fr_new (gb_trans HF5.out HG6.out) HG8.out nLe
   ·exact HC6.out.grown HG8.out (fun k e => by cases e; omega)
  | true =>
   cases htk : C.R.is (V.p + 1) [41] with
   | false =>
    have HX2 : Hid (rd C.R (f + 1) .op p d = bad (V.p + 1) 11):=Lh (by rw [HRD.out,if_pos hr,if_pos hid,if_neg (by rw [htk]; decide)])
    go_wp2_with (first
     | (go_at_call 166; refine (HWC.out _ _ J4.out J3.out).mono ?_; rintro e w4 ⟨lv,rfl,hx4,hg4,hc4⟩; have hone4:=hx4.one; have HX4:=Lh hx4; have HG4:=Lh hg4; have HC4:=Lh hc4; have hs4:=hg4.size; have hs4' : w2.heap.size + 1 ≤ w4.heap.size:=(by have:=J4.out; simp at hs4; omega); clear hx4 hg4 hc4 hs4; dsimp only [exV])
     | (refine wpList_stx rfl (.tmp 8) (.tmp 30) rfl w4.heap.size rfl (entry_slot w4) (e:=V.e) (lv:=lv) rfl hone4 ?_; intro w5 hg5 hs5; have HG5:=Lh hg5; have HS5:=Lh hs5; have hz5:=hg5.size; rw [entry_size] at hz5; have HF5:=Lh (show w.grownBy w5 (some C.g) from fr_new (gb_trans (gb_trans (gb_trans J1.out (below_fr bAl _)) HG4.out) (below_fr (entry_below w4) _)) hg5 (by omega)); have HC5:=Lh (show Cur C w5 V.p from (HC4.out.under (entry_below w4)).grown hg5 (by intro k e; cases e; omega)); have HE5:=Lh (show Slot w5 w.heap.size Ex.nul (.slice none 0 0) from ((((J2.out.below bAl (by rw [J4.out]; omega)).grown HG4.out (by intro e; injection e; omega)).below (entry_below w4) (by omega)).grown hg5 (by intro e; injection e; omega))); have HX5:=Lh (show Shx w5 (fun b => w.heap.size < b) lv V.e.l from ((((HX4.out.weak (S':=fun b => w.heap.size < b ∧ b < w4.heap.size) (by intro b h1 h2; simp at h1; omega)).under (entry_below w4) (by intro b _ hb; exact hb)).grown hg5 (by intro b hb _ e; injection e with e; omega)).weak (by intro b hb _; exact hb.1))); clear hg5 hs5)
     | (go_at_call 93; refine (HID.out _ HC5.out).mono ?_; rintro e w6 ⟨rfl,hc6,hg6⟩; have HC6:=Lh (show Cur C w6 (V.p + 1) from (by simpa [hid] using hc6)); have HG6:=Lh hg6; have hs6:=hg6.size; clear hc6 hg6; rw [hid]; dsimp only)
     | (go_at_call 119; refine (HTK.out _ HC6.out).mono ?_; rintro e w7 ⟨rfl,hc7,hg7,_⟩; have HC7:=Lh (show Cur C w7 (V.p + 1) from (by simpa [htk] using hc7)); have HG7:=Lh hg7; have hs7:=hg7.size; clear hc7 hg7; rw [htk]; dsimp only)
     | (refine wpList_stx rfl (.tmp 4) (.tmp 48) rfl w.heap.size rfl ((HE5.out.grown HG6.out (by intro e; injection e; omega)).grown HG7.out (by intro e; injection e; omega)) (e:=Ex.nul) (lv:=.slice none 0 0) rfl rfl ?_; intro w8 hg8 hs8; have HG8:=Lh hg8; have HS8:=Lh hs8; clear hg8 hs8)
     | fail)
    rw [HX2.out]
    refine ex_done rfl rfl rfl rfl HS8.out ⟨.slice none 0 0,rfl,.nil,?_,?_⟩
    ·exact fr_new (gb_trans (gb_trans HF5.out HG6.out) HG7.out) HG8.out nLe
    ·exact HC7.out.grown HG8.out (fun k e => by cases e; omega)
   | true =>
    have hfg:=HVF.out hr
    have hVp2 : V.p + 2 ≤ C.L.length:=(row_ok C.T C.L).is_lt htk
    have hcnt : (eOpen (C.R.ps p) (C.R.wd V.p) V.e).cnt ≤ 1000000:=by rw [open_cnt]; have:=hfg.2; omega
    obtain ⟨G2,hG2⟩ : ∃ G2,hld (eOpen (C.R.ps p) (C.R.wd V.p) V.e) (V.p + 2) p = G2:=⟨_,rfl⟩
    have HPU : Hid (∀ W lv (S : Nat → Prop),Cur C W (V.p + 2) → Shx W S lv (eOpen (C.R.ps p) (C.R.wd V.p) V.e).l → (∀ b,S b → b ≠ C.g) → CP 140 #[C.ptr,.int .i64 (p : Int),exV (eOpen (C.R.ps p) (C.R.wd V.p) V.e) lv] W (PutTo C S W G2)):=Lh fun W lv S h1 h2 h3 => by
     have:=put_any C hC (V.p + 2) p W h1 hle (eOpen (C.R.ps p) (C.R.wd V.p) V.e) lv S (open_wfx hfg.1) hcnt h2 h3
     rwa [hG2] at this
    have HX2 : Hid (rd C.R (f + 1) .op p d = G2):=Lh (by rw [HRD.out,if_pos hr,if_pos hid,if_pos htk,hG2])
    clear hfg hG2
    go_wp2_with (first
     | (go_at_call 166; refine (HWC.out _ _ J4.out J3.out).mono ?_; rintro e w4 ⟨lv,rfl,hx4,hg4,hc4⟩; have hone4:=hx4.one; have HX4:=Lh hx4; have HG4:=Lh hg4; have HC4:=Lh hc4; have hs4:=hg4.size; have hs4' : w2.heap.size + 1 ≤ w4.heap.size:=(by have:=J4.out; simp at hs4; omega); clear hx4 hg4 hc4 hs4; dsimp only [exV])
     | (refine wpList_stx rfl (.tmp 8) (.tmp 30) rfl w4.heap.size rfl (entry_slot w4) (e:=V.e) (lv:=lv) rfl hone4 ?_; intro w5 hg5 hs5; have HG5:=Lh hg5; have HS5:=Lh hs5; have hz5:=hg5.size; rw [entry_size] at hz5; have HF5:=Lh (show w.grownBy w5 (some C.g) from fr_new (gb_trans (gb_trans (gb_trans J1.out (below_fr bAl _)) HG4.out) (below_fr (entry_below w4) _)) hg5 (by omega)); have HC5:=Lh (show Cur C w5 V.p from (HC4.out.under (entry_below w4)).grown hg5 (by intro k e; cases e; omega)); have HE5:=Lh (show Slot w5 w.heap.size Ex.nul (.slice none 0 0) from ((((J2.out.below bAl (by rw [J4.out]; omega)).grown HG4.out (by intro e; injection e; omega)).below (entry_below w4) (by omega)).grown hg5 (by intro e; injection e; omega))); have HX5:=Lh (show Shx w5 (fun b => w.heap.size < b) lv V.e.l from ((((HX4.out.weak (S':=fun b => w.heap.size < b ∧ b < w4.heap.size) (by intro b h1 h2; simp at h1; omega)).under (entry_below w4) (by intro b _ hb; exact hb)).grown hg5 (by intro b hb _ e; injection e with e; omega)).weak (by intro b hb _; exact hb.1))); clear hg5 hs5)
     | (go_at_call 93; refine (HID.out _ HC5.out).mono ?_; rintro e w6 ⟨rfl,hc6,hg6⟩; have HC6:=Lh (show Cur C w6 (V.p + 1) from (by simpa [hid] using hc6)); have HG6:=Lh hg6; have hs6:=hg6.size; clear hc6 hg6; rw [hid]; dsimp only)
     | (go_at_call 119; refine (HTK.out _ HC6.out).mono ?_; rintro e w7 ⟨rfl,hc7,hg7,_⟩; have HC7:=Lh (show Cur C w7 (V.p + 2) from (by simpa [htk] using hc7)); have HG7:=Lh hg7; have hs7:=hg7.size; clear hc7 hg7; rw [htk]; dsimp only)
     | (refine wpList_ldx' rfl (.tmp 8) rfl w4.heap.size 0 rfl ((HS5.out.grown HG6.out (by intro e; injection e; omega)).grown HG7.out (by intro e; injection e; omega)).cs ?_)
     | (go_at_call 140; have HXA : Hid (Shx w7 (fun b => w.heap.size < b) lv V.e.l):=Lh ((HX5.out.grown HG6.out (by intro b hb _ e; injection e with e; omega)).grown HG7.out (by intro b hb _ e; injection e with e; omega)); have HLT:=Lh (Shx.lit (w:=w7) (S:=fun b => w.heap.size < b) [(V.e,lv)] (by simp) (by intro p hp; simp at hp; rcases hp with rfl; exact HXA.out) (by omega) (C:=#[.int .i64 V.e.k,.int .i64 V.e.a,.int .i64 V.e.m,.string V.e.nm,.string V.e.lb,lv]) rfl); refine (HPU.out _ _ (fun b => w.heap.size < b) (HC7.out.under bAl) HLT.out (by intro b hb; omega)).mono ?_; rintro e w9 ⟨lv9,rfl,hx9,hg9,hc9⟩; have hone9:=hx9.one; have HX9:=Lh hx9; have HG9:=Lh hg9; have HC9:=Lh hc9; have hs9:=hg9.size; clear hx9 hg9 hc9; dsimp only [exV])
     | (refine wpList_stx rfl (.tmp 4) (.tmp 57) rfl w.heap.size rfl ((((HE5.out.grown HG6.out (by intro e; injection e; omega)).grown HG7.out (by intro e; injection e; omega)).below bAl (by omega)).grown HG9.out (by intro e; injection e; omega)) (e:=G2.e) (lv:=lv9) rfl hone9 ?_; intro w8 hg8 hs8; have HG8:=Lh hg8; have HS8:=Lh hs8; clear hg8 hs8)
     | fail)
    rw [HX2.out]
    refine ex_done rfl rfl rfl rfl HS8.out ⟨lv9,rfl,?_,?_,?_⟩
    ·exact (HX9.out.grown HG8.out (fun b hb _ e => by injection e with e; omega)).weak (fun b hb _ => by omega)
    ·exact fr_new (gb_trans (gb_trans (gb_trans (gb_trans HF5.out HG6.out) HG7.out) (below_fr bAl _)) HG9.out) HG8.out nLe
    ·exact HC9.out.grown HG8.out (fun k e => by cases e; omega)
 ·have hr2' : (V.r == 0) = false:=by simp [hr]
  have hr2'' : decide (V.r = 0) = false:=by simp [hr]
  have HX2 : Hid (rd C.R (f + 1) .op p d = bad V.p V.r):=Lh (by rw [HRD.out,if_neg hr])
  go_wp2_with (first
   | (go_at_call 166; refine (HWC.out _ _ J4.out J3.out).mono ?_; rintro e w4 ⟨lv,rfl,hx4,hg4,hc4⟩; have hone4:=hx4.one; have HX4:=Lh hx4; have HG4:=Lh hg4; have HC4:=Lh hc4; have hs4:=hg4.size; have hs4' : w2.heap.size + 1 ≤ w4.heap.size:=(by have:=J4.out; simp at hs4; omega); clear hx4 hg4 hc4 hs4; dsimp only [exV])
   | (refine wpList_stx rfl (.tmp 8) (.tmp 30) rfl w4.heap.size rfl (entry_slot w4) (e:=V.e) (lv:=lv) rfl hone4 ?_; intro w5 hg5 hs5; have HG5:=Lh hg5; have HS5:=Lh hs5; have hz5:=hg5.size; rw [entry_size] at hz5; have HF5:=Lh (show w.grownBy w5 (some C.g) from fr_new (gb_trans (gb_trans (gb_trans J1.out (below_fr bAl _)) HG4.out) (below_fr (entry_below w4) _)) hg5 (by omega)); have HC5:=Lh (show Cur C w5 V.p from (HC4.out.under (entry_below w4)).grown hg5 (by intro k e; cases e; omega)); have HE5:=Lh (show Slot w5 w.heap.size Ex.nul (.slice none 0 0) from ((((J2.out.below bAl (by rw [J4.out]; omega)).grown HG4.out (by intro e; injection e; omega)).below (entry_below w4) (by omega)).grown hg5 (by intro e; injection e; omega))); have HX5:=Lh (show Shx w5 (fun b => w.heap.size < b) lv V.e.l from ((((HX4.out.weak (S':=fun b => w.heap.size < b ∧ b < w4.heap.size) (by intro b h1 h2; simp at h1; omega)).under (entry_below w4) (by intro b _ hb; exact hb)).grown hg5 (by intro b hb _ e; injection e with e; omega)).weak (by intro b hb _; exact hb.1))); clear hg5 hs5)
   | (refine wpList_stx rfl (.tmp 4) (.tmp 34) rfl w.heap.size rfl HE5.out (e:=Ex.nul) (lv:=.slice none 0 0) rfl rfl ?_; intro w8 hg8 hs8; have HG8:=Lh hg8; have HS8:=Lh hs8; clear hg8 hs8)
   | fail)
  rw [HX2.out]
  refine ex_done rfl rfl rfl rfl HS8.out ⟨.slice none 0 0,rfl,.nil,?_,?_⟩
  ·exact fr_new HF5.out HG8.out nLe
  ·exact HC5.out.grown HG8.out (fun k e => by cases e; omega)
section
variable {P : Program} {ops : Array Oper} {rest : List Oper} {o : Oper} {a : Act} {Q : Exit → Act → World → Prop}
theorem wpList_push_h (hgd : Region.wanted o (yielded ops a.tmps) = true) (s x : Operand) (t : TypeId) (ho : o.op = .call { callee:=.builtin .append,args:=#[s,x],argTypes:=#[t,t] })
  {e : TypeId} {size bytes : Nat} (hT : RowT P t e size bytes) (w : World) (B : Nat) (v : Value) (n : Nat) (xs us : List Value) (hs : a.eval s = v) (hown : Own w B e size v n xs)
  {G : Nat} (hx : a.eval x = .slice (some ⟨G,0,none⟩) 1 1) (hG : G = w.heap.size) (hl : us.length = size) (h1 : ∀ u ∈ us,u.oneCell' = true)
  (hlen : n ≤ 1000000000) (hby : bytes ≤ 128)
  (h : ∀ v' w',Own w' B e size v' (n + 1) (xs ++ us) → (w.alloc (.cells us.toArray e)).grownBy w' v.ownBlock → (v'.ownBlock = v.ownBlock ∨ v'.ownBlock = some (w.heap.size + 1)) → wpList P ops Q rest (a.put o.dst v') w') :
  wpList P ops Q (o :: rest) a (w.alloc (.cells us.toArray e)):=by
 refine wpList_wanted hgd fun K hK => ?_
 subst hG
 obtain ⟨ht,i,z,hi,hz,hsize,hbytes,hzs,hpos⟩:=hT
 have hbb : (n + 1) * bytes ≤ 140737488355328:=Nat.le_trans (Nat.mul_le_mul (show n + 1 ≤ 1000000001 by omega) hby) (by decide)
 obtain ⟨v',w',hr,h2,h3,_,h5⟩:=run_append_own_at (P:=P) (w.alloc (.cells us.toArray e)) B t o.type e i z size bytes ht hi hz hsize hbytes hzs hpos v n xs (hown.1.alloc _) ⟨w.heap.size,0,none⟩ 1 1 us (by simpa using hl)
  (fun j y hj => by
   rw [Addr.add_lit,Nat.zero_add,World.cell?_alloc_at _ _ _ _ rfl]
   simpa using hj) h1 (by unfold maxLen; omega) hbb (by have:=hown.2; simp; omega)
 have hge : B ≤ (w.alloc (.cells us.toArray e)).heap.size:=by have:=hown.2; simp; omega
 unfold Oper.wp execOp
 simp only [ho,resolve,invoke,builtin,Sem.run_bind,Sem.run_pure,Result.andThen_ok,List.map_toArray,List.map_cons,List.map_nil,hs,hx,hr]
 exact hK _ _ (h v' w' ⟨h2,Nat.le_trans hge h3.size⟩ h3 (by simpa using h5))
end
theorem Own.gb {w w' : World} {B n size g : Nat} {e : TypeId} {v : Value} {xs : List Value} (h : Own w B e size v n xs) (hg : w.grownBy w' (some g)) (hB : g < B) : Own w' B e size v n xs:=
 ⟨h.1.kept hg (.inr fun he => by have:=h.block_ge g he; omega),Nat.le_trans h.2 hg.size⟩
theorem Own.newvar {w w' : World} {B n size : Nat} {e : TypeId} {v : Value} {xs : List Value} (h : Own w B e size v n xs) (o : Obj) (hg : (w.alloc o).grownBy w' (some w.heap.size)) : Own w' B e size v n xs:=
 ⟨(h.alloc o).1.kept hg (.inr fun he => by have:=(h.1.lt _ he).2; omega),Nat.le_trans (h.alloc o).2 hg.size⟩
theorem rd_ar_deep {R : Rw} {f a d : Nat} (hd : d = 32) : rd R (f + 1) .ar a d = bad a 12:=by
 simp only [rd]
 rw [if_pos hd]
theorem rd_ar_none {R : Rw} {f a d : Nat} (hd : ¬ d = 32) (h : R.is (a + 1) [41] = true) : rd R (f + 1) .ar a d = good (eList []) (a + 2):=by
 simp only [rd]
 rw [if_neg hd,if_pos h]
theorem rd_ar_yes {R : Rw} {f a d : Nat} (hd : ¬ d = 32) (h : R.is (a + 1) [41] = false) : rd R (f + 1) .ar a d = rd R f (.an []) (a + 1) (d + 1):=by
 simp only [rd]
 rw [if_neg hd,if_neg (by rw [h]; decide)]
theorem rd_an {R : Rw} {f a d : Nat} {acc : List Ex} {g : Gt} (hg : rd R f (.lev 1) a d = g) : rd R (f + 1) (.an acc) a d =
  if g.r = 0 then (if R.is g.p [44] = true then rd R f (.an (acc ++ [g.e])) (g.p + 1) d else if R.is g.p [41] = true then good (eList (acc ++ [g.e])) (g.p + 1) else bad g.p 11) else bad g.p g.r:=by
 simp only [rd]
 rw [hg]
set_option maxRecDepth 10000 in
theorem args_step (C : Cx) (hC : TokOk C.T C.L) (f : Nat) (hB : ∀ f' ≤ f,BinC C f') : ArC C (f + 1):=by
 intro d p w hd h h40 hf
 have hz:=zeroEx'
 have hlt:=h.lt
 have hln:=hC.len
 have hplt : p < C.L.length:=(row_ok C.T C.L).is_lt h40
 have HC0:=Lh h
 have HD:=Lh (deeper_any C hC p d _ HC0.out ⟨#[40]⟩ (by decide) hd)
 rw [deep_40,if_pos h40] at HD
 clear h
 by_cases h32 : d = 32
 ·rw [if_pos h32] at HD
  have HX:=Lh (rd_ar_deep (R:=C.R) (f:=f) (a:=p) h32)
  subst h32
  go_enter Tryz.func178,Tryz.ntmps178
  go_wp2_with (first
   | (go_at_call 153; refine HD.out.mono ?_; rintro e w4 ⟨rfl,hc4,hg4⟩; have HC4:=Lh hc4; have HG4:=Lh hg4; clear hc4 hg4; dsimp only)
   | fail)
  go_ret2
  rw [HX.out]
  exact ⟨_,rfl,(fun h => by cases h),HG4.out,HC4.out⟩
 ·rw [if_neg h32] at HD
  have HTK : Hid (∀ W,Cur C W (p + 1) → CP 119 #[C.ptr,.string ⟨#[41]⟩] W (TakeTo C (p + 1) (C.R.is (p + 1) [41]) W)):=Lh fun W hc => by
   have:=takeL C hC (p + 1) W hc ⟨#[41]⟩ (by decide)
   rwa [tl41] at this
  cases h41 : C.R.is (p + 1) [41] with
  | true =>
   have HX:=Lh (rd_ar_none (f:=f) h32 h41)
   go_enter Tryz.func178,Tryz.ntmps178
   go_wp2_with (first
    | (go_at_call 153; refine HD.out.mono ?_; rintro e w4 ⟨rfl,hc4,hg4⟩; have HC4:=Lh hc4; have HG4:=Lh hg4; clear hc4 hg4; dsimp only)
    | (go_at_call 119; refine (HTK.out _ HC4.out).mono ?_; rintro e w7 ⟨rfl,hc7,hg7,_⟩; have HC7:=Lh (show Cur C w7 (p + 2) from (by simpa [h41] using hc7)); have HG7:=Lh hg7; clear hc7 hg7; rw [h41]; dsimp only)
    | fail)
   go_ret2
   rw [HX.out]
   exact ⟨_,rfl,fun _ => .nil,gb_trans HG4.out HG7.out,HC7.out⟩
  | false =>
   have HX0:=Lh (rd_ar_yes (f:=f) h32 h41)
   obtain ⟨X,hX⟩ : ∃ X,rd C.R (f + 1) .ar p d = X:=⟨_,rfl⟩
   rw [hX] at HX0 ⊢
   have HBB:=Lh hB
   have hw1 : IntKind.i64.wrap ((d : Int) + 1) = ((d + 1 : Nat) : Int):=by rw [IntWalk.i64_in _ (by omega)]; omega
   clear hX hB
   go_enter Tryz.func178,Tryz.ntmps178
   go_wp2_with (first
    | (go_at_call 153; refine HD.out.mono ?_; rintro e w4 ⟨rfl,hc4,hg4⟩; have HC4:=Lh hc4; have HG4:=Lh hg4; clear hc4 hg4; dsimp only)
    | (go_at_call 119; refine (HTK.out _ HC4.out).mono ?_; rintro e w7 ⟨rfl,hc7,hg7,_⟩; have HC7:=Lh (show Cur C w7 (p + 1) from (by simpa [h41] using hc7)); have HG7:=Lh (gb_trans HG4.out hg7); clear hc7 hg7; rw [h41]; dsimp only)
    | fail)
   clear HD HTK HC4 HG4 HC0
   go_loopw [7] (fun lv wr => ∃ (L : List (Ex × Value)) (q f' : Nat),Own wr w.heap.size 77 6 lv L.length (xcs L) ∧ (∀ x ∈ L,Shx wr (fun b => w.heap.size ≤ b ∧ lv.ownBlock ≠ some b) x.2 x.1.l) ∧ L.length ≤ q ∧ Cur C wr q ∧ w.grownBy wr (some C.g) ∧ f' ≤ f ∧ 16 * (C.L.length - q) + 10 ≤ f' ∧ rd C.R f' (.an (L.map (·.1))) q (d + 1) = X) (fun _ wr => C.L.length - placeOf wr C.g)
   case atStart => exact ⟨[],p + 1,f,Own.nil _ _ _ _ HG7.out.size,(fun x hx => by cases hx),Nat.zero_le _,HC7.out,HG7.out,Nat.le_refl _,by omega,HX0.out.symm⟩
   case round =>
    obtain ⟨L,q,f',ho,htr,hLq,hc,hg,hf1,hf2,hrd⟩:=hrel
    have HO:=Lh ho
    have HTR:=Lh htr
    have HC:=Lh hc
    have HG:=Lh hg
    have HRD:=Lh hrd
    have hpl:=placeOf_eq hc
    have hql:=hc.le
    have hwr:=hg.size
    obtain ⟨f'',rfl⟩ : ∃ f'',f' = f'' + 1:=⟨f' - 1,by omega⟩
    obtain ⟨g,hgg⟩ : ∃ g,rd C.R f'' (.lev 1) q (d + 1) = g:=⟨_,rfl⟩
    have hin:=rd_in (row_ok C.T C.L) f'' (.lev 1) q (d + 1) hql (fun h => by cases h)
    have HAN:=Lh (rd_an (acc:=L.map (·.1)) hgg)
    rw [HRD.out] at HAN
    have HBC : Hid (∀ W,Cur C W q → CP 124 #[C.ptr,.int .i64 1,.int .i64 ((d + 1 : Nat) : Int)] W (RdTo C W g)):=Lh fun W hW => by
     have:=HBB.out f'' (by omega) 1 (d + 1) q W (by omega) (by omega) (by omega) hW (by omega)
     rwa [hgg] at this
    rw [hgg] at hin
    have hgp : g.p ≤ C.L.length:=hin.2.1
    have HIN:=Lh hin
    clear ho htr hc hg hrd hgg hin
    by_cases hr : g.r = 0
    ·have hr2' : (g.r == 0) = true:=by simp [hr]
     have hr2'' : decide (g.r = 0) = true:=by simp [hr]
     have hqg : q < g.p:=HIN.out.2.2 hr rfl
     have HT44 : Hid (∀ W,Cur C W g.p → CP 119 #[C.ptr,.string ⟨#[44]⟩] W (TakeTo C g.p (C.R.is g.p [44]) W)):=Lh fun W hc => by
      have:=takeL C hC g.p W hc ⟨#[44]⟩ (by decide)
      rwa [tl44] at this
     cases h44 : C.R.is g.p [44] with
     | true =>
      have h44l : g.p < C.L.length:=(row_ok C.T C.L).is_lt h44
      have HX2 : Hid (rd C.R f'' (.an (L.map (·.1) ++ [g.e])) (g.p + 1) (d + 1) = X):=Lh (by rw [HAN.out,if_pos hr,if_pos h44])
      go_wp2_with (first
       | (go_at_call 124; refine (HBC.out _ HC.out).mono ?_; rintro e w5 ⟨zv,rfl,hx5,hg5,hc5⟩; have hone5:=hx5.one; have HX5:=Lh hx5; have HG5:=Lh hg5; have HC5:=Lh hc5; have hs5:=hg5.size; clear hx5 hg5 hc5; dsimp only [exV])
       | (refine wpList_stx rfl (.tmp 8) (.tmp 23) rfl w5.heap.size rfl (entry_slot w5) (e:=g.e) (lv:=zv) rfl hone5 ?_; intro w6 hg6 hs6; have HG6:=Lh hg6; have HS6:=Lh hs6; have hz6:=hg6.size; rw [entry_size] at hz6; clear hg6 hs6)
       | (refine wpList_ldx' rfl (.tmp 8) rfl w5.heap.size 0 rfl HS6.out.cs ?_)
       | (at_builtin; refine wpList_push_h rfl (.tmp 28) (.tmp 30) 75 rfl rowEx w6 w.heap.size _ L.length (xcs L) (exC g.e zv) rfl ((HO.out.gb HG5.out (by omega)).newvar _ HG6.out) rfl rfl rfl (exC_one g.e hone5) (by omega) (by omega) ?_; intro v7 w7 ho7 hg7 hv7; have HO7:=Lh ho7; have HG7':=Lh hg7; have HV7:=Lh hv7; have hs7:=hg7.size; simp at hs7; clear ho7 hg7 hv7)
       | (go_at_call 119; have HC7 : Hid (Cur C w7 g.p):=Lh (((((HC5.out.under (entry_below w5)).grown HG6.out (by intro k e; cases e; omega)).under bAl).grown HG7'.out (by intro k hk; have:=HO.out.block_ge k hk; omega))); refine (HT44.out _ HC7.out).mono ?_; rintro e w8 ⟨rfl,hc8,hg8,_⟩; have HC8:=Lh (show Cur C w8 (g.p + 1) from (by simpa [h44] using hc8)); have HG8:=Lh hg8; have hs8:=hg8.size; clear hc8 hg8; rw [h44]; dsimp only)
       | fail)
      have hownlt : ∀ k,u7.ownBlock = some k → w.heap.size ≤ k ∧ k < wr.heap.size:=fun k hk => HO.out.1.lt k hk
      have HO8 : Hid (Own w8 w.heap.size 77 6 v7 (L ++ [(g.e,zv)]).length (xcs (L ++ [(g.e,zv)]))):=Lh ((HO7.out.gb HG8.out (by omega)).cast (by simp) (xcs_snoc L (g.e,zv)).symm)
      have hsz7 : w6.heap.size + 1 ≤ w7.heap.size:=by have:=HG7'.out.size; simp at this; omega
      have hold : ∀ (S : Nat → Prop) (zs : Value) (zl : List Ex),Shx w5 (fun b => S b ∧ w.heap.size ≤ b ∧ u7.ownBlock ≠ some b ∧ b < w5.heap.size) zs zl → Shx w8 (fun b => w.heap.size ≤ b ∧ v7.ownBlock ≠ some b) zs zl:=fun S zs zl hh => by
       refine (((((hh.under (entry_below w5) (by intro b _ hb; exact hb)).grown HG6.out (by intro b hb _ e; injection e with e; omega)).under bAl (by intro b _ hb; exact hb)).grown HG7'.out (by intro b hb _ e; exact hb.2.2.1 e.symm)).grown HG8.out (by intro b hb _ e; injection e with e; omega)).weak ?_
       intro b hb _
       refine ⟨hb.2.1,fun e => ?_⟩
       rcases HV7.out with h | h
       ·exact hb.2.2.1 (h ▸ e)
       ·rw [h] at e
        injection e with e
        omega
      have HTR8 : Hid (∀ x ∈ L ++ [(g.e,zv)],Shx w8 (fun b => w.heap.size ≤ b ∧ v7.ownBlock ≠ some b) x.2 x.1.l):=Lh (fun x hx => by
       rcases List.mem_append.1 hx with hx | hx
       ·refine hold (fun _ => True) _ _ ((((HTR.out x hx).weak (S':=fun b => (w.heap.size ≤ b ∧ u7.ownBlock ≠ some b) ∧ b < wr.heap.size) (fun b h1 h2 => ⟨h1,h2⟩)).grown HG5.out (by intro b hb _ e; injection e with e; omega)).weak fun b h1 h2 => ⟨trivial,h1.1.1,h1.1.2,h2⟩)
       ·rw [List.mem_singleton.1 hx]
        exact hold (fun _ => True) _ _ (HX5.out.weak fun b h1 h2 => ⟨trivial,by omega,fun e => by have:=(hownlt b e).2; omega,h2⟩))
      have HF8 : Hid (w.grownBy w8 (some C.g)):=Lh (gb_trans (gb_then (gb_trans (fr_new (gb_trans (gb_trans HG.out HG5.out) (below_fr (entry_below w5) _)) HG6.out (by omega)) (below_fr bAl _)) HG7'.out (fun k hk => .inl (hownlt k hk).1)) HG8.out)
      clear hold hownlt
      have hpl8:=placeOf_eq HC8.out
      go_roundw
      case rel => exact ⟨L ++ [(g.e,zv)],g.p + 1,f'',HO8.out,HTR8.out,by simp; omega,HC8.out,HF8.out,by omega,by omega,by rw [List.map_append]; exact HX2.out⟩
      case measure => rw [hpl8,hpl]; omega
     | false =>
      obtain ⟨M,hM⟩ : ∃ M : Nat × Int,(if C.R.is g.p [41] = true then (g.p + 1,0) else (g.p,11)) = M:=⟨_,rfl⟩
      have HM : Hid (∀ W,Cur C W g.p → CP 169 #[C.ptr,.slice (some ⟨W.heap.size,0,none⟩) 1 1] (W.alloc (.cells #[.string ⟨#[41]⟩] 9)) (MustTo C M (W.alloc (.cells #[.string ⟨#[41]⟩] 9)))):=Lh fun W hc => by
       have h1:=must_any C hC g.p (W.alloc (.cells #[.string ⟨#[41]⟩] 9)) (hc.under bAl) [⟨#[41]⟩] (fun t ht => by rw [List.mem_singleton.1 ht]; decide) (some ⟨W.heap.size,0,none⟩) 1 1 (by
        have:=Sh.lit W [.string ⟨#[41]⟩] 9
        simpa using this) (by omega) (fun b off e => by cases e; have:=hc.lt; omega)
       rwa [must_one C.R g.p _ _ tl41,hM] at h1
      have HX2 : Hid (X.r = M.2 ∧ X.p = M.1 ∧ (X.r = 0 → X.e.l = L.map (·.1) ++ [g.e])):=Lh (by
       have h1:=HAN.out
       rw [if_pos hr,if_neg (by rw [h44]; decide)] at h1
       by_cases h41 : C.R.is g.p [41] = true
       ·rw [if_pos h41] at h1 hM
        rw [h1,← hM]
        exact ⟨rfl,rfl,fun _ => rfl⟩
       ·rw [if_neg h41] at h1 hM
        rw [h1,← hM]
        exact ⟨rfl,rfl,fun h => by cases h⟩)
      clear hM
      go_wp2_with (first
       | (go_at_call 124; refine (HBC.out _ HC.out).mono ?_; rintro e w5 ⟨zv,rfl,hx5,hg5,hc5⟩; have hone5:=hx5.one; have HX5:=Lh hx5; have HG5:=Lh hg5; have HC5:=Lh hc5; have hs5:=hg5.size; clear hx5 hg5 hc5; dsimp only [exV])
       | (refine wpList_stx rfl (.tmp 8) (.tmp 23) rfl w5.heap.size rfl (entry_slot w5) (e:=g.e) (lv:=zv) rfl hone5 ?_; intro w6 hg6 hs6; have HG6:=Lh hg6; have HS6:=Lh hs6; have hz6:=hg6.size; rw [entry_size] at hz6; clear hg6 hs6)
       | (refine wpList_ldx' rfl (.tmp 8) rfl w5.heap.size 0 rfl HS6.out.cs ?_)
       | (at_builtin; refine wpList_push_h rfl (.tmp 28) (.tmp 30) 75 rfl rowEx w6 w.heap.size _ L.length (xcs L) (exC g.e zv) rfl ((HO.out.gb HG5.out (by omega)).newvar _ HG6.out) rfl rfl rfl (exC_one g.e hone5) (by omega) (by omega) ?_; intro v7 w7 ho7 hg7 hv7; have HO7:=Lh ho7; have HG7':=Lh hg7; have HV7:=Lh hv7; have hs7:=hg7.size; simp at hs7; clear ho7 hg7 hv7)
       | (go_at_call 119; have HC7 : Hid (Cur C w7 g.p):=Lh (((((HC5.out.under (entry_below w5)).grown HG6.out (by intro k e; cases e; omega)).under bAl).grown HG7'.out (by intro k hk; have:=HO.out.block_ge k hk; omega))); refine (HT44.out _ HC7.out).mono ?_; rintro e w8 ⟨rfl,hc8,hg8,_⟩; have HC8:=Lh (show Cur C w8 g.p from (by simpa [h44] using hc8)); have HG8:=Lh hg8; have hs8:=hg8.size; clear hc8 hg8; rw [h44]; dsimp only)
       | (go_at_call 169; refine (HM.out _ HC8.out).mono ?_; rintro e w9 ⟨rfl,hc9,hg9⟩; have HC9:=Lh hc9; have HG9:=Lh hg9; clear hc9 hg9; dsimp only)
       | fail)
      have hownlt : ∀ k,u7.ownBlock = some k → w.heap.size ≤ k ∧ k < wr.heap.size:=fun k hk => HO.out.1.lt k hk
      have HO8 : Hid (Own w8 w.heap.size 77 6 v7 (L ++ [(g.e,zv)]).length (xcs (L ++ [(g.e,zv)]))):=Lh ((HO7.out.gb HG8.out (by omega)).cast (by simp) (xcs_snoc L (g.e,zv)).symm)
      have hsz7 : w6.heap.size + 1 ≤ w7.heap.size:=by have:=HG7'.out.size; simp at this; omega
      have hold : ∀ (S : Nat → Prop) (zs : Value) (zl : List Ex),Shx w5 (fun b => S b ∧ w.heap.size ≤ b ∧ u7.ownBlock ≠ some b ∧ b < w5.heap.size) zs zl → Shx w8 (fun b => w.heap.size ≤ b ∧ v7.ownBlock ≠ some b) zs zl:=fun S zs zl hh => by
       refine (((((hh.under (entry_below w5) (by intro b _ hb; exact hb)).grown HG6.out (by intro b hb _ e; injection e with e; omega)).under bAl (by intro b _ hb; exact hb)).grown HG7'.out (by intro b hb _ e; exact hb.2.2.1 e.symm)).grown HG8.out (by intro b hb _ e; injection e with e; omega)).weak ?_
       intro b hb _
       refine ⟨hb.2.1,fun e => ?_⟩
       rcases HV7.out with h | h
       ·exact hb.2.2.1 (h ▸ e)
       ·rw [h] at e
        injection e with e
        omega
      have HTR8 : Hid (∀ x ∈ L ++ [(g.e,zv)],Shx w8 (fun b => w.heap.size ≤ b ∧ v7.ownBlock ≠ some b) x.2 x.1.l):=Lh (fun x hx => by
       rcases List.mem_append.1 hx with hx | hx
       ·refine hold (fun _ => True) _ _ ((((HTR.out x hx).weak (S':=fun b => (w.heap.size ≤ b ∧ u7.ownBlock ≠ some b) ∧ b < wr.heap.size) (fun b h1 h2 => ⟨h1,h2⟩)).grown HG5.out (by intro b hb _ e; injection e with e; omega)).weak fun b h1 h2 => ⟨trivial,h1.1.1,h1.1.2,h2⟩)
       ·rw [List.mem_singleton.1 hx]
        exact hold (fun _ => True) _ _ (HX5.out.weak fun b h1 h2 => ⟨trivial,by omega,fun e => by have:=(hownlt b e).2; omega,h2⟩))
      have HF8 : Hid (w.grownBy w8 (some C.g)):=Lh (gb_trans (gb_then (gb_trans (fr_new (gb_trans (gb_trans HG.out HG5.out) (below_fr (entry_below w5) _)) HG6.out (by omega)) (below_fr bAl _)) HG7'.out (fun k hk => .inl (hownlt k hk).1)) HG8.out)
      go_ret2
      refine ⟨v7,by rw [HX2.out.1]; rfl,fun h0 => ?_,gb_trans (gb_trans HF8.out (below_fr bAl _)) HG9.out,by rw [HX2.out.2.1]; exact HC9.out⟩
      rw [HX2.out.2.2 h0]
      have h1 : Shx w8 (fun b => w.heap.size ≤ b) v7 ((L ++ [(g.e,zv)]).map (·.1)):=Shx.of_own HO8.out rfl (fun x hx => (HTR8.out x hx).weak fun b hb _ => hb.1) (fun b hb _ _ => hb)
      have h2:=(h1.under (bRf.alloc nLe (.cells #[.string ⟨#[41]⟩] 9)) (by intro b _ hb; exact hb)).grown HG9.out (by intro b hb _ e; injection e with e; omega)
      rw [List.map_append] at h2
      exact h2
    ·have hr2' : (g.r == 0) = false:=by simp [hr]
     have hr2'' : decide (g.r = 0) = false:=by simp [hr]
     have HX2 : Hid (X = bad g.p g.r):=Lh (by rw [HAN.out,if_neg hr])
     go_wp2_with (first
      | (go_at_call 124; refine (HBC.out _ HC.out).mono ?_; rintro e w5 ⟨zv,rfl,hx5,hg5,hc5⟩; have hone5:=hx5.one; have HX5:=Lh hx5; have HG5:=Lh hg5; have HC5:=Lh hc5; have hs5:=hg5.size; clear hx5 hg5 hc5; dsimp only [exV])
      | (refine wpList_stx rfl (.tmp 8) (.tmp 23) rfl w5.heap.size rfl (entry_slot w5) (e:=g.e) (lv:=zv) rfl hone5 ?_; intro w6 hg6 hs6; have HG6:=Lh hg6; have HS6:=Lh hs6; have hz6:=hg6.size; rw [entry_size] at hz6; clear hg6 hs6)
      | fail)
     go_ret2
     rw [HX2.out]
     exact ⟨_,rfl,(fun h => absurd h hr),fr_new (gb_trans (gb_trans HG.out HG5.out) (below_fr (entry_below w5) _)) HG6.out (by omega),(HC5.out.under (entry_below w5)).grown HG6.out (by intro k e; cases e; omega)⟩
theorem rd_nm {R : Rw} {f a d : Nat} {y : Bool × ByteArray × Nat} {g : Gt} (hn : R.name a = y) (hg : rd R f .ar y.2.2 d = g) : rd R (f + 1) .nm a d =
  if y.1 = true then (if R.is y.2.2 [40] = true then (if g.r = 0 then hld (eCall (R.ps a) y.2.1 g.e.l) g.p a else bad g.p g.r) else good (eName (R.ps a) y.2.1) y.2.2) else bad y.2.2 11:=by
 simp only [rd]
 rw [hn,hg]
theorem wd_size {T : ByteArray} {L : List Tk} (h : TokOk T L) (i : Nat) : ((rowT T L).wd i).size ≤ 1000000:=by
 have hs:=h.sz
 show (wdT T L i).size ≤ _
 unfold wdT
 cases L[i]? with
 | none => exact Nat.zero_le _
 | some t =>
  show (T.extract t.2.1.toNat t.2.2.toNat).size ≤ _
  rw [ByteArray.size_extract]
  omega
set_option maxRecDepth 10000 in
theorem named_step (C : Cx) (hC : TokOk C.T C.L) (f : Nat) (hA : ArC C f) : NmC C (f + 1):=by
 intro d p w hd h hf
 have hz:=zeroEx'
 have hlt:=h.lt
 have hle:=h.le
 have hln:=hC.len
 have HC0:=Lh (h.under (entry_below w)).drew
 have HE:=Lh (entry_slot w).drew
 have HES:=Lh (show ((w.alloc (.cells z6 77)).drew).heap.size = w.heap.size + 1 from entry_size w)
 have HEB:=Lh ((entry_below w).trans (below_drew _ _))
 have HPO : Hid (∀ W,Cur C W p → CP 32 #[C.ptr] W fun e w' => e = .returned (.int .i64 (C.R.ps p)) ∧ Below W.heap.size W w'):=Lh fun W h2 => pos_any C hC p W h2
 have HID : Hid (∀ W q,Cur C W q → CP 93 #[C.ptr] W (IdTo C q W)):=Lh fun W q hc => identC_any C hC q W hc
 have HTK : Hid (∀ W q,Cur C W q → CP 119 #[C.ptr,.string ⟨#[46]⟩] W (TakeTo C q (C.R.is q [46]) W)):=Lh fun W q hc => by
  have:=takeL C hC q W hc ⟨#[46]⟩ (by decide)
  rwa [tl46] at this
 have HPK : Hid (∀ W q,Cur C W q → CP 56 #[C.ptr] W fun e w' => e = .returned (.string (C.R.wd q)) ∧ Below W.heap.size W w'):=Lh fun W q h2 => peek_any C hC q W h2
 have c0:=HC0.out.pl
 obtain ⟨W0,hW0⟩ : ∃ W0,w.alloc (.cells z6 77) = W0:=⟨_,rfl⟩
 have HW:=Lh hW0
 rw [hW0] at HC0 HE HES HEB c0
 clear h hW0
 obtain ⟨y,hy⟩ : ∃ y,C.R.name p = y:=⟨_,rfl⟩
 obtain ⟨g,hg⟩ : ∃ g,rd C.R f .ar y.2.2 d = g:=⟨_,rfl⟩
 have HRD:=Lh (rd_nm hy hg)
 have hnl:=(row_ok C.T C.L).name_lt hle
 rw [hy] at hnl
 have HAR : Hid (C.R.is y.2.2 [40] = true → y.1 = true → (∀ W,Cur C W y.2.2 → CP 178 #[C.ptr,.int .i64 (d : Int)] W (ArTo C W g)) ∧ g.p ≤ C.L.length ∧ (g.r = 0 → (eCall (C.R.ps p) y.2.1 g.e.l).wfx ∧ (eCall (C.R.ps p) y.2.1 g.e.l).cnt ≤ 1000000)):=Lh fun h40 h1 => by
  have hk:=hnl.2.2 h1
  have hkn : y.2.2 ≤ C.L.length:=hnl.1
  have hin:=rd_in (row_ok C.T C.L) f .ar y.2.2 d hnl.1 (fun _ => (row_ok C.T C.L).is_lt h40)
  have hfi:=rd_fine (row_ok C.T C.L) hC.len f .ar y.2.2 d hnl.1 (fun _ => (row_ok C.T C.L).is_lt h40) trivial
  rw [hg] at hin hfi
  have hgp : g.p ≤ C.L.length:=hin.2.1
  refine ⟨fun W hc => ?_,hgp,fun h0 => ?_⟩
  ·have h2:=hA d y.2.2 W hd hc h40 (by omega)
   rwa [hg] at h2
  ·have h3:=hfi h0
   have h4:=h3.2
   have h5:=cnts_len g.e.l
   exact ⟨call_wfx h3.1 (by omega),by rw [call_cnt]; omega⟩
 have HY:=Lh hy
 clear hA hg hy hnl
 go_enter Tryz.func168,Tryz.ntmps168
 go_wp2_with fail
 rw [HW.out]
 go_region_held3 (fun w' => w'.cell? ⟨C.g,2,none⟩ = some (.int .i64 (p : Int))) (((try dsimp only); first | assumption | go_keep)) (first
  | (go_at_call 32; refine (HPO.out _ HC0.out).mono ?_; rintro e w2 ⟨rfl,b2⟩; have HC2:=Lh (HC0.out.under b2); have B2:=Lh b2; have c2:=HC2.out.pl; clear b2)
  | fail)
 have J1:=Lh (show w.grownBy w2 (some C.g) from gb_trans (below_fr HEB.out _) (below_fr B2.out _))
 have J2:=Lh (show Slot w2 w.heap.size Ex.nul (.slice none 0 0) from HE.out.below B2.out (by have:=HES.out; show w.heap.size < W0.drew.heap.size; omega))
 have hsz2 : w.heap.size + 1 ≤ w2.heap.size:=by have:=HES.out; have:=B2.out.size; omega
 clear c0 c2 HC0 HE HES HEB HW B2 HPO
 cases h0 : C.R.idn p with
 | false =>
  have hy:=HY.out
  unfold Rw.name at hy
  rw [if_pos h0] at hy
  have HX : Hid (rd C.R (f + 1) .nm p d = bad p 11):=Lh (by rw [HRD.out,← hy]; rfl)
  clear hy
  go_wp2_with (first
   | (go_at_call 93; refine (HID.out _ p HC2.out).mono ?_; rintro e w3 ⟨rfl,hc,hg⟩; have Cw3:=Lh (show Cur C w3 p from (by simpa [h0] using hc)); have Gw3:=Lh hg; have hsw3:=hg.size; clear hc hg; rw [h0]; dsimp only)
   | (refine wpList_stx rfl (.tmp 4) (.tmp 40) rfl w.heap.size rfl (J2.out.grown Gw3.out (by intro e; injection e; omega)) (e:=Ex.nul) (lv:=.slice none 0 0) rfl rfl ?_; intro w9 hg8 hs8; have Gw9:=Lh hg8; have Sw9:=Lh hs8; clear hg8 hs8)
   | fail)
  rw [HX.out]
  refine ex_done rfl rfl rfl rfl Sw9.out ⟨.slice none 0 0,rfl,.nil,?_,?_⟩
  ·exact fr_new (gb_trans J1.out Gw3.out) Gw9.out nLe
  ·exact Cw3.out.grown Gw9.out (fun k e => by cases e; omega)
 | true =>
  have hplt : p < C.L.length:=(row_ok C.T C.L).id_lt h0
  cases h46 : C.R.is (p + 1) [46] with
  | false =>
   have hy:=HY.out
   unfold Rw.name at hy
   rw [if_neg (by rw [h0]; decide),if_neg (by rw [h46]; decide)] at hy
   have HN : Hid (y = (true,C.R.wd p,p + 1)):=Lh hy.symm
   clear hy
   rw [HN.out] at HRD HAR
   dsimp only at HRD HAR
   cases h40 : C.R.is (p + 1) [40] with
   | false =>
    have h40' : ((C.R.wd (p + 1)).toList == [40]) = false:=h40
    have HX : Hid (rd C.R (f + 1) .nm p d = good (eName (C.R.ps p) (C.R.wd p)) (p + 1)):=Lh (by rw [HRD.out,if_pos rfl,if_neg (by rw [h40]; decide)])
    go_wp2_with (first
     | (go_at_call 93; refine (HID.out _ p HC2.out).mono ?_; rintro e w3 ⟨rfl,hc,hg⟩; have Cw3:=Lh (show Cur C w3 (p + 1) from (by simpa [h0] using hc)); have Gw3:=Lh hg; have hsw3:=hg.size; clear hc hg; rw [h0]; dsimp only)
     | (go_at_call 119; refine (HTK.out _ (p + 1) Cw3.out).mono ?_; rintro e w4 ⟨rfl,hc,hg,_⟩; have Cw4:=Lh (show Cur C w4 (p + 1) from (by simpa [h46] using hc)); have Gw4:=Lh hg; have hsw4:=hg.size; clear hc hg; rw [h46]; dsimp only)
     | (go_at_call 56; refine (HPK.out _ _ Cw4.out).mono ?_; rintro e w6 ⟨rfl,b6⟩; have Cw6:=Lh (Cw4.out.under b6); have Gw6:=Lh (below_fr b6 (some C.g)); have hs6:=b6.size; clear b6; dsimp only)
     | (refine wpList_stx rfl (.tmp 4) (.tmp 46) rfl w.heap.size rfl (((J2.out.grown Gw3.out (by intro e; injection e; omega)).grown Gw4.out (by intro e; injection e; omega)).grown Gw6.out (by intro e; injection e; omega)) (e:=eName (C.R.ps p) (C.R.wd p)) (lv:=.slice none 0 0) rfl rfl ?_; intro w9 hg8 hs8; have Gw9:=Lh hg8; have Sw9:=Lh hs8; clear hg8 hs8)
     | fail)
    rw [HX.out]
    refine ex_done rfl rfl rfl rfl Sw9.out ⟨.slice none 0 0,rfl,.nil,?_,?_⟩
    ·exact fr_new (gb_trans (gb_trans (gb_trans J1.out Gw3.out) Gw4.out) Gw6.out) Gw9.out nLe
    ·exact Cw6.out.grown Gw9.out (fun k e => by cases e; omega)
   | true =>
    have h40' : ((C.R.wd (p + 1)).toList == [40]) = true:=h40
    obtain ⟨hcall,hgp,hfin⟩:=HAR.out h40 rfl
    have HCALL:=Lh hcall
    have HFIN:=Lh hfin
    clear hcall hfin
    by_cases hr : g.r = 0
    ·have hr2' : (g.r == 0) = true:=by simp [hr]
     have hr2'' : decide (g.r = 0) = true:=by simp [hr]
     obtain ⟨G2,hG2⟩ : ∃ G2,hld (eCall (C.R.ps p) (C.R.wd p) g.e.l) g.p p = G2:=⟨_,rfl⟩
     have HPU : Hid (∀ W lv (S : Nat → Prop),Cur C W g.p → Shx W S lv g.e.l → (∀ b,S b → b ≠ C.g) → CP 140 #[C.ptr,.int .i64 (p : Int),exV (eCall (C.R.ps p) (C.R.wd p) g.e.l) lv] W (PutTo C S W G2)):=Lh fun W lv S h1 h2 h3 => by
      have:=put_any C hC g.p p W h1 hle (eCall (C.R.ps p) (C.R.wd p) g.e.l) lv S (HFIN.out hr).1 (HFIN.out hr).2 h2 h3
      rwa [hG2] at this
     have HX : Hid (rd C.R (f + 1) .nm p d = G2):=Lh (by rw [HRD.out,if_pos rfl,if_pos h40,if_pos hr,hG2])
     clear hG2
     go_wp2_with (first
      | (go_at_call 93; refine (HID.out _ p HC2.out).mono ?_; rintro e w3 ⟨rfl,hc,hg⟩; have Cw3:=Lh (show Cur C w3 (p + 1) from (by simpa [h0] using hc)); have Gw3:=Lh hg; have hsw3:=hg.size; clear hc hg; rw [h0]; dsimp only)
      | (go_at_call 119; refine (HTK.out _ (p + 1) Cw3.out).mono ?_; rintro e w4 ⟨rfl,hc,hg,_⟩; have Cw4:=Lh (show Cur C w4 (p + 1) from (by simpa [h46] using hc)); have Gw4:=Lh hg; have hsw4:=hg.size; clear hc hg; rw [h46]; dsimp only)
      | (go_at_call 56; refine (HPK.out _ _ Cw4.out).mono ?_; rintro e w6 ⟨rfl,b6⟩; have Cw6:=Lh (Cw4.out.under b6); have Gw6:=Lh (below_fr b6 (some C.g)); have hs6:=b6.size; clear b6; dsimp only)
      | (go_at_call 178; refine (HCALL.out _ Cw6.out).mono ?_; rintro e w7 ⟨lv,rfl,hx7,hg7,hc7⟩; have Xw7:=Lh hx7; have Gw7:=Lh hg7; have Cw7:=Lh hc7; have hs7:=hg7.size; clear hx7 hg7 hc7; obtain ⟨A7,c7,rfl,_⟩:=(Xw7.out hr).len; dsimp only)
      | (go_at_call 140; refine (HPU.out _ _ (fun b => w.heap.size < b) Cw7.out ((Xw7.out hr).weak (by intro b h1 h2; omega)) (by intro b hb; omega)).mono ?_; rintro e w8 ⟨lv8,rfl,hx8,hg8,hc8⟩; have hone8:=hx8.one; have Xw8:=Lh hx8; have Gw8:=Lh hg8; have Cw8:=Lh hc8; have hs8:=hg8.size; clear hx8 hg8 hc8; dsimp only [exV])
      | (refine wpList_stx rfl (.tmp 4) (.tmp 64) rfl w.heap.size rfl (((((J2.out.grown Gw3.out (by intro e; injection e; omega)).grown Gw4.out (by intro e; injection e; omega)).grown Gw6.out (by intro e; injection e; omega)).grown Gw7.out (by intro e; injection e; omega)).grown Gw8.out (by intro e; injection e; omega)) (e:=G2.e) (lv:=lv8) rfl hone8 ?_; intro w9 hg8 hs8; have Gw9:=Lh hg8; have Sw9:=Lh hs8; clear hg8 hs8)
      | fail)
     rw [HX.out]
     refine ex_done rfl rfl rfl rfl Sw9.out ⟨lv8,rfl,?_,?_,?_⟩
     ·exact (Xw8.out.grown Gw9.out (fun b hb _ e => by injection e with e; omega)).weak (fun b hb _ => by omega)
     ·exact fr_new (gb_trans (gb_trans (gb_trans (gb_trans (gb_trans J1.out Gw3.out) Gw4.out) Gw6.out) Gw7.out) Gw8.out) Gw9.out nLe
     ·exact Cw8.out.grown Gw9.out (fun k e => by cases e; omega)
    ·have hr2' : (g.r == 0) = false:=by simp [hr]
     have hr2'' : decide (g.r = 0) = false:=by simp [hr]
     have HX : Hid (rd C.R (f + 1) .nm p d = bad g.p g.r):=Lh (by rw [HRD.out,if_pos rfl,if_pos h40,if_neg hr])
     go_wp2_with (first
      | (go_at_call 93; refine (HID.out _ p HC2.out).mono ?_; rintro e w3 ⟨rfl,hc,hg⟩; have Cw3:=Lh (show Cur C w3 (p + 1) from (by simpa [h0] using hc)); have Gw3:=Lh hg; have hsw3:=hg.size; clear hc hg; rw [h0]; dsimp only)
      | (go_at_call 119; refine (HTK.out _ (p + 1) Cw3.out).mono ?_; rintro e w4 ⟨rfl,hc,hg,_⟩; have Cw4:=Lh (show Cur C w4 (p + 1) from (by simpa [h46] using hc)); have Gw4:=Lh hg; have hsw4:=hg.size; clear hc hg; rw [h46]; dsimp only)
      | (go_at_call 56; refine (HPK.out _ _ Cw4.out).mono ?_; rintro e w6 ⟨rfl,b6⟩; have Cw6:=Lh (Cw4.out.under b6); have Gw6:=Lh (below_fr b6 (some C.g)); have hs6:=b6.size; clear b6; dsimp only)
      | (go_at_call 178; refine (HCALL.out _ Cw6.out).mono ?_; rintro e w7 ⟨lv,rfl,hx7,hg7,hc7⟩; have Xw7:=Lh hx7; have Gw7:=Lh hg7; have Cw7:=Lh hc7; have hs7:=hg7.size; clear hx7 hg7 hc7; dsimp only)
      | (refine wpList_stx rfl (.tmp 4) (.tmp 55) rfl w.heap.size rfl ((((J2.out.grown Gw3.out (by intro e; injection e; omega)).grown Gw4.out (by intro e; injection e; omega)).grown Gw6.out (by intro e; injection e; omega)).grown Gw7.out (by intro e; injection e; omega)) (e:=Ex.nul) (lv:=.slice none 0 0) rfl rfl ?_; intro w9 hg8 hs8; have Gw9:=Lh hg8; have Sw9:=Lh hs8; clear hg8 hs8)
      | fail)
     rw [HX.out]
     refine ex_done rfl rfl rfl rfl Sw9.out ⟨.slice none 0 0,rfl,.nil,?_,?_⟩
     ·exact fr_new (gb_trans (gb_trans (gb_trans (gb_trans J1.out Gw3.out) Gw4.out) Gw6.out) Gw7.out) Gw9.out nLe
     ·exact Cw7.out.grown Gw9.out (fun k e => by cases e; omega)
  | true =>
   have h46l : p + 1 < C.L.length:=(row_ok C.T C.L).is_lt h46
   have z0:=wd_size hC p
   have z2:=wd_size hC (p + 2)
   have n1 : ¬ 9223372036854775807 < (C.R.wd p).size + 1:=by show ¬ 9223372036854775807 < ((rowT C.T C.L).wd p).size + 1; omega
   have n2 : ¬ 9223372036854775807 < (C.R.wd p).size + (1 + (C.R.wd (p + 2)).size):=by show ¬ 9223372036854775807 < ((rowT C.T C.L).wd p).size + (1 + ((rowT C.T C.L).wd (p + 2)).size); omega
   have n3 : ¬ 9223372036854775807 < (C.R.wd p).size + ((C.R.wd (p + 2)).size + 1):=by show ¬ 9223372036854775807 < ((rowT C.T C.L).wd p).size + (((rowT C.T C.L).wd (p + 2)).size + 1); omega
   have n4 : ¬ 9223372036854775807 < 1 + (C.R.wd (p + 2)).size:=by show ¬ 9223372036854775807 < 1 + ((rowT C.T C.L).wd (p + 2)).size; omega
   have n5 : ¬ 9223372036854775807 < (C.R.wd (p + 2)).size + 1:=by show ¬ 9223372036854775807 < ((rowT C.T C.L).wd (p + 2)).size + 1; omega
   clear z0 z2
   cases h2 : C.R.idn (p + 2) with
   | false =>
    have hy:=HY.out
    unfold Rw.name at hy
    rw [if_neg (by rw [h0]; decide),if_pos h46,if_neg (by rw [h2]; decide)] at hy
    have HX : Hid (rd C.R (f + 1) .nm p d = bad (p + 2) 11):=Lh (by rw [HRD.out,← hy]; rfl)
    clear hy
    go_wp2_with (first
     | (go_at_call 93; refine (HID.out _ p HC2.out).mono ?_; rintro e w3 ⟨rfl,hc,hg⟩; have Cw3:=Lh (show Cur C w3 (p + 1) from (by simpa [h0] using hc)); have Gw3:=Lh hg; have hsw3:=hg.size; clear hc hg; rw [h0]; dsimp only)
     | (go_at_call 119; refine (HTK.out _ (p + 1) Cw3.out).mono ?_; rintro e w4 ⟨rfl,hc,hg,_⟩; have Cw4:=Lh (show Cur C w4 (p + 2) from (by simpa [h46] using hc)); have Gw4:=Lh hg; have hsw4:=hg.size; clear hc hg; rw [h46]; dsimp only; refine Hid.out ?_)
     | fail)
    refine Lh ?_
    go_wp2_with (first
     | (go_at_call 93; refine (HID.out _ (p + 2) Cw4.out).mono ?_; rintro e w5 ⟨rfl,hc,hg⟩; have Cw5:=Lh (show Cur C w5 (p + 2) from (by simpa [h2] using hc)); have Gw5:=Lh hg; have hsw5:=hg.size; clear hc hg; rw [h2]; dsimp only)
     | (refine wpList_stx rfl (.tmp 4) (.tmp 40) rfl w.heap.size rfl (((J2.out.grown Gw3.out (by intro e; injection e; omega)).grown Gw4.out (by intro e; injection e; omega)).grown Gw5.out (by intro e; injection e; omega)) (e:=Ex.nul) (lv:=.slice none 0 0) rfl rfl ?_; intro w9 hg8 hs8; have Gw9:=Lh hg8; have Sw9:=Lh hs8; clear hg8 hs8)
     | fail)
    rw [HX.out]
    refine ex_done rfl rfl rfl rfl Sw9.out ⟨.slice none 0 0,rfl,.nil,?_,?_⟩
    ·exact fr_new (gb_trans (gb_trans (gb_trans J1.out Gw3.out) Gw4.out) Gw5.out) Gw9.out nLe
    ·exact Cw5.out.grown Gw9.out (fun k e => by cases e; omega)
   | true =>
    have hy:=HY.out
    unfold Rw.name at hy
    rw [if_neg (by rw [h0]; decide),if_pos h46,if_pos h2] at hy
    have HN : Hid (y = (true,dot (C.R.wd p) (C.R.wd (p + 2)),p + 3)):=Lh hy.symm
    clear hy
    rw [HN.out] at HRD HAR
    dsimp only at HRD HAR
    cases h40 : C.R.is (p + 3) [40] with
    | false =>
     have h40' : ((C.R.wd (p + 3)).toList == [40]) = false:=h40
     have HX : Hid (rd C.R (f + 1) .nm p d = good (eName (C.R.ps p) (dot (C.R.wd p) (C.R.wd (p + 2)))) (p + 3)):=Lh (by rw [HRD.out,if_pos rfl,if_neg (by rw [h40]; decide)])
     go_wp2_with (first
      | (go_at_call 93; refine (HID.out _ p HC2.out).mono ?_; rintro e w3 ⟨rfl,hc,hg⟩; have Cw3:=Lh (show Cur C w3 (p + 1) from (by simpa [h0] using hc)); have Gw3:=Lh hg; have hsw3:=hg.size; clear hc hg; rw [h0]; dsimp only)
      | (go_at_call 119; refine (HTK.out _ (p + 1) Cw3.out).mono ?_; rintro e w4 ⟨rfl,hc,hg,_⟩; have Cw4:=Lh (show Cur C w4 (p + 2) from (by simpa [h46] using hc)); have Gw4:=Lh hg; have hsw4:=hg.size; clear hc hg; rw [h46]; dsimp only; refine Hid.out ?_)
      | fail)
     refine Lh ?_
     go_wp2_with (first
      | (go_at_call 93; refine (HID.out _ (p + 2) Cw4.out).mono ?_; rintro e w5 ⟨rfl,hc,hg⟩; have Cw5:=Lh (show Cur C w5 (p + 3) from (by simpa [h2] using hc)); have Gw5:=Lh hg; have hsw5:=hg.size; clear hc hg; rw [h2]; dsimp only)
      | (go_at_call 56; refine (HPK.out _ _ Cw5.out).mono ?_; rintro e w6 ⟨rfl,b6⟩; have Cw6:=Lh (Cw5.out.under b6); have Gw6:=Lh (below_fr b6 (some C.g)); have hs6:=b6.size; clear b6; dsimp only)
      | (refine wpList_stx rfl (.tmp 4) (.tmp 46) rfl w.heap.size rfl ((((J2.out.grown Gw3.out (by intro e; injection e; omega)).grown Gw4.out (by intro e; injection e; omega)).grown Gw5.out (by intro e; injection e; omega)).grown Gw6.out (by intro e; injection e; omega)) (e:=eName (C.R.ps p) (dot (C.R.wd p) (C.R.wd (p + 2)))) (lv:=.slice none 0 0) rfl rfl ?_; intro w9 hg8 hs8; have Gw9:=Lh hg8; have Sw9:=Lh hs8; clear hg8 hs8)
      | fail)
     rw [HX.out]
     refine ex_done rfl rfl rfl rfl Sw9.out ⟨.slice none 0 0,rfl,.nil,?_,?_⟩
     ·exact fr_new (gb_trans (gb_trans (gb_trans (gb_trans J1.out Gw3.out) Gw4.out) Gw5.out) Gw6.out) Gw9.out nLe
     ·exact Cw6.out.grown Gw9.out (fun k e => by cases e; omega)
    | true =>
     have h40' : ((C.R.wd (p + 3)).toList == [40]) = true:=h40
     obtain ⟨hcall,hgp,hfin⟩:=HAR.out h40 rfl
     have HCALL:=Lh hcall
     have HFIN:=Lh hfin
     clear hcall hfin
     by_cases hr : g.r = 0
     ·have hr2' : (g.r == 0) = true:=by simp [hr]
      have hr2'' : decide (g.r = 0) = true:=by simp [hr]
      obtain ⟨G2,hG2⟩ : ∃ G2,hld (eCall (C.R.ps p) (dot (C.R.wd p) (C.R.wd (p + 2))) g.e.l) g.p p = G2:=⟨_,rfl⟩
      have HPU : Hid (∀ W lv (S : Nat → Prop),Cur C W g.p → Shx W S lv g.e.l → (∀ b,S b → b ≠ C.g) → CP 140 #[C.ptr,.int .i64 (p : Int),exV (eCall (C.R.ps p) (dot (C.R.wd p) (C.R.wd (p + 2))) g.e.l) lv] W (PutTo C S W G2)):=Lh fun W lv S h1 h2 h3 => by
       have:=put_any C hC g.p p W h1 hle (eCall (C.R.ps p) (dot (C.R.wd p) (C.R.wd (p + 2))) g.e.l) lv S (HFIN.out hr).1 (HFIN.out hr).2 h2 h3
       rwa [hG2] at this
      have HX : Hid (rd C.R (f + 1) .nm p d = G2):=Lh (by rw [HRD.out,if_pos rfl,if_pos h40,if_pos hr,hG2])
      clear hG2
      go_wp2_with (first
       | (go_at_call 93; refine (HID.out _ p HC2.out).mono ?_; rintro e w3 ⟨rfl,hc,hg⟩; have Cw3:=Lh (show Cur C w3 (p + 1) from (by simpa [h0] using hc)); have Gw3:=Lh hg; have hsw3:=hg.size; clear hc hg; rw [h0]; dsimp only)
       | (go_at_call 119; refine (HTK.out _ (p + 1) Cw3.out).mono ?_; rintro e w4 ⟨rfl,hc,hg,_⟩; have Cw4:=Lh (show Cur C w4 (p + 2) from (by simpa [h46] using hc)); have Gw4:=Lh hg; have hsw4:=hg.size; clear hc hg; rw [h46]; dsimp only; refine Hid.out ?_)
       | fail)
      refine Lh ?_
      go_wp2_with (first
       | (go_at_call 93; refine (HID.out _ (p + 2) Cw4.out).mono ?_; rintro e w5 ⟨rfl,hc,hg⟩; have Cw5:=Lh (show Cur C w5 (p + 3) from (by simpa [h2] using hc)); have Gw5:=Lh hg; have hsw5:=hg.size; clear hc hg; rw [h2]; dsimp only)
       | (go_at_call 56; refine (HPK.out _ _ Cw5.out).mono ?_; rintro e w6 ⟨rfl,b6⟩; have Cw6:=Lh (Cw5.out.under b6); have Gw6:=Lh (below_fr b6 (some C.g)); have hs6:=b6.size; clear b6; dsimp only)
       | (go_at_call 178; refine (HCALL.out _ Cw6.out).mono ?_; rintro e w7 ⟨lv,rfl,hx7,hg7,hc7⟩; have Xw7:=Lh hx7; have Gw7:=Lh hg7; have Cw7:=Lh hc7; have hs7:=hg7.size; clear hx7 hg7 hc7; obtain ⟨A7,c7,rfl,_⟩:=(Xw7.out hr).len; dsimp only)
       | (go_at_call 140; refine (HPU.out _ _ (fun b => w.heap.size < b) Cw7.out ((Xw7.out hr).weak (by intro b h1 h2; omega)) (by intro b hb; omega)).mono ?_; rintro e w8 ⟨lv8,rfl,hx8,hg8,hc8⟩; have hone8:=hx8.one; have Xw8:=Lh hx8; have Gw8:=Lh hg8; have Cw8:=Lh hc8; have hs8:=hg8.size; clear hx8 hg8 hc8; dsimp only [exV])
       | (refine wpList_stx rfl (.tmp 4) (.tmp 64) rfl w.heap.size rfl ((((((J2.out.grown Gw3.out (by intro e; injection e; omega)).grown Gw4.out (by intro e; injection e; omega)).grown Gw5.out (by intro e; injection e; omega)).grown Gw6.out (by intro e; injection e; omega)).grown Gw7.out (by intro e; injection e; omega)).grown Gw8.out (by intro e; injection e; omega)) (e:=G2.e) (lv:=lv8) rfl hone8 ?_; intro w9 hg8 hs8; have Gw9:=Lh hg8; have Sw9:=Lh hs8; clear hg8 hs8)
       | fail)
      rw [HX.out]
      refine ex_done rfl rfl rfl rfl Sw9.out ⟨lv8,rfl,?_,?_,?_⟩
      ·exact (Xw8.out.grown Gw9.out (fun b hb _ e => by injection e with e; omega)).weak (fun b hb _ => by omega)
      ·exact fr_new (gb_trans (gb_trans (gb_trans (gb_trans (gb_trans (gb_trans J1.out Gw3.out) Gw4.out) Gw5.out) Gw6.out) Gw7.out) Gw8.out) Gw9.out nLe
      ·exact Cw8.out.grown Gw9.out (fun k e => by cases e; omega)
     ·have hr2' : (g.r == 0) = false:=by simp [hr]
      have hr2'' : decide (g.r = 0) = false:=by simp [hr]
      have HX : Hid (rd C.R (f + 1) .nm p d = bad g.p g.r):=Lh (by rw [HRD.out,if_pos rfl,if_pos h40,if_neg hr])
      go_wp2_with (first
       | (go_at_call 93; refine (HID.out _ p HC2.out).mono ?_; rintro e w3 ⟨rfl,hc,hg⟩; have Cw3:=Lh (show Cur C w3 (p + 1) from (by simpa [h0] using hc)); have Gw3:=Lh hg; have hsw3:=hg.size; clear hc hg; rw [h0]; dsimp only)
       | (go_at_call 119; refine (HTK.out _ (p + 1) Cw3.out).mono ?_; rintro e w4 ⟨rfl,hc,hg,_⟩; have Cw4:=Lh (show Cur C w4 (p + 2) from (by simpa [h46] using hc)); have Gw4:=Lh hg; have hsw4:=hg.size; clear hc hg; rw [h46]; dsimp only; refine Hid.out ?_)
       | fail)
      refine Lh ?_
      go_wp2_with (first
       | (go_at_call 93; refine (HID.out _ (p + 2) Cw4.out).mono ?_; rintro e w5 ⟨rfl,hc,hg⟩; have Cw5:=Lh (show Cur C w5 (p + 3) from (by simpa [h2] using hc)); have Gw5:=Lh hg; have hsw5:=hg.size; clear hc hg; rw [h2]; dsimp only)
       | (go_at_call 56; refine (HPK.out _ _ Cw5.out).mono ?_; rintro e w6 ⟨rfl,b6⟩; have Cw6:=Lh (Cw5.out.under b6); have Gw6:=Lh (below_fr b6 (some C.g)); have hs6:=b6.size; clear b6; dsimp only)
       | (go_at_call 178; refine (HCALL.out _ Cw6.out).mono ?_; rintro e w7 ⟨lv,rfl,hx7,hg7,hc7⟩; have Xw7:=Lh hx7; have Gw7:=Lh hg7; have Cw7:=Lh hc7; have hs7:=hg7.size; clear hx7 hg7 hc7; dsimp only)
       | (refine wpList_stx rfl (.tmp 4) (.tmp 55) rfl w.heap.size rfl (((((J2.out.grown Gw3.out (by intro e; injection e; omega)).grown Gw4.out (by intro e; injection e; omega)).grown Gw5.out (by intro e; injection e; omega)).grown Gw6.out (by intro e; injection e; omega)).grown Gw7.out (by intro e; injection e; omega)) (e:=Ex.nul) (lv:=.slice none 0 0) rfl rfl ?_; intro w9 hg8 hs8; have Gw9:=Lh hg8; have Sw9:=Lh hs8; clear hg8 hs8)
       | fail)
      rw [HX.out]
      refine ex_done rfl rfl rfl rfl Sw9.out ⟨.slice none 0 0,rfl,.nil,?_,?_⟩
      ·exact fr_new (gb_trans (gb_trans (gb_trans (gb_trans (gb_trans J1.out Gw3.out) Gw4.out) Gw5.out) Gw6.out) Gw7.out) Gw9.out nLe
      ·exact Cw7.out.grown Gw9.out (fun k e => by cases e; omega)
theorem rd_pr_num {R : Rw} {f a d : Nat} (h : R.kd a = 3) : rd R (f + 1) .pr a d = numG R a:=by
 simp only [rd]
 rw [if_pos h]
 rfl
theorem rd_pr_true {R : Rw} {f a d : Nat} (h : ¬ R.kd a = 3) (ht : R.is a [116,114,117,101] = true) : rd R (f + 1) .pr a d = good (eBool (R.ps a) 1) (a + 1):=by
 simp only [rd]
 rw [if_neg h,if_pos ht]
theorem rd_pr_false {R : Rw} {f a d : Nat} (h : ¬ R.kd a = 3) (ht : R.is a [116,114,117,101] = false) (hf : R.is a [102,97,108,115,101] = true) : rd R (f + 1) .pr a d = good (eBool (R.ps a) 0) (a + 1):=by
 simp only [rd]
 rw [if_neg h,if_neg (by rw [ht]; decide),if_pos hf]
theorem rd_pr_group {R : Rw} {f a d : Nat} (h : ¬ R.kd a = 3) (ht : R.is a [116,114,117,101] = false) (hf : R.is a [102,97,108,115,101] = false) (hb : R.is a [40] = true) : rd R (f + 1) .pr a d = wiG R (rd R f .gr a d) [⟨#[41]⟩]:=by
 simp only [rd]
 rw [if_neg h,if_neg (by rw [ht]; decide),if_neg (by rw [hf]; decide),if_pos hb]
 unfold wiG
 rw [must_one R _ _ _ tl41]
 by_cases h0 : (rd R f .gr a d).r = 0
 ·rw [if_pos h0,if_pos h0]
  by_cases h1 : R.is (rd R f .gr a d).p [41] = true
  ·rw [if_pos h1,if_pos h1]; rfl
  ·rw [if_neg h1,if_neg h1]; rfl
 ·rw [if_neg h0,if_neg h0]
theorem rd_pr_open {R : Rw} {f a d : Nat} (h : ¬ R.kd a = 3) (ht : R.is a [116,114,117,101] = false) (hf : R.is a [102,97,108,115,101] = false) (hb : R.is a [40] = false) (hd : R.is a [100,101,99,108,97,115,115,105,102,121] = true) : rd R (f + 1) .pr a d = rd R f .op a d:=by
 simp only [rd]
 rw [if_neg h,if_neg (by rw [ht]; decide),if_neg (by rw [hf]; decide),if_neg (by rw [hb]; decide),if_pos hd]
theorem rd_pr_named {R : Rw} {f a d : Nat} (h : ¬ R.kd a = 3) (ht : R.is a [116,114,117,101] = false) (hf : R.is a [102,97,108,115,101] = false) (hb : R.is a [40] = false) (hd : R.is a [100,101,99,108,97,115,115,105,102,121] = false) : rd R (f + 1) .pr a d = rd R f .nm a d:=by
 simp only [rd]
 rw [if_neg h,if_neg (by rw [ht]; decide),if_neg (by rw [hf]; decide),if_neg (by rw [hb]; decide),if_neg (by rw [hd]; decide)]
theorem tlT : (⟨#[116,114,117,101]⟩ : ByteArray).toList = [116,114,117,101]:=by rw [ByteArray.toList_eq]
theorem tlF : (⟨#[102,97,108,115,101]⟩ : ByteArray).toList = [102,97,108,115,101]:=by rw [ByteArray.toList_eq]
set_option maxRecDepth 10000 in
theorem primary_step (C : Cx) (hC : TokOk C.T C.L) (hDg : DigOk C) (f : Nat) (hW : WiC C f) (hO : OpC C f) (hN : NmC C f) : PrC C (f + 1):=by
 intro d p w hd h hf
 have hz:=zeroEx'
 have hlt:=h.lt
 have hle:=h.le
 have hln:=hC.len
 have HC:=Lh (h.under (entry_below w))
 have HS:=Lh (entry_slot w)
 have HF:=Lh (below_fr (entry_below w) (some C.g))
 have HPO : Hid (∀ W,Cur C W p → CP 32 #[C.ptr] W fun e w' => e = .returned (.int .i64 (C.R.ps p)) ∧ Below W.heap.size W w'):=Lh fun W h2 => pos_any C hC p W h2
 have HKI : Hid (∀ W,Cur C W p → CP 164 #[C.ptr] W fun e w' => e = .returned (.int .i64 (C.R.kd p)) ∧ Below W.heap.size W w'):=Lh fun W h2 => kind_any C hC p W h2
 have HPK : Hid (∀ W,Cur C W p → CP 56 #[C.ptr] W fun e w' => e = .returned (.string (C.R.wd p)) ∧ Below W.heap.size W w'):=Lh fun W h2 => peek_any C hC p W h2
 have HTK : Hid (∀ W s,s.size ≠ 0 → Cur C W p → CP 119 #[C.ptr,.string s] W (TakeTo C p (C.R.is p s.toList) W)):=Lh fun W s hs hc => takeL C hC p W hc s hs
 clear h
 by_cases hk : C.R.kd p = 3
 ·have hplt : p < C.L.length:=(row_ok C.T C.L).kd_lt hk
  have HR:=Lh (rd_pr_num (f:=f) (d:=d) hk)
  have HNU : Hid (∀ W,Cur C W p → CP 165 #[C.ptr] W (PutTo C (fun b => W.heap.size ≤ b) W (numG C.R p))):=Lh fun W h2 => number_any C hC p W h2 hplt (hDg p hk) (wd_size hC p) _
  have hk1 : (C.R.kd p == 3) = true:=by simp [hk]
  have hk2 : decide (C.R.kd p = 3) = true:=by simp [hk]
  go_enter Tryz.func152,Tryz.ntmps152
  go_wp2_with (first
   | (go_at_call 32; refine (HPO.out _ HC.out).mono ?_; rintro e wt ⟨rfl,b⟩; have HF:=Lh (gb_trans HF.out (below_fr b _)); have HC:=Lh (HC.out.under b); have HS:=Lh (HS.out.below b HS.out.lt); clear b)
   | (go_at_call 164; refine (HKI.out _ HC.out).mono ?_; rintro e wt ⟨rfl,b⟩; have HF:=Lh (gb_trans HF.out (below_fr b _)); have HC:=Lh (HC.out.under b); have HS:=Lh (HS.out.below b HS.out.lt); clear b)
   | (go_at_call 165; refine (HNU.out _ HC.out).mono ?_; rintro e wt ⟨lv,rfl,hx,hg,hc⟩; have hone:=hx.one; have HX:=Lh (hx.weak (S':=fun b => w.heap.size < b) (by intro b h1 _; have:=HS.out.lt; omega)); have HS:=Lh (HS.out.grown hg (by intro e; injection e; omega)); have HF:=Lh (gb_trans HF.out hg); have HC:=Lh hc; clear hx hg hc; dsimp only)
   | (refine wpList_stx rfl (.tmp 4) (.tmp 15) rfl w.heap.size rfl HS.out (e:=(numG C.R p).e) (lv:=lv) rfl hone ?_; intro w8 hg8 hs8; have HG8:=Lh hg8; have HS8:=Lh hs8; clear hg8 hs8)
   | fail)
  rw [HR.out]
  refine ex_done rfl rfl rfl rfl HS8.out ⟨lv,rfl,?_,?_,?_⟩
  ·exact (HX.out.grown HG8.out (fun b hb _ e => by injection e with e; first | omega | (simp at hb; omega))).weak (fun b hb _ => by first | omega | (simp at hb; omega))
  ·exact fr_new HF.out HG8.out nLe
  ·exact HC.out.grown HG8.out (fun k e => by cases e; omega)
 ·have hk1 : (C.R.kd p == 3) = false:=by simp [hk]
  have hk2 : decide (C.R.kd p = 3) = false:=by simp [hk]
  cases ht : C.R.is p [116,114,117,101] with
  | true =>
   have HR:=Lh (rd_pr_true (f:=f) (d:=d) hk ht)
   have eT : C.R.is p (⟨#[116,114,117,101]⟩ : ByteArray).toList = true:=by rw [tlT]; exact ht
   clear hk
   go_enter Tryz.func152,Tryz.ntmps152
   go_wp2_with (first
    | (go_at_call 32; refine (HPO.out _ HC.out).mono ?_; rintro e wt ⟨rfl,b⟩; have HF:=Lh (gb_trans HF.out (below_fr b _)); have HC:=Lh (HC.out.under b); have HS:=Lh (HS.out.below b HS.out.lt); clear b)
    | (go_at_call 164; refine (HKI.out _ HC.out).mono ?_; rintro e wt ⟨rfl,b⟩; have HF:=Lh (gb_trans HF.out (below_fr b _)); have HC:=Lh (HC.out.under b); have HS:=Lh (HS.out.below b HS.out.lt); clear b)
    | (go_at_call 119; refine (HTK.out _ _ (by decide) HC.out).mono ?_; rintro e wt ⟨rfl,hc,hg,hb⟩; first | (have hc' : Cur C wt (p + 1):=(by rw [eT] at hc; exact hc); have HS:=Lh (HS.out.grown hg (by intro e; injection e; omega)); have HF:=Lh (gb_trans HF.out hg); have HC:=Lh hc'; clear hc hg hb hc'; rw [eT]); dsimp only)
    | (refine wpList_stx rfl (.tmp 4) (.tmp 21) rfl w.heap.size rfl HS.out (e:=eBool (C.R.ps p) 1) (lv:=.slice none 0 0) rfl rfl ?_; intro w8 hg8 hs8; have HG8:=Lh hg8; have HS8:=Lh hs8; clear hg8 hs8)
    | fail)
   rw [HR.out]
   refine ex_done rfl rfl rfl rfl HS8.out ⟨.slice none 0 0,rfl,.nil,?_,?_⟩
   ·exact fr_new HF.out HG8.out nLe
   ·exact HC.out.grown HG8.out (fun k e => by cases e; omega)
  | false =>
   have eT : C.R.is p (⟨#[116,114,117,101]⟩ : ByteArray).toList = false:=by rw [tlT]; exact ht
   cases hff : C.R.is p [102,97,108,115,101] with
   | true =>
    have HR:=Lh (rd_pr_false (f:=f) (d:=d) hk ht hff)
    have eF : C.R.is p (⟨#[102,97,108,115,101]⟩ : ByteArray).toList = true:=by rw [tlF]; exact hff
    clear hk
    go_enter Tryz.func152,Tryz.ntmps152
    go_wp2_with (first
     | (go_at_call 32; refine (HPO.out _ HC.out).mono ?_; rintro e wt ⟨rfl,b⟩; have HF:=Lh (gb_trans HF.out (below_fr b _)); have HC:=Lh (HC.out.under b); have HS:=Lh (HS.out.below b HS.out.lt); clear b)
     | (go_at_call 164; refine (HKI.out _ HC.out).mono ?_; rintro e wt ⟨rfl,b⟩; have HF:=Lh (gb_trans HF.out (below_fr b _)); have HC:=Lh (HC.out.under b); have HS:=Lh (HS.out.below b HS.out.lt); clear b)
     | (go_at_call 119; refine (HTK.out _ _ (by decide) HC.out).mono ?_; rintro e wt ⟨rfl,hc,hg,hb⟩; first | (have b:=hb eT; clear hc hg hb; rw [eT]; have HF:=Lh (gb_trans HF.out (below_fr b _)); have HC:=Lh (HC.out.under b); have HS:=Lh (HS.out.below b HS.out.lt); clear b) | (have hc' : Cur C wt (p + 1):=(by rw [eF] at hc; exact hc); have HS:=Lh (HS.out.grown hg (by intro e; injection e; omega)); have HF:=Lh (gb_trans HF.out hg); have HC:=Lh hc'; clear hc hg hb hc'; rw [eF]); dsimp only)
     | (refine wpList_stx rfl (.tmp 4) (.tmp 26) rfl w.heap.size rfl HS.out (e:=eBool (C.R.ps p) 0) (lv:=.slice none 0 0) rfl rfl ?_; intro w8 hg8 hs8; have HG8:=Lh hg8; have HS8:=Lh hs8; clear hg8 hs8)
     | fail)
    rw [HR.out]
    refine ex_done rfl rfl rfl rfl HS8.out ⟨.slice none 0 0,rfl,.nil,?_,?_⟩
    ·exact fr_new HF.out HG8.out nLe
    ·exact HC.out.grown HG8.out (fun k e => by cases e; omega)
   | false =>
    have eF : C.R.is p (⟨#[102,97,108,115,101]⟩ : ByteArray).toList = false:=by rw [tlF]; exact hff
    cases h40 : C.R.is p [40] with
    | true =>
     have HR:=Lh (rd_pr_group (f:=f) (d:=d) hk ht hff h40)
     have h40' : ((C.R.wd p).toList == [40]) = true:=h40
     obtain ⟨V,hV⟩ : ∃ V,wiG C.R (rd C.R f .gr p d) [⟨#[41]⟩] = V:=⟨_,rfl⟩
     have HWC : Hid (∀ W,Cur C W p → CP 166 #[C.ptr,.int .i64 (d : Int),.slice (some ⟨W.heap.size,0,none⟩) 1 1] (W.alloc (.cells #[.string ⟨#[41]⟩] 9)) (RdTo C (W.alloc (.cells #[.string ⟨#[41]⟩] 9)) V)):=Lh fun W hc => by
      have h1:=hW d p (W.alloc (.cells #[.string ⟨#[41]⟩] 9)) [⟨#[41]⟩] (some ⟨W.heap.size,0,none⟩) 1 1 hd (hc.under bAl) (by omega) (fun t ht => by rw [List.mem_singleton.1 ht]; decide) (by
       have:=Sh.lit W [.string ⟨#[41]⟩] 9
       simpa using this) (by omega) (fun b off e => by cases e; have:=hc.lt; omega)
      rwa [hV] at h1
     rw [hV] at HR
     clear hk hV
     go_enter Tryz.func152,Tryz.ntmps152
     go_wp2_with (first
      | (go_at_call 32; refine (HPO.out _ HC.out).mono ?_; rintro e wt ⟨rfl,b⟩; have HF:=Lh (gb_trans HF.out (below_fr b _)); have HC:=Lh (HC.out.under b); have HS:=Lh (HS.out.below b HS.out.lt); clear b)
      | (go_at_call 164; refine (HKI.out _ HC.out).mono ?_; rintro e wt ⟨rfl,b⟩; have HF:=Lh (gb_trans HF.out (below_fr b _)); have HC:=Lh (HC.out.under b); have HS:=Lh (HS.out.below b HS.out.lt); clear b)
      | (go_at_call 119; refine (HTK.out _ _ (by decide) HC.out).mono ?_; rintro e wt ⟨rfl,hc,hg,hb⟩; first | (have b:=hb eT; clear hc hg hb; rw [eT]; have HF:=Lh (gb_trans HF.out (below_fr b _)); have HC:=Lh (HC.out.under b); have HS:=Lh (HS.out.below b HS.out.lt); clear b) | (have b:=hb eF; clear hc hg hb; rw [eF]; have HF:=Lh (gb_trans HF.out (below_fr b _)); have HC:=Lh (HC.out.under b); have HS:=Lh (HS.out.below b HS.out.lt); clear b); dsimp only)
      | (go_at_call 56; refine (HPK.out _ HC.out).mono ?_; rintro e wt ⟨rfl,b⟩; have HF:=Lh (gb_trans HF.out (below_fr b _)); have HC:=Lh (HC.out.under b); have HS:=Lh (HS.out.below b HS.out.lt); clear b)
      | (go_at_call 166; refine (HWC.out _ HC.out).mono ?_; rintro e wt ⟨lv,rfl,hx,hg,hc⟩; have hone:=hx.one; have HX:=Lh (hx.weak (S':=fun b => w.heap.size < b) (by intro b h1 _; have:=HS.out.lt; simp at h1; omega)); have HS:=Lh ((HS.out.below bAl HS.out.lt).grown hg (by intro e; injection e; omega)); have HF:=Lh (gb_trans (gb_trans HF.out (below_fr bAl _)) hg); have HC:=Lh hc; clear hx hg hc; dsimp only)
      | (refine wpList_stx rfl (.tmp 4) (.tmp 35) rfl w.heap.size rfl HS.out (e:=V.e) (lv:=lv) rfl hone ?_; intro w8 hg8 hs8; have HG8:=Lh hg8; have HS8:=Lh hs8; clear hg8 hs8)
      | fail)
     rw [HR.out]
     refine ex_done rfl rfl rfl rfl HS8.out ⟨lv,rfl,?_,?_,?_⟩
     ·exact (HX.out.grown HG8.out (fun b hb _ e => by injection e with e; first | omega | (simp at hb; omega))).weak (fun b hb _ => by first | omega | (simp at hb; omega))
     ·exact fr_new HF.out HG8.out nLe
     ·exact HC.out.grown HG8.out (fun k e => by cases e; omega)
    | false =>
     have h40' : ((C.R.wd p).toList == [40]) = false:=h40
     cases hdc : C.R.is p [100,101,99,108,97,115,115,105,102,121] with
     | true =>
      have HR:=Lh (rd_pr_open (f:=f) (d:=d) hk ht hff h40 hdc)
      have hdc' : ((C.R.wd p).toList == [100,101,99,108,97,115,115,105,102,121]) = true:=hdc
      have hplt : p < C.L.length:=(row_ok C.T C.L).is_lt hdc
      obtain ⟨V,hV⟩ : ∃ V,rd C.R f .op p d = V:=⟨_,rfl⟩
      have HOC : Hid (∀ W,Cur C W p → CP 167 #[C.ptr,.int .i64 (d : Int)] W (RdTo C W V)):=Lh fun W hc => by
       have h1:=hO d p W hd hc hplt (by omega)
       rwa [hV] at h1
      rw [hV] at HR
      clear hk hV
      go_enter Tryz.func152,Tryz.ntmps152
      go_wp2_with (first
       | (go_at_call 32; refine (HPO.out _ HC.out).mono ?_; rintro e wt ⟨rfl,b⟩; have HF:=Lh (gb_trans HF.out (below_fr b _)); have HC:=Lh (HC.out.under b); have HS:=Lh (HS.out.below b HS.out.lt); clear b)
       | (go_at_call 164; refine (HKI.out _ HC.out).mono ?_; rintro e wt ⟨rfl,b⟩; have HF:=Lh (gb_trans HF.out (below_fr b _)); have HC:=Lh (HC.out.under b); have HS:=Lh (HS.out.below b HS.out.lt); clear b)
       | (go_at_call 119; refine (HTK.out _ _ (by decide) HC.out).mono ?_; rintro e wt ⟨rfl,hc,hg,hb⟩; first | (have b:=hb eT; clear hc hg hb; rw [eT]; have HF:=Lh (gb_trans HF.out (below_fr b _)); have HC:=Lh (HC.out.under b); have HS:=Lh (HS.out.below b HS.out.lt); clear b) | (have b:=hb eF; clear hc hg hb; rw [eF]; have HF:=Lh (gb_trans HF.out (below_fr b _)); have HC:=Lh (HC.out.under b); have HS:=Lh (HS.out.below b HS.out.lt); clear b); dsimp only)
       | (go_at_call 56; refine (HPK.out _ HC.out).mono ?_; rintro e wt ⟨rfl,b⟩; have HF:=Lh (gb_trans HF.out (below_fr b _)); have HC:=Lh (HC.out.under b); have HS:=Lh (HS.out.below b HS.out.lt); clear b)
       | (go_at_call 167; refine (HOC.out _ HC.out).mono ?_; rintro e wt ⟨lv,rfl,hx,hg,hc⟩; have hone:=hx.one; have HX:=Lh (hx.weak (S':=fun b => w.heap.size < b) (by intro b h1 _; have:=HS.out.lt; omega)); have HS:=Lh (HS.out.grown hg (by intro e; injection e; omega)); have HF:=Lh (gb_trans HF.out hg); have HC:=Lh hc; clear hx hg hc; dsimp only)
       | (refine wpList_stx rfl (.tmp 4) (.tmp 44) rfl w.heap.size rfl HS.out (e:=V.e) (lv:=lv) rfl hone ?_; intro w8 hg8 hs8; have HG8:=Lh hg8; have HS8:=Lh hs8; clear hg8 hs8)
       | fail)
      rw [HR.out]
      refine ex_done rfl rfl rfl rfl HS8.out ⟨lv,rfl,?_,?_,?_⟩
      ·exact (HX.out.grown HG8.out (fun b hb _ e => by injection e with e; first | omega | (simp at hb; omega))).weak (fun b hb _ => by first | omega | (simp at hb; omega))
      ·exact fr_new HF.out HG8.out nLe
      ·exact HC.out.grown HG8.out (fun k e => by cases e; omega)
     | false =>
      have HR:=Lh (rd_pr_named (f:=f) (d:=d) hk ht hff h40 hdc)
      have hdc' : ((C.R.wd p).toList == [100,101,99,108,97,115,115,105,102,121]) = false:=hdc
      obtain ⟨V,hV⟩ : ∃ V,rd C.R f .nm p d = V:=⟨_,rfl⟩
      have HOC : Hid (∀ W,Cur C W p → CP 168 #[C.ptr,.int .i64 (d : Int)] W (RdTo C W V)):=Lh fun W hc => by
       have h1:=hN d p W hd hc (by omega)
       rwa [hV] at h1
      rw [hV] at HR
      clear hk hV
      go_enter Tryz.func152,Tryz.ntmps152
      go_wp2_with (first
       | (go_at_call 32; refine (HPO.out _ HC.out).mono ?_; rintro e wt ⟨rfl,b⟩; have HF:=Lh (gb_trans HF.out (below_fr b _)); have HC:=Lh (HC.out.under b); have HS:=Lh (HS.out.below b HS.out.lt); clear b)
       | (go_at_call 164; refine (HKI.out _ HC.out).mono ?_; rintro e wt ⟨rfl,b⟩; have HF:=Lh (gb_trans HF.out (below_fr b _)); have HC:=Lh (HC.out.under b); have HS:=Lh (HS.out.below b HS.out.lt); clear b)
       | (go_at_call 119; refine (HTK.out _ _ (by decide) HC.out).mono ?_; rintro e wt ⟨rfl,hc,hg,hb⟩; first | (have b:=hb eT; clear hc hg hb; rw [eT]; have HF:=Lh (gb_trans HF.out (below_fr b _)); have HC:=Lh (HC.out.under b); have HS:=Lh (HS.out.below b HS.out.lt); clear b) | (have b:=hb eF; clear hc hg hb; rw [eF]; have HF:=Lh (gb_trans HF.out (below_fr b _)); have HC:=Lh (HC.out.under b); have HS:=Lh (HS.out.below b HS.out.lt); clear b); dsimp only)
       | (go_at_call 56; refine (HPK.out _ HC.out).mono ?_; rintro e wt ⟨rfl,b⟩; have HF:=Lh (gb_trans HF.out (below_fr b _)); have HC:=Lh (HC.out.under b); have HS:=Lh (HS.out.below b HS.out.lt); clear b)
       | (go_at_call 168; refine (HOC.out _ HC.out).mono ?_; rintro e wt ⟨lv,rfl,hx,hg,hc⟩; have hone:=hx.one; have HX:=Lh (hx.weak (S':=fun b => w.heap.size < b) (by intro b h1 _; have:=HS.out.lt; omega)); have HS:=Lh (HS.out.grown hg (by intro e; injection e; omega)); have HF:=Lh (gb_trans HF.out hg); have HC:=Lh hc; clear hx hg hc; dsimp only)
       | (refine wpList_stx rfl (.tmp 4) (.tmp 49) rfl w.heap.size rfl HS.out (e:=V.e) (lv:=lv) rfl hone ?_; intro w8 hg8 hs8; have HG8:=Lh hg8; have HS8:=Lh hs8; clear hg8 hs8)
       | fail)
      rw [HR.out]
      refine ex_done rfl rfl rfl rfl HS8.out ⟨lv,rfl,?_,?_,?_⟩
      ·exact (HX.out.grown HG8.out (fun b hb _ e => by injection e with e; first | omega | (simp at hb; omega))).weak (fun b hb _ => by first | omega | (simp at hb; omega))
      ·exact fr_new HF.out HG8.out nLe
      ·exact HC.out.grown HG8.out (fun k e => by cases e; omega)
theorem all_step (C : Cx) (hC : TokOk C.T C.L) (hDg : DigOk C) : ∀ f,BinC C f ∧ SgC C f ∧ PrC C f ∧ WiC C f ∧ OpC C f ∧ NmC C f ∧ ArC C f:=by
 intro f
 induction f using Nat.strongRecOn with
 | _ f ih =>
  cases f with
  | zero => exact ⟨fun l d p w h1 h6 hd h hf => by omega,fun d p w hd h hf => by omega,fun d p w hd h hf => by omega,fun d p w ss A n c hd h hf => by omega,fun d p w hd h hp hf => by omega,fun d p w hd h hf => by omega,fun d p w hd h h40 hf => by omega⟩
  | succ f =>
   have hB : ∀ f' ≤ f,BinC C f':=fun f' h => (ih f' (by omega)).1
   obtain ⟨h1,h2,h3,h4,h5,h6,h7⟩:=ih f (by omega)
   exact ⟨bin_step C hC f hB h2,signed_step C hC f h2 h3,primary_step C hC hDg f h4 h5 h6,within_step C hC f h1,open_step C hC f h4,named_step C hC f h7,args_step C hC f hB⟩
end Go.Proofs.YtkjhlgnpohamnaaGreatDoor
