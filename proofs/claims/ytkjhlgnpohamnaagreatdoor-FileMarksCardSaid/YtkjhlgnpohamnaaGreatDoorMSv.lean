import Derived.Test.YtkjhlgnpohamnaaGreatDoorSq
import Derived.Test.YtkjhlgnpohamnaaGreatDoorMSq
import Derived.Test.YtkjhlgnpohamnaaGreatDoorStR
import Derived.BigQuiet
set_option maxHeartbeats 1600000
namespace Go.Proofs.YtkjhlgnpohamnaaGreatDoor
set_option linter.unusedVariables false
set_option linter.unusedSimpArgs false
open Go.RowKit
set_option maxRecDepth 100000 in
theorem step_leave (C : Cx) (hC : TokOk C.T C.L) (hDg : DigOk C) (F : Nat) (hF : 16 * C.L.length + 9 ≤ F) (G : Nat) (D : Int) (rv ov : Value) (rl : List (St × Tv)) (pl : List Pe) (e : Pe) (row : List St) (op : List Bk) (p : Nat) (w : World) (h : Rdr C G D rv ov w (p,0)) (hP : Pl G w rv ov rl (pl ++ [e]))
  (hrow : rl.map (·.1) = row) (hop : pl.map (·.b) = op) (hlen : pl.length < 1000000) (hal : e.al.length < 1000000) (he : endsB C.R p = true) :
  CP 123 #[.pointer (some ⟨G,0,none⟩)] w (RdT C G D (Mc.leave C.R D ⟨row,op ++ [e.b],p,0⟩ e.b) w):=by
 obtain ⟨m,hm⟩ : ∃ m,Mc.leave C.R D ⟨row,op ++ [e.b],p,0⟩ e.b = m:=⟨_,rfl⟩
 have HLV : Hid (∀ W,Rdr C G D rv ov W (p,0) → Pl G W rv ov rl (pl ++ [e]) → CP 135 #[.pointer (some ⟨G,0,none⟩)] W (RdT C G D m W)):=Lh fun W h1 h2 => by
  rw [← hm]
  exact leave_any C hC G D rv ov rl pl e row op p 0 W h1 h2 hrow hop hlen hal
 rw [hm]
 clear hm
 have HEN : Hid (∀ W,Rdr C G D rv ov W (p,0) → CP 122 #[C.ptr] W fun e w' => e = .returned (.bool true) ∧ Below W.heap.size W w'):=Lh fun W hW => by
  have:=ends_any C hC p W hW.cur
  rwa [he] at this
 obtain ⟨n,hn⟩ : ∃ n,pl.length = n:=⟨_,rfl⟩
 obtain ⟨g,co,rfl,hco⟩:=hP.solidF hn
 have hd1 : decide ((0 : Int) < (n : Int) + 1) = true:=decide_eq_true (by omega)
 have hd3 : (0 : Int) < (n : Int) + 1:=by omega
 have g3:=h.c3
 have g0:=h.c0
 have J:=Lh h
 have JP:=Lh hP
 have JT:=Lh (Tn.refl (fun k => k = C.g ∨ G ≤ k) w)
 clear h hP he hn hrow hop hal
 go_enter Tryz.func123,Tryz.ntmps123
 go_wp2_with (first
  | (go_at_call 122; (with_reducible refine (HEN.out _ J.out).mono ?_); rintro _ w1 ⟨rfl,b⟩; have J:=Lh (J.out.under b); have JP:=Lh (JP.out.under b); have JT:=Lh (JT.out.trans (Tn.of_below _ b)); clear b; dsimp only)
  | (go_at_call 135; (with_reducible refine (HLV.out _ J.out JP.out).mono ?_); rintro _ w9 ⟨rv',ov',rl',pl',rfl,hI,hT⟩; have HI:=Lh hI; have HTT:=Lh (JT.out.trans hT); clear hI hT; dsimp only)
  | fail)
 refine bodyPost_ret (results_none rfl _ _ _) rfl ⟨_,_,_,_,rfl,HI.out,HTT.out⟩
set_option maxRecDepth 100000 in
theorem step_z2 (C : Cx) (hC : TokOk C.T C.L) (hDg : DigOk C) (F : Nat) (hF : 16 * C.L.length + 9 ≤ F) (G : Nat) (D : Int) (rv ov : Value) (rl : List (St × Tv)) (pl : List Pe) (row : List St) (op : List Bk) (p : Nat) (w : World) (h : Rdr C G D rv ov w (p,0)) (hP : Pl G w rv ov rl pl)
  (hrow : rl.map (·.1) = row) (hop : pl.map (·.b) = op) (hl1 : rl.length < 1000000) (hl2 : pl.length < 1000000) (hz0 : pl.length = 0) (y : St × (Nat × Int)) (hy : hdS C.R F p = y) (hk : y.1.k = 2) :
  CP 123 #[.pointer (some ⟨G,0,none⟩)] w (RdT C G D (Mc.enter C.R D ⟨row,op,y.2.1,y.2.2⟩ ⟨y.1,row,false⟩) w):=by
 have hgt:=h.gt
 have hGw:=h.v.lt
 have hz:=zeroSt
 have hnl:=hdS_nil C.R F p
 rw [hy] at hnl
 obtain ⟨Ar,cr,rfl⟩:=hP.row.form
 obtain ⟨Ao,co,rfl⟩:=hP.op.form
 have hd1 : decide ((0 : Int) < (pl.length : Int)) = false:=decide_eq_false (by omega)
 have hd2 : decide (0 < pl.length) = false:=decide_eq_false (by omega)
 have hd3 : ¬ (0 : Int) < (pl.length : Int):=by omega
 have k2 : (y.1.k == 2) = true:=by simp [hk]
 have k3 : (y.1.k == 3) = false:=by simp [hk]
 have k2' : decide (y.1.k = 2) = true:=by simp [hk]
 have k3' : decide (y.1.k = 3) = false:=by simp [hk]
 have HHD : Hid (∀ W,Rdr C G D (Value.slice Ar rl.length cr) (Value.slice Ao pl.length co) W (p,0) → CP 136 #[.pointer (some ⟨G,0,none⟩)] W (HeadTo C G D (Value.slice Ar rl.length cr) (Value.slice Ao pl.length co) y W)):=Lh fun W hW => by
  rw [← hy]
  exact head_any C hC hDg F hF G D (Value.slice Ar rl.length cr) (Value.slice Ao pl.length co) p W hW
 have g3:=h.c3
 have g0:=h.c0
 have J:=Lh h
 have JP:=Lh hP
 have JT:=Lh (Tn.refl (fun k => k = C.g ∨ G ≤ k) w)
 clear h hP hy hz0  hk
 go_enter Tryz.func123,Tryz.ntmps123
 go_wp2_with (first
  | (go_at_call 136; (with_reducible refine (HHD.out _ J.out).mono ?_); rintro _ w2 ⟨lv,rfl,hr,hx,ht⟩; have hsz:=ht.size; have JX:=Lh (show TrS w2 (Fx G (Value.slice Ar rl.length cr) (Value.slice Ao pl.length co) pl) y.1 ⟨lv,.slice none 0 0,.slice none 0 0⟩ from ⟨hx.weak (fun b hb _ => ⟨Nat.lt_of_lt_of_le J.out.v.lt hb,fun hm => by have:=(JP.out.mu_lt hm).2; have hb : _ ≤ b:=hb; omega⟩),by rw [hnl.1]; exact .nil,by rw [hnl.2]; exact .nil⟩); have JP:=Lh (JP.out.turn ht (by intro k hk _ h; have:=J.out.gt; rcases h with h | h <;> omega)); have JT:=Lh (JT.out.trans (ht.weak (M':=fun k => k = C.g ∨ G ≤ k) (fun k _ h => h.elim .inl (fun h => .inr (by omega))))); have J:=Lh hr; clear hr hx ht; dsimp only; refine Hid.out ?_)
  | fail)
 clear g3 g0
 obtain ⟨Ae,ce,rfl,_⟩:=JX.out.e.len
 have hone:=JX.out.one
 have hG2 : G < w2.heap.size:=J.out.v.lt
 have hs1 : Hid ((w2.alloc (.cells z17 118)).heap.size = w2.heap.size + 1):=Lh (by simp)
 refine Lh ?_
 go_wp2_with (first
  | (refine wpList_stV rfl 118 (.tmp 2) (.tmp 19) rfl (G:=w2.heap.size) (off:=0) rfl (us:=stC y.1 ⟨.slice Ae y.1.e.l.length ce,.slice none 0 0,.slice none 0 0⟩) (Var.new w2 (stC St.nul Tv.nul) 118 rfl) rfl info_st (Nat.le_refl 17) hone ?_; intro w3 ht hs; have hsz3:=ht.size; rw [hs1.out] at hsz3; have JU:=Lh ((Tn.alloc (fun k => k = w2.heap.size) w2 (.cells z17 118)).trans ht); have J:=Lh (J.out.turn JU.out (fun k hk e => by omega)); have JT:=Lh (JT.out.trans (JU.out.weak (fun k _ h => .inr (by omega)))); have JP:=Lh (JP.out.turn JU.out (fun k h1 h2 h => by omega)); have JX:=Lh (JX.out.turn (S':=(Fx G (Value.slice Ar rl.length cr) (Value.slice Ao pl.length co) pl)) JU.out (fun b hb h2 => ⟨hb,fun h => by omega⟩)); have JV:=Lh (show Var w3 w2.heap.size (stC y.1 ⟨.slice Ae y.1.e.l.length ce,.slice none 0 0,.slice none 0 0⟩) from hs); clear ht hs JU; dsimp only; refine Hid.out ?_)
  | fail)
 have k0 : w3.cell? ⟨w2.heap.size,0,none⟩ = some (.int .i64 y.1.k):=JV.out.at 0 rfl
 refine Lh ?_
 go_wp2_with fail
 clear k0
 have J:=Lh (J.out.under (below_drew _ _))
 have JP:=Lh (JP.out.under (below_drew _ _))
 have JX:=Lh (JX.out.turn (S':=(Fx G (Value.slice Ar rl.length cr) (Value.slice Ao pl.length co) pl)) (Tn.drew (fun _ => False) _) (fun b hb _ => ⟨hb,fun h => h⟩))
 have JV:=Lh (JV.out.under (below_drew _ _))
 have JT:=Lh (JT.out.trans (Tn.drew _ _))
 obtain ⟨S,hSd⟩ : ∃ S : World → Prop,S = fun W => W.rangeAt w2.heap.size 0 [.int .i64 y.1.k,.int .i64 y.1.a,.string y.1.nm,.int .i64 y.1.ty,.bool y.1.an.so,.bool y.1.an.lk,.string y.1.an.lb,.int .i64 y.1.an.fr,.int .i64 y.1.an.to,.int .i64 y.1.e.k,.int .i64 y.1.e.a,.int .i64 y.1.e.m,.string y.1.e.nm,.string y.1.e.lb,.slice Ae y.1.e.l.length ce,.slice none 0 0,.slice none 0 0] ∧ W.cell? ⟨G,2,none⟩ = some (Value.slice Ar rl.length cr):=⟨_,rfl⟩
 have hSF : ∀ W,S W → W.rangeAt w2.heap.size 0 [.int .i64 y.1.k,.int .i64 y.1.a,.string y.1.nm,.int .i64 y.1.ty,.bool y.1.an.so,.bool y.1.an.lk,.string y.1.an.lb,.int .i64 y.1.an.fr,.int .i64 y.1.an.to,.int .i64 y.1.e.k,.int .i64 y.1.e.a,.int .i64 y.1.e.m,.string y.1.e.nm,.string y.1.e.lb,.slice Ae y.1.e.l.length ce,.slice none 0 0,.slice none 0 0] ∧ W.cell? ⟨G,2,none⟩ = some (Value.slice Ar rl.length cr):=by rw [hSd]; exact fun W h => h
 have hS0 : S w3.drew:=by rw [hSd]; exact ⟨JV.out.rg,J.out.c2⟩
 have hSa : S (w3.drew.alloc (.cells (stC St.nul Tv.nul).toArray 118)):=by rw [hSd]; exact ⟨(JV.out.under bAl).rg,(J.out.new _).c2⟩
 have s2 : ∀ s : SW S,s.w.cell? ⟨G,2,none⟩ = some (Value.slice Ar rl.length cr):=fun s => (hSF _ s.h).2
 have sK : ∀ W,S W → W.rangeAt w2.heap.size 0 [.int .i64 y.1.k,.int .i64 y.1.a,.string y.1.nm,.int .i64 y.1.ty,.bool y.1.an.so,.bool y.1.an.lk,.string y.1.an.lb,.int .i64 y.1.an.fr,.int .i64 y.1.an.to,.int .i64 y.1.e.k,.int .i64 y.1.e.a,.int .i64 y.1.e.m,.string y.1.e.nm,.string y.1.e.lb,.slice Ae y.1.e.l.length ce,.slice none 0 0,.slice none 0 0]:=fun W h => (hSF W h).1
 clear hSd hSF
 have HER : Hid (∀ W,Rdr C G D (Value.slice Ar rl.length cr) (Value.slice Ao pl.length co) W y.2 → Pl G W (Value.slice Ar rl.length cr) (Value.slice Ao pl.length co) rl pl → TrS W (Fx G (Value.slice Ar rl.length cr) (Value.slice Ao pl.length co) pl) y.1 ⟨.slice Ae y.1.e.l.length ce,.slice none 0 0,.slice none 0 0⟩ → CP 137 #[.pointer (some ⟨G,0,none⟩),.agg #[.int .i64 y.1.k,.int .i64 y.1.a,.string y.1.nm,.int .i64 y.1.ty,.bool y.1.an.so,.bool y.1.an.lk,.string y.1.an.lb,.int .i64 y.1.an.fr,.int .i64 y.1.an.to,.int .i64 y.1.e.k,.int .i64 y.1.e.a,.int .i64 y.1.e.m,.string y.1.e.nm,.string y.1.e.lb,.slice Ae y.1.e.l.length ce,.slice none 0 0,.slice none 0 0,.slice Ar rl.length cr,.bool false]] W (RdT C G D (Mc.enter C.R D ⟨row,op,y.2.1,y.2.2⟩ ⟨y.1,row,false⟩) W)):=Lh fun W h1 h2 h3 =>
  enter_any C hC G D (Value.slice Ar rl.length cr) (Value.slice Ar rl.length cr) (Value.slice Ao pl.length co) rl pl op ⟨y.1,row,false⟩ ⟨.slice Ae y.1.e.l.length ce,.slice none 0 0,.slice none 0 0⟩ row y.2.1 y.2.2 W h1 h2 hop hrow h3 hl2
 refine region_start (by kernel_rfl) 8 rfl ?_
 refine wpAny_hold S 7 (by kernel_rfl) ?_
 refine wpM_next 0 1 7 (by kernel_rfl) (fun _ _ d _ _ h => by cases d <;> exact h) hS0 (fun hne => ?_)
 simp only [sD,sE,sF,sG]
 repeat (go_big_quiet_step (fail))
 refine wpQuiet_nil ?_
 refine wpM_take 1 (fuel:=6) (.agg (List.toArray [.int .i64 y.1.k,.int .i64 y.1.a,.string y.1.nm,.int .i64 y.1.ty,.bool y.1.an.so,.bool y.1.an.lk,.string y.1.an.lb,.int .i64 y.1.an.fr,.int .i64 y.1.an.to,.int .i64 y.1.e.k,.int .i64 y.1.e.a,.int .i64 y.1.e.m,.string y.1.e.nm,.string y.1.e.lb,.slice Ae y.1.e.l.length ce,.slice none 0 0,.slice none 0 0])) (by kernel_rfl) (fun _ _ d _ _ h => by cases d <;> exact h) rfl hS0 (yieldsIf_load_mid rfl 118 (.tmp 2) rfl w2.heap.size 0 rfl [.int .i64 y.1.k,.int .i64 y.1.a,.string y.1.nm,.int .i64 y.1.ty,.bool y.1.an.so,.bool y.1.an.lk,.string y.1.an.lb,.int .i64 y.1.an.fr,.int .i64 y.1.an.to,.int .i64 y.1.e.k,.int .i64 y.1.e.a,.int .i64 y.1.e.m,.string y.1.e.nm,.string y.1.e.lb,.slice Ae y.1.e.l.length ce,.slice none 0 0,.slice none 0 0] _ sK Tryz.underlying118 rfl info_st) ?_
 simp only [Act.put,sA,sB,sC]
 refine wpM_next 2 5 1 (by kernel_rfl) (fun _ _ d _ _ h => by cases d <;> exact h) hS0 (fun hne => ?_)
 simp only [sD,sE,sF,sG]
 repeat (go_big_quiet_step (fail))
 refine wpQuiet_nil ?_
 refine wpM_late (i:=7) (fuel:=0) (by kernel_rfl) (by omega) rfl (fun KK hKK => ?_)
 clear hS0 hSa s2 sK
 go_simp
 refine (HER.out _ J.out JP.out JX.out).mono ?_
 rintro _ w9 ⟨rv',ov',rl',pl',rfl,hI,hT⟩
 have HI:=Lh hI
 have HTT:=Lh (JT.out.trans hT)
 clear hI hT
 refine hKK _ _ ?_
 clear hKK KK
 refine wpAny_done (by kernel_rfl) ?_ _
 go_wp2_with fail
 refine bodyPost_ret (results_none rfl _ _ _) rfl ⟨_,_,_,_,rfl,HI.out,HTT.out⟩
set_option maxRecDepth 100000 in
theorem step_z3 (C : Cx) (hC : TokOk C.T C.L) (hDg : DigOk C) (F : Nat) (hF : 16 * C.L.length + 9 ≤ F) (G : Nat) (D : Int) (rv ov : Value) (rl : List (St × Tv)) (pl : List Pe) (row : List St) (op : List Bk) (p : Nat) (w : World) (h : Rdr C G D rv ov w (p,0)) (hP : Pl G w rv ov rl pl)
  (hrow : rl.map (·.1) = row) (hop : pl.map (·.b) = op) (hl1 : rl.length < 1000000) (hl2 : pl.length < 1000000) (hz0 : pl.length = 0) (y : St × (Nat × Int)) (hy : hdS C.R F p = y) (hk : y.1.k = 3) :
  CP 123 #[.pointer (some ⟨G,0,none⟩)] w (RdT C G D (Mc.enter C.R D ⟨row,op,y.2.1,y.2.2⟩ ⟨y.1,row,false⟩) w):=by
 have hgt:=h.gt
 have hGw:=h.v.lt
 have hz:=zeroSt
 have hnl:=hdS_nil C.R F p
 rw [hy] at hnl
 obtain ⟨Ar,cr,rfl⟩:=hP.row.form
 obtain ⟨Ao,co,rfl⟩:=hP.op.form
 have hd1 : decide ((0 : Int) < (pl.length : Int)) = false:=decide_eq_false (by omega)
 have hd2 : decide (0 < pl.length) = false:=decide_eq_false (by omega)
 have hd3 : ¬ (0 : Int) < (pl.length : Int):=by omega
 have k2 : (y.1.k == 2) = false:=by simp [hk]
 have k3 : (y.1.k == 3) = true:=by simp [hk]
 have k2' : decide (y.1.k = 2) = false:=by simp [hk]
 have k3' : decide (y.1.k = 3) = true:=by simp [hk]
 have HHD : Hid (∀ W,Rdr C G D (Value.slice Ar rl.length cr) (Value.slice Ao pl.length co) W (p,0) → CP 136 #[.pointer (some ⟨G,0,none⟩)] W (HeadTo C G D (Value.slice Ar rl.length cr) (Value.slice Ao pl.length co) y W)):=Lh fun W hW => by
  rw [← hy]
  exact head_any C hC hDg F hF G D (Value.slice Ar rl.length cr) (Value.slice Ao pl.length co) p W hW
 have g3:=h.c3
 have g0:=h.c0
 have J:=Lh h
 have JP:=Lh hP
 have JT:=Lh (Tn.refl (fun k => k = C.g ∨ G ≤ k) w)
 clear h hP hy hz0  hk
 go_enter Tryz.func123,Tryz.ntmps123
 go_wp2_with (first
  | (go_at_call 136; (with_reducible refine (HHD.out _ J.out).mono ?_); rintro _ w2 ⟨lv,rfl,hr,hx,ht⟩; have hsz:=ht.size; have JX:=Lh (show TrS w2 (Fx G (Value.slice Ar rl.length cr) (Value.slice Ao pl.length co) pl) y.1 ⟨lv,.slice none 0 0,.slice none 0 0⟩ from ⟨hx.weak (fun b hb _ => ⟨Nat.lt_of_lt_of_le J.out.v.lt hb,fun hm => by have:=(JP.out.mu_lt hm).2; have hb : _ ≤ b:=hb; omega⟩),by rw [hnl.1]; exact .nil,by rw [hnl.2]; exact .nil⟩); have JP:=Lh (JP.out.turn ht (by intro k hk _ h; have:=J.out.gt; rcases h with h | h <;> omega)); have JT:=Lh (JT.out.trans (ht.weak (M':=fun k => k = C.g ∨ G ≤ k) (fun k _ h => h.elim .inl (fun h => .inr (by omega))))); have J:=Lh hr; clear hr hx ht; dsimp only; refine Hid.out ?_)
  | fail)
 clear g3 g0
 obtain ⟨Ae,ce,rfl,_⟩:=JX.out.e.len
 have hone:=JX.out.one
 have hG2 : G < w2.heap.size:=J.out.v.lt
 have hs1 : Hid ((w2.alloc (.cells z17 118)).heap.size = w2.heap.size + 1):=Lh (by simp)
 refine Lh ?_
 go_wp2_with (first
  | (refine wpList_stV rfl 118 (.tmp 2) (.tmp 19) rfl (G:=w2.heap.size) (off:=0) rfl (us:=stC y.1 ⟨.slice Ae y.1.e.l.length ce,.slice none 0 0,.slice none 0 0⟩) (Var.new w2 (stC St.nul Tv.nul) 118 rfl) rfl info_st (Nat.le_refl 17) hone ?_; intro w3 ht hs; have hsz3:=ht.size; rw [hs1.out] at hsz3; have JU:=Lh ((Tn.alloc (fun k => k = w2.heap.size) w2 (.cells z17 118)).trans ht); have J:=Lh (J.out.turn JU.out (fun k hk e => by omega)); have JT:=Lh (JT.out.trans (JU.out.weak (fun k _ h => .inr (by omega)))); have JP:=Lh (JP.out.turn JU.out (fun k h1 h2 h => by omega)); have JX:=Lh (JX.out.turn (S':=(Fx G (Value.slice Ar rl.length cr) (Value.slice Ao pl.length co) pl)) JU.out (fun b hb h2 => ⟨hb,fun h => by omega⟩)); have JV:=Lh (show Var w3 w2.heap.size (stC y.1 ⟨.slice Ae y.1.e.l.length ce,.slice none 0 0,.slice none 0 0⟩) from hs); clear ht hs JU; dsimp only; refine Hid.out ?_)
  | fail)
 have k0 : w3.cell? ⟨w2.heap.size,0,none⟩ = some (.int .i64 y.1.k):=JV.out.at 0 rfl
 refine Lh ?_
 go_wp2_with fail
 clear k0
 have J:=Lh (J.out.under (below_drew _ _))
 have JP:=Lh (JP.out.under (below_drew _ _))
 have JX:=Lh (JX.out.turn (S':=(Fx G (Value.slice Ar rl.length cr) (Value.slice Ao pl.length co) pl)) (Tn.drew (fun _ => False) _) (fun b hb _ => ⟨hb,fun h => h⟩))
 have JV:=Lh (JV.out.under (below_drew _ _))
 have JT:=Lh (JT.out.trans (Tn.drew _ _))
 obtain ⟨S,hSd⟩ : ∃ S : World → Prop,S = fun W => W.rangeAt w2.heap.size 0 [.int .i64 y.1.k,.int .i64 y.1.a,.string y.1.nm,.int .i64 y.1.ty,.bool y.1.an.so,.bool y.1.an.lk,.string y.1.an.lb,.int .i64 y.1.an.fr,.int .i64 y.1.an.to,.int .i64 y.1.e.k,.int .i64 y.1.e.a,.int .i64 y.1.e.m,.string y.1.e.nm,.string y.1.e.lb,.slice Ae y.1.e.l.length ce,.slice none 0 0,.slice none 0 0] ∧ W.cell? ⟨G,2,none⟩ = some (Value.slice Ar rl.length cr):=⟨_,rfl⟩
 have hSF : ∀ W,S W → W.rangeAt w2.heap.size 0 [.int .i64 y.1.k,.int .i64 y.1.a,.string y.1.nm,.int .i64 y.1.ty,.bool y.1.an.so,.bool y.1.an.lk,.string y.1.an.lb,.int .i64 y.1.an.fr,.int .i64 y.1.an.to,.int .i64 y.1.e.k,.int .i64 y.1.e.a,.int .i64 y.1.e.m,.string y.1.e.nm,.string y.1.e.lb,.slice Ae y.1.e.l.length ce,.slice none 0 0,.slice none 0 0] ∧ W.cell? ⟨G,2,none⟩ = some (Value.slice Ar rl.length cr):=by rw [hSd]; exact fun W h => h
 have hS0 : S w3.drew:=by rw [hSd]; exact ⟨JV.out.rg,J.out.c2⟩
 have hSa : S (w3.drew.alloc (.cells (stC St.nul Tv.nul).toArray 118)):=by rw [hSd]; exact ⟨(JV.out.under bAl).rg,(J.out.new _).c2⟩
 have s2 : ∀ s : SW S,s.w.cell? ⟨G,2,none⟩ = some (Value.slice Ar rl.length cr):=fun s => (hSF _ s.h).2
 have sK : ∀ W,S W → W.rangeAt w2.heap.size 0 [.int .i64 y.1.k,.int .i64 y.1.a,.string y.1.nm,.int .i64 y.1.ty,.bool y.1.an.so,.bool y.1.an.lk,.string y.1.an.lb,.int .i64 y.1.an.fr,.int .i64 y.1.an.to,.int .i64 y.1.e.k,.int .i64 y.1.e.a,.int .i64 y.1.e.m,.string y.1.e.nm,.string y.1.e.lb,.slice Ae y.1.e.l.length ce,.slice none 0 0,.slice none 0 0]:=fun W h => (hSF W h).1
 clear hSd hSF
 have HER : Hid (∀ W,Rdr C G D (Value.slice Ar rl.length cr) (Value.slice Ao pl.length co) W y.2 → Pl G W (Value.slice Ar rl.length cr) (Value.slice Ao pl.length co) rl pl → TrS W (Fx G (Value.slice Ar rl.length cr) (Value.slice Ao pl.length co) pl) y.1 ⟨.slice Ae y.1.e.l.length ce,.slice none 0 0,.slice none 0 0⟩ → CP 137 #[.pointer (some ⟨G,0,none⟩),.agg #[.int .i64 y.1.k,.int .i64 y.1.a,.string y.1.nm,.int .i64 y.1.ty,.bool y.1.an.so,.bool y.1.an.lk,.string y.1.an.lb,.int .i64 y.1.an.fr,.int .i64 y.1.an.to,.int .i64 y.1.e.k,.int .i64 y.1.e.a,.int .i64 y.1.e.m,.string y.1.e.nm,.string y.1.e.lb,.slice Ae y.1.e.l.length ce,.slice none 0 0,.slice none 0 0,.slice Ar rl.length cr,.bool false]] W (RdT C G D (Mc.enter C.R D ⟨row,op,y.2.1,y.2.2⟩ ⟨y.1,row,false⟩) W)):=Lh fun W h1 h2 h3 =>
  enter_any C hC G D (Value.slice Ar rl.length cr) (Value.slice Ar rl.length cr) (Value.slice Ao pl.length co) rl pl op ⟨y.1,row,false⟩ ⟨.slice Ae y.1.e.l.length ce,.slice none 0 0,.slice none 0 0⟩ row y.2.1 y.2.2 W h1 h2 hop hrow h3 hl2
 refine region_start (by kernel_rfl) 8 rfl ?_
 refine wpAny_hold S 7 (by kernel_rfl) ?_
 refine wpM_next 0 1 7 (by kernel_rfl) (fun _ _ d _ _ h => by cases d <;> exact h) hS0 (fun hne => ?_)
 simp only [sD,sE,sF,sG]
 repeat (go_big_quiet_step (fail))
 refine wpQuiet_nil ?_
 refine wpM_take 1 (fuel:=6) (.agg (List.toArray [.int .i64 y.1.k,.int .i64 y.1.a,.string y.1.nm,.int .i64 y.1.ty,.bool y.1.an.so,.bool y.1.an.lk,.string y.1.an.lb,.int .i64 y.1.an.fr,.int .i64 y.1.an.to,.int .i64 y.1.e.k,.int .i64 y.1.e.a,.int .i64 y.1.e.m,.string y.1.e.nm,.string y.1.e.lb,.slice Ae y.1.e.l.length ce,.slice none 0 0,.slice none 0 0])) (by kernel_rfl) (fun _ _ d _ _ h => by cases d <;> exact h) rfl hS0 (yieldsIf_load_mid rfl 118 (.tmp 2) rfl w2.heap.size 0 rfl [.int .i64 y.1.k,.int .i64 y.1.a,.string y.1.nm,.int .i64 y.1.ty,.bool y.1.an.so,.bool y.1.an.lk,.string y.1.an.lb,.int .i64 y.1.an.fr,.int .i64 y.1.an.to,.int .i64 y.1.e.k,.int .i64 y.1.e.a,.int .i64 y.1.e.m,.string y.1.e.nm,.string y.1.e.lb,.slice Ae y.1.e.l.length ce,.slice none 0 0,.slice none 0 0] _ sK Tryz.underlying118 rfl info_st) ?_
 simp only [Act.put,sA,sB,sC]
 refine wpM_next 2 5 1 (by kernel_rfl) (fun _ _ d _ _ h => by cases d <;> exact h) hS0 (fun hne => ?_)
 simp only [sD,sE,sF,sG]
 repeat (go_big_quiet_step (fail))
 refine wpQuiet_nil ?_
 refine wpM_late (i:=7) (fuel:=0) (by kernel_rfl) (by omega) rfl (fun KK hKK => ?_)
 clear hS0 hSa s2 sK
 go_simp
 refine (HER.out _ J.out JP.out JX.out).mono ?_
 rintro _ w9 ⟨rv',ov',rl',pl',rfl,hI,hT⟩
 have HI:=Lh hI
 have HTT:=Lh (JT.out.trans hT)
 clear hI hT
 refine hKK _ _ ?_
 clear hKK KK
 refine wpAny_done (by kernel_rfl) ?_ _
 go_wp2_with fail
 refine bodyPost_ret (results_none rfl _ _ _) rfl ⟨_,_,_,_,rfl,HI.out,HTT.out⟩
set_option maxRecDepth 100000 in
theorem step_zo (C : Cx) (hC : TokOk C.T C.L) (hDg : DigOk C) (F : Nat) (hF : 16 * C.L.length + 9 ≤ F) (G : Nat) (D : Int) (rv ov : Value) (rl : List (St × Tv)) (pl : List Pe) (row : List St) (op : List Bk) (p : Nat) (w : World) (h : Rdr C G D rv ov w (p,0)) (hP : Pl G w rv ov rl pl)
  (hrow : rl.map (·.1) = row) (hop : pl.map (·.b) = op) (hl1 : rl.length < 1000000) (hl2 : pl.length < 1000000) (hz0 : pl.length = 0) (y : St × (Nat × Int)) (hy : hdS C.R F p = y) (hk2 : ¬ y.1.k = 2) (hk3 : ¬ y.1.k = 3) :
  CP 123 #[.pointer (some ⟨G,0,none⟩)] w (RdT C G D ⟨row ++ [y.1],op,y.2.1,y.2.2⟩ w):=by
 have hgt:=h.gt
 have hGw:=h.v.lt
 have hz:=zeroSt
 have hnl:=hdS_nil C.R F p
 rw [hy] at hnl
 obtain ⟨Ar,cr,rfl⟩:=hP.row.form
 obtain ⟨Ao,co,rfl⟩:=hP.op.form
 have hd1 : decide ((0 : Int) < (pl.length : Int)) = false:=decide_eq_false (by omega)
 have hd2 : decide (0 < pl.length) = false:=decide_eq_false (by omega)
 have hd3 : ¬ (0 : Int) < (pl.length : Int):=by omega
 have k2 : (y.1.k == 2) = false:=by simp [hk2,hk3]
 have k3 : (y.1.k == 3) = false:=by simp [hk2,hk3]
 have k2' : decide (y.1.k = 2) = false:=by simp [hk2,hk3]
 have k3' : decide (y.1.k = 3) = false:=by simp [hk2,hk3]
 have HHD : Hid (∀ W,Rdr C G D (Value.slice Ar rl.length cr) (Value.slice Ao pl.length co) W (p,0) → CP 136 #[.pointer (some ⟨G,0,none⟩)] W (HeadTo C G D (Value.slice Ar rl.length cr) (Value.slice Ao pl.length co) y W)):=Lh fun W hW => by
  rw [← hy]
  exact head_any C hC hDg F hF G D (Value.slice Ar rl.length cr) (Value.slice Ao pl.length co) p W hW
 have g3:=h.c3
 have g0:=h.c0
 have J:=Lh h
 have JP:=Lh hP
 have JT:=Lh (Tn.refl (fun k => k = C.g ∨ G ≤ k) w)
 clear h hP hy hz0  hk2 hk3
 go_enter Tryz.func123,Tryz.ntmps123
 go_wp2_with (first
  | (go_at_call 136; (with_reducible refine (HHD.out _ J.out).mono ?_); rintro _ w2 ⟨lv,rfl,hr,hx,ht⟩; have hsz:=ht.size; have JX:=Lh (show TrS w2 (Fx G (Value.slice Ar rl.length cr) (Value.slice Ao pl.length co) pl) y.1 ⟨lv,.slice none 0 0,.slice none 0 0⟩ from ⟨hx.weak (fun b hb _ => ⟨Nat.lt_of_lt_of_le J.out.v.lt hb,fun hm => by have:=(JP.out.mu_lt hm).2; have hb : _ ≤ b:=hb; omega⟩),by rw [hnl.1]; exact .nil,by rw [hnl.2]; exact .nil⟩); have JP:=Lh (JP.out.turn ht (by intro k hk _ h; have:=J.out.gt; rcases h with h | h <;> omega)); have JT:=Lh (JT.out.trans (ht.weak (M':=fun k => k = C.g ∨ G ≤ k) (fun k _ h => h.elim .inl (fun h => .inr (by omega))))); have J:=Lh hr; clear hr hx ht; dsimp only; refine Hid.out ?_)
  | fail)
 clear g3 g0
 obtain ⟨Ae,ce,rfl,_⟩:=JX.out.e.len
 have hone:=JX.out.one
 have hG2 : G < w2.heap.size:=J.out.v.lt
 have hs1 : Hid ((w2.alloc (.cells z17 118)).heap.size = w2.heap.size + 1):=Lh (by simp)
 refine Lh ?_
 go_wp2_with (first
  | (refine wpList_stV rfl 118 (.tmp 2) (.tmp 19) rfl (G:=w2.heap.size) (off:=0) rfl (us:=stC y.1 ⟨.slice Ae y.1.e.l.length ce,.slice none 0 0,.slice none 0 0⟩) (Var.new w2 (stC St.nul Tv.nul) 118 rfl) rfl info_st (Nat.le_refl 17) hone ?_; intro w3 ht hs; have hsz3:=ht.size; rw [hs1.out] at hsz3; have JU:=Lh ((Tn.alloc (fun k => k = w2.heap.size) w2 (.cells z17 118)).trans ht); have J:=Lh (J.out.turn JU.out (fun k hk e => by omega)); have JT:=Lh (JT.out.trans (JU.out.weak (fun k _ h => .inr (by omega)))); have JP:=Lh (JP.out.turn JU.out (fun k h1 h2 h => by omega)); have JX:=Lh (JX.out.turn (S':=(Fx G (Value.slice Ar rl.length cr) (Value.slice Ao pl.length co) pl)) JU.out (fun b hb h2 => ⟨hb,fun h => by omega⟩)); have JV:=Lh (show Var w3 w2.heap.size (stC y.1 ⟨.slice Ae y.1.e.l.length ce,.slice none 0 0,.slice none 0 0⟩) from hs); clear ht hs JU; dsimp only; refine Hid.out ?_)
  | fail)
 have k0 : w3.cell? ⟨w2.heap.size,0,none⟩ = some (.int .i64 y.1.k):=JV.out.at 0 rfl
 refine Lh ?_
 go_wp2_with fail
 clear k0
 have J:=Lh (J.out.under (below_drew _ _))
 have JP:=Lh (JP.out.under (below_drew _ _))
 have JX:=Lh (JX.out.turn (S':=(Fx G (Value.slice Ar rl.length cr) (Value.slice Ao pl.length co) pl)) (Tn.drew (fun _ => False) _) (fun b hb _ => ⟨hb,fun h => h⟩))
 have JV:=Lh (JV.out.under (below_drew _ _))
 have JT:=Lh (JT.out.trans (Tn.drew _ _))
 obtain ⟨S,hSd⟩ : ∃ S : World → Prop,S = fun W => W.rangeAt w2.heap.size 0 [.int .i64 y.1.k,.int .i64 y.1.a,.string y.1.nm,.int .i64 y.1.ty,.bool y.1.an.so,.bool y.1.an.lk,.string y.1.an.lb,.int .i64 y.1.an.fr,.int .i64 y.1.an.to,.int .i64 y.1.e.k,.int .i64 y.1.e.a,.int .i64 y.1.e.m,.string y.1.e.nm,.string y.1.e.lb,.slice Ae y.1.e.l.length ce,.slice none 0 0,.slice none 0 0] ∧ W.cell? ⟨G,2,none⟩ = some (Value.slice Ar rl.length cr):=⟨_,rfl⟩
 have hSF : ∀ W,S W → W.rangeAt w2.heap.size 0 [.int .i64 y.1.k,.int .i64 y.1.a,.string y.1.nm,.int .i64 y.1.ty,.bool y.1.an.so,.bool y.1.an.lk,.string y.1.an.lb,.int .i64 y.1.an.fr,.int .i64 y.1.an.to,.int .i64 y.1.e.k,.int .i64 y.1.e.a,.int .i64 y.1.e.m,.string y.1.e.nm,.string y.1.e.lb,.slice Ae y.1.e.l.length ce,.slice none 0 0,.slice none 0 0] ∧ W.cell? ⟨G,2,none⟩ = some (Value.slice Ar rl.length cr):=by rw [hSd]; exact fun W h => h
 have hS0 : S w3.drew:=by rw [hSd]; exact ⟨JV.out.rg,J.out.c2⟩
 have hSa : S (w3.drew.alloc (.cells (stC St.nul Tv.nul).toArray 118)):=by rw [hSd]; exact ⟨(JV.out.under bAl).rg,(J.out.new _).c2⟩
 have s2 : ∀ s : SW S,s.w.cell? ⟨G,2,none⟩ = some (Value.slice Ar rl.length cr):=fun s => (hSF _ s.h).2
 have sK : ∀ W,S W → W.rangeAt w2.heap.size 0 [.int .i64 y.1.k,.int .i64 y.1.a,.string y.1.nm,.int .i64 y.1.ty,.bool y.1.an.so,.bool y.1.an.lk,.string y.1.an.lb,.int .i64 y.1.an.fr,.int .i64 y.1.an.to,.int .i64 y.1.e.k,.int .i64 y.1.e.a,.int .i64 y.1.e.m,.string y.1.e.nm,.string y.1.e.lb,.slice Ae y.1.e.l.length ce,.slice none 0 0,.slice none 0 0]:=fun W h => (hSF W h).1
 clear hSd hSF
 have hown:=JP.out.row
 have hnn : (rl.length : Int) < (rl.length : Int) + 1:=by omega
 refine region_start (by kernel_rfl) 13 rfl ?_
 refine wpAny_hold S 7 (by kernel_rfl) ?_
 refine wpM_next 0 4 9 (by kernel_rfl) (fun _ _ d _ _ h => by cases d <;> exact h) hS0 (fun hne => ?_)
 simp only [sD,sE,sF,sG]
 repeat (go_big_quiet_step (fail))
 refine wpQuiet_nil ?_
 refine wpM_take 4 (fuel:=8) (.agg (List.toArray [.int .i64 y.1.k,.int .i64 y.1.a,.string y.1.nm,.int .i64 y.1.ty,.bool y.1.an.so,.bool y.1.an.lk,.string y.1.an.lb,.int .i64 y.1.an.fr,.int .i64 y.1.an.to,.int .i64 y.1.e.k,.int .i64 y.1.e.a,.int .i64 y.1.e.m,.string y.1.e.nm,.string y.1.e.lb,.slice Ae y.1.e.l.length ce,.slice none 0 0,.slice none 0 0])) (by kernel_rfl) (fun _ _ d _ _ h => by cases d <;> exact h) rfl hS0 (yieldsIf_load_mid rfl 118 (.tmp 2) rfl w2.heap.size 0 rfl [.int .i64 y.1.k,.int .i64 y.1.a,.string y.1.nm,.int .i64 y.1.ty,.bool y.1.an.so,.bool y.1.an.lk,.string y.1.an.lb,.int .i64 y.1.an.fr,.int .i64 y.1.an.to,.int .i64 y.1.e.k,.int .i64 y.1.e.a,.int .i64 y.1.e.m,.string y.1.e.nm,.string y.1.e.lb,.slice Ae y.1.e.l.length ce,.slice none 0 0,.slice none 0 0] _ sK Tryz.underlying118 rfl info_st) ?_
 simp only [Act.put,sA,sB,sC]
 refine wpM_next 5 1 7 (by kernel_rfl) (fun _ _ d _ _ h => by cases d <;> exact h) hS0 (fun hne => ?_)
 simp only [sD,sE,sF,sG]
 repeat (go_big_quiet_step (fail))
 refine wpQuiet_nil ?_
 refine wpM_one (i:=6) (fuel:=6) (by kernel_rfl) (by omega) rfl (fun KK hKK => ?_)
 refine step_build1 rfl 74 118 (.const (.agg #[.int .i64 0,.int .i64 0,.string ⟨#[]⟩,.int .i64 0,.bool false,.bool false,.string ⟨#[]⟩,.int .i64 0,.int .i64 0,.int .i64 0,.int .i64 0,.int .i64 0,.string ⟨#[]⟩,.string ⟨#[]⟩,.slice none 0 0,.slice none 0 0,.slice none 0 0])) rfl (stC St.nul Tv.nul) rfl (by simp [stC]) (by simp [stC]) Tryz.underlying74 info_st (by kernel_rfl) ?_
 refine hKK _ _ hSa ?_
 clear hKK KK s2 sK hS0 hSa
 refine wpM_late (i:=7) (fuel:=5) (by kernel_rfl) (by omega) rfl (fun KK hKK => ?_)
 refine step_push_b rfl (.tmp 39) (.tmp 42) 74 rfl rowSt w3.drew (G + 1) (Value.slice Ar rl.length cr) rl.length (scs rl) (stC St.nul Tv.nul) rfl hown rfl rfl rfl (st_one0 St.nul) (by omega) (by omega) ?_
 intro v6 w6 ho6 hg6 hv6
 obtain ⟨g6,c6,rfl,hgg,_⟩:=ho6.1.form (Nat.succ_pos _)
 have hno : ∀ k,(Value.slice Ar rl.length cr).ownBlock = some k → G < k:=fun k hk => (hown.1.lt k hk).1
 have hgb:=gb_elem hg6 (hv6.elim .inl (fun e => .inr (by injection e with e; rw [e]; simp))) (rl.length * 17) (stC y.1 ⟨.slice Ae y.1.e.l.length ce,.slice none 0 0,.slice none 0 0⟩)
 have hsl : (scs rl).length = rl.length * 17:=scs_len rl
 have hoE : Own (w6.setCells g6 (rl.length * 17) (stC y.1 ⟨.slice Ae y.1.e.l.length ce,.slice none 0 0,.slice none 0 0⟩)) (G + 1) 118 17 (Value.slice (some ⟨g6,0,none⟩) (rl.length + 1) c6) (rl.length + 1) (scs rl ++ stC y.1 ⟨.slice Ae y.1.e.l.length ce,.slice none 0 0,.slice none 0 0⟩):=by
  have:=Own.sets (w:=w6) (stC y.1 ⟨.slice Ae y.1.e.l.length ce,.slice none 0 0,.slice none 0 0⟩) (scs rl) (stC St.nul Tv.nul) w6 ho6 rfl
  rwa [hsl] at this
 have tE : w6.there g6 (rl.length * 17) (stC y.1 ⟨.slice Ae y.1.e.l.length ce,.slice none 0 0,.slice none 0 0⟩).length:=ho6.there (by rw [stC_len]; omega)
 have J6:=((J.out.new (.cells (stC St.nul Tv.nul).toArray 118)).turn (Tn.of_gb (M:=fun k => (Value.slice Ar rl.length cr).ownBlock = some k) hg6 fun k e _ => e) (fun k hk e => by have:=hno k e; omega))
 have JE:=((J.out.new (.cells (stC St.nul Tv.nul).toArray 118)).turn (Tn.of_gb (M:=fun k => (Value.slice Ar rl.length cr).ownBlock = some k) hgb fun k e _ => e) (fun k hk e => by have:=hno k e; omega))
 have tG : w6.there G 2 1:=J6.v.there (by show 2 + 1 ≤ 5; omega)
 have tG2 : (w6.setCells g6 (rl.length * 17) (stC y.1 ⟨.slice Ae y.1.e.l.length ce,.slice none 0 0,.slice none 0 0⟩)).there G 2 1:=JE.v.there (by show 2 + 1 ≤ 5; omega)
 have tE2 : (w6.setCell ⟨G,2,none⟩ (Value.slice (some ⟨g6,0,none⟩) (rl.length + 1) c6)).there g6 (rl.length * 17) (stC y.1 ⟨.slice Ae y.1.e.l.length ce,.slice none 0 0,.slice none 0 0⟩).length:=(ho6.turn (Tn.set (M:=fun k => k = G) w6 G 2 (Value.slice (some ⟨g6,0,none⟩) (rl.length + 1) c6) rfl) (fun k hk e => by simp [Value.ownBlock] at hk; omega)).there (by rw [stC_len]; omega)
 have hcm : (w6.setCell ⟨G,2,none⟩ (Value.slice (some ⟨g6,0,none⟩) (rl.length + 1) c6)).setCells g6 (rl.length * 17) (stC y.1 ⟨.slice Ae y.1.e.l.length ce,.slice none 0 0,.slice none 0 0⟩) = ((w6.setCells g6 (rl.length * 17) (stC y.1 ⟨.slice Ae y.1.e.l.length ce,.slice none 0 0,.slice none 0 0⟩)).setCell ⟨G,2,none⟩ (Value.slice (some ⟨g6,0,none⟩) (rl.length + 1) c6)):=setCells_comm G 2 (Value.slice (some ⟨g6,0,none⟩) (rl.length + 1) c6) g6 (by omega) _ _ _
 have HJ : Hid (Rdr C G D (Value.slice (some ⟨g6,0,none⟩) (rl.length + 1) c6) (Value.slice Ao pl.length co) ((w6.setCells g6 (rl.length * 17) (stC y.1 ⟨.slice Ae y.1.e.l.length ce,.slice none 0 0,.slice none 0 0⟩)).setCell ⟨G,2,none⟩ (Value.slice (some ⟨g6,0,none⟩) (rl.length + 1) c6)) y.2):=Lh ⟨JE.cur.turn (Tn.set (M:=fun k => k = G) _ G 2 (Value.slice (some ⟨g6,0,none⟩) (rl.length + 1) c6) rfl) (fun k hk e => by omega),JE.v.set 2 (Value.slice (some ⟨g6,0,none⟩) (rl.length + 1) c6) (by show 2 < 5; omega),hgt⟩
 have HI : Hid (Pl G ((w6.setCells g6 (rl.length * 17) (stC y.1 ⟨.slice Ae y.1.e.l.length ce,.slice none 0 0,.slice none 0 0⟩)).setCell ⟨G,2,none⟩ (Value.slice (some ⟨g6,0,none⟩) (rl.length + 1) c6)) (Value.slice (some ⟨g6,0,none⟩) (rl.length + 1) c6) (Value.slice Ao pl.length co) (rl ++ [(y.1,⟨.slice Ae y.1.e.l.length ce,.slice none 0 0,.slice none 0 0⟩)]) pl):=Lh ((JP.out.app JX.out hoE hgb hv6 hl1).turn (Tn.set (M:=fun k => k = G) _ G 2 (Value.slice (some ⟨g6,0,none⟩) (rl.length + 1) c6) rfl) (fun k hk _ e => by omega))
 have HTT : Hid (Tn (fun k => k = C.g ∨ G ≤ k) w ((w6.setCells g6 (rl.length * 17) (stC y.1 ⟨.slice Ae y.1.e.l.length ce,.slice none 0 0,.slice none 0 0⟩)).setCell ⟨G,2,none⟩ (Value.slice (some ⟨g6,0,none⟩) (rl.length + 1) c6))):=Lh (((JT.out.trans (Tn.alloc _ _ _)).trans (Tn.of_gb hgb fun k e _ => .inr (by have:=hno k e; omega))).trans (Tn.set _ G 2 (Value.slice (some ⟨g6,0,none⟩) (rl.length + 1) c6) (.inr (Nat.le_refl G))))
 obtain ⟨WW,hWW⟩ : ∃ WW,w6.setCells g6 (rl.length * 17) (stC y.1 ⟨.slice Ae y.1.e.l.length ce,.slice none 0 0,.slice none 0 0⟩) = WW:=⟨_,rfl⟩
 rw [hWW] at HJ HI HTT hcm tG2
 have HCM:=Lh hcm
 clear hcm JE J6 hoE hgb ho6 hg6 hv6
 refine hKK _ _ ?_
 clear hKK KK
 simp only [Act.put,sA,sB,sC]
 refine wpAny_nextN 8 1 4 (by kernel_rfl) (fun _ _ d _ _ h => by cases d <;> exact h) ?_
 simp only [sD,sE,sF,sG]
 repeat (go_big_quiet_step (fail))
 refine wpQuiet_nil ?_
 refine wpAny_nextN 10 2 2 (by kernel_rfl) (fun _ _ d _ _ h => by cases d <;> exact h) ?_
 simp only [sD,sE,sF,sG]
 repeat (go_big_quiet_step (fail))
 refine wpQuiet_nil ?_
 refine wpAny_two (i:=9) (j:=12) (fuel:=1) (by kernel_rfl) rfl rfl (fun KK hKK => ?_) (fun KK hKK => ?_)
 ·refine step_stm rfl 118 (.tmp 44) (.tmp 40) rfl g6 (rl.length * 17) (stC y.1 ⟨.slice Ae y.1.e.l.length ce,.slice none 0 0,.slice none 0 0⟩) rfl rfl tE info_st hone ?_
  rw [hWW]
  refine hKK _ _ ?_
  clear hKK KK
  simp only [Act.put,sA,sB,sC]
  refine wpAny_one (i:=12) (fuel:=0) (by kernel_rfl) rfl (fun KK hKK => ?_)
  refine step_st1 rfl 74 (.tmp 46) (.tmp 43) rfl G 2 rfl (v:=(Value.slice (some ⟨g6,0,none⟩) (rl.length + 1) c6)) tG2 rfl (by kernel_rfl) rfl ?_
  refine hKK _ _ ?_
  clear hKK KK
  refine wpAny_done (by kernel_rfl) ?_ _
  go_wp2_with fail
  refine bodyPost_ret (results_none rfl _ _ _) rfl ⟨_,_,_,_,rfl,⟨HJ.out,HI.out,by rw [List.map_append,hrow]; rfl,hop⟩,HTT.out⟩
 ·refine step_st1 rfl 74 (.tmp 46) (.tmp 43) rfl G 2 rfl (v:=(Value.slice (some ⟨g6,0,none⟩) (rl.length + 1) c6)) tG rfl (by kernel_rfl) rfl ?_
  refine hKK _ _ ?_
  clear hKK KK
  simp only [Act.put,sA,sB,sC]
  refine wpAny_one (i:=9) (fuel:=0) (by kernel_rfl) rfl (fun KK hKK => ?_)
  refine step_stm rfl 118 (.tmp 44) (.tmp 40) rfl g6 (rl.length * 17) (stC y.1 ⟨.slice Ae y.1.e.l.length ce,.slice none 0 0,.slice none 0 0⟩) rfl rfl tE2 info_st hone ?_
  rw [HCM.out]
  refine hKK _ _ ?_
  clear hKK KK
  refine wpAny_done (by kernel_rfl) ?_ _
  go_wp2_with fail
  refine bodyPost_ret (results_none rfl _ _ _) rfl ⟨_,_,_,_,rfl,⟨HJ.out,HI.out,by rw [List.map_append,hrow]; rfl,hop⟩,HTT.out⟩
set_option maxRecDepth 100000 in
theorem step_n2 (C : Cx) (hC : TokOk C.T C.L) (hDg : DigOk C) (F : Nat) (hF : 16 * C.L.length + 9 ≤ F) (G : Nat) (D : Int) (rv ov : Value) (rl : List (St × Tv)) (pl : List Pe) (row : List St) (op : List Bk) (p : Nat) (w : World) (h : Rdr C G D rv ov w (p,0)) (hP : Pl G w rv ov rl pl)
  (hrow : rl.map (·.1) = row) (hop : pl.map (·.b) = op) (hl1 : rl.length < 1000000) (hl2 : pl.length < 1000000) (hz0 : 0 < pl.length) (he : endsB C.R p = false) (y : St × (Nat × Int)) (hy : hdS C.R F p = y) (hk : y.1.k = 2) :
  CP 123 #[.pointer (some ⟨G,0,none⟩)] w (RdT C G D (Mc.enter C.R D ⟨row,op,y.2.1,y.2.2⟩ ⟨y.1,row,false⟩) w):=by
 have hgt:=h.gt
 have hGw:=h.v.lt
 have hz:=zeroSt
 have hnl:=hdS_nil C.R F p
 rw [hy] at hnl
 obtain ⟨Ar,cr,rfl⟩:=hP.row.form
 obtain ⟨Ao,co,rfl⟩:=hP.op.form
 have hd1 : decide ((0 : Int) < (pl.length : Int)) = true:=decide_eq_true (by omega)
 have hd2 : decide (0 < pl.length) = true:=decide_eq_true (by omega)
 have hd3 : (0 : Int) < (pl.length : Int):=by omega
 have k2 : (y.1.k == 2) = true:=by simp [hk]
 have k3 : (y.1.k == 3) = false:=by simp [hk]
 have k2' : decide (y.1.k = 2) = true:=by simp [hk]
 have k3' : decide (y.1.k = 3) = false:=by simp [hk]
 have HEN : Hid (∀ W,Rdr C G D (Value.slice Ar rl.length cr) (Value.slice Ao pl.length co) W (p,0) → CP 122 #[C.ptr] W fun e w' => e = .returned (.bool false) ∧ Below W.heap.size W w'):=Lh fun W hW => by
  have:=ends_any C hC p W hW.cur
  rwa [he] at this
 have HHD : Hid (∀ W,Rdr C G D (Value.slice Ar rl.length cr) (Value.slice Ao pl.length co) W (p,0) → CP 136 #[.pointer (some ⟨G,0,none⟩)] W (HeadTo C G D (Value.slice Ar rl.length cr) (Value.slice Ao pl.length co) y W)):=Lh fun W hW => by
  rw [← hy]
  exact head_any C hC hDg F hF G D (Value.slice Ar rl.length cr) (Value.slice Ao pl.length co) p W hW
 have g3:=h.c3
 have g0:=h.c0
 have J:=Lh h
 have JP:=Lh hP
 have JT:=Lh (Tn.refl (fun k => k = C.g ∨ G ≤ k) w)
 clear h hP hy hz0 he hk
 go_enter Tryz.func123,Tryz.ntmps123
 go_wp2_with (first
  | (go_at_call 122; (with_reducible refine (HEN.out _ J.out).mono ?_); rintro _ w1 ⟨rfl,b⟩; have J:=Lh (J.out.under b); have JP:=Lh (JP.out.under b); have JT:=Lh (JT.out.trans (Tn.of_below _ b)); clear b; dsimp only)
  | (go_at_call 136; (with_reducible refine (HHD.out _ J.out).mono ?_); rintro _ w2 ⟨lv,rfl,hr,hx,ht⟩; have hsz:=ht.size; have JX:=Lh (show TrS w2 (Fx G (Value.slice Ar rl.length cr) (Value.slice Ao pl.length co) pl) y.1 ⟨lv,.slice none 0 0,.slice none 0 0⟩ from ⟨hx.weak (fun b hb _ => ⟨Nat.lt_of_lt_of_le J.out.v.lt hb,fun hm => by have:=(JP.out.mu_lt hm).2; have hb : _ ≤ b:=hb; omega⟩),by rw [hnl.1]; exact .nil,by rw [hnl.2]; exact .nil⟩); have JP:=Lh (JP.out.turn ht (by intro k hk _ h; have:=J.out.gt; rcases h with h | h <;> omega)); have JT:=Lh (JT.out.trans (ht.weak (M':=fun k => k = C.g ∨ G ≤ k) (fun k _ h => h.elim .inl (fun h => .inr (by omega))))); have J:=Lh hr; clear hr hx ht; dsimp only; refine Hid.out ?_)
  | fail)
 clear g3 g0
 obtain ⟨Ae,ce,rfl,_⟩:=JX.out.e.len
 have hone:=JX.out.one
 have hG2 : G < w2.heap.size:=J.out.v.lt
 have hs1 : Hid ((w2.alloc (.cells z17 118)).heap.size = w2.heap.size + 1):=Lh (by simp)
 refine Lh ?_
 go_wp2_with (first
  | (refine wpList_stV rfl 118 (.tmp 2) (.tmp 19) rfl (G:=w2.heap.size) (off:=0) rfl (us:=stC y.1 ⟨.slice Ae y.1.e.l.length ce,.slice none 0 0,.slice none 0 0⟩) (Var.new w2 (stC St.nul Tv.nul) 118 rfl) rfl info_st (Nat.le_refl 17) hone ?_; intro w3 ht hs; have hsz3:=ht.size; rw [hs1.out] at hsz3; have JU:=Lh ((Tn.alloc (fun k => k = w2.heap.size) w2 (.cells z17 118)).trans ht); have J:=Lh (J.out.turn JU.out (fun k hk e => by omega)); have JT:=Lh (JT.out.trans (JU.out.weak (fun k _ h => .inr (by omega)))); have JP:=Lh (JP.out.turn JU.out (fun k h1 h2 h => by omega)); have JX:=Lh (JX.out.turn (S':=(Fx G (Value.slice Ar rl.length cr) (Value.slice Ao pl.length co) pl)) JU.out (fun b hb h2 => ⟨hb,fun h => by omega⟩)); have JV:=Lh (show Var w3 w2.heap.size (stC y.1 ⟨.slice Ae y.1.e.l.length ce,.slice none 0 0,.slice none 0 0⟩) from hs); clear ht hs JU; dsimp only; refine Hid.out ?_)
  | fail)
 have k0 : w3.cell? ⟨w2.heap.size,0,none⟩ = some (.int .i64 y.1.k):=JV.out.at 0 rfl
 refine Lh ?_
 go_wp2_with fail
 clear k0
 have J:=Lh (J.out.under (below_drew _ _))
 have JP:=Lh (JP.out.under (below_drew _ _))
 have JX:=Lh (JX.out.turn (S':=(Fx G (Value.slice Ar rl.length cr) (Value.slice Ao pl.length co) pl)) (Tn.drew (fun _ => False) _) (fun b hb _ => ⟨hb,fun h => h⟩))
 have JV:=Lh (JV.out.under (below_drew _ _))
 have JT:=Lh (JT.out.trans (Tn.drew _ _))
 obtain ⟨S,hSd⟩ : ∃ S : World → Prop,S = fun W => W.rangeAt w2.heap.size 0 [.int .i64 y.1.k,.int .i64 y.1.a,.string y.1.nm,.int .i64 y.1.ty,.bool y.1.an.so,.bool y.1.an.lk,.string y.1.an.lb,.int .i64 y.1.an.fr,.int .i64 y.1.an.to,.int .i64 y.1.e.k,.int .i64 y.1.e.a,.int .i64 y.1.e.m,.string y.1.e.nm,.string y.1.e.lb,.slice Ae y.1.e.l.length ce,.slice none 0 0,.slice none 0 0] ∧ W.cell? ⟨G,2,none⟩ = some (Value.slice Ar rl.length cr):=⟨_,rfl⟩
 have hSF : ∀ W,S W → W.rangeAt w2.heap.size 0 [.int .i64 y.1.k,.int .i64 y.1.a,.string y.1.nm,.int .i64 y.1.ty,.bool y.1.an.so,.bool y.1.an.lk,.string y.1.an.lb,.int .i64 y.1.an.fr,.int .i64 y.1.an.to,.int .i64 y.1.e.k,.int .i64 y.1.e.a,.int .i64 y.1.e.m,.string y.1.e.nm,.string y.1.e.lb,.slice Ae y.1.e.l.length ce,.slice none 0 0,.slice none 0 0] ∧ W.cell? ⟨G,2,none⟩ = some (Value.slice Ar rl.length cr):=by rw [hSd]; exact fun W h => h
 have hS0 : S w3.drew:=by rw [hSd]; exact ⟨JV.out.rg,J.out.c2⟩
 have hSa : S (w3.drew.alloc (.cells (stC St.nul Tv.nul).toArray 118)):=by rw [hSd]; exact ⟨(JV.out.under bAl).rg,(J.out.new _).c2⟩
 have s2 : ∀ s : SW S,s.w.cell? ⟨G,2,none⟩ = some (Value.slice Ar rl.length cr):=fun s => (hSF _ s.h).2
 have sK : ∀ W,S W → W.rangeAt w2.heap.size 0 [.int .i64 y.1.k,.int .i64 y.1.a,.string y.1.nm,.int .i64 y.1.ty,.bool y.1.an.so,.bool y.1.an.lk,.string y.1.an.lb,.int .i64 y.1.an.fr,.int .i64 y.1.an.to,.int .i64 y.1.e.k,.int .i64 y.1.e.a,.int .i64 y.1.e.m,.string y.1.e.nm,.string y.1.e.lb,.slice Ae y.1.e.l.length ce,.slice none 0 0,.slice none 0 0]:=fun W h => (hSF W h).1
 clear hSd hSF
 have HER : Hid (∀ W,Rdr C G D (Value.slice Ar rl.length cr) (Value.slice Ao pl.length co) W y.2 → Pl G W (Value.slice Ar rl.length cr) (Value.slice Ao pl.length co) rl pl → TrS W (Fx G (Value.slice Ar rl.length cr) (Value.slice Ao pl.length co) pl) y.1 ⟨.slice Ae y.1.e.l.length ce,.slice none 0 0,.slice none 0 0⟩ → CP 137 #[.pointer (some ⟨G,0,none⟩),.agg #[.int .i64 y.1.k,.int .i64 y.1.a,.string y.1.nm,.int .i64 y.1.ty,.bool y.1.an.so,.bool y.1.an.lk,.string y.1.an.lb,.int .i64 y.1.an.fr,.int .i64 y.1.an.to,.int .i64 y.1.e.k,.int .i64 y.1.e.a,.int .i64 y.1.e.m,.string y.1.e.nm,.string y.1.e.lb,.slice Ae y.1.e.l.length ce,.slice none 0 0,.slice none 0 0,.slice Ar rl.length cr,.bool false]] W (RdT C G D (Mc.enter C.R D ⟨row,op,y.2.1,y.2.2⟩ ⟨y.1,row,false⟩) W)):=Lh fun W h1 h2 h3 =>
  enter_any C hC G D (Value.slice Ar rl.length cr) (Value.slice Ar rl.length cr) (Value.slice Ao pl.length co) rl pl op ⟨y.1,row,false⟩ ⟨.slice Ae y.1.e.l.length ce,.slice none 0 0,.slice none 0 0⟩ row y.2.1 y.2.2 W h1 h2 hop hrow h3 hl2
 refine region_start (by kernel_rfl) 8 rfl ?_
 refine wpAny_hold S 7 (by kernel_rfl) ?_
 refine wpM_next 0 1 7 (by kernel_rfl) (fun _ _ d _ _ h => by cases d <;> exact h) hS0 (fun hne => ?_)
 simp only [sD,sE,sF,sG]
 repeat (go_big_quiet_step (fail))
 refine wpQuiet_nil ?_
 refine wpM_take 1 (fuel:=6) (.agg (List.toArray [.int .i64 y.1.k,.int .i64 y.1.a,.string y.1.nm,.int .i64 y.1.ty,.bool y.1.an.so,.bool y.1.an.lk,.string y.1.an.lb,.int .i64 y.1.an.fr,.int .i64 y.1.an.to,.int .i64 y.1.e.k,.int .i64 y.1.e.a,.int .i64 y.1.e.m,.string y.1.e.nm,.string y.1.e.lb,.slice Ae y.1.e.l.length ce,.slice none 0 0,.slice none 0 0])) (by kernel_rfl) (fun _ _ d _ _ h => by cases d <;> exact h) rfl hS0 (yieldsIf_load_mid rfl 118 (.tmp 2) rfl w2.heap.size 0 rfl [.int .i64 y.1.k,.int .i64 y.1.a,.string y.1.nm,.int .i64 y.1.ty,.bool y.1.an.so,.bool y.1.an.lk,.string y.1.an.lb,.int .i64 y.1.an.fr,.int .i64 y.1.an.to,.int .i64 y.1.e.k,.int .i64 y.1.e.a,.int .i64 y.1.e.m,.string y.1.e.nm,.string y.1.e.lb,.slice Ae y.1.e.l.length ce,.slice none 0 0,.slice none 0 0] _ sK Tryz.underlying118 rfl info_st) ?_
 simp only [Act.put,sA,sB,sC]
 refine wpM_next 2 5 1 (by kernel_rfl) (fun _ _ d _ _ h => by cases d <;> exact h) hS0 (fun hne => ?_)
 simp only [sD,sE,sF,sG]
 repeat (go_big_quiet_step (fail))
 refine wpQuiet_nil ?_
 refine wpM_late (i:=7) (fuel:=0) (by kernel_rfl) (by omega) rfl (fun KK hKK => ?_)
 clear hS0 hSa s2 sK
 go_simp
 refine (HER.out _ J.out JP.out JX.out).mono ?_
 rintro _ w9 ⟨rv',ov',rl',pl',rfl,hI,hT⟩
 have HI:=Lh hI
 have HTT:=Lh (JT.out.trans hT)
 clear hI hT
 refine hKK _ _ ?_
 clear hKK KK
 refine wpAny_done (by kernel_rfl) ?_ _
 go_wp2_with fail
 refine bodyPost_ret (results_none rfl _ _ _) rfl ⟨_,_,_,_,rfl,HI.out,HTT.out⟩
set_option maxRecDepth 100000 in
theorem step_n3 (C : Cx) (hC : TokOk C.T C.L) (hDg : DigOk C) (F : Nat) (hF : 16 * C.L.length + 9 ≤ F) (G : Nat) (D : Int) (rv ov : Value) (rl : List (St × Tv)) (pl : List Pe) (row : List St) (op : List Bk) (p : Nat) (w : World) (h : Rdr C G D rv ov w (p,0)) (hP : Pl G w rv ov rl pl)
  (hrow : rl.map (·.1) = row) (hop : pl.map (·.b) = op) (hl1 : rl.length < 1000000) (hl2 : pl.length < 1000000) (hz0 : 0 < pl.length) (he : endsB C.R p = false) (y : St × (Nat × Int)) (hy : hdS C.R F p = y) (hk : y.1.k = 3) :
  CP 123 #[.pointer (some ⟨G,0,none⟩)] w (RdT C G D (Mc.enter C.R D ⟨row,op,y.2.1,y.2.2⟩ ⟨y.1,row,false⟩) w):=by
 have hgt:=h.gt
 have hGw:=h.v.lt
 have hz:=zeroSt
 have hnl:=hdS_nil C.R F p
 rw [hy] at hnl
 obtain ⟨Ar,cr,rfl⟩:=hP.row.form
 obtain ⟨Ao,co,rfl⟩:=hP.op.form
 have hd1 : decide ((0 : Int) < (pl.length : Int)) = true:=decide_eq_true (by omega)
 have hd2 : decide (0 < pl.length) = true:=decide_eq_true (by omega)
 have hd3 : (0 : Int) < (pl.length : Int):=by omega
 have k2 : (y.1.k == 2) = false:=by simp [hk]
 have k3 : (y.1.k == 3) = true:=by simp [hk]
 have k2' : decide (y.1.k = 2) = false:=by simp [hk]
 have k3' : decide (y.1.k = 3) = true:=by simp [hk]
 have HEN : Hid (∀ W,Rdr C G D (Value.slice Ar rl.length cr) (Value.slice Ao pl.length co) W (p,0) → CP 122 #[C.ptr] W fun e w' => e = .returned (.bool false) ∧ Below W.heap.size W w'):=Lh fun W hW => by
  have:=ends_any C hC p W hW.cur
  rwa [he] at this
 have HHD : Hid (∀ W,Rdr C G D (Value.slice Ar rl.length cr) (Value.slice Ao pl.length co) W (p,0) → CP 136 #[.pointer (some ⟨G,0,none⟩)] W (HeadTo C G D (Value.slice Ar rl.length cr) (Value.slice Ao pl.length co) y W)):=Lh fun W hW => by
  rw [← hy]
  exact head_any C hC hDg F hF G D (Value.slice Ar rl.length cr) (Value.slice Ao pl.length co) p W hW
 have g3:=h.c3
 have g0:=h.c0
 have J:=Lh h
 have JP:=Lh hP
 have JT:=Lh (Tn.refl (fun k => k = C.g ∨ G ≤ k) w)
 clear h hP hy hz0 he hk
 go_enter Tryz.func123,Tryz.ntmps123
 go_wp2_with (first
  | (go_at_call 122; (with_reducible refine (HEN.out _ J.out).mono ?_); rintro _ w1 ⟨rfl,b⟩; have J:=Lh (J.out.under b); have JP:=Lh (JP.out.under b); have JT:=Lh (JT.out.trans (Tn.of_below _ b)); clear b; dsimp only)
  | (go_at_call 136; (with_reducible refine (HHD.out _ J.out).mono ?_); rintro _ w2 ⟨lv,rfl,hr,hx,ht⟩; have hsz:=ht.size; have JX:=Lh (show TrS w2 (Fx G (Value.slice Ar rl.length cr) (Value.slice Ao pl.length co) pl) y.1 ⟨lv,.slice none 0 0,.slice none 0 0⟩ from ⟨hx.weak (fun b hb _ => ⟨Nat.lt_of_lt_of_le J.out.v.lt hb,fun hm => by have:=(JP.out.mu_lt hm).2; have hb : _ ≤ b:=hb; omega⟩),by rw [hnl.1]; exact .nil,by rw [hnl.2]; exact .nil⟩); have JP:=Lh (JP.out.turn ht (by intro k hk _ h; have:=J.out.gt; rcases h with h | h <;> omega)); have JT:=Lh (JT.out.trans (ht.weak (M':=fun k => k = C.g ∨ G ≤ k) (fun k _ h => h.elim .inl (fun h => .inr (by omega))))); have J:=Lh hr; clear hr hx ht; dsimp only; refine Hid.out ?_)
  | fail)
 clear g3 g0
 obtain ⟨Ae,ce,rfl,_⟩:=JX.out.e.len
 have hone:=JX.out.one
 have hG2 : G < w2.heap.size:=J.out.v.lt
 have hs1 : Hid ((w2.alloc (.cells z17 118)).heap.size = w2.heap.size + 1):=Lh (by simp)
 refine Lh ?_
 go_wp2_with (first
  | (refine wpList_stV rfl 118 (.tmp 2) (.tmp 19) rfl (G:=w2.heap.size) (off:=0) rfl (us:=stC y.1 ⟨.slice Ae y.1.e.l.length ce,.slice none 0 0,.slice none 0 0⟩) (Var.new w2 (stC St.nul Tv.nul) 118 rfl) rfl info_st (Nat.le_refl 17) hone ?_; intro w3 ht hs; have hsz3:=ht.size; rw [hs1.out] at hsz3; have JU:=Lh ((Tn.alloc (fun k => k = w2.heap.size) w2 (.cells z17 118)).trans ht); have J:=Lh (J.out.turn JU.out (fun k hk e => by omega)); have JT:=Lh (JT.out.trans (JU.out.weak (fun k _ h => .inr (by omega)))); have JP:=Lh (JP.out.turn JU.out (fun k h1 h2 h => by omega)); have JX:=Lh (JX.out.turn (S':=(Fx G (Value.slice Ar rl.length cr) (Value.slice Ao pl.length co) pl)) JU.out (fun b hb h2 => ⟨hb,fun h => by omega⟩)); have JV:=Lh (show Var w3 w2.heap.size (stC y.1 ⟨.slice Ae y.1.e.l.length ce,.slice none 0 0,.slice none 0 0⟩) from hs); clear ht hs JU; dsimp only; refine Hid.out ?_)
  | fail)
 have k0 : w3.cell? ⟨w2.heap.size,0,none⟩ = some (.int .i64 y.1.k):=JV.out.at 0 rfl
 refine Lh ?_
 go_wp2_with fail
 clear k0
 have J:=Lh (J.out.under (below_drew _ _))
 have JP:=Lh (JP.out.under (below_drew _ _))
 have JX:=Lh (JX.out.turn (S':=(Fx G (Value.slice Ar rl.length cr) (Value.slice Ao pl.length co) pl)) (Tn.drew (fun _ => False) _) (fun b hb _ => ⟨hb,fun h => h⟩))
 have JV:=Lh (JV.out.under (below_drew _ _))
 have JT:=Lh (JT.out.trans (Tn.drew _ _))
 obtain ⟨S,hSd⟩ : ∃ S : World → Prop,S = fun W => W.rangeAt w2.heap.size 0 [.int .i64 y.1.k,.int .i64 y.1.a,.string y.1.nm,.int .i64 y.1.ty,.bool y.1.an.so,.bool y.1.an.lk,.string y.1.an.lb,.int .i64 y.1.an.fr,.int .i64 y.1.an.to,.int .i64 y.1.e.k,.int .i64 y.1.e.a,.int .i64 y.1.e.m,.string y.1.e.nm,.string y.1.e.lb,.slice Ae y.1.e.l.length ce,.slice none 0 0,.slice none 0 0] ∧ W.cell? ⟨G,2,none⟩ = some (Value.slice Ar rl.length cr):=⟨_,rfl⟩
 have hSF : ∀ W,S W → W.rangeAt w2.heap.size 0 [.int .i64 y.1.k,.int .i64 y.1.a,.string y.1.nm,.int .i64 y.1.ty,.bool y.1.an.so,.bool y.1.an.lk,.string y.1.an.lb,.int .i64 y.1.an.fr,.int .i64 y.1.an.to,.int .i64 y.1.e.k,.int .i64 y.1.e.a,.int .i64 y.1.e.m,.string y.1.e.nm,.string y.1.e.lb,.slice Ae y.1.e.l.length ce,.slice none 0 0,.slice none 0 0] ∧ W.cell? ⟨G,2,none⟩ = some (Value.slice Ar rl.length cr):=by rw [hSd]; exact fun W h => h
 have hS0 : S w3.drew:=by rw [hSd]; exact ⟨JV.out.rg,J.out.c2⟩
 have hSa : S (w3.drew.alloc (.cells (stC St.nul Tv.nul).toArray 118)):=by rw [hSd]; exact ⟨(JV.out.under bAl).rg,(J.out.new _).c2⟩
 have s2 : ∀ s : SW S,s.w.cell? ⟨G,2,none⟩ = some (Value.slice Ar rl.length cr):=fun s => (hSF _ s.h).2
 have sK : ∀ W,S W → W.rangeAt w2.heap.size 0 [.int .i64 y.1.k,.int .i64 y.1.a,.string y.1.nm,.int .i64 y.1.ty,.bool y.1.an.so,.bool y.1.an.lk,.string y.1.an.lb,.int .i64 y.1.an.fr,.int .i64 y.1.an.to,.int .i64 y.1.e.k,.int .i64 y.1.e.a,.int .i64 y.1.e.m,.string y.1.e.nm,.string y.1.e.lb,.slice Ae y.1.e.l.length ce,.slice none 0 0,.slice none 0 0]:=fun W h => (hSF W h).1
 clear hSd hSF
 have HER : Hid (∀ W,Rdr C G D (Value.slice Ar rl.length cr) (Value.slice Ao pl.length co) W y.2 → Pl G W (Value.slice Ar rl.length cr) (Value.slice Ao pl.length co) rl pl → TrS W (Fx G (Value.slice Ar rl.length cr) (Value.slice Ao pl.length co) pl) y.1 ⟨.slice Ae y.1.e.l.length ce,.slice none 0 0,.slice none 0 0⟩ → CP 137 #[.pointer (some ⟨G,0,none⟩),.agg #[.int .i64 y.1.k,.int .i64 y.1.a,.string y.1.nm,.int .i64 y.1.ty,.bool y.1.an.so,.bool y.1.an.lk,.string y.1.an.lb,.int .i64 y.1.an.fr,.int .i64 y.1.an.to,.int .i64 y.1.e.k,.int .i64 y.1.e.a,.int .i64 y.1.e.m,.string y.1.e.nm,.string y.1.e.lb,.slice Ae y.1.e.l.length ce,.slice none 0 0,.slice none 0 0,.slice Ar rl.length cr,.bool false]] W (RdT C G D (Mc.enter C.R D ⟨row,op,y.2.1,y.2.2⟩ ⟨y.1,row,false⟩) W)):=Lh fun W h1 h2 h3 =>
  enter_any C hC G D (Value.slice Ar rl.length cr) (Value.slice Ar rl.length cr) (Value.slice Ao pl.length co) rl pl op ⟨y.1,row,false⟩ ⟨.slice Ae y.1.e.l.length ce,.slice none 0 0,.slice none 0 0⟩ row y.2.1 y.2.2 W h1 h2 hop hrow h3 hl2
 refine region_start (by kernel_rfl) 8 rfl ?_
 refine wpAny_hold S 7 (by kernel_rfl) ?_
 refine wpM_next 0 1 7 (by kernel_rfl) (fun _ _ d _ _ h => by cases d <;> exact h) hS0 (fun hne => ?_)
 simp only [sD,sE,sF,sG]
 repeat (go_big_quiet_step (fail))
 refine wpQuiet_nil ?_
 refine wpM_take 1 (fuel:=6) (.agg (List.toArray [.int .i64 y.1.k,.int .i64 y.1.a,.string y.1.nm,.int .i64 y.1.ty,.bool y.1.an.so,.bool y.1.an.lk,.string y.1.an.lb,.int .i64 y.1.an.fr,.int .i64 y.1.an.to,.int .i64 y.1.e.k,.int .i64 y.1.e.a,.int .i64 y.1.e.m,.string y.1.e.nm,.string y.1.e.lb,.slice Ae y.1.e.l.length ce,.slice none 0 0,.slice none 0 0])) (by kernel_rfl) (fun _ _ d _ _ h => by cases d <;> exact h) rfl hS0 (yieldsIf_load_mid rfl 118 (.tmp 2) rfl w2.heap.size 0 rfl [.int .i64 y.1.k,.int .i64 y.1.a,.string y.1.nm,.int .i64 y.1.ty,.bool y.1.an.so,.bool y.1.an.lk,.string y.1.an.lb,.int .i64 y.1.an.fr,.int .i64 y.1.an.to,.int .i64 y.1.e.k,.int .i64 y.1.e.a,.int .i64 y.1.e.m,.string y.1.e.nm,.string y.1.e.lb,.slice Ae y.1.e.l.length ce,.slice none 0 0,.slice none 0 0] _ sK Tryz.underlying118 rfl info_st) ?_
 simp only [Act.put,sA,sB,sC]
 refine wpM_next 2 5 1 (by kernel_rfl) (fun _ _ d _ _ h => by cases d <;> exact h) hS0 (fun hne => ?_)
 simp only [sD,sE,sF,sG]
 repeat (go_big_quiet_step (fail))
 refine wpQuiet_nil ?_
 refine wpM_late (i:=7) (fuel:=0) (by kernel_rfl) (by omega) rfl (fun KK hKK => ?_)
 clear hS0 hSa s2 sK
 go_simp
 refine (HER.out _ J.out JP.out JX.out).mono ?_
 rintro _ w9 ⟨rv',ov',rl',pl',rfl,hI,hT⟩
 have HI:=Lh hI
 have HTT:=Lh (JT.out.trans hT)
 clear hI hT
 refine hKK _ _ ?_
 clear hKK KK
 refine wpAny_done (by kernel_rfl) ?_ _
 go_wp2_with fail
 refine bodyPost_ret (results_none rfl _ _ _) rfl ⟨_,_,_,_,rfl,HI.out,HTT.out⟩
set_option maxRecDepth 100000 in
theorem step_no (C : Cx) (hC : TokOk C.T C.L) (hDg : DigOk C) (F : Nat) (hF : 16 * C.L.length + 9 ≤ F) (G : Nat) (D : Int) (rv ov : Value) (rl : List (St × Tv)) (pl : List Pe) (row : List St) (op : List Bk) (p : Nat) (w : World) (h : Rdr C G D rv ov w (p,0)) (hP : Pl G w rv ov rl pl)
  (hrow : rl.map (·.1) = row) (hop : pl.map (·.b) = op) (hl1 : rl.length < 1000000) (hl2 : pl.length < 1000000) (hz0 : 0 < pl.length) (he : endsB C.R p = false) (y : St × (Nat × Int)) (hy : hdS C.R F p = y) (hk2 : ¬ y.1.k = 2) (hk3 : ¬ y.1.k = 3) :
  CP 123 #[.pointer (some ⟨G,0,none⟩)] w (RdT C G D ⟨row ++ [y.1],op,y.2.1,y.2.2⟩ w):=by
 have hgt:=h.gt
 have hGw:=h.v.lt
 have hz:=zeroSt
 have hnl:=hdS_nil C.R F p
 rw [hy] at hnl
 obtain ⟨Ar,cr,rfl⟩:=hP.row.form
 obtain ⟨Ao,co,rfl⟩:=hP.op.form
 have hd1 : decide ((0 : Int) < (pl.length : Int)) = true:=decide_eq_true (by omega)
 have hd2 : decide (0 < pl.length) = true:=decide_eq_true (by omega)
 have hd3 : (0 : Int) < (pl.length : Int):=by omega
 have k2 : (y.1.k == 2) = false:=by simp [hk2,hk3]
 have k3 : (y.1.k == 3) = false:=by simp [hk2,hk3]
 have k2' : decide (y.1.k = 2) = false:=by simp [hk2,hk3]
 have k3' : decide (y.1.k = 3) = false:=by simp [hk2,hk3]
 have HEN : Hid (∀ W,Rdr C G D (Value.slice Ar rl.length cr) (Value.slice Ao pl.length co) W (p,0) → CP 122 #[C.ptr] W fun e w' => e = .returned (.bool false) ∧ Below W.heap.size W w'):=Lh fun W hW => by
  have:=ends_any C hC p W hW.cur
  rwa [he] at this
 have HHD : Hid (∀ W,Rdr C G D (Value.slice Ar rl.length cr) (Value.slice Ao pl.length co) W (p,0) → CP 136 #[.pointer (some ⟨G,0,none⟩)] W (HeadTo C G D (Value.slice Ar rl.length cr) (Value.slice Ao pl.length co) y W)):=Lh fun W hW => by
  rw [← hy]
  exact head_any C hC hDg F hF G D (Value.slice Ar rl.length cr) (Value.slice Ao pl.length co) p W hW
 have g3:=h.c3
 have g0:=h.c0
 have J:=Lh h
 have JP:=Lh hP
 have JT:=Lh (Tn.refl (fun k => k = C.g ∨ G ≤ k) w)
 clear h hP hy hz0 he hk2 hk3
 go_enter Tryz.func123,Tryz.ntmps123
 go_wp2_with (first
  | (go_at_call 122; (with_reducible refine (HEN.out _ J.out).mono ?_); rintro _ w1 ⟨rfl,b⟩; have J:=Lh (J.out.under b); have JP:=Lh (JP.out.under b); have JT:=Lh (JT.out.trans (Tn.of_below _ b)); clear b; dsimp only)
  | (go_at_call 136; (with_reducible refine (HHD.out _ J.out).mono ?_); rintro _ w2 ⟨lv,rfl,hr,hx,ht⟩; have hsz:=ht.size; have JX:=Lh (show TrS w2 (Fx G (Value.slice Ar rl.length cr) (Value.slice Ao pl.length co) pl) y.1 ⟨lv,.slice none 0 0,.slice none 0 0⟩ from ⟨hx.weak (fun b hb _ => ⟨Nat.lt_of_lt_of_le J.out.v.lt hb,fun hm => by have:=(JP.out.mu_lt hm).2; have hb : _ ≤ b:=hb; omega⟩),by rw [hnl.1]; exact .nil,by rw [hnl.2]; exact .nil⟩); have JP:=Lh (JP.out.turn ht (by intro k hk _ h; have:=J.out.gt; rcases h with h | h <;> omega)); have JT:=Lh (JT.out.trans (ht.weak (M':=fun k => k = C.g ∨ G ≤ k) (fun k _ h => h.elim .inl (fun h => .inr (by omega))))); have J:=Lh hr; clear hr hx ht; dsimp only; refine Hid.out ?_)
  | fail)
 clear g3 g0
 obtain ⟨Ae,ce,rfl,_⟩:=JX.out.e.len
 have hone:=JX.out.one
 have hG2 : G < w2.heap.size:=J.out.v.lt
 have hs1 : Hid ((w2.alloc (.cells z17 118)).heap.size = w2.heap.size + 1):=Lh (by simp)
 refine Lh ?_
 go_wp2_with (first
  | (refine wpList_stV rfl 118 (.tmp 2) (.tmp 19) rfl (G:=w2.heap.size) (off:=0) rfl (us:=stC y.1 ⟨.slice Ae y.1.e.l.length ce,.slice none 0 0,.slice none 0 0⟩) (Var.new w2 (stC St.nul Tv.nul) 118 rfl) rfl info_st (Nat.le_refl 17) hone ?_; intro w3 ht hs; have hsz3:=ht.size; rw [hs1.out] at hsz3; have JU:=Lh ((Tn.alloc (fun k => k = w2.heap.size) w2 (.cells z17 118)).trans ht); have J:=Lh (J.out.turn JU.out (fun k hk e => by omega)); have JT:=Lh (JT.out.trans (JU.out.weak (fun k _ h => .inr (by omega)))); have JP:=Lh (JP.out.turn JU.out (fun k h1 h2 h => by omega)); have JX:=Lh (JX.out.turn (S':=(Fx G (Value.slice Ar rl.length cr) (Value.slice Ao pl.length co) pl)) JU.out (fun b hb h2 => ⟨hb,fun h => by omega⟩)); have JV:=Lh (show Var w3 w2.heap.size (stC y.1 ⟨.slice Ae y.1.e.l.length ce,.slice none 0 0,.slice none 0 0⟩) from hs); clear ht hs JU; dsimp only; refine Hid.out ?_)
  | fail)
 have k0 : w3.cell? ⟨w2.heap.size,0,none⟩ = some (.int .i64 y.1.k):=JV.out.at 0 rfl
 refine Lh ?_
 go_wp2_with fail
 clear k0
 have J:=Lh (J.out.under (below_drew _ _))
 have JP:=Lh (JP.out.under (below_drew _ _))
 have JX:=Lh (JX.out.turn (S':=(Fx G (Value.slice Ar rl.length cr) (Value.slice Ao pl.length co) pl)) (Tn.drew (fun _ => False) _) (fun b hb _ => ⟨hb,fun h => h⟩))
 have JV:=Lh (JV.out.under (below_drew _ _))
 have JT:=Lh (JT.out.trans (Tn.drew _ _))
 obtain ⟨S,hSd⟩ : ∃ S : World → Prop,S = fun W => W.rangeAt w2.heap.size 0 [.int .i64 y.1.k,.int .i64 y.1.a,.string y.1.nm,.int .i64 y.1.ty,.bool y.1.an.so,.bool y.1.an.lk,.string y.1.an.lb,.int .i64 y.1.an.fr,.int .i64 y.1.an.to,.int .i64 y.1.e.k,.int .i64 y.1.e.a,.int .i64 y.1.e.m,.string y.1.e.nm,.string y.1.e.lb,.slice Ae y.1.e.l.length ce,.slice none 0 0,.slice none 0 0] ∧ W.cell? ⟨G,2,none⟩ = some (Value.slice Ar rl.length cr):=⟨_,rfl⟩
 have hSF : ∀ W,S W → W.rangeAt w2.heap.size 0 [.int .i64 y.1.k,.int .i64 y.1.a,.string y.1.nm,.int .i64 y.1.ty,.bool y.1.an.so,.bool y.1.an.lk,.string y.1.an.lb,.int .i64 y.1.an.fr,.int .i64 y.1.an.to,.int .i64 y.1.e.k,.int .i64 y.1.e.a,.int .i64 y.1.e.m,.string y.1.e.nm,.string y.1.e.lb,.slice Ae y.1.e.l.length ce,.slice none 0 0,.slice none 0 0] ∧ W.cell? ⟨G,2,none⟩ = some (Value.slice Ar rl.length cr):=by rw [hSd]; exact fun W h => h
 have hS0 : S w3.drew:=by rw [hSd]; exact ⟨JV.out.rg,J.out.c2⟩
 have hSa : S (w3.drew.alloc (.cells (stC St.nul Tv.nul).toArray 118)):=by rw [hSd]; exact ⟨(JV.out.under bAl).rg,(J.out.new _).c2⟩
 have s2 : ∀ s : SW S,s.w.cell? ⟨G,2,none⟩ = some (Value.slice Ar rl.length cr):=fun s => (hSF _ s.h).2
 have sK : ∀ W,S W → W.rangeAt w2.heap.size 0 [.int .i64 y.1.k,.int .i64 y.1.a,.string y.1.nm,.int .i64 y.1.ty,.bool y.1.an.so,.bool y.1.an.lk,.string y.1.an.lb,.int .i64 y.1.an.fr,.int .i64 y.1.an.to,.int .i64 y.1.e.k,.int .i64 y.1.e.a,.int .i64 y.1.e.m,.string y.1.e.nm,.string y.1.e.lb,.slice Ae y.1.e.l.length ce,.slice none 0 0,.slice none 0 0]:=fun W h => (hSF W h).1
 clear hSd hSF
 have hown:=JP.out.row
 have hnn : (rl.length : Int) < (rl.length : Int) + 1:=by omega
 refine region_start (by kernel_rfl) 13 rfl ?_
 refine wpAny_hold S 7 (by kernel_rfl) ?_
 refine wpM_next 0 4 9 (by kernel_rfl) (fun _ _ d _ _ h => by cases d <;> exact h) hS0 (fun hne => ?_)
 simp only [sD,sE,sF,sG]
 repeat (go_big_quiet_step (fail))
 refine wpQuiet_nil ?_
 refine wpM_take 4 (fuel:=8) (.agg (List.toArray [.int .i64 y.1.k,.int .i64 y.1.a,.string y.1.nm,.int .i64 y.1.ty,.bool y.1.an.so,.bool y.1.an.lk,.string y.1.an.lb,.int .i64 y.1.an.fr,.int .i64 y.1.an.to,.int .i64 y.1.e.k,.int .i64 y.1.e.a,.int .i64 y.1.e.m,.string y.1.e.nm,.string y.1.e.lb,.slice Ae y.1.e.l.length ce,.slice none 0 0,.slice none 0 0])) (by kernel_rfl) (fun _ _ d _ _ h => by cases d <;> exact h) rfl hS0 (yieldsIf_load_mid rfl 118 (.tmp 2) rfl w2.heap.size 0 rfl [.int .i64 y.1.k,.int .i64 y.1.a,.string y.1.nm,.int .i64 y.1.ty,.bool y.1.an.so,.bool y.1.an.lk,.string y.1.an.lb,.int .i64 y.1.an.fr,.int .i64 y.1.an.to,.int .i64 y.1.e.k,.int .i64 y.1.e.a,.int .i64 y.1.e.m,.string y.1.e.nm,.string y.1.e.lb,.slice Ae y.1.e.l.length ce,.slice none 0 0,.slice none 0 0] _ sK Tryz.underlying118 rfl info_st) ?_
 simp only [Act.put,sA,sB,sC]
 refine wpM_next 5 1 7 (by kernel_rfl) (fun _ _ d _ _ h => by cases d <;> exact h) hS0 (fun hne => ?_)
 simp only [sD,sE,sF,sG]
 repeat (go_big_quiet_step (fail))
 refine wpQuiet_nil ?_
 refine wpM_one (i:=6) (fuel:=6) (by kernel_rfl) (by omega) rfl (fun KK hKK => ?_)
 refine step_build1 rfl 74 118 (.const (.agg #[.int .i64 0,.int .i64 0,.string ⟨#[]⟩,.int .i64 0,.bool false,.bool false,.string ⟨#[]⟩,.int .i64 0,.int .i64 0,.int .i64 0,.int .i64 0,.int .i64 0,.string ⟨#[]⟩,.string ⟨#[]⟩,.slice none 0 0,.slice none 0 0,.slice none 0 0])) rfl (stC St.nul Tv.nul) rfl (by simp [stC]) (by simp [stC]) Tryz.underlying74 info_st (by kernel_rfl) ?_
 refine hKK _ _ hSa ?_
 clear hKK KK s2 sK hS0 hSa
 refine wpM_late (i:=7) (fuel:=5) (by kernel_rfl) (by omega) rfl (fun KK hKK => ?_)
 refine step_push_b rfl (.tmp 39) (.tmp 42) 74 rfl rowSt w3.drew (G + 1) (Value.slice Ar rl.length cr) rl.length (scs rl) (stC St.nul Tv.nul) rfl hown rfl rfl rfl (st_one0 St.nul) (by omega) (by omega) ?_
 intro v6 w6 ho6 hg6 hv6
 obtain ⟨g6,c6,rfl,hgg,_⟩:=ho6.1.form (Nat.succ_pos _)
 have hno : ∀ k,(Value.slice Ar rl.length cr).ownBlock = some k → G < k:=fun k hk => (hown.1.lt k hk).1
 have hgb:=gb_elem hg6 (hv6.elim .inl (fun e => .inr (by injection e with e; rw [e]; simp))) (rl.length * 17) (stC y.1 ⟨.slice Ae y.1.e.l.length ce,.slice none 0 0,.slice none 0 0⟩)
 have hsl : (scs rl).length = rl.length * 17:=scs_len rl
 have hoE : Own (w6.setCells g6 (rl.length * 17) (stC y.1 ⟨.slice Ae y.1.e.l.length ce,.slice none 0 0,.slice none 0 0⟩)) (G + 1) 118 17 (Value.slice (some ⟨g6,0,none⟩) (rl.length + 1) c6) (rl.length + 1) (scs rl ++ stC y.1 ⟨.slice Ae y.1.e.l.length ce,.slice none 0 0,.slice none 0 0⟩):=by
  have:=Own.sets (w:=w6) (stC y.1 ⟨.slice Ae y.1.e.l.length ce,.slice none 0 0,.slice none 0 0⟩) (scs rl) (stC St.nul Tv.nul) w6 ho6 rfl
  rwa [hsl] at this
 have tE : w6.there g6 (rl.length * 17) (stC y.1 ⟨.slice Ae y.1.e.l.length ce,.slice none 0 0,.slice none 0 0⟩).length:=ho6.there (by rw [stC_len]; omega)
 have J6:=((J.out.new (.cells (stC St.nul Tv.nul).toArray 118)).turn (Tn.of_gb (M:=fun k => (Value.slice Ar rl.length cr).ownBlock = some k) hg6 fun k e _ => e) (fun k hk e => by have:=hno k e; omega))
 have JE:=((J.out.new (.cells (stC St.nul Tv.nul).toArray 118)).turn (Tn.of_gb (M:=fun k => (Value.slice Ar rl.length cr).ownBlock = some k) hgb fun k e _ => e) (fun k hk e => by have:=hno k e; omega))
 have tG : w6.there G 2 1:=J6.v.there (by show 2 + 1 ≤ 5; omega)
 have tG2 : (w6.setCells g6 (rl.length * 17) (stC y.1 ⟨.slice Ae y.1.e.l.length ce,.slice none 0 0,.slice none 0 0⟩)).there G 2 1:=JE.v.there (by show 2 + 1 ≤ 5; omega)
 have tE2 : (w6.setCell ⟨G,2,none⟩ (Value.slice (some ⟨g6,0,none⟩) (rl.length + 1) c6)).there g6 (rl.length * 17) (stC y.1 ⟨.slice Ae y.1.e.l.length ce,.slice none 0 0,.slice none 0 0⟩).length:=(ho6.turn (Tn.set (M:=fun k => k = G) w6 G 2 (Value.slice (some ⟨g6,0,none⟩) (rl.length + 1) c6) rfl) (fun k hk e => by simp [Value.ownBlock] at hk; omega)).there (by rw [stC_len]; omega)
 have hcm : (w6.setCell ⟨G,2,none⟩ (Value.slice (some ⟨g6,0,none⟩) (rl.length + 1) c6)).setCells g6 (rl.length * 17) (stC y.1 ⟨.slice Ae y.1.e.l.length ce,.slice none 0 0,.slice none 0 0⟩) = ((w6.setCells g6 (rl.length * 17) (stC y.1 ⟨.slice Ae y.1.e.l.length ce,.slice none 0 0,.slice none 0 0⟩)).setCell ⟨G,2,none⟩ (Value.slice (some ⟨g6,0,none⟩) (rl.length + 1) c6)):=setCells_comm G 2 (Value.slice (some ⟨g6,0,none⟩) (rl.length + 1) c6) g6 (by omega) _ _ _
 have HJ : Hid (Rdr C G D (Value.slice (some ⟨g6,0,none⟩) (rl.length + 1) c6) (Value.slice Ao pl.length co) ((w6.setCells g6 (rl.length * 17) (stC y.1 ⟨.slice Ae y.1.e.l.length ce,.slice none 0 0,.slice none 0 0⟩)).setCell ⟨G,2,none⟩ (Value.slice (some ⟨g6,0,none⟩) (rl.length + 1) c6)) y.2):=Lh ⟨JE.cur.turn (Tn.set (M:=fun k => k = G) _ G 2 (Value.slice (some ⟨g6,0,none⟩) (rl.length + 1) c6) rfl) (fun k hk e => by omega),JE.v.set 2 (Value.slice (some ⟨g6,0,none⟩) (rl.length + 1) c6) (by show 2 < 5; omega),hgt⟩
 have HI : Hid (Pl G ((w6.setCells g6 (rl.length * 17) (stC y.1 ⟨.slice Ae y.1.e.l.length ce,.slice none 0 0,.slice none 0 0⟩)).setCell ⟨G,2,none⟩ (Value.slice (some ⟨g6,0,none⟩) (rl.length + 1) c6)) (Value.slice (some ⟨g6,0,none⟩) (rl.length + 1) c6) (Value.slice Ao pl.length co) (rl ++ [(y.1,⟨.slice Ae y.1.e.l.length ce,.slice none 0 0,.slice none 0 0⟩)]) pl):=Lh ((JP.out.app JX.out hoE hgb hv6 hl1).turn (Tn.set (M:=fun k => k = G) _ G 2 (Value.slice (some ⟨g6,0,none⟩) (rl.length + 1) c6) rfl) (fun k hk _ e => by omega))
 have HTT : Hid (Tn (fun k => k = C.g ∨ G ≤ k) w ((w6.setCells g6 (rl.length * 17) (stC y.1 ⟨.slice Ae y.1.e.l.length ce,.slice none 0 0,.slice none 0 0⟩)).setCell ⟨G,2,none⟩ (Value.slice (some ⟨g6,0,none⟩) (rl.length + 1) c6))):=Lh (((JT.out.trans (Tn.alloc _ _ _)).trans (Tn.of_gb hgb fun k e _ => .inr (by have:=hno k e; omega))).trans (Tn.set _ G 2 (Value.slice (some ⟨g6,0,none⟩) (rl.length + 1) c6) (.inr (Nat.le_refl G))))
 obtain ⟨WW,hWW⟩ : ∃ WW,w6.setCells g6 (rl.length * 17) (stC y.1 ⟨.slice Ae y.1.e.l.length ce,.slice none 0 0,.slice none 0 0⟩) = WW:=⟨_,rfl⟩
 rw [hWW] at HJ HI HTT hcm tG2
 have HCM:=Lh hcm
 clear hcm JE J6 hoE hgb ho6 hg6 hv6
 refine hKK _ _ ?_
 clear hKK KK
 simp only [Act.put,sA,sB,sC]
 refine wpAny_nextN 8 1 4 (by kernel_rfl) (fun _ _ d _ _ h => by cases d <;> exact h) ?_
 simp only [sD,sE,sF,sG]
 repeat (go_big_quiet_step (fail))
 refine wpQuiet_nil ?_
 refine wpAny_nextN 10 2 2 (by kernel_rfl) (fun _ _ d _ _ h => by cases d <;> exact h) ?_
 simp only [sD,sE,sF,sG]
 repeat (go_big_quiet_step (fail))
 refine wpQuiet_nil ?_
 refine wpAny_two (i:=9) (j:=12) (fuel:=1) (by kernel_rfl) rfl rfl (fun KK hKK => ?_) (fun KK hKK => ?_)
 ·refine step_stm rfl 118 (.tmp 44) (.tmp 40) rfl g6 (rl.length * 17) (stC y.1 ⟨.slice Ae y.1.e.l.length ce,.slice none 0 0,.slice none 0 0⟩) rfl rfl tE info_st hone ?_
  rw [hWW]
  refine hKK _ _ ?_
  clear hKK KK
  simp only [Act.put,sA,sB,sC]
  refine wpAny_one (i:=12) (fuel:=0) (by kernel_rfl) rfl (fun KK hKK => ?_)
  refine step_st1 rfl 74 (.tmp 46) (.tmp 43) rfl G 2 rfl (v:=(Value.slice (some ⟨g6,0,none⟩) (rl.length + 1) c6)) tG2 rfl (by kernel_rfl) rfl ?_
  refine hKK _ _ ?_
  clear hKK KK
  refine wpAny_done (by kernel_rfl) ?_ _
  go_wp2_with fail
  refine bodyPost_ret (results_none rfl _ _ _) rfl ⟨_,_,_,_,rfl,⟨HJ.out,HI.out,by rw [List.map_append,hrow]; rfl,hop⟩,HTT.out⟩
 ·refine step_st1 rfl 74 (.tmp 46) (.tmp 43) rfl G 2 rfl (v:=(Value.slice (some ⟨g6,0,none⟩) (rl.length + 1) c6)) tG rfl (by kernel_rfl) rfl ?_
  refine hKK _ _ ?_
  clear hKK KK
  simp only [Act.put,sA,sB,sC]
  refine wpAny_one (i:=9) (fuel:=0) (by kernel_rfl) rfl (fun KK hKK => ?_)
  refine step_stm rfl 118 (.tmp 44) (.tmp 40) rfl g6 (rl.length * 17) (stC y.1 ⟨.slice Ae y.1.e.l.length ce,.slice none 0 0,.slice none 0 0⟩) rfl rfl tE2 info_st hone ?_
  rw [HCM.out]
  refine hKK _ _ ?_
  clear hKK KK
  refine wpAny_done (by kernel_rfl) ?_ _
  go_wp2_with fail
  refine bodyPost_ret (results_none rfl _ _ _) rfl ⟨_,_,_,_,rfl,⟨HJ.out,HI.out,by rw [List.map_append,hrow]; rfl,hop⟩,HTT.out⟩
theorem step_any (C : Cx) (hC : TokOk C.T C.L) (hDg : DigOk C) (F : Nat) (hF : 16 * C.L.length + 9 ≤ F) (G : Nat) (D : Int) (rv ov : Value) (rl : List (St × Tv)) (pl : List Pe) (m : Mc) (w : World) (h : RdI C G D w m rv ov rl pl) (hr : m.r = 0) (h1 : m.row.length < 1000000) (h2 : m.op.length < 1000000) (h3 : ∀ b ∈ m.op,b.ah.length < 1000000) :
  CP 123 #[.pointer (some ⟨G,0,none⟩)] w (RdT C G D (m.step C.R F D) w):=by
 obtain ⟨row,op,p,r⟩:=m
 obtain ⟨hrd,hps,hrow,hop⟩:=h
 dsimp only at hr hrd hrow hop h1 h2 h3
 subst hr
 rw [← hrow,List.length_map] at h1
 rcases List.eq_nil_or_concat pl with hp | ⟨L,e,hp⟩
 ·subst hp
  subst hop
  unfold Mc.step
  dsimp only [List.map_nil,List.getLast?_nil]
  by_cases k2 : (hdS C.R F p).1.k = 2
  ·rw [if_pos (.inl k2)]
   exact step_z2 C hC hDg F hF G D rv ov rl [] row _ p w hrd hps hrow rfl h1 (by simp) rfl _ rfl k2
  by_cases k3 : (hdS C.R F p).1.k = 3
  ·rw [if_pos (.inr k3)]
   exact step_z3 C hC hDg F hF G D rv ov rl [] row _ p w hrd hps hrow rfl h1 (by simp) rfl _ rfl k3
  rw [if_neg (fun h => h.elim k2 k3)]
  exact step_zo C hC hDg F hF G D rv ov rl [] row _ p w hrd hps hrow rfl h1 (by simp) rfl _ rfl k2 k3
 ·subst hp
  rw [List.concat_eq_append] at hps hop
  subst hop
  rw [List.map_append,List.map_cons,List.map_nil] at h2 h3 ⊢
  unfold Mc.step
  dsimp only
  rw [List.getLast?_concat]
  dsimp only
  have hal : e.al.length < 1000000:=by
   have hm : e ∈ L ++ [e]:=List.mem_append.2 (.inr (List.mem_singleton.2 rfl))
   have:=h3 e.b (List.mem_append.2 (.inr (List.mem_singleton.2 rfl)))
   rw [← (hps.ah e hm).2,List.length_map] at this
   exact this
  cases he : endsB C.R p with
  | true =>
   rw [if_pos rfl]
   exact step_leave C hC hDg F hF G D rv ov rl L e row (L.map (·.b)) p w hrd hps hrow rfl (by simp at h2; omega) hal he
  | false =>
   rw [if_neg (by decide)]
   have hop : (L ++ [e]).map (·.b) = L.map (·.b) ++ [e.b]:=by simp
   by_cases k2 : (hdS C.R F p).1.k = 2
   ·rw [if_pos (.inl k2)]
    exact step_n2 C hC hDg F hF G D rv ov rl _ row _ p w hrd hps hrow hop h1 (by simpa using h2) (by simp) he _ rfl k2
   by_cases k3 : (hdS C.R F p).1.k = 3
   ·rw [if_pos (.inr k3)]
    exact step_n3 C hC hDg F hF G D rv ov rl _ row _ p w hrd hps hrow hop h1 (by simpa using h2) (by simp) he _ rfl k3
   rw [if_neg (fun h => h.elim k2 k3)]
   exact step_no C hC hDg F hF G D rv ov rl _ row _ p w hrd hps hrow hop h1 (by simpa using h2) (by simp) he _ rfl k2 k3
end Go.Proofs.YtkjhlgnpohamnaaGreatDoor
