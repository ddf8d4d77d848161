import Derived.Test.YtkjhlgnpohamnaaGreatDoorSq
import Derived.Test.YtkjhlgnpohamnaaGreatDoorMSb
import Derived.Test.YtkjhlgnpohamnaaGreatDoorMHd
import Derived.Deep.RegionLaw
import Derived.Deep.RegionHeld3
import Derived.BigQuiet
set_option maxHeartbeats 3200000
namespace Go.Proofs.YtkjhlgnpohamnaaGreatDoor
set_option linter.unusedVariables false
set_option linter.unusedSimpArgs false
open Go.RowKit
set_option maxRecDepth 100000 in
theorem enter_1 (C : Cx) (hC : TokOk C.T C.L) (G : Nat) (D : Int) (rv av ov : Value) (al : List (St × Tv)) (pl : List Pe) (op : List Bk) (b : Bk) (t : Tv) (row : List St) (p : Nat) (r : Int) (w : World) (h : Rdr C G D rv ov w (p,r)) (hP : Pl G w av ov al pl)
  (hop : pl.map (·.b) = op) (hah : al.map (·.1) = b.ah) (ht : TrS w (Fx G av ov pl) b.of t) (hlen : pl.length < 1000000) (hr : r = 0) (hw : ((C.R.wd p).toList == [123]) = true) (hd : 32 - (pl.length : Int) ≤ D) :
  CP 137 #[.pointer (some ⟨G,0,none⟩),bkV ⟨b,t,av,al⟩] w (RdT C G D (Mc.enter C.R D ⟨row,op,p,r⟩ b) w):=by
 have hgt:=h.gt
 have hGw:=h.v.lt
 obtain ⟨te,tl,tr⟩:=t
 obtain ⟨Ae,ce,rfl,_⟩:=ht.e.len
 obtain ⟨Al,cl,rfl,_⟩:=ht.l.len
 obtain ⟨Ar,cr,rfl,_⟩:=ht.r.len
 obtain ⟨Aa,ca,rfl⟩:=hP.row.form
 obtain ⟨Ao,co,rfl⟩:=hP.op.form
 have b1 : Below w.heap.size w (w.alloc (.cells #[.int .i64 b.of.k,.int .i64 b.of.a,.string b.of.nm,.int .i64 b.of.ty,.bool b.of.an.so,.bool b.of.an.lk,.string b.of.an.lb,.int .i64 b.of.an.fr,.int .i64 b.of.an.to,.int .i64 b.of.e.k,.int .i64 b.of.e.a,.int .i64 b.of.e.m,.string b.of.e.nm,.string b.of.e.lb,.slice Ae b.of.e.l.length ce,.slice Al b.of.l.length cl,.slice Ar b.of.r.length cr,.slice Aa al.length ca,.bool b.ot] 200)):=(Below.refl _ w).alloc nLe _
 have J:=Lh (h.under b1)
 have JP:=Lh (hP.under b1)
 have JE:=Lh (ht.turn (S':=Fx G (Value.slice Aa al.length ca) (Value.slice Ao pl.length co) pl) (Tn.of_below (fun _ => False) b1) (fun b hb _ => ⟨hb,fun h => h⟩))
 have JK : Hid (Var (w.alloc (.cells #[.int .i64 b.of.k,.int .i64 b.of.a,.string b.of.nm,.int .i64 b.of.ty,.bool b.of.an.so,.bool b.of.an.lk,.string b.of.an.lb,.int .i64 b.of.an.fr,.int .i64 b.of.an.to,.int .i64 b.of.e.k,.int .i64 b.of.e.a,.int .i64 b.of.e.m,.string b.of.e.nm,.string b.of.e.lb,.slice Ae b.of.e.l.length ce,.slice Al b.of.l.length cl,.slice Ar b.of.r.length cr,.slice Aa al.length ca,.bool b.ot] 200)) w.heap.size (bkC ⟨b,⟨.slice Ae b.of.e.l.length ce,.slice Al b.of.l.length cl,.slice Ar b.of.r.length cr⟩,.slice Aa al.length ca,al⟩)):=Lh (Var.new w (bkC ⟨b,⟨.slice Ae b.of.e.l.length ce,.slice Al b.of.l.length cl,.slice Ar b.of.r.length cr⟩,.slice Aa al.length ca,al⟩) 200 rfl)
 have JT : Hid (Tn (fun k => k = C.g ∨ G ≤ k) w (w.alloc (.cells #[.int .i64 b.of.k,.int .i64 b.of.a,.string b.of.nm,.int .i64 b.of.ty,.bool b.of.an.so,.bool b.of.an.lk,.string b.of.an.lb,.int .i64 b.of.an.fr,.int .i64 b.of.an.to,.int .i64 b.of.e.k,.int .i64 b.of.e.a,.int .i64 b.of.e.m,.string b.of.e.nm,.string b.of.e.lb,.slice Ae b.of.e.l.length ce,.slice Al b.of.l.length cl,.slice Ar b.of.r.length cr,.slice Aa al.length ca,.bool b.ot] 200))):=Lh (Tn.of_below _ b1)
 have hol : op.length = pl.length:=by rw [← hop]; simp
 have HPK : Hid (∀ W,Rdr C G D rv (Value.slice Ao pl.length co) W (p,r) → CP 56 #[C.ptr] W fun e w' => e = .returned (.string (C.R.wd p)) ∧ Below W.heap.size W w'):=Lh fun W hW => peek_any C hC p W hW.cur
 have hwp : IntKind.i64.wrap (32 - (pl.length : Int)) = 32 - (pl.length : Int):=IntWalk.i64_in _ (by omega)
 have KS : Hid (∀ W,Rdr C G D rv (Value.slice Ao pl.length co) W (p,r) → (W.cell? ⟨G,0,none⟩ = some C.ptr ∧ W.cell? ⟨G,1,none⟩ = some (.int .i64 D) ∧ W.cell? ⟨G,3,none⟩ = some (Value.slice Ao pl.length co) ∧ W.cell? ⟨G,4,none⟩ = some (.int .i64 r))):=Lh fun W h => ⟨h.c0,h.c1,h.c3,h.c4⟩
 obtain ⟨s,hs⟩ : ∃ s,C.R.wd p = s:=⟨_,rfl⟩
 rw [hs] at HPK hw
 unfold Mc.enter
 dsimp only
 rw [hol]
 clear h hP ht b1
 unfold bkV
 dsimp only
 have c4:=J.out.c4
 dsimp only at c4
 subst hr
 have hW : C.R.is p [123] = true:=by unfold Rw.is; rw [hs]; exact hw
 rw [if_pos ⟨rfl,hW,hd⟩]
 obtain ⟨x2,hx2⟩ : ∃ y,mu C.R (p,12) [wBra] = y:=⟨_,rfl⟩
 rw [hx2]
 have HM1 : Hid (∀ W,Rdr C G D rv (Value.slice Ao pl.length co) W (p,12) → CP 147 #[.pointer (some ⟨G,0,none⟩),.slice (some ⟨W.heap.size,0,none⟩) 1 1] (W.alloc (.cells #[.string ⟨#[123]⟩] 9)) (GoTo C G D rv (Value.slice Ao pl.length co) none0 x2 W)):=Lh fun W hW => by
  have:=must1_any C hC G D rv (Value.slice Ao pl.length co) (p,12) W hW ⟨#[123]⟩ (by decide)
  rwa [hx2] at this
 clear hx2 hs hW
 go_enter Tryz.func137,Tryz.ntmps137
 go_wp2_with fail
 have J:=Lh (J.out.under (below_drew _ _))
 have JP:=Lh (JP.out.under (below_drew _ _))
 have JE:=Lh (JE.out.turn (S':=Fx G (Value.slice Aa al.length ca) (Value.slice Ao pl.length co) pl) (Tn.drew (fun _ => False) _) (fun b hb _ => ⟨hb,fun h => h⟩))
 have JK:=Lh (JK.out.under (below_drew _ _))
 have JT:=Lh (JT.out.trans (Tn.drew _ _))
 obtain ⟨q0,q1,q3,q4⟩:=KS.out _ J.out
 obtain ⟨S,hSd⟩ : ∃ S : World → Prop,S = fun W => (W.cell? ⟨G,0,none⟩ = some C.ptr ∧ W.cell? ⟨G,1,none⟩ = some (.int .i64 D) ∧ W.cell? ⟨G,3,none⟩ = some (Value.slice Ao pl.length co) ∧ W.cell? ⟨G,4,none⟩ = some (.int .i64 0)):=⟨_,rfl⟩
 have HS : Hid (∀ W,Rdr C G D rv (Value.slice Ao pl.length co) W (p,0) → S W):=Lh fun W h => by rw [hSd]; exact KS.out W h
 have hSF : ∀ W,S W → (W.cell? ⟨G,0,none⟩ = some C.ptr ∧ W.cell? ⟨G,1,none⟩ = some (.int .i64 D) ∧ W.cell? ⟨G,3,none⟩ = some (Value.slice Ao pl.length co) ∧ W.cell? ⟨G,4,none⟩ = some (.int .i64 0)):=by rw [hSd]; exact fun W h => h
 have s0 : ∀ s : SW S,s.w.cell? ⟨G,0,none⟩ = some C.ptr:=fun s => (hSF _ s.h).1
 have s1 : ∀ s : SW S,s.w.cell? ⟨G,1,none⟩ = some (.int .i64 D):=fun s => (hSF _ s.h).2.1
 have s2 : ∀ s : SW S,s.w.cell? ⟨G,3,none⟩ = some (Value.slice Ao pl.length co):=fun s => (hSF _ s.h).2.2.1
 have s3 : ∀ s : SW S,s.w.cell? ⟨G,4,none⟩ = some (.int .i64 0):=fun s => (hSF _ s.h).2.2.2
 have hS0:=HS.out _ J.out
 clear hSd hSF q0 q1 q3 q4
 refine regionH_start (by kernel_rfl) 26 rfl S 25 ?_
 refine wpL_next 0 10 16 (by kernel_rfl) (fun _ _ d _ _ h => by cases d <;> exact h) hS0 (fun hne => ?_)
 simp only [sD,sE,sF,sG]
 repeat (go_big_quiet_step (fail))
 refine wpQuiet_nil ?_
 refine wpL_one (i:=10) (fuel:=15) (by kernel_rfl) rfl (fun KK hKK => ?_)
 go_simp
 refine (HPK.out _ J.out).mono ?_
 rintro e wz ⟨rfl,bb⟩
 have J:=Lh (J.out.under bb)
 have JP:=Lh (JP.out.under bb)
 have JE:=Lh (JE.out.turn (S':=Fx G (Value.slice Aa al.length ca) (Value.slice Ao pl.length co) pl) (Tn.of_below (fun _ => False) bb) (fun b hb _ => ⟨hb,fun h => h⟩))
 have JK:=Lh (JK.out.under bb)
 have JT:=Lh (JT.out.trans (Tn.of_below _ bb))
 clear bb hS0
 have hS0:=HS.out _ J.out
 refine hKK _ _ hS0 ?_
 clear hKK KK
 refine wpL_next 11 14 1 (by kernel_rfl) (fun _ _ d _ _ h => by cases d <;> exact h) hS0 (fun hne => ?_)
 simp only [sD,sE,sF,sG]
 repeat (go_big_quiet_step (fail))
 refine wpQuiet_nil ?_
 refine wpL_last (fuel:=0) (by kernel_rfl) (by kernel_rfl) rfl (fun KK hKK => ?_)
 go_simp
 refine hKK _ _ ?_
 clear hKK KK s0 s1 s2 s3 HS hS0
 have z0:=J.out.c0
 have z4:=J.out.f4
 have e4:=J.out.c4
 dsimp only at e4
 go_wp2_with fail
 have JP:=Lh (JP.out.turn (Tn.set (M:=fun k => k = G) wz G 4 (.int .i64 12) rfl) (fun k hk _ e => by omega))
 have JE:=Lh (JE.out.turn (S':=Fx G (Value.slice Aa al.length ca) (Value.slice Ao pl.length co) pl) (Tn.set (M:=fun k => k = G) wz G 4 (.int .i64 12) rfl) (fun b hb _ => ⟨hb,fun e => by have:=hb.1; omega⟩))
 have JK:=Lh (JK.out.turn (Tn.set (M:=fun k => k = G) wz G 4 (.int .i64 12) rfl) (by omega))
 have JT:=Lh (JT.out.trans (Tn.set wz G 4 (.int .i64 12) (.inr (Nat.le_refl G))))
 have J:=Lh (show Rdr C G D rv (Value.slice Ao pl.length co) _ (p,12) from J.out.err 12)
 have HM1e:=Lh (HM1.out _ J.out)
 rw [show (wz.setCell ⟨G,4,none⟩ (.int .i64 12)).heap.size = wz.heap.size by simp] at HM1e
 go_wp2_with (first
  | (go_at_call 147; (with_reducible refine (HM1e.out).mono ?_); rintro e w2 ⟨rfl,hr,ht⟩; have hsz:=ht.size; have JP:=Lh (JP.out.turn ht (by intro k hk _ h; rcases h with h | h <;> omega)); have JE:=Lh (JE.out.turn ht (fun b hb _ => ⟨hb,by intro h; have:=hb.1; rcases h with h | h <;> omega⟩)); have JK:=Lh (JK.out.turn ht (by intro h; rcases h with h | h <;> omega)); have JT:=Lh (JT.out.trans (ht.weak (fun k _ h => h.elim .inl (fun h => .inr (by omega))))); have J:=Lh hr; clear hr ht; dsimp only; refine Hid.out ?_)
  | fail)
 have g2:=J.out.c2
 have g3:=J.out.c3
 have z2:=J.out.f2
 have z3:=J.out.f3
 have J:=Lh (J.out.under (below_drew _ _))
 have JP:=Lh (JP.out.under (below_drew _ _))
 have JE:=Lh (JE.out.turn (S':=Fx G (Value.slice Aa al.length ca) (Value.slice Ao pl.length co) pl) (Tn.drew (fun _ => False) _) (fun b hb _ => ⟨hb,fun h => h⟩))
 have JK:=Lh (JK.out.under (below_drew _ _))
 have JT:=Lh (JT.out.trans (Tn.drew _ _))
 have hown:=JP.out.op
 have hG1 : G < w2.heap.size:=J.out.v.lt
 have hK1 : w.heap.size < w2.heap.size:=JK.out.lt
 have hG2 : G < w2.drew.heap.size:=J.out.v.lt
 have hK2 : w.heap.size < w2.drew.heap.size:=JK.out.lt
 have FIN : Hid (∀ v6 w6,Own w6 (G + 1) 200 19 v6 (pl.length + 1) (bcs pl ++ bkC ⟨b,⟨.slice Ae b.of.e.l.length ce,.slice Al b.of.l.length cl,.slice Ar b.of.r.length cr⟩,.slice Aa al.length ca,al⟩) → (w2.drew.alloc (.cells (bkC ⟨b,⟨.slice Ae b.of.e.l.length ce,.slice Al b.of.l.length cl,.slice Ar b.of.r.length cr⟩,.slice Aa al.length ca,al⟩).toArray 200)).grownBy w6 (Value.slice Ao pl.length co).ownBlock → (v6.ownBlock = (Value.slice Ao pl.length co).ownBlock ∨ v6.ownBlock = some (w2.drew.heap.size + 1)) → (w6.cell? ⟨G,2,none⟩ = some rv ∧ w6.cell? ⟨G,3,none⟩ = some (Value.slice Ao pl.length co) ∧ w6.frozen? ⟨G,2,none⟩ = false ∧ w6.frozen? ⟨G,3,none⟩ = false) ∧ RdI C G D ((w6.setCell ⟨G,3,none⟩ v6).setCell ⟨G,2,none⟩ (.slice none 0 0)) ⟨[],op ++ [b],x2.1,x2.2⟩ (.slice none 0 0) v6 [] (pl ++ [⟨b,⟨.slice Ae b.of.e.l.length ce,.slice Al b.of.l.length cl,.slice Ar b.of.r.length cr⟩,.slice Aa al.length ca,al⟩]) ∧ Tn (fun k => k = C.g ∨ G ≤ k) w ((w6.setCell ⟨G,3,none⟩ v6).setCell ⟨G,2,none⟩ (.slice none 0 0))):=Lh fun v6 w6 ho hg hv => by
  have hJ:=J.out.new (.cells (bkC ⟨b,⟨.slice Ae b.of.e.l.length ce,.slice Al b.of.l.length cl,.slice Ar b.of.r.length cr⟩,.slice Aa al.length ca,al⟩).toArray 200)
  have hno : ∀ k,((Value.slice Ao pl.length co) : Value).ownBlock = some k → G < k:=fun k hk => (hown.1.lt k hk).1
  have hJ6 : Rdr C G D rv (Value.slice Ao pl.length co) w6 x2:=hJ.turn (Tn.of_gb (M:=fun k => ((Value.slice Ao pl.length co) : Value).ownBlock = some k) hg fun k e _ => e) (fun k hk e => by have:=hno k e; omega)
  have hP:=JP.out.pushed ⟨b,⟨.slice Ae b.of.e.l.length ce,.slice Al b.of.l.length cl,.slice Ar b.of.r.length cr⟩,.slice Aa al.length ca,al⟩ rfl rfl hah JE.out ho hg hv (by omega)
  refine ⟨⟨hJ6.c2,hJ6.c3,hJ6.f2,hJ6.f3⟩,⟨⟨(hJ6.cur.turn (Tn.set (M:=fun k => k = G) w6 G 3 v6 rfl) (fun k hk e => by omega)).turn (Tn.set (M:=fun k => k = G) _ G 2 (.slice none 0 0) rfl) (fun k hk e => by omega),(hJ6.v.set 3 v6 (by show 3 < 5; omega)).set 2 (.slice none 0 0) (by show 2 < 5; omega),hgt⟩,(hP.turn (Tn.set (M:=fun k => k = G) w6 G 3 v6 rfl) (fun k hk _ e => by omega)).turn (Tn.set (M:=fun k => k = G) _ G 2 (.slice none 0 0) rfl) (fun k hk _ e => by omega),rfl,by rw [List.map_append,hop]; rfl⟩,?_⟩
  exact (((JT.out.trans (Tn.alloc _ _ _)).trans (Tn.of_gb hg fun k e _ => .inr (by have:=hno k e; omega))).trans (Tn.set w6 G 3 v6 (.inr (Nat.le_refl G)))).trans (Tn.set _ G 2 (.slice none 0 0) (.inr (Nat.le_refl G)))
 refine Lh ?_
 go_wp2_with fail
 obtain ⟨S,hSd⟩ : ∃ S : World → Prop,S = fun W => W.rangeAt w.heap.size 0 (bkC ⟨b,⟨.slice Ae b.of.e.l.length ce,.slice Al b.of.l.length cl,.slice Ar b.of.r.length cr⟩,.slice Aa al.length ca,al⟩) ∧ W.cell? ⟨G,3,none⟩ = some (Value.slice Ao pl.length co):=⟨_,rfl⟩
 have hSF : ∀ W,S W → W.rangeAt w.heap.size 0 (bkC ⟨b,⟨.slice Ae b.of.e.l.length ce,.slice Al b.of.l.length cl,.slice Ar b.of.r.length cr⟩,.slice Aa al.length ca,al⟩) ∧ W.cell? ⟨G,3,none⟩ = some (Value.slice Ao pl.length co):=by rw [hSd]; exact fun W h => h
 have hS0 : S w2.drew:=by rw [hSd]; exact ⟨JK.out.rg,J.out.c3⟩
 have hSa : S (w2.drew.alloc (.cells (bkC ⟨b,⟨.slice Ae b.of.e.l.length ce,.slice Al b.of.l.length cl,.slice Ar b.of.r.length cr⟩,.slice Aa al.length ca,al⟩).toArray 200)):=by rw [hSd]; exact ⟨(JK.out.under bAl).rg,(J.out.new _).c3⟩
 have s3 : ∀ s : SW S,s.w.cell? ⟨G,3,none⟩ = some (Value.slice Ao pl.length co):=fun s => (hSF _ s.h).2
 have sK : ∀ W,S W → W.rangeAt w.heap.size 0 (bkC ⟨b,⟨.slice Ae b.of.e.l.length ce,.slice Al b.of.l.length cl,.slice Ar b.of.r.length cr⟩,.slice Aa al.length ca,al⟩):=fun W h => (hSF W h).1
 clear hSd hSF
 refine region_start (by kernel_rfl) 15 rfl ?_
 refine wpAny_next 0 3 12 (by kernel_rfl) (fun _ _ d _ _ h => by cases d <;> exact h) ?_
 simp only [sD,sE,sF,sG]
 repeat (go_big_quiet_step (fail))
 refine wpQuiet_nil ?_
 refine wpAny_hold S 8 (by kernel_rfl) ?_
 refine wpM_next 3 3 9 (by kernel_rfl) (fun _ _ d _ _ h => by cases d <;> exact h) hS0 (fun hne => ?_)
 simp only [sD,sE,sF,sG]
 repeat (go_big_quiet_step (fail))
 refine wpQuiet_nil ?_
 refine wpM_take 6 (fuel:=8) (.agg (bkC ⟨b,⟨.slice Ae b.of.e.l.length ce,.slice Al b.of.l.length cl,.slice Ar b.of.r.length cr⟩,.slice Aa al.length ca,al⟩).toArray) (by kernel_rfl) (fun _ _ d _ _ h => by cases d <;> exact h) rfl hS0 (yieldsIf_load_mid rfl 200 (.tmp 3) rfl w.heap.size 0 rfl (bkC ⟨b,⟨.slice Ae b.of.e.l.length ce,.slice Al b.of.l.length cl,.slice Ar b.of.r.length cr⟩,.slice Aa al.length ca,al⟩) _ sK Tryz.underlying200 rfl info_bk) ?_
 refine wpM_one (i:=7) (fuel:=7) (by kernel_rfl) (by omega) rfl (fun KK hKK => ?_)
 refine step_build1 rfl 178 200 (.tmp 42) rfl (bkC ⟨b,⟨.slice Ae b.of.e.l.length ce,.slice Al b.of.l.length cl,.slice Ar b.of.r.length cr⟩,.slice Aa al.length ca,al⟩) rfl (by simp [bkC]) (by simp [bkC]) Tryz.underlying178 info_bk (by kernel_rfl) ?_
 refine hKK _ _ hSa ?_
 clear hKK KK s3 sK hS0 hSa
 refine wpM_late (i:=8) (fuel:=6) (by kernel_rfl) (by omega) rfl (fun KK hKK => ?_)
 refine step_push_b rfl (.tmp 41) (.tmp 43) 178 rfl rowBk w2.drew (G + 1) (Value.slice Ao pl.length co) pl.length (bcs pl) (bkC ⟨b,⟨.slice Ae b.of.e.l.length ce,.slice Al b.of.l.length cl,.slice Ar b.of.r.length cr⟩,.slice Aa al.length ca,al⟩) rfl hown rfl rfl rfl (bkC_one rfl rfl rfl rfl) (by omega) (by omega) ?_
 intro v6 w6 ho6 hg6 hv6
 obtain ⟨A6,c6,rfl⟩:=ho6.form
 obtain ⟨⟨d2,d3,y2,y3⟩,hI,hT⟩:=FIN.out _ _ ho6 hg6 hv6
 have HI:=Lh hI
 have HTT:=Lh hT
 clear hI hT ho6 hg6 hv6
 refine hKK _ _ ?_
 clear hKK KK
 simp only [Act.put,sA,sB,sC]
 refine wpAny_one (i:=9) (fuel:=5) (by kernel_rfl) rfl (fun KK hKK => ?_)
 go_simp
 refine hKK _ _ ?_
 clear hKK KK
 refine wpAny_one (i:=10) (fuel:=4) (by kernel_rfl) rfl (fun KK hKK => ?_)
 go_simp
 refine hKK _ _ ?_
 clear hKK KK
 refine wpAny_one (i:=11) (fuel:=3) (by kernel_rfl) rfl (fun KK hKK => ?_)
 go_simp
 refine hKK _ _ ?_
 clear hKK KK
 refine wpAny_one (i:=12) (fuel:=2) (by kernel_rfl) rfl (fun KK hKK => ?_)
 go_simp
 refine hKK _ _ ?_
 clear hKK KK
 refine wpAny_one (i:=13) (fuel:=1) (by kernel_rfl) rfl (fun KK hKK => ?_)
 go_simp
 refine hKK _ _ ?_
 clear hKK KK
 refine wpAny_one (i:=14) (fuel:=0) (by kernel_rfl) rfl (fun KK hKK => ?_)
 go_simp
 refine hKK _ _ ?_
 clear hKK KK
 refine wpAny_done (by kernel_rfl) ?_ _
 all_goals
  refine bodyPost_ret (results_none rfl _ _ _) rfl ⟨_,_,_,_,rfl,HI.out,HTT.out⟩
set_option maxRecDepth 100000 in
theorem enter_2 (C : Cx) (hC : TokOk C.T C.L) (G : Nat) (D : Int) (rv av ov : Value) (al : List (St × Tv)) (pl : List Pe) (op : List Bk) (b : Bk) (t : Tv) (row : List St) (p : Nat) (r : Int) (w : World) (h : Rdr C G D rv ov w (p,r)) (hP : Pl G w av ov al pl)
  (hop : pl.map (·.b) = op) (hah : al.map (·.1) = b.ah) (ht : TrS w (Fx G av ov pl) b.of t) (hlen : pl.length < 1000000) (hr : r = 0) (hw : ((C.R.wd p).toList == [123]) = true) (hd : ¬ 32 - (pl.length : Int) ≤ D) :
  CP 137 #[.pointer (some ⟨G,0,none⟩),bkV ⟨b,t,av,al⟩] w (RdT C G D (Mc.enter C.R D ⟨row,op,p,r⟩ b) w):=by
 have hgt:=h.gt
 have hGw:=h.v.lt
 obtain ⟨te,tl,tr⟩:=t
 obtain ⟨Ae,ce,rfl,_⟩:=ht.e.len
 obtain ⟨Al,cl,rfl,_⟩:=ht.l.len
 obtain ⟨Ar,cr,rfl,_⟩:=ht.r.len
 obtain ⟨Aa,ca,rfl⟩:=hP.row.form
 obtain ⟨Ao,co,rfl⟩:=hP.op.form
 have b1 : Below w.heap.size w (w.alloc (.cells #[.int .i64 b.of.k,.int .i64 b.of.a,.string b.of.nm,.int .i64 b.of.ty,.bool b.of.an.so,.bool b.of.an.lk,.string b.of.an.lb,.int .i64 b.of.an.fr,.int .i64 b.of.an.to,.int .i64 b.of.e.k,.int .i64 b.of.e.a,.int .i64 b.of.e.m,.string b.of.e.nm,.string b.of.e.lb,.slice Ae b.of.e.l.length ce,.slice Al b.of.l.length cl,.slice Ar b.of.r.length cr,.slice Aa al.length ca,.bool b.ot] 200)):=(Below.refl _ w).alloc nLe _
 have J:=Lh (h.under b1)
 have JP:=Lh (hP.under b1)
 have JE:=Lh (ht.turn (S':=Fx G (Value.slice Aa al.length ca) (Value.slice Ao pl.length co) pl) (Tn.of_below (fun _ => False) b1) (fun b hb _ => ⟨hb,fun h => h⟩))
 have JK : Hid (Var (w.alloc (.cells #[.int .i64 b.of.k,.int .i64 b.of.a,.string b.of.nm,.int .i64 b.of.ty,.bool b.of.an.so,.bool b.of.an.lk,.string b.of.an.lb,.int .i64 b.of.an.fr,.int .i64 b.of.an.to,.int .i64 b.of.e.k,.int .i64 b.of.e.a,.int .i64 b.of.e.m,.string b.of.e.nm,.string b.of.e.lb,.slice Ae b.of.e.l.length ce,.slice Al b.of.l.length cl,.slice Ar b.of.r.length cr,.slice Aa al.length ca,.bool b.ot] 200)) w.heap.size (bkC ⟨b,⟨.slice Ae b.of.e.l.length ce,.slice Al b.of.l.length cl,.slice Ar b.of.r.length cr⟩,.slice Aa al.length ca,al⟩)):=Lh (Var.new w (bkC ⟨b,⟨.slice Ae b.of.e.l.length ce,.slice Al b.of.l.length cl,.slice Ar b.of.r.length cr⟩,.slice Aa al.length ca,al⟩) 200 rfl)
 have JT : Hid (Tn (fun k => k = C.g ∨ G ≤ k) w (w.alloc (.cells #[.int .i64 b.of.k,.int .i64 b.of.a,.string b.of.nm,.int .i64 b.of.ty,.bool b.of.an.so,.bool b.of.an.lk,.string b.of.an.lb,.int .i64 b.of.an.fr,.int .i64 b.of.an.to,.int .i64 b.of.e.k,.int .i64 b.of.e.a,.int .i64 b.of.e.m,.string b.of.e.nm,.string b.of.e.lb,.slice Ae b.of.e.l.length ce,.slice Al b.of.l.length cl,.slice Ar b.of.r.length cr,.slice Aa al.length ca,.bool b.ot] 200))):=Lh (Tn.of_below _ b1)
 have hol : op.length = pl.length:=by rw [← hop]; simp
 have HPK : Hid (∀ W,Rdr C G D rv (Value.slice Ao pl.length co) W (p,r) → CP 56 #[C.ptr] W fun e w' => e = .returned (.string (C.R.wd p)) ∧ Below W.heap.size W w'):=Lh fun W hW => peek_any C hC p W hW.cur
 have hwp : IntKind.i64.wrap (32 - (pl.length : Int)) = 32 - (pl.length : Int):=IntWalk.i64_in _ (by omega)
 have KS : Hid (∀ W,Rdr C G D rv (Value.slice Ao pl.length co) W (p,r) → (W.cell? ⟨G,0,none⟩ = some C.ptr ∧ W.cell? ⟨G,1,none⟩ = some (.int .i64 D) ∧ W.cell? ⟨G,3,none⟩ = some (Value.slice Ao pl.length co) ∧ W.cell? ⟨G,4,none⟩ = some (.int .i64 r))):=Lh fun W h => ⟨h.c0,h.c1,h.c3,h.c4⟩
 obtain ⟨s,hs⟩ : ∃ s,C.R.wd p = s:=⟨_,rfl⟩
 rw [hs] at HPK hw
 unfold Mc.enter
 dsimp only
 rw [hol]
 clear h hP ht b1
 unfold bkV
 dsimp only
 have c4:=J.out.c4
 dsimp only at c4
 subst hr
 have hW : C.R.is p [123] = true:=by unfold Rw.is; rw [hs]; exact hw
 rw [if_neg (fun h => hd h.2.2)]
 obtain ⟨x2,hx2⟩ : ∃ y,mu C.R (p,0) [wBra] = y:=⟨_,rfl⟩
 rw [hx2]
 have HM1 : Hid (∀ W,Rdr C G D rv (Value.slice Ao pl.length co) W (p,0) → CP 147 #[.pointer (some ⟨G,0,none⟩),.slice (some ⟨W.heap.size,0,none⟩) 1 1] (W.alloc (.cells #[.string ⟨#[123]⟩] 9)) (GoTo C G D rv (Value.slice Ao pl.length co) none0 x2 W)):=Lh fun W hW => by
  have:=must1_any C hC G D rv (Value.slice Ao pl.length co) (p,0) W hW ⟨#[123]⟩ (by decide)
  rwa [hx2] at this
 clear hx2 hs hW
 go_enter Tryz.func137,Tryz.ntmps137
 go_wp2_with fail
 have J:=Lh (J.out.under (below_drew _ _))
 have JP:=Lh (JP.out.under (below_drew _ _))
 have JE:=Lh (JE.out.turn (S':=Fx G (Value.slice Aa al.length ca) (Value.slice Ao pl.length co) pl) (Tn.drew (fun _ => False) _) (fun b hb _ => ⟨hb,fun h => h⟩))
 have JK:=Lh (JK.out.under (below_drew _ _))
 have JT:=Lh (JT.out.trans (Tn.drew _ _))
 obtain ⟨q0,q1,q3,q4⟩:=KS.out _ J.out
 obtain ⟨S,hSd⟩ : ∃ S : World → Prop,S = fun W => (W.cell? ⟨G,0,none⟩ = some C.ptr ∧ W.cell? ⟨G,1,none⟩ = some (.int .i64 D) ∧ W.cell? ⟨G,3,none⟩ = some (Value.slice Ao pl.length co) ∧ W.cell? ⟨G,4,none⟩ = some (.int .i64 0)):=⟨_,rfl⟩
 have HS : Hid (∀ W,Rdr C G D rv (Value.slice Ao pl.length co) W (p,0) → S W):=Lh fun W h => by rw [hSd]; exact KS.out W h
 have hSF : ∀ W,S W → (W.cell? ⟨G,0,none⟩ = some C.ptr ∧ W.cell? ⟨G,1,none⟩ = some (.int .i64 D) ∧ W.cell? ⟨G,3,none⟩ = some (Value.slice Ao pl.length co) ∧ W.cell? ⟨G,4,none⟩ = some (.int .i64 0)):=by rw [hSd]; exact fun W h => h
 have s0 : ∀ s : SW S,s.w.cell? ⟨G,0,none⟩ = some C.ptr:=fun s => (hSF _ s.h).1
 have s1 : ∀ s : SW S,s.w.cell? ⟨G,1,none⟩ = some (.int .i64 D):=fun s => (hSF _ s.h).2.1
 have s2 : ∀ s : SW S,s.w.cell? ⟨G,3,none⟩ = some (Value.slice Ao pl.length co):=fun s => (hSF _ s.h).2.2.1
 have s3 : ∀ s : SW S,s.w.cell? ⟨G,4,none⟩ = some (.int .i64 0):=fun s => (hSF _ s.h).2.2.2
 have hS0:=HS.out _ J.out
 clear hSd hSF q0 q1 q3 q4
 refine regionH_start (by kernel_rfl) 26 rfl S 25 ?_
 refine wpL_next 0 10 16 (by kernel_rfl) (fun _ _ d _ _ h => by cases d <;> exact h) hS0 (fun hne => ?_)
 simp only [sD,sE,sF,sG]
 repeat (go_big_quiet_step (fail))
 refine wpQuiet_nil ?_
 refine wpL_one (i:=10) (fuel:=15) (by kernel_rfl) rfl (fun KK hKK => ?_)
 go_simp
 refine (HPK.out _ J.out).mono ?_
 rintro e wz ⟨rfl,bb⟩
 have J:=Lh (J.out.under bb)
 have JP:=Lh (JP.out.under bb)
 have JE:=Lh (JE.out.turn (S':=Fx G (Value.slice Aa al.length ca) (Value.slice Ao pl.length co) pl) (Tn.of_below (fun _ => False) bb) (fun b hb _ => ⟨hb,fun h => h⟩))
 have JK:=Lh (JK.out.under bb)
 have JT:=Lh (JT.out.trans (Tn.of_below _ bb))
 clear bb hS0
 have hS0:=HS.out _ J.out
 refine hKK _ _ hS0 ?_
 clear hKK KK
 refine wpL_next 11 14 1 (by kernel_rfl) (fun _ _ d _ _ h => by cases d <;> exact h) hS0 (fun hne => ?_)
 simp only [sD,sE,sF,sG]
 repeat (go_big_quiet_step (fail))
 refine wpQuiet_nil ?_
 refine wpL_last (fuel:=0) (by kernel_rfl) (by kernel_rfl) rfl (fun KK hKK => ?_)
 go_simp
 refine hKK _ _ ?_
 clear hKK KK s0 s1 s2 s3 HS hS0
 have z0:=J.out.c0
 go_wp2_with (first
  | (go_at_call 147; (with_reducible refine (HM1.out _ J.out).mono ?_); rintro e w2 ⟨rfl,hr,ht⟩; have hsz:=ht.size; have JP:=Lh (JP.out.turn ht (by intro k hk _ h; rcases h with h | h <;> omega)); have JE:=Lh (JE.out.turn ht (fun b hb _ => ⟨hb,by intro h; have:=hb.1; rcases h with h | h <;> omega⟩)); have JK:=Lh (JK.out.turn ht (by intro h; rcases h with h | h <;> omega)); have JT:=Lh (JT.out.trans (ht.weak (fun k _ h => h.elim .inl (fun h => .inr (by omega))))); have J:=Lh hr; clear hr ht; dsimp only; refine Hid.out ?_)
  | fail)
 have g2:=J.out.c2
 have g3:=J.out.c3
 have z2:=J.out.f2
 have z3:=J.out.f3
 have J:=Lh (J.out.under (below_drew _ _))
 have JP:=Lh (JP.out.under (below_drew _ _))
 have JE:=Lh (JE.out.turn (S':=Fx G (Value.slice Aa al.length ca) (Value.slice Ao pl.length co) pl) (Tn.drew (fun _ => False) _) (fun b hb _ => ⟨hb,fun h => h⟩))
 have JK:=Lh (JK.out.under (below_drew _ _))
 have JT:=Lh (JT.out.trans (Tn.drew _ _))
 have hown:=JP.out.op
 have hG1 : G < w2.heap.size:=J.out.v.lt
 have hK1 : w.heap.size < w2.heap.size:=JK.out.lt
 have hG2 : G < w2.drew.heap.size:=J.out.v.lt
 have hK2 : w.heap.size < w2.drew.heap.size:=JK.out.lt
 have FIN : Hid (∀ v6 w6,Own w6 (G + 1) 200 19 v6 (pl.length + 1) (bcs pl ++ bkC ⟨b,⟨.slice Ae b.of.e.l.length ce,.slice Al b.of.l.length cl,.slice Ar b.of.r.length cr⟩,.slice Aa al.length ca,al⟩) → (w2.drew.alloc (.cells (bkC ⟨b,⟨.slice Ae b.of.e.l.length ce,.slice Al b.of.l.length cl,.slice Ar b.of.r.length cr⟩,.slice Aa al.length ca,al⟩).toArray 200)).grownBy w6 (Value.slice Ao pl.length co).ownBlock → (v6.ownBlock = (Value.slice Ao pl.length co).ownBlock ∨ v6.ownBlock = some (w2.drew.heap.size + 1)) → (w6.cell? ⟨G,2,none⟩ = some rv ∧ w6.cell? ⟨G,3,none⟩ = some (Value.slice Ao pl.length co) ∧ w6.frozen? ⟨G,2,none⟩ = false ∧ w6.frozen? ⟨G,3,none⟩ = false) ∧ RdI C G D ((w6.setCell ⟨G,3,none⟩ v6).setCell ⟨G,2,none⟩ (.slice none 0 0)) ⟨[],op ++ [b],x2.1,x2.2⟩ (.slice none 0 0) v6 [] (pl ++ [⟨b,⟨.slice Ae b.of.e.l.length ce,.slice Al b.of.l.length cl,.slice Ar b.of.r.length cr⟩,.slice Aa al.length ca,al⟩]) ∧ Tn (fun k => k = C.g ∨ G ≤ k) w ((w6.setCell ⟨G,3,none⟩ v6).setCell ⟨G,2,none⟩ (.slice none 0 0))):=Lh fun v6 w6 ho hg hv => by
  have hJ:=J.out.new (.cells (bkC ⟨b,⟨.slice Ae b.of.e.l.length ce,.slice Al b.of.l.length cl,.slice Ar b.of.r.length cr⟩,.slice Aa al.length ca,al⟩).toArray 200)
  have hno : ∀ k,((Value.slice Ao pl.length co) : Value).ownBlock = some k → G < k:=fun k hk => (hown.1.lt k hk).1
  have hJ6 : Rdr C G D rv (Value.slice Ao pl.length co) w6 x2:=hJ.turn (Tn.of_gb (M:=fun k => ((Value.slice Ao pl.length co) : Value).ownBlock = some k) hg fun k e _ => e) (fun k hk e => by have:=hno k e; omega)
  have hP:=JP.out.pushed ⟨b,⟨.slice Ae b.of.e.l.length ce,.slice Al b.of.l.length cl,.slice Ar b.of.r.length cr⟩,.slice Aa al.length ca,al⟩ rfl rfl hah JE.out ho hg hv (by omega)
  refine ⟨⟨hJ6.c2,hJ6.c3,hJ6.f2,hJ6.f3⟩,⟨⟨(hJ6.cur.turn (Tn.set (M:=fun k => k = G) w6 G 3 v6 rfl) (fun k hk e => by omega)).turn (Tn.set (M:=fun k => k = G) _ G 2 (.slice none 0 0) rfl) (fun k hk e => by omega),(hJ6.v.set 3 v6 (by show 3 < 5; omega)).set 2 (.slice none 0 0) (by show 2 < 5; omega),hgt⟩,(hP.turn (Tn.set (M:=fun k => k = G) w6 G 3 v6 rfl) (fun k hk _ e => by omega)).turn (Tn.set (M:=fun k => k = G) _ G 2 (.slice none 0 0) rfl) (fun k hk _ e => by omega),rfl,by rw [List.map_append,hop]; rfl⟩,?_⟩
  exact (((JT.out.trans (Tn.alloc _ _ _)).trans (Tn.of_gb hg fun k e _ => .inr (by have:=hno k e; omega))).trans (Tn.set w6 G 3 v6 (.inr (Nat.le_refl G)))).trans (Tn.set _ G 2 (.slice none 0 0) (.inr (Nat.le_refl G)))
 refine Lh ?_
 go_wp2_with fail
 obtain ⟨S,hSd⟩ : ∃ S : World → Prop,S = fun W => W.rangeAt w.heap.size 0 (bkC ⟨b,⟨.slice Ae b.of.e.l.length ce,.slice Al b.of.l.length cl,.slice Ar b.of.r.length cr⟩,.slice Aa al.length ca,al⟩) ∧ W.cell? ⟨G,3,none⟩ = some (Value.slice Ao pl.length co):=⟨_,rfl⟩
 have hSF : ∀ W,S W → W.rangeAt w.heap.size 0 (bkC ⟨b,⟨.slice Ae b.of.e.l.length ce,.slice Al b.of.l.length cl,.slice Ar b.of.r.length cr⟩,.slice Aa al.length ca,al⟩) ∧ W.cell? ⟨G,3,none⟩ = some (Value.slice Ao pl.length co):=by rw [hSd]; exact fun W h => h
 have hS0 : S w2.drew:=by rw [hSd]; exact ⟨JK.out.rg,J.out.c3⟩
 have hSa : S (w2.drew.alloc (.cells (bkC ⟨b,⟨.slice Ae b.of.e.l.length ce,.slice Al b.of.l.length cl,.slice Ar b.of.r.length cr⟩,.slice Aa al.length ca,al⟩).toArray 200)):=by rw [hSd]; exact ⟨(JK.out.under bAl).rg,(J.out.new _).c3⟩
 have s3 : ∀ s : SW S,s.w.cell? ⟨G,3,none⟩ = some (Value.slice Ao pl.length co):=fun s => (hSF _ s.h).2
 have sK : ∀ W,S W → W.rangeAt w.heap.size 0 (bkC ⟨b,⟨.slice Ae b.of.e.l.length ce,.slice Al b.of.l.length cl,.slice Ar b.of.r.length cr⟩,.slice Aa al.length ca,al⟩):=fun W h => (hSF W h).1
 clear hSd hSF
 refine region_start (by kernel_rfl) 15 rfl ?_
 refine wpAny_next 0 3 12 (by kernel_rfl) (fun _ _ d _ _ h => by cases d <;> exact h) ?_
 simp only [sD,sE,sF,sG]
 repeat (go_big_quiet_step (fail))
 refine wpQuiet_nil ?_
 refine wpAny_hold S 8 (by kernel_rfl) ?_
 refine wpM_next 3 3 9 (by kernel_rfl) (fun _ _ d _ _ h => by cases d <;> exact h) hS0 (fun hne => ?_)
 simp only [sD,sE,sF,sG]
 repeat (go_big_quiet_step (fail))
 refine wpQuiet_nil ?_
 refine wpM_take 6 (fuel:=8) (.agg (bkC ⟨b,⟨.slice Ae b.of.e.l.length ce,.slice Al b.of.l.length cl,.slice Ar b.of.r.length cr⟩,.slice Aa al.length ca,al⟩).toArray) (by kernel_rfl) (fun _ _ d _ _ h => by cases d <;> exact h) rfl hS0 (yieldsIf_load_mid rfl 200 (.tmp 3) rfl w.heap.size 0 rfl (bkC ⟨b,⟨.slice Ae b.of.e.l.length ce,.slice Al b.of.l.length cl,.slice Ar b.of.r.length cr⟩,.slice Aa al.length ca,al⟩) _ sK Tryz.underlying200 rfl info_bk) ?_
 refine wpM_one (i:=7) (fuel:=7) (by kernel_rfl) (by omega) rfl (fun KK hKK => ?_)
 refine step_build1 rfl 178 200 (.tmp 42) rfl (bkC ⟨b,⟨.slice Ae b.of.e.l.length ce,.slice Al b.of.l.length cl,.slice Ar b.of.r.length cr⟩,.slice Aa al.length ca,al⟩) rfl (by simp [bkC]) (by simp [bkC]) Tryz.underlying178 info_bk (by kernel_rfl) ?_
 refine hKK _ _ hSa ?_
 clear hKK KK s3 sK hS0 hSa
 refine wpM_late (i:=8) (fuel:=6) (by kernel_rfl) (by omega) rfl (fun KK hKK => ?_)
 refine step_push_b rfl (.tmp 41) (.tmp 43) 178 rfl rowBk w2.drew (G + 1) (Value.slice Ao pl.length co) pl.length (bcs pl) (bkC ⟨b,⟨.slice Ae b.of.e.l.length ce,.slice Al b.of.l.length cl,.slice Ar b.of.r.length cr⟩,.slice Aa al.length ca,al⟩) rfl hown rfl rfl rfl (bkC_one rfl rfl rfl rfl) (by omega) (by omega) ?_
 intro v6 w6 ho6 hg6 hv6
 obtain ⟨A6,c6,rfl⟩:=ho6.form
 obtain ⟨⟨d2,d3,y2,y3⟩,hI,hT⟩:=FIN.out _ _ ho6 hg6 hv6
 have HI:=Lh hI
 have HTT:=Lh hT
 clear hI hT ho6 hg6 hv6
 refine hKK _ _ ?_
 clear hKK KK
 simp only [Act.put,sA,sB,sC]
 refine wpAny_one (i:=9) (fuel:=5) (by kernel_rfl) rfl (fun KK hKK => ?_)
 go_simp
 refine hKK _ _ ?_
 clear hKK KK
 refine wpAny_one (i:=10) (fuel:=4) (by kernel_rfl) rfl (fun KK hKK => ?_)
 go_simp
 refine hKK _ _ ?_
 clear hKK KK
 refine wpAny_one (i:=11) (fuel:=3) (by kernel_rfl) rfl (fun KK hKK => ?_)
 go_simp
 refine hKK _ _ ?_
 clear hKK KK
 refine wpAny_one (i:=12) (fuel:=2) (by kernel_rfl) rfl (fun KK hKK => ?_)
 go_simp
 refine hKK _ _ ?_
 clear hKK KK
 refine wpAny_one (i:=13) (fuel:=1) (by kernel_rfl) rfl (fun KK hKK => ?_)
 go_simp
 refine hKK _ _ ?_
 clear hKK KK
 refine wpAny_one (i:=14) (fuel:=0) (by kernel_rfl) rfl (fun KK hKK => ?_)
 go_simp
 refine hKK _ _ ?_
 clear hKK KK
 refine wpAny_done (by kernel_rfl) ?_ _
 all_goals
  refine bodyPost_ret (results_none rfl _ _ _) rfl ⟨_,_,_,_,rfl,HI.out,HTT.out⟩
set_option maxRecDepth 100000 in
theorem enter_3 (C : Cx) (hC : TokOk C.T C.L) (G : Nat) (D : Int) (rv av ov : Value) (al : List (St × Tv)) (pl : List Pe) (op : List Bk) (b : Bk) (t : Tv) (row : List St) (p : Nat) (r : Int) (w : World) (h : Rdr C G D rv ov w (p,r)) (hP : Pl G w av ov al pl)
  (hop : pl.map (·.b) = op) (hah : al.map (·.1) = b.ah) (ht : TrS w (Fx G av ov pl) b.of t) (hlen : pl.length < 1000000) (hr : r = 0) (hw : ((C.R.wd p).toList == [123]) = false) :
  CP 137 #[.pointer (some ⟨G,0,none⟩),bkV ⟨b,t,av,al⟩] w (RdT C G D (Mc.enter C.R D ⟨row,op,p,r⟩ b) w):=by
 have hgt:=h.gt
 have hGw:=h.v.lt
 obtain ⟨te,tl,tr⟩:=t
 obtain ⟨Ae,ce,rfl,_⟩:=ht.e.len
 obtain ⟨Al,cl,rfl,_⟩:=ht.l.len
 obtain ⟨Ar,cr,rfl,_⟩:=ht.r.len
 obtain ⟨Aa,ca,rfl⟩:=hP.row.form
 obtain ⟨Ao,co,rfl⟩:=hP.op.form
 have b1 : Below w.heap.size w (w.alloc (.cells #[.int .i64 b.of.k,.int .i64 b.of.a,.string b.of.nm,.int .i64 b.of.ty,.bool b.of.an.so,.bool b.of.an.lk,.string b.of.an.lb,.int .i64 b.of.an.fr,.int .i64 b.of.an.to,.int .i64 b.of.e.k,.int .i64 b.of.e.a,.int .i64 b.of.e.m,.string b.of.e.nm,.string b.of.e.lb,.slice Ae b.of.e.l.length ce,.slice Al b.of.l.length cl,.slice Ar b.of.r.length cr,.slice Aa al.length ca,.bool b.ot] 200)):=(Below.refl _ w).alloc nLe _
 have J:=Lh (h.under b1)
 have JP:=Lh (hP.under b1)
 have JE:=Lh (ht.turn (S':=Fx G (Value.slice Aa al.length ca) (Value.slice Ao pl.length co) pl) (Tn.of_below (fun _ => False) b1) (fun b hb _ => ⟨hb,fun h => h⟩))
 have JK : Hid (Var (w.alloc (.cells #[.int .i64 b.of.k,.int .i64 b.of.a,.string b.of.nm,.int .i64 b.of.ty,.bool b.of.an.so,.bool b.of.an.lk,.string b.of.an.lb,.int .i64 b.of.an.fr,.int .i64 b.of.an.to,.int .i64 b.of.e.k,.int .i64 b.of.e.a,.int .i64 b.of.e.m,.string b.of.e.nm,.string b.of.e.lb,.slice Ae b.of.e.l.length ce,.slice Al b.of.l.length cl,.slice Ar b.of.r.length cr,.slice Aa al.length ca,.bool b.ot] 200)) w.heap.size (bkC ⟨b,⟨.slice Ae b.of.e.l.length ce,.slice Al b.of.l.length cl,.slice Ar b.of.r.length cr⟩,.slice Aa al.length ca,al⟩)):=Lh (Var.new w (bkC ⟨b,⟨.slice Ae b.of.e.l.length ce,.slice Al b.of.l.length cl,.slice Ar b.of.r.length cr⟩,.slice Aa al.length ca,al⟩) 200 rfl)
 have JT : Hid (Tn (fun k => k = C.g ∨ G ≤ k) w (w.alloc (.cells #[.int .i64 b.of.k,.int .i64 b.of.a,.string b.of.nm,.int .i64 b.of.ty,.bool b.of.an.so,.bool b.of.an.lk,.string b.of.an.lb,.int .i64 b.of.an.fr,.int .i64 b.of.an.to,.int .i64 b.of.e.k,.int .i64 b.of.e.a,.int .i64 b.of.e.m,.string b.of.e.nm,.string b.of.e.lb,.slice Ae b.of.e.l.length ce,.slice Al b.of.l.length cl,.slice Ar b.of.r.length cr,.slice Aa al.length ca,.bool b.ot] 200))):=Lh (Tn.of_below _ b1)
 have hol : op.length = pl.length:=by rw [← hop]; simp
 have HPK : Hid (∀ W,Rdr C G D rv (Value.slice Ao pl.length co) W (p,r) → CP 56 #[C.ptr] W fun e w' => e = .returned (.string (C.R.wd p)) ∧ Below W.heap.size W w'):=Lh fun W hW => peek_any C hC p W hW.cur
 have hwp : IntKind.i64.wrap (32 - (pl.length : Int)) = 32 - (pl.length : Int):=IntWalk.i64_in _ (by omega)
 have KS : Hid (∀ W,Rdr C G D rv (Value.slice Ao pl.length co) W (p,r) → (W.cell? ⟨G,0,none⟩ = some C.ptr ∧ W.cell? ⟨G,1,none⟩ = some (.int .i64 D) ∧ W.cell? ⟨G,3,none⟩ = some (Value.slice Ao pl.length co) ∧ W.cell? ⟨G,4,none⟩ = some (.int .i64 r))):=Lh fun W h => ⟨h.c0,h.c1,h.c3,h.c4⟩
 obtain ⟨s,hs⟩ : ∃ s,C.R.wd p = s:=⟨_,rfl⟩
 rw [hs] at HPK hw
 unfold Mc.enter
 dsimp only
 rw [hol]
 clear h hP ht b1
 unfold bkV
 dsimp only
 have c4:=J.out.c4
 dsimp only at c4
 subst hr
 have hW : C.R.is p [123] = false:=by unfold Rw.is; rw [hs]; exact hw
 rw [if_neg (fun h => by rw [hW] at h; cases h.2.1)]
 obtain ⟨x2,hx2⟩ : ∃ y,mu C.R (p,0) [wBra] = y:=⟨_,rfl⟩
 rw [hx2]
 have HM1 : Hid (∀ W,Rdr C G D rv (Value.slice Ao pl.length co) W (p,0) → CP 147 #[.pointer (some ⟨G,0,none⟩),.slice (some ⟨W.heap.size,0,none⟩) 1 1] (W.alloc (.cells #[.string ⟨#[123]⟩] 9)) (GoTo C G D rv (Value.slice Ao pl.length co) none0 x2 W)):=Lh fun W hW => by
  have:=must1_any C hC G D rv (Value.slice Ao pl.length co) (p,0) W hW ⟨#[123]⟩ (by decide)
  rwa [hx2] at this
 clear hx2 hs hW
 go_enter Tryz.func137,Tryz.ntmps137
 go_wp2_with fail
 have J:=Lh (J.out.under (below_drew _ _))
 have JP:=Lh (JP.out.under (below_drew _ _))
 have JE:=Lh (JE.out.turn (S':=Fx G (Value.slice Aa al.length ca) (Value.slice Ao pl.length co) pl) (Tn.drew (fun _ => False) _) (fun b hb _ => ⟨hb,fun h => h⟩))
 have JK:=Lh (JK.out.under (below_drew _ _))
 have JT:=Lh (JT.out.trans (Tn.drew _ _))
 obtain ⟨q0,q1,q3,q4⟩:=KS.out _ J.out
 obtain ⟨S,hSd⟩ : ∃ S : World → Prop,S = fun W => (W.cell? ⟨G,0,none⟩ = some C.ptr ∧ W.cell? ⟨G,1,none⟩ = some (.int .i64 D) ∧ W.cell? ⟨G,3,none⟩ = some (Value.slice Ao pl.length co) ∧ W.cell? ⟨G,4,none⟩ = some (.int .i64 0)):=⟨_,rfl⟩
 have HS : Hid (∀ W,Rdr C G D rv (Value.slice Ao pl.length co) W (p,0) → S W):=Lh fun W h => by rw [hSd]; exact KS.out W h
 have hSF : ∀ W,S W → (W.cell? ⟨G,0,none⟩ = some C.ptr ∧ W.cell? ⟨G,1,none⟩ = some (.int .i64 D) ∧ W.cell? ⟨G,3,none⟩ = some (Value.slice Ao pl.length co) ∧ W.cell? ⟨G,4,none⟩ = some (.int .i64 0)):=by rw [hSd]; exact fun W h => h
 have s0 : ∀ s : SW S,s.w.cell? ⟨G,0,none⟩ = some C.ptr:=fun s => (hSF _ s.h).1
 have s1 : ∀ s : SW S,s.w.cell? ⟨G,1,none⟩ = some (.int .i64 D):=fun s => (hSF _ s.h).2.1
 have s2 : ∀ s : SW S,s.w.cell? ⟨G,3,none⟩ = some (Value.slice Ao pl.length co):=fun s => (hSF _ s.h).2.2.1
 have s3 : ∀ s : SW S,s.w.cell? ⟨G,4,none⟩ = some (.int .i64 0):=fun s => (hSF _ s.h).2.2.2
 have hS0:=HS.out _ J.out
 clear hSd hSF q0 q1 q3 q4
 refine regionH_start (by kernel_rfl) 26 rfl S 25 ?_
 refine wpL_next 0 10 16 (by kernel_rfl) (fun _ _ d _ _ h => by cases d <;> exact h) hS0 (fun hne => ?_)
 simp only [sD,sE,sF,sG]
 repeat (go_big_quiet_step (fail))
 refine wpQuiet_nil ?_
 refine wpL_one (i:=10) (fuel:=15) (by kernel_rfl) rfl (fun KK hKK => ?_)
 go_simp
 refine (HPK.out _ J.out).mono ?_
 rintro e wz ⟨rfl,bb⟩
 have J:=Lh (J.out.under bb)
 have JP:=Lh (JP.out.under bb)
 have JE:=Lh (JE.out.turn (S':=Fx G (Value.slice Aa al.length ca) (Value.slice Ao pl.length co) pl) (Tn.of_below (fun _ => False) bb) (fun b hb _ => ⟨hb,fun h => h⟩))
 have JK:=Lh (JK.out.under bb)
 have JT:=Lh (JT.out.trans (Tn.of_below _ bb))
 clear bb hS0
 have hS0:=HS.out _ J.out
 refine hKK _ _ hS0 ?_
 clear hKK KK
 refine wpL_next 11 14 1 (by kernel_rfl) (fun _ _ d _ _ h => by cases d <;> exact h) hS0 (fun hne => ?_)
 simp only [sD,sE,sF,sG]
 repeat (go_big_quiet_step (fail))
 refine wpQuiet_nil ?_
 refine wpL_last (fuel:=0) (by kernel_rfl) (by kernel_rfl) rfl (fun KK hKK => ?_)
 go_simp
 refine hKK _ _ ?_
 clear hKK KK s0 s1 s2 s3 HS hS0
 have z0:=J.out.c0
 go_wp2_with (first
  | (go_at_call 147; (with_reducible refine (HM1.out _ J.out).mono ?_); rintro e w2 ⟨rfl,hr,ht⟩; have hsz:=ht.size; have JP:=Lh (JP.out.turn ht (by intro k hk _ h; rcases h with h | h <;> omega)); have JE:=Lh (JE.out.turn ht (fun b hb _ => ⟨hb,by intro h; have:=hb.1; rcases h with h | h <;> omega⟩)); have JK:=Lh (JK.out.turn ht (by intro h; rcases h with h | h <;> omega)); have JT:=Lh (JT.out.trans (ht.weak (fun k _ h => h.elim .inl (fun h => .inr (by omega))))); have J:=Lh hr; clear hr ht; dsimp only; refine Hid.out ?_)
  | fail)
 have g2:=J.out.c2
 have g3:=J.out.c3
 have z2:=J.out.f2
 have z3:=J.out.f3
 have J:=Lh (J.out.under (below_drew _ _))
 have JP:=Lh (JP.out.under (below_drew _ _))
 have JE:=Lh (JE.out.turn (S':=Fx G (Value.slice Aa al.length ca) (Value.slice Ao pl.length co) pl) (Tn.drew (fun _ => False) _) (fun b hb _ => ⟨hb,fun h => h⟩))
 have JK:=Lh (JK.out.under (below_drew _ _))
 have JT:=Lh (JT.out.trans (Tn.drew _ _))
 have hown:=JP.out.op
 have hG1 : G < w2.heap.size:=J.out.v.lt
 have hK1 : w.heap.size < w2.heap.size:=JK.out.lt
 have hG2 : G < w2.drew.heap.size:=J.out.v.lt
 have hK2 : w.heap.size < w2.drew.heap.size:=JK.out.lt
 have FIN : Hid (∀ v6 w6,Own w6 (G + 1) 200 19 v6 (pl.length + 1) (bcs pl ++ bkC ⟨b,⟨.slice Ae b.of.e.l.length ce,.slice Al b.of.l.length cl,.slice Ar b.of.r.length cr⟩,.slice Aa al.length ca,al⟩) → (w2.drew.alloc (.cells (bkC ⟨b,⟨.slice Ae b.of.e.l.length ce,.slice Al b.of.l.length cl,.slice Ar b.of.r.length cr⟩,.slice Aa al.length ca,al⟩).toArray 200)).grownBy w6 (Value.slice Ao pl.length co).ownBlock → (v6.ownBlock = (Value.slice Ao pl.length co).ownBlock ∨ v6.ownBlock = some (w2.drew.heap.size + 1)) → (w6.cell? ⟨G,2,none⟩ = some rv ∧ w6.cell? ⟨G,3,none⟩ = some (Value.slice Ao pl.length co) ∧ w6.frozen? ⟨G,2,none⟩ = false ∧ w6.frozen? ⟨G,3,none⟩ = false) ∧ RdI C G D ((w6.setCell ⟨G,3,none⟩ v6).setCell ⟨G,2,none⟩ (.slice none 0 0)) ⟨[],op ++ [b],x2.1,x2.2⟩ (.slice none 0 0) v6 [] (pl ++ [⟨b,⟨.slice Ae b.of.e.l.length ce,.slice Al b.of.l.length cl,.slice Ar b.of.r.length cr⟩,.slice Aa al.length ca,al⟩]) ∧ Tn (fun k => k = C.g ∨ G ≤ k) w ((w6.setCell ⟨G,3,none⟩ v6).setCell ⟨G,2,none⟩ (.slice none 0 0))):=Lh fun v6 w6 ho hg hv => by
  have hJ:=J.out.new (.cells (bkC ⟨b,⟨.slice Ae b.of.e.l.length ce,.slice Al b.of.l.length cl,.slice Ar b.of.r.length cr⟩,.slice Aa al.length ca,al⟩).toArray 200)
  have hno : ∀ k,((Value.slice Ao pl.length co) : Value).ownBlock = some k → G < k:=fun k hk => (hown.1.lt k hk).1
  have hJ6 : Rdr C G D rv (Value.slice Ao pl.length co) w6 x2:=hJ.turn (Tn.of_gb (M:=fun k => ((Value.slice Ao pl.length co) : Value).ownBlock = some k) hg fun k e _ => e) (fun k hk e => by have:=hno k e; omega)
  have hP:=JP.out.pushed ⟨b,⟨.slice Ae b.of.e.l.length ce,.slice Al b.of.l.length cl,.slice Ar b.of.r.length cr⟩,.slice Aa al.length ca,al⟩ rfl rfl hah JE.out ho hg hv (by omega)
  refine ⟨⟨hJ6.c2,hJ6.c3,hJ6.f2,hJ6.f3⟩,⟨⟨(hJ6.cur.turn (Tn.set (M:=fun k => k = G) w6 G 3 v6 rfl) (fun k hk e => by omega)).turn (Tn.set (M:=fun k => k = G) _ G 2 (.slice none 0 0) rfl) (fun k hk e => by omega),(hJ6.v.set 3 v6 (by show 3 < 5; omega)).set 2 (.slice none 0 0) (by show 2 < 5; omega),hgt⟩,(hP.turn (Tn.set (M:=fun k => k = G) w6 G 3 v6 rfl) (fun k hk _ e => by omega)).turn (Tn.set (M:=fun k => k = G) _ G 2 (.slice none 0 0) rfl) (fun k hk _ e => by omega),rfl,by rw [List.map_append,hop]; rfl⟩,?_⟩
  exact (((JT.out.trans (Tn.alloc _ _ _)).trans (Tn.of_gb hg fun k e _ => .inr (by have:=hno k e; omega))).trans (Tn.set w6 G 3 v6 (.inr (Nat.le_refl G)))).trans (Tn.set _ G 2 (.slice none 0 0) (.inr (Nat.le_refl G)))
 refine Lh ?_
 go_wp2_with fail
 obtain ⟨S,hSd⟩ : ∃ S : World → Prop,S = fun W => W.rangeAt w.heap.size 0 (bkC ⟨b,⟨.slice Ae b.of.e.l.length ce,.slice Al b.of.l.length cl,.slice Ar b.of.r.length cr⟩,.slice Aa al.length ca,al⟩) ∧ W.cell? ⟨G,3,none⟩ = some (Value.slice Ao pl.length co):=⟨_,rfl⟩
 have hSF : ∀ W,S W → W.rangeAt w.heap.size 0 (bkC ⟨b,⟨.slice Ae b.of.e.l.length ce,.slice Al b.of.l.length cl,.slice Ar b.of.r.length cr⟩,.slice Aa al.length ca,al⟩) ∧ W.cell? ⟨G,3,none⟩ = some (Value.slice Ao pl.length co):=by rw [hSd]; exact fun W h => h
 have hS0 : S w2.drew:=by rw [hSd]; exact ⟨JK.out.rg,J.out.c3⟩
 have hSa : S (w2.drew.alloc (.cells (bkC ⟨b,⟨.slice Ae b.of.e.l.length ce,.slice Al b.of.l.length cl,.slice Ar b.of.r.length cr⟩,.slice Aa al.length ca,al⟩).toArray 200)):=by rw [hSd]; exact ⟨(JK.out.under bAl).rg,(J.out.new _).c3⟩
 have s3 : ∀ s : SW S,s.w.cell? ⟨G,3,none⟩ = some (Value.slice Ao pl.length co):=fun s => (hSF _ s.h).2
 have sK : ∀ W,S W → W.rangeAt w.heap.size 0 (bkC ⟨b,⟨.slice Ae b.of.e.l.length ce,.slice Al b.of.l.length cl,.slice Ar b.of.r.length cr⟩,.slice Aa al.length ca,al⟩):=fun W h => (hSF W h).1
 clear hSd hSF
 refine region_start (by kernel_rfl) 15 rfl ?_
 refine wpAny_next 0 3 12 (by kernel_rfl) (fun _ _ d _ _ h => by cases d <;> exact h) ?_
 simp only [sD,sE,sF,sG]
 repeat (go_big_quiet_step (fail))
 refine wpQuiet_nil ?_
 refine wpAny_hold S 8 (by kernel_rfl) ?_
 refine wpM_next 3 3 9 (by kernel_rfl) (fun _ _ d _ _ h => by cases d <;> exact h) hS0 (fun hne => ?_)
 simp only [sD,sE,sF,sG]
 repeat (go_big_quiet_step (fail))
 refine wpQuiet_nil ?_
 refine wpM_take 6 (fuel:=8) (.agg (bkC ⟨b,⟨.slice Ae b.of.e.l.length ce,.slice Al b.of.l.length cl,.slice Ar b.of.r.length cr⟩,.slice Aa al.length ca,al⟩).toArray) (by kernel_rfl) (fun _ _ d _ _ h => by cases d <;> exact h) rfl hS0 (yieldsIf_load_mid rfl 200 (.tmp 3) rfl w.heap.size 0 rfl (bkC ⟨b,⟨.slice Ae b.of.e.l.length ce,.slice Al b.of.l.length cl,.slice Ar b.of.r.length cr⟩,.slice Aa al.length ca,al⟩) _ sK Tryz.underlying200 rfl info_bk) ?_
 refine wpM_one (i:=7) (fuel:=7) (by kernel_rfl) (by omega) rfl (fun KK hKK => ?_)
 refine step_build1 rfl 178 200 (.tmp 42) rfl (bkC ⟨b,⟨.slice Ae b.of.e.l.length ce,.slice Al b.of.l.length cl,.slice Ar b.of.r.length cr⟩,.slice Aa al.length ca,al⟩) rfl (by simp [bkC]) (by simp [bkC]) Tryz.underlying178 info_bk (by kernel_rfl) ?_
 refine hKK _ _ hSa ?_
 clear hKK KK s3 sK hS0 hSa
 refine wpM_late (i:=8) (fuel:=6) (by kernel_rfl) (by omega) rfl (fun KK hKK => ?_)
 refine step_push_b rfl (.tmp 41) (.tmp 43) 178 rfl rowBk w2.drew (G + 1) (Value.slice Ao pl.length co) pl.length (bcs pl) (bkC ⟨b,⟨.slice Ae b.of.e.l.length ce,.slice Al b.of.l.length cl,.slice Ar b.of.r.length cr⟩,.slice Aa al.length ca,al⟩) rfl hown rfl rfl rfl (bkC_one rfl rfl rfl rfl) (by omega) (by omega) ?_
 intro v6 w6 ho6 hg6 hv6
 obtain ⟨A6,c6,rfl⟩:=ho6.form
 obtain ⟨⟨d2,d3,y2,y3⟩,hI,hT⟩:=FIN.out _ _ ho6 hg6 hv6
 have HI:=Lh hI
 have HTT:=Lh hT
 clear hI hT ho6 hg6 hv6
 refine hKK _ _ ?_
 clear hKK KK
 simp only [Act.put,sA,sB,sC]
 refine wpAny_one (i:=9) (fuel:=5) (by kernel_rfl) rfl (fun KK hKK => ?_)
 go_simp
 refine hKK _ _ ?_
 clear hKK KK
 refine wpAny_one (i:=10) (fuel:=4) (by kernel_rfl) rfl (fun KK hKK => ?_)
 go_simp
 refine hKK _ _ ?_
 clear hKK KK
 refine wpAny_one (i:=11) (fuel:=3) (by kernel_rfl) rfl (fun KK hKK => ?_)
 go_simp
 refine hKK _ _ ?_
 clear hKK KK
 refine wpAny_one (i:=12) (fuel:=2) (by kernel_rfl) rfl (fun KK hKK => ?_)
 go_simp
 refine hKK _ _ ?_
 clear hKK KK
 refine wpAny_one (i:=13) (fuel:=1) (by kernel_rfl) rfl (fun KK hKK => ?_)
 go_simp
 refine hKK _ _ ?_
 clear hKK KK
 refine wpAny_one (i:=14) (fuel:=0) (by kernel_rfl) rfl (fun KK hKK => ?_)
 go_simp
 refine hKK _ _ ?_
 clear hKK KK
 refine wpAny_done (by kernel_rfl) ?_ _
 all_goals
  refine bodyPost_ret (results_none rfl _ _ _) rfl ⟨_,_,_,_,rfl,HI.out,HTT.out⟩
set_option maxRecDepth 100000 in
theorem enter_4 (C : Cx) (hC : TokOk C.T C.L) (G : Nat) (D : Int) (rv av ov : Value) (al : List (St × Tv)) (pl : List Pe) (op : List Bk) (b : Bk) (t : Tv) (row : List St) (p : Nat) (r : Int) (w : World) (h : Rdr C G D rv ov w (p,r)) (hP : Pl G w av ov al pl)
  (hop : pl.map (·.b) = op) (hah : al.map (·.1) = b.ah) (ht : TrS w (Fx G av ov pl) b.of t) (hlen : pl.length < 1000000) (hr : ¬ r = 0) :
  CP 137 #[.pointer (some ⟨G,0,none⟩),bkV ⟨b,t,av,al⟩] w (RdT C G D (Mc.enter C.R D ⟨row,op,p,r⟩ b) w):=by
 have hgt:=h.gt
 have hGw:=h.v.lt
 obtain ⟨te,tl,tr⟩:=t
 obtain ⟨Ae,ce,rfl,_⟩:=ht.e.len
 obtain ⟨Al,cl,rfl,_⟩:=ht.l.len
 obtain ⟨Ar,cr,rfl,_⟩:=ht.r.len
 obtain ⟨Aa,ca,rfl⟩:=hP.row.form
 obtain ⟨Ao,co,rfl⟩:=hP.op.form
 have b1 : Below w.heap.size w (w.alloc (.cells #[.int .i64 b.of.k,.int .i64 b.of.a,.string b.of.nm,.int .i64 b.of.ty,.bool b.of.an.so,.bool b.of.an.lk,.string b.of.an.lb,.int .i64 b.of.an.fr,.int .i64 b.of.an.to,.int .i64 b.of.e.k,.int .i64 b.of.e.a,.int .i64 b.of.e.m,.string b.of.e.nm,.string b.of.e.lb,.slice Ae b.of.e.l.length ce,.slice Al b.of.l.length cl,.slice Ar b.of.r.length cr,.slice Aa al.length ca,.bool b.ot] 200)):=(Below.refl _ w).alloc nLe _
 have J:=Lh (h.under b1)
 have JP:=Lh (hP.under b1)
 have JE:=Lh (ht.turn (S':=Fx G (Value.slice Aa al.length ca) (Value.slice Ao pl.length co) pl) (Tn.of_below (fun _ => False) b1) (fun b hb _ => ⟨hb,fun h => h⟩))
 have JK : Hid (Var (w.alloc (.cells #[.int .i64 b.of.k,.int .i64 b.of.a,.string b.of.nm,.int .i64 b.of.ty,.bool b.of.an.so,.bool b.of.an.lk,.string b.of.an.lb,.int .i64 b.of.an.fr,.int .i64 b.of.an.to,.int .i64 b.of.e.k,.int .i64 b.of.e.a,.int .i64 b.of.e.m,.string b.of.e.nm,.string b.of.e.lb,.slice Ae b.of.e.l.length ce,.slice Al b.of.l.length cl,.slice Ar b.of.r.length cr,.slice Aa al.length ca,.bool b.ot] 200)) w.heap.size (bkC ⟨b,⟨.slice Ae b.of.e.l.length ce,.slice Al b.of.l.length cl,.slice Ar b.of.r.length cr⟩,.slice Aa al.length ca,al⟩)):=Lh (Var.new w (bkC ⟨b,⟨.slice Ae b.of.e.l.length ce,.slice Al b.of.l.length cl,.slice Ar b.of.r.length cr⟩,.slice Aa al.length ca,al⟩) 200 rfl)
 have JT : Hid (Tn (fun k => k = C.g ∨ G ≤ k) w (w.alloc (.cells #[.int .i64 b.of.k,.int .i64 b.of.a,.string b.of.nm,.int .i64 b.of.ty,.bool b.of.an.so,.bool b.of.an.lk,.string b.of.an.lb,.int .i64 b.of.an.fr,.int .i64 b.of.an.to,.int .i64 b.of.e.k,.int .i64 b.of.e.a,.int .i64 b.of.e.m,.string b.of.e.nm,.string b.of.e.lb,.slice Ae b.of.e.l.length ce,.slice Al b.of.l.length cl,.slice Ar b.of.r.length cr,.slice Aa al.length ca,.bool b.ot] 200))):=Lh (Tn.of_below _ b1)
 have hol : op.length = pl.length:=by rw [← hop]; simp
 have HPK : Hid (∀ W,Rdr C G D rv (Value.slice Ao pl.length co) W (p,r) → CP 56 #[C.ptr] W fun e w' => e = .returned (.string (C.R.wd p)) ∧ Below W.heap.size W w'):=Lh fun W hW => peek_any C hC p W hW.cur
 have hwp : IntKind.i64.wrap (32 - (pl.length : Int)) = 32 - (pl.length : Int):=IntWalk.i64_in _ (by omega)
 have KS : Hid (∀ W,Rdr C G D rv (Value.slice Ao pl.length co) W (p,r) → (W.cell? ⟨G,0,none⟩ = some C.ptr ∧ W.cell? ⟨G,1,none⟩ = some (.int .i64 D) ∧ W.cell? ⟨G,3,none⟩ = some (Value.slice Ao pl.length co) ∧ W.cell? ⟨G,4,none⟩ = some (.int .i64 r))):=Lh fun W h => ⟨h.c0,h.c1,h.c3,h.c4⟩
 obtain ⟨s,hs⟩ : ∃ s,C.R.wd p = s:=⟨_,rfl⟩
 rw [hs] at HPK
 unfold Mc.enter
 dsimp only
 rw [hol]
 clear h hP ht b1
 unfold bkV
 dsimp only
 have c4:=J.out.c4
 dsimp only at c4
 have hr1 : (r == 0) = false:=by simp [hr]
 have hr2 : decide (r = 0) = false:=by simp [hr]
 rw [if_neg (fun h => hr h.1)]
 obtain ⟨x2,hx2⟩ : ∃ y,mu C.R (p,r) [wBra] = y:=⟨_,rfl⟩
 rw [hx2]
 have HM1 : Hid (∀ W,Rdr C G D rv (Value.slice Ao pl.length co) W (p,r) → CP 147 #[.pointer (some ⟨G,0,none⟩),.slice (some ⟨W.heap.size,0,none⟩) 1 1] (W.alloc (.cells #[.string ⟨#[123]⟩] 9)) (GoTo C G D rv (Value.slice Ao pl.length co) none0 x2 W)):=Lh fun W hW => by
  have:=must1_any C hC G D rv (Value.slice Ao pl.length co) (p,r) W hW ⟨#[123]⟩ (by decide)
  rwa [hx2] at this
 clear hx2 hs
 go_enter Tryz.func137,Tryz.ntmps137
 go_wp2_with fail
 have e4:=J.out.c4
 dsimp only at e4
 go_quiet (fail)
 have J:=Lh (J.out.under ((Quiet.one _ nq).below _))
 have JP:=Lh (JP.out.under ((Quiet.one _ nq).below _))
 have JE:=Lh (JE.out.turn (S':=Fx G (Value.slice Aa al.length ca) (Value.slice Ao pl.length co) pl) (Tn.of_below (fun _ => False) ((Quiet.one _ nq).below _)) (fun b hb _ => ⟨hb,fun h => h⟩))
 have JK:=Lh (JK.out.under ((Quiet.one _ nq).below _))
 have JT:=Lh (JT.out.trans (Tn.of_below _ ((Quiet.one _ nq).below _)))
 obtain ⟨wz,hwz⟩ : ∃ wz,(w.alloc (.cells #[.int .i64 b.of.k,.int .i64 b.of.a,.string b.of.nm,.int .i64 b.of.ty,.bool b.of.an.so,.bool b.of.an.lk,.string b.of.an.lb,.int .i64 b.of.an.fr,.int .i64 b.of.an.to,.int .i64 b.of.e.k,.int .i64 b.of.e.a,.int .i64 b.of.e.m,.string b.of.e.nm,.string b.of.e.lb,.slice Ae b.of.e.l.length ce,.slice Al b.of.l.length cl,.slice Ar b.of.r.length cr,.slice Aa al.length ca,.bool b.ot] 200)).drewN nq = wz:=⟨_,rfl⟩
 rw [hwz] at J JP JE JK JT ⊢
 clear hwz
 go_wp2_with (first
  | (go_at_call 147; (with_reducible refine (HM1.out _ J.out).mono ?_); rintro e w2 ⟨rfl,hr,ht⟩; have hsz:=ht.size; have JP:=Lh (JP.out.turn ht (by intro k hk _ h; rcases h with h | h <;> omega)); have JE:=Lh (JE.out.turn ht (fun b hb _ => ⟨hb,by intro h; have:=hb.1; rcases h with h | h <;> omega⟩)); have JK:=Lh (JK.out.turn ht (by intro h; rcases h with h | h <;> omega)); have JT:=Lh (JT.out.trans (ht.weak (fun k _ h => h.elim .inl (fun h => .inr (by omega))))); have J:=Lh hr; clear hr ht; dsimp only; refine Hid.out ?_)
  | fail)
 have g2:=J.out.c2
 have g3:=J.out.c3
 have z2:=J.out.f2
 have z3:=J.out.f3
 have J:=Lh (J.out.under (below_drew _ _))
 have JP:=Lh (JP.out.under (below_drew _ _))
 have JE:=Lh (JE.out.turn (S':=Fx G (Value.slice Aa al.length ca) (Value.slice Ao pl.length co) pl) (Tn.drew (fun _ => False) _) (fun b hb _ => ⟨hb,fun h => h⟩))
 have JK:=Lh (JK.out.under (below_drew _ _))
 have JT:=Lh (JT.out.trans (Tn.drew _ _))
 have hown:=JP.out.op
 have hG1 : G < w2.heap.size:=J.out.v.lt
 have hK1 : w.heap.size < w2.heap.size:=JK.out.lt
 have hG2 : G < w2.drew.heap.size:=J.out.v.lt
 have hK2 : w.heap.size < w2.drew.heap.size:=JK.out.lt
 have FIN : Hid (∀ v6 w6,Own w6 (G + 1) 200 19 v6 (pl.length + 1) (bcs pl ++ bkC ⟨b,⟨.slice Ae b.of.e.l.length ce,.slice Al b.of.l.length cl,.slice Ar b.of.r.length cr⟩,.slice Aa al.length ca,al⟩) → (w2.drew.alloc (.cells (bkC ⟨b,⟨.slice Ae b.of.e.l.length ce,.slice Al b.of.l.length cl,.slice Ar b.of.r.length cr⟩,.slice Aa al.length ca,al⟩).toArray 200)).grownBy w6 (Value.slice Ao pl.length co).ownBlock → (v6.ownBlock = (Value.slice Ao pl.length co).ownBlock ∨ v6.ownBlock = some (w2.drew.heap.size + 1)) → (w6.cell? ⟨G,2,none⟩ = some rv ∧ w6.cell? ⟨G,3,none⟩ = some (Value.slice Ao pl.length co) ∧ w6.frozen? ⟨G,2,none⟩ = false ∧ w6.frozen? ⟨G,3,none⟩ = false) ∧ RdI C G D ((w6.setCell ⟨G,3,none⟩ v6).setCell ⟨G,2,none⟩ (.slice none 0 0)) ⟨[],op ++ [b],x2.1,x2.2⟩ (.slice none 0 0) v6 [] (pl ++ [⟨b,⟨.slice Ae b.of.e.l.length ce,.slice Al b.of.l.length cl,.slice Ar b.of.r.length cr⟩,.slice Aa al.length ca,al⟩]) ∧ Tn (fun k => k = C.g ∨ G ≤ k) w ((w6.setCell ⟨G,3,none⟩ v6).setCell ⟨G,2,none⟩ (.slice none 0 0))):=Lh fun v6 w6 ho hg hv => by
  have hJ:=J.out.new (.cells (bkC ⟨b,⟨.slice Ae b.of.e.l.length ce,.slice Al b.of.l.length cl,.slice Ar b.of.r.length cr⟩,.slice Aa al.length ca,al⟩).toArray 200)
  have hno : ∀ k,((Value.slice Ao pl.length co) : Value).ownBlock = some k → G < k:=fun k hk => (hown.1.lt k hk).1
  have hJ6 : Rdr C G D rv (Value.slice Ao pl.length co) w6 x2:=hJ.turn (Tn.of_gb (M:=fun k => ((Value.slice Ao pl.length co) : Value).ownBlock = some k) hg fun k e _ => e) (fun k hk e => by have:=hno k e; omega)
  have hP:=JP.out.pushed ⟨b,⟨.slice Ae b.of.e.l.length ce,.slice Al b.of.l.length cl,.slice Ar b.of.r.length cr⟩,.slice Aa al.length ca,al⟩ rfl rfl hah JE.out ho hg hv (by omega)
  refine ⟨⟨hJ6.c2,hJ6.c3,hJ6.f2,hJ6.f3⟩,⟨⟨(hJ6.cur.turn (Tn.set (M:=fun k => k = G) w6 G 3 v6 rfl) (fun k hk e => by omega)).turn (Tn.set (M:=fun k => k = G) _ G 2 (.slice none 0 0) rfl) (fun k hk e => by omega),(hJ6.v.set 3 v6 (by show 3 < 5; omega)).set 2 (.slice none 0 0) (by show 2 < 5; omega),hgt⟩,(hP.turn (Tn.set (M:=fun k => k = G) w6 G 3 v6 rfl) (fun k hk _ e => by omega)).turn (Tn.set (M:=fun k => k = G) _ G 2 (.slice none 0 0) rfl) (fun k hk _ e => by omega),rfl,by rw [List.map_append,hop]; rfl⟩,?_⟩
  exact (((JT.out.trans (Tn.alloc _ _ _)).trans (Tn.of_gb hg fun k e _ => .inr (by have:=hno k e; omega))).trans (Tn.set w6 G 3 v6 (.inr (Nat.le_refl G)))).trans (Tn.set _ G 2 (.slice none 0 0) (.inr (Nat.le_refl G)))
 refine Lh ?_
 go_wp2_with fail
 obtain ⟨S,hSd⟩ : ∃ S : World → Prop,S = fun W => W.rangeAt w.heap.size 0 (bkC ⟨b,⟨.slice Ae b.of.e.l.length ce,.slice Al b.of.l.length cl,.slice Ar b.of.r.length cr⟩,.slice Aa al.length ca,al⟩) ∧ W.cell? ⟨G,3,none⟩ = some (Value.slice Ao pl.length co):=⟨_,rfl⟩
 have hSF : ∀ W,S W → W.rangeAt w.heap.size 0 (bkC ⟨b,⟨.slice Ae b.of.e.l.length ce,.slice Al b.of.l.length cl,.slice Ar b.of.r.length cr⟩,.slice Aa al.length ca,al⟩) ∧ W.cell? ⟨G,3,none⟩ = some (Value.slice Ao pl.length co):=by rw [hSd]; exact fun W h => h
 have hS0 : S w2.drew:=by rw [hSd]; exact ⟨JK.out.rg,J.out.c3⟩
 have hSa : S (w2.drew.alloc (.cells (bkC ⟨b,⟨.slice Ae b.of.e.l.length ce,.slice Al b.of.l.length cl,.slice Ar b.of.r.length cr⟩,.slice Aa al.length ca,al⟩).toArray 200)):=by rw [hSd]; exact ⟨(JK.out.under bAl).rg,(J.out.new _).c3⟩
 have s3 : ∀ s : SW S,s.w.cell? ⟨G,3,none⟩ = some (Value.slice Ao pl.length co):=fun s => (hSF _ s.h).2
 have sK : ∀ W,S W → W.rangeAt w.heap.size 0 (bkC ⟨b,⟨.slice Ae b.of.e.l.length ce,.slice Al b.of.l.length cl,.slice Ar b.of.r.length cr⟩,.slice Aa al.length ca,al⟩):=fun W h => (hSF W h).1
 clear hSd hSF
 refine region_start (by kernel_rfl) 15 rfl ?_
 refine wpAny_next 0 3 12 (by kernel_rfl) (fun _ _ d _ _ h => by cases d <;> exact h) ?_
 simp only [sD,sE,sF,sG]
 repeat (go_big_quiet_step (fail))
 refine wpQuiet_nil ?_
 refine wpAny_hold S 8 (by kernel_rfl) ?_
 refine wpM_next 3 3 9 (by kernel_rfl) (fun _ _ d _ _ h => by cases d <;> exact h) hS0 (fun hne => ?_)
 simp only [sD,sE,sF,sG]
 repeat (go_big_quiet_step (fail))
 refine wpQuiet_nil ?_
 refine wpM_take 6 (fuel:=8) (.agg (bkC ⟨b,⟨.slice Ae b.of.e.l.length ce,.slice Al b.of.l.length cl,.slice Ar b.of.r.length cr⟩,.slice Aa al.length ca,al⟩).toArray) (by kernel_rfl) (fun _ _ d _ _ h => by cases d <;> exact h) rfl hS0 (yieldsIf_load_mid rfl 200 (.tmp 3) rfl w.heap.size 0 rfl (bkC ⟨b,⟨.slice Ae b.of.e.l.length ce,.slice Al b.of.l.length cl,.slice Ar b.of.r.length cr⟩,.slice Aa al.length ca,al⟩) _ sK Tryz.underlying200 rfl info_bk) ?_
 refine wpM_one (i:=7) (fuel:=7) (by kernel_rfl) (by omega) rfl (fun KK hKK => ?_)
 refine step_build1 rfl 178 200 (.tmp 42) rfl (bkC ⟨b,⟨.slice Ae b.of.e.l.length ce,.slice Al b.of.l.length cl,.slice Ar b.of.r.length cr⟩,.slice Aa al.length ca,al⟩) rfl (by simp [bkC]) (by simp [bkC]) Tryz.underlying178 info_bk (by kernel_rfl) ?_
 refine hKK _ _ hSa ?_
 clear hKK KK s3 sK hS0 hSa
 refine wpM_late (i:=8) (fuel:=6) (by kernel_rfl) (by omega) rfl (fun KK hKK => ?_)
 refine step_push_b rfl (.tmp 41) (.tmp 43) 178 rfl rowBk w2.drew (G + 1) (Value.slice Ao pl.length co) pl.length (bcs pl) (bkC ⟨b,⟨.slice Ae b.of.e.l.length ce,.slice Al b.of.l.length cl,.slice Ar b.of.r.length cr⟩,.slice Aa al.length ca,al⟩) rfl hown rfl rfl rfl (bkC_one rfl rfl rfl rfl) (by omega) (by omega) ?_
 intro v6 w6 ho6 hg6 hv6
 obtain ⟨A6,c6,rfl⟩:=ho6.form
 obtain ⟨⟨d2,d3,y2,y3⟩,hI,hT⟩:=FIN.out _ _ ho6 hg6 hv6
 have HI:=Lh hI
 have HTT:=Lh hT
 clear hI hT ho6 hg6 hv6
 refine hKK _ _ ?_
 clear hKK KK
 simp only [Act.put,sA,sB,sC]
 refine wpAny_one (i:=9) (fuel:=5) (by kernel_rfl) rfl (fun KK hKK => ?_)
 go_simp
 refine hKK _ _ ?_
 clear hKK KK
 refine wpAny_one (i:=10) (fuel:=4) (by kernel_rfl) rfl (fun KK hKK => ?_)
 go_simp
 refine hKK _ _ ?_
 clear hKK KK
 refine wpAny_one (i:=11) (fuel:=3) (by kernel_rfl) rfl (fun KK hKK => ?_)
 go_simp
 refine hKK _ _ ?_
 clear hKK KK
 refine wpAny_one (i:=12) (fuel:=2) (by kernel_rfl) rfl (fun KK hKK => ?_)
 go_simp
 refine hKK _ _ ?_
 clear hKK KK
 refine wpAny_one (i:=13) (fuel:=1) (by kernel_rfl) rfl (fun KK hKK => ?_)
 go_simp
 refine hKK _ _ ?_
 clear hKK KK
 refine wpAny_one (i:=14) (fuel:=0) (by kernel_rfl) rfl (fun KK hKK => ?_)
 go_simp
 refine hKK _ _ ?_
 clear hKK KK
 refine wpAny_done (by kernel_rfl) ?_ _
 all_goals
  refine bodyPost_ret (results_none rfl _ _ _) rfl ⟨_,_,_,_,rfl,HI.out,HTT.out⟩
theorem enter_any (C : Cx) (hC : TokOk C.T C.L) (G : Nat) (D : Int) (rv av ov : Value) (al : List (St × Tv)) (pl : List Pe) (op : List Bk) (b : Bk) (t : Tv) (row : List St) (p : Nat) (r : Int) (w : World) (h : Rdr C G D rv ov w (p,r)) (hP : Pl G w av ov al pl)
  (hop : pl.map (·.b) = op) (hah : al.map (·.1) = b.ah) (ht : TrS w (Fx G av ov pl) b.of t) (hlen : pl.length < 1000000) :
  CP 137 #[.pointer (some ⟨G,0,none⟩),bkV ⟨b,t,av,al⟩] w (RdT C G D (Mc.enter C.R D ⟨row,op,p,r⟩ b) w):=by
 by_cases hr : r = 0
 ·cases hw : ((C.R.wd p).toList == [123]) with
  | true =>
   by_cases hd : 32 - (pl.length : Int) ≤ D
   ·exact enter_1 C hC G D rv av ov al pl op b t row p r w h hP hop hah ht hlen hr hw hd
   ·exact enter_2 C hC G D rv av ov al pl op b t row p r w h hP hop hah ht hlen hr hw hd
  | false => exact enter_3 C hC G D rv av ov al pl op b t row p r w h hP hop hah ht hlen hr hw
 ·exact enter_4 C hC G D rv av ov al pl op b t row p r w h hP hop hah ht hlen hr
end Go.Proofs.YtkjhlgnpohamnaaGreatDoor
