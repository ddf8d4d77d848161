import Derived.Test.YtkjhlgnpohamnaaGreatDoorSq
import Derived.Test.YtkjhlgnpohamnaaGreatDoorMSe
namespace Go.Proofs.YtkjhlgnpohamnaaGreatDoor
set_option linter.unusedVariables false
set_option linter.unusedSimpArgs false
open Go.RowKit
set_option maxRecDepth 100000 in
set_option maxHeartbeats 1600000 in
theorem leave_1 (C : Cx) (hC : TokOk C.T C.L) (G : Nat) (D : Int) (rv ov te tl tr av : Value) (rl al : List (St × Tv)) (of : St) (ah : List St) (pl : List Pe) (op : List Bk) (p : Nat) (r : Int) (x2 : Nat × Int) (w : World) (h : Rdr C G D rv ov w (p,r)) (hP : Pl G w rv ov rl (pl ++ [⟨⟨of,ah,true⟩,⟨te,tl,tr⟩,av,al⟩]))
  (hop : pl.map (·.b) = op) (hlen : pl.length < 1000000) (hal : al.length < 1000000) (hx2 : mu C.R (p,r) [wKet] = x2) (hk : ¬ of.k = 2) :
  CP 135 #[.pointer (some ⟨G,0,none⟩)] w (RdT C G D ⟨ah ++ [(of.setR (rl.map (·.1)))],op,x2.1,x2.2⟩ w):=by
 have hgt:=h.gt
 have hGw:=h.v.lt
 have hzB:=zeroBk
 obtain ⟨n,hn⟩ : ∃ n,pl.length = n:=⟨_,rfl⟩
 obtain ⟨g,co,rfl,hco⟩:=hP.solidF hn
 obtain ⟨Ar,cr,rfl⟩:=hP.row.form
 have hmem : (⟨⟨of,ah,true⟩,⟨te,tl,tr⟩,av,al⟩ : Pe) ∈ pl ++ [⟨⟨of,ah,true⟩,⟨te,tl,tr⟩,av,al⟩]:=List.mem_append.2 (.inr (List.mem_singleton.2 rfl))
 have hte : TrS w _ of ⟨te,tl,tr⟩:=(hP.to_ _ hmem).1
 have hae : Own w (G + 1) 118 17 av al.length (scs al):=(hP.ah _ hmem).1
 have hahm : al.map (·.1) = ah:=(hP.ah _ hmem).2
 obtain ⟨Ae,ce,rfl,_⟩:=hte.e.len
 obtain ⟨Al,cl,rfl,_⟩:=hte.l.len
 obtain ⟨Aq,cq,rfl,_⟩:=hte.r.len
 obtain ⟨Aa,ca,rfl⟩:=hae.form
 rw [hn] at hlen
 have hnw : IntKind.i64.wrap (n : Int) = n:=IntWalk.i64_in _ (by omega)
 have hnw1 : IntKind.i64.wrap ((n : Int) + 1) = n + 1:=IntWalk.i64_in _ (by omega)
 have HM1 : Hid (∀ W,Rdr C G D (Value.slice Ar rl.length cr) (Value.slice (some ⟨g,0,none⟩) (n + 1) co) W (p,r) → CP 147 #[.pointer (some ⟨G,0,none⟩),.slice (some ⟨W.heap.size,0,none⟩) 1 1] (W.alloc (.cells #[.string ⟨#[125]⟩] 9)) (GoTo C G D (Value.slice Ar rl.length cr) (Value.slice (some ⟨g,0,none⟩) (n + 1) co) none0 x2 W)):=Lh fun W hW => by
  have:=must1_any C hC G D (Value.slice Ar rl.length cr) (Value.slice (some ⟨g,0,none⟩) (n + 1) co) (p,r) W hW ⟨#[125]⟩ (by decide)
  rwa [show mu C.R (p,r) [⟨#[125]⟩] = x2 from hx2] at this
 have J:=Lh h
 have JP:=Lh hP
 clear h hP hte hae hmem hx2
 have hk1 : (of.k == 2) = false:=by simp [hk]
 have hk2 : decide (of.k = 2) = false:=by simp [hk]
 clear hk
 go_enter Tryz.func135,Tryz.ntmps135
 go_wp2_with (first
  | (go_at_call 147; (with_reducible refine (HM1.out _ J.out).mono ?_); rintro _ w2 ⟨rfl,hr,ht⟩; have hsz:=ht.size; have JP:=Lh (JP.out.turn ht (by intro k hk _ h; rcases h with h | h <;> omega)); have JT:=Lh (ht.weak (M':=fun k => k = C.g ∨ G ≤ k) (fun k _ h => h.elim .inl (fun h => .inr (by omega)))); have J:=Lh hr; clear hr ht; dsimp only; refine Hid.out ?_)
  | fail)
 have hpop:=JP.out.popped hn (Nat.le_of_lt hal)
 have hPp:=Lh hpop.1
 have hXp : Hid (TrS w2 (Fx G (Value.slice Aa al.length ca) (Value.slice (some ⟨g,0,none⟩) n co) pl) (of.setR (rl.map (·.1))) ⟨.slice Ae of.e.l.length ce,.slice Al of.l.length cl,.slice Ar rl.length cr⟩):=Lh hpop.2
 have hG2 : G < w2.heap.size:=J.out.v.lt
 clear hpop
 have hrg:=JP.out.solidR hn
 have g3:=J.out.c3
 have hs1 : Hid ((w2.alloc (.cells #[.int .i64 0,.int .i64 0,.string ⟨#[]⟩,.int .i64 0,.bool false,.bool false,.string ⟨#[]⟩,.int .i64 0,.int .i64 0,.int .i64 0,.int .i64 0,.int .i64 0,.string ⟨#[]⟩,.string ⟨#[]⟩,.slice none 0 0,.slice none 0 0,.slice none 0 0,.slice none 0 0,.bool false] 200)).heap.size = w2.heap.size + 1):=Lh (by simp)
 have hnl : (n : Int) < n + 1:=by omega
 refine Lh ?_
 go_wp2_with (first
  | (refine wpList_ldV rfl 200 (.tmp 18) rfl g (n * 19) rfl (bkC ⟨⟨of,ah,true⟩,⟨.slice Ae of.e.l.length ce,.slice Al of.l.length cl,.slice Aq of.r.length cq⟩,.slice Aa al.length ca,al⟩) hrg Tryz.underlying200 rfl info_bk ?_)
  | (refine wpList_stV rfl 200 (.tmp 3) (.tmp 19) rfl (G:=w2.heap.size) (off:=0) rfl (us:=bkC ⟨⟨of,ah,true⟩,⟨.slice Ae of.e.l.length ce,.slice Al of.l.length cl,.slice Aq of.r.length cq⟩,.slice Aa al.length ca,al⟩) (Var.new w2 (bkC ⟨⟨St.nul,[],false⟩,Tv.nul,.slice none 0 0,[]⟩) 200 rfl) rfl info_bk (Nat.le_refl 19) (bkC_one rfl rfl rfl rfl) ?_; intro w3 ht hs; have hsz3:=ht.size; rw [hs1.out] at hsz3; have J:=Lh ((J.out.new (.cells #[.int .i64 0,.int .i64 0,.string ⟨#[]⟩,.int .i64 0,.bool false,.bool false,.string ⟨#[]⟩,.int .i64 0,.int .i64 0,.int .i64 0,.int .i64 0,.int .i64 0,.string ⟨#[]⟩,.string ⟨#[]⟩,.slice none 0 0,.slice none 0 0,.slice none 0 0,.slice none 0 0,.bool false] 200)).turn ht (fun k hk e => by omega)); have JT:=Lh ((JT.out.trans (Tn.alloc _ _ _)).trans (ht.weak (fun k _ h => .inr (by omega)))); have JU:=Lh ((Tn.alloc (fun k => k = C.g ∨ k = G ∨ w2.heap.size ≤ k) w2 (.cells #[.int .i64 0,.int .i64 0,.string ⟨#[]⟩,.int .i64 0,.bool false,.bool false,.string ⟨#[]⟩,.int .i64 0,.int .i64 0,.int .i64 0,.int .i64 0,.int .i64 0,.string ⟨#[]⟩,.string ⟨#[]⟩,.slice none 0 0,.slice none 0 0,.slice none 0 0,.slice none 0 0,.bool false] 200)).trans (ht.weak (fun k _ h => .inr (.inr (by omega))))); have JV:=Lh (show Var w3 w2.heap.size (bkC ⟨⟨of,ah,true⟩,⟨.slice Ae of.e.l.length ce,.slice Al of.l.length cl,.slice Aq of.r.length cq⟩,.slice Aa al.length ca,al⟩) from hs); clear ht hs; dsimp only; refine Hid.out ?_)
  | fail)
 clear hrg g3 JP
 have g3:=J.out.c3
 have hnc : (n : Int) ≤ co:=by omega
 have hnc2 : n ≤ co:=by omega
 have hco0 : ¬ co = 0:=by omega
 refine Lh ?_
 go_wp2_with (first
  | (refine wpList_st1 rfl _ _ _ rfl (G:=G) (off:=3) rfl (v:=(Value.slice (some ⟨g,0,none⟩) n co)) J.out.v rfl (by kernel_rfl) (by show 3 < 5; omega) rfl ?_; intro w4 ht hs; have J:=Lh (show Rdr C G D (Value.slice Ar rl.length cr) (Value.slice (some ⟨g,0,none⟩) n co) w4 x2 from ⟨J.out.cur.turn ht (fun k hk e => by omega),hs,hgt⟩); have JT:=Lh (JT.out.trans (ht.weak (fun k _ h => .inr (by omega)))); have JU:=Lh (JU.out.trans (ht.weak (fun k _ h => .inr (.inl h)))); have JV:=Lh (JV.out.turn ht (by omega)); clear ht hs; dsimp only; refine Hid.out ?_)
  | fail)
 clear g3
 have k18 : w4.cell? ⟨w2.heap.size,18,none⟩ = some (.bool true):=JV.out.at 18 rfl
 have g2:=J.out.c2
 refine Lh ?_
 go_wp2_with (first
  | (refine wpList_st1 rfl _ _ _ rfl (G:=w2.heap.size) (off:=16) rfl (v:=(Value.slice Ar rl.length cr)) JV.out rfl (by kernel_rfl) (by show 16 < 19; omega) rfl ?_; intro w5 ht hs; have J:=Lh (J.out.turn ht (fun k hk e => by omega)); have JT:=Lh (JT.out.trans (ht.weak (fun k _ h => .inr (by omega)))); have JU:=Lh (JU.out.trans (ht.weak (fun k _ h => .inr (.inr (by omega))))); have JV:=Lh (show Var w5 w2.heap.size (stC (of.setR (rl.map (·.1))) ⟨.slice Ae of.e.l.length ce,.slice Al of.l.length cl,.slice Ar rl.length cr⟩ ++ [(Value.slice Aa al.length ca),.bool true]) from hs); clear ht hs; dsimp only; refine Hid.out ?_)
  | fail)
 clear k18 g2
 have k18 : w5.cell? ⟨w2.heap.size,18,none⟩ = some (.bool true):=JV.out.at 18 rfl
 have k17 : w5.cell? ⟨w2.heap.size,17,none⟩ = some (Value.slice Aa al.length ca):=JV.out.at 17 rfl
 have k0 : w5.cell? ⟨w2.heap.size,0,none⟩ = some (.int .i64 of.k):=JV.out.at 0 rfl
 have g0:=J.out.c0
 have hPq:=Lh (hPp.out.turn JU.out (fun k h1 h2 h => by omega))
 have hXq:=Lh (hXp.out.turn (S':=Fx G (Value.slice Aa al.length ca) (Value.slice (some ⟨g,0,none⟩) n co) pl) JU.out (fun b hb h2 => ⟨hb,fun h => by have:=hb.1; omega⟩))
 have hrg : w5.rangeAt w2.heap.size 0 (stC (of.setR (rl.map (·.1))) ⟨.slice Ae of.e.l.length ce,.slice Al of.l.length cl,.slice Ar rl.length cr⟩):=fun j u hu => JV.out.rg j u (by rw [List.getElem?_append_left (List.getElem?_eq_some_iff.1 hu).1]; exact hu)
 have hown:=hPq.out.row
 have FIN : Hid (∀ v6 w6,Own w6 (G + 1) 118 17 v6 (al.length + 1) (scs al ++ stC (of.setR (rl.map (·.1))) ⟨.slice Ae of.e.l.length ce,.slice Al of.l.length cl,.slice Ar rl.length cr⟩) → (w5.alloc (.cells (stC (of.setR (rl.map (·.1))) ⟨.slice Ae of.e.l.length ce,.slice Al of.l.length cl,.slice Ar rl.length cr⟩).toArray 118)).grownBy w6 (Value.slice Aa al.length ca).ownBlock → (v6.ownBlock = (Value.slice Aa al.length ca).ownBlock ∨ v6.ownBlock = some (w5.heap.size + 1)) → Rdr C G D (Value.slice Ar rl.length cr) (Value.slice (some ⟨g,0,none⟩) n co) w6 x2 ∧ Pl G w6 v6 (Value.slice (some ⟨g,0,none⟩) n co) (al ++ [((of.setR (rl.map (·.1))),⟨.slice Ae of.e.l.length ce,.slice Al of.l.length cl,.slice Ar rl.length cr⟩)]) pl ∧ Tn (fun k => k = C.g ∨ G ≤ k) w w6):=Lh fun v6 w6 ho hg hv => by
  have hno : ∀ k,(Value.slice Aa al.length ca).ownBlock = some k → G < k:=fun k hk => (hown.1.lt k hk).1
  exact ⟨(J.out.new _).turn (Tn.of_gb (M:=fun k => (Value.slice Aa al.length ca).ownBlock = some k) hg fun k e _ => e) (fun k hk e => by have:=hno k e; omega),hPq.out.app hXq.out ho hg hv hal,(JT.out.trans (Tn.alloc _ _ _)).trans (Tn.of_gb hg fun k e _ => .inr (by have:=hno k e; omega))⟩
 refine Lh ?_
 go_wp2_with (first
  | (refine wpList_ldV rfl 118 (.tmp 69) rfl w2.heap.size 0 rfl (stC (of.setR (rl.map (·.1))) ⟨.slice Ae of.e.l.length ce,.slice Al of.l.length cl,.slice Ar rl.length cr⟩) hrg Tryz.underlying118 rfl info_st ?_)
  | (refine wpList_build1 rfl 74 118 (.tmp 70) rfl (stC (of.setR (rl.map (·.1))) ⟨.slice Ae of.e.l.length ce,.slice Al of.l.length cl,.slice Ar rl.length cr⟩) rfl (by simp [stC]) (by simp [stC]) Tryz.underlying74 info_st (by kernel_rfl) ?_)
  | (refine wpList_push_b rfl (.tmp 68) (.tmp 71) 74 rfl rowSt w5 (G + 1) (Value.slice Aa al.length ca) al.length (scs al) (stC (of.setR (rl.map (·.1))) ⟨.slice Ae of.e.l.length ce,.slice Al of.l.length cl,.slice Ar rl.length cr⟩) rfl hown rfl rfl rfl hXq.out.one (by omega) (by omega) ?_; intro v6 w6 ho6 hg6 hv6; obtain ⟨A6,c6,rfl⟩:=ho6.form; obtain ⟨hJ,hI,hT⟩:=FIN.out _ _ ho6 hg6 hv6; have J:=Lh hJ; have HI:=Lh hI; have HTT:=Lh hT; clear hJ hI hT ho6 hg6 hv6; dsimp only)
  | (refine wpList_st1 rfl _ _ _ rfl (G:=G) (off:=2) rfl (v:=.slice A6 (al.length + 1) c6) J.out.v rfl (by kernel_rfl) (by show 2 < 5; omega) rfl ?_; intro w7 ht hs; have J:=Lh (show Rdr C G D (.slice A6 (al.length + 1) c6) (Value.slice (some ⟨g,0,none⟩) n co) w7 x2 from ⟨J.out.cur.turn ht (fun k hk e => by omega),hs,hgt⟩); have HI:=Lh (HI.out.turn ht (fun k hk _ e => by omega)); have HTT:=Lh (HTT.out.trans (ht.weak (fun k _ h => .inr (by omega)))); clear ht hs; dsimp only)
  | fail)
 refine bodyPost_ret (results_none rfl _ _ _) rfl ⟨_,_,_,_,rfl,⟨J.out,HI.out,by rw [List.map_append,hahm]; rfl,hop⟩,HTT.out⟩
end Go.Proofs.YtkjhlgnpohamnaaGreatDoor
