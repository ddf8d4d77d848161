import Derived.Test.YtjoclbeoafeebaaSq
import Derived.Test.YtjoclbeoafeebaaEqS
set_option maxHeartbeats 3200000
set_option maxRecDepth 100000
namespace Go.Proofs.Ytjoclbeoafeebaa
set_option linter.unusedVariables false
set_option linter.unusedSimpArgs false
open Go.RowKit
theorem hts_le{l:List Ex}{n:Nat}(h:∀ x∈l,x.ht≤n):hts l≤n:=by
 induction l with
 | nil=>exact Nat.zero_le _
 | cons x l ih =>
  rw [Y8]
  have h1:=h x List.mem_cons_self
  have h2:=ih fun y hy=>h y (List.mem_cons_of_mem _ hy)
  omega
theorem Kp.five{w:World}{G:Nat}{x:Ex}{lv:Value}(h:Kp w G x lv):w.cell? ⟨G,5,none⟩=some lv:=by
 have:=h.cs 5 _ rfl
 rwa [Nat.zero_add] at this
structure RwL (X:Ry) (w wr:World):Prop where
 c0:wr.cell? ⟨w.heap.size,0,none⟩=some (.string X.T)
 c1:wr.cell? ⟨w.heap.size,1,none⟩=some (.slice X.A X.L.length X.c)
 ga:Gar wr (w.heap.size+1) Ex.nul (.slice none 0 0) 0 0
 be:Below w.heap.size w wr
theorem Two.rw{X:Ry}{w w1:World}(h:Two X w w1):RwL X w w1:=⟨h.c0,h.c1,h.ga,h.be⟩
theorem RwL.below{X:Ry}{w wr w':World}(h:RwL X w wr)(hb:Below wr.heap.size wr w'):RwL X w w':=by
 have h1:=h.ga.lt
 exact ⟨(hb.cell (p:=⟨w.heap.size,0,none⟩) (by show w.heap.size<_;omega)).trans h.c0,(hb.cell (p:=⟨w.heap.size,1,none⟩) (by show w.heap.size<_;omega)).trans h.c1,h.ga.below hb h1,h.be.trans (hb.mono h.be.size)⟩
theorem RwL.own{X:Ry}{w wr w':World}{r:Option Nat}(h:RwL X w wr)(hg:wr.grownBy w' r)(hr:∀ k,r=some k→w.heap.size+2≤k):RwL X w w':=by
 have h1:=h.ga.lt
 have hc:∀ j,w'.cell? ⟨w.heap.size,j,none⟩=wr.cell? ⟨w.heap.size,j,none⟩:=fun j=>World.cell?_of_block (a:=⟨w.heap.size,j,none⟩) (hg.block w.heap.size (by omega) (by intro e;have:=hr _ e.symm;omega))
 exact ⟨(hc 0).trans h.c0,(hc 1).trans h.c1,h.ga.grown hg (by intro e;have:=hr _ e.symm;omega),bel_own h.be hg (fun j hj=>by have:=hr j hj;omega) h.be.size⟩
structure NmL (X:Ry) (w:World) (N:Nat) (wr:World) (x0:Ex) (lv:Value) (L:List (Ex×Value)):Prop where
 rw_:RwL X w wr
 sl:Kp wr N x0 lv
 ow:Own wr (N+1) 81 6 lv L.length (xcs L)
 tr:∀ y∈L,Shx wr (fun b=>N+1≤b∧lv.ownBlock≠some b) y.2 y.1.l
 kg:w.heap.size+2≤N
theorem NmL.below{X:Ry}{w wr w':World}{N:Nat}{x0:Ex}{lv:Value}{L:List (Ex×Value)}(h:NmL X w N wr x0 lv L)(hb:Below wr.heap.size wr w'):NmL X w N w' x0 lv L:=
 ⟨h.rw_.below hb,h.sl.below hb h.sl.lt,h.ow.below hb,fun y hy=>(h.tr y hy).under hb (fun b _ hb=>hb),h.kg⟩
theorem NmL.new{X:Ry}{w wr w':World}{N:Nat}{x0:Ex}{lv:Value}{L:List (Ex×Value)}{o:Obj}(h:NmL X w N wr x0 lv L)(hg:(wr.alloc o).grownBy w' (some wr.heap.size)):NmL X w N w' x0 lv L:=by
 have h1:=h.sl.lt
 have h2:=h.kg
 have hb:Below wr.heap.size wr (wr.alloc o):=bAl
 have ha:=h.below hb
 refine ⟨ha.rw_.own hg (by intro k e;injection e;omega),ha.sl.grown hg (by intro e;injection e;omega),h.ow.newvar o hg,fun y hy=>?_,h.kg⟩
 exact ((((h.tr y hy).weak (S':=fun b=>(N+1≤b∧lv.ownBlock≠some b)∧b<wr.heap.size) (fun b h1 h2=>⟨h1,h2⟩)).under hb (fun b hb _=>hb.2)).grown hg (by intro b hb _ e;injection e with e;omega)).weak fun b hb _=>hb.1
theorem NmL.push{X:Ry}{w wr w7:World}{N:Nat}{x0:Ex}{lv v7 zv:Value}{L:List (Ex×Value)}{x:Ex}(h:NmL X w N wr x0 lv L)(hx:Shx wr (fun b=>N+1≤b∧lv.ownBlock≠some b) zv x.l)
  (ho:Own w7 (N+1) 81 6 v7 (L.length+1) (xcs L++exC x zv)) (hg:(wr.alloc (.cells (exC x zv).toArray 81)).grownBy w7 lv.ownBlock) (hv:v7.ownBlock=lv.ownBlock∨v7.ownBlock=some (wr.heap.size+1)):NmL X w N (w7.setCell ⟨N,5,none⟩ v7) x0 v7 (L++[(x,zv)]):=by
 have h1:=h.sl.lt
 have h2:=h.kg
 have hb:Below wr.heap.size wr (wr.alloc (.cells (exC x zv).toArray 81)):=bAl
 have ha:=h.below hb
 have hlo:∀ k,lv.ownBlock=some k→N+1≤k∧k<wr.heap.size:=fun k hk=>h.ow.1.lt k hk
 have hs:=Qah w7 N 5 v7
 have hsl:Kp w7 N x0 lv:=ha.sl.grown hg (by intro e;have:=hlo _ e.symm;omega)
 refine ⟨(ha.rw_.own hg (by intro k e;have:=hlo k e;omega)).own hs (by intro k e;injection e;omega),?_,?_,fun y hy=>?_,h.kg⟩
 ·refine hsl.setc 5 (by omega) fun i u hu=>?_
  rcases Nat.lt_or_ge i 5 with h5 | h5
  ·refine .inr ⟨by omega,?_⟩
   match i,h5,hu with
   | 0,_,hu=>exact hu
   | 1,_,hu=>exact hu
   | 2,_,hu=>exact hu
   | 3,_,hu=>exact hu
   | 4,_,hu=>exact hu
  ·have:i=5:=by have:=(List.getElem?_eq_some_iff.1 hu).1;simp [exC] at this;omega
   subst this
   exact .inl ⟨rfl,(Option.some.inj hu).symm⟩
 ·exact (ho.gb hs (by omega)).cast (by simp) (xcs_snoc L (x,zv)).symm
 ·have hold:∀ (zs:Value) (zl:List Ex),Shx wr (fun b=>N+1≤b∧lv.ownBlock≠some b) zs zl→Shx (w7.setCell ⟨N,5,none⟩ v7) (fun b=>N+1≤b∧v7.ownBlock≠some b) zs zl:=fun zs zl hh=>by
   refine ((((hh.weak (S':=fun b=>(N+1≤b∧lv.ownBlock≠some b)∧b<wr.heap.size) (fun b h1 h2=>⟨h1,h2⟩)).under hb (fun b hb _=>hb.2)).grown hg (by intro b hb _ e;exact hb.1.2 e.symm)).grown hs (by intro b hb _ e;injection e;omega)).weak fun b hb _=>⟨hb.1.1,fun e=>?_⟩
   rcases hv with h | h
   ·exact hb.1.2 (h▸e)
   ·rw [h] at e
    injection e
    omega
  rcases List.mem_append.1 hy with hy | hy
  ·exact hold _ _ (h.tr y hy)
  ·rw [List.mem_singleton.1 hy]
   exact hold _ _ hx
theorem Qi9{w:World}{G:Nat}{x:Ex}{lv:Value}{p r:Int}(h:Gar w G x lv p r):w.rangeAt G 0 (exC x lv):=fun i u hu=>h.cs i u (by
 have hi:i<(exC x lv).length:=(List.getElem?_eq_some_iff.1 hu).1
 rw [gC,List.getElem?_append_left hi]
 exact hu)
theorem Ub{w:World}{G:Nat}{x:Ex}{lv:Value}{p r:Int}(N j:Nat)(v:Value)(h:Gar w G x lv p r)(hn:G≠N):Gar (w.setCell ⟨N,j,none⟩ v) G x lv p r:=h.grown (Qah w N j v) (by intro e;injection e with e;exact hn e)
def anG(R:Rw)(f k d:Nat)(l:List Ex):Gt:=
 if l=[] then (if R.is k [41]=true then good (Qc8 []) (k+1) else rd R f (.an []) k d)
 else if R.is k [44]=true then rd R f (.an l) (k+1) d else if R.is k [41]=true then good (Qc8 l) (k+1) else bad k 11
theorem Qja{R:Rw}{f k d:Nat}{l:List Ex}{g:Gt}(hg:rd R f (.lev 1) k d=g):rd R (f+1) (.an l) k d=if g.r=0 then anG R f g.p d (l++[g.e]) else bad g.p g.r:=by
 rw [rd_an hg]
 unfold anG
 rw [if_neg (show ¬ l++[g.e]=[] by simp)]
theorem Qmo(X:Ry)(f d p:Nat)(w:World)(hp:p≤X.L.length)(h:X.In w w.heap.size)(HIDh:X.R.idn p=false)(hm:∀ i,(X.R.wd i).size≤1000000) :
  CP 100 #[X.val,.int .i64 (p:Int),.int .i64 (d:Int)] w (Yi w (rd X.R (f+1) .nm p d)):=by
 have hz:=Q2
 have hzx:=J8
 have hln:=h.2.len
 have HI:=Lh h
 have HM:=Lh hm
 have z0:=hm p
 have z2:=hm (p+2)
 have H2:=Lh (Qx X w)
 rw [show rd X.R (f+1) .nm p d=bad p 11 by rw [Qei (y:=(false,⟨#[]⟩,p)) (by unfold Rw.name;rw [if_pos HIDh]) rfl];rfl]
 have HA:Hid (∀ W,Below w.heap.size w W→CP 51 #[X.val,.int .i64 ((p:Int))] W fun e w'=>e=.returned (.string (X.R.wd (p)))∧Below W.heap.size W w'):=Lh fun W hW=>Qg X (p) W ((HI.out.up hW nLe).more hW.size) (by omega)
 have HID:Hid (∀ W,CP 45 #[.string (X.R.wd (p))] W fun e w'=>e=.returned (.bool false)∧Below W.heap.size W w'):=Lh fun W=>by
  have:=Q1 (X.R.wd (p)) W (HM.out _)
  rwa [show idB (X.R.wd (p))=false from HIDh] at this
 obtain ⟨W1,hW1⟩:∃ W1,((w.alloc (.cells #[.string X.T,.slice X.A X.L.length X.c] 92)).alloc (.cells z8 138))=W1:=⟨_,rfl⟩
 rw [hW1] at H2
 have HW1:=Lh hW1
 have hs1:=H2.out.sz
 have J:=Lh H2.out.rw
 have k0:=J.out.c0
 have k1:=J.out.c1
 clear hW1 h hm
 go_enter Try.func100,Try.ntmps100
 go_wp2_with (first
  | (go_at_call 51;(try rw [HW1.out]);(with_reducible refine (HA.out _ J.out.be).mono ?_);rintro e wx ⟨rfl,bx⟩;have J:=Lh (J.out.below bx);have k0:=J.out.c0;have k1:=J.out.c1;clear bx;dsimp only)
  | (go_at_call 45;(with_reducible refine (HID.out _).mono ?_);rintro e wx ⟨rfl,bx⟩;have J:=Lh (J.out.below bx);have k0:=J.out.c0;have k1:=J.out.c1;clear bx;dsimp only)
  | (refine Qe rfl (.tmp 6) (.tmp 18) rfl (w.heap.size+1) rfl J.out.ga (e:=Ex.nul) (lv:=.slice none 0 0) (p:=(p:Int)) (r:=11) rfl rfl ?_;intro wz hgz hsz;have HGZ:=Lh hsz;have HBZ:=Lh (Qu J.out.be hgz (by omega) J.out.be.size);clear hgz hsz)
  | fail)
 exact Jo (i:=6) (by kernel_rfl) rfl rfl HGZ.out ⟨.slice none 0 0,rfl,.nil,HBZ.out⟩
theorem Qkm(X:Ry)(f d p:Nat)(w:World)(hp:p≤X.L.length)(h:X.In w w.heap.size)(HIDh:X.R.idn p=true)(hdot:X.R.is (p+1) [46]=true)(HID2h:X.R.idn (p+2)=false)(hm:∀ i,(X.R.wd i).size≤1000000) :
  CP 100 #[X.val,.int .i64 (p:Int),.int .i64 (d:Int)] w (Yi w (rd X.R (f+1) .nm p d)):=by
 have hz:=Q2
 have hzx:=J8
 have hln:=h.2.len
 have HI:=Lh h
 have HM:=Lh hm
 have z0:=hm p
 have z2:=hm (p+2)
 have H2:=Lh (Qx X w)
 rw [show rd X.R (f+1) .nm p d=bad (p+2) 11 by rw [Qei (y:=(false,⟨#[]⟩,p+2)) (by unfold Rw.name;rw [if_neg (by rw [HIDh];decide),if_pos hdot,if_neg (by rw [HID2h];decide)]) rfl];rfl]
 have hdot':((X.R.wd (p+1)).toList==[46])=true:=hdot
 have HA:Hid (∀ W,Below w.heap.size w W→CP 51 #[X.val,.int .i64 ((p:Int))] W fun e w'=>e=.returned (.string (X.R.wd (p)))∧Below W.heap.size W w'):=Lh fun W hW=>Qg X (p) W ((HI.out.up hW nLe).more hW.size) (by omega)
 have HA1:Hid (∀ W,Below w.heap.size w W→CP 51 #[X.val,.int .i64 ((p:Int)+1)] W fun e w'=>e=.returned (.string (X.R.wd (p+1)))∧Below W.heap.size W w'):=Lh fun W hW=>Qg X (p+1) W ((HI.out.up hW nLe).more hW.size) (by omega)
 have HA2:Hid (∀ W,Below w.heap.size w W→CP 51 #[X.val,.int .i64 ((p:Int)+1+1)] W fun e w'=>e=.returned (.string (X.R.wd (p+2)))∧Below W.heap.size W w'):=Lh fun W hW=>Qg X (p+2) W ((HI.out.up hW nLe).more hW.size) (by omega)
 have HID:Hid (∀ W,CP 45 #[.string (X.R.wd (p))] W fun e w'=>e=.returned (.bool true)∧Below W.heap.size W w'):=Lh fun W=>by
  have:=Q1 (X.R.wd (p)) W (HM.out _)
  rwa [show idB (X.R.wd (p))=true from HIDh] at this
 have HID2:Hid (∀ W,CP 45 #[.string (X.R.wd (p+2))] W fun e w'=>e=.returned (.bool false)∧Below W.heap.size W w'):=Lh fun W=>by
  have:=Q1 (X.R.wd (p+2)) W (HM.out _)
  rwa [show idB (X.R.wd (p+2))=false from HID2h] at this
 obtain ⟨W1,hW1⟩:∃ W1,((w.alloc (.cells #[.string X.T,.slice X.A X.L.length X.c] 92)).alloc (.cells z8 138))=W1:=⟨_,rfl⟩
 rw [hW1] at H2
 have HW1:=Lh hW1
 have hs1:=H2.out.sz
 have J:=Lh H2.out.rw
 have k0:=J.out.c0
 have k1:=J.out.c1
 clear hW1 h hm
 go_enter Try.func100,Try.ntmps100
 go_wp2_with (first
  | (go_at_call 51;(try rw [HW1.out]);(with_reducible refine (HA.out _ J.out.be).mono ?_);rintro e wx ⟨rfl,bx⟩;have J:=Lh (J.out.below bx);have k0:=J.out.c0;have k1:=J.out.c1;clear bx;dsimp only)
  | (go_at_call 51;(try rw [HW1.out]);(with_reducible refine (HA1.out _ J.out.be).mono ?_);rintro e wx ⟨rfl,bx⟩;have J:=Lh (J.out.below bx);have k0:=J.out.c0;have k1:=J.out.c1;clear bx;dsimp only)
  | (go_at_call 51;(try rw [HW1.out]);(with_reducible refine (HA2.out _ J.out.be).mono ?_);rintro e wx ⟨rfl,bx⟩;have J:=Lh (J.out.below bx);have k0:=J.out.c0;have k1:=J.out.c1;clear bx;dsimp only)
  | (go_at_call 45;(with_reducible refine (HID.out _).mono ?_);rintro e wx ⟨rfl,bx⟩;have J:=Lh (J.out.below bx);have k0:=J.out.c0;have k1:=J.out.c1;clear bx;dsimp only)
  | (go_at_call 45;(with_reducible refine (HID2.out _).mono ?_);rintro e wx ⟨rfl,bx⟩;have J:=Lh (J.out.below bx);have k0:=J.out.c0;have k1:=J.out.c1;clear bx;dsimp only)
  | (refine Qe rfl (.tmp 6) (.tmp 33) rfl (w.heap.size+1) rfl J.out.ga (e:=Ex.nul) (lv:=.slice none 0 0) (p:=(p:Int)+1+1) (r:=11) rfl rfl ?_;intro wz hgz hsz;have HGZ:=Lh hsz;have HBZ:=Lh (Qu J.out.be hgz (by omega) J.out.be.size);clear hgz hsz)
  | fail)
 exact Jo (i:=6) (by kernel_rfl) rfl rfl HGZ.out ⟨.slice none 0 0,rfl,.nil,HBZ.out⟩
theorem Qge(X:Ry)(f d p:Nat)(w:World)(hp:p≤X.L.length)(h:X.In w w.heap.size)(HIDh:X.R.idn p=true)(hdot:X.R.is (p+1) [46]=false)(hc:X.R.is (p+1) [40]=false)(hm:∀ i,(X.R.wd i).size≤1000000) :
  CP 100 #[X.val,.int .i64 (p:Int),.int .i64 (d:Int)] w (Yi w (rd X.R (f+1) .nm p d)):=by
 have hz:=Q2
 have hzx:=J8
 have hln:=h.2.len
 have HI:=Lh h
 have HM:=Lh hm
 have z0:=hm p
 have z2:=hm (p+2)
 have H2:=Lh (Qx X w)
 have hdot':((X.R.wd (p+1)).toList==[46])=false:=hdot
 have hlt2:p<X.L.length:=(Qo X.T X.L).id_lt HIDh
 have hnm:(X.R.wd p)=X.R.wd p:=rfl
 have HA:Hid (∀ W,Below w.heap.size w W→CP 51 #[X.val,.int .i64 ((p:Int))] W fun e w'=>e=.returned (.string (X.R.wd (p)))∧Below W.heap.size W w'):=Lh fun W hW=>Qg X (p) W ((HI.out.up hW nLe).more hW.size) (by omega)
 have HA1:Hid (∀ W,Below w.heap.size w W→CP 51 #[X.val,.int .i64 ((p:Int)+1)] W fun e w'=>e=.returned (.string (X.R.wd (p+1)))∧Below W.heap.size W w'):=Lh fun W hW=>Qg X (p+1) W ((HI.out.up hW nLe).more hW.size) (by omega)
 have HID:Hid (∀ W,CP 45 #[.string (X.R.wd (p))] W fun e w'=>e=.returned (.bool true)∧Below W.heap.size W w'):=Lh fun W=>by
  have:=Q1 (X.R.wd (p)) W (HM.out _)
  rwa [show idB (X.R.wd (p))=true from HIDh] at this
 have HPO:Hid (∀ W,Below w.heap.size w W→CP 38 #[X.val,.int .i64 (p:Int)] W fun e w'=>e=.returned (.int .i64 (X.R.ps p))∧Below W.heap.size W w'):=Lh fun W hW=>Qz X p W ((HI.out.up hW nLe).more hW.size) (by omega)
 rw [show rd X.R (f+1) .nm p d=good (Qfv (X.R.ps p) (X.R.wd p)) (p+1) by rw [Qei (y:=(true,X.R.wd p,p+1)) (by unfold Rw.name;rw [if_neg (by rw [HIDh];decide),if_neg (by rw [hdot];decide)]) rfl,hnm];show (if X.R.is (p+1) [40]=true then _ else _)=_;rw [if_neg (by rw [hc];decide)]]
 have hc':((X.R.wd (p+1)).toList==[40])=false:=hc
 clear hnm
 obtain ⟨W1,hW1⟩:∃ W1,((w.alloc (.cells #[.string X.T,.slice X.A X.L.length X.c] 92)).alloc (.cells z8 138))=W1:=⟨_,rfl⟩
 rw [hW1] at H2
 have HW1:=Lh hW1
 have hs1:=H2.out.sz
 have J:=Lh H2.out.rw
 have k0:=J.out.c0
 have k1:=J.out.c1
 clear hW1 h hm
 go_enter Try.func100,Try.ntmps100
 go_wp2_with (first
  | (go_at_call 51;(try rw [HW1.out]);(with_reducible refine (HA.out _ J.out.be).mono ?_);rintro e wx ⟨rfl,bx⟩;have J:=Lh (J.out.below bx);have k0:=J.out.c0;have k1:=J.out.c1;clear bx;dsimp only)
  | (go_at_call 51;(try rw [HW1.out]);(with_reducible refine (HA1.out _ J.out.be).mono ?_);rintro e wx ⟨rfl,bx⟩;have J:=Lh (J.out.below bx);have k0:=J.out.c0;have k1:=J.out.c1;clear bx;dsimp only)
  | (go_at_call 45;(with_reducible refine (HID.out _).mono ?_);rintro e wx ⟨rfl,bx⟩;have J:=Lh (J.out.below bx);have k0:=J.out.c0;have k1:=J.out.c1;clear bx;dsimp only)
  | (go_at_call 38;(with_reducible refine (HPO.out _ J.out.be).mono ?_);rintro e wx ⟨rfl,bx⟩;have J:=Lh (J.out.below bx);have k0:=J.out.c0;have k1:=J.out.c1;clear bx;dsimp only)
  | (refine Qe rfl (.tmp 6) (.tmp 53) rfl (w.heap.size+1) rfl J.out.ga (e:=Qfv (X.R.ps p) (X.R.wd p)) (lv:=.slice none 0 0) (p:=(p:Int)+1) (r:=0) rfl rfl ?_;intro wz hgz hsz;have HGZ:=Lh hsz;have HBZ:=Lh (Qu J.out.be hgz (by omega) J.out.be.size);clear hgz hsz)
  | fail)
 exact Jo (i:=6) (by kernel_rfl) rfl rfl HGZ.out ⟨.slice none 0 0,rfl,.nil,HBZ.out⟩
theorem Qgf(X:Ry)(f p:Nat)(w:World)(hp:p≤X.L.length)(h:X.In w w.heap.size)(HIDh:X.R.idn p=true)(hdot:X.R.is (p+1) [46]=false)(hc:X.R.is (p+1) [40]=true)(hm:∀ i,(X.R.wd i).size≤1000000) :
  CP 100 #[X.val,.int .i64 (p:Int),.int .i64 32] w (Yi w (rd X.R (f+2) .nm p 32)):=by
 have hz:=Q2
 have hzx:=J8
 have hln:=h.2.len
 have HI:=Lh h
 have HM:=Lh hm
 have z0:=hm p
 have z2:=hm (p+2)
 have H2:=Lh (Qx X w)
 have hdot':((X.R.wd (p+1)).toList==[46])=false:=hdot
 have hlt2:p<X.L.length:=(Qo X.T X.L).id_lt HIDh
 have hnm:(X.R.wd p)=X.R.wd p:=rfl
 have HA:Hid (∀ W,Below w.heap.size w W→CP 51 #[X.val,.int .i64 ((p:Int))] W fun e w'=>e=.returned (.string (X.R.wd (p)))∧Below W.heap.size W w'):=Lh fun W hW=>Qg X (p) W ((HI.out.up hW nLe).more hW.size) (by omega)
 have HA1:Hid (∀ W,Below w.heap.size w W→CP 51 #[X.val,.int .i64 ((p:Int)+1)] W fun e w'=>e=.returned (.string (X.R.wd (p+1)))∧Below W.heap.size W w'):=Lh fun W hW=>Qg X (p+1) W ((HI.out.up hW nLe).more hW.size) (by omega)
 have HID:Hid (∀ W,CP 45 #[.string (X.R.wd (p))] W fun e w'=>e=.returned (.bool true)∧Below W.heap.size W w'):=Lh fun W=>by
  have:=Q1 (X.R.wd (p)) W (HM.out _)
  rwa [show idB (X.R.wd (p))=true from HIDh] at this
 have HPO:Hid (∀ W,Below w.heap.size w W→CP 38 #[X.val,.int .i64 (p:Int)] W fun e w'=>e=.returned (.int .i64 (X.R.ps p))∧Below W.heap.size W w'):=Lh fun W hW=>Qz X p W ((HI.out.up hW nLe).more hW.size) (by omega)
 rw [show rd X.R (f+2) .nm p 32=bad (p+1) 12 by rw [Qei (y:=(true,X.R.wd p,p+1)) (by unfold Rw.name;rw [if_neg (by rw [HIDh];decide),if_neg (by rw [hdot];decide)]) (Qdp rfl)];show (if X.R.is (p+1) [40]=true then _ else _)=_;rw [if_pos hc,if_neg (show ¬ (bad (p+1) 12).r=0 from (show ¬ (12:Int)=0 by decide))];rfl]
 have hc':((X.R.wd (p+1)).toList==[40])=true:=hc
 clear hnm
 obtain ⟨W1,hW1⟩:∃ W1,((w.alloc (.cells #[.string X.T,.slice X.A X.L.length X.c] 92)).alloc (.cells z8 138))=W1:=⟨_,rfl⟩
 rw [hW1] at H2
 have HW1:=Lh hW1
 have hs1:=H2.out.sz
 have J:=Lh H2.out.rw
 have k0:=J.out.c0
 have k1:=J.out.c1
 clear hW1 h hm
 go_enter Try.func100,Try.ntmps100
 go_wp2_with (first
  | (go_at_call 51;(try rw [HW1.out]);(with_reducible refine (HA.out _ J.out.be).mono ?_);rintro e wx ⟨rfl,bx⟩;have J:=Lh (J.out.below bx);have k0:=J.out.c0;have k1:=J.out.c1;clear bx;dsimp only)
  | (go_at_call 51;(try rw [HW1.out]);(with_reducible refine (HA1.out _ J.out.be).mono ?_);rintro e wx ⟨rfl,bx⟩;have J:=Lh (J.out.below bx);have k0:=J.out.c0;have k1:=J.out.c1;clear bx;dsimp only)
  | (go_at_call 45;(with_reducible refine (HID.out _).mono ?_);rintro e wx ⟨rfl,bx⟩;have J:=Lh (J.out.below bx);have k0:=J.out.c0;have k1:=J.out.c1;clear bx;dsimp only)
  | (go_at_call 38;(with_reducible refine (HPO.out _ J.out.be).mono ?_);rintro e wx ⟨rfl,bx⟩;have J:=Lh (J.out.below bx);have k0:=J.out.c0;have k1:=J.out.c1;clear bx;dsimp only)
  | (refine Qe rfl (.tmp 6) (.tmp 57) rfl (w.heap.size+1) rfl J.out.ga (e:=Ex.nul) (lv:=.slice none 0 0) (p:=(p:Int)+1) (r:=12) rfl rfl ?_;intro wz hgz hsz;have HGZ:=Lh hsz;have HBZ:=Lh (Qu J.out.be hgz (by omega) J.out.be.size);clear hgz hsz)
  | fail)
 exact Jo (i:=6) (by kernel_rfl) rfl rfl HGZ.out ⟨.slice none 0 0,rfl,.nil,HBZ.out⟩
theorem Qgg(X:Ry)(f:Nat)(hE:∀ f'≤f,Qlc X f')(d p:Nat)(w:World)(hd:d≤32)(h32:¬ d=32)(hp:p≤X.L.length)(h:X.In w w.heap.size)(hf16:16*(X.L.length-p)+1≤f+2)(HIDh:X.R.idn p=true)(hdot:X.R.is (p+1) [46]=false)(hc:X.R.is (p+1) [40]=true)(hm:∀ i,(X.R.wd i).size≤1000000) :
  CP 100 #[X.val,.int .i64 (p:Int),.int .i64 (d:Int)] w (Yi w (rd X.R (f+2) .nm p d)):=by
 have hz:=Q2
 have hzx:=J8
 have hln:=h.2.len
 have HI:=Lh h
 have HM:=Lh hm
 have z0:=hm p
 have z2:=hm (p+2)
 have H2:=Lh (Qx X w)
 have hdot':((X.R.wd (p+1)).toList==[46])=false:=hdot
 have hlt2:p<X.L.length:=(Qo X.T X.L).id_lt HIDh
 have hnm:(X.R.wd p)=X.R.wd p:=rfl
 have HA:Hid (∀ W,Below w.heap.size w W→CP 51 #[X.val,.int .i64 ((p:Int))] W fun e w'=>e=.returned (.string (X.R.wd (p)))∧Below W.heap.size W w'):=Lh fun W hW=>Qg X (p) W ((HI.out.up hW nLe).more hW.size) (by omega)
 have HA1:Hid (∀ W,Below w.heap.size w W→CP 51 #[X.val,.int .i64 ((p:Int)+1)] W fun e w'=>e=.returned (.string (X.R.wd (p+1)))∧Below W.heap.size W w'):=Lh fun W hW=>Qg X (p+1) W ((HI.out.up hW nLe).more hW.size) (by omega)
 have HID:Hid (∀ W,CP 45 #[.string (X.R.wd (p))] W fun e w'=>e=.returned (.bool true)∧Below W.heap.size W w'):=Lh fun W=>by
  have:=Q1 (X.R.wd (p)) W (HM.out _)
  rwa [show idB (X.R.wd (p))=true from HIDh] at this
 have HPO:Hid (∀ W,Below w.heap.size w W→CP 38 #[X.val,.int .i64 (p:Int)] W fun e w'=>e=.returned (.int .i64 (X.R.ps p))∧Below W.heap.size W w'):=Lh fun W hW=>Qz X p W ((HI.out.up hW nLe).more hW.size) (by omega)
 have hlk:p+1<X.L.length:=(Qo X.T X.L).is_lt hc
 have d32:¬ (32:Int)≤(d:Int):=by omega
 have hc':((X.R.wd (p+1)).toList==[40])=true:=hc
 have HEE:=Lh hE
 obtain ⟨Y,hY⟩:∃ Y,rd X.R (f+1) .ar (p+1) d=Y:=⟨_,rfl⟩
 have HY:Hid (anG X.R f (p+2) (d+1) []=Y):=Lh (by
  rw [← hY]
  unfold anG
  rw [if_pos rfl]
  cases h41:X.R.is (p+2) [41] with
  | true=>rw [Qdq h32 h41];rfl
  | false=>rw [Qfy h32 h41];rfl)
 rw [show rd X.R (f+2) .nm p d=if Y.r=0 then hld (Jz (X.R.ps p) (X.R.wd p) Y.e.l) Y.p p else bad Y.p Y.r by rw [Qei (y:=(true,X.R.wd p,p+1)) (by unfold Rw.name;rw [if_neg (by rw [HIDh];decide),if_neg (by rw [hdot];decide)]) hY,hnm];show (if X.R.is (p+1) [40]=true then _ else _)=_;rw [if_pos hc]]
 obtain ⟨F,hF⟩:∃ F:Gt,(if Y.r=0 then hld (Jz (X.R.ps p) (X.R.wd p) Y.e.l) Y.p p else bad Y.p Y.r)=F:=⟨_,rfl⟩
 rw [hF]
 have HF:=Lh hF
 clear hF hY hE hnm
 obtain ⟨W1,hW1⟩:∃ W1,((w.alloc (.cells #[.string X.T,.slice X.A X.L.length X.c] 92)).alloc (.cells z8 138))=W1:=⟨_,rfl⟩
 rw [hW1] at H2
 have HW1:=Lh hW1
 have hs1:=H2.out.sz
 have J:=Lh H2.out.rw
 have k0:=J.out.c0
 have k1:=J.out.c1
 clear hW1 h hm
 go_enter Try.func100,Try.ntmps100
 go_wp2_with (first
  | (go_at_call 51;(try rw [HW1.out]);(with_reducible refine (HA.out _ J.out.be).mono ?_);rintro e wx ⟨rfl,bx⟩;have J:=Lh (J.out.below bx);have k0:=J.out.c0;have k1:=J.out.c1;clear bx;dsimp only)
  | (go_at_call 51;(try rw [HW1.out]);(with_reducible refine (HA1.out _ J.out.be).mono ?_);rintro e wx ⟨rfl,bx⟩;have J:=Lh (J.out.below bx);have k0:=J.out.c0;have k1:=J.out.c1;clear bx;dsimp only)
  | (go_at_call 45;(with_reducible refine (HID.out _).mono ?_);rintro e wx ⟨rfl,bx⟩;have J:=Lh (J.out.below bx);have k0:=J.out.c0;have k1:=J.out.c1;clear bx;dsimp only)
  | (go_at_call 38;(with_reducible refine (HPO.out _ J.out.be).mono ?_);rintro e wx ⟨rfl,bx⟩;have J:=Lh (J.out.below bx);have k0:=J.out.c0;have k1:=J.out.c1;clear bx;dsimp only)
  | (refine Qdn rfl (.tmp 9) (.tmp 64) rfl wx.heap.size rfl (Qdo wx) (e:=Jz (X.R.ps p) (X.R.wd p) []) (lv:=.slice none 0 0) rfl rfl ?_;intro w3 hg3 hs3;have hbx:Below wx.heap.size wx (wx.alloc (.cells z6 81)):=bAl;have hwx:=J.out.ga.lt;have JN:=Lh (show NmL X w wx.heap.size w3 (Jz (X.R.ps p) (X.R.wd p) []) (.slice none 0 0) [] from ⟨(J.out.below hbx).own hg3 (by intro k e;injection e;omega),hs3,Own.nil _ _ _ _ (by have:=hg3.size;simp at this;omega),(fun y hy=>by cases hy),by omega⟩);clear hg3 hs3 hbx)
  | fail)
 obtain ⟨N,hN⟩:∃ N,wx.heap.size=N:=⟨_,rfl⟩
 obtain ⟨nm,hnmv⟩:∃ nm,(X.R.wd p)=nm:=⟨_,rfl⟩
 rw [hN] at JN ⊢
 rw [hnmv] at JN HF ⊢
 have hNw:w.heap.size+2≤N:=JN.out.kg
 clear k0 k1 J HA HA1 HID HPO H2 HW1 hc' hdot' hN hnmv
 go_loopw [8] (fun kv wr=>∃ (k f':Nat) (lv:Value) (L:List (Ex×Value)),kv=.int .i64 (k:Int)∧NmL X w N wr (Jz (X.R.ps p) nm []) lv L∧k≤X.L.length∧L.length≤k∧f'≤f∧16*(X.L.length-k)+10≤f'∧(∀ y∈L,Fine y.1)∧anG X.R f' k (d+1) (L.map (·.1))=Y) (fun kv _=>X.L.length-(intOf kv).toNat)
 case atStart=>exact ⟨p+2,f,_,[],by go_num,JN.out,by omega,Nat.zero_le _,Nat.le_refl _,by omega,(fun y hy=>by cases hy),HY.out⟩
 case round =>
  obtain ⟨k,f',lv,L,rfl,hJ,hkl,hLk,hf1,hf2,hfine,hY⟩:=hrel
  obtain ⟨Al,cl,rfl⟩:=hJ.ow.form
  have J:=Lh hJ
  have k0:=hJ.rw_.c0
  have k1:=hJ.rw_.c1
  have k5:=hJ.sl.cs 5 _ rfl
  simp only [Nat.zero_add] at k5
  have hNlt:=hJ.sl.lt
  have HFN:=Lh hfine
  have HYY:=Lh hY
  have HAT:Hid (∀ W,Below w.heap.size w W→CP 51 #[X.val,.int .i64 (k:Int)] W fun e w'=>e=.returned (.string (X.R.wd k))∧Below W.heap.size W w'):=Lh fun W hW=>Qg X k W ((HI.out.up hW nLe).more hW.size) (by omega)
  clear JN HY hJ hfine hY
  cases h41:X.R.is k [41] with
  | true =>
   have h41':((X.R.wd k).toList==[41])=true:=h41
   have hkl2:k<X.L.length:=(Qo X.T X.L).is_lt h41
   have HYE:Hid (Y=good (Qc8 (L.map (·.1))) (k+1)):=Lh (by
    rw [← HYY.out]
    unfold anG
    by_cases hL:L.map (·.1)=[]
    ·rw [if_pos hL,if_pos h41,hL]
    ·have h44:X.R.is k [44]=false:=by
      unfold Rw.is at h41 ⊢
      rw [eq_of_beq h41]
      decide
     rw [if_neg hL,if_neg (by rw [h44];decide),if_pos h41])
   have HFE:Hid (hld (Jz (X.R.ps p) nm (L.map (·.1))) (k+1) p=F):=Lh (by
    rw [← HF.out,HYE.out,if_pos (show (good (Qc8 (L.map (·.1))) (k+1)).r=0 from rfl)]
    rfl)
   obtain ⟨s,hs⟩:∃ s,X.R.wd k=s:=⟨_,rfl⟩
   rw [hs] at HAT h41'
   have HWF:Hid ((Jz (X.R.ps p) nm (L.map (·.1))).wfx):=Lh (Qeg (fun x hx=>by obtain ⟨y,hy,rfl⟩:=List.mem_map.1 hx;exact HFN.out y hy) (by rw [List.length_map];omega))
   have hht:hts (L.map (·.1))≤32:=hts_le fun x hx=>by obtain ⟨y,hy,rfl⟩:=List.mem_map.1 hx;exact (HFN.out y hy).2
   have HHT:Hid ((Jz (X.R.ps p) nm (L.map (·.1))).ht≤1000000):=Lh (by rw [Ex.ht_eq];show hts (L.map (·.1))+1≤_;omega)
   have HSX:Hid (∀ W,NmL X w N W (Jz (X.R.ps p) nm []) (.slice Al L.length cl) L→Shx W (fun b=>N+1≤b) (.slice Al L.length cl) (L.map (·.1))):=Lh fun W hJ=>Shx.of_own hJ.ow rfl (fun y hy=>(hJ.tr y hy).weak fun b hb _=>hb.1) (fun b hb _ _=>hb)
   obtain ⟨E5,v5,P5,R5,hx0,he5,hx5⟩:∃ (E5:Ex) (v5:Value) (P5:Nat) (R5:Int),(∀ W,NmL X w N W (Jz (X.R.ps p) nm []) (.slice Al L.length cl) L→CP 82 #[.agg #[.int .i64 3,.int .i64 (X.R.ps p),.int .i64 0,.string nm,.string ⟨#[]⟩,.slice Al L.length cl],.int .i64 ((k:Int)+1),.int .i64 (p:Int)] W fun e w'=>e=.returned (gV E5 v5 (P5:Int) R5)∧Below W.heap.size W w')∧F=⟨E5,P5,R5⟩∧(∀ W,NmL X w N W (Jz (X.R.ps p) nm []) (.slice Al L.length cl) L→Shx W (fun b=>N+1≤b) v5 E5.l):=by
    by_cases hh32:32<(Jz (X.R.ps p) nm (L.map (·.1))).ht
    ·exact ⟨Ex.nul,.slice none 0 0,p,12,fun W hJ=>Kx (Jz (X.R.ps p) nm (L.map (·.1))) _ (k+1) p W _ HWF.out HHT.out (HSX.out W hJ) hh32,by rw [← HFE.out];unfold hld;rw [if_pos hh32];rfl,fun W _=>.nil⟩
    ·exact ⟨Jz (X.R.ps p) nm (L.map (·.1)),.slice Al L.length cl,k+1,0,fun W hJ=>Ky (Jz (X.R.ps p) nm (L.map (·.1))) _ (k+1) p W _ HWF.out HHT.out (HSX.out W hJ) hh32,by rw [← HFE.out];unfold hld;rw [if_neg hh32];rfl,HSX.out⟩
   have HX0:=Lh hx0
   have HX5:=Lh hx5
   have hone5:v5.oneCell'=true:=(hx5 _ J.out).one
   have HE5:=Lh he5
   clear hx0 hx5 he5 hs HFE HYE HWF HHT HSX
   go_wp2_with (first
    | (go_at_call 51;(with_reducible refine (HAT.out _ J.out.rw_.be).mono ?_);rintro e wx ⟨rfl,bx⟩;have J:=Lh (J.out.below bx);have k0:=J.out.rw_.c0;have k1:=J.out.rw_.c1;have k5:=J.out.sl.five;clear bx;dsimp only)
    | (refine Jx rfl (.tmp 9) rfl N 0 rfl J.out.sl.cs ?_)
    | (go_at_call 82;refine (HX0.out _ J.out).mono ?_;rintro e w8 ⟨rfl,b8⟩;have J:=Lh (J.out.below b8);clear b8;dsimp only)
    | (refine Qe rfl (.tmp 6) (.tmp 103) rfl (w.heap.size+1) rfl J.out.rw_.ga (e:=E5) (lv:=v5) (p:=(P5:Int)) (r:=R5) rfl hone5 ?_;intro wz hgz hsz;have HGZ:=Lh hsz;have HBZ:=Lh (Qu J.out.rw_.be hgz (by omega) J.out.rw_.be.size);have TZ:=Lh ((HX5.out _ J.out).grown hgz (by intro b hb _ e;injection e with e;omega));clear hgz hsz)
    | fail)
   refine Jo (i:=6) (by kernel_rfl) rfl rfl HGZ.out ⟨v5,by rw [HE5.out],?_,HBZ.out⟩
   rw [HE5.out]
   exact TZ.out.weak fun b hb _=>by omega
  | false =>
   have h41':((X.R.wd k).toList==[41])=false:=h41
   by_cases hL:L=[]
   ·have hL0:¬ (0:Int)<(L.length:Int):=by rw [hL];decide
    have HAN:Hid (rd X.R f' (.an (L.map (·.1))) k (d+1)=Y):=Lh (by
     rw [← HYY.out]
     unfold anG
     rw [hL,List.map_nil,if_pos rfl,if_neg (by rw [h41];decide)])
    obtain ⟨f'',rfl⟩:∃ f'',f'=f''+1:=⟨f'-1,by omega⟩
    obtain ⟨g,hg⟩:∃ g,rd X.R f'' (.lev 1) k (d+1)=g:=⟨_,rfl⟩
    have hin:=Ko (Qo X.T X.L) f'' (.lev 1) k (d+1) hkl (fun h=>by cases h)
    have hfi:=Kw (Qo X.T X.L) (show X.R.n≤1000000 from hln) f'' (.lev 1) k (d+1) hkl (fun h=>by cases h) trivial
    have hnul:=Qal (R:=X.R) f'' (.lev 1) k (d+1)
    have HEX:Hid (∀ W,Below w.heap.size w W→CP 70 #[X.val,.int .i64 ((k:Int)),.int .i64 1,.int .i64 ((d:Int)+1)] W (Yi W g)):=Lh fun W hW=>by
     rw [← hg]
     exact HEE.out f'' (by omega) 1 (d+1) k W (by omega) (by omega) (by omega) hkl ((HI.out.up hW nLe).more hW.size) (by omega)
    have HAN2:=Lh (Qja (l:=L.map (·.1)) hg)
    rw [HAN.out] at HAN2
    rw [hg] at hin hfi hnul
    have hgp:g.p≤X.L.length:=hin.2.1
    have HIN:=Lh hin
    have HFI:=Lh hfi
    have HNU:=Lh hnul
    obtain ⟨s,hs⟩:∃ s,X.R.wd k=s:=⟨_,rfl⟩
    rw [hs] at HAT h41'
    have JJ0:=J
    clear hin hfi hnul hg hs HAN HYY hL
    by_cases hr:g.r=0
    ·have hr2':(g.r==0)=true:=by simp [hr]
     have hr2'':decide (g.r=0)=true:=by simp [hr]
     have hgt:k<g.p:=HIN.out.2.2 hr rfl
     have hfg:=(HFI.out hr).1
     have HFG:=Lh hfg
     have HY2:Hid (anG X.R f'' g.p (d+1) ((L++[(g.e,Value.slice none 0 0)]).map (·.1))=Y):=Lh (by rw [HAN2.out,if_pos hr,List.map_append];rfl)
     go_wp2_with (first
      | (go_at_call 51;(with_reducible refine (HAT.out _ J.out.rw_.be).mono ?_);rintro e wx ⟨rfl,bx⟩;have J:=Lh (J.out.below bx);have k0:=J.out.rw_.c0;have k1:=J.out.rw_.c1;have k5:=J.out.sl.five;clear bx;dsimp only)
      | (go_at_call 70;(with_reducible refine (HEX.out _ J.out.rw_.be).mono ?_);rintro e w5 ⟨zv,rfl,hx5,b5⟩;obtain ⟨A5,c5,rfl,_⟩:=hx5.len;have hone5:=hx5.one;have TX:=Lh (hx5.weak (S':=fun b=>N+1≤b∧(Value.slice Al L.length cl).ownBlock≠some b) fun b hb _=>⟨by have:=J.out.sl.lt;omega,fun e=>by have:=(J.out.ow.1.lt b e).2;omega⟩);have T5:=Lh (TX.out.weak (S':=fun b=>(N+1≤b∧(Value.slice Al L.length cl).ownBlock≠some b)∧b<w5.heap.size) (fun b h1 h2=>⟨h1,h2⟩));have J:=Lh (J.out.below b5);clear b5 hx5;dsimp only)
      | (refine Qe rfl (.tmp 10) (.tmp 85) rfl w5.heap.size rfl (Q3 w5) (e:=g.e) (lv:=.slice A5 g.e.l.length c5) (p:=(g.p:Int)) (r:=g.r) rfl hone5 ?_;intro w6 hg6 hs6;have hb5:Below w5.heap.size w5 (w5.alloc (.cells z8 138)):=bAl;have T6:=Lh (((T5.out.under hb5 (fun b hb _=>hb.2)).grown hg6 (by intro b hb _ e;injection e with e;omega)).weak fun b hb _=>hb.1);have N5:¬ w5.heap.size=N:=(fun e=>by have:=J.out.sl.lt;omega);have M6:Hid ((Value.slice Al L.length cl).ownBlock≠some w5.heap.size):=Lh (fun e=>Nat.lt_irrefl _ (J.out.ow.1.lt _ e).2);have J:=Lh (J.out.new hg6);have k5:=J.out.sl.five;have G6:=Lh hs6;obtain ⟨n0,n1,n2,n3,n4,n5,n6,n7⟩:=hs6.six;clear hg6 hs6 hb5)
      | (refine Jx rfl (.tmp 92) rfl w5.heap.size 0 rfl (Qi9 G6.out) ?_)
      | (at_builtin;have JJ:=J;refine Yc rfl (.tmp 91) (.tmp 94) 79 rfl rowEx w6 (N+1) (Value.slice Al L.length cl) L.length (xcs L) (exC g.e (.slice A5 g.e.l.length c5)) rfl J.out.ow rfl rfl rfl (Ym g.e hone5) (by omega) (by omega) ?_;intro v7 w7 ho7 hg7 hv7;obtain ⟨A7,c7,rfl⟩:=ho7.form;have hb7:Below w6.heap.size w6 (w6.alloc (.cells (exC g.e (.slice A5 g.e.l.length c5)).toArray 81)):=bAl;have hsl7:Kp w7 N (Jz (X.R.ps p) nm []) (.slice Al L.length cl):=(JJ.out.sl.below hb7 JJ.out.sl.lt).grown hg7 (by intro e;have:=(JJ.out.ow.1.lt _ e.symm).1;omega);have f5:=hsl7.fz 5 (by omega);have z5:=hsl7.five;have G7:=(G6.out.below hb7 G6.out.lt).grown hg7 (by intro e;exact M6.out e.symm);have n6:=((Ub N 5 (.slice A7 (L.length+1) c7) G7 N5).six).2.2.2.2.2.2.1;have J:=Lh (J.out.push T6.out ho7 hg7 hv7);clear ho7 hg7 hv7 hsl7 hb7 G7)
      | fail)
     go_roundw
     case rel =>
      refine ⟨g.p,f'',_,L++[(g.e,.slice A5 g.e.l.length c5)],rfl,J.out,hgp,by simp;omega,by omega,by omega,fun y hy=>?_,?_⟩
      ·rcases List.mem_append.1 hy with hy | hy
       ·exact HFN.out y hy
       ·rw [List.mem_singleton.1 hy];exact HFG.out
      ·have:=HY2.out
       rw [List.map_append] at this ⊢
       exact this
     case measure=>simp [intOf];omega
    ·have hr2':(g.r==0)=false:=by simp [hr]
     have hr2'':decide (g.r=0)=false:=by simp [hr]
     have HFE:Hid (F=⟨Ex.nul,g.p,g.r⟩):=Lh (by
      have h1:=HAN2.out
      rw [if_neg hr] at h1
      rw [← HF.out,h1,if_neg (show ¬ (bad g.p g.r).r=0 from hr)]
      rfl)
     go_wp2_with (first
      | (go_at_call 51;(with_reducible refine (HAT.out _ J.out.rw_.be).mono ?_);rintro e wx ⟨rfl,bx⟩;have J:=Lh (J.out.below bx);have k0:=J.out.rw_.c0;have k1:=J.out.rw_.c1;have k5:=J.out.sl.five;clear bx;dsimp only)
      | (go_at_call 70;(with_reducible refine (HEX.out _ J.out.rw_.be).mono ?_);rintro e w5 ⟨zv,rfl,hx5,b5⟩;obtain ⟨A5,c5,rfl,_⟩:=hx5.len;have hone5:=hx5.one;have TX:=Lh (hx5.weak (S':=fun b=>N+1≤b∧(Value.slice Al L.length cl).ownBlock≠some b) fun b hb _=>⟨by have:=J.out.sl.lt;omega,fun e=>by have:=(J.out.ow.1.lt b e).2;omega⟩);have T5:=Lh (TX.out.weak (S':=fun b=>(N+1≤b∧(Value.slice Al L.length cl).ownBlock≠some b)∧b<w5.heap.size) (fun b h1 h2=>⟨h1,h2⟩));have J:=Lh (J.out.below b5);clear b5 hx5;dsimp only)
      | (refine Qe rfl (.tmp 10) (.tmp 85) rfl w5.heap.size rfl (Q3 w5) (e:=g.e) (lv:=.slice A5 g.e.l.length c5) (p:=(g.p:Int)) (r:=g.r) rfl hone5 ?_;intro w6 hg6 hs6;have hb5:Below w5.heap.size w5 (w5.alloc (.cells z8 138)):=bAl;have T6:=Lh (((T5.out.under hb5 (fun b hb _=>hb.2)).grown hg6 (by intro b hb _ e;injection e with e;omega)).weak fun b hb _=>hb.1);have N5:¬ w5.heap.size=N:=(fun e=>by have:=J.out.sl.lt;omega);have M6:Hid ((Value.slice Al L.length cl).ownBlock≠some w5.heap.size):=Lh (fun e=>Nat.lt_irrefl _ (J.out.ow.1.lt _ e).2);have J:=Lh (J.out.new hg6);have k5:=J.out.sl.five;have G6:=Lh hs6;obtain ⟨n0,n1,n2,n3,n4,n5,n6,n7⟩:=hs6.six;clear hg6 hs6 hb5)
      | (refine Js rfl (.tmp 10) rfl w5.heap.size rfl G6.out ?_)
      | (refine Qe rfl (.tmp 6) (.tmp 89) rfl (w.heap.size+1) rfl J.out.rw_.ga (e:=g.e) (lv:=.slice A5 g.e.l.length c5) (p:=(g.p:Int)) (r:=g.r) rfl hone5 ?_;intro wz hgz hsz;have HGZ:=Lh hsz;have HBZ:=Lh (Qu J.out.rw_.be hgz (by omega) J.out.rw_.be.size);clear hgz hsz)
      | fail)
     refine Jo (i:=6) (by kernel_rfl) rfl rfl HGZ.out ⟨.slice A5 g.e.l.length c5,?_,?_,HBZ.out⟩
     ·rw [HFE.out,HNU.out hr]
     ·rw [HFE.out,HNU.out hr]
      exact .emp _ _
   ·have hL1:0<L.length:=List.length_pos_iff.2 hL
    have hL0:(0:Int)<(L.length:Int):=by omega
    cases h44:X.R.is k [44] with
    | false =>
     have h44':((X.R.wd k).toList==[44])=false:=h44
     have HFE:Hid (F=⟨Ex.nul,k,11⟩):=Lh (by
      have h1:=HYY.out
      unfold anG at h1
      rw [if_neg (by simp [hL]),if_neg (by rw [h44];decide),if_neg (by rw [h41];decide)] at h1
      rw [← HF.out,← h1,if_neg (show ¬ (bad k 11).r=0 from (show ¬ (11:Int)=0 by decide))]
      rfl)
     obtain ⟨s,hs⟩:∃ s,X.R.wd k=s:=⟨_,rfl⟩
     rw [hs] at HAT h41' h44'
     clear hs
     go_wp2_with (first
      | (go_at_call 51;(with_reducible refine (HAT.out _ J.out.rw_.be).mono ?_);rintro e wx ⟨rfl,bx⟩;have J:=Lh (J.out.below bx);have k0:=J.out.rw_.c0;have k1:=J.out.rw_.c1;have k5:=J.out.sl.five;clear bx;dsimp only)
      | (refine Qe rfl (.tmp 6) (.tmp 78) rfl (w.heap.size+1) rfl J.out.rw_.ga (e:=Ex.nul) (lv:=.slice none 0 0) (p:=(k:Int)) (r:=11) rfl rfl ?_;intro wz hgz hsz;have HGZ:=Lh hsz;have HBZ:=Lh (Qu J.out.rw_.be hgz (by omega) J.out.rw_.be.size);clear hgz hsz)
      | fail)
     refine Jo (i:=6) (by kernel_rfl) rfl rfl HGZ.out ⟨.slice none 0 0,by rw [HFE.out],?_,HBZ.out⟩
     rw [HFE.out]
     exact .nil
    | true =>
    have h44':((X.R.wd k).toList==[44])=true:=h44
    have hk44:k+1≤X.L.length:=(Qo X.T X.L).is_lt h44
    have HAN:Hid (rd X.R f' (.an (L.map (·.1))) (k+1) (d+1)=Y):=Lh (by
     rw [← HYY.out]
     unfold anG
     rw [if_neg (by simp [hL]),if_pos h44])
    obtain ⟨f'',rfl⟩:∃ f'',f'=f''+1:=⟨f'-1,by omega⟩
    obtain ⟨g,hg⟩:∃ g,rd X.R f'' (.lev 1) (k+1) (d+1)=g:=⟨_,rfl⟩
    have hin:=Ko (Qo X.T X.L) f'' (.lev 1) (k+1) (d+1) hk44 (fun h=>by cases h)
    have hfi:=Kw (Qo X.T X.L) (show X.R.n≤1000000 from hln) f'' (.lev 1) (k+1) (d+1) hk44 (fun h=>by cases h) trivial
    have hnul:=Qal (R:=X.R) f'' (.lev 1) (k+1) (d+1)
    have HEX:Hid (∀ W,Below w.heap.size w W→CP 70 #[X.val,.int .i64 ((k:Int)+1),.int .i64 1,.int .i64 ((d:Int)+1)] W (Yi W g)):=Lh fun W hW=>by
     rw [← hg]
     exact HEE.out f'' (by omega) 1 (d+1) (k+1) W (by omega) (by omega) (by omega) hk44 ((HI.out.up hW nLe).more hW.size) (by omega)
    have HAN2:=Lh (Qja (l:=L.map (·.1)) hg)
    rw [HAN.out] at HAN2
    rw [hg] at hin hfi hnul
    have hgp:g.p≤X.L.length:=hin.2.1
    have HIN:=Lh hin
    have HFI:=Lh hfi
    have HNU:=Lh hnul
    obtain ⟨s,hs⟩:∃ s,X.R.wd k=s:=⟨_,rfl⟩
    rw [hs] at HAT h41' h44'
    have JJ0:=J
    clear hin hfi hnul hg hs HAN HYY
    by_cases hr:g.r=0
    ·have hr2':(g.r==0)=true:=by simp [hr]
     have hr2'':decide (g.r=0)=true:=by simp [hr]
     have hgt:(k+1)<g.p:=HIN.out.2.2 hr rfl
     have hfg:=(HFI.out hr).1
     have HFG:=Lh hfg
     have HY2:Hid (anG X.R f'' g.p (d+1) ((L++[(g.e,Value.slice none 0 0)]).map (·.1))=Y):=Lh (by rw [HAN2.out,if_pos hr,List.map_append];rfl)
     go_wp2_with (first
      | (go_at_call 51;(with_reducible refine (HAT.out _ J.out.rw_.be).mono ?_);rintro e wx ⟨rfl,bx⟩;have J:=Lh (J.out.below bx);have k0:=J.out.rw_.c0;have k1:=J.out.rw_.c1;have k5:=J.out.sl.five;clear bx;dsimp only)
      | (go_at_call 70;(with_reducible refine (HEX.out _ J.out.rw_.be).mono ?_);rintro e w5 ⟨zv,rfl,hx5,b5⟩;obtain ⟨A5,c5,rfl,_⟩:=hx5.len;have hone5:=hx5.one;have TX:=Lh (hx5.weak (S':=fun b=>N+1≤b∧(Value.slice Al L.length cl).ownBlock≠some b) fun b hb _=>⟨by have:=J.out.sl.lt;omega,fun e=>by have:=(J.out.ow.1.lt b e).2;omega⟩);have T5:=Lh (TX.out.weak (S':=fun b=>(N+1≤b∧(Value.slice Al L.length cl).ownBlock≠some b)∧b<w5.heap.size) (fun b h1 h2=>⟨h1,h2⟩));have J:=Lh (J.out.below b5);clear b5 hx5;dsimp only)
      | (refine Qe rfl (.tmp 10) (.tmp 85) rfl w5.heap.size rfl (Q3 w5) (e:=g.e) (lv:=.slice A5 g.e.l.length c5) (p:=(g.p:Int)) (r:=g.r) rfl hone5 ?_;intro w6 hg6 hs6;have hb5:Below w5.heap.size w5 (w5.alloc (.cells z8 138)):=bAl;have T6:=Lh (((T5.out.under hb5 (fun b hb _=>hb.2)).grown hg6 (by intro b hb _ e;injection e with e;omega)).weak fun b hb _=>hb.1);have N5:¬ w5.heap.size=N:=(fun e=>by have:=J.out.sl.lt;omega);have M6:Hid ((Value.slice Al L.length cl).ownBlock≠some w5.heap.size):=Lh (fun e=>Nat.lt_irrefl _ (J.out.ow.1.lt _ e).2);have J:=Lh (J.out.new hg6);have k5:=J.out.sl.five;have G6:=Lh hs6;obtain ⟨n0,n1,n2,n3,n4,n5,n6,n7⟩:=hs6.six;clear hg6 hs6 hb5)
      | (refine Jx rfl (.tmp 92) rfl w5.heap.size 0 rfl (Qi9 G6.out) ?_)
      | (at_builtin;have JJ:=J;refine Yc rfl (.tmp 91) (.tmp 94) 79 rfl rowEx w6 (N+1) (Value.slice Al L.length cl) L.length (xcs L) (exC g.e (.slice A5 g.e.l.length c5)) rfl J.out.ow rfl rfl rfl (Ym g.e hone5) (by omega) (by omega) ?_;intro v7 w7 ho7 hg7 hv7;obtain ⟨A7,c7,rfl⟩:=ho7.form;have hb7:Below w6.heap.size w6 (w6.alloc (.cells (exC g.e (.slice A5 g.e.l.length c5)).toArray 81)):=bAl;have hsl7:Kp w7 N (Jz (X.R.ps p) nm []) (.slice Al L.length cl):=(JJ.out.sl.below hb7 JJ.out.sl.lt).grown hg7 (by intro e;have:=(JJ.out.ow.1.lt _ e.symm).1;omega);have f5:=hsl7.fz 5 (by omega);have z5:=hsl7.five;have G7:=(G6.out.below hb7 G6.out.lt).grown hg7 (by intro e;exact M6.out e.symm);have n6:=((Ub N 5 (.slice A7 (L.length+1) c7) G7 N5).six).2.2.2.2.2.2.1;have J:=Lh (J.out.push T6.out ho7 hg7 hv7);clear ho7 hg7 hv7 hsl7 hb7 G7)
      | fail)
     go_roundw
     case rel =>
      refine ⟨g.p,f'',_,L++[(g.e,.slice A5 g.e.l.length c5)],rfl,J.out,hgp,by simp;omega,by omega,by omega,fun y hy=>?_,?_⟩
      ·rcases List.mem_append.1 hy with hy | hy
       ·exact HFN.out y hy
       ·rw [List.mem_singleton.1 hy];exact HFG.out
      ·have:=HY2.out
       rw [List.map_append] at this ⊢
       exact this
     case measure=>simp [intOf];omega
    ·have hr2':(g.r==0)=false:=by simp [hr]
     have hr2'':decide (g.r=0)=false:=by simp [hr]
     have HFE:Hid (F=⟨Ex.nul,g.p,g.r⟩):=Lh (by
      have h1:=HAN2.out
      rw [if_neg hr] at h1
      rw [← HF.out,h1,if_neg (show ¬ (bad g.p g.r).r=0 from hr)]
      rfl)
     go_wp2_with (first
      | (go_at_call 51;(with_reducible refine (HAT.out _ J.out.rw_.be).mono ?_);rintro e wx ⟨rfl,bx⟩;have J:=Lh (J.out.below bx);have k0:=J.out.rw_.c0;have k1:=J.out.rw_.c1;have k5:=J.out.sl.five;clear bx;dsimp only)
      | (go_at_call 70;(with_reducible refine (HEX.out _ J.out.rw_.be).mono ?_);rintro e w5 ⟨zv,rfl,hx5,b5⟩;obtain ⟨A5,c5,rfl,_⟩:=hx5.len;have hone5:=hx5.one;have TX:=Lh (hx5.weak (S':=fun b=>N+1≤b∧(Value.slice Al L.length cl).ownBlock≠some b) fun b hb _=>⟨by have:=J.out.sl.lt;omega,fun e=>by have:=(J.out.ow.1.lt b e).2;omega⟩);have T5:=Lh (TX.out.weak (S':=fun b=>(N+1≤b∧(Value.slice Al L.length cl).ownBlock≠some b)∧b<w5.heap.size) (fun b h1 h2=>⟨h1,h2⟩));have J:=Lh (J.out.below b5);clear b5 hx5;dsimp only)
      | (refine Qe rfl (.tmp 10) (.tmp 85) rfl w5.heap.size rfl (Q3 w5) (e:=g.e) (lv:=.slice A5 g.e.l.length c5) (p:=(g.p:Int)) (r:=g.r) rfl hone5 ?_;intro w6 hg6 hs6;have hb5:Below w5.heap.size w5 (w5.alloc (.cells z8 138)):=bAl;have T6:=Lh (((T5.out.under hb5 (fun b hb _=>hb.2)).grown hg6 (by intro b hb _ e;injection e with e;omega)).weak fun b hb _=>hb.1);have N5:¬ w5.heap.size=N:=(fun e=>by have:=J.out.sl.lt;omega);have M6:Hid ((Value.slice Al L.length cl).ownBlock≠some w5.heap.size):=Lh (fun e=>Nat.lt_irrefl _ (J.out.ow.1.lt _ e).2);have J:=Lh (J.out.new hg6);have k5:=J.out.sl.five;have G6:=Lh hs6;obtain ⟨n0,n1,n2,n3,n4,n5,n6,n7⟩:=hs6.six;clear hg6 hs6 hb5)
      | (refine Js rfl (.tmp 10) rfl w5.heap.size rfl G6.out ?_)
      | (refine Qe rfl (.tmp 6) (.tmp 89) rfl (w.heap.size+1) rfl J.out.rw_.ga (e:=g.e) (lv:=.slice A5 g.e.l.length c5) (p:=(g.p:Int)) (r:=g.r) rfl hone5 ?_;intro wz hgz hsz;have HGZ:=Lh hsz;have HBZ:=Lh (Qu J.out.rw_.be hgz (by omega) J.out.rw_.be.size);clear hgz hsz)
      | fail)
     refine Jo (i:=6) (by kernel_rfl) rfl rfl HGZ.out ⟨.slice A5 g.e.l.length c5,?_,?_,HBZ.out⟩
     ·rw [HFE.out,HNU.out hr]
     ·rw [HFE.out,HNU.out hr]
      exact .emp _ _
theorem Qgh(X:Ry)(f d p:Nat)(w:World)(hp:p≤X.L.length)(h:X.In w w.heap.size)(HIDh:X.R.idn p=true)(hdot:X.R.is (p+1) [46]=true)(HID2h:X.R.idn (p+2)=true)(hc:X.R.is (p+3) [40]=false)(hm:∀ i,(X.R.wd i).size≤1000000) :
  CP 100 #[X.val,.int .i64 (p:Int),.int .i64 (d:Int)] w (Yi w (rd X.R (f+1) .nm p d)):=by
 have hz:=Q2
 have hzx:=J8
 have hln:=h.2.len
 have HI:=Lh h
 have HM:=Lh hm
 have z0:=hm p
 have z2:=hm (p+2)
 have H2:=Lh (Qx X w)
 have hdot':((X.R.wd (p+1)).toList==[46])=true:=hdot
 have hlt2:p+2<X.L.length:=(Qo X.T X.L).id_lt HID2h
 have hnm:(X.R.wd p++⟨#[46]⟩++X.R.wd (p+2))=dot (X.R.wd p) (X.R.wd (p+2)):=ByteArray.append_assoc
 have HA:Hid (∀ W,Below w.heap.size w W→CP 51 #[X.val,.int .i64 ((p:Int))] W fun e w'=>e=.returned (.string (X.R.wd (p)))∧Below W.heap.size W w'):=Lh fun W hW=>Qg X (p) W ((HI.out.up hW nLe).more hW.size) (by omega)
 have HA1:Hid (∀ W,Below w.heap.size w W→CP 51 #[X.val,.int .i64 ((p:Int)+1)] W fun e w'=>e=.returned (.string (X.R.wd (p+1)))∧Below W.heap.size W w'):=Lh fun W hW=>Qg X (p+1) W ((HI.out.up hW nLe).more hW.size) (by omega)
 have HA2:Hid (∀ W,Below w.heap.size w W→CP 51 #[X.val,.int .i64 ((p:Int)+1+1)] W fun e w'=>e=.returned (.string (X.R.wd (p+2)))∧Below W.heap.size W w'):=Lh fun W hW=>Qg X (p+2) W ((HI.out.up hW nLe).more hW.size) (by omega)
 have HAK:Hid (∀ W,Below w.heap.size w W→CP 51 #[X.val,.int .i64 ((p:Int)+1+2)] W fun e w'=>e=.returned (.string (X.R.wd (p+3)))∧Below W.heap.size W w'):=Lh fun W hW=>Qg X (p+3) W ((HI.out.up hW nLe).more hW.size) (by omega)
 have HID2:Hid (∀ W,CP 45 #[.string (X.R.wd (p+2))] W fun e w'=>e=.returned (.bool true)∧Below W.heap.size W w'):=Lh fun W=>by
  have:=Q1 (X.R.wd (p+2)) W (HM.out _)
  rwa [show idB (X.R.wd (p+2))=true from HID2h] at this
 have HID:Hid (∀ W,CP 45 #[.string (X.R.wd (p))] W fun e w'=>e=.returned (.bool true)∧Below W.heap.size W w'):=Lh fun W=>by
  have:=Q1 (X.R.wd (p)) W (HM.out _)
  rwa [show idB (X.R.wd (p))=true from HIDh] at this
 have HPO:Hid (∀ W,Below w.heap.size w W→CP 38 #[X.val,.int .i64 (p:Int)] W fun e w'=>e=.returned (.int .i64 (X.R.ps p))∧Below W.heap.size W w'):=Lh fun W hW=>Qz X p W ((HI.out.up hW nLe).more hW.size) (by omega)
 rw [show rd X.R (f+1) .nm p d=good (Qfv (X.R.ps p) (X.R.wd p++⟨#[46]⟩++X.R.wd (p+2))) (p+3) by rw [Qei (y:=(true,dot (X.R.wd p) (X.R.wd (p+2)),p+3)) (by unfold Rw.name;rw [if_neg (by rw [HIDh];decide),if_pos hdot,if_pos HID2h]) rfl,hnm];show (if X.R.is (p+3) [40]=true then _ else _)=_;rw [if_neg (by rw [hc];decide)]]
 have hc':((X.R.wd (p+3)).toList==[40])=false:=hc
 clear hnm
 obtain ⟨W1,hW1⟩:∃ W1,((w.alloc (.cells #[.string X.T,.slice X.A X.L.length X.c] 92)).alloc (.cells z8 138))=W1:=⟨_,rfl⟩
 rw [hW1] at H2
 have HW1:=Lh hW1
 have hs1:=H2.out.sz
 have J:=Lh H2.out.rw
 have k0:=J.out.c0
 have k1:=J.out.c1
 clear hW1 h hm
 go_enter Try.func100,Try.ntmps100
 go_wp2_with (first
  | (go_at_call 51;(try rw [HW1.out]);(with_reducible refine (HA.out _ J.out.be).mono ?_);rintro e wx ⟨rfl,bx⟩;have J:=Lh (J.out.below bx);have k0:=J.out.c0;have k1:=J.out.c1;clear bx;dsimp only)
  | (go_at_call 51;(try rw [HW1.out]);(with_reducible refine (HA1.out _ J.out.be).mono ?_);rintro e wx ⟨rfl,bx⟩;have J:=Lh (J.out.below bx);have k0:=J.out.c0;have k1:=J.out.c1;clear bx;dsimp only)
  | (go_at_call 51;(try rw [HW1.out]);(with_reducible refine (HA2.out _ J.out.be).mono ?_);rintro e wx ⟨rfl,bx⟩;have J:=Lh (J.out.below bx);have k0:=J.out.c0;have k1:=J.out.c1;clear bx;dsimp only)
  | (go_at_call 51;(try rw [HW1.out]);(with_reducible refine (HAK.out _ J.out.be).mono ?_);rintro e wx ⟨rfl,bx⟩;have J:=Lh (J.out.below bx);have k0:=J.out.c0;have k1:=J.out.c1;clear bx;dsimp only)
  | (go_at_call 45;(with_reducible refine (HID.out _).mono ?_);rintro e wx ⟨rfl,bx⟩;have J:=Lh (J.out.below bx);have k0:=J.out.c0;have k1:=J.out.c1;clear bx;dsimp only)
  | (go_at_call 45;(with_reducible refine (HID2.out _).mono ?_);rintro e wx ⟨rfl,bx⟩;have J:=Lh (J.out.below bx);have k0:=J.out.c0;have k1:=J.out.c1;clear bx;dsimp only)
  | (go_at_call 38;(with_reducible refine (HPO.out _ J.out.be).mono ?_);rintro e wx ⟨rfl,bx⟩;have J:=Lh (J.out.below bx);have k0:=J.out.c0;have k1:=J.out.c1;clear bx;dsimp only)
  | (refine Qe rfl (.tmp 6) (.tmp 53) rfl (w.heap.size+1) rfl J.out.ga (e:=Qfv (X.R.ps p) (X.R.wd p++⟨#[46]⟩++X.R.wd (p+2))) (lv:=.slice none 0 0) (p:=(p:Int)+1+2) (r:=0) rfl rfl ?_;intro wz hgz hsz;have HGZ:=Lh hsz;have HBZ:=Lh (Qu J.out.be hgz (by omega) J.out.be.size);clear hgz hsz)
  | fail)
 exact Jo (i:=6) (by kernel_rfl) rfl rfl HGZ.out ⟨.slice none 0 0,rfl,.nil,HBZ.out⟩
theorem Qgi(X:Ry)(f p:Nat)(w:World)(hp:p≤X.L.length)(h:X.In w w.heap.size)(HIDh:X.R.idn p=true)(hdot:X.R.is (p+1) [46]=true)(HID2h:X.R.idn (p+2)=true)(hc:X.R.is (p+3) [40]=true)(hm:∀ i,(X.R.wd i).size≤1000000) :
  CP 100 #[X.val,.int .i64 (p:Int),.int .i64 32] w (Yi w (rd X.R (f+2) .nm p 32)):=by
 have hz:=Q2
 have hzx:=J8
 have hln:=h.2.len
 have HI:=Lh h
 have HM:=Lh hm
 have z0:=hm p
 have z2:=hm (p+2)
 have H2:=Lh (Qx X w)
 have hdot':((X.R.wd (p+1)).toList==[46])=true:=hdot
 have hlt2:p+2<X.L.length:=(Qo X.T X.L).id_lt HID2h
 have hnm:(X.R.wd p++⟨#[46]⟩++X.R.wd (p+2))=dot (X.R.wd p) (X.R.wd (p+2)):=ByteArray.append_assoc
 have HA:Hid (∀ W,Below w.heap.size w W→CP 51 #[X.val,.int .i64 ((p:Int))] W fun e w'=>e=.returned (.string (X.R.wd (p)))∧Below W.heap.size W w'):=Lh fun W hW=>Qg X (p) W ((HI.out.up hW nLe).more hW.size) (by omega)
 have HA1:Hid (∀ W,Below w.heap.size w W→CP 51 #[X.val,.int .i64 ((p:Int)+1)] W fun e w'=>e=.returned (.string (X.R.wd (p+1)))∧Below W.heap.size W w'):=Lh fun W hW=>Qg X (p+1) W ((HI.out.up hW nLe).more hW.size) (by omega)
 have HA2:Hid (∀ W,Below w.heap.size w W→CP 51 #[X.val,.int .i64 ((p:Int)+1+1)] W fun e w'=>e=.returned (.string (X.R.wd (p+2)))∧Below W.heap.size W w'):=Lh fun W hW=>Qg X (p+2) W ((HI.out.up hW nLe).more hW.size) (by omega)
 have HAK:Hid (∀ W,Below w.heap.size w W→CP 51 #[X.val,.int .i64 ((p:Int)+1+2)] W fun e w'=>e=.returned (.string (X.R.wd (p+3)))∧Below W.heap.size W w'):=Lh fun W hW=>Qg X (p+3) W ((HI.out.up hW nLe).more hW.size) (by omega)
 have HID2:Hid (∀ W,CP 45 #[.string (X.R.wd (p+2))] W fun e w'=>e=.returned (.bool true)∧Below W.heap.size W w'):=Lh fun W=>by
  have:=Q1 (X.R.wd (p+2)) W (HM.out _)
  rwa [show idB (X.R.wd (p+2))=true from HID2h] at this
 have HID:Hid (∀ W,CP 45 #[.string (X.R.wd (p))] W fun e w'=>e=.returned (.bool true)∧Below W.heap.size W w'):=Lh fun W=>by
  have:=Q1 (X.R.wd (p)) W (HM.out _)
  rwa [show idB (X.R.wd (p))=true from HIDh] at this
 have HPO:Hid (∀ W,Below w.heap.size w W→CP 38 #[X.val,.int .i64 (p:Int)] W fun e w'=>e=.returned (.int .i64 (X.R.ps p))∧Below W.heap.size W w'):=Lh fun W hW=>Qz X p W ((HI.out.up hW nLe).more hW.size) (by omega)
 rw [show rd X.R (f+2) .nm p 32=bad (p+3) 12 by rw [Qei (y:=(true,dot (X.R.wd p) (X.R.wd (p+2)),p+3)) (by unfold Rw.name;rw [if_neg (by rw [HIDh];decide),if_pos hdot,if_pos HID2h]) (Qdp rfl)];show (if X.R.is (p+3) [40]=true then _ else _)=_;rw [if_pos hc,if_neg (show ¬ (bad (p+3) 12).r=0 from (show ¬ (12:Int)=0 by decide))];rfl]
 have hc':((X.R.wd (p+3)).toList==[40])=true:=hc
 clear hnm
 obtain ⟨W1,hW1⟩:∃ W1,((w.alloc (.cells #[.string X.T,.slice X.A X.L.length X.c] 92)).alloc (.cells z8 138))=W1:=⟨_,rfl⟩
 rw [hW1] at H2
 have HW1:=Lh hW1
 have hs1:=H2.out.sz
 have J:=Lh H2.out.rw
 have k0:=J.out.c0
 have k1:=J.out.c1
 clear hW1 h hm
 go_enter Try.func100,Try.ntmps100
 go_wp2_with (first
  | (go_at_call 51;(try rw [HW1.out]);(with_reducible refine (HA.out _ J.out.be).mono ?_);rintro e wx ⟨rfl,bx⟩;have J:=Lh (J.out.below bx);have k0:=J.out.c0;have k1:=J.out.c1;clear bx;dsimp only)
  | (go_at_call 51;(try rw [HW1.out]);(with_reducible refine (HA1.out _ J.out.be).mono ?_);rintro e wx ⟨rfl,bx⟩;have J:=Lh (J.out.below bx);have k0:=J.out.c0;have k1:=J.out.c1;clear bx;dsimp only)
  | (go_at_call 51;(try rw [HW1.out]);(with_reducible refine (HA2.out _ J.out.be).mono ?_);rintro e wx ⟨rfl,bx⟩;have J:=Lh (J.out.below bx);have k0:=J.out.c0;have k1:=J.out.c1;clear bx;dsimp only)
  | (go_at_call 51;(try rw [HW1.out]);(with_reducible refine (HAK.out _ J.out.be).mono ?_);rintro e wx ⟨rfl,bx⟩;have J:=Lh (J.out.below bx);have k0:=J.out.c0;have k1:=J.out.c1;clear bx;dsimp only)
  | (go_at_call 45;(with_reducible refine (HID.out _).mono ?_);rintro e wx ⟨rfl,bx⟩;have J:=Lh (J.out.below bx);have k0:=J.out.c0;have k1:=J.out.c1;clear bx;dsimp only)
  | (go_at_call 45;(with_reducible refine (HID2.out _).mono ?_);rintro e wx ⟨rfl,bx⟩;have J:=Lh (J.out.below bx);have k0:=J.out.c0;have k1:=J.out.c1;clear bx;dsimp only)
  | (go_at_call 38;(with_reducible refine (HPO.out _ J.out.be).mono ?_);rintro e wx ⟨rfl,bx⟩;have J:=Lh (J.out.below bx);have k0:=J.out.c0;have k1:=J.out.c1;clear bx;dsimp only)
  | (refine Qe rfl (.tmp 6) (.tmp 57) rfl (w.heap.size+1) rfl J.out.ga (e:=Ex.nul) (lv:=.slice none 0 0) (p:=(p:Int)+1+2) (r:=12) rfl rfl ?_;intro wz hgz hsz;have HGZ:=Lh hsz;have HBZ:=Lh (Qu J.out.be hgz (by omega) J.out.be.size);clear hgz hsz)
  | fail)
 exact Jo (i:=6) (by kernel_rfl) rfl rfl HGZ.out ⟨.slice none 0 0,rfl,.nil,HBZ.out⟩
theorem Qgj(X:Ry)(f:Nat)(hE:∀ f'≤f,Qlc X f')(d p:Nat)(w:World)(hd:d≤32)(h32:¬ d=32)(hp:p≤X.L.length)(h:X.In w w.heap.size)(hf16:16*(X.L.length-p)+1≤f+2)(HIDh:X.R.idn p=true)(hdot:X.R.is (p+1) [46]=true)(HID2h:X.R.idn (p+2)=true)(hc:X.R.is (p+3) [40]=true)(hm:∀ i,(X.R.wd i).size≤1000000) :
  CP 100 #[X.val,.int .i64 (p:Int),.int .i64 (d:Int)] w (Yi w (rd X.R (f+2) .nm p d)):=by
 have hz:=Q2
 have hzx:=J8
 have hln:=h.2.len
 have HI:=Lh h
 have HM:=Lh hm
 have z0:=hm p
 have z2:=hm (p+2)
 have H2:=Lh (Qx X w)
 have hdot':((X.R.wd (p+1)).toList==[46])=true:=hdot
 have hlt2:p+2<X.L.length:=(Qo X.T X.L).id_lt HID2h
 have hnm:(X.R.wd p++⟨#[46]⟩++X.R.wd (p+2))=dot (X.R.wd p) (X.R.wd (p+2)):=ByteArray.append_assoc
 have HA:Hid (∀ W,Below w.heap.size w W→CP 51 #[X.val,.int .i64 ((p:Int))] W fun e w'=>e=.returned (.string (X.R.wd (p)))∧Below W.heap.size W w'):=Lh fun W hW=>Qg X (p) W ((HI.out.up hW nLe).more hW.size) (by omega)
 have HA1:Hid (∀ W,Below w.heap.size w W→CP 51 #[X.val,.int .i64 ((p:Int)+1)] W fun e w'=>e=.returned (.string (X.R.wd (p+1)))∧Below W.heap.size W w'):=Lh fun W hW=>Qg X (p+1) W ((HI.out.up hW nLe).more hW.size) (by omega)
 have HA2:Hid (∀ W,Below w.heap.size w W→CP 51 #[X.val,.int .i64 ((p:Int)+1+1)] W fun e w'=>e=.returned (.string (X.R.wd (p+2)))∧Below W.heap.size W w'):=Lh fun W hW=>Qg X (p+2) W ((HI.out.up hW nLe).more hW.size) (by omega)
 have HAK:Hid (∀ W,Below w.heap.size w W→CP 51 #[X.val,.int .i64 ((p:Int)+1+2)] W fun e w'=>e=.returned (.string (X.R.wd (p+3)))∧Below W.heap.size W w'):=Lh fun W hW=>Qg X (p+3) W ((HI.out.up hW nLe).more hW.size) (by omega)
 have HID2:Hid (∀ W,CP 45 #[.string (X.R.wd (p+2))] W fun e w'=>e=.returned (.bool true)∧Below W.heap.size W w'):=Lh fun W=>by
  have:=Q1 (X.R.wd (p+2)) W (HM.out _)
  rwa [show idB (X.R.wd (p+2))=true from HID2h] at this
 have HID:Hid (∀ W,CP 45 #[.string (X.R.wd (p))] W fun e w'=>e=.returned (.bool true)∧Below W.heap.size W w'):=Lh fun W=>by
  have:=Q1 (X.R.wd (p)) W (HM.out _)
  rwa [show idB (X.R.wd (p))=true from HIDh] at this
 have HPO:Hid (∀ W,Below w.heap.size w W→CP 38 #[X.val,.int .i64 (p:Int)] W fun e w'=>e=.returned (.int .i64 (X.R.ps p))∧Below W.heap.size W w'):=Lh fun W hW=>Qz X p W ((HI.out.up hW nLe).more hW.size) (by omega)
 have hlk:p+3<X.L.length:=(Qo X.T X.L).is_lt hc
 have d32:¬ (32:Int)≤(d:Int):=by omega
 have hc':((X.R.wd (p+3)).toList==[40])=true:=hc
 have HEE:=Lh hE
 obtain ⟨Y,hY⟩:∃ Y,rd X.R (f+1) .ar (p+3) d=Y:=⟨_,rfl⟩
 have HY:Hid (anG X.R f (p+4) (d+1) []=Y):=Lh (by
  rw [← hY]
  unfold anG
  rw [if_pos rfl]
  cases h41:X.R.is (p+4) [41] with
  | true=>rw [Qdq h32 h41];rfl
  | false=>rw [Qfy h32 h41];rfl)
 rw [show rd X.R (f+2) .nm p d=if Y.r=0 then hld (Jz (X.R.ps p) (X.R.wd p++⟨#[46]⟩++X.R.wd (p+2)) Y.e.l) Y.p p else bad Y.p Y.r by rw [Qei (y:=(true,dot (X.R.wd p) (X.R.wd (p+2)),p+3)) (by unfold Rw.name;rw [if_neg (by rw [HIDh];decide),if_pos hdot,if_pos HID2h]) hY,hnm];show (if X.R.is (p+3) [40]=true then _ else _)=_;rw [if_pos hc]]
 obtain ⟨F,hF⟩:∃ F:Gt,(if Y.r=0 then hld (Jz (X.R.ps p) (X.R.wd p++⟨#[46]⟩++X.R.wd (p+2)) Y.e.l) Y.p p else bad Y.p Y.r)=F:=⟨_,rfl⟩
 rw [hF]
 have HF:=Lh hF
 clear hF hY hE hnm
 obtain ⟨W1,hW1⟩:∃ W1,((w.alloc (.cells #[.string X.T,.slice X.A X.L.length X.c] 92)).alloc (.cells z8 138))=W1:=⟨_,rfl⟩
 rw [hW1] at H2
 have HW1:=Lh hW1
 have hs1:=H2.out.sz
 have J:=Lh H2.out.rw
 have k0:=J.out.c0
 have k1:=J.out.c1
 clear hW1 h hm
 go_enter Try.func100,Try.ntmps100
 go_wp2_with (first
  | (go_at_call 51;(try rw [HW1.out]);(with_reducible refine (HA.out _ J.out.be).mono ?_);rintro e wx ⟨rfl,bx⟩;have J:=Lh (J.out.below bx);have k0:=J.out.c0;have k1:=J.out.c1;clear bx;dsimp only)
  | (go_at_call 51;(try rw [HW1.out]);(with_reducible refine (HA1.out _ J.out.be).mono ?_);rintro e wx ⟨rfl,bx⟩;have J:=Lh (J.out.below bx);have k0:=J.out.c0;have k1:=J.out.c1;clear bx;dsimp only)
  | (go_at_call 51;(try rw [HW1.out]);(with_reducible refine (HA2.out _ J.out.be).mono ?_);rintro e wx ⟨rfl,bx⟩;have J:=Lh (J.out.below bx);have k0:=J.out.c0;have k1:=J.out.c1;clear bx;dsimp only)
  | (go_at_call 51;(try rw [HW1.out]);(with_reducible refine (HAK.out _ J.out.be).mono ?_);rintro e wx ⟨rfl,bx⟩;have J:=Lh (J.out.below bx);have k0:=J.out.c0;have k1:=J.out.c1;clear bx;dsimp only)
  | (go_at_call 45;(with_reducible refine (HID.out _).mono ?_);rintro e wx ⟨rfl,bx⟩;have J:=Lh (J.out.below bx);have k0:=J.out.c0;have k1:=J.out.c1;clear bx;dsimp only)
  | (go_at_call 45;(with_reducible refine (HID2.out _).mono ?_);rintro e wx ⟨rfl,bx⟩;have J:=Lh (J.out.below bx);have k0:=J.out.c0;have k1:=J.out.c1;clear bx;dsimp only)
  | (go_at_call 38;(with_reducible refine (HPO.out _ J.out.be).mono ?_);rintro e wx ⟨rfl,bx⟩;have J:=Lh (J.out.below bx);have k0:=J.out.c0;have k1:=J.out.c1;clear bx;dsimp only)
  | (refine Qdn rfl (.tmp 9) (.tmp 64) rfl wx.heap.size rfl (Qdo wx) (e:=Jz (X.R.ps p) (X.R.wd p++⟨#[46]⟩++X.R.wd (p+2)) []) (lv:=.slice none 0 0) rfl rfl ?_;intro w3 hg3 hs3;have hbx:Below wx.heap.size wx (wx.alloc (.cells z6 81)):=bAl;have hwx:=J.out.ga.lt;have JN:=Lh (show NmL X w wx.heap.size w3 (Jz (X.R.ps p) (X.R.wd p++⟨#[46]⟩++X.R.wd (p+2)) []) (.slice none 0 0) [] from ⟨(J.out.below hbx).own hg3 (by intro k e;injection e;omega),hs3,Own.nil _ _ _ _ (by have:=hg3.size;simp at this;omega),(fun y hy=>by cases hy),by omega⟩);clear hg3 hs3 hbx)
  | fail)
 obtain ⟨N,hN⟩:∃ N,wx.heap.size=N:=⟨_,rfl⟩
 obtain ⟨nm,hnmv⟩:∃ nm,(X.R.wd p++⟨#[46]⟩++X.R.wd (p+2))=nm:=⟨_,rfl⟩
 rw [hN] at JN ⊢
 rw [hnmv] at JN HF ⊢
 have hNw:w.heap.size+2≤N:=JN.out.kg
 clear k0 k1 J HA HA1 HID HPO H2 HW1 hc' hdot' hN hnmv
 go_loopw [8] (fun kv wr=>∃ (k f':Nat) (lv:Value) (L:List (Ex×Value)),kv=.int .i64 (k:Int)∧NmL X w N wr (Jz (X.R.ps p) nm []) lv L∧k≤X.L.length∧L.length≤k∧f'≤f∧16*(X.L.length-k)+10≤f'∧(∀ y∈L,Fine y.1)∧anG X.R f' k (d+1) (L.map (·.1))=Y) (fun kv _=>X.L.length-(intOf kv).toNat)
 case atStart=>exact ⟨p+4,f,_,[],by go_num,JN.out,by omega,Nat.zero_le _,Nat.le_refl _,by omega,(fun y hy=>by cases hy),HY.out⟩
 case round =>
  obtain ⟨k,f',lv,L,rfl,hJ,hkl,hLk,hf1,hf2,hfine,hY⟩:=hrel
  obtain ⟨Al,cl,rfl⟩:=hJ.ow.form
  have J:=Lh hJ
  have k0:=hJ.rw_.c0
  have k1:=hJ.rw_.c1
  have k5:=hJ.sl.cs 5 _ rfl
  simp only [Nat.zero_add] at k5
  have hNlt:=hJ.sl.lt
  have HFN:=Lh hfine
  have HYY:=Lh hY
  have HAT:Hid (∀ W,Below w.heap.size w W→CP 51 #[X.val,.int .i64 (k:Int)] W fun e w'=>e=.returned (.string (X.R.wd k))∧Below W.heap.size W w'):=Lh fun W hW=>Qg X k W ((HI.out.up hW nLe).more hW.size) (by omega)
  clear JN HY hJ hfine hY
  cases h41:X.R.is k [41] with
  | true =>
   have h41':((X.R.wd k).toList==[41])=true:=h41
   have hkl2:k<X.L.length:=(Qo X.T X.L).is_lt h41
   have HYE:Hid (Y=good (Qc8 (L.map (·.1))) (k+1)):=Lh (by
    rw [← HYY.out]
    unfold anG
    by_cases hL:L.map (·.1)=[]
    ·rw [if_pos hL,if_pos h41,hL]
    ·have h44:X.R.is k [44]=false:=by
      unfold Rw.is at h41 ⊢
      rw [eq_of_beq h41]
      decide
     rw [if_neg hL,if_neg (by rw [h44];decide),if_pos h41])
   have HFE:Hid (hld (Jz (X.R.ps p) nm (L.map (·.1))) (k+1) p=F):=Lh (by
    rw [← HF.out,HYE.out,if_pos (show (good (Qc8 (L.map (·.1))) (k+1)).r=0 from rfl)]
    rfl)
   obtain ⟨s,hs⟩:∃ s,X.R.wd k=s:=⟨_,rfl⟩
   rw [hs] at HAT h41'
   have HWF:Hid ((Jz (X.R.ps p) nm (L.map (·.1))).wfx):=Lh (Qeg (fun x hx=>by obtain ⟨y,hy,rfl⟩:=List.mem_map.1 hx;exact HFN.out y hy) (by rw [List.length_map];omega))
   have hht:hts (L.map (·.1))≤32:=hts_le fun x hx=>by obtain ⟨y,hy,rfl⟩:=List.mem_map.1 hx;exact (HFN.out y hy).2
   have HHT:Hid ((Jz (X.R.ps p) nm (L.map (·.1))).ht≤1000000):=Lh (by rw [Ex.ht_eq];show hts (L.map (·.1))+1≤_;omega)
   have HSX:Hid (∀ W,NmL X w N W (Jz (X.R.ps p) nm []) (.slice Al L.length cl) L→Shx W (fun b=>N+1≤b) (.slice Al L.length cl) (L.map (·.1))):=Lh fun W hJ=>Shx.of_own hJ.ow rfl (fun y hy=>(hJ.tr y hy).weak fun b hb _=>hb.1) (fun b hb _ _=>hb)
   obtain ⟨E5,v5,P5,R5,hx0,he5,hx5⟩:∃ (E5:Ex) (v5:Value) (P5:Nat) (R5:Int),(∀ W,NmL X w N W (Jz (X.R.ps p) nm []) (.slice Al L.length cl) L→CP 82 #[.agg #[.int .i64 3,.int .i64 (X.R.ps p),.int .i64 0,.string nm,.string ⟨#[]⟩,.slice Al L.length cl],.int .i64 ((k:Int)+1),.int .i64 (p:Int)] W fun e w'=>e=.returned (gV E5 v5 (P5:Int) R5)∧Below W.heap.size W w')∧F=⟨E5,P5,R5⟩∧(∀ W,NmL X w N W (Jz (X.R.ps p) nm []) (.slice Al L.length cl) L→Shx W (fun b=>N+1≤b) v5 E5.l):=by
    by_cases hh32:32<(Jz (X.R.ps p) nm (L.map (·.1))).ht
    ·exact ⟨Ex.nul,.slice none 0 0,p,12,fun W hJ=>Kx (Jz (X.R.ps p) nm (L.map (·.1))) _ (k+1) p W _ HWF.out HHT.out (HSX.out W hJ) hh32,by rw [← HFE.out];unfold hld;rw [if_pos hh32];rfl,fun W _=>.nil⟩
    ·exact ⟨Jz (X.R.ps p) nm (L.map (·.1)),.slice Al L.length cl,k+1,0,fun W hJ=>Ky (Jz (X.R.ps p) nm (L.map (·.1))) _ (k+1) p W _ HWF.out HHT.out (HSX.out W hJ) hh32,by rw [← HFE.out];unfold hld;rw [if_neg hh32];rfl,HSX.out⟩
   have HX0:=Lh hx0
   have HX5:=Lh hx5
   have hone5:v5.oneCell'=true:=(hx5 _ J.out).one
   have HE5:=Lh he5
   clear hx0 hx5 he5 hs HFE HYE HWF HHT HSX
   go_wp2_with (first
    | (go_at_call 51;(with_reducible refine (HAT.out _ J.out.rw_.be).mono ?_);rintro e wx ⟨rfl,bx⟩;have J:=Lh (J.out.below bx);have k0:=J.out.rw_.c0;have k1:=J.out.rw_.c1;have k5:=J.out.sl.five;clear bx;dsimp only)
    | (refine Jx rfl (.tmp 9) rfl N 0 rfl J.out.sl.cs ?_)
    | (go_at_call 82;refine (HX0.out _ J.out).mono ?_;rintro e w8 ⟨rfl,b8⟩;have J:=Lh (J.out.below b8);clear b8;dsimp only)
    | (refine Qe rfl (.tmp 6) (.tmp 103) rfl (w.heap.size+1) rfl J.out.rw_.ga (e:=E5) (lv:=v5) (p:=(P5:Int)) (r:=R5) rfl hone5 ?_;intro wz hgz hsz;have HGZ:=Lh hsz;have HBZ:=Lh (Qu J.out.rw_.be hgz (by omega) J.out.rw_.be.size);have TZ:=Lh ((HX5.out _ J.out).grown hgz (by intro b hb _ e;injection e with e;omega));clear hgz hsz)
    | fail)
   refine Jo (i:=6) (by kernel_rfl) rfl rfl HGZ.out ⟨v5,by rw [HE5.out],?_,HBZ.out⟩
   rw [HE5.out]
   exact TZ.out.weak fun b hb _=>by omega
  | false =>
   have h41':((X.R.wd k).toList==[41])=false:=h41
   by_cases hL:L=[]
   ·have hL0:¬ (0:Int)<(L.length:Int):=by rw [hL];decide
    have HAN:Hid (rd X.R f' (.an (L.map (·.1))) k (d+1)=Y):=Lh (by
     rw [← HYY.out]
     unfold anG
     rw [hL,List.map_nil,if_pos rfl,if_neg (by rw [h41];decide)])
    obtain ⟨f'',rfl⟩:∃ f'',f'=f''+1:=⟨f'-1,by omega⟩
    obtain ⟨g,hg⟩:∃ g,rd X.R f'' (.lev 1) k (d+1)=g:=⟨_,rfl⟩
    have hin:=Ko (Qo X.T X.L) f'' (.lev 1) k (d+1) hkl (fun h=>by cases h)
    have hfi:=Kw (Qo X.T X.L) (show X.R.n≤1000000 from hln) f'' (.lev 1) k (d+1) hkl (fun h=>by cases h) trivial
    have hnul:=Qal (R:=X.R) f'' (.lev 1) k (d+1)
    have HEX:Hid (∀ W,Below w.heap.size w W→CP 70 #[X.val,.int .i64 ((k:Int)),.int .i64 1,.int .i64 ((d:Int)+1)] W (Yi W g)):=Lh fun W hW=>by
     rw [← hg]
     exact HEE.out f'' (by omega) 1 (d+1) k W (by omega) (by omega) (by omega) hkl ((HI.out.up hW nLe).more hW.size) (by omega)
    have HAN2:=Lh (Qja (l:=L.map (·.1)) hg)
    rw [HAN.out] at HAN2
    rw [hg] at hin hfi hnul
    have hgp:g.p≤X.L.length:=hin.2.1
    have HIN:=Lh hin
    have HFI:=Lh hfi
    have HNU:=Lh hnul
    obtain ⟨s,hs⟩:∃ s,X.R.wd k=s:=⟨_,rfl⟩
    rw [hs] at HAT h41'
    have JJ0:=J
    clear hin hfi hnul hg hs HAN HYY hL
    by_cases hr:g.r=0
    ·have hr2':(g.r==0)=true:=by simp [hr]
     have hr2'':decide (g.r=0)=true:=by simp [hr]
     have hgt:k<g.p:=HIN.out.2.2 hr rfl
     have hfg:=(HFI.out hr).1
     have HFG:=Lh hfg
     have HY2:Hid (anG X.R f'' g.p (d+1) ((L++[(g.e,Value.slice none 0 0)]).map (·.1))=Y):=Lh (by rw [HAN2.out,if_pos hr,List.map_append];rfl)
     go_wp2_with (first
      | (go_at_call 51;(with_reducible refine (HAT.out _ J.out.rw_.be).mono ?_);rintro e wx ⟨rfl,bx⟩;have J:=Lh (J.out.below bx);have k0:=J.out.rw_.c0;have k1:=J.out.rw_.c1;have k5:=J.out.sl.five;clear bx;dsimp only)
      | (go_at_call 70;(with_reducible refine (HEX.out _ J.out.rw_.be).mono ?_);rintro e w5 ⟨zv,rfl,hx5,b5⟩;obtain ⟨A5,c5,rfl,_⟩:=hx5.len;have hone5:=hx5.one;have TX:=Lh (hx5.weak (S':=fun b=>N+1≤b∧(Value.slice Al L.length cl).ownBlock≠some b) fun b hb _=>⟨by have:=J.out.sl.lt;omega,fun e=>by have:=(J.out.ow.1.lt b e).2;omega⟩);have T5:=Lh (TX.out.weak (S':=fun b=>(N+1≤b∧(Value.slice Al L.length cl).ownBlock≠some b)∧b<w5.heap.size) (fun b h1 h2=>⟨h1,h2⟩));have J:=Lh (J.out.below b5);clear b5 hx5;dsimp only)
      | (refine Qe rfl (.tmp 10) (.tmp 85) rfl w5.heap.size rfl (Q3 w5) (e:=g.e) (lv:=.slice A5 g.e.l.length c5) (p:=(g.p:Int)) (r:=g.r) rfl hone5 ?_;intro w6 hg6 hs6;have hb5:Below w5.heap.size w5 (w5.alloc (.cells z8 138)):=bAl;have T6:=Lh (((T5.out.under hb5 (fun b hb _=>hb.2)).grown hg6 (by intro b hb _ e;injection e with e;omega)).weak fun b hb _=>hb.1);have N5:¬ w5.heap.size=N:=(fun e=>by have:=J.out.sl.lt;omega);have M6:Hid ((Value.slice Al L.length cl).ownBlock≠some w5.heap.size):=Lh (fun e=>Nat.lt_irrefl _ (J.out.ow.1.lt _ e).2);have J:=Lh (J.out.new hg6);have k5:=J.out.sl.five;have G6:=Lh hs6;obtain ⟨n0,n1,n2,n3,n4,n5,n6,n7⟩:=hs6.six;clear hg6 hs6 hb5)
      | (refine Jx rfl (.tmp 92) rfl w5.heap.size 0 rfl (Qi9 G6.out) ?_)
      | (at_builtin;have JJ:=J;refine Yc rfl (.tmp 91) (.tmp 94) 79 rfl rowEx w6 (N+1) (Value.slice Al L.length cl) L.length (xcs L) (exC g.e (.slice A5 g.e.l.length c5)) rfl J.out.ow rfl rfl rfl (Ym g.e hone5) (by omega) (by omega) ?_;intro v7 w7 ho7 hg7 hv7;obtain ⟨A7,c7,rfl⟩:=ho7.form;have hb7:Below w6.heap.size w6 (w6.alloc (.cells (exC g.e (.slice A5 g.e.l.length c5)).toArray 81)):=bAl;have hsl7:Kp w7 N (Jz (X.R.ps p) nm []) (.slice Al L.length cl):=(JJ.out.sl.below hb7 JJ.out.sl.lt).grown hg7 (by intro e;have:=(JJ.out.ow.1.lt _ e.symm).1;omega);have f5:=hsl7.fz 5 (by omega);have z5:=hsl7.five;have G7:=(G6.out.below hb7 G6.out.lt).grown hg7 (by intro e;exact M6.out e.symm);have n6:=((Ub N 5 (.slice A7 (L.length+1) c7) G7 N5).six).2.2.2.2.2.2.1;have J:=Lh (J.out.push T6.out ho7 hg7 hv7);clear ho7 hg7 hv7 hsl7 hb7 G7)
      | fail)
     go_roundw
     case rel =>
      refine ⟨g.p,f'',_,L++[(g.e,.slice A5 g.e.l.length c5)],rfl,J.out,hgp,by simp;omega,by omega,by omega,fun y hy=>?_,?_⟩
      ·rcases List.mem_append.1 hy with hy | hy
       ·exact HFN.out y hy
       ·rw [List.mem_singleton.1 hy];exact HFG.out
      ·have:=HY2.out
       rw [List.map_append] at this ⊢
       exact this
     case measure=>simp [intOf];omega
    ·have hr2':(g.r==0)=false:=by simp [hr]
     have hr2'':decide (g.r=0)=false:=by simp [hr]
     have HFE:Hid (F=⟨Ex.nul,g.p,g.r⟩):=Lh (by
      have h1:=HAN2.out
      rw [if_neg hr] at h1
      rw [← HF.out,h1,if_neg (show ¬ (bad g.p g.r).r=0 from hr)]
      rfl)
     go_wp2_with (first
      | (go_at_call 51;(with_reducible refine (HAT.out _ J.out.rw_.be).mono ?_);rintro e wx ⟨rfl,bx⟩;have J:=Lh (J.out.below bx);have k0:=J.out.rw_.c0;have k1:=J.out.rw_.c1;have k5:=J.out.sl.five;clear bx;dsimp only)
      | (go_at_call 70;(with_reducible refine (HEX.out _ J.out.rw_.be).mono ?_);rintro e w5 ⟨zv,rfl,hx5,b5⟩;obtain ⟨A5,c5,rfl,_⟩:=hx5.len;have hone5:=hx5.one;have TX:=Lh (hx5.weak (S':=fun b=>N+1≤b∧(Value.slice Al L.length cl).ownBlock≠some b) fun b hb _=>⟨by have:=J.out.sl.lt;omega,fun e=>by have:=(J.out.ow.1.lt b e).2;omega⟩);have T5:=Lh (TX.out.weak (S':=fun b=>(N+1≤b∧(Value.slice Al L.length cl).ownBlock≠some b)∧b<w5.heap.size) (fun b h1 h2=>⟨h1,h2⟩));have J:=Lh (J.out.below b5);clear b5 hx5;dsimp only)
      | (refine Qe rfl (.tmp 10) (.tmp 85) rfl w5.heap.size rfl (Q3 w5) (e:=g.e) (lv:=.slice A5 g.e.l.length c5) (p:=(g.p:Int)) (r:=g.r) rfl hone5 ?_;intro w6 hg6 hs6;have hb5:Below w5.heap.size w5 (w5.alloc (.cells z8 138)):=bAl;have T6:=Lh (((T5.out.under hb5 (fun b hb _=>hb.2)).grown hg6 (by intro b hb _ e;injection e with e;omega)).weak fun b hb _=>hb.1);have N5:¬ w5.heap.size=N:=(fun e=>by have:=J.out.sl.lt;omega);have M6:Hid ((Value.slice Al L.length cl).ownBlock≠some w5.heap.size):=Lh (fun e=>Nat.lt_irrefl _ (J.out.ow.1.lt _ e).2);have J:=Lh (J.out.new hg6);have k5:=J.out.sl.five;have G6:=Lh hs6;obtain ⟨n0,n1,n2,n3,n4,n5,n6,n7⟩:=hs6.six;clear hg6 hs6 hb5)
      | (refine Js rfl (.tmp 10) rfl w5.heap.size rfl G6.out ?_)
      | (refine Qe rfl (.tmp 6) (.tmp 89) rfl (w.heap.size+1) rfl J.out.rw_.ga (e:=g.e) (lv:=.slice A5 g.e.l.length c5) (p:=(g.p:Int)) (r:=g.r) rfl hone5 ?_;intro wz hgz hsz;have HGZ:=Lh hsz;have HBZ:=Lh (Qu J.out.rw_.be hgz (by omega) J.out.rw_.be.size);clear hgz hsz)
      | fail)
     refine Jo (i:=6) (by kernel_rfl) rfl rfl HGZ.out ⟨.slice A5 g.e.l.length c5,?_,?_,HBZ.out⟩
     ·rw [HFE.out,HNU.out hr]
     ·rw [HFE.out,HNU.out hr]
      exact .emp _ _
   ·have hL1:0<L.length:=List.length_pos_iff.2 hL
    have hL0:(0:Int)<(L.length:Int):=by omega
    cases h44:X.R.is k [44] with
    | false =>
     have h44':((X.R.wd k).toList==[44])=false:=h44
     have HFE:Hid (F=⟨Ex.nul,k,11⟩):=Lh (by
      have h1:=HYY.out
      unfold anG at h1
      rw [if_neg (by simp [hL]),if_neg (by rw [h44];decide),if_neg (by rw [h41];decide)] at h1
      rw [← HF.out,← h1,if_neg (show ¬ (bad k 11).r=0 from (show ¬ (11:Int)=0 by decide))]
      rfl)
     obtain ⟨s,hs⟩:∃ s,X.R.wd k=s:=⟨_,rfl⟩
     rw [hs] at HAT h41' h44'
     clear hs
     go_wp2_with (first
      | (go_at_call 51;(with_reducible refine (HAT.out _ J.out.rw_.be).mono ?_);rintro e wx ⟨rfl,bx⟩;have J:=Lh (J.out.below bx);have k0:=J.out.rw_.c0;have k1:=J.out.rw_.c1;have k5:=J.out.sl.five;clear bx;dsimp only)
      | (refine Qe rfl (.tmp 6) (.tmp 78) rfl (w.heap.size+1) rfl J.out.rw_.ga (e:=Ex.nul) (lv:=.slice none 0 0) (p:=(k:Int)) (r:=11) rfl rfl ?_;intro wz hgz hsz;have HGZ:=Lh hsz;have HBZ:=Lh (Qu J.out.rw_.be hgz (by omega) J.out.rw_.be.size);clear hgz hsz)
      | fail)
     refine Jo (i:=6) (by kernel_rfl) rfl rfl HGZ.out ⟨.slice none 0 0,by rw [HFE.out],?_,HBZ.out⟩
     rw [HFE.out]
     exact .nil
    | true =>
    have h44':((X.R.wd k).toList==[44])=true:=h44
    have hk44:k+1≤X.L.length:=(Qo X.T X.L).is_lt h44
    have HAN:Hid (rd X.R f' (.an (L.map (·.1))) (k+1) (d+1)=Y):=Lh (by
     rw [← HYY.out]
     unfold anG
     rw [if_neg (by simp [hL]),if_pos h44])
    obtain ⟨f'',rfl⟩:∃ f'',f'=f''+1:=⟨f'-1,by omega⟩
    obtain ⟨g,hg⟩:∃ g,rd X.R f'' (.lev 1) (k+1) (d+1)=g:=⟨_,rfl⟩
    have hin:=Ko (Qo X.T X.L) f'' (.lev 1) (k+1) (d+1) hk44 (fun h=>by cases h)
    have hfi:=Kw (Qo X.T X.L) (show X.R.n≤1000000 from hln) f'' (.lev 1) (k+1) (d+1) hk44 (fun h=>by cases h) trivial
    have hnul:=Qal (R:=X.R) f'' (.lev 1) (k+1) (d+1)
    have HEX:Hid (∀ W,Below w.heap.size w W→CP 70 #[X.val,.int .i64 ((k:Int)+1),.int .i64 1,.int .i64 ((d:Int)+1)] W (Yi W g)):=Lh fun W hW=>by
     rw [← hg]
     exact HEE.out f'' (by omega) 1 (d+1) (k+1) W (by omega) (by omega) (by omega) hk44 ((HI.out.up hW nLe).more hW.size) (by omega)
    have HAN2:=Lh (Qja (l:=L.map (·.1)) hg)
    rw [HAN.out] at HAN2
    rw [hg] at hin hfi hnul
    have hgp:g.p≤X.L.length:=hin.2.1
    have HIN:=Lh hin
    have HFI:=Lh hfi
    have HNU:=Lh hnul
    obtain ⟨s,hs⟩:∃ s,X.R.wd k=s:=⟨_,rfl⟩
    rw [hs] at HAT h41' h44'
    have JJ0:=J
    clear hin hfi hnul hg hs HAN HYY
    by_cases hr:g.r=0
    ·have hr2':(g.r==0)=true:=by simp [hr]
     have hr2'':decide (g.r=0)=true:=by simp [hr]
     have hgt:(k+1)<g.p:=HIN.out.2.2 hr rfl
     have hfg:=(HFI.out hr).1
     have HFG:=Lh hfg
     have HY2:Hid (anG X.R f'' g.p (d+1) ((L++[(g.e,Value.slice none 0 0)]).map (·.1))=Y):=Lh (by rw [HAN2.out,if_pos hr,List.map_append];rfl)
     go_wp2_with (first
      | (go_at_call 51;(with_reducible refine (HAT.out _ J.out.rw_.be).mono ?_);rintro e wx ⟨rfl,bx⟩;have J:=Lh (J.out.below bx);have k0:=J.out.rw_.c0;have k1:=J.out.rw_.c1;have k5:=J.out.sl.five;clear bx;dsimp only)
      | (go_at_call 70;(with_reducible refine (HEX.out _ J.out.rw_.be).mono ?_);rintro e w5 ⟨zv,rfl,hx5,b5⟩;obtain ⟨A5,c5,rfl,_⟩:=hx5.len;have hone5:=hx5.one;have TX:=Lh (hx5.weak (S':=fun b=>N+1≤b∧(Value.slice Al L.length cl).ownBlock≠some b) fun b hb _=>⟨by have:=J.out.sl.lt;omega,fun e=>by have:=(J.out.ow.1.lt b e).2;omega⟩);have T5:=Lh (TX.out.weak (S':=fun b=>(N+1≤b∧(Value.slice Al L.length cl).ownBlock≠some b)∧b<w5.heap.size) (fun b h1 h2=>⟨h1,h2⟩));have J:=Lh (J.out.below b5);clear b5 hx5;dsimp only)
      | (refine Qe rfl (.tmp 10) (.tmp 85) rfl w5.heap.size rfl (Q3 w5) (e:=g.e) (lv:=.slice A5 g.e.l.length c5) (p:=(g.p:Int)) (r:=g.r) rfl hone5 ?_;intro w6 hg6 hs6;have hb5:Below w5.heap.size w5 (w5.alloc (.cells z8 138)):=bAl;have T6:=Lh (((T5.out.under hb5 (fun b hb _=>hb.2)).grown hg6 (by intro b hb _ e;injection e with e;omega)).weak fun b hb _=>hb.1);have N5:¬ w5.heap.size=N:=(fun e=>by have:=J.out.sl.lt;omega);have M6:Hid ((Value.slice Al L.length cl).ownBlock≠some w5.heap.size):=Lh (fun e=>Nat.lt_irrefl _ (J.out.ow.1.lt _ e).2);have J:=Lh (J.out.new hg6);have k5:=J.out.sl.five;have G6:=Lh hs6;obtain ⟨n0,n1,n2,n3,n4,n5,n6,n7⟩:=hs6.six;clear hg6 hs6 hb5)
      | (refine Jx rfl (.tmp 92) rfl w5.heap.size 0 rfl (Qi9 G6.out) ?_)
      | (at_builtin;have JJ:=J;refine Yc rfl (.tmp 91) (.tmp 94) 79 rfl rowEx w6 (N+1) (Value.slice Al L.length cl) L.length (xcs L) (exC g.e (.slice A5 g.e.l.length c5)) rfl J.out.ow rfl rfl rfl (Ym g.e hone5) (by omega) (by omega) ?_;intro v7 w7 ho7 hg7 hv7;obtain ⟨A7,c7,rfl⟩:=ho7.form;have hb7:Below w6.heap.size w6 (w6.alloc (.cells (exC g.e (.slice A5 g.e.l.length c5)).toArray 81)):=bAl;have hsl7:Kp w7 N (Jz (X.R.ps p) nm []) (.slice Al L.length cl):=(JJ.out.sl.below hb7 JJ.out.sl.lt).grown hg7 (by intro e;have:=(JJ.out.ow.1.lt _ e.symm).1;omega);have f5:=hsl7.fz 5 (by omega);have z5:=hsl7.five;have G7:=(G6.out.below hb7 G6.out.lt).grown hg7 (by intro e;exact M6.out e.symm);have n6:=((Ub N 5 (.slice A7 (L.length+1) c7) G7 N5).six).2.2.2.2.2.2.1;have J:=Lh (J.out.push T6.out ho7 hg7 hv7);clear ho7 hg7 hv7 hsl7 hb7 G7)
      | fail)
     go_roundw
     case rel =>
      refine ⟨g.p,f'',_,L++[(g.e,.slice A5 g.e.l.length c5)],rfl,J.out,hgp,by simp;omega,by omega,by omega,fun y hy=>?_,?_⟩
      ·rcases List.mem_append.1 hy with hy | hy
       ·exact HFN.out y hy
       ·rw [List.mem_singleton.1 hy];exact HFG.out
      ·have:=HY2.out
       rw [List.map_append] at this ⊢
       exact this
     case measure=>simp [intOf];omega
    ·have hr2':(g.r==0)=false:=by simp [hr]
     have hr2'':decide (g.r=0)=false:=by simp [hr]
     have HFE:Hid (F=⟨Ex.nul,g.p,g.r⟩):=Lh (by
      have h1:=HAN2.out
      rw [if_neg hr] at h1
      rw [← HF.out,h1,if_neg (show ¬ (bad g.p g.r).r=0 from hr)]
      rfl)
     go_wp2_with (first
      | (go_at_call 51;(with_reducible refine (HAT.out _ J.out.rw_.be).mono ?_);rintro e wx ⟨rfl,bx⟩;have J:=Lh (J.out.below bx);have k0:=J.out.rw_.c0;have k1:=J.out.rw_.c1;have k5:=J.out.sl.five;clear bx;dsimp only)
      | (go_at_call 70;(with_reducible refine (HEX.out _ J.out.rw_.be).mono ?_);rintro e w5 ⟨zv,rfl,hx5,b5⟩;obtain ⟨A5,c5,rfl,_⟩:=hx5.len;have hone5:=hx5.one;have TX:=Lh (hx5.weak (S':=fun b=>N+1≤b∧(Value.slice Al L.length cl).ownBlock≠some b) fun b hb _=>⟨by have:=J.out.sl.lt;omega,fun e=>by have:=(J.out.ow.1.lt b e).2;omega⟩);have T5:=Lh (TX.out.weak (S':=fun b=>(N+1≤b∧(Value.slice Al L.length cl).ownBlock≠some b)∧b<w5.heap.size) (fun b h1 h2=>⟨h1,h2⟩));have J:=Lh (J.out.below b5);clear b5 hx5;dsimp only)
      | (refine Qe rfl (.tmp 10) (.tmp 85) rfl w5.heap.size rfl (Q3 w5) (e:=g.e) (lv:=.slice A5 g.e.l.length c5) (p:=(g.p:Int)) (r:=g.r) rfl hone5 ?_;intro w6 hg6 hs6;have hb5:Below w5.heap.size w5 (w5.alloc (.cells z8 138)):=bAl;have T6:=Lh (((T5.out.under hb5 (fun b hb _=>hb.2)).grown hg6 (by intro b hb _ e;injection e with e;omega)).weak fun b hb _=>hb.1);have N5:¬ w5.heap.size=N:=(fun e=>by have:=J.out.sl.lt;omega);have M6:Hid ((Value.slice Al L.length cl).ownBlock≠some w5.heap.size):=Lh (fun e=>Nat.lt_irrefl _ (J.out.ow.1.lt _ e).2);have J:=Lh (J.out.new hg6);have k5:=J.out.sl.five;have G6:=Lh hs6;obtain ⟨n0,n1,n2,n3,n4,n5,n6,n7⟩:=hs6.six;clear hg6 hs6 hb5)
      | (refine Js rfl (.tmp 10) rfl w5.heap.size rfl G6.out ?_)
      | (refine Qe rfl (.tmp 6) (.tmp 89) rfl (w.heap.size+1) rfl J.out.rw_.ga (e:=g.e) (lv:=.slice A5 g.e.l.length c5) (p:=(g.p:Int)) (r:=g.r) rfl hone5 ?_;intro wz hgz hsz;have HGZ:=Lh hsz;have HBZ:=Lh (Qu J.out.rw_.be hgz (by omega) J.out.rw_.be.size);clear hgz hsz)
      | fail)
     refine Jo (i:=6) (by kernel_rfl) rfl rfl HGZ.out ⟨.slice A5 g.e.l.length c5,?_,?_,HBZ.out⟩
     ·rw [HFE.out,HNU.out hr]
     ·rw [HFE.out,HNU.out hr]
      exact .emp _ _
structure Ry.Fit (X:Ry):Prop where
 sz:∀ i,(X.R.wd i).size≤1000000
 dg:∀ i,X.R.kd i=3→Ql1 (X.R.wd i)
theorem Qez(X:Ry)(hX:X.Fit)(f:Nat)(hE:∀ f'≤f,Qlc X f')(hO:ROpC X f)(hN:RNmC X f):RPrC X (f+1):=by
 intro d p w hd hp h hf
 by_cases hk:X.R.kd p=3
 ·exact Qgd X f d p w hp h hk (hX.dg p hk) (hX.sz p)
 cases ht:((X.R.wd p).toList==[116,114,117,101]) with
 | true=>exact Qev X f d p w hp h hk ht
 | false =>
 cases hfa:((X.R.wd p).toList==[102,97,108,115,101]) with
 | true=>exact Qdb X f d p w hp h hk ht hfa
 | false =>
 cases hb:((X.R.wd p).toList==[40]) with
 | true =>
  have hlt:p<X.L.length:=(Qo X.T X.L).is_lt (show X.R.is p [40]=true from hb)
  obtain ⟨f',rfl⟩:∃ f',f=f'+1:=⟨f-1,by omega⟩
  by_cases h32:d=32
  ·subst h32
   exact Qex X f' p w hp h hk ht hfa hb
  ·exact Qdd X f' (hE f' (by omega)) d p w hd h32 hlt h (by omega) hk ht hfa hb
 | false =>
 cases hdc:((X.R.wd p).toList==[100,101,99,108,97,115,115,105,102,121]) with
 | true =>
  have hlt:p<X.L.length:=(Qo X.T X.L).is_lt (show X.R.is p [100,101,99,108,97,115,115,105,102,121]=true from hdc)
  exact Qew X f hO d p w hd hlt h hf hk ht hfa hb hdc
 | false=>exact Qdc X f hN d p w hd hp h hf hk ht hfa hb hdc
theorem Qkn(X:Ry)(hX:X.Fit)(f:Nat)(hE:∀ f'≤f,Qlc X f'):ROpC X (f+1):=by
 intro d p w hd hp h hf
 obtain ⟨f',rfl⟩:∃ f',f=f'+1:=⟨f-1,by omega⟩
 cases hc:X.R.is (p+1) [40] with
 | false=>exact rOpen_no X f' d p w hp h hc
 | true =>
  by_cases h32:d=32
  ·subst h32
   exact Qkl X f' p w hp h hc
  ·exact Qmn X f' (hE f' (by omega)) d p w hd h32 hp h (by omega) hc hX.sz
theorem Qhx(X:Ry)(hX:X.Fit)(f:Nat)(hE:∀ f'≤f,Qlc X f'):RNmC X (f+1):=by
 intro d p w hd hp h hf
 cases hi:X.R.idn p with
 | false=>exact Qmo X f d p w hp h hi hX.sz
 | true =>
 have hlt:p<X.L.length:=(Qo X.T X.L).id_lt hi
 obtain ⟨f',rfl⟩:∃ f',f=f'+1:=⟨f-1,by omega⟩
 cases hdt:X.R.is (p+1) [46] with
 | false =>
  cases hc:X.R.is (p+1) [40] with
  | false=>exact Qge X (f'+1) d p w hp h hi hdt hc hX.sz
  | true =>
   by_cases h32:d=32
   ·subst h32
    exact Qgf X f' p w hp h hi hdt hc hX.sz
   ·exact Qgg X f' (fun f'' hf''=>hE f'' (by omega)) d p w hd h32 hp h (by omega) hi hdt hc hX.sz
 | true =>
  cases hi2:X.R.idn (p+2) with
  | false=>exact Qkm X (f'+1) d p w hp h hi hdt hi2 hX.sz
  | true =>
   cases hc:X.R.is (p+3) [40] with
   | false=>exact Qgh X (f'+1) d p w hp h hi hdt hi2 hc hX.sz
   | true =>
    by_cases h32:d=32
    ·subst h32
     exact Qgi X f' p w hp h hi hdt hi2 hc hX.sz
    ·exact Qgj X f' (fun f'' hf''=>hE f'' (by omega)) d p w hd h32 hp h (by omega) hi hdt hi2 hc hX.sz
theorem Qko(X:Ry)(f:Nat)(hE:∀ f'≤f,Qlc X f')(hS:RSgC X f):Qlc X (f+1):=by
 intro l d p w h1 h6 hd hp h hf
 by_cases hl:l=6
 ·subst hl
  exact rExpr6 X f hS d p w hd hp h (by omega)
 ·exact rExprL X f hE l d p w h1 (by omega) hd hp h hf
theorem Kz(X:Ry)(hX:X.Fit):∀ f,Qlc X f∧RSgC X f∧RPrC X f∧ROpC X f∧RNmC X f:=by
 intro f
 induction f using Nat.strongRecOn with
 | _ f ih =>
  cases f with
  | zero=>exact ⟨fun l d p w h1 h6 hd hp h hf=>by omega,fun d p w hd hp h hf=>by omega,fun d p w hd hp h hf=>by omega,fun d p w hd hp h hf=>by omega,fun d p w hd hp h hf=>by omega⟩
  | succ f =>
   have hE:∀ f'≤f,Qlc X f':=fun f' h=>(ih f' (by omega)).1
   obtain ⟨h1,h2,h3,h4,h5⟩:=ih f (by omega)
   exact ⟨Qko X f hE h2,Qgc X f h2 h3,Qez X hX f hE h4 h5,Qkn X hX f hE,Qhx X hX f hE⟩
end Go.Proofs.Ytjoclbeoafeebaa
