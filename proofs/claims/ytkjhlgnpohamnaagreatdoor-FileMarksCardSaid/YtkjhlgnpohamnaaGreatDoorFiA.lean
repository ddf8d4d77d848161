import Derived.Test.YtkjhlgnpohamnaaGreatDoorSq
import Derived.Test.YtkjhlgnpohamnaaGreatDoorFiS
import Derived.Test.YtkjhlgnpohamnaaGreatDoorMSb
import Derived.Test.YtkjhlgnpohamnaaGreatDoorStR
import Derived.Test.YtkjhlgnpohamnaaGreatDoorMHd
import Derived.BigQuiet
import Derived.Shelf.Abstract
set_option maxHeartbeats 1600000
namespace Go.Proofs.YtkjhlgnpohamnaaGreatDoor
set_option linter.unusedVariables false
set_option linter.unusedSimpArgs false
open Go.RowKit
theorem MoX.grow {G : Nat} {w w6 : World} {o : Obj} {r : Option Nat} {v v' : MoV} (hg : (w.alloc o).grownBy w6 r) (hr : ∀ b,r = some b → v.rows b) (hv : ∀ b,v'.rows b → v.rows b ∨ b = w.heap.size + 1) :
  ∀ b,MoX G v b → b < w.heap.size → MoX G v' b ∧ b < w6.heap.size ∧ w6.heap[b]? = w.heap[b]?:=fun b hb hlt => by
 have hs:=hg.size
 have hs2 : w.heap.size + 1 ≤ w6.heap.size:=by simpa using hs
 refine ⟨⟨hb.1,fun hm => ?_⟩,by omega,?_⟩
 ·rcases hv b hm with h | h
  ·exact hb.2 h
  ·omega
 ·have hb1:=((Below.refl w.heap.size w).alloc nLe o).block b hlt
  exact (hg.block b (by simp; omega) fun e => hb.2 (hr b e.symm)).trans hb1
section
variable {G : Nat} {w w6 : World} {m : MoT} {v : MoV} {FL : List (FnT × FnV)} {k : Nat} {o : Obj} {v6 : Value}
theorem MoS.push_im (h : MoS G w m v FL k) (x : NmT) (ho : Own w6 (G + 1) 109 2 v6 (m.im.length + 1) (nms m.im ++ nmC x)) (hg : (w.alloc o).grownBy w6 v.im.ownBlock) (hv : v6.ownBlock = v.im.ownBlock ∨ v6.ownBlock = some (w.heap.size + 1)) :
  MoS G w6 { m with im:=m.im ++ [x] } { v with im:=v6 } FL (k + 1):=by
 have hs:=hg.size
 have hs2 : w.heap.size + 1 ≤ w6.heap.size:=by simpa using hs
 have hF : ∀ b,MoX G v b → b < w.heap.size → MoX G { v with im:=v6 } b ∧ b < w6.heap.size ∧ w6.heap[b]? = w.heap[b]?:=MoX.grow hg (fun b hb => .inl hb) (fun b hb => by
  rcases hb with hb | hb | hb | hb | hb
  ·have hb : v6.ownBlock = some b:=hb
   rcases hv with hv | hv
   ·rw [hv] at hb; exact .inl (.inl hb)
   ·rw [hv] at hb; injection hb with hb; exact .inr hb.symm
  ·exact .inl (.inr (.inl hb))
  ·exact .inl (.inr (.inr (.inl hb)))
  ·exact .inl (.inr (.inr (.inr (.inl hb))))
  ·exact .inl (.inr (.inr (.inr (.inr hb)))))
 exact ⟨ho.cast (by simp) (nms_snoc _ _).symm,
  h.la.gbx hg (fun k hk e => Own.apt h.la h.im (by decide) k hk e),
  h.ef.gbx hg (fun k hk e => h.ap k e hk),
  h.va.gbx hg (fun k hk e => Own.apt h.va h.im (by decide) k hk e),
  h.fn.gbx hg (fun k hk e => Own.apt h.fn h.im (by decide) k hk e),
  h.fl,
  fun q hq => (h.fs q hq).keep hF,
  fun k h1 h2 => by
   have h1 : v6.ownBlock = some k:=h1
   rcases hv with hv | hv
   ·rw [hv] at h1; exact h.ap k h1 h2
   ·rw [hv] at h1; injection h1 with h1; have:=(h.ef.1.lt k h2).2; omega,
  by have:=h.li; simp; omega,
  Nat.le_succ_of_le h.ll,
  Nat.le_succ_of_le h.le,
  Nat.le_succ_of_le h.lv,
  Nat.le_succ_of_le h.lf⟩
theorem MoS.push_la (h : MoS G w m v FL k) (x : PrT) (ho : Own w6 (G + 1) 151 3 v6 (m.la.length + 1) (prs m.la ++ prC x)) (hg : (w.alloc o).grownBy w6 v.la.ownBlock) (hv : v6.ownBlock = v.la.ownBlock ∨ v6.ownBlock = some (w.heap.size + 1)) :
  MoS G w6 { m with la:=m.la ++ [x] } { v with la:=v6 } FL (k + 1):=by
 have hs:=hg.size
 have hs2 : w.heap.size + 1 ≤ w6.heap.size:=by simpa using hs
 have hF : ∀ b,MoX G v b → b < w.heap.size → MoX G { v with la:=v6 } b ∧ b < w6.heap.size ∧ w6.heap[b]? = w.heap[b]?:=MoX.grow hg (fun b hb => .inr (.inl hb)) (fun b hb => by
  rcases hb with hb | hb | hb | hb | hb
  ·exact .inl (.inl hb)
  ·have hb : v6.ownBlock = some b:=hb
   rcases hv with hv | hv
   ·rw [hv] at hb; exact .inl (.inr (.inl hb))
   ·rw [hv] at hb; injection hb with hb; exact .inr hb.symm
  ·exact .inl (.inr (.inr (.inl hb)))
  ·exact .inl (.inr (.inr (.inr (.inl hb))))
  ·exact .inl (.inr (.inr (.inr (.inr hb)))))
 exact ⟨h.im.gbx hg (fun k hk e => Own.apt h.im h.la (by decide) k hk e),
  ho.cast (by simp) (prs_snoc _ _).symm,
  h.ef.gbx hg (fun k hk e => Own.apt h.ef h.la (by decide) k hk e),
  h.va.gbx hg (fun k hk e => Own.apt h.va h.la (by decide) k hk e),
  h.fn.gbx hg (fun k hk e => Own.apt h.fn h.la (by decide) k hk e),
  h.fl,
  fun q hq => (h.fs q hq).keep hF,
  h.ap,
  Nat.le_succ_of_le h.li,
  by have:=h.ll; simp; omega,
  Nat.le_succ_of_le h.le,
  Nat.le_succ_of_le h.lv,
  Nat.le_succ_of_le h.lf⟩
theorem MoS.push_ef (h : MoS G w m v FL k) (x : NmT) (ho : Own w6 (G + 1) 109 2 v6 (m.ef.length + 1) (nms m.ef ++ nmC x)) (hg : (w.alloc o).grownBy w6 v.ef.ownBlock) (hv : v6.ownBlock = v.ef.ownBlock ∨ v6.ownBlock = some (w.heap.size + 1)) :
  MoS G w6 { m with ef:=m.ef ++ [x] } { v with ef:=v6 } FL (k + 1):=by
 have hs:=hg.size
 have hs2 : w.heap.size + 1 ≤ w6.heap.size:=by simpa using hs
 have hF : ∀ b,MoX G v b → b < w.heap.size → MoX G { v with ef:=v6 } b ∧ b < w6.heap.size ∧ w6.heap[b]? = w.heap[b]?:=MoX.grow hg (fun b hb => .inr (.inr (.inl hb))) (fun b hb => by
  rcases hb with hb | hb | hb | hb | hb
  ·exact .inl (.inl hb)
  ·exact .inl (.inr (.inl hb))
  ·have hb : v6.ownBlock = some b:=hb
   rcases hv with hv | hv
   ·rw [hv] at hb; exact .inl (.inr (.inr (.inl hb)))
   ·rw [hv] at hb; injection hb with hb; exact .inr hb.symm
  ·exact .inl (.inr (.inr (.inr (.inl hb))))
  ·exact .inl (.inr (.inr (.inr (.inr hb)))))
 exact ⟨h.im.gbx hg (fun k hk e => h.ap k hk e),
  h.la.gbx hg (fun k hk e => Own.apt h.la h.ef (by decide) k hk e),
  ho.cast (by simp) (nms_snoc _ _).symm,
  h.va.gbx hg (fun k hk e => Own.apt h.va h.ef (by decide) k hk e),
  h.fn.gbx hg (fun k hk e => Own.apt h.fn h.ef (by decide) k hk e),
  h.fl,
  fun q hq => (h.fs q hq).keep hF,
  fun k h1 h2 => by
   have h2 : v6.ownBlock = some k:=h2
   rcases hv with hv | hv
   ·rw [hv] at h2; exact h.ap k h1 h2
   ·rw [hv] at h2; injection h2 with h2; have:=(h.im.1.lt k h1).2; omega,
  Nat.le_succ_of_le h.li,
  Nat.le_succ_of_le h.ll,
  by have:=h.le; simp; omega,
  Nat.le_succ_of_le h.lv,
  Nat.le_succ_of_le h.lf⟩
theorem MoS.push_va (h : MoS G w m v FL k) (x : VrT) (ho : Own w6 (G + 1) 71 8 v6 (m.va.length + 1) (vrs m.va ++ vrC x)) (hg : (w.alloc o).grownBy w6 v.va.ownBlock) (hv : v6.ownBlock = v.va.ownBlock ∨ v6.ownBlock = some (w.heap.size + 1)) :
  MoS G w6 { m with va:=m.va ++ [x] } { v with va:=v6 } FL (k + 1):=by
 have hs:=hg.size
 have hs2 : w.heap.size + 1 ≤ w6.heap.size:=by simpa using hs
 have hF : ∀ b,MoX G v b → b < w.heap.size → MoX G { v with va:=v6 } b ∧ b < w6.heap.size ∧ w6.heap[b]? = w.heap[b]?:=MoX.grow hg (fun b hb => .inr (.inr (.inr (.inl hb)))) (fun b hb => by
  rcases hb with hb | hb | hb | hb | hb
  ·exact .inl (.inl hb)
  ·exact .inl (.inr (.inl hb))
  ·exact .inl (.inr (.inr (.inl hb)))
  ·have hb : v6.ownBlock = some b:=hb
   rcases hv with hv | hv
   ·rw [hv] at hb; exact .inl (.inr (.inr (.inr (.inl hb))))
   ·rw [hv] at hb; injection hb with hb; exact .inr hb.symm
  ·exact .inl (.inr (.inr (.inr (.inr hb)))))
 exact ⟨h.im.gbx hg (fun k hk e => Own.apt h.im h.va (by decide) k hk e),
  h.la.gbx hg (fun k hk e => Own.apt h.la h.va (by decide) k hk e),
  h.ef.gbx hg (fun k hk e => Own.apt h.ef h.va (by decide) k hk e),
  ho.cast (by simp) (vrs_snoc _ _).symm,
  h.fn.gbx hg (fun k hk e => Own.apt h.fn h.va (by decide) k hk e),
  h.fl,
  fun q hq => (h.fs q hq).keep hF,
  h.ap,
  Nat.le_succ_of_le h.li,
  Nat.le_succ_of_le h.ll,
  Nat.le_succ_of_le h.le,
  by have:=h.lv; simp; omega,
  Nat.le_succ_of_le h.lf⟩
theorem MoS.push_fn (h : MoS G w m v FL k) (x : FnT × FnV) (hx : FnS w (MoX G v) x.1 x.2) (ho : Own w6 (G + 1) 79 18 v6 (FL.length + 1) (fns FL ++ fnC x.1 x.2)) (hg : (w.alloc o).grownBy w6 v.fn.ownBlock) (hv : v6.ownBlock = v.fn.ownBlock ∨ v6.ownBlock = some (w.heap.size + 1)) :
  MoS G w6 { m with fn:=m.fn ++ [x.1] } { v with fn:=v6 } (FL ++ [x]) (k + 1):=by
 have hs:=hg.size
 have hs2 : w.heap.size + 1 ≤ w6.heap.size:=by simpa using hs
 have hF : ∀ b,MoX G v b → b < w.heap.size → MoX G { v with fn:=v6 } b ∧ b < w6.heap.size ∧ w6.heap[b]? = w.heap[b]?:=MoX.grow hg (fun b hb => .inr (.inr (.inr (.inr hb)))) (fun b hb => by
  rcases hb with hb | hb | hb | hb | hb
  ·exact .inl (.inl hb)
  ·exact .inl (.inr (.inl hb))
  ·exact .inl (.inr (.inr (.inl hb)))
  ·exact .inl (.inr (.inr (.inr (.inl hb))))
  ·have hb : v6.ownBlock = some b:=hb
   rcases hv with hv | hv
   ·rw [hv] at hb; exact .inl (.inr (.inr (.inr (.inr hb))))
   ·rw [hv] at hb; injection hb with hb; exact .inr hb.symm)
 exact ⟨h.im.gbx hg (fun k hk e => Own.apt h.im h.fn (by decide) k hk e),
  h.la.gbx hg (fun k hk e => Own.apt h.la h.fn (by decide) k hk e),
  h.ef.gbx hg (fun k hk e => Own.apt h.ef h.fn (by decide) k hk e),
  h.va.gbx hg (fun k hk e => Own.apt h.va h.fn (by decide) k hk e),
  ho.cast (by simp) (fns_snoc _ _).symm,
  by simp [h.fl],
  fun q hq => by
   rcases List.mem_append.1 hq with hq | hq
   ·exact (h.fs q hq).keep hF
   ·rw [List.mem_singleton.1 hq]; exact hx.keep hF,
  h.ap,
  Nat.le_succ_of_le h.li,
  Nat.le_succ_of_le h.ll,
  Nat.le_succ_of_le h.le,
  Nat.le_succ_of_le h.lv,
  by have:=h.lf; simp; omega⟩
end
theorem zeroNm (w : World) : (zeroValue 109).run Tryz.prog w = .ok (.agg #[.string ⟨#[]⟩,.int .i64 0]) w:=by kernel_rfl
theorem tkW0 (R : Rw) (p : Nat) (l : List UInt8) : tkW R (p,0) l = R.is p l:=by unfold tkW; rw [if_pos rfl]
theorem tkW1 (R : Rw) (p : Nat) {r : Int} (hr : ¬ r = 0) (l : List UInt8) : tkW R (p,r) l = false:=by unfold tkW; rw [if_neg hr]
set_option maxRecDepth 10000 in
theorem ftakeL (C : Cx) (hC : TokOk C.T C.L) (G : Nat) (hl he : Bool) (v : MoV) (x : Nat × Int) (w : World) (h : Frd C G hl he v w x) (s : ByteArray) (hs : s.size ≠ 0) :
  CP 92 #[.pointer (some ⟨G,0,none⟩),.string s] w (FGo C G hl he v (.bool (tkW C.R x s.toList)) (tkX x (tkW C.R x s.toList)) w):=by
 obtain ⟨p,r⟩:=x
 have H:=Lh h
 have c0:=h.c0
 have c8:=h.c8
 dsimp only at c8
 by_cases hr : r = 0
 ·subst hr
  have HT:=Lh (takeL C hC p w h.cur s hs)
  rw [tkW0]
  obtain ⟨b,hb⟩ : ∃ b,C.R.is p s.toList = b:=⟨_,rfl⟩
  rw [hb] at HT ⊢
  clear h hb
  go_enter Tryz.func92,Tryz.ntmps92
  go_wp2_with (first
   | (go_at_call 119; refine HT.out.mono ?_; rintro e w2 ⟨rfl,hc2,hg2,_⟩; have HR2:=Lh (H.out.gone hc2 hg2); have HG2:=Lh (Tn.cur (G:=G) hg2); clear hc2 hg2; dsimp only)
   | fail)
  go_ret
  exact ⟨rfl,by cases b <;> exact HR2.out,HG2.out⟩
 ·have hr1 : (r == 0) = false:=by simp [hr]
  have hr2 : decide (r = 0) = false:=by simp [hr]
  rw [tkW1 _ _ hr]
  clear h
  go_enter Tryz.func92,Tryz.ntmps92
  go_wp2_with fail
  go_ret
  exact ⟨rfl,H.out,Tn.refl _ _⟩
theorem ftakeW (C : Cx) (hC : TokOk C.T C.L) (G : Nat) (hl he : Bool) (v : MoV) (x : Nat × Int) (w : World) (h : Frd C G hl he v w x) (c : UInt8) (t : List UInt8) :
  CP 92 #[.pointer (some ⟨G,0,none⟩),.string ⟨(c :: t).toArray⟩] w (FGo C G hl he v (.bool (tkW C.R x (c :: t))) (tkX x (tkW C.R x (c :: t))) w):=by
 have:=ftakeL C hC G hl he v x w h ⟨(c :: t).toArray⟩ (by show (c :: t).toArray.size ≠ 0; simp)
 rwa [wd1] at this
set_option maxRecDepth 10000 in
theorem fmustS (C : Cx) (hC : TokOk C.T C.L) (G : Nat) (hl he : Bool) (v : MoV) (x : Nat × Int) (w : World) (h : Frd C G hl he v w x) (ss : List ByteArray) (hss : ∀ s ∈ ss,s.size ≠ 0) (A : Option Addr) (n c : Nat) (hsh : Sh w w.heap.size A n (ss.map Value.string)) (hn : n ≤ 1000) (hA : ∀ b off,A = some ⟨b,off,none⟩ → b ≠ C.g ∧ b ≠ G) :
  CP 57 #[.pointer (some ⟨G,0,none⟩),.slice A n c] w (FGo C G hl he v none0 (mu C.R x ss) w):=by
 have hln : ss.length = n:=by have:=hsh.len; simpa using this
 have HL:=Lh hln
 have HSS:=Lh hss
 have HSH:=Lh hsh
 have H:=Lh h
 have HA:=Lh hA
 obtain ⟨X,hX⟩ : ∃ X,mu C.R x ss = X:=⟨_,rfl⟩
 rw [hX]
 have HX:=Lh hX
 clear hln hss hsh h hA hX
 go_enter Tryz.func57,Tryz.ntmps57
 go_wp2
 go_loopw [8] (fun iv wr => ∃ (k : Nat) (y : Nat × Int),iv = .int .i64 (k : Int) ∧ k ≤ n ∧ Frd C G hl he v wr y ∧ Tn (Rdr.M C G) w wr ∧ mu C.R y (ss.drop k) = X) (fun iv _ => n - (intOf iv).toNat)
 case atStart => exact ⟨0,x,rfl,Nat.zero_le _,H.out,Tn.refl _ _,HX.out⟩
 case round =>
  obtain ⟨k,y,rfl,hk,hcur,hg,hm⟩:=hrel
  obtain ⟨q,r⟩:=y
  have HC:=Lh hcur
  have HG:=Lh hg
  have HM:=Lh hm
  clear hcur hg hm
  by_cases hkn : k < n
  ·have hs1 : Sh wr w.heap.size A n (ss.map Value.string):=by
    refine ⟨HSH.out.1,fun hn => ?_⟩
    obtain ⟨b,off,e,hb,hc⟩:=HSH.out.2 hn
    exact ⟨b,off,e,hb,fun k u hu => (HG.out.cell hb (fun hm => by have:=HA.out b off e; rcases hm with h | h <;> simp_all)).trans (hc k u hu)⟩
   obtain ⟨b,off,u,hAe,hb,hu,hcell⟩:=hs1.at hkn
   rw [List.getElem?_map] at hu
   obtain ⟨s,hs,rfl⟩:=Option.map_eq_some_iff.1 hu
   have hsz:=HSS.out s (List.mem_of_getElem? hs)
   have hd : ss.drop k = s :: ss.drop (k + 1):=by
    have hlt : k < ss.length:=(List.getElem?_eq_some_iff.1 hs).1
    rw [List.drop_eq_getElem_cons hlt]
    congr 1
    exact (List.getElem?_eq_some_iff.1 hs).2
   have HM2:=Lh (by have:=HM.out; rwa [hd] at this : mu C.R (q,r) (s :: ss.drop (k + 1)) = X)
   have HT:=Lh (ftakeL C hC G hl he v (q,r) wr HC.out s hsz)
   clear hs1 hu hs hd
   subst hAe
   by_cases hr : r = 0
   ·subst hr
    rw [tkW0] at HT
    cases hq : C.R.is q s.toList with
    | true =>
     rw [hq] at HT
     have HM3 : Hid (mu C.R (q + 1,0) (ss.drop (k + 1)) = X):=Lh (by rw [← mu_yes _ _ _ _ hq]; exact HM2.out)
     go_wp2_with (first
      | (go_at_call 92; refine HT.out.mono ?_; rintro e w2 ⟨rfl,hr2,hg2⟩; have HR2:=Lh (show Frd C G hl he v w2 (q + 1,0) from hr2); have HG2:=Lh (HG.out.trans hg2); clear hr2 hg2; dsimp only)
      | fail)
     go_roundw
     case rel => exact ⟨k + 1,(q + 1,0),by go_num,hkn,HR2.out,HG2.out,HM3.out⟩
     case measure => simp [intOf]; omega
    | false =>
     rw [hq] at HT
     have HM3 : Hid (mu C.R (q,11) (ss.drop (k + 1)) = X):=Lh (by rw [← mu_no _ _ _ _ hq]; exact HM2.out)
     go_wp2_with (first
      | (go_at_call 92; refine HT.out.mono ?_; rintro e w2 ⟨rfl,hr2,hg2⟩; have HR2:=Lh (show Frd C G hl he v w2 (q,0) from hr2); have HG2:=Lh (HG.out.trans hg2); clear hr2 hg2; have k8:=HR2.out.c8; have f8:=HR2.out.fz 8 (by omega); dsimp only)
      | fail)
     go_roundw
     case rel => exact ⟨k + 1,(q,11),by go_num,hkn,HR2.out.err 11,HG2.out.trans (Tn.set _ _ _ _ (.inr rfl)),HM3.out⟩
     case measure => simp [intOf]; omega
   ·have hr1 : (r == 0) = false:=by simp [hr]
    have hr2 : decide (r = 0) = false:=by simp [hr]
    rw [tkW1 _ _ hr] at HT
    have HM3 : Hid (mu C.R (q,r) (ss.drop (k + 1)) = X):=Lh (by rw [← mu_bad _ _ s _ hr]; exact HM2.out)
    go_wp2_with (first
     | (go_at_call 92; refine HT.out.mono ?_; rintro e w2 ⟨rfl,hr2,hg2⟩; have HR2:=Lh (show Frd C G hl he v w2 (q,r) from hr2); have HG2:=Lh (HG.out.trans hg2); clear hr2 hg2; have k8 : w2.cell? ⟨G,8,none⟩ = some (.int .i64 r):=HR2.out.c8; dsimp only)
     | fail)
    go_roundw
    case rel => exact ⟨k + 1,(q,r),by go_num,hkn,HR2.out,HG2.out,HM3.out⟩
    case measure => simp [intOf]; omega
  ·obtain rfl : k = n:=by omega
   have HM3 : Hid ((q,r) = X):=Lh (by
    have:=HM.out
    rwa [List.drop_of_length_le (by rw [HL.out]; exact Nat.le_refl _),mu_nil] at this)
   go_wp2
   refine bodyPost_ret (results_none rfl _ _ _) rfl ?_
   rw [← HM3.out]
   exact ⟨rfl,HC.out,HG.out⟩
theorem fmust1 (C : Cx) (hC : TokOk C.T C.L) (G : Nat) (hl he : Bool) (v : MoV) (x : Nat × Int) (w : World) (h : Frd C G hl he v w x) (s : ByteArray) (hs : s.size ≠ 0) :
  CP 57 #[.pointer (some ⟨G,0,none⟩),.slice (some ⟨w.heap.size,0,none⟩) 1 1] (w.alloc (.cells #[.string s] 9)) (FGo C G hl he v none0 (mu C.R x [s]) w):=by
 have hb : Below w.heap.size w (w.alloc (.cells #[.string s] 9)):=bAl
 have hlt:=h.v.lt
 have hg:=h.gt
 refine (fmustS C hC G hl he v x _ (h.under hb) [s] (fun t ht => by obtain rfl : t = s:=(by simpa using ht); exact hs) _ 1 1 ?_ (by omega) (fun b off e => by cases e; omega)).mono fun e w' hh => ⟨hh.1,hh.2.1,(Tn.of_below _ hb).trans hh.2.2⟩
 have:=Sh.lit w [.string s] 9
 simpa using this
theorem fmust2 (C : Cx) (hC : TokOk C.T C.L) (G : Nat) (hl he : Bool) (v : MoV) (x : Nat × Int) (w : World) (h : Frd C G hl he v w x) (s t : ByteArray) (hs : s.size ≠ 0) (ht : t.size ≠ 0) :
  CP 57 #[.pointer (some ⟨G,0,none⟩),.slice (some ⟨w.heap.size,0,none⟩) 2 2] (w.alloc (.cells #[.string s,.string t] 9)) (FGo C G hl he v none0 (mu C.R x [s,t]) w):=by
 have hb : Below w.heap.size w (w.alloc (.cells #[.string s,.string t] 9)):=bAl
 have hlt:=h.v.lt
 have hg:=h.gt
 refine (fmustS C hC G hl he v x _ (h.under hb) [s,t] (fun u hu => by
  rcases List.mem_cons.1 hu with rfl | hu
  ·exact hs
  ·obtain rfl : u = t:=by simpa using hu
   exact ht) _ 2 2 ?_ (by omega) (fun b off e => by cases e; omega)).mono fun e w' hh => ⟨hh.1,hh.2.1,(Tn.of_below _ hb).trans hh.2.2⟩
 have:=Sh.lit w [.string s,.string t] 9
 simpa using this
set_option maxRecDepth 10000 in
theorem ffirst (C : Cx) (G : Nat) (hl he : Bool) (v : MoV) (x : Nat × Int) (w : World) (h : Frd C G hl he v w x) (b : Bool) :
  CP 59 #[.pointer (some ⟨G,0,none⟩),.pointer (some ⟨G,if b = true then 2 else 4,none⟩)] w (FGo C G (if b = true then true else hl) (if b = true then he else true) v none0 (if (if b = true then hl else he) = true then (x.1,11) else x) w):=by
 have H:=Lh h
 have c2:=h.c2
 have c4:=h.c4
 have c8:=h.c8
 have f2:=h.fz 2 (by omega)
 have f4:=h.fz 4 (by omega)
 have f8:=h.fz 8 (by omega)
 have hs : ∀ (W : World) (y : Nat × Int),Frd C G hl he v W y → Tn (Rdr.M C G) w W → Frd C G true he v (W.setCell ⟨G,2,none⟩ (.bool true)) y ∧ Tn (Rdr.M C G) w (W.setCell ⟨G,2,none⟩ (.bool true)):=fun W y hW ht =>
  ⟨⟨hW.cur.turn (Tn.set (M:=fun k => k = G) W G 2 _ rfl) (fun k hk e => by have:=hW.gt; omega),hW.v.set 2 (.bool true) (by show 2 < 9; omega),hW.gt⟩,ht.trans (Tn.set _ _ _ _ (.inr rfl))⟩
 have hs4 : ∀ (W : World) (y : Nat × Int),Frd C G hl he v W y → Tn (Rdr.M C G) w W → Frd C G hl true v (W.setCell ⟨G,4,none⟩ (.bool true)) y ∧ Tn (Rdr.M C G) w (W.setCell ⟨G,4,none⟩ (.bool true)):=fun W y hW ht =>
  ⟨⟨hW.cur.turn (Tn.set (M:=fun k => k = G) W G 4 _ rfl) (fun k hk e => by have:=hW.gt; omega),hW.v.set 4 (.bool true) (by show 4 < 9; omega),hW.gt⟩,ht.trans (Tn.set _ _ _ _ (.inr rfl))⟩
 have HS2:=Lh hs
 have HS4:=Lh hs4
 clear h hs hs4
 cases b with
 | true =>
  simp only [if_true]
  cases hl with
  | true =>
   go_enter Tryz.func59,Tryz.ntmps59
   go_wp2
   refine bodyPost_ret (results_none rfl _ _ _) rfl ?_
   have:=HS2.out _ _ (H.out.err 11) (Tn.set _ _ _ _ (.inr rfl))
   exact ⟨rfl,this.1,this.2⟩
  | false =>
   go_enter Tryz.func59,Tryz.ntmps59
   go_wp2
   refine bodyPost_ret (results_none rfl _ _ _) rfl ?_
   have:=HS2.out _ _ H.out (Tn.refl _ _)
   exact ⟨rfl,this.1,this.2⟩
 | false =>
  simp only [Bool.false_eq_true,if_false]
  cases he with
  | true =>
   go_enter Tryz.func59,Tryz.ntmps59
   go_wp2
   refine bodyPost_ret (results_none rfl _ _ _) rfl ?_
   have:=HS4.out _ _ (H.out.err 11) (Tn.set _ _ _ _ (.inr rfl))
   exact ⟨rfl,this.1,this.2⟩
  | false =>
   go_enter Tryz.func59,Tryz.ntmps59
   go_wp2
   refine bodyPost_ret (results_none rfl _ _ _) rfl ?_
   have:=HS4.out _ _ H.out (Tn.refl _ _)
   exact ⟨rfl,this.1,this.2⟩
set_option maxRecDepth 10000 in
theorem fname (C : Cx) (hC : TokOk C.T C.L) (G : Nat) (hl he : Bool) (v : MoV) (x : Nat × Int) (w : World) (h : Frd C G hl he v w x) :
  CP 58 #[.pointer (some ⟨G,0,none⟩)] w (FGo C G hl he v (nmV (fnm C.R x).1) (fnm C.R x).2 w):=by
 obtain ⟨p,r⟩:=x
 have hz:=zeroNm
 have hGw:=h.v.lt
 have hgt:=h.gt
 have J : Hid (Frd C G hl he v (w.alloc (.cells #[.string ⟨#[]⟩,.int .i64 0] 109)) (p,r)):=Lh (h.new _)
 have JT : Hid (Tn (Rdr.M C G) w (w.alloc (.cells #[.string ⟨#[]⟩,.int .i64 0] 109))):=Lh (Tn.alloc _ _ _)
 have JV : Hid (Var (w.alloc (.cells #[.string ⟨#[]⟩,.int .i64 0] 109)) w.heap.size (nmC NmT.nul)):=Lh (Var.new w (nmC NmT.nul) 109 rfl)
 have c0:=J.out.c0
 have HPO : Hid (∀ W,Cur C W p → CP 32 #[C.ptr] W fun e w' => e = .returned (.int .i64 (C.R.ps p)) ∧ Below W.heap.size W w'):=Lh fun W hW => pos_any C hC p W hW
 clear h
 by_cases hr : r = 0
 ·subst hr
  cases hi : C.R.idn p with
  | true =>
   have HX : Hid (fnm C.R (p,0) = (⟨C.R.wd p,C.R.ps p⟩,(p + 1,0))):=Lh (by unfold fnm; rw [if_pos rfl,if_pos hi])
   have HI : Hid (∀ W,Cur C W p → CP 93 #[C.ptr] W fun e w' => e = .returned (.tuple #[.string (C.R.wd p),.bool true]) ∧ Cur C w' (p + 1) ∧ W.grownBy w' (some C.g)):=Lh fun W hW => (identC_any C hC p W hW).mono fun e w' hh => by simpa [IdTo,hi] using hh
   go_enter Tryz.func58,Tryz.ntmps58
   go_wp2_with (first
    | (go_at_call 32; (with_reducible refine (HPO.out _ J.out.cur).mono ?_); rintro e w2 ⟨rfl,b2⟩; have JT:=Lh (JT.out.trans (Tn.of_below _ b2)); have JV:=Lh (JV.out.under b2); have J:=Lh (J.out.under b2); clear b2; have k0:=J.out.c0; have k8:=J.out.c8; have f8:=J.out.fz 8 (by omega); dsimp only at k8 ⊢)
    | (go_at_call 93; (with_reducible refine (HI.out _ J.out.cur).mono ?_); rintro e w3 ⟨rfl,hc,hg⟩; have JT:=Lh (JT.out.trans (Tn.cur (G:=G) hg)); have JV:=Lh (JV.out.gbn hg (by omega)); have J:=Lh (J.out.gone hc hg); clear hc hg; have k0:=J.out.c0; have k8:=J.out.c8; have f8:=J.out.fz 8 (by omega); dsimp only at k8 ⊢)
    | (refine wpList_stV rfl 109 _ _ rfl (G:=w.heap.size) rfl (us:=nmC ⟨C.R.wd p,C.R.ps p⟩) JV.out rfl info_nm (Nat.le_refl 2) (nmC_one _) ?_; intro w4 ht hs; have JT:=Lh (JT.out.own ht nLe); have J:=Lh (J.out.own ht hGw); have JV:=Lh (show Var w4 w.heap.size (nmC ⟨C.R.wd p,C.R.ps p⟩) from hs); clear ht hs)
    | fail)
   rw [HX.out]
   exact v_ret 109 rfl rfl rfl JV.out Tryz.underlying109 rfl info_nm ⟨rfl,J.out,JT.out⟩
  | false =>
   have HX : Hid (fnm C.R (p,0) = (NmT.nul,(p,11))):=Lh (by unfold fnm; rw [if_pos rfl,if_neg (by rw [hi]; decide)])
   have HI : Hid (∀ W,Cur C W p → CP 93 #[C.ptr] W fun e w' => e = .returned (.tuple #[.string ⟨#[]⟩,.bool false]) ∧ Cur C w' p ∧ W.grownBy w' (some C.g)):=Lh fun W hW => (identC_any C hC p W hW).mono fun e w' hh => by simpa [IdTo,hi] using hh
   go_enter Tryz.func58,Tryz.ntmps58
   go_wp2_with (first
    | (go_at_call 32; (with_reducible refine (HPO.out _ J.out.cur).mono ?_); rintro e w2 ⟨rfl,b2⟩; have JT:=Lh (JT.out.trans (Tn.of_below _ b2)); have JV:=Lh (JV.out.under b2); have J:=Lh (J.out.under b2); clear b2; have k0:=J.out.c0; have k8:=J.out.c8; have f8:=J.out.fz 8 (by omega); dsimp only at k8 ⊢)
    | (go_at_call 93; (with_reducible refine (HI.out _ J.out.cur).mono ?_); rintro e w3 ⟨rfl,hc,hg⟩; have JT:=Lh (JT.out.trans (Tn.cur (G:=G) hg)); have JV:=Lh (JV.out.gbn hg (by omega)); have J:=Lh (J.out.gone hc hg); clear hc hg; have k0:=J.out.c0; have k8:=J.out.c8; have f8:=J.out.fz 8 (by omega); dsimp only at k8 ⊢)
    | (refine wpList_stV rfl 109 _ _ rfl (G:=w.heap.size) rfl (us:=nmC NmT.nul) (JV.out.turn (Tn.set (M:=fun k => k = G) w3 G 8 (.int .i64 11) rfl) (by omega)) rfl info_nm (Nat.le_refl 2) (nmC_one _) ?_; intro w4 ht hs; have JT:=Lh ((JT.out.trans (Tn.set w3 G 8 (.int .i64 11) (.inr rfl))).own ht nLe); have J:=Lh ((J.out.err 11).own ht hGw); have JV:=Lh (show Var w4 w.heap.size (nmC NmT.nul) from hs); clear ht hs)
    | fail)
   rw [HX.out]
   exact v_ret 109 rfl rfl rfl JV.out Tryz.underlying109 rfl info_nm ⟨rfl,J.out,JT.out⟩
 ·have HX : Hid (fnm C.R (p,r) = (NmT.nul,(p,r))):=Lh (by unfold fnm; rw [if_neg hr])
  have hr1 : (r == 0) = false:=by simp [hr]
  have hr2 : decide (r = 0) = false:=by simp [hr]
  go_enter Tryz.func58,Tryz.ntmps58
  go_wp2_with (first
   | (go_at_call 32; (with_reducible refine (HPO.out _ J.out.cur).mono ?_); rintro e w2 ⟨rfl,b2⟩; have JT:=Lh (JT.out.trans (Tn.of_below _ b2)); have JV:=Lh (JV.out.under b2); have J:=Lh (J.out.under b2); clear b2; have k0:=J.out.c0; have k8:=J.out.c8; have f8:=J.out.fz 8 (by omega); dsimp only at k8 ⊢)
   | (refine wpList_stV rfl 109 _ _ rfl (G:=w.heap.size) rfl (us:=nmC NmT.nul) JV.out rfl info_nm (Nat.le_refl 2) (nmC_one _) ?_; intro w4 ht hs; have JT:=Lh (JT.out.own ht nLe); have J:=Lh (J.out.own ht hGw); have JV:=Lh (show Var w4 w.heap.size (nmC NmT.nul) from hs); clear ht hs)
   | fail)
  rw [HX.out]
  exact v_ret 109 rfl rfl rfl JV.out Tryz.underlying109 rfl info_nm ⟨rfl,J.out,JT.out⟩
set_option maxRecDepth 10000 in
theorem fpartT (C : Cx) (hC : TokOk C.T C.L) (G : Nat) (hl he : Bool) (v : MoV) (x : Nat × Int) (w : World) (h : Frd C G hl he v w x) :
  CP 94 #[.pointer (some ⟨G,0,none⟩),.func (.func 95) #[] #[]] w (FGo C G hl he v (.int .i64 (pty C.R x).1) (pty C.R x).2 w):=by
 obtain ⟨p,r⟩:=x
 have H:=Lh h
 have c0:=h.c0
 have c8:=h.c8
 dsimp only at c8
 unfold pty
 dsimp only
 by_cases hr : r = 0
 ·subst hr
  have HT:=Lh (type_any C hC p w h.cur)
  rw [if_pos rfl]
  clear h
  go_enter Tryz.func94,Tryz.ntmps94
  go_wp2_with (first
   | (go_at_call 95; refine HT.out.mono ?_; rintro e w2 ⟨rfl,hc2,hg2⟩; have HR2:=Lh (H.out.gone hc2 hg2); have HG2:=Lh (Tn.cur (G:=G) hg2); clear hc2 hg2; have k8:=HR2.out.c8; have f8:=HR2.out.fz 8 (by omega); dsimp only)
   | fail)
  go_ret
  exact ⟨rfl,HR2.out.err _,HG2.out.trans (Tn.set _ _ _ _ (.inr rfl))⟩
 ·have hr1 : (r == 0) = false:=by simp [hr]
  have hr2 : decide (r = 0) = false:=by simp [hr]
  rw [if_neg hr]
  clear h
  go_enter Tryz.func94,Tryz.ntmps94
  go_wp2_with fail
  go_ret
  exact ⟨rfl,H.out,Tn.refl _ _⟩
set_option maxRecDepth 10000 in
theorem fpartA (C : Cx) (hC : TokOk C.T C.L) (G : Nat) (hl he : Bool) (v : MoV) (x : Nat × Int) (w : World) (h : Frd C G hl he v w x) :
  CP 96 #[.pointer (some ⟨G,0,none⟩),.func (.func 97) #[] #[]] w (FGo C G hl he v (anV (pmk C.R x).1) (pmk C.R x).2 w):=by
 obtain ⟨p,r⟩:=x
 have hz:=zeroAn
 have hlt:=h.v.lt
 have hgt:=h.gt
 have hs1 : Hid ((w.alloc (.cells #[.bool false,.bool false,.string ⟨#[]⟩,.int .i64 0,.int .i64 0] 36)).heap.size = w.heap.size + 1):=Lh (by simp)
 have J : Hid (Frd C G hl he v (w.alloc (.cells #[.bool false,.bool false,.string ⟨#[]⟩,.int .i64 0,.int .i64 0] 36)) (p,r)):=Lh (h.new _)
 have JG : Hid (Tn (Rdr.M C G) w (w.alloc (.cells #[.bool false,.bool false,.string ⟨#[]⟩,.int .i64 0,.int .i64 0] 36))):=Lh (Tn.alloc _ _ _)
 have JV : Hid (Var (w.alloc (.cells #[.bool false,.bool false,.string ⟨#[]⟩,.int .i64 0,.int .i64 0] 36)) w.heap.size (anC An.nul)):=Lh (Var.new w (anC An.nul) 36 rfl)
 have c0:=J.out.c0
 have c8:=J.out.c8
 dsimp only at c8
 clear h
 unfold pmk
 dsimp only
 by_cases hr : r = 0
 ·subst hr
  have HT:=Lh (mark_any C hC p _ J.out.cur)
  obtain ⟨y,hy⟩ : ∃ y,markS C.R p = y:=⟨_,rfl⟩
  rw [if_pos rfl,hy]
  rw [hy] at HT
  clear hy
  go_enter Tryz.func96,Tryz.ntmps96
  go_wp2_with (first
   | (go_at_call 97; refine HT.out.mono ?_; rintro e w2 ⟨rfl,hc2,hg2⟩; have J:=Lh (J.out.gone hc2 hg2); have JG:=Lh (JG.out.trans (Tn.cur (G:=G) hg2)); have JV:=Lh (JV.out.gbn hg2 (by omega)); have hs2:=hg2.size; rw [hs1.out] at hs2; clear hc2 hg2; dsimp only)
   | (refine wpList_stV rfl 36 (.tmp 4) (.tmp 18) rfl (G:=w.heap.size) rfl (us:=anC y.1) JV.out rfl info_an (Nat.le_refl 5) (anC_one _) ?_; intro w3 ht hs; have JG:=Lh (JG.out.own ht nLe); have J:=Lh (J.out.own ht hlt); have JV:=Lh (show Var w3 w.heap.size (anC y.1) from hs); have hs3:=ht.size; clear ht hs; have k0:=J.out.c0; have k8:=J.out.c8; have f8:=J.out.fz 8 (by omega))
   | (refine wpList_ldV rfl 36 (.tmp 4) rfl w.heap.size 0 rfl (anC y.1) (JV.out.turn (Tn.set (M:=fun k => k = G) w3 G 8 (.int .i64 y.2.2) rfl) (by omega)).rg Tryz.underlying36 rfl info_an ?_)
   | (refine wpList_stV rfl 36 (.tmp 4) (.tmp 22) rfl (G:=w.heap.size) rfl (us:=anC y.1) (JV.out.turn (Tn.set (M:=fun k => k = G) w3 G 8 (.int .i64 y.2.2) rfl) (by omega)) rfl info_an (Nat.le_refl 5) (anC_one _) ?_; intro w4 ht hs; have JG:=Lh ((JG.out.trans (Tn.set w3 G 8 (.int .i64 y.2.2) (.inr rfl))).own ht nLe); have J:=Lh ((J.out.err y.2.2).own ht hlt); have JV:=Lh (show Var w4 w.heap.size (anC y.1) from hs); clear ht hs)
   | fail)
  exact v_ret 36 rfl rfl rfl JV.out Tryz.underlying36 rfl info_an ⟨rfl,J.out,JG.out⟩
 ·have hr1 : (r == 0) = false:=by simp [hr]
  have hr2 : decide (r = 0) = false:=by simp [hr]
  rw [if_neg hr]
  go_enter Tryz.func96,Tryz.ntmps96
  go_wp2_with (first
   | (refine wpList_ldV rfl 36 (.tmp 4) rfl w.heap.size 0 rfl (anC An.nul) JV.out.rg Tryz.underlying36 rfl info_an ?_)
   | (refine wpList_stV rfl 36 (.tmp 4) (.tmp 22) rfl (G:=w.heap.size) rfl (us:=anC An.nul) JV.out rfl info_an (Nat.le_refl 5) (anC_one _) ?_; intro w4 ht hs; have JG:=Lh (JG.out.own ht nLe); have J:=Lh (J.out.own ht hlt); have JV:=Lh (show Var w4 w.heap.size (anC An.nul) from hs); clear ht hs)
   | fail)
  exact v_ret 36 rfl rfl rfl JV.out Tryz.underlying36 rfl info_an ⟨rfl,J.out,JG.out⟩
set_option maxRecDepth 10000 in
theorem fpartE (C : Cx) (hC : TokOk C.T C.L) (hDg : DigOk C) (F : Nat) (hF : 16 * C.L.length + 9 ≤ F) (G : Nat) (hl he : Bool) (v : MoV) (x : Nat × Int) (w : World) (h : Frd C G hl he v w x) :
  CP 104 #[.pointer (some ⟨G,0,none⟩),.func (.func 105) #[] #[]] w fun e w' => ∃ lv,FGo C G hl he v (exV (pex C.R F x).1 lv) (pex C.R F x).2 w e w' ∧ Shx w' (fun b => w.heap.size ≤ b) lv (pex C.R F x).1.l:=by
 obtain ⟨p,r⟩:=x
 have hz:=zeroEx'
 have hlt:=h.v.lt
 have hgt:=h.gt
 have hs1 : Hid ((w.alloc (.cells z6 77)).heap.size = w.heap.size + 1):=Lh (by simp)
 have J : Hid (Frd C G hl he v (w.alloc (.cells z6 77)) (p,r)):=Lh (h.new _)
 have JG : Hid (Tn (Rdr.M C G) w (w.alloc (.cells z6 77))):=Lh (Tn.alloc _ _ _)
 have JV : Hid (Var (w.alloc (.cells z6 77)) w.heap.size (exC Ex.nul (.slice none 0 0))):=Lh (Var.new w (exC Ex.nul (.slice none 0 0)) 77 rfl)
 have c0:=J.out.c0
 have c8:=J.out.c8
 dsimp only at c8
 clear h
 unfold pex
 dsimp only
 by_cases hr : r = 0
 ·subst hr
  have HT:=Lh (expr_any C hC hDg F p _ J.out.cur (by omega))
  unfold exS
  obtain ⟨y,hy⟩ : ∃ y,rd C.R F (.lev 1) p 0 = y:=⟨_,rfl⟩
  rw [if_pos rfl,hy]
  rw [hy] at HT
  dsimp only
  clear hy
  go_enter Tryz.func104,Tryz.ntmps104
  go_wp2_with (first
   | (go_at_call 105; refine HT.out.mono ?_; rintro e w2 ⟨lv,rfl,hx2,hg2,hc2⟩; have hone:=hx2.one; have JX:=Lh (hx2.weak (S':=fun b => w.heap.size < b ∧ b < w2.heap.size) (by intro b hb hb2; have:=hs1.out; exact ⟨by omega,hb2⟩)); have J:=Lh (J.out.gone hc2 hg2); have JG:=Lh (JG.out.trans (Tn.cur (G:=G) hg2)); have JV:=Lh (JV.out.gbn hg2 (by omega)); have hs2:=hg2.size; rw [hs1.out] at hs2; clear hc2 hg2 hx2; dsimp only)
   | (refine wpList_stV rfl 77 (.tmp 4) (.tmp 18) rfl (G:=w.heap.size) rfl (us:=exC y.e lv) JV.out rfl info_ex (Nat.le_refl 6) (exC_one _ hone) ?_; intro w3 ht hs; have JX:=Lh (JX.out.turn (S':=fun b => w.heap.size < b ∧ b < w2.heap.size) ht (fun b hb e => ⟨hb,by omega⟩)); have JG:=Lh (JG.out.own ht nLe); have J:=Lh (J.out.own ht hlt); have JV:=Lh (show Var w3 w.heap.size (exC y.e lv) from hs); have hs3:=ht.size; clear ht hs; have k0:=J.out.c0; have k8:=J.out.c8; have f8:=J.out.fz 8 (by omega))
   | (refine wpList_ldV rfl 77 (.tmp 4) rfl w.heap.size 0 rfl (exC y.e lv) (JV.out.turn (Tn.set (M:=fun k => k = G) w3 G 8 (.int .i64 y.r) rfl) (by omega)).rg Tryz.underlying77 rfl info_ex ?_)
   | (refine wpList_stV rfl 77 (.tmp 4) (.tmp 22) rfl (G:=w.heap.size) rfl (us:=exC y.e lv) (JV.out.turn (Tn.set (M:=fun k => k = G) w3 G 8 (.int .i64 y.r) rfl) (by omega)) rfl info_ex (Nat.le_refl 6) (exC_one _ hone) ?_; intro w4 ht hs; have JG:=Lh ((JG.out.trans (Tn.set w3 G 8 (.int .i64 y.r) (.inr rfl))).own ht nLe); have J:=Lh ((J.out.err y.r).own ht hlt); have JX:=Lh ((JX.out.turn (S':=fun b => w.heap.size < b ∧ b < w2.heap.size) (Tn.set (M:=fun k => k = G) w3 G 8 (.int .i64 y.r) rfl) (fun b hb _ => ⟨hb,by omega⟩)).turn (S':=fun b => w.heap.size ≤ b) ht (fun b hb _ => ⟨by omega,by omega⟩)); have JV:=Lh (show Var w4 w.heap.size (exC y.e lv) from hs); clear ht hs)
   | fail)
  exact v_ret 77 rfl rfl rfl JV.out Tryz.underlying77 rfl info_ex ⟨lv,⟨rfl,J.out,JG.out⟩,JX.out⟩
 ·have hr1 : (r == 0) = false:=by simp [hr]
  have hr2 : decide (r = 0) = false:=by simp [hr]
  rw [if_neg hr]
  go_enter Tryz.func104,Tryz.ntmps104
  go_wp2_with (first
   | (refine wpList_ldV rfl 77 (.tmp 4) rfl w.heap.size 0 rfl (exC Ex.nul (.slice none 0 0)) JV.out.rg Tryz.underlying77 rfl info_ex ?_)
   | (refine wpList_stV rfl 77 (.tmp 4) (.tmp 22) rfl (G:=w.heap.size) rfl (us:=exC Ex.nul (.slice none 0 0)) JV.out rfl info_ex (Nat.le_refl 6) (exC_one _ rfl) ?_; intro w4 ht hs; have JG:=Lh (JG.out.own ht nLe); have J:=Lh (J.out.own ht hlt); have JV:=Lh (show Var w4 w.heap.size (exC Ex.nul (.slice none 0 0)) from hs); clear ht hs)
   | fail)
  exact v_ret 77 rfl rfl rfl JV.out Tryz.underlying77 rfl info_ex ⟨.slice none 0 0,⟨rfl,J.out,JG.out⟩,.nil⟩
set_option maxRecDepth 10000 in
theorem frow3 (C : Cx) (hC : TokOk C.T C.L) (hDg : DigOk C) (hR : C.R.Ok) (hn : C.L.length < 1000000) (F : Nat) (hF : 16 * C.L.length + 9 ≤ F) (p : Nat) (w : World) (h : Cur C w p) :
  CP 102 #[C.ptr] w (RowTo C F 1 p w):=by
 have HT:=Lh (row_any C hC hDg hR hn F hF 1 p w h)
 clear h
 go_enter Tryz.func102,Tryz.ntmps102
 go_wp2_with (first
  | (go_at_call 103; refine HT.out.mono ?_; rintro e w2 ⟨m,lv,h1,rfl,h3,h4,h5,h6⟩; have HM:=Lh h1; have H3:=Lh h3; have H4:=Lh h4; have H5:=Lh h5; have H6:=Lh h6; clear h1 h3 h4 h5 h6; dsimp only)
  | fail)
 go_ret2
 exact ⟨m,lv,HM.out,rfl,H3.out,H4.out,H5.out,H6.out⟩
set_option maxRecDepth 10000 in
theorem fpartR (C : Cx) (hC : TokOk C.T C.L) (hDg : DigOk C) (hR : C.R.Ok) (hn : C.L.length < 1000000) (F : Nat) (hF : 16 * C.L.length + 9 ≤ F) (f : Nat) (hf : 3 * C.L.length + 3 ≤ f) (G : Nat) (hl he : Bool) (v : MoV) (x : Nat × Int) (w : World) (h : Frd C G hl he v w x) :
  CP 101 #[.pointer (some ⟨G,0,none⟩),.func (.func 102) #[] #[]] w fun e w' => ∃ lv,FGo C G hl he v lv (prow C.R F f x).2 w e w' ∧ ShS w' (fun b => w.heap.size ≤ b) lv (prow C.R F f x).1:=by
 obtain ⟨p,r⟩:=x
 have H:=Lh h
 have c0:=h.c0
 have c8:=h.c8
 have hGw:=h.v.lt
 have hgt:=h.gt
 dsimp only at c8
 by_cases hr : r = 0
 ·subst hr
  have HT:=Lh (frow3 C hC hDg hR hn F hF p w h.cur)
  have HRS : Hid (∀ m,EndsS C.R F 1 (dnRow C.R) (mc0 p) m → _ ∧ _):=Lh fun m hm => row_rs hR (f:=f) (by show 3 * (C.L.length - p) + 3 ≤ f; omega) h.cur.le hm
  have HX : Hid (prow C.R F f (p,0) = if (rs C.R F f (.row []) p 1).r = 0 then ((rs C.R F f (.row []) p 1).l,((rs C.R F f (.row []) p 1).p,0)) else ([],((rs C.R F f (.row []) p 1).p,(rs C.R F f (.row []) p 1).r))):=Lh (by unfold prow; rw [if_pos rfl])
  clear h
  go_enter Tryz.func101,Tryz.ntmps101
  go_wp2_with (first
   | (go_at_call 102; refine HT.out.mono ?_; rintro e w2 ⟨m,lv,hm,rfl,hc2,hs2,hn2,ht2⟩; have HM:=Lh hm; have HS:=Lh hs2; have HN:=Lh hn2; have HR2 : Hid (Frd C G hl he v w2 (m.p,0)):=Lh ⟨hc2,H.out.v.turn ht2 (by omega),hgt⟩; have HG2 : Hid (Tn (Rdr.M C G) w w2):=Lh (ht2.weak fun k _ e => .inl e); clear hm hc2 hs2 hn2 ht2; have k8:=HR2.out.c8; have f8:=HR2.out.fz 8 (by omega); dsimp only)
   | fail)
  refine bodyPost_ret (v:=lv) (by first | rfl | simp [results]) rfl ?_
  obtain ⟨q1,q2⟩:=HRS.out m HM.out
  have ht:=Tn.set (M:=fun k => k = G) w2 G 8 (.int .i64 m.r) rfl
  by_cases h0 : (rs C.R F f (.row []) p 1).r = 0
  ·have e:=(q1 h0).1
   rw [HX.out,if_pos h0]
   have hmr : m.r = 0:=by rw [e]
   have hmp : m.p = (rs C.R F f (.row []) p 1).p:=by rw [e]
   have hml : m.row = (rs C.R F f (.row []) p 1).l:=by rw [e]
   refine ⟨lv,⟨rfl,?_,HG2.out.trans (Tn.set _ _ _ _ (.inr rfl))⟩,?_⟩
   ·have:=HR2.out.err m.r
    rw [hmr,hmp] at this
    rw [hmr]
    exact this
   ·rw [← hml]
    exact (HS.out hmr).turn ht (fun b hb _ => ⟨hb,by have hb : w.heap.size ≤ b:=hb; omega⟩)
  ·have e:=q2 h0
   have hmr : ¬ m.r = 0:=by rw [e.2]; exact h0
   rw [HX.out,if_neg h0,← e.1,← e.2]
   have hlv:=HN.out hmr
   subst hlv
   exact ⟨_,⟨rfl,HR2.out.err m.r,HG2.out.trans (Tn.set _ _ _ _ (.inr rfl))⟩,.nil⟩
 ·have hr1 : (r == 0) = false:=by simp [hr]
  have hr2 : decide (r = 0) = false:=by simp [hr]
  have HX : Hid (prow C.R F f (p,r) = ([],(p,r))):=Lh (by unfold prow; rw [if_neg hr])
  clear h
  go_enter Tryz.func101,Tryz.ntmps101
  go_wp2_with fail
  go_ret
  rw [HX.out]
  exact ⟨_,⟨rfl,H.out,Tn.refl _ _⟩,.nil⟩
theorem field_nm0 (a b : Value) (w : World) : (Instr.field 109 (.agg #[a,b]) 0).run Tryz.prog w = .ok a w:=by kernel_rfl
theorem size_al (w : World) (o : Obj) : (w.alloc o).heap.size = w.heap.size + 1:=by simp
theorem zeroVr (w : World) : (zeroValue 71).run Tryz.prog w = .ok (.agg #[.string ⟨#[]⟩,.int .i64 0,.int .i64 0,.bool false,.bool false,.string ⟨#[]⟩,.int .i64 0,.int .i64 0]) w:=by kernel_rfl
theorem zeroPr (w : World) : (zeroValue 151).run Tryz.prog w = .ok (.agg #[.string ⟨#[]⟩,.string ⟨#[]⟩,.int .i64 0]) w:=by kernel_rfl
def VrT.nul : VrT:=⟨⟨#[]⟩,0,0,An.nul⟩
def PrT.nul : PrT:=⟨⟨#[]⟩,⟨#[]⟩,0⟩
theorem MoS.under {G : Nat} {w w' : World} {m : MoT} {v : MoV} {FL : List (FnT × FnV)} {k : Nat} (h : MoS G w m v FL k) (hb : Below w.heap.size w w') : MoS G w' m v FL k:=h.turn (Tn.of_below (fun _ => False) hb) (fun _ _ _ h => h)
abbrev FrG (C : Cx) (G : Nat) : Nat → Prop:=fun k => k = C.g ∨ G ≤ k
theorem Tn.frg {C : Cx} {G : Nat} {w w1 w2 : World} (h : Tn (FrG C G) w w1) (ht : Tn (Rdr.M C G) w1 w2) : Tn (FrG C G) w w2:=h.trans (ht.weak fun k _ h => h.elim .inl (fun h => .inr (by omega)))
abbrev NwM (C : Cx) (G B : Nat) : Nat → Prop:=fun k => k = C.g ∨ k = G ∨ B ≤ k
theorem Tn.nw {C : Cx} {G B : Nat} {w w1 w2 : World} (h : Tn (NwM C G B) w w1) (ht : Tn (Rdr.M C G) w1 w2) : Tn (NwM C G B) w w2:=h.trans (ht.weak fun k _ h => h.elim .inl (fun h => .inr (.inl h)))
theorem Tn.nwg {C : Cx} {G B : Nat} {w w1 : World} (h : Tn (NwM C G B) w w1) (hB : G < B) : Tn (FrG C G) w w1:=h.weak fun k _ h => by rcases h with h | h | h; exact .inl h; exact .inr (by omega); exact .inr (by omega)
theorem MoS.nw {C : Cx} {G : Nat} {w w1 : World} {m : MoT} {v : MoV} {FL : List (FnT × FnV)} {k : Nat} (h : MoS G w m v FL k) (hg : C.g < G) (ht : Tn (NwM C G w.heap.size) w w1) : MoS G w1 m v FL k:=h.turn ht fun k h1 h2 h => by rcases h with h | h | h <;> omega
set_option maxRecDepth 10000 in
theorem fvariable (C : Cx) (hC : TokOk C.T C.L) (G : Nat) (hl he : Bool) (v : MoV) (x : Nat × Int) (w : World) (h : Frd C G hl he v w x) :
  CP 63 #[.pointer (some ⟨G,0,none⟩)] w (FGo C G hl he v (vrV (fvr C.R x).1) (fvr C.R x).2 w):=by
 have hz:=zeroNm
 have hz2:=zeroVr
 have hGw:=h.v.lt
 have hgt:=h.gt
 obtain ⟨y1,hy1⟩ : ∃ y,fnm C.R x = y:=⟨_,rfl⟩
 obtain ⟨x2,hx2⟩ : ∃ y,mu C.R y1.2 [wCol] = y:=⟨_,rfl⟩
 obtain ⟨y3,hy3⟩ : ∃ y,pty C.R x2 = y:=⟨_,rfl⟩
 obtain ⟨y4,hy4⟩ : ∃ y,pmk C.R y3.2 = y:=⟨_,rfl⟩
 have HV : fvr C.R x = (⟨y1.1.nm,y1.1.a,y3.1,y4.1⟩,y4.2):=by simp only [fvr,hy1,hx2,hy3,hy4]
 rw [HV]
 have HN : Hid (∀ W,Frd C G hl he v W x → CP 58 #[.pointer (some ⟨G,0,none⟩)] W (FGo C G hl he v (nmV y1.1) y1.2 W)):=Lh fun W hW => by
  have:=fname C hC G hl he v x W hW
  rwa [hy1] at this
 have HM : Hid (∀ W,Frd C G hl he v W y1.2 → CP 57 #[.pointer (some ⟨G,0,none⟩),.slice (some ⟨W.heap.size,0,none⟩) 1 1] (W.alloc (.cells #[.string ⟨#[58]⟩] 9)) (FGo C G hl he v none0 x2 W)):=Lh fun W hW => by
  have:=fmust1 C hC G hl he v y1.2 W hW ⟨#[58]⟩ (by decide)
  rwa [hx2] at this
 have HT : Hid (∀ W,Frd C G hl he v W x2 → CP 94 #[.pointer (some ⟨G,0,none⟩),.func (.func 95) #[] #[]] W (FGo C G hl he v (.int .i64 y3.1) y3.2 W)):=Lh fun W hW => by
  have:=fpartT C hC G hl he v x2 W hW
  rwa [hy3] at this
 have HA : Hid (∀ W,Frd C G hl he v W y3.2 → CP 96 #[.pointer (some ⟨G,0,none⟩),.func (.func 97) #[] #[]] W (FGo C G hl he v (anV y4.1) y4.2 W)):=Lh fun W hW => by
  have:=fpartA C hC G hl he v y3.2 W hW
  rwa [hy4] at this
 have J : Hid (Frd C G hl he v (w.alloc (.cells #[.string ⟨#[]⟩,.int .i64 0,.int .i64 0,.bool false,.bool false,.string ⟨#[]⟩,.int .i64 0,.int .i64 0] 71)) x):=Lh (h.new _)
 have JT : Hid (Tn (Rdr.M C G) w (w.alloc (.cells #[.string ⟨#[]⟩,.int .i64 0,.int .i64 0,.bool false,.bool false,.string ⟨#[]⟩,.int .i64 0,.int .i64 0] 71))):=Lh (Tn.alloc _ _ _)
 have J2 : Hid (Var (w.alloc (.cells #[.string ⟨#[]⟩,.int .i64 0,.int .i64 0,.bool false,.bool false,.string ⟨#[]⟩,.int .i64 0,.int .i64 0] 71)) w.heap.size (vrC VrT.nul)):=Lh (Var.new w (vrC VrT.nul) 71 rfl)
 have hs1 : Hid ((w.alloc (.cells #[.string ⟨#[]⟩,.int .i64 0,.int .i64 0,.bool false,.bool false,.string ⟨#[]⟩,.int .i64 0,.int .i64 0] 71)).heap.size = w.heap.size + 1):=Lh (by simp)
 clear h HV hy1 hx2 hy3 hy4
 go_enter Tryz.func63,Tryz.ntmps63
 go_wp2_with (first
  | (go_at_call 58; (with_reducible refine (HN.out _ J.out).mono ?_); rintro e w2 ⟨rfl,hr,ht⟩; have hsz2:=ht.size; rw [hs1.out] at hsz2; have J2:=Lh (J2.out.turn ht (fun h => by omega)); have JT:=Lh (JT.out.trans ht); have J:=Lh hr; clear hr ht; dsimp only)
  | (refine wpList_stV rfl 109 _ _ rfl (G:=w2.heap.size) rfl (us:=nmC y1.1) (Var.new w2 (nmC NmT.nul) 109 rfl) rfl info_nm (Nat.le_refl 2) (nmC_one _) ?_; intro w3 ht hs; have hsz3:=ht.size; rw [size_al] at hsz3; have ta:=Tn.alloc (fun k => k = w2.heap.size) w2 (.cells #[.string ⟨#[]⟩,.int .i64 0] 109); have J2:=Lh (J2.out.turn (ta.trans ht) (by omega)); have JT:=Lh (JT.out.own (ta.trans ht) (by omega)); have J:=Lh (J.out.own (ta.trans ht) (by omega)); have J3:=Lh (show Var w3 w2.heap.size (nmC y1.1) from hs); clear ht hs ta; have k0:=J3.out.at 0 rfl; have k1:=J3.out.at 1 rfl)
  | (refine wpList_stV rfl 71 _ _ rfl (G:=w3.heap.size) rfl (us:=vrC ⟨y1.1.nm,y1.1.a,0,An.nul⟩) (Var.new w3 (vrC VrT.nul) 71 rfl) rfl info_vr (Nat.le_refl 8) (vrC_one _) ?_; intro w4 ht hs; have hsz4:=ht.size; rw [size_al] at hsz4; have ta:=Tn.alloc (fun k => k = w3.heap.size) w3 (.cells #[.string ⟨#[]⟩,.int .i64 0,.int .i64 0,.bool false,.bool false,.string ⟨#[]⟩,.int .i64 0,.int .i64 0] 71); have J2:=Lh (J2.out.turn (ta.trans ht) (by omega)); have JT:=Lh (JT.out.own (ta.trans ht) (by omega)); have J:=Lh (J.out.own (ta.trans ht) (by omega)); have J4:=Lh (show Var w4 w3.heap.size (vrC ⟨y1.1.nm,y1.1.a,0,An.nul⟩) from hs); clear ht hs ta k0 k1)
  | (go_at_call 57; (with_reducible refine (HM.out _ J.out).mono ?_); rintro e w5 ⟨rfl,hr,ht⟩; have hsz5:=ht.size; have J4:=Lh (J4.out.turn ht (fun h => by omega)); have J2:=Lh (J2.out.turn ht (fun h => by omega)); have JT:=Lh (JT.out.trans ht); have J:=Lh hr; clear hr ht; dsimp only)
  | (go_at_call 94; (with_reducible refine (HT.out _ J.out).mono ?_); rintro e w6 ⟨rfl,hr,ht⟩; have hsz6:=ht.size; have J4:=Lh (J4.out.turn ht (fun h => by omega)); have J2:=Lh (J2.out.turn ht (fun h => by omega)); have JT:=Lh (JT.out.trans ht); have J:=Lh hr; clear hr ht; dsimp only)
  | (refine wpList_st1 rfl _ _ _ rfl (G:=w3.heap.size) (off:=2) rfl (v:=.int .i64 y3.1) J4.out rfl (by kernel_rfl) (by show 2 < 8; omega) rfl ?_; intro w7 ht hs; have hsz7:=ht.size; have J2:=Lh (J2.out.turn ht (by omega)); have JT:=Lh (JT.out.own ht (by omega)); have J:=Lh (J.out.own ht (by omega)); have J4:=Lh (show Var w7 w3.heap.size (vrC ⟨y1.1.nm,y1.1.a,y3.1,An.nul⟩) from hs); clear ht hs)
  | (go_at_call 96; (with_reducible refine (HA.out _ J.out).mono ?_); rintro e w8 ⟨rfl,hr,ht⟩; have hsz8:=ht.size; have J4:=Lh (J4.out.turn ht (fun h => by omega)); have J2:=Lh (J2.out.turn ht (fun h => by omega)); have JT:=Lh (JT.out.trans ht); have J:=Lh hr; clear hr ht; dsimp only)
  | (refine wpList_stV rfl 36 _ _ rfl (G:=w3.heap.size) (off:=3) rfl (us:=anC y4.1) J4.out rfl info_an (by show 3 + 5 ≤ 8; omega) (anC_one _) ?_; intro w9 ht hs; have hsz9:=ht.size; have J2:=Lh (J2.out.turn ht (by omega)); have JT:=Lh (JT.out.own ht (by omega)); have J:=Lh (J.out.own ht (by omega)); have J4:=Lh (show Var w9 w3.heap.size (vrC ⟨y1.1.nm,y1.1.a,y3.1,y4.1⟩) from hs); clear ht hs)
  | (refine wpList_ldV rfl 71 _ rfl w3.heap.size 0 rfl (vrC ⟨y1.1.nm,y1.1.a,y3.1,y4.1⟩) J4.out.rg Tryz.underlying71 rfl info_vr ?_)
  | (refine wpList_stV rfl 71 _ _ rfl (G:=w.heap.size) (off:=0) rfl (us:=vrC ⟨y1.1.nm,y1.1.a,y3.1,y4.1⟩) J2.out rfl info_vr (Nat.le_refl 8) (vrC_one _) ?_; intro wx ht hs; have JT:=Lh (JT.out.own ht nLe); have J:=Lh (J.out.own ht hGw); have J2:=Lh (show Var wx w.heap.size (vrC ⟨y1.1.nm,y1.1.a,y3.1,y4.1⟩) from hs); clear ht hs)
  | fail)
 exact v_ret 71 rfl rfl rfl J2.out Tryz.underlying71 rfl info_vr ⟨rfl,J.out,JT.out⟩
set_option maxRecDepth 10000 in
theorem feffect (C : Cx) (hC : TokOk C.T C.L) (G : Nat) (hl he : Bool) (v : MoV) (m : MoT) (FL : List (FnT × FnV)) (k : Nat) (x : Nat × Int) (w : World) (h : Frd C G hl he v w x) (hP : MoS G w m v FL k) (hk : k ≤ 10000000) :
  CP 62 #[.pointer (some ⟨G,0,none⟩)] w fun e w' => ∃ v',e = .returned none0 ∧ Frd C G hl he v' w' (fnm C.R x).2 ∧ MoS G w' { m with ef:=m.ef ++ [(fnm C.R x).1] } v' FL (k + 1) ∧ Tn (FrG C G) w w':=by
 have hGw:=h.v.lt
 have hgt:=h.gt
 obtain ⟨im,la,ef,va,fn⟩:=v
 obtain ⟨A5,c5,e5⟩:=hP.ef.form
 dsimp only at e5
 subst e5
 obtain ⟨y,hy⟩ : ∃ y,fnm C.R x = y:=⟨_,rfl⟩
 have HN : Hid (∀ W,Frd C G hl he ⟨im,la,.slice A5 m.ef.length c5,va,fn⟩ W x → CP 58 #[.pointer (some ⟨G,0,none⟩)] W (FGo C G hl he ⟨im,la,.slice A5 m.ef.length c5,va,fn⟩ (nmV y.1) y.2 W)):=Lh fun W hW => by
  have:=fname C hC G hl he _ x W hW
  rwa [hy] at this
 rw [hy]
 have J:=Lh (h.under (below_drew _ _))
 have JP:=Lh (hP.under (below_drew _ _))
 have JT : Hid (Tn (FrG C G) w w.drew):=Lh (Tn.drew _ _)
 obtain ⟨S,hSd⟩ : ∃ S : World → Prop,S = fun W => W.cell? ⟨G,5,none⟩ = some (.slice A5 m.ef.length c5):=⟨_,rfl⟩
 have hSF : ∀ W,S W → W.cell? ⟨G,5,none⟩ = some (.slice A5 m.ef.length c5):=by rw [hSd]; exact fun W h => h
 have s5 : ∀ s : SW S,s.w.cell? ⟨G,5,none⟩ = some (.slice A5 m.ef.length c5):=fun s => hSF _ s.h
 have HS : Hid (∀ W y,Frd C G hl he ⟨im,la,.slice A5 m.ef.length c5,va,fn⟩ W y → S W):=Lh fun W y hW => by rw [hSd]; exact hW.c5
 have hS0:=HS.out _ _ J.out
 clear h hP hy hSd hSF
 go_enter Tryz.func62,Tryz.ntmps62
 go_wp2_with fail
 refine region_start (by kernel_rfl) 14 rfl ?_
 refine wpAny_hold S 13 (by kernel_rfl) ?_
 refine wpM_next 0 7 7 (by kernel_rfl) (fun _ _ d _ _ h => by cases d <;> exact h) hS0 (fun hne => ?_)
 simp only [sD,sE,sF,sG]
 repeat (go_big_quiet_step (fail))
 refine wpQuiet_nil ?_
 refine wpM_one (i:=7) (fuel:=6) (by kernel_rfl) (by omega) rfl (fun KK hKK => ?_)
 go_simp
 with_reducible refine (HN.out _ J.out).mono ?_
 rintro e wz ⟨rfl,hr,ht⟩
 have JP:=Lh (JP.out.turn ht (fun k h1 _ h => by rcases h with h | h <;> omega))
 have JT:=Lh (JT.out.frg ht)
 have J:=Lh hr
 clear hr ht
 refine hKK _ _ (HS.out _ _ J.out) ?_
 clear hKK KK
 refine wpM_one (i:=8) (fuel:=5) (by kernel_rfl) (by omega) rfl (fun KK hKK => ?_)
 refine step_build1 rfl 24 109 (.tmp 9) rfl (nmC y.1) rfl (by simp [nmC]) (by simp [nmC]) Tryz.underlying24 info_nm (by kernel_rfl) ?_
 refine hKK _ _ (HS.out _ _ (J.out.new _)) ?_
 clear hKK KK
 refine wpM_one (i:=9) (fuel:=4) (by kernel_rfl) (by omega) rfl (fun KK hKK => ?_)
 refine step_push_b rfl (.tmp 7) (.tmp 10) 24 rfl rowNm wz (G + 1) (.slice A5 m.ef.length c5) m.ef.length (nms m.ef) (nmC y.1) rfl JP.out.ef rfl rfl rfl (nmC_one _) (by have:=JP.out.le; omega) (by omega) ?_
 intro v6 w6 ho6 hg6 hv6
 have hno : ∀ k,(Value.slice A5 m.ef.length c5).ownBlock = some k → G < k:=fun k hk => (JP.out.ef.1.lt k hk).1
 have JP6:=JP.out.push_ef y.1 ho6 hg6 hv6
 have J6:=(J.out.new (.cells (nmC y.1).toArray 109)).turn (Tn.of_gb (M:=fun k => (Value.slice A5 m.ef.length c5).ownBlock = some k) hg6 fun k e _ => e) (fun k hk e => by have:=hno k e; omega)
 have JT6:=(JT.out.trans (Tn.alloc _ wz (.cells (nmC y.1).toArray 109))).trans (Tn.of_gb hg6 fun k e _ => .inr (by have:=hno k e; omega))
 obtain ⟨g6,c6,rfl,hgg,_⟩:=ho6.1.form (Nat.succ_pos _)
 have JP7:=Lh (JP6.turn (Tn.set (M:=fun k => k = G) w6 G 5 (.slice (some ⟨g6,0,none⟩) (m.ef.length + 1) c6) rfl) (fun k h1 _ e => by omega))
 have J7 : Hid (Frd C G hl he ⟨im,la,.slice (some ⟨g6,0,none⟩) (m.ef.length + 1) c6,va,fn⟩ (w6.setCell ⟨G,5,none⟩ (.slice (some ⟨g6,0,none⟩) (m.ef.length + 1) c6)) y.2):=Lh ⟨J6.cur.turn (Tn.set (M:=fun k => k = G) w6 G 5 _ rfl) (fun k hk e => by omega),J6.v.set 5 _ (by show 5 < 9; omega),hgt⟩
 have JT7:=Lh (JT6.trans (Tn.set w6 G 5 (.slice (some ⟨g6,0,none⟩) (m.ef.length + 1) c6) (.inr (Nat.le_refl G))))
 have tG:=J6.v.there (o:=5) (n:=1) (by show 5 + 1 ≤ 9; omega)
 have hS6:=HS.out _ _ J6
 refine hKK _ _ hS6 ?_
 clear hKK KK J6 JP6 JT6 ho6 hg6 hv6
 simp only [Act.put,sA,sB,sC]
 refine wpM_next 10 3 1 (by kernel_rfl) (fun _ _ d _ _ h => by cases d <;> exact h) hS6 (fun hne => ?_)
 simp only [sD,sE,sF,sG]
 repeat (go_big_quiet_step (fail))
 refine wpQuiet_nil ?_
 refine wpM_late (i:=13) (fuel:=0) (by kernel_rfl) (by omega) rfl (fun KK hKK => ?_)
 refine step_st1 rfl 24 (.tmp 14) (.tmp 11) rfl G 5 rfl (v:=.slice (some ⟨g6,0,none⟩) (m.ef.length + 1) c6) tG rfl (by kernel_rfl) rfl ?_
 refine hKK _ _ ?_
 clear hKK KK
 refine wpAny_done (by kernel_rfl) ?_ _
 go_wp2_with fail
 refine bodyPost_end (results_none rfl _ _ _) rfl ?_
 exact ⟨rfl,_,J7.out,JP7.out,JT7.out⟩
set_option maxRecDepth 10000 in
theorem fpair (C : Cx) (hC : TokOk C.T C.L) (G : Nat) (hl he : Bool) (v : MoV) (m : MoT) (FL : List (FnT × FnV)) (k : Nat) (x : Nat × Int) (w : World) (h : Frd C G hl he v w x) (hP : MoS G w m v FL k) (hk : k ≤ 10000000) :
  CP 61 #[.pointer (some ⟨G,0,none⟩)] w fun e w' => ∃ v',e = .returned none0 ∧ Frd C G hl he v' w' (fpr C.R x).2 ∧ MoS G w' { m with la:=m.la ++ [(fpr C.R x).1] } v' FL (k + 1) ∧ Tn (FrG C G) w w':=by
 have hz:=zeroNm
 have hz2:=zeroPr
 have hf0:=field_nm0
 have hGw:=h.v.lt
 have hgt:=h.gt
 obtain ⟨im,la,ef,va,fn⟩:=v
 obtain ⟨A5,c5,e5⟩:=hP.la.form
 dsimp only at e5
 subst e5
 have hlw : ∀ k,(Value.slice A5 m.la.length c5).ownBlock = some k → k < w.heap.size:=fun k hk => (hP.la.1.lt k hk).2
 obtain ⟨y1,hy1⟩ : ∃ y,fnm C.R x = y:=⟨_,rfl⟩
 obtain ⟨b,hb⟩ : ∃ y,tkW C.R y1.2 [60] = y:=⟨_,rfl⟩
 obtain ⟨y2,hy2⟩ : ∃ y,fnm C.R (tkX y1.2 true) = y:=⟨_,rfl⟩
 have HV : fpr C.R x = if b = true then (⟨y1.1.nm,y2.1.nm,y1.1.a⟩,y2.2) else (⟨y1.1.nm,⟨#[]⟩,y1.1.a⟩,y1.2):=by simp only [fpr,hy1,hb,hy2]
 rw [HV]
 have HN : Hid (∀ W,Frd C G hl he ⟨im,.slice A5 m.la.length c5,ef,va,fn⟩ W x → CP 58 #[.pointer (some ⟨G,0,none⟩)] W (FGo C G hl he ⟨im,.slice A5 m.la.length c5,ef,va,fn⟩ (nmV y1.1) y1.2 W)):=Lh fun W hW => by
  have:=fname C hC G hl he _ x W hW
  rwa [hy1] at this
 have HK : Hid (∀ W,Frd C G hl he ⟨im,.slice A5 m.la.length c5,ef,va,fn⟩ W y1.2 → CP 92 #[.pointer (some ⟨G,0,none⟩),.string ⟨#[60]⟩] W (FGo C G hl he ⟨im,.slice A5 m.la.length c5,ef,va,fn⟩ (.bool b) (tkX y1.2 b) W)):=Lh fun W hW => by
  have:=ftakeW C hC G hl he _ y1.2 W hW 60 []
  rwa [hb] at this
 have HN2 : Hid (∀ W,Frd C G hl he ⟨im,.slice A5 m.la.length c5,ef,va,fn⟩ W (tkX y1.2 true) → CP 58 #[.pointer (some ⟨G,0,none⟩)] W (FGo C G hl he ⟨im,.slice A5 m.la.length c5,ef,va,fn⟩ (.agg #[.string y2.1.nm,.int .i64 y2.1.a]) y2.2 W)):=Lh fun W hW => by
  have:=fname C hC G hl he _ _ W hW
  rw [hy2] at this
  exact this
 have J:=Lh h
 have JP:=Lh hP
 have JT : Hid (Tn (NwM C G w.heap.size) w w):=Lh (Tn.refl _ _)
 clear h hP hy1 hb hy2 HV
 cases b with
 | true =>
  rw [if_pos rfl]
  go_enter Tryz.func61,Tryz.ntmps61
  go_wp2_with (first
   | (go_at_call 58; (with_reducible refine (HN.out _ J.out).mono ?_); rintro e w2 ⟨rfl,hr,ht⟩; have hsz2:=ht.size; have JT:=Lh (JT.out.nw ht); have J:=Lh hr; clear hr ht; dsimp only)
   | (refine wpList_stV rfl 109 _ _ rfl (G:=w2.heap.size) rfl (us:=nmC y1.1) (Var.new w2 (nmC NmT.nul) 109 rfl) rfl info_nm (Nat.le_refl 2) (nmC_one _) ?_; intro w3 ht hs; have hsz3:=ht.size; rw [size_al] at hsz3; have ta:=Tn.alloc (fun k => k = w2.heap.size) w2 (.cells #[.string ⟨#[]⟩,.int .i64 0] 109); have JT:=Lh (JT.out.trans ((ta.trans ht).weak fun k _ h => .inr (.inr (by omega)))); have J:=Lh (J.out.own (ta.trans ht) (by omega)); have J3:=Lh (show Var w3 w2.heap.size (nmC y1.1) from hs); clear ht hs ta; have k0:=J3.out.at 0 rfl; have k1:=J3.out.at 1 rfl)
   | (refine wpList_stV rfl 151 _ _ rfl (G:=w3.heap.size) rfl (us:=prC ⟨y1.1.nm,⟨#[]⟩,y1.1.a⟩) (Var.new w3 (prC PrT.nul) 151 rfl) rfl info_pr (Nat.le_refl 3) (prC_one _) ?_; intro w4 ht hs; have hsz4:=ht.size; rw [size_al] at hsz4; have ta:=Tn.alloc (fun k => k = w3.heap.size) w3 (.cells #[.string ⟨#[]⟩,.string ⟨#[]⟩,.int .i64 0] 151); have JT:=Lh (JT.out.trans ((ta.trans ht).weak fun k _ h => .inr (.inr (by omega)))); have J:=Lh (J.out.own (ta.trans ht) (by omega)); have J4:=Lh (show Var w4 w3.heap.size (prC ⟨y1.1.nm,⟨#[]⟩,y1.1.a⟩) from hs); clear ht hs ta k0 k1)
   | (go_at_call 92; (with_reducible refine (HK.out _ J.out).mono ?_); rintro e w5 ⟨rfl,hr,ht⟩; have hsz5:=ht.size; have J4:=Lh (J4.out.turn ht (fun h => by omega)); have JT:=Lh (JT.out.nw ht); have J:=Lh hr; clear hr ht; dsimp only)
   | (go_at_call 58; (with_reducible refine (HN2.out _ J.out).mono ?_); rintro e w6 ⟨rfl,hr,ht⟩; have hsz6:=ht.size; have J4:=Lh (J4.out.turn ht (fun h => by omega)); have JT:=Lh (JT.out.nw ht); have J:=Lh hr; clear hr ht; dsimp only)
   | (refine wpList_st1 rfl _ _ _ rfl (G:=w3.heap.size) (off:=1) rfl (v:=.string y2.1.nm) J4.out rfl (by kernel_rfl) (by show 1 < 3; omega) rfl ?_; intro w7 ht hs; have hsz7:=ht.size; have JT:=Lh (JT.out.trans (ht.weak fun k _ h => .inr (.inr (by omega)))); have J:=Lh (J.out.own ht (by omega)); have J4:=Lh (show Var w7 w3.heap.size (prC ⟨y1.1.nm,y2.1.nm,y1.1.a⟩) from hs); clear ht hs)
   | fail)
  have J:=Lh (show Frd C G hl he ⟨im,.slice A5 m.la.length c5,ef,va,fn⟩ w7.drew y2.2 from J.out.under (below_drew _ _))
  have JT:=Lh (JT.out.trans (Tn.drew _ _))
  have JP:=Lh (JP.out.nw hgt JT.out)
  have JT:=Lh (JT.out.nwg hGw)
  have J4:=Lh (J4.out.under (below_drew _ _))
  obtain ⟨S,hSd⟩ : ∃ S : World → Prop,S = fun W => W.cell? ⟨G,3,none⟩ = some (.slice A5 m.la.length c5) ∧ W.rangeAt w3.heap.size 0 [.string y1.1.nm,.string y2.1.nm,.int .i64 y1.1.a]:=⟨_,rfl⟩
  have hSF : ∀ W,S W → W.cell? ⟨G,3,none⟩ = some (.slice A5 m.la.length c5) ∧ W.rangeAt w3.heap.size 0 [.string y1.1.nm,.string y2.1.nm,.int .i64 y1.1.a]:=by rw [hSd]; exact fun W h => h
  have s5 : ∀ s : SW S,s.w.cell? ⟨G,3,none⟩ = some (.slice A5 m.la.length c5):=fun s => (hSF _ s.h).1
  have sK : ∀ W,S W → W.rangeAt w3.heap.size 0 [.string y1.1.nm,.string y2.1.nm,.int .i64 y1.1.a]:=fun W h => (hSF W h).2
  have HS : Hid (∀ W y,Frd C G hl he ⟨im,.slice A5 m.la.length c5,ef,va,fn⟩ W y → Var W w3.heap.size (prC ⟨y1.1.nm,y2.1.nm,y1.1.a⟩) → S W):=Lh fun W y hW hV => by rw [hSd]; exact ⟨hW.c3,hV.rg⟩
  have hS0:=HS.out _ _ J.out J4.out
  clear hSd hSF
  try dsimp only [Act.put]
  refine region_start (by kernel_rfl) 13 rfl ?_
  refine wpAny_hold S 12 (by kernel_rfl) ?_
  refine wpM_next 0 6 7 (by kernel_rfl) (fun _ _ d _ _ h => by cases d <;> exact h) hS0 (fun hne => ?_)
  simp only [sD,sE,sF,sG]
  repeat (go_big_quiet_step (fail))
  refine wpQuiet_nil ?_
  refine wpM_take 6 (fuel:=6) (.agg (List.toArray [.string y1.1.nm,.string y2.1.nm,.int .i64 y1.1.a])) (by kernel_rfl) (fun _ _ d _ _ h => by cases d <;> exact h) rfl hS0 (yieldsIf_load_mid rfl 151 (.tmp 3) rfl w3.heap.size 0 rfl [.string y1.1.nm,.string y2.1.nm,.int .i64 y1.1.a] _ sK Tryz.underlying151 rfl info_pr) ?_
  simp only [Act.put,sA,sB,sC]
  refine wpM_one (i:=7) (fuel:=5) (by kernel_rfl) (by omega) rfl (fun KK hKK => ?_)
  refine step_build1 rfl 25 151 (.tmp 23) rfl (prC ⟨y1.1.nm,y2.1.nm,y1.1.a⟩) rfl (by simp [prC]) (by simp [prC]) Tryz.underlying25 info_pr (by kernel_rfl) ?_
  refine hKK _ _ (HS.out _ _ (J.out.new _) (J4.out.under bAl)) ?_
  clear hKK KK
  refine wpM_one (i:=8) (fuel:=4) (by kernel_rfl) (by omega) rfl (fun KK hKK => ?_)
  refine step_push_b rfl (.tmp 22) (.tmp 24) 25 rfl rowPr w7.drew (G + 1) (.slice A5 m.la.length c5) m.la.length (prs m.la) (prC ⟨y1.1.nm,y2.1.nm,y1.1.a⟩) rfl JP.out.la rfl rfl rfl (prC_one _) (by have:=JP.out.ll; omega) (by omega) ?_
  intro v6 w6 ho6 hg6 hv6
  have hno : ∀ k,(Value.slice A5 m.la.length c5).ownBlock = some k → G < k:=fun k hk => (JP.out.la.1.lt k hk).1
  have hnK : (Value.slice A5 m.la.length c5).ownBlock ≠ some w3.heap.size:=fun e => by have:=hlw _ e; omega
  have JP6:=JP.out.push_la ⟨y1.1.nm,y2.1.nm,y1.1.a⟩ ho6 hg6 hv6
  have tg:=Tn.of_gb (M:=fun k => (Value.slice A5 m.la.length c5).ownBlock = some k) hg6 fun k e _ => e
  have J6:=(J.out.new (.cells (prC ⟨y1.1.nm,y2.1.nm,y1.1.a⟩).toArray 151)).turn tg (fun k hk e => by have:=hno k e; omega)
  have J46:=(J4.out.under (bRf.alloc nLe (.cells (prC ⟨y1.1.nm,y2.1.nm,y1.1.a⟩).toArray 151))).turn tg hnK
  have JT6:=(JT.out.trans (Tn.alloc _ w7.drew (.cells (prC ⟨y1.1.nm,y2.1.nm,y1.1.a⟩).toArray 151))).trans (Tn.of_gb hg6 fun k e _ => .inr (by have:=hno k e; omega))
  obtain ⟨g6,c6,rfl,hgg,_⟩:=ho6.1.form (Nat.succ_pos _)
  have JP7:=Lh (JP6.turn (Tn.set (M:=fun k => k = G) w6 G 3 (.slice (some ⟨g6,0,none⟩) (m.la.length + 1) c6) rfl) (fun k h1 _ e => by omega))
  have J7 : Hid (Frd C G hl he ⟨im,.slice (some ⟨g6,0,none⟩) (m.la.length + 1) c6,ef,va,fn⟩ (w6.setCell ⟨G,3,none⟩ (.slice (some ⟨g6,0,none⟩) (m.la.length + 1) c6)) y2.2):=Lh ⟨J6.cur.turn (Tn.set (M:=fun k => k = G) w6 G 3 _ rfl) (fun k hk e => by omega),J6.v.set 3 _ (by show 3 < 9; omega),hgt⟩
  have JT7:=Lh (JT6.trans (Tn.set w6 G 3 (.slice (some ⟨g6,0,none⟩) (m.la.length + 1) c6) (.inr (Nat.le_refl G))))
  have tG:=J6.v.there (o:=3) (n:=1) (by show 3 + 1 ≤ 9; omega)
  have hS6:=HS.out _ _ J6 J46
  refine hKK _ _ hS6 ?_
  clear hKK KK J6 JP6 JT6 J46 ho6 hg6 hv6 tg hnK
  simp only [Act.put,sA,sB,sC]
  refine wpM_next 9 3 1 (by kernel_rfl) (fun _ _ d _ _ h => by cases d <;> exact h) hS6 (fun hne => ?_)
  simp only [sD,sE,sF,sG]
  repeat (go_big_quiet_step (fail))
  refine wpQuiet_nil ?_
  refine wpM_late (i:=12) (fuel:=0) (by kernel_rfl) (by omega) rfl (fun KK hKK => ?_)
  refine step_st1 rfl 25 (.tmp 28) (.tmp 25) rfl G 3 rfl (v:=.slice (some ⟨g6,0,none⟩) (m.la.length + 1) c6) tG rfl (by kernel_rfl) rfl ?_
  refine hKK _ _ ?_
  clear hKK KK
  refine wpAny_done (by kernel_rfl) ?_ _
  go_wp2_with fail
  refine bodyPost_end (results_none rfl _ _ _) rfl ?_
  exact ⟨rfl,_,J7.out,JP7.out,JT7.out⟩
 | false =>
  rw [if_neg (by decide)]
  go_enter Tryz.func61,Tryz.ntmps61
  go_wp2_with (first
   | (go_at_call 58; (with_reducible refine (HN.out _ J.out).mono ?_); rintro e w2 ⟨rfl,hr,ht⟩; have hsz2:=ht.size; have JT:=Lh (JT.out.nw ht); have J:=Lh hr; clear hr ht; dsimp only)
   | (refine wpList_stV rfl 109 _ _ rfl (G:=w2.heap.size) rfl (us:=nmC y1.1) (Var.new w2 (nmC NmT.nul) 109 rfl) rfl info_nm (Nat.le_refl 2) (nmC_one _) ?_; intro w3 ht hs; have hsz3:=ht.size; rw [size_al] at hsz3; have ta:=Tn.alloc (fun k => k = w2.heap.size) w2 (.cells #[.string ⟨#[]⟩,.int .i64 0] 109); have JT:=Lh (JT.out.trans ((ta.trans ht).weak fun k _ h => .inr (.inr (by omega)))); have J:=Lh (J.out.own (ta.trans ht) (by omega)); have J3:=Lh (show Var w3 w2.heap.size (nmC y1.1) from hs); clear ht hs ta; have k0:=J3.out.at 0 rfl; have k1:=J3.out.at 1 rfl)
   | (refine wpList_stV rfl 151 _ _ rfl (G:=w3.heap.size) rfl (us:=prC ⟨y1.1.nm,⟨#[]⟩,y1.1.a⟩) (Var.new w3 (prC PrT.nul) 151 rfl) rfl info_pr (Nat.le_refl 3) (prC_one _) ?_; intro w4 ht hs; have hsz4:=ht.size; rw [size_al] at hsz4; have ta:=Tn.alloc (fun k => k = w3.heap.size) w3 (.cells #[.string ⟨#[]⟩,.string ⟨#[]⟩,.int .i64 0] 151); have JT:=Lh (JT.out.trans ((ta.trans ht).weak fun k _ h => .inr (.inr (by omega)))); have J:=Lh (J.out.own (ta.trans ht) (by omega)); have J4:=Lh (show Var w4 w3.heap.size (prC ⟨y1.1.nm,⟨#[]⟩,y1.1.a⟩) from hs); clear ht hs ta k0 k1)
   | (go_at_call 92; (with_reducible refine (HK.out _ J.out).mono ?_); rintro e w5 ⟨rfl,hr,ht⟩; have hsz5:=ht.size; have J4:=Lh (J4.out.turn ht (fun h => by omega)); have JT:=Lh (JT.out.nw ht); have J:=Lh hr; clear hr ht; dsimp only)
   | fail)
  have J:=Lh (show Frd C G hl he ⟨im,.slice A5 m.la.length c5,ef,va,fn⟩ w5.drew y1.2 from J.out.under (below_drew _ _))
  have JT:=Lh (JT.out.trans (Tn.drew _ _))
  have JP:=Lh (JP.out.nw hgt JT.out)
  have JT:=Lh (JT.out.nwg hGw)
  have J4:=Lh (J4.out.under (below_drew _ _))
  obtain ⟨S,hSd⟩ : ∃ S : World → Prop,S = fun W => W.cell? ⟨G,3,none⟩ = some (.slice A5 m.la.length c5) ∧ W.rangeAt w3.heap.size 0 [.string y1.1.nm,.string ⟨#[]⟩,.int .i64 y1.1.a]:=⟨_,rfl⟩
  have hSF : ∀ W,S W → W.cell? ⟨G,3,none⟩ = some (.slice A5 m.la.length c5) ∧ W.rangeAt w3.heap.size 0 [.string y1.1.nm,.string ⟨#[]⟩,.int .i64 y1.1.a]:=by rw [hSd]; exact fun W h => h
  have s5 : ∀ s : SW S,s.w.cell? ⟨G,3,none⟩ = some (.slice A5 m.la.length c5):=fun s => (hSF _ s.h).1
  have sK : ∀ W,S W → W.rangeAt w3.heap.size 0 [.string y1.1.nm,.string ⟨#[]⟩,.int .i64 y1.1.a]:=fun W h => (hSF W h).2
  have HS : Hid (∀ W y,Frd C G hl he ⟨im,.slice A5 m.la.length c5,ef,va,fn⟩ W y → Var W w3.heap.size (prC ⟨y1.1.nm,⟨#[]⟩,y1.1.a⟩) → S W):=Lh fun W y hW hV => by rw [hSd]; exact ⟨hW.c3,hV.rg⟩
  have hS0:=HS.out _ _ J.out J4.out
  clear hSd hSF
  try dsimp only [Act.put]
  refine region_start (by kernel_rfl) 13 rfl ?_
  refine wpAny_hold S 12 (by kernel_rfl) ?_
  refine wpM_next 0 6 7 (by kernel_rfl) (fun _ _ d _ _ h => by cases d <;> exact h) hS0 (fun hne => ?_)
  simp only [sD,sE,sF,sG]
  repeat (go_big_quiet_step (fail))
  refine wpQuiet_nil ?_
  refine wpM_take 6 (fuel:=6) (.agg (List.toArray [.string y1.1.nm,.string ⟨#[]⟩,.int .i64 y1.1.a])) (by kernel_rfl) (fun _ _ d _ _ h => by cases d <;> exact h) rfl hS0 (yieldsIf_load_mid rfl 151 (.tmp 3) rfl w3.heap.size 0 rfl [.string y1.1.nm,.string ⟨#[]⟩,.int .i64 y1.1.a] _ sK Tryz.underlying151 rfl info_pr) ?_
  simp only [Act.put,sA,sB,sC]
  refine wpM_one (i:=7) (fuel:=5) (by kernel_rfl) (by omega) rfl (fun KK hKK => ?_)
  refine step_build1 rfl 25 151 (.tmp 23) rfl (prC ⟨y1.1.nm,⟨#[]⟩,y1.1.a⟩) rfl (by simp [prC]) (by simp [prC]) Tryz.underlying25 info_pr (by kernel_rfl) ?_
  refine hKK _ _ (HS.out _ _ (J.out.new _) (J4.out.under bAl)) ?_
  clear hKK KK
  refine wpM_one (i:=8) (fuel:=4) (by kernel_rfl) (by omega) rfl (fun KK hKK => ?_)
  refine step_push_b rfl (.tmp 22) (.tmp 24) 25 rfl rowPr w5.drew (G + 1) (.slice A5 m.la.length c5) m.la.length (prs m.la) (prC ⟨y1.1.nm,⟨#[]⟩,y1.1.a⟩) rfl JP.out.la rfl rfl rfl (prC_one _) (by have:=JP.out.ll; omega) (by omega) ?_
  intro v6 w6 ho6 hg6 hv6
  have hno : ∀ k,(Value.slice A5 m.la.length c5).ownBlock = some k → G < k:=fun k hk => (JP.out.la.1.lt k hk).1
  have hnK : (Value.slice A5 m.la.length c5).ownBlock ≠ some w3.heap.size:=fun e => by have:=hlw _ e; omega
  have JP6:=JP.out.push_la ⟨y1.1.nm,⟨#[]⟩,y1.1.a⟩ ho6 hg6 hv6
  have tg:=Tn.of_gb (M:=fun k => (Value.slice A5 m.la.length c5).ownBlock = some k) hg6 fun k e _ => e
  have J6:=(J.out.new (.cells (prC ⟨y1.1.nm,⟨#[]⟩,y1.1.a⟩).toArray 151)).turn tg (fun k hk e => by have:=hno k e; omega)
  have J46:=(J4.out.under (bRf.alloc nLe (.cells (prC ⟨y1.1.nm,⟨#[]⟩,y1.1.a⟩).toArray 151))).turn tg hnK
  have JT6:=(JT.out.trans (Tn.alloc _ w5.drew (.cells (prC ⟨y1.1.nm,⟨#[]⟩,y1.1.a⟩).toArray 151))).trans (Tn.of_gb hg6 fun k e _ => .inr (by have:=hno k e; omega))
  obtain ⟨g6,c6,rfl,hgg,_⟩:=ho6.1.form (Nat.succ_pos _)
  have JP7:=Lh (JP6.turn (Tn.set (M:=fun k => k = G) w6 G 3 (.slice (some ⟨g6,0,none⟩) (m.la.length + 1) c6) rfl) (fun k h1 _ e => by omega))
  have J7 : Hid (Frd C G hl he ⟨im,.slice (some ⟨g6,0,none⟩) (m.la.length + 1) c6,ef,va,fn⟩ (w6.setCell ⟨G,3,none⟩ (.slice (some ⟨g6,0,none⟩) (m.la.length + 1) c6)) y1.2):=Lh ⟨J6.cur.turn (Tn.set (M:=fun k => k = G) w6 G 3 _ rfl) (fun k hk e => by omega),J6.v.set 3 _ (by show 3 < 9; omega),hgt⟩
  have JT7:=Lh (JT6.trans (Tn.set w6 G 3 (.slice (some ⟨g6,0,none⟩) (m.la.length + 1) c6) (.inr (Nat.le_refl G))))
  have tG:=J6.v.there (o:=3) (n:=1) (by show 3 + 1 ≤ 9; omega)
  have hS6:=HS.out _ _ J6 J46
  refine hKK _ _ hS6 ?_
  clear hKK KK J6 JP6 JT6 J46 ho6 hg6 hv6 tg hnK
  simp only [Act.put,sA,sB,sC]
  refine wpM_next 9 3 1 (by kernel_rfl) (fun _ _ d _ _ h => by cases d <;> exact h) hS6 (fun hne => ?_)
  simp only [sD,sE,sF,sG]
  repeat (go_big_quiet_step (fail))
  refine wpQuiet_nil ?_
  refine wpM_late (i:=12) (fuel:=0) (by kernel_rfl) (by omega) rfl (fun KK hKK => ?_)
  refine step_st1 rfl 25 (.tmp 28) (.tmp 25) rfl G 3 rfl (v:=.slice (some ⟨g6,0,none⟩) (m.la.length + 1) c6) tG rfl (by kernel_rfl) rfl ?_
  refine hKK _ _ ?_
  clear hKK KK
  refine wpAny_done (by kernel_rfl) ?_ _
  go_wp2_with fail
  refine bodyPost_end (results_none rfl _ _ _) rfl ?_
  exact ⟨rfl,_,J7.out,JP7.out,JT7.out⟩
def errOf (w : World) (g : Nat) : Int:=match w.cell? ⟨g,8,none⟩ with
 | some (.int _ r) => r
 | _ => 0
theorem errOf_eq {C : Cx} {G : Nat} {hl he : Bool} {v : MoV} {w : World} {x : Nat × Int} (h : Frd C G hl he v w x) : errOf w G = x.2:=by unfold errOf; rw [h.c8]
def msrF (C : Cx) (G : Nat) (w : World) : Nat:=2 * (C.L.length - placeOf w C.g) + (if errOf w G = 0 then 1 else 0)
theorem msrF_eq {C : Cx} {G : Nat} {hl he : Bool} {v : MoV} {w : World} {x : Nat × Int} (h : Frd C G hl he v w x) : msrF C G w = 2 * (C.L.length - x.1) + (if x.2 = 0 then 1 else 0):=by
 unfold msrF
 rw [errOf_eq h,placeOf_eq h.cur]
theorem msrF_lt {R : Rw} {n : Nat} (hn : R.n = n) {k : Nat} {x y : Nat × Int} (h : Up R (k + 1) x y) (hx : x.2 = 0) : 2 * (n - y.1) + (if y.2 = 0 then 1 else 0) < 2 * (n - x.1) + (if x.2 = 0 then 1 else 0):=by
 have h1:=h.le
 have h2:=h.n
 rw [if_pos hx]
 by_cases h0 : y.2 = 0
 ·have:=h.st h0
  rw [if_pos h0]; omega
 ·rw [if_neg h0]; omega
section
variable {σ : Type} {R : Rw} {one : σ → Nat × Int → σ × (Nat × Int)} {s : σ} {x : Nat × Int} {g : Nat}
theorem lnsL_end (h : ¬ x.2 = 0) : lnsL R one g s x = (s,x):=by
 cases g with
 | zero => rfl
 | succ g => unfold lnsL; rw [if_neg h]
theorem lnsL_ket {p : Nat} (h : R.is p [125] = true) : lnsL R one (g + 1) s (p,0) = (s,(p + 1,0)):=by unfold lnsL; rw [if_pos rfl,if_pos h]
theorem lnsL_on {p : Nat} (h : R.is p [125] = false) : lnsL R one (g + 1) s (p,0) = lnsL R one g (one s (p,0)).1 (mu R (one s (p,0)).2 [wSem]):=by
 conv => lhs; unfold lnsL
 rw [if_pos rfl,if_neg (by rw [h]; decide)]
theorem lstL_end (h : tkW R x [44] = false) : lstL R one g s x = (s,x):=by
 cases g with
 | zero => rfl
 | succ g => unfold lstL; rw [if_neg (by rw [h]; decide)]
theorem lstL_on (h : tkW R x [44] = true) : lstL R one (g + 1) s x = lstL R one g (one s (tkX x true)).1 (one s (tkX x true)).2:=by
 conv => lhs; unfold lstL
 rw [if_pos h]
end
abbrev DaT (σ : Type):=σ → Nat → Bool → Bool → MoV → World → Prop
def OneTo {σ : Type} (C : Cx) (G : Nat) (D : DaT σ) (y : σ × (Nat × Int)) (e : Ending) (w' : World) : Prop:=
 ∃ hl he v,e = .returned none0 ∧ Frd C G hl he v w' y.2 ∧ D y.1 (capX y.2) hl he v w'
set_option maxRecDepth 10000 in
theorem flines {σ : Type} (C : Cx) (hC : TokOk C.T C.L) (hR : C.R.Ok) (G : Nat) (D : DaT σ)
  (hD : ∀ s k k' a b v W W',D s k a b v W → k ≤ k' → Tn (Rdr.M C G) W W' → D s k' a b v W')
  (one : σ → Nat × Int → σ × (Nat × Int)) (hone1 : ∀ s (x : Nat × Int),x.1 ≤ C.R.n → Up C.R 0 x (one s x).2)
  (fi : Nat) (A Cc : Array Value) (eg : ∀ args w,(callFunc fi args).run Tryz.prog w = .ok (.enter fi args) w)
  (hone : ∀ s hl he v W (x : Nat × Int),x.2 = 0 → Frd C G hl he v W x → D s (capX x) hl he v W → CP fi (A ++ Cc) W (OneTo C G D (one s x)))
  (f : Nat) (hf : C.L.length < f) (s : σ) (hl he : Bool) (v : MoV) (x : Nat × Int) (w : World) (h : Frd C G hl he v w x) (hd : D s (capX x) hl he v w) :
  CP 60 #[.pointer (some ⟨G,0,none⟩),.func (.func fi) A Cc] w (OneTo C G D (lns C.R one f s x)):=by
 have hHM : ∀ hl he v (x : Nat × Int) W,Frd C G hl he v W x → CP 57 #[.pointer (some ⟨G,0,none⟩),.slice (some ⟨W.heap.size,0,none⟩) 1 1] (W.alloc (.cells #[.string ⟨#[59]⟩] 9)) (FGo C G hl he v none0 (mu C.R x [wSem]) W):=fun hl he v x W hW => fmust1 C hC G hl he v x W hW ⟨#[59]⟩ (by decide)
 have HM1:=Lh (fmust1 C hC G hl he v x w h ⟨#[123]⟩ (by decide))
 have HM:=Lh hHM
 have HK : Hid (∀ hl he v (x : Nat × Int) W,Frd C G hl he v W x → CP 92 #[.pointer (some ⟨G,0,none⟩),.string ⟨#[125]⟩] W (FGo C G hl he v (.bool (tkW C.R x [125])) (tkX x (tkW C.R x [125])) W)):=Lh fun hl he v x W hW => ftakeW C hC G hl he v x W hW 125 []
 have HD:=Lh hD
 have HO:=Lh hone
 have HO1:=Lh hone1
 have HDD:=Lh hd
 have hxn:=h.cur.le
 have hup:=mw hR 123 [] (x:=x) h.cur.le
 have HUP:=Lh hup
 have HF:=Lh hf
 obtain ⟨X,hX⟩ : ∃ X,lns C.R one f s x = X:=⟨_,rfl⟩
 rw [hX]
 have HX : Hid (lnsL C.R one f s (mu C.R x [wBra]) = X):=Lh hX
 clear hX hHM hD hone hone1 hd h hup hf
 go_enter Tryz.func60,Tryz.ntmps60
 go_wp2_with (first
  | (go_at_call 57; (with_reducible refine HM1.out.mono ?_); rintro e w2 ⟨rfl,hr,ht⟩; have J:=Lh hr; have JT:=Lh ht; clear hr ht; dsimp only; refine Hid.out ?_)
  | fail)
 have JD:=Lh (HD.out _ _ _ _ _ _ _ _ HDD.out (capX_le HUP.out) JT.out)
 obtain ⟨x0,hx0⟩ : ∃ x0,mu C.R x [wBra] = x0:=⟨_,rfl⟩
 have J : Hid (Frd C G hl he v w2 x0):=Lh (by rw [← hx0]; exact J.out)
 have JD : Hid (D s (capX x0) hl he v w2):=Lh (by rw [← hx0]; exact JD.out)
 have HX : Hid (lnsL C.R one f s x0 = X):=Lh (by rw [← hx0]; exact HX.out)
 clear HM1 HUP HDD hx0 hxn JT
 refine Lh ?_
 go_wp2_with fail
 go_loopw [] (fun wr => ∃ (s : σ) (x : Nat × Int) (hl he : Bool) (v : MoV) (g : Nat),Frd C G hl he v wr x ∧ D s (capX x) hl he v wr ∧ lnsL C.R one g s x = X ∧ (x.2 = 0 → C.L.length < x.1 + g)) (fun wr => msrF C G wr)
 case atStart => exact ⟨s,x0,hl,he,v,f,J.out,JD.out,HX.out,fun _ => by have:=HF.out; omega⟩
 case round =>
  clear J JD HX
  obtain ⟨s1,⟨p,r⟩,hl1,he1,v1,g,hj,hd1,hx1,hg⟩:=hrel
  have hms:=msrF_eq hj
  have hpn:=hj.cur.le
  have J:=Lh hj
  have JD:=Lh hd1
  have HX:=Lh hx1
  have c8:=J.out.c8
  have hup0:=Lh (HO1.out s1 (p,r) hpn)
  dsimp only at c8 hpn hms hg
  clear hj hd1 hx1
  by_cases hr : r = 0
  ·subst hr
   obtain ⟨g,rfl⟩ : ∃ g',g = g' + 1:=⟨g - 1,by have:=hg rfl; omega⟩
   have hKK:=HK.out hl1 he1 v1 (p,0) wr J.out
   rw [tkW0] at hKK
   cases hb : C.R.is p [125] with
   | true =>
    rw [hb] at hKK
    have HKK:=Lh hKK
    have HX2 : Hid ((s1,(p + 1,(0 : Int))) = X):=Lh (by rw [← HX.out,lnsL_ket hb])
    clear hKK HX hg hms
    go_wp2_with (first
     | (go_at_call 92; (with_reducible refine HKK.out.mono ?_); rintro e w3 ⟨rfl,hr,ht⟩; have J3:=Lh (show Frd C G hl1 he1 v1 w3 (p + 1,0) from hr); have JT3:=Lh ht; clear hr ht; dsimp only)
     | fail)
    refine bodyPost_end (results_none rfl _ _ _) rfl ?_
    rw [← HX2.out]
    exact ⟨hl1,he1,v1,rfl,J3.out,HD.out _ _ _ _ _ _ _ _ JD.out (by unfold capX; simp) JT3.out⟩
   | false =>
    rw [hb] at hKK
    have HKK:=Lh hKK
    have HX2 : Hid (lnsL C.R one g (one s1 (p,0)).1 (mu C.R (one s1 (p,0)).2 [wSem]) = X):=Lh (by rw [← HX.out,lnsL_on hb])
    obtain ⟨y,hy⟩ : ∃ y,one s1 (p,0) = y:=⟨_,rfl⟩
    have hOO:=fun W hW hDW => HO.out s1 hl1 he1 v1 W (p,0) rfl hW hDW
    rw [hy] at hOO
    rw [hy] at HX2 hup0
    have hup1:=mw hR 59 [] (x:=y.2) hup0.out.n
    have HUP:=Lh (hup0.out.trans hup1)
    have HUP1:=Lh hup1
    have HOO:=Lh hOO
    have HG : Hid (C.L.length < p + (g + 1)):=Lh (hg rfl)
    have HMS:=Lh hms
    clear hKK HX hg hms hy hOO hup0 hup1
    go_wp2_with (first
     | (go_at_call 92; (with_reducible refine HKK.out.mono ?_); rintro e w3 ⟨rfl,hr,ht⟩; have J3:=Lh (show Frd C G hl1 he1 v1 w3 (p,0) from hr); have JD3:=Lh (HD.out _ _ _ _ _ _ _ _ JD.out nLe ht); clear hr ht; dsimp only)
     | fail)
    refine (HOO.out w3 J3.out JD3.out).mono ?_
    rintro e w4 ⟨hl2,he2,v2,rfl,hr,hd⟩
    have J4:=Lh hr
    have JD4:=Lh hd
    clear hr hd
    go_wp2_with (first
     | (go_at_call 57; (with_reducible refine (HM.out hl2 he2 v2 y.2 w4 J4.out).mono ?_); rintro e w5 ⟨rfl,hr,ht⟩; have J5:=Lh hr; have JD5:=Lh (HD.out _ _ _ _ _ _ _ _ JD4.out (capX_le HUP1.out) ht); clear hr ht; dsimp only)
     | fail)
    go_roundw
    case rel => exact ⟨y.1,_,hl2,he2,v2,g,J5.out,JD5.out,HX2.out,fun h0 => by have h1 : p + (0 + 1) ≤ (mu C.R y.2 [wSem]).1:=(HUP.out.st h0).2; have h2:=HG.out; omega⟩
    case measure => rw [HMS.out,msrF_eq J5.out]; exact msrF_lt rfl HUP.out rfl
  ·have HX2 : Hid ((s1,(p,r)) = X):=Lh (by rw [← HX.out,lnsL_end hr])
   have hr1 : (r == 0) = false:=by simp [hr]
   have hr2 : decide (r = 0) = false:=by simp [hr]
   clear HX hg hms
   go_wp2_with fail
   refine bodyPost_end (results_none rfl _ _ _) rfl ?_
   rw [← HX2.out]
   exact ⟨hl1,he1,v1,rfl,J.out,JD.out⟩
set_option maxRecDepth 10000 in
theorem flist {σ : Type} (C : Cx) (hC : TokOk C.T C.L) (hR : C.R.Ok) (G : Nat) (D : DaT σ)
  (hD : ∀ s k k' a b v W W',D s k a b v W → k ≤ k' → Tn (Rdr.M C G) W W' → D s k' a b v W')
  (one : σ → Nat × Int → σ × (Nat × Int)) (hone1 : ∀ s (x : Nat × Int),x.1 ≤ C.R.n → Up C.R 0 x (one s x).2)
  (fi : Nat) (A Cc : Array Value) (eg : ∀ args w,(callFunc fi args).run Tryz.prog w = .ok (.enter fi args) w)
  (s0 : σ) (hone : ∀ s hl he v W (x : Nat × Int),(x.2 = 0 ∨ s = s0) → Frd C G hl he v W x → D s (capX x) hl he v W → CP fi (A ++ Cc) W (OneTo C G D (one s x)))
  (c : UInt8) (t : List UInt8) (f : Nat) (hf : C.L.length < f) (hl he : Bool) (v : MoV) (x : Nat × Int) (w : World) (h : Frd C G hl he v w x) (hd : D s0 (capX x) hl he v w) :
  CP 98 #[.pointer (some ⟨G,0,none⟩),.string ⟨(c :: t).toArray⟩,.func (.func fi) A Cc] w (OneTo C G D (lst C.R one ⟨(c :: t).toArray⟩ f s0 x)):=by
 obtain ⟨E,hE⟩ : ∃ E : ByteArray,⟨(c :: t).toArray⟩ = E:=⟨_,rfl⟩
 have hEl : E.toList = c :: t:=by rw [← hE]; exact wd1 c t
 have hEs : E.size ≠ 0:=by rw [← hE]; show (c :: t).toArray.size ≠ 0; simp
 rw [hE]
 have HM : Hid (∀ hl he v (x : Nat × Int) W,Frd C G hl he v W x → CP 57 #[.pointer (some ⟨G,0,none⟩),.slice (some ⟨W.heap.size,0,none⟩) 1 1] (W.alloc (.cells #[.string E] 9)) (FGo C G hl he v none0 (mu C.R x [E]) W)):=Lh fun hl he v x W hW => fmust1 C hC G hl he v x W hW E hEs
 have HK : Hid (∀ hl he v (x : Nat × Int) W,Frd C G hl he v W x → CP 92 #[.pointer (some ⟨G,0,none⟩),.string ⟨#[44]⟩] W (FGo C G hl he v (.bool (tkW C.R x [44])) (tkX x (tkW C.R x [44])) W)):=Lh fun hl he v x W hW => ftakeW C hC G hl he v x W hW 44 []
 have hK1:=ftakeL C hC G hl he v x w h E hEs
 have HUE : Hid (∀ y : Nat × Int,y.1 ≤ C.R.n → Up C.R 1 y (mu C.R y [E])):=Lh fun y hy => by rw [← hE]; exact mw hR c t hy
 have HUT : Hid (∀ y : Nat × Int,y.1 ≤ C.R.n → tkW C.R y E.toList = true → Up C.R 1 y (tkX y true)):=Lh fun y hy hb => by rw [hEl] at hb; exact tk_up hR hy hb
 have HD:=Lh hD
 have HO:=Lh hone
 have HO1:=Lh hone1
 have JD:=Lh hd
 have J:=Lh h
 have hxn:=h.cur.le
 have HF:=Lh hf
 obtain ⟨X,hX⟩ : ∃ X,lst C.R one E f s0 x = X:=⟨_,rfl⟩
 rw [hX]
 have HX:=Lh hX
 clear hX hD hone hone1 hd h hf hE hEl hEs
 cases hb : tkW C.R x E.toList with
 | true =>
  rw [hb] at hK1
  have HK1:=Lh hK1
  have HX2 : Hid ((s0,tkX x true) = X):=Lh (by rw [← HX.out]; unfold lst; rw [if_pos hb])
  have HU:=Lh (HUT.out x hxn hb)
  clear hK1 HX hb hxn
  go_enter Tryz.func98,Tryz.ntmps98
  go_wp2_with (first
   | (go_at_call 92; (with_reducible refine HK1.out.mono ?_); rintro e w3 ⟨rfl,hr,ht⟩; have J3:=Lh hr; have JT3:=Lh ht; clear hr ht; dsimp only)
   | fail)
  refine bodyPost_ret (results_none rfl _ _ _) rfl ?_
  rw [← HX2.out]
  exact ⟨hl,he,v,rfl,J3.out,HD.out _ _ _ _ _ _ _ _ JD.out (capX_le HU.out) JT3.out⟩
 | false =>
  rw [hb] at hK1
  have HK1:=Lh hK1
  obtain ⟨y,hy⟩ : ∃ y,one s0 x = y:=⟨_,rfl⟩
  have HX2 : Hid (((lstL C.R one f y.1 y.2).1,mu C.R (lstL C.R one f y.1 y.2).2 [E]) = X):=Lh (by rw [← HX.out,← hy]; unfold lst; rw [if_neg (by rw [hb]; decide)])
  have hOO:=fun W hW hDW => HO.out s0 hl he v W x (.inr rfl) hW hDW
  rw [hy] at hOO
  have HOO:=Lh hOO
  clear hK1 HX hb hOO hy
  go_enter Tryz.func98,Tryz.ntmps98
  go_wp2_with (first
   | (go_at_call 92; (with_reducible refine HK1.out.mono ?_); rintro e w3 ⟨rfl,hr,ht⟩; have J3:=Lh (show Frd C G hl he v w3 x from hr); have JD3:=Lh (HD.out _ _ _ _ _ _ _ _ JD.out nLe ht); clear hr ht; dsimp only)
   | fail)
  refine (HOO.out w3 J3.out JD3.out).mono ?_
  rintro e w4 ⟨hl2,he2,v2,rfl,hr,hd⟩
  have J4:=Lh hr
  have JD4:=Lh hd
  obtain ⟨z,hz⟩ : ∃ z,lstL C.R one f y.1 y.2 = z:=⟨_,rfl⟩
  have HX3 : Hid ((z.1,mu C.R z.2 [E]) = X):=Lh (by rw [← hz]; exact HX2.out)
  have HZ:=Lh hz
  clear hr hd J JD J3 JD3 HOO HK1 HX2 hz
  go_wp2_with fail
  go_loopw [] (fun wr => ∃ (s : σ) (x : Nat × Int) (hl he : Bool) (v : MoV) (g : Nat),Frd C G hl he v wr x ∧ D s (capX x) hl he v wr ∧ lstL C.R one g s x = z ∧ (x.2 = 0 → C.L.length < x.1 + g)) (fun wr => msrF C G wr)
  case atStart => exact ⟨y.1,y.2,hl2,he2,v2,f,J4.out,JD4.out,HZ.out,fun _ => by have:=HF.out; omega⟩
  case round =>
   clear J4 JD4 HZ
   obtain ⟨s1,x1,hl1,he1,v1,g,hj,hd1,hx1,hg⟩:=hrel
   have hms:=msrF_eq hj
   have hpn:=hj.cur.le
   have J:=Lh hj
   have JD:=Lh hd1
   have HZ:=Lh hx1
   have hKK:=HK.out hl1 he1 v1 x1 wr J.out
   clear hj hd1 hx1
   cases hb : tkW C.R x1 [44] with
   | true =>
    have h0 : x1.2 = 0:=by
     unfold tkW at hb
     split at hb
     ·assumption
     ·cases hb
    obtain ⟨g,rfl⟩ : ∃ g',g = g' + 1:=⟨g - 1,by have:=hg h0; omega⟩
    rw [hb] at hKK
    have HKK:=Lh hKK
    have hu1:=tk_up hR (x:=x1) hpn hb
    have hu2:=HO1.out s1 (tkX x1 true) hu1.n
    have HZ2 : Hid (lstL C.R one g (one s1 (tkX x1 true)).1 (one s1 (tkX x1 true)).2 = z):=Lh (by rw [← HZ.out,lstL_on hb])
    obtain ⟨u,hu⟩ : ∃ u,one s1 (tkX x1 true) = u:=⟨_,rfl⟩
    have hOO:=fun W hW hDW => HO.out s1 hl1 he1 v1 W (tkX x1 true) (.inl h0) hW hDW
    rw [hu] at hOO hu2
    rw [hu] at HZ2
    have HUP:=Lh (hu1.trans hu2)
    have HU1:=Lh hu1
    have HOO:=Lh hOO
    have HG : Hid (C.L.length < x1.1 + (g + 1)):=Lh (hg h0)
    have HMS:=Lh hms
    have H0:=Lh h0
    clear hKK HZ hg hms hu hOO hu1 hu2 h0 hb
    go_wp2_with (first
     | (go_at_call 92; (with_reducible refine HKK.out.mono ?_); rintro e w5 ⟨rfl,hr,ht⟩; have J5:=Lh hr; have JD5:=Lh (HD.out _ _ _ _ _ _ _ _ JD.out (capX_le HU1.out) ht); clear hr ht; dsimp only)
     | fail)
    refine (HOO.out w5 J5.out JD5.out).mono ?_
    rintro e w6 ⟨hl3,he3,v3,rfl,hr,hd⟩
    have J6:=Lh hr
    have JD6:=Lh hd
    clear hr hd
    go_wp2_with fail
    go_roundw
    case rel => exact ⟨u.1,u.2,hl3,he3,v3,g,J6.out,JD6.out,HZ2.out,fun h => by have h1:=(HUP.out.st h).2; have h2:=HG.out; omega⟩
    case measure => rw [HMS.out,msrF_eq J6.out]; exact msrF_lt rfl HUP.out H0.out
   | false =>
    rw [hb] at hKK
    have HKK:=Lh hKK
    have HZ2 : Hid ((s1,x1) = z):=Lh (by rw [← HZ.out,lstL_end hb])
    have HUE1:=Lh (HUE.out x1 hpn)
    clear hKK HZ hg hms hb
    go_wp2_with (first
     | (go_at_call 92; (with_reducible refine HKK.out.mono ?_); rintro e w5 ⟨rfl,hr,ht⟩; have J5:=Lh (show Frd C G hl1 he1 v1 w5 x1 from hr); have JD5:=Lh (HD.out _ _ _ _ _ _ _ _ JD.out nLe ht); clear hr ht; dsimp only)
     | (go_at_call 57; (with_reducible refine (HM.out hl1 he1 v1 x1 w5 J5.out).mono ?_); rintro e w6 ⟨rfl,hr,ht⟩; have J6:=Lh hr; have JD6:=Lh (HD.out _ _ _ _ _ _ _ _ JD5.out (capX_le HUE1.out) ht); clear hr ht; dsimp only)
     | fail)
    refine bodyPost_end (results_none rfl _ _ _) rfl ?_
    rw [← HX3.out,← HZ2.out]
    exact ⟨hl1,he1,v1,rfl,J6.out,JD6.out⟩
abbrev ptrG (G : Nat) : Value:=.pointer (some ⟨G,0,none⟩)
abbrev LsM (C : Cx) (G K B : Nat) : Nat → Prop:=fun k => k = C.g ∨ k = G ∨ k = K ∨ B ≤ k
theorem Tn.ls {C : Cx} {G K B : Nat} {w w1 w2 : World} (h : Tn (LsM C G K B) w w1) (ht : Tn (Rdr.M C G) w1 w2) : Tn (LsM C G K B) w w2:=h.trans (ht.weak fun k _ h => h.elim .inl (fun h => .inr (.inl h)))
def DaP (C : Cx) (G K : Nat) (hl he : Bool) (v : MoV) (f0 : FnT) (fv : FnV) (w1 : World) : DaT (List VrT):=fun s k a b u W =>
 a = hl ∧ b = he ∧ u = v ∧ s.length ≤ k ∧ (∃ pv,Var W K (fnC f0 { fv with ps:=pv }) ∧ Own W w1.heap.size 71 8 pv s.length (vrs s)) ∧ Tn (LsM C G K w1.heap.size) w1 W
def DaN (C : Cx) (G K : Nat) (hl he : Bool) (v : MoV) (f0 : FnT) (fv : FnV) (w1 : World) : DaT (List NmT):=fun s k a b u W =>
 a = hl ∧ b = he ∧ u = v ∧ s.length ≤ k ∧ (∃ pv,Var W K (fnC f0 { fv with rl:=pv }) ∧ Own W w1.heap.size 109 2 pv s.length (nms s)) ∧ Tn (LsM C G K w1.heap.size) w1 W
section
variable {C : Cx} {G K : Nat} {hl he : Bool} {v : MoV} {f0 : FnT} {fv : FnV} {w1 : World}
theorem DaP.keep (hg : C.g < G) (hK : G < K) (hw : K < w1.heap.size) : ∀ s k k' a b u W W',DaP C G K hl he v f0 fv w1 s k a b u W → k ≤ k' → Tn (Rdr.M C G) W W' → DaP C G K hl he v f0 fv w1 s k' a b u W':=by
 rintro s k k' a b u W W' ⟨h1,h2,h3,h4,⟨pv,h5,h6⟩,h7⟩ hk ht
 exact ⟨h1,h2,h3,Nat.le_trans h4 hk,⟨pv,h5.turn ht (fun h => by rcases h with h | h <;> omega),h6.turn ht (fun k hk h => by have:=(h6.1.lt k hk).1; rcases h with h | h <;> omega)⟩,h7.ls ht⟩
theorem DaN.keep (hg : C.g < G) (hK : G < K) (hw : K < w1.heap.size) : ∀ s k k' a b u W W',DaN C G K hl he v f0 fv w1 s k a b u W → k ≤ k' → Tn (Rdr.M C G) W W' → DaN C G K hl he v f0 fv w1 s k' a b u W':=by
 rintro s k k' a b u W W' ⟨h1,h2,h3,h4,⟨pv,h5,h6⟩,h7⟩ hk ht
 exact ⟨h1,h2,h3,Nat.le_trans h4 hk,⟨pv,h5.turn ht (fun h => by rcases h with h | h <;> omega),h6.turn ht (fun k hk h => by have:=(h6.1.lt k hk).1; rcases h with h | h <;> omega)⟩,h7.ls ht⟩
end
theorem enters_f1 : ∀ args w,(callFunc 99 args).run Tryz.prog w = .ok (.enter 99 args) w:=enters_of Tryz.func99 (by kernel_rfl) rfl
theorem enters_f2 : ∀ args w,(callFunc 100 args).run Tryz.prog w = .ok (.enter 100 args) w:=enters_of Tryz.func100 (by kernel_rfl) rfl
theorem cap1 {R : Rw} {x y : Nat × Int} {α : Type} {s : List α} (hU : Up R 1 x y) (hs : s.length ≤ capX x) (h0 : x.2 = 0 ∨ s = []) : s.length + 1 ≤ capX y:=by
 rcases h0 with h0 | h0
 ·have:=capX_lt hU h0; omega
 ·subst h0
  unfold capX
  have h1:=hU.le
  by_cases hy : y.2 = 0
  ·have:=(hU.st hy).2; rw [if_pos hy]; simp; omega
  ·rw [if_neg hy]; simp
set_option maxRecDepth 10000 in
theorem fun1_any (C : Cx) (hC : TokOk C.T C.L) (hR : C.R.Ok) (hn : C.L.length < 1000000) (G K Pb : Nat) (hgt : C.g < G) (hGP : G < Pb) (hPK : Pb < K) (hl he : Bool) (v : MoV) (f0 : FnT) (fv : FnV) (w1 : World) (hw1 : K < w1.heap.size) (hb : Var w1 Pb [ptrG G])
  (s : List VrT) (a b : Bool) (u : MoV) (W : World) (x : Nat × Int) (h0 : x.2 = 0 ∨ s = []) (h : Frd C G a b u W x) (hd : DaP C G K hl he v f0 fv w1 s (capX x) a b u W) :
  CP 99 #[ptrG K,ptrG Pb] W (OneTo C G (DaP C G K hl he v f0 fv w1) (onV C.R s x)):=by
 obtain ⟨rfl,rfl,rfl,hsl,⟨pv,hK,hO⟩,hT⟩:=hd
 obtain ⟨A2,c2,rfl⟩:=hO.form
 have hxn:=h.cur.le
 have hcx:=capX_n (R:=C.R) (x:=x) hxn
 have hcx : capX x ≤ 1000001:=Nat.le_trans hcx (by show C.L.length + 1 ≤ 1000001; omega)
 have hup:=onV_up hR s hxn
 have hcap:=Lh (cap1 hup hsl h0)
 have JB : Hid (Var W Pb [ptrG G]):=Lh (hb.turn hT (by intro h; rcases h with h | h | h | h <;> omega))
 have kb:=JB.out.at 0 rfl
 have k2:=hK.at 2 rfl
 have J:=Lh h
 have JK:=Lh hK
 have JO:=Lh hO
 have JT:=Lh hT
 have hGW:=h.v.lt
 have hKW:=hK.lt
 have g8:=h.c8
 have f8:=h.fz 8 (by omega)
 clear h hK hO hT hb hup h0
 by_cases hs8 : s.length = 8
 ·have e1 : ((s.length : Int) == 8) = true:=by simp; omega
  have e2 : decide ((s.length : Int) = 8) = true:=decide_eq_true (by omega)
  have e3 : decide (s.length = 8) = true:=decide_eq_true hs8
  go_enter Tryz.func99,Tryz.ntmps99
  go_wp2_with fail
  have J:=Lh (J.out.err 3)
  have ts:=Tn.set (M:=fun k => k = G) W G 8 (.int .i64 3) rfl
  have JB:=Lh (JB.out.turn ts (by omega))
  have JK:=Lh (JK.out.turn ts (by omega))
  have JO:=Lh (JO.out.turn ts (fun k hk e => by have:=(JO.out.1.lt k hk).1; omega))
  have JT:=Lh (JT.out.trans (Tn.set W G 8 (.int .i64 3) (.inr (.inl rfl))))
  clear ts
  have J:=Lh (show Frd C G a b u (W.setCell ⟨G,8,none⟩ (.int .i64 3)).drew (x.1,3) from J.out.under (below_drew _ _))
  have JB:=Lh (JB.out.under (below_drew _ _))
  have JK:=Lh (JK.out.under (below_drew _ _))
  have JO:=Lh (JO.out.turn (Tn.drew (fun _ => False) _) (fun _ _ h => h))
  have JT:=Lh (JT.out.trans (Tn.drew _ _))
  obtain ⟨y,hy⟩ : ∃ y,fvr C.R (x.1,3) = y:=⟨_,rfl⟩
  have HN : Hid (∀ W,Frd C G a b u W (x.1,3) → CP 63 #[ptrG G] W (FGo C G a b u (vrV y.1) y.2 W)):=Lh fun W hW => by
   have:=fvariable C hC G a b u (x.1,3) W hW
   rwa [hy] at this
  have HX : Hid (onV C.R s x = (s ++ [y.1],y.2)):=Lh (by rw [← hy]; unfold onV; rw [if_pos hs8])
  rw [HX.out] at hcap
  obtain ⟨S,hSd⟩ : ∃ S : World → Prop,S = fun W => W.cell? ⟨K,2,none⟩ = some (.slice A2 s.length c2) ∧ W.cell? ⟨Pb,0,none⟩ = some (ptrG G):=⟨_,rfl⟩
  have hSF : ∀ W,S W → W.cell? ⟨K,2,none⟩ = some (.slice A2 s.length c2) ∧ W.cell? ⟨Pb,0,none⟩ = some (ptrG G):=by rw [hSd]; exact fun W h => h
  have s2 : ∀ sw : SW S,sw.w.cell? ⟨K,2,none⟩ = some (.slice A2 s.length c2):=fun sw => (hSF _ sw.h).1
  have sb : ∀ sw : SW S,sw.w.cell? ⟨Pb,0,none⟩ = some (ptrG G):=fun sw => (hSF _ sw.h).2
  have HS : Hid (∀ W,Var W K (fnC f0 { fv with ps:=(.slice A2 s.length c2) }) → Var W Pb [ptrG G] → S W):=Lh fun W h1 h2 => by rw [hSd]; exact ⟨h1.at 2 rfl,h2.at 0 rfl⟩
  have hS0:=HS.out _ JK.out JB.out
  clear hSd hSF hy kb k2 g8 f8 hs8 e1 e2 e3
  try dsimp only [Act.put]
  refine region_start (by kernel_rfl) 8 rfl ?_
  refine wpAny_hold S 7 (by kernel_rfl) ?_
  refine wpM_next 0 3 5 (by kernel_rfl) (fun _ _ d _ _ h => by cases d <;> exact h) hS0 (fun hne => ?_)
  simp only [sD,sE,sF,sG]
  repeat (go_big_quiet_step (fail))
  refine wpQuiet_nil ?_
  refine wpM_one (i:=3) (fuel:=4) (by kernel_rfl) (by omega) rfl (fun KK hKK => ?_)
  go_simp
  with_reducible refine (HN.out _ J.out).mono ?_
  rintro e wz ⟨rfl,hr,ht⟩
  have JB:=Lh (JB.out.turn ht (by intro h; rcases h with h | h <;> omega))
  have JK:=Lh (JK.out.turn ht (by intro h; rcases h with h | h <;> omega))
  have JO:=Lh (JO.out.turn ht (fun k hk h => by have:=(JO.out.1.lt k hk).1; rcases h with h | h <;> omega))
  have JT:=Lh (JT.out.ls ht)
  have J:=Lh hr
  clear hr ht
  refine hKK _ _ (HS.out _ JK.out JB.out) ?_
  clear hKK KK
  refine wpM_one (i:=4) (fuel:=3) (by kernel_rfl) (by omega) rfl (fun KK hKK => ?_)
  refine step_build1 rfl 26 71 (.tmp 12) rfl (vrC y.1) rfl (by simp [vrC]) (by simp [vrC]) Tryz.underlying26 info_vr (by kernel_rfl) ?_
  refine hKK _ _ (HS.out _ (JK.out.under bAl) (JB.out.under bAl)) ?_
  clear hKK KK
  refine wpM_one (i:=5) (fuel:=2) (by kernel_rfl) (by omega) rfl (fun KK hKK => ?_)
  refine step_push_b rfl (.tmp 10) (.tmp 13) 26 rfl rowVr wz w1.heap.size (.slice A2 s.length c2) s.length (vrs s) (vrC y.1) rfl JO.out rfl rfl rfl (vrC_one _) (by omega) (by omega) ?_
  intro v6 w6 ho6 hg6 hv6
  have hno : ∀ k,(Value.slice A2 s.length c2).ownBlock = some k → w1.heap.size ≤ k:=fun k hk => (JO.out.1.lt k hk).1
  have tg:=Tn.of_gb (M:=fun k => (Value.slice A2 s.length c2).ownBlock = some k) hg6 fun k e _ => e
  have ta:=Tn.alloc (fun k => (Value.slice A2 s.length c2).ownBlock = some k) wz (.cells (vrC y.1).toArray 71)
  have J6:=J.out.turn (ta.trans tg) (fun k hk e => by have:=hno k e; omega)
  have JK6:=JK.out.turn (ta.trans tg) (fun e => by have:=hno _ e; omega)
  have JB6:=JB.out.turn (ta.trans tg) (fun e => by have:=hno _ e; omega)
  have JT6:=JT.out.trans ((ta.trans tg).weak fun k _ e => .inr (.inr (.inr (hno k e))))
  obtain ⟨g6,c6,rfl,hgg,_⟩:=ho6.1.form (Nat.succ_pos _)
  have tK:=JK6.there (o:=2) (n:=1) (by show 2 + 1 ≤ 18; omega)
  have ts:=Tn.set (M:=fun k => k = K) w6 K 2 (.slice (some ⟨g6,0,none⟩) (s.length + 1) c6) rfl
  have J7:=Lh (J6.turn ts (fun k hk e => by omega))
  have JK7 : Hid (Var (w6.setCell ⟨K,2,none⟩ (.slice (some ⟨g6,0,none⟩) (s.length + 1) c6)) K (fnC f0 { fv with ps:=.slice (some ⟨g6,0,none⟩) (s.length + 1) c6 })):=Lh (JK6.set 2 _ (by show 2 < 18; omega))
  have JO7:=Lh (ho6.turn ts (fun k hk e => by have:=(ho6.1.lt k hk).1; omega))
  have JT7:=Lh (JT6.trans (Tn.set w6 K 2 (.slice (some ⟨g6,0,none⟩) (s.length + 1) c6) (.inr (.inr (.inl rfl)))))
  have hS6:=HS.out _ JK6 JB6
  refine hKK _ _ hS6 ?_
  clear hKK KK J6 JK6 JB6 JT6 ho6 hg6 hv6 ta tg ts
  simp only [Act.put,sA,sB,sC]
  refine wpM_next 6 1 1 (by kernel_rfl) (fun _ _ d _ _ h => by cases d <;> exact h) hS6 (fun hne => ?_)
  simp only [sD,sE,sF,sG]
  repeat (go_big_quiet_step (fail))
  refine wpQuiet_nil ?_
  refine wpM_late (i:=7) (fuel:=0) (by kernel_rfl) (by omega) rfl (fun KK hKK => ?_)
  refine step_st1 rfl 26 (.tmp 15) (.tmp 14) rfl K 2 rfl (v:=.slice (some ⟨g6,0,none⟩) (s.length + 1) c6) tK rfl (by kernel_rfl) rfl ?_
  refine hKK _ _ ?_
  clear hKK KK
  refine wpAny_done (by kernel_rfl) ?_ _
  go_wp2_with fail
  refine bodyPost_end (results_none rfl _ _ _) rfl ?_
  rw [HX.out]
  exact ⟨a,b,u,rfl,J7.out,rfl,rfl,rfl,by have:=hcap.out; simp; exact this,⟨_,JK7.out,JO7.out.cast (by simp) (vrs_snoc _ _).symm⟩,JT7.out⟩
 ·have e1 : ((s.length : Int) == 8) = false:=by rw [beq_eq_false_iff_ne]; omega
  have e2 : decide ((s.length : Int) = 8) = false:=decide_eq_false (by omega)
  have e3 : decide (s.length = 8) = false:=decide_eq_false hs8
  go_enter Tryz.func99,Tryz.ntmps99
  go_wp2_with fail
  have J:=Lh (show Frd C G a b u W.drew x from J.out.under (below_drew _ _))
  have JB:=Lh (JB.out.under (below_drew _ _))
  have JK:=Lh (JK.out.under (below_drew _ _))
  have JO:=Lh (JO.out.turn (Tn.drew (fun _ => False) _) (fun _ _ h => h))
  have JT:=Lh (JT.out.trans (Tn.drew _ _))
  obtain ⟨y,hy⟩ : ∃ y,fvr C.R x = y:=⟨_,rfl⟩
  have HN : Hid (∀ W,Frd C G a b u W x → CP 63 #[ptrG G] W (FGo C G a b u (vrV y.1) y.2 W)):=Lh fun W hW => by
   have:=fvariable C hC G a b u x W hW
   rwa [hy] at this
  have HX : Hid (onV C.R s x = (s ++ [y.1],y.2)):=Lh (by rw [← hy]; unfold onV; rw [if_neg hs8])
  rw [HX.out] at hcap
  obtain ⟨S,hSd⟩ : ∃ S : World → Prop,S = fun W => W.cell? ⟨K,2,none⟩ = some (.slice A2 s.length c2) ∧ W.cell? ⟨Pb,0,none⟩ = some (ptrG G):=⟨_,rfl⟩
  have hSF : ∀ W,S W → W.cell? ⟨K,2,none⟩ = some (.slice A2 s.length c2) ∧ W.cell? ⟨Pb,0,none⟩ = some (ptrG G):=by rw [hSd]; exact fun W h => h
  have s2 : ∀ sw : SW S,sw.w.cell? ⟨K,2,none⟩ = some (.slice A2 s.length c2):=fun sw => (hSF _ sw.h).1
  have sb : ∀ sw : SW S,sw.w.cell? ⟨Pb,0,none⟩ = some (ptrG G):=fun sw => (hSF _ sw.h).2
  have HS : Hid (∀ W,Var W K (fnC f0 { fv with ps:=(.slice A2 s.length c2) }) → Var W Pb [ptrG G] → S W):=Lh fun W h1 h2 => by rw [hSd]; exact ⟨h1.at 2 rfl,h2.at 0 rfl⟩
  have hS0:=HS.out _ JK.out JB.out
  clear hSd hSF hy kb k2 g8 f8 hs8 e1 e2 e3
  try dsimp only [Act.put]
  refine region_start (by kernel_rfl) 8 rfl ?_
  refine wpAny_hold S 7 (by kernel_rfl) ?_
  refine wpM_next 0 3 5 (by kernel_rfl) (fun _ _ d _ _ h => by cases d <;> exact h) hS0 (fun hne => ?_)
  simp only [sD,sE,sF,sG]
  repeat (go_big_quiet_step (fail))
  refine wpQuiet_nil ?_
  refine wpM_one (i:=3) (fuel:=4) (by kernel_rfl) (by omega) rfl (fun KK hKK => ?_)
  go_simp
  with_reducible refine (HN.out _ J.out).mono ?_
  rintro e wz ⟨rfl,hr,ht⟩
  have JB:=Lh (JB.out.turn ht (by intro h; rcases h with h | h <;> omega))
  have JK:=Lh (JK.out.turn ht (by intro h; rcases h with h | h <;> omega))
  have JO:=Lh (JO.out.turn ht (fun k hk h => by have:=(JO.out.1.lt k hk).1; rcases h with h | h <;> omega))
  have JT:=Lh (JT.out.ls ht)
  have J:=Lh hr
  clear hr ht
  refine hKK _ _ (HS.out _ JK.out JB.out) ?_
  clear hKK KK
  refine wpM_one (i:=4) (fuel:=3) (by kernel_rfl) (by omega) rfl (fun KK hKK => ?_)
  refine step_build1 rfl 26 71 (.tmp 12) rfl (vrC y.1) rfl (by simp [vrC]) (by simp [vrC]) Tryz.underlying26 info_vr (by kernel_rfl) ?_
  refine hKK _ _ (HS.out _ (JK.out.under bAl) (JB.out.under bAl)) ?_
  clear hKK KK
  refine wpM_one (i:=5) (fuel:=2) (by kernel_rfl) (by omega) rfl (fun KK hKK => ?_)
  refine step_push_b rfl (.tmp 10) (.tmp 13) 26 rfl rowVr wz w1.heap.size (.slice A2 s.length c2) s.length (vrs s) (vrC y.1) rfl JO.out rfl rfl rfl (vrC_one _) (by omega) (by omega) ?_
  intro v6 w6 ho6 hg6 hv6
  have hno : ∀ k,(Value.slice A2 s.length c2).ownBlock = some k → w1.heap.size ≤ k:=fun k hk => (JO.out.1.lt k hk).1
  have tg:=Tn.of_gb (M:=fun k => (Value.slice A2 s.length c2).ownBlock = some k) hg6 fun k e _ => e
  have ta:=Tn.alloc (fun k => (Value.slice A2 s.length c2).ownBlock = some k) wz (.cells (vrC y.1).toArray 71)
  have J6:=J.out.turn (ta.trans tg) (fun k hk e => by have:=hno k e; omega)
  have JK6:=JK.out.turn (ta.trans tg) (fun e => by have:=hno _ e; omega)
  have JB6:=JB.out.turn (ta.trans tg) (fun e => by have:=hno _ e; omega)
  have JT6:=JT.out.trans ((ta.trans tg).weak fun k _ e => .inr (.inr (.inr (hno k e))))
  obtain ⟨g6,c6,rfl,hgg,_⟩:=ho6.1.form (Nat.succ_pos _)
  have tK:=JK6.there (o:=2) (n:=1) (by show 2 + 1 ≤ 18; omega)
  have ts:=Tn.set (M:=fun k => k = K) w6 K 2 (.slice (some ⟨g6,0,none⟩) (s.length + 1) c6) rfl
  have J7:=Lh (J6.turn ts (fun k hk e => by omega))
  have JK7 : Hid (Var (w6.setCell ⟨K,2,none⟩ (.slice (some ⟨g6,0,none⟩) (s.length + 1) c6)) K (fnC f0 { fv with ps:=.slice (some ⟨g6,0,none⟩) (s.length + 1) c6 })):=Lh (JK6.set 2 _ (by show 2 < 18; omega))
  have JO7:=Lh (ho6.turn ts (fun k hk e => by have:=(ho6.1.lt k hk).1; omega))
  have JT7:=Lh (JT6.trans (Tn.set w6 K 2 (.slice (some ⟨g6,0,none⟩) (s.length + 1) c6) (.inr (.inr (.inl rfl)))))
  have hS6:=HS.out _ JK6 JB6
  refine hKK _ _ hS6 ?_
  clear hKK KK J6 JK6 JB6 JT6 ho6 hg6 hv6 ta tg ts
  simp only [Act.put,sA,sB,sC]
  refine wpM_next 6 1 1 (by kernel_rfl) (fun _ _ d _ _ h => by cases d <;> exact h) hS6 (fun hne => ?_)
  simp only [sD,sE,sF,sG]
  repeat (go_big_quiet_step (fail))
  refine wpQuiet_nil ?_
  refine wpM_late (i:=7) (fuel:=0) (by kernel_rfl) (by omega) rfl (fun KK hKK => ?_)
  refine step_st1 rfl 26 (.tmp 15) (.tmp 14) rfl K 2 rfl (v:=.slice (some ⟨g6,0,none⟩) (s.length + 1) c6) tK rfl (by kernel_rfl) rfl ?_
  refine hKK _ _ ?_
  clear hKK KK
  refine wpAny_done (by kernel_rfl) ?_ _
  go_wp2_with fail
  refine bodyPost_end (results_none rfl _ _ _) rfl ?_
  rw [HX.out]
  exact ⟨a,b,u,rfl,J7.out,rfl,rfl,rfl,by have:=hcap.out; simp; exact this,⟨_,JK7.out,JO7.out.cast (by simp) (vrs_snoc _ _).symm⟩,JT7.out⟩
set_option maxRecDepth 10000 in
theorem fun2_any (C : Cx) (hC : TokOk C.T C.L) (hR : C.R.Ok) (hn : C.L.length < 1000000) (G K Pb : Nat) (hgt : C.g < G) (hGP : G < Pb) (hPK : Pb < K) (hl he : Bool) (v : MoV) (f0 : FnT) (fv : FnV) (w1 : World) (hw1 : K < w1.heap.size) (hb : Var w1 Pb [ptrG G])
  (s : List NmT) (a b : Bool) (u : MoV) (W : World) (x : Nat × Int) (h0 : x.2 = 0 ∨ s = []) (h : Frd C G a b u W x) (hd : DaN C G K hl he v f0 fv w1 s (capX x) a b u W) :
  CP 100 #[ptrG K,ptrG Pb] W (OneTo C G (DaN C G K hl he v f0 fv w1) (onN C.R s x)):=by
 obtain ⟨rfl,rfl,rfl,hsl,⟨pv,hK,hO⟩,hT⟩:=hd
 obtain ⟨A2,c2,rfl⟩:=hO.form
 have hxn:=h.cur.le
 have hcx:=capX_n (R:=C.R) (x:=x) hxn
 have hcx : capX x ≤ 1000001:=Nat.le_trans hcx (by show C.L.length + 1 ≤ 1000001; omega)
 have hup:=onN_up hR s hxn
 have hcap:=Lh (cap1 hup hsl h0)
 have JB : Hid (Var W Pb [ptrG G]):=Lh (hb.turn hT (by intro h; rcases h with h | h | h | h <;> omega))
 have kb:=JB.out.at 0 rfl
 have k2:=hK.at 10 rfl
 have J:=Lh h
 have JK:=Lh hK
 have JO:=Lh hO
 have JT:=Lh hT
 have hGW:=h.v.lt
 have hKW:=hK.lt
 have g8:=h.c8
 have f8:=h.fz 8 (by omega)
 clear h hK hO hT hb hup h0
 go_enter Tryz.func100,Tryz.ntmps100
 go_wp2_with fail
 have J:=Lh (show Frd C G a b u W.drew x from J.out.under (below_drew _ _))
 have JB:=Lh (JB.out.under (below_drew _ _))
 have JK:=Lh (JK.out.under (below_drew _ _))
 have JO:=Lh (JO.out.turn (Tn.drew (fun _ => False) _) (fun _ _ h => h))
 have JT:=Lh (JT.out.trans (Tn.drew _ _))
 obtain ⟨y,hy⟩ : ∃ y,fnm C.R x = y:=⟨_,rfl⟩
 have HN : Hid (∀ W,Frd C G a b u W x → CP 58 #[ptrG G] W (FGo C G a b u (nmV y.1) y.2 W)):=Lh fun W hW => by
  have:=fname C hC G a b u x W hW
  rwa [hy] at this
 have HX : Hid (onN C.R s x = (s ++ [y.1],y.2)):=Lh (by rw [← hy]; rfl)
 rw [HX.out] at hcap
 obtain ⟨S,hSd⟩ : ∃ S : World → Prop,S = fun W => W.cell? ⟨K,10,none⟩ = some (.slice A2 s.length c2) ∧ W.cell? ⟨Pb,0,none⟩ = some (ptrG G):=⟨_,rfl⟩
 have hSF : ∀ W,S W → W.cell? ⟨K,10,none⟩ = some (.slice A2 s.length c2) ∧ W.cell? ⟨Pb,0,none⟩ = some (ptrG G):=by rw [hSd]; exact fun W h => h
 have s2 : ∀ sw : SW S,sw.w.cell? ⟨K,10,none⟩ = some (.slice A2 s.length c2):=fun sw => (hSF _ sw.h).1
 have sb : ∀ sw : SW S,sw.w.cell? ⟨Pb,0,none⟩ = some (ptrG G):=fun sw => (hSF _ sw.h).2
 have HS : Hid (∀ W,Var W K (fnC f0 { fv with rl:=(.slice A2 s.length c2) }) → Var W Pb [ptrG G] → S W):=Lh fun W h1 h2 => by rw [hSd]; exact ⟨h1.at 10 rfl,h2.at 0 rfl⟩
 have hS0:=HS.out _ JK.out JB.out
 clear hSd hSF hy kb k2 g8 f8
 try dsimp only [Act.put]
 refine region_start (by kernel_rfl) 10 rfl ?_
 refine wpAny_hold S 9 (by kernel_rfl) ?_
 refine wpM_next 0 4 6 (by kernel_rfl) (fun _ _ d _ _ h => by cases d <;> exact h) hS0 (fun hne => ?_)
 simp only [sD,sE,sF,sG]
 repeat (go_big_quiet_step (fail))
 refine wpQuiet_nil ?_
 refine wpM_one (i:=4) (fuel:=5) (by kernel_rfl) (by omega) rfl (fun KK hKK => ?_)
 go_simp
 with_reducible refine (HN.out _ J.out).mono ?_
 rintro e wz ⟨rfl,hr,ht⟩
 have JB:=Lh (JB.out.turn ht (by intro h; rcases h with h | h <;> omega))
 have JK:=Lh (JK.out.turn ht (by intro h; rcases h with h | h <;> omega))
 have JO:=Lh (JO.out.turn ht (fun k hk h => by have:=(JO.out.1.lt k hk).1; rcases h with h | h <;> omega))
 have JT:=Lh (JT.out.ls ht)
 have J:=Lh hr
 clear hr ht
 refine hKK _ _ (HS.out _ JK.out JB.out) ?_
 clear hKK KK
 refine wpM_one (i:=5) (fuel:=4) (by kernel_rfl) (by omega) rfl (fun KK hKK => ?_)
 refine step_build1 rfl 24 109 (.tmp 6) rfl (nmC y.1) rfl (by simp [nmC]) (by simp [nmC]) Tryz.underlying24 info_nm (by kernel_rfl) ?_
 refine hKK _ _ (HS.out _ (JK.out.under bAl) (JB.out.under bAl)) ?_
 clear hKK KK
 refine wpM_one (i:=6) (fuel:=3) (by kernel_rfl) (by omega) rfl (fun KK hKK => ?_)
 refine step_push_b rfl (.tmp 4) (.tmp 7) 24 rfl rowNm wz w1.heap.size (.slice A2 s.length c2) s.length (nms s) (nmC y.1) rfl JO.out rfl rfl rfl (nmC_one _) (by omega) (by omega) ?_
 intro v6 w6 ho6 hg6 hv6
 have hno : ∀ k,(Value.slice A2 s.length c2).ownBlock = some k → w1.heap.size ≤ k:=fun k hk => (JO.out.1.lt k hk).1
 have tg:=Tn.of_gb (M:=fun k => (Value.slice A2 s.length c2).ownBlock = some k) hg6 fun k e _ => e
 have ta:=Tn.alloc (fun k => (Value.slice A2 s.length c2).ownBlock = some k) wz (.cells (nmC y.1).toArray 109)
 have J6:=J.out.turn (ta.trans tg) (fun k hk e => by have:=hno k e; omega)
 have JK6:=JK.out.turn (ta.trans tg) (fun e => by have:=hno _ e; omega)
 have JB6:=JB.out.turn (ta.trans tg) (fun e => by have:=hno _ e; omega)
 have JT6:=JT.out.trans ((ta.trans tg).weak fun k _ e => .inr (.inr (.inr (hno k e))))
 obtain ⟨g6,c6,rfl,hgg,_⟩:=ho6.1.form (Nat.succ_pos _)
 have tK:=JK6.there (o:=10) (n:=1) (by show 10 + 1 ≤ 18; omega)
 have ts:=Tn.set (M:=fun k => k = K) w6 K 10 (.slice (some ⟨g6,0,none⟩) (s.length + 1) c6) rfl
 have J7:=Lh (J6.turn ts (fun k hk e => by omega))
 have JK7 : Hid (Var (w6.setCell ⟨K,10,none⟩ (.slice (some ⟨g6,0,none⟩) (s.length + 1) c6)) K (fnC f0 { fv with rl:=.slice (some ⟨g6,0,none⟩) (s.length + 1) c6 })):=Lh (JK6.set 10 _ (by show 10 < 18; omega))
 have JO7:=Lh (ho6.turn ts (fun k hk e => by have:=(ho6.1.lt k hk).1; omega))
 have JT7:=Lh (JT6.trans (Tn.set w6 K 10 (.slice (some ⟨g6,0,none⟩) (s.length + 1) c6) (.inr (.inr (.inl rfl)))))
 have hS6:=HS.out _ JK6 JB6
 refine hKK _ _ hS6 ?_
 clear hKK KK J6 JK6 JB6 JT6 ho6 hg6 hv6 ta tg ts
 simp only [Act.put,sA,sB,sC]
 refine wpM_next 7 2 1 (by kernel_rfl) (fun _ _ d _ _ h => by cases d <;> exact h) hS6 (fun hne => ?_)
 simp only [sD,sE,sF,sG]
 repeat (go_big_quiet_step (fail))
 refine wpQuiet_nil ?_
 refine wpM_late (i:=9) (fuel:=0) (by kernel_rfl) (by omega) rfl (fun KK hKK => ?_)
 refine step_st1 rfl 24 (.tmp 10) (.tmp 8) rfl K 10 rfl (v:=.slice (some ⟨g6,0,none⟩) (s.length + 1) c6) tK rfl (by kernel_rfl) rfl ?_
 refine hKK _ _ ?_
 clear hKK KK
 refine wpAny_done (by kernel_rfl) ?_ _
 go_wp2_with fail
 refine bodyPost_end (results_none rfl _ _ _) rfl ?_
 rw [HX.out]
 exact ⟨a,b,u,rfl,J7.out,rfl,rfl,rfl,by have:=hcap.out; simp; exact this,⟨_,JK7.out,JO7.out.cast (by simp) (nms_snoc _ _).symm⟩,JT7.out⟩
theorem flist1 (C : Cx) (hC : TokOk C.T C.L) (hR : C.R.Ok) (hn : C.L.length < 1000000) (f : Nat) (hf : C.L.length < f) (G K Pb : Nat) (hGP : G < Pb) (hPK : Pb < K) (hl he : Bool) (v : MoV) (f0 : FnT) (fv : FnV) (hfv : fv.ps = .slice none 0 0) (x : Nat × Int) (w : World) (h : Frd C G hl he v w x) (hb : Var w Pb [ptrG G]) (hK : Var w K (fnC f0 fv)) :
  CP 98 #[.pointer (some ⟨G,0,none⟩),.string ⟨#[41]⟩,.func (.func 99) #[] #[.pointer (some ⟨K,0,none⟩),.pointer (some ⟨Pb,0,none⟩)]] w fun e w' => ∃ pv,e = .returned none0 ∧ Frd C G hl he v w' (lst C.R (onV C.R) wRap f [] x).2 ∧ Var w' K (fnC f0 { fv with ps:=pv }) ∧ Own w' w.heap.size 71 8 pv (lst C.R (onV C.R) wRap f [] x).1.length (vrs (lst C.R (onV C.R) wRap f [] x).1) ∧ Tn (LsM C G K w.heap.size) w w':=by
 refine (flist C hC hR G (DaP C G K hl he v f0 fv w) (DaP.keep h.gt (by omega) hK.lt) (onV C.R) (fun s x hx => (onV_up hR s hx).weak (Nat.zero_le 1)) 99 #[] #[.pointer (some ⟨K,0,none⟩),.pointer (some ⟨Pb,0,none⟩)] enters_f1 []
  (fun s a b u W x h0 hW hD => by
   have:=fun1_any C hC hR hn G K Pb h.gt hGP hPK hl he v f0 fv w hK.lt hb s a b u W x h0 hW hD
   simpa using this) 41 [] f hf hl he v x w h ⟨rfl,rfl,rfl,Nat.zero_le _,⟨.slice none 0 0,by rw [← hfv]; exact hK,Own.nil _ _ _ _ nLe⟩,Tn.refl _ _⟩).mono ?_
 rintro e w' ⟨a,b,u,rfl,hr,rfl,rfl,rfl,_,⟨pv,h1,h2⟩,h3⟩
 exact ⟨pv,rfl,hr,h1,h2,h3⟩
theorem flist2 (C : Cx) (hC : TokOk C.T C.L) (hR : C.R.Ok) (hn : C.L.length < 1000000) (f : Nat) (hf : C.L.length < f) (G K Pb : Nat) (hGP : G < Pb) (hPK : Pb < K) (hl he : Bool) (v : MoV) (f0 : FnT) (fv : FnV) (hfv : fv.rl = .slice none 0 0) (x : Nat × Int) (w : World) (h : Frd C G hl he v w x) (hb : Var w Pb [ptrG G]) (hK : Var w K (fnC f0 fv)) :
  CP 98 #[.pointer (some ⟨G,0,none⟩),.string ⟨#[125]⟩,.func (.func 100) #[] #[.pointer (some ⟨K,0,none⟩),.pointer (some ⟨Pb,0,none⟩)]] w fun e w' => ∃ pv,e = .returned none0 ∧ Frd C G hl he v w' (lst C.R (onN C.R) wKet f [] x).2 ∧ Var w' K (fnC f0 { fv with rl:=pv }) ∧ Own w' w.heap.size 109 2 pv (lst C.R (onN C.R) wKet f [] x).1.length (nms (lst C.R (onN C.R) wKet f [] x).1) ∧ Tn (LsM C G K w.heap.size) w w':=by
 refine (flist C hC hR G (DaN C G K hl he v f0 fv w) (DaN.keep h.gt (by omega) hK.lt) (onN C.R) (fun s x hx => (onN_up hR s hx).weak (Nat.zero_le 1)) 100 #[] #[.pointer (some ⟨K,0,none⟩),.pointer (some ⟨Pb,0,none⟩)] enters_f2 []
  (fun s a b u W x h0 hW hD => by
   have:=fun2_any C hC hR hn G K Pb h.gt hGP hPK hl he v f0 fv w hK.lt hb s a b u W x h0 hW hD
   simpa using this) 125 [] f hf hl he v x w h ⟨rfl,rfl,rfl,Nat.zero_le _,⟨.slice none 0 0,by rw [← hfv]; exact hK,Own.nil _ _ _ _ nLe⟩,Tn.refl _ _⟩).mono ?_
 rintro e w' ⟨a,b,u,rfl,hr,rfl,rfl,rfl,_,⟨pv,h1,h2⟩,h3⟩
 exact ⟨pv,rfl,hr,h1,h2,h3⟩
end Go.Proofs.YtkjhlgnpohamnaaGreatDoor
