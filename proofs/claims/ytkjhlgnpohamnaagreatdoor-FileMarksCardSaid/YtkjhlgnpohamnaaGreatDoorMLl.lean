import Derived.Test.YtkjhlgnpohamnaaGreatDoorSq
import Derived.Test.YtkjhlgnpohamnaaGreatDoorMLx
import Derived.BigRegion
import Derived.Laws.BytesArg
set_option maxHeartbeats 1600000
namespace Go.Proofs.YtkjhlgnpohamnaaGreatDoor
set_option linter.unusedVariables false
set_option linter.unusedSimpArgs false
open Go.RowKit
theorem take_snocT (L : List Tk) (k : Nat) (t : Tk) (h : L[k]? = some t) : L.take (k + 1) = L.take k ++ [t]:=by
 obtain ⟨hlt,rfl⟩:=List.getElem?_eq_some_iff.1 h
 rw [List.take_succ_eq_append_getElem hlt]
theorem filter_yes {L : List Tk} {k : Nat} {t : Tk} (h : L[k]? = some t) (hv : lv t = true) : (L.take (k + 1)).filter lv = (L.take k).filter lv ++ [t]:=by
 rw [take_snocT L k t h,List.filter_append]; simp [hv]
theorem filter_no {L : List Tk} {k : Nat} {t : Tk} (h : L[k]? = some t) (hv : lv t = false) : (L.take (k + 1)).filter lv = (L.take k).filter lv:=by
 rw [take_snocT L k t h,List.filter_append]; simp [hv]
set_option maxRecDepth 10000 in
theorem live_any (A : Option Addr) (n c : Nat) (L : List Tk) (w : World) (hx : ShT w w.heap.size A n L) (hn : n ≤ 1000000) :
  CP 38 #[.slice A n c] w (ToksTo (L.filter lv) w):=by
 have hl : L.length = n:=hx.1
 have HL:=Lh hl
 have HX:=Lh hx
 have hz:=zeroTok
 clear hl hx
 go_enter Tryz.func38,Tryz.ntmps38
 go_wp2
 go_loopw [3,8] (fun v i wr => ∃ k : Nat,i = .int .i64 (k : Int) ∧ k ≤ n ∧ Own wr w.heap.size 60 3 v ((L.take k).filter lv).length (tcs ((L.take k).filter lv)) ∧ Below w.heap.size w wr) (fun _ i _ => n - (intOf i).toNat)
 case atStart => exact ⟨0,rfl,Nat.zero_le _,Own.nil _ _ _ _ nLe,Below.refl _ _⟩
 case round =>
  obtain ⟨k,rfl,hk,ho,hb⟩:=hrel
  have HO:=Lh ho
  have HB:=Lh hb
  have hge:=ho.2
  clear ho hb
  by_cases hlt : k < n
  ·obtain ⟨b,off,t,rfl,hbb,ht,c0,c1,c2⟩:=(HX.out.up HB.out nLe).at hlt
   obtain ⟨x,y,z⟩:=t
   dsimp only at c0 c1 c2
   have HT:=Lh ht
   have hlen : ((L.take k).filter lv).length ≤ n:=Nat.le_trans (List.length_filter_le _ _) (by simp; omega)
   have HLEN:=Lh hlen
   clear ht hlen
   cases hv : lv (x,y,z) with
   | true =>
    have HF:=Lh (filter_yes HT.out hv)
    have hv' : (x != 0) = true ∧ (x != 1) = true:=by simpa [lv] using hv
    obtain ⟨h0,h1⟩:=hv'
    clear hv
    go_wp2_with (first
     | (at_builtin; refine wpList_push_g rfl (.tmp 20) (.tmp 22) 63 rfl rowTok _ w.heap.size _ _ _ [.int .i64 x,.int .i64 y,.int .i64 z] rfl (HO.out.alloc _) rfl (by simp) rfl (by intro z hz; simp at hz; rcases hz with rfl | rfl | rfl <;> rfl) (by have:=HLEN.out; omega) (by omega) ?_; intro v2 w2 ho2 hg2)
     | fail)
    go_roundw
    case rel =>
     refine ⟨k + 1,by go_num,by omega,?_,?_⟩
     ·rw [HF.out]
      exact ho2.cast (by simp) (tcs_snoc _ (x,y,z)).symm
     ·have b3 : Below w.heap.size w ((wr.alloc (.cells #[.int .i64 x,.int .i64 y,.int .i64 z] 60)).alloc (.cells #[.int .i64 x,.int .i64 y,.int .i64 z] 60)):=(HB.out.alloc hge _).alloc (by simp; omega) _
      exact b3.grown hg2 (by simp; omega) (fun q hq => (HO.out.1.lt q hq).1)
    case measure => simp [intOf]; omega
   | false =>
    have HF:=Lh (filter_no HT.out hv)
    have hv' : (x != 0) = false ∨ ((x != 0) = true ∧ (x != 1) = false):=by
     simp only [lv,Bool.and_eq_false_iff] at hv
     rcases hv with h | h
     ·exact .inl h
     ·cases h0 : (x != 0)
      ·exact .inl rfl
      ·exact .inr ⟨rfl,h⟩
    clear hv
    rcases hv' with h0 | ⟨h0,h1⟩
    all_goals
     go_wp2
     go_roundw
     case rel =>
      refine ⟨k + 1,by go_num,by omega,?_,HB.out.alloc hge _⟩
      rw [HF.out]
      exact HO.out.alloc _
     case measure => simp [intOf]; omega
  ·obtain rfl : k = n:=by omega
   go_wp2
   go_ret
   refine ⟨_,rfl,?_,HB.out⟩
   have:=HO.out
   rwa [List.take_of_length_le (by rw [HL.out]; exact Nat.le_refl _)] at this
def badOf (L : List Tk) : Tk:=((L.find? fun t => t.1 == 5).getD (0,0,0))
def isBad (L : List Tk) : Bool:=(L.find? fun t => t.1 == 5).isSome
def BadTo (L : List Tk) (w : World) (e : Ending) (w' : World) : Prop:=
 e = .returned (.tuple #[.agg #[.int .i64 (badOf L).1,.int .i64 (badOf L).2.1,.int .i64 (badOf L).2.2],.bool (isBad L)]) ∧ Below w.heap.size w w'
theorem bad_none {L : List Tk} (h : ∀ t ∈ L,(t.1 == 5) = false) : badOf L = (0,0,0) ∧ isBad L = false:=by
 have : (L.find? fun t => t.1 == 5) = none:=List.find?_eq_none.2 fun t ht => by simpa using h t ht
 unfold badOf isBad
 rw [this]
 exact ⟨rfl,rfl⟩
theorem bad_some {L : List Tk} {k : Nat} {t : Tk} (h : ∀ s ∈ L.take k,(s.1 == 5) = false) (hk : L[k]? = some t) (ht : (t.1 == 5) = true) : badOf L = t ∧ isBad L = true:=by
 have e : L = L.take k ++ t :: L.drop (k + 1):=by
  obtain ⟨hlt,rfl⟩:=List.getElem?_eq_some_iff.1 hk
  simp
 have : (L.find? fun t => t.1 == 5) = some t:=by
  rw [e,List.find?_append,List.find?_eq_none.2 (fun s hs => by simpa using h s hs)]
  simp only [Option.none_or,List.find?_cons,ht]
 unfold badOf isBad
 rw [this]
 exact ⟨rfl,rfl⟩
theorem bad_done {L : List Tk} {t : Tk} {v : Bool} {w W : World} {G : Nat} {x y z : Value} {a : Act} (hp : a.tmps.getD 2 undef = .pointer (some ⟨G,0,none⟩)) (h3 : a.tmps.getD 3 undef = .bool v) (hd : a.defers = []) (hb : Below w.heap.size w W) (hG : w.heap.size ≤ G) (c0 : (W.cell? ⟨G,0,none⟩).isSome = true) (c1 : (W.cell? ⟨G,1,none⟩).isSome = true) (c2 : (W.cell? ⟨G,2,none⟩).isSome = true)
  (hx : x = .int .i64 t.1) (hy : y = .int .i64 t.2.1) (hz : z = .int .i64 t.2.2) (ht : badOf L = t ∧ isBad L = v) :
  bodyPost Tryz.prog Tryz.f27 (BadTo L w) Exit.ret a (((W.setCell ⟨G,0,none⟩ x).setCell ⟨G,1,none⟩ y).setCell ⟨G,2,none⟩ z):=by
 subst hx; subst hy; subst hz
 obtain ⟨e0,e1,e2⟩:=tok_set W G (.int .i64 t.1) (.int .i64 t.2.1) (.int .i64 t.2.2) c0 c1 c2
 have hr : Tryz.f27.results = #[.cell 2 60,.tmp 3]:=rfl
 have hl:=tok_load _ G 0 _ _ _ e0 e1 e2
 have hp' : a.tmps[2]?.getD undef = .pointer (some ⟨G,0,none⟩):=by simpa using hp
 have h3' : a.tmps[3]?.getD undef = .bool v:=by simpa using h3
 refine bodyPost_ret (v:=.tuple #[.agg #[.int .i64 t.1,.int .i64 t.2.1,.int .i64 t.2.2],.bool v]) (by simp [results,hr,hp',h3',asAddr,hl]) hd ?_
 exact ⟨by rw [ht.1,ht.2],((hb.setCell (by exact hG) _).setCell (by exact hG) _).setCell (by exact hG) _⟩
theorem bad_done1 {L : List Tk} {t : Tk} {v : Bool} {w W : World} {G : Nat} {x y z : Value} {o : Obj} {a : Act} (hp : a.tmps.getD 2 undef = .pointer (some ⟨G,0,none⟩)) (h3 : a.tmps.getD 3 undef = .bool v) (hd : a.defers = []) (hb : Below w.heap.size w W) (hG : w.heap.size ≤ G) (hlt : G < W.heap.size) (c0 : (W.cell? ⟨G,0,none⟩).isSome = true) (c1 : (W.cell? ⟨G,1,none⟩).isSome = true) (c2 : (W.cell? ⟨G,2,none⟩).isSome = true)
  (hx : x = .int .i64 t.1) (hy : y = .int .i64 t.2.1) (hz : z = .int .i64 t.2.2) (ht : badOf L = t ∧ isBad L = v) :
  bodyPost Tryz.prog Tryz.f27 (BadTo L w) Exit.ret a ((((W.setCell ⟨G,0,none⟩ x).setCell ⟨G,1,none⟩ y).setCell ⟨G,2,none⟩ z).alloc o):=by
 subst hx; subst hy; subst hz
 obtain ⟨e0,e1,e2⟩:=tok_set W G (.int .i64 t.1) (.int .i64 t.2.1) (.int .i64 t.2.2) c0 c1 c2
 have hr : Tryz.f27.results = #[.cell 2 60,.tmp 3]:=rfl
 have hsz : G < (((W.setCell ⟨G,0,none⟩ (.int .i64 t.1)).setCell ⟨G,1,none⟩ (.int .i64 t.2.1)).setCell ⟨G,2,none⟩ (.int .i64 t.2.2)).heap.size:=by simpa using hlt
 have hl:=tok_load _ G 0 _ _ _ ((World.cell?_alloc_past o G 0 hsz).trans e0) ((World.cell?_alloc_past o G 1 hsz).trans e1) ((World.cell?_alloc_past o G 2 hsz).trans e2)
 have hp' : a.tmps[2]?.getD undef = .pointer (some ⟨G,0,none⟩):=by simpa using hp
 have h3' : a.tmps[3]?.getD undef = .bool v:=by simpa using h3
 refine bodyPost_ret (v:=.tuple #[.agg #[.int .i64 t.1,.int .i64 t.2.1,.int .i64 t.2.2],.bool v]) (by simp [results,hr,hp',h3',asAddr,hl]) hd ?_
 exact ⟨by rw [ht.1,ht.2],(((hb.setCell (by exact hG) _).setCell (by exact hG) _).setCell (by exact hG) _).alloc (by simp; have:=hlt; omega) _⟩
set_option maxRecDepth 10000 in
theorem bad_any (A : Option Addr) (n c : Nat) (L : List Tk) (w : World) (hx : ShT w w.heap.size A n L) (hn : n ≤ 1000000) :
  CP 27 #[.slice A n c] w (BadTo L w):=by
 have hl : L.length = n:=hx.1
 have HL:=Lh hl
 have HX:=Lh hx
 have hz:=zeroTok
 clear hl hx
 go_enter Tryz.func27,Tryz.ntmps27
 go_wp2
 obtain ⟨w1,hw1⟩ : ∃ w1,w.alloc (.cells #[.int .i64 0,.int .i64 0,.int .i64 0] 60) = w1:=⟨_,rfl⟩
 have hs1 : w1.heap.size = w.heap.size + 1:=by rw [← hw1]; simp
 have b1 : Below w.heap.size w w1:=by rw [← hw1]; exact bAl
 have q0 : ∀ j,j < 3 → w1.cell? ⟨w.heap.size,j,none⟩ = some (.int .i64 0):=fun j hj => by
  rw [← hw1,World.cell?_alloc_at _ _ _ _ rfl]
  match j,hj with
  | 0,_ => rfl
  | 1,_ => rfl
  | 2,_ => rfl
 have f0 : ∀ j,w1.frozen? ⟨w.heap.size,j,none⟩ = false:=fun j => by
  rw [← hw1]
  exact World.frozen?_alloc_new w _ _ j
 rw [hw1]
 have B1:=Lh b1
 have Q0:=Lh q0
 have F0:=Lh f0
 have S1:=Lh hs1
 clear hw1 b1 q0 f0 hs1
 go_loopw [8] (fun i wr => ∃ k : Nat,i = .int .i64 (k : Int) ∧ k ≤ n ∧ (∀ t ∈ L.take k,(t.1 == 5) = false) ∧ Below w1.heap.size w1 wr) (fun i _ => n - (intOf i).toNat)
 case atStart => exact ⟨0,rfl,Nat.zero_le _,(fun t ht => by simp at ht),Below.refl _ _⟩
 case round =>
  obtain ⟨k,rfl,hk,hno,hb⟩:=hrel
  have HN:=Lh hno
  have HB:=Lh hb
  have hw:=B1.out.trans (hb.mono (by rw [S1.out]; omega))
  have HW:=Lh hw
  have p0:=(hb.cell (p:=⟨w.heap.size,0,none⟩) (by rw [S1.out]; show w.heap.size < _; omega)).trans (Q0.out 0 (by omega))
  have p1:=(hb.cell (p:=⟨w.heap.size,1,none⟩) (by rw [S1.out]; show w.heap.size < _; omega)).trans (Q0.out 1 (by omega))
  have p2:=(hb.cell (p:=⟨w.heap.size,2,none⟩) (by rw [S1.out]; show w.heap.size < _; omega)).trans (Q0.out 2 (by omega))
  have hge : w.heap.size < wr.heap.size:=by have:=hb.size; rw [S1.out] at this; omega
  have z0 : ∀ j,wr.frozen? ⟨w.heap.size,j,none⟩ = false:=fun j => (World.frozen?_of_block (a:=⟨w.heap.size,j,none⟩) (hb.block w.heap.size (by rw [S1.out]; omega))).trans (F0.out j)
  have g0:=z0 0
  have g1:=z0 1
  have g2:=z0 2
  have HS : Hid (∀ (o : Obj) j,j < 3 → ((wr.alloc o).cell? ⟨w.heap.size,j,none⟩).isSome = true):=Lh (fun o j hj => by
   rw [World.cell?_alloc_past _ _ _ hge]
   match j,hj with
   | 0,_ => rw [p0]; rfl
   | 1,_ => rw [p1]; rfl
   | 2,_ => rw [p2]; rfl)
  clear hno hb hw z0
  by_cases hlt : k < n
  ·obtain ⟨b,off,t,rfl,hbb,ht,c0,c1,c2⟩:=(HX.out.up HW.out nLe).at hlt
   obtain ⟨x,y,z⟩:=t
   dsimp only at c0 c1 c2
   have HT:=Lh ht
   clear ht
   cases hv : (x == 5) with
   | true =>
    have HV:=Lh (bad_some HN.out HT.out hv)
    go_wp2
    exact bad_done1 (G:=w.heap.size) rfl rfl rfl HW.out nLe hge (by rw [p0]; rfl) (by rw [p1]; rfl) (by rw [p2]; rfl) rfl rfl rfl HV.out
   | false =>
    have HV:=Lh hv
    go_wp2
    go_roundw
    case rel =>
     refine ⟨k + 1,by go_num,by omega,fun s hs => ?_,HB.out.alloc HB.out.size _⟩
     rw [take_snocT L k _ HT.out] at hs
     rcases List.mem_append.1 hs with h | h
     ·exact HN.out s h
     ·rw [List.mem_singleton.1 h]; exact HV.out
    case measure => simp [intOf]; omega
  ·obtain rfl : k = n:=by omega
   have HV:=Lh (bad_none (L:=L) (by
    have:=HN.out
    rwa [List.take_of_length_le (by rw [HL.out]; exact Nat.le_refl _)] at this))
   go_wp2
   exact bad_done (t:=(0,0,0)) (G:=w.heap.size) rfl rfl rfl HW.out nLe (by rw [p0]; rfl) (by rw [p1]; rfl) (by rw [p2]; rfl) rfl rfl rfl HV.out
end Go.Proofs.YtkjhlgnpohamnaaGreatDoor
