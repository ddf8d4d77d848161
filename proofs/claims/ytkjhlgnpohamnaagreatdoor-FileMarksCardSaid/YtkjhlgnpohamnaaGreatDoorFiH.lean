import Derived.Test.YtkjhlgnpohamnaaGreatDoorSq
import Derived.Test.YtkjhlgnpohamnaaGreatDoorFiE
import Derived.Test.YtkjhlgnpohamnaaGreatDoorMPa
namespace Go.Proofs.YtkjhlgnpohamnaaGreatDoor
set_option linter.unusedVariables false
set_option linter.unusedSimpArgs false
open Go.RowKit
def moV (hl he : Bool) (v : MoV) : Value:=.agg #[v.im,.bool hl,v.la,.bool he,v.ef,v.va,v.fn]
theorem zeroMo (w : World) : (zeroValue 29).run Tryz.prog w = .ok (.agg #[.slice none 0 0,.bool false,.slice none 0 0,.bool false,.slice none 0 0,.slice none 0 0,.slice none 0 0]) w:=by kernel_rfl
theorem zeroFr (w : World) : (zeroValue 68).run Tryz.prog w = .ok (.agg #[.pointer none,.slice none 0 0,.bool false,.slice none 0 0,.bool false,.slice none 0 0,.slice none 0 0,.slice none 0 0,.int .i64 0]) w:=by kernel_rfl
theorem info_fr : (Tryz.prog.info? 68).map (·.size) = some 9:=by kernel_rfl
section
variable {P : Program} {ops : Array Oper} {Q : Exit → Act → World → Prop} {md : Region.Mode} {S : World → Prop} {z : Nat}
theorem wpL_take {L : List Oper} (i : Nat) {o : Oper} {fuel : Nat} {ls : Array Bool} {a : Act} {w : World} (v : Value) (hB : (usedB md L.toArray z && Region.noSelect L.toArray && (Region.ready md L.toArray ls).contains i && Region.free md L.toArray ls i && (i != z)) = true)
  (hQ : ∀ c (a : Act) d v w,Q (.panic c) (a.put d v) w → Q (.panic c) a w) (ho : L[i]? = some o) (hS : S w) (hy : YieldsIf P L.toArray S o v a)
  (h : wpL P md L.toArray Q S z fuel (ls.setIfInBounds i true) (a.put o.dst v) w) : wpL P md L.toArray Q S z (fuel + 1) ls a w:=fun hd => by
 simp only [Bool.and_eq_true,bne_iff_ne,ne_eq] at hB
 obtain ⟨⟨⟨⟨hu,hs⟩,hr⟩,hf⟩,hiz⟩:=hB
 have h0 : L.toArray[i]? = some o:=by simpa using ho
 have hr' : i ∈ Region.ready md L.toArray ls:=by simpa using hr
 exact wpAnyLh_first hu hiz h0 (Region.noSelect_spec hs) (fun c a' w' hp => hQ c _ _ _ w' hp) fuel ls a w hd (Region.free_spec h0 hf) hr' hy hS (h (hd.set hr'))
end
structure MoSh (w : World) (S : Nat → Prop) (m : MoT) (v : MoV) : Prop where
 im : ShV w S v.im m.im.length (nms m.im)
 la : ShV w S v.la m.la.length (prs m.la)
 ef : ShV w S v.ef m.ef.length (nms m.ef)
 va : ShV w S v.va m.va.length (vrs m.va)
 fn : ∃ FL : List (FnT × FnV),FL.map (·.1) = m.fn ∧ ShV w S v.fn FL.length (fns FL) ∧ ∀ q ∈ FL,FnS w S q.1 q.2
theorem MoSh.keep {w w' : World} {S S' : Nat → Prop} {m : MoT} {v : MoV} (h : MoSh w S m v) (hS : ∀ b,S b → b < w.heap.size → S' b ∧ b < w'.heap.size ∧ w'.heap[b]? = w.heap[b]?) : MoSh w' S' m v:=by
 obtain ⟨FL,h1,h2,h3⟩:=h.fn
 exact ⟨h.im.keep hS,h.la.keep hS,h.ef.keep hS,h.va.keep hS,FL,h1,h2.keep hS,fun q hq => (h3 q hq).keep hS⟩
theorem MoSh.under {w w' : World} {S : Nat → Prop} {m : MoT} {v : MoV} (h : MoSh w S m v) (hb : Below w.heap.size w w') : MoSh w' S m v:=h.keep fun b h1 h2 => ⟨h1,Nat.lt_of_lt_of_le h2 hb.size,hb.block b h2⟩
theorem MoSh.weak {w : World} {S S' : Nat → Prop} {m : MoT} {v : MoV} (h : MoSh w S m v) (hS : ∀ b,S b → b < w.heap.size → S' b) : MoSh w S' m v:=h.keep fun b h1 h2 => ⟨hS b h1 h2,h2,rfl⟩
theorem MoSh.nul {w : World} {S : Nat → Prop} : MoSh w S MoT.nul MoV.nul:=⟨.nil,.nil,.nil,.nil,[],rfl,.nil,fun q hq => by cases hq⟩
theorem MoS.show {G : Nat} {w : World} {m : MoT} {v : MoV} {FL : List (FnT × FnV)} {k : Nat} (h : MoS G w m v FL k) {S : Nat → Prop} (hS : ∀ b,G < b → S b) : MoSh w S m v:=
 ⟨.of_own h.im fun b hb _ _ => hS b hb,.of_own h.la fun b hb _ _ => hS b hb,.of_own h.ef fun b hb _ _ => hS b hb,.of_own h.va fun b hb _ _ => hS b hb,FL,h.fl,.of_own h.fn fun b hb _ _ => hS b hb,fun q hq => (h.fs q hq).weak fun b hb _ => hS b hb.1⟩
def FpTo (X : MoT × Int × Int) (w : World) (e : Ending) (w' : World) : Prop:=
 ∃ v,e = .returned (.tuple #[moV X.1.hl X.1.he v,.int .i64 X.2.1,.int .i64 X.2.2]) ∧ MoSh w' (fun b => w.heap.size ≤ b) X.1 v ∧ Below w.heap.size w w'
theorem v_done3 {F : Func} {i j k : Nat} (T : TypeId) (hr : F.results = #[.cell i T,.tmp j,.tmp k]) {a : Act} {W : World} {G : Nat} {cs : List Value} {d : TypeDesc} {r s : Value} {Q : Ending → World → Prop} (hp : a.tmps.getD i undef = .pointer (some ⟨G,0,none⟩)) (hj : a.tmps.getD j undef = r) (hk : a.tmps.getD k undef = s) (hd : a.defers = []) (hs : Var W G cs)
  (hu : Tryz.prog.underlying T = some d) (hrow : d.isRow = true) (hT : (Tryz.prog.info? T).map (·.size) = some cs.length) (hQ : Q (.returned (.tuple #[.agg cs.toArray,r,s])) W) : bodyPost Tryz.prog F Q Exit.ret a W:=by
 have hl:=ldV (P:=Tryz.prog) T hs.rg hu hrow hT
 have hp' : a.tmps[i]?.getD undef = .pointer (some ⟨G,0,none⟩):=by simpa using hp
 have hj' : a.tmps[j]?.getD undef = r:=by simpa using hj
 have hk' : a.tmps[k]?.getD undef = s:=by simpa using hk
 exact bodyPost_ret (v:=.tuple #[.agg cs.toArray,r,s]) (by simp [results,hr,hp',hj',hk',asAddr,hl]) hd hQ
theorem fits_end {R : Rw} {F f g : Nat} {m : MoT} {x : Nat × Int} (h : ¬ (x.2 = 0 ∧ ¬ x.1 = R.n)) : fits R F f g m x = (m,x):=by
 cases g with
 | zero => rfl
 | succ g => unfold fits; rw [if_neg h]
theorem fits_on {R : Rw} {F f g : Nat} {m : MoT} {p : Nat} (h : ¬ p = R.n) : fits R F f (g + 1) m (p,0) = fits R F f g (fit R F f m p).1 (fit R F f m p).2:=by
 conv => lhs; unfold fits
 rw [if_pos ⟨rfl,h⟩]
theorem moC_one {m : MoT} {v : MoV} {hl he : Bool} (h1 : v.im.oneCell' = true) (h2 : v.la.oneCell' = true) (h3 : v.ef.oneCell' = true) (h4 : v.va.oneCell' = true) (h5 : v.fn.oneCell' = true) : ∀ u ∈ moC hl he v,u.oneCell' = true:=by
 intro u hu
 simp [moC] at hu
 rcases hu with rfl | rfl | rfl | rfl | rfl | rfl | rfl
 all_goals first | rfl | assumption
theorem MoSh.one {w : World} {S : Nat → Prop} {m : MoT} {v : MoV} (h : MoSh w S m v) (hl he : Bool) : ∀ u ∈ moC hl he v,u.oneCell' = true:=by
 obtain ⟨FL,_,h2,_⟩:=h.fn
 exact moC_one (m:=m) h.im.one h.la.one h.ef.one h.va.one h2.one
theorem frC_one {C : Cx} {hl he : Bool} {v : MoV} {r : Int} (h1 : v.im.oneCell' = true) (h2 : v.la.oneCell' = true) (h3 : v.ef.oneCell' = true) (h4 : v.va.oneCell' = true) (h5 : v.fn.oneCell' = true) : ∀ u ∈ frC C hl he v r,u.oneCell' = true:=by
 intro u hu
 simp only [frC,List.mem_cons,List.mem_nil_iff,or_false] at hu
 rcases hu with rfl | rfl | rfl | rfl | rfl | rfl | rfl | rfl | rfl
 all_goals first | rfl | assumption
theorem Frd.turn2 {C : Cx} {G K : Nat} {hl he : Bool} {v : MoV} {w w' : World} {x : Nat × Int} (h : Frd C G hl he v w x) (ht : Tn (fun k => k = K) w w') (h1 : 3 < K) (h2 : K < C.g) (h3 : K ≠ G) (hA : ∀ b off,C.A = some ⟨b,off,none⟩ → b ≠ K) : Frd C G hl he v w' x:=⟨h.cur.skip (Tn.gb ht) (by omega) hA h1,h.v.turn ht (fun e => h3 e.symm),h.gt⟩
theorem Frd.mid {C : Cx} {G : Nat} {hl he : Bool} {v : MoV} {w : World} {x : Nat × Int} (h : Frd C G hl he v w x) : w.rangeAt G 1 (moC hl he v):=fun j u hu => by
 have hj : j < 7:=(List.getElem?_eq_some_iff.1 hu).1
 have:=h.v.rg (1 + j) u (by
  rw [← hu]
  match j,hj with
  | 0,_ => rfl
  | 1,_ => rfl
  | 2,_ => rfl
  | 3,_ => rfl
  | 4,_ => rfl
  | 5,_ => rfl
  | 6,_ => rfl)
 rwa [Nat.zero_add] at this
set_option maxRecDepth 100000 in
set_option maxHeartbeats 1600000 in
theorem fparse_any (A : Option Addr) (n c : Nat) (bs : List Int) (w : World) (hx : Sh w w.heap.size A n (by8 bs)) (hb : Byt8 bs) (hn : n < 1000000) (hnc : n ≤ c) (hcm : c ≤ maxLen) (hv : Vars w) (F f : Nat) (hF : 16 * n + 9 ≤ F) (hf : 3 * n + 3 ≤ f) :
  CP 11 #[.slice A n c] w (FpTo (parseM (rowT (strOfNums bs) (live bs 0)) (live bs 0) n F f) w):=by
 have hz:=zeroTok
 have hz2:=zeroMo
 have hz3:=zeroFr
 have hl : bs.length = n:=by have:=hx.len; rwa [by8_len] at this
 have hvs:=hv.size
 have htok : TokOk (strOfNums bs) (live bs 0):=live_ok (bts_str hb) (by omega)
 have hdig:=live_dig (bts_str hb)
 have hll:=live_len bs
 have htl:=toks_len bs bs.length 0 (by omega)
 have hbt:=bad_toks bs
 have HAL : Hid (∀ W,Below w.heap.size w W → CP 28 #[.slice A n c] W (ToksTo (toks bs 0) W)):=Lh fun W hW => lexAll_any A n c bs W ((hx.below hW).more hW.size) (by omega) hnc hcm
 have HNW : Hid (∀ W,Below w.heap.size w W → CP 29 #[.slice A n c] W (NewTo bs W)):=Lh fun W hW => new_any A n c bs W ((hx.below hW).more hW.size) (by omega) hnc hcm (hv.under hW hvs)
 have HBD : Hid (∀ W A' m c',ShT W W.heap.size A' m (toks bs 0) → CP 27 #[.slice A' m c'] W (BadTo (live bs 0) W)):=Lh fun W A' m c' h => by
  have:=bad_any A' m c' (toks bs 0) W h (by have:=h.1; omega)
  unfold BadTo at this ⊢
  rw [hbt.1,hbt.2] at this
  exact this
 unfold NewTo at HNW
 obtain ⟨L,hL⟩ : ∃ L,live bs 0 = L:=⟨_,rfl⟩
 obtain ⟨T,hT⟩ : ∃ T,strOfNums bs = T:=⟨_,rfl⟩
 obtain ⟨K,hK⟩ : ∃ K,toks bs 0 = K:=⟨_,rfl⟩
 rw [hK] at HAL HBD
 rw [hL] at HBD hll
 rw [hL,hT] at HNW htok hdig ⊢
 obtain ⟨X,hX⟩ : ∃ X,parseM (rowT T L) L n F f = X:=⟨_,rfl⟩
 rw [hX]
 have HX:=Lh hX
 have HTK:=Lh htok
 have HDG:=Lh hdig
 have B1 : Hid (Below w.heap.size w (w.alloc (.cells #[.slice none 0 0,.bool false,.slice none 0 0,.bool false,.slice none 0 0,.slice none 0 0,.slice none 0 0] 29))):=Lh bAl
 have JV : Hid (Var (w.alloc (.cells #[.slice none 0 0,.bool false,.slice none 0 0,.bool false,.slice none 0 0,.slice none 0 0,.slice none 0 0] 29)) w.heap.size (moC false false MoV.nul)):=Lh (Var.new w (moC false false MoV.nul) 29 rfl)
 have hs1 : Hid ((w.alloc (.cells #[.slice none 0 0,.bool false,.slice none 0 0,.bool false,.slice none 0 0,.slice none 0 0,.slice none 0 0] 29)).heap.size = w.heap.size + 1):=Lh (by simp)
 clear hx hb hv hX htok hdig hL hT hK hbt htl
 by_cases hlong : 16384 < n
 ·have HR : Hid (X = (MoT.nul,16384,3)):=Lh (by rw [← HX.out]; unfold parseM; rw [if_pos hlong])
  have d1 : decide ((16384 : Int) < (n : Int)) = true:=decide_eq_true (by omega)
  have d2 : (16384 : Int) < (n : Int):=by omega
  clear HX HNW HAL HBD
  go_enter Tryz.func11,Tryz.ntmps11
  go_wp2_with (first
   | (refine wpList_stV rfl 29 _ _ rfl (G:=w.heap.size) (off:=0) rfl (us:=moC false false MoV.nul) JV.out rfl info_mo (Nat.le_refl 7) (moC_one (m:=MoT.nul) rfl rfl rfl rfl rfl) ?_; intro w3 ht hs; have B1:=Lh (B1.out.trans (ht.below B1.out.size (fun k hk e => by omega))); have JV:=Lh (show Var w3 w.heap.size (moC false false MoV.nul) from hs); clear ht hs)
   | fail)
  rw [HR.out]
  exact v_done3 29 rfl rfl rfl rfl rfl JV.out Tryz.underlying29 rfl info_mo ⟨MoV.nul,rfl,MoSh.nul,B1.out⟩
 ·have d1 : decide ((16384 : Int) < (n : Int)) = false:=decide_eq_false (by omega)
  have d2 : ¬ (16384 : Int) < (n : Int):=by omega
  cases hbd : isBad L with
  | true =>
   have HR : Hid (X = (MoT.nul,(badOf L).2.1,10)):=Lh (by rw [← HX.out]; unfold parseM; rw [if_neg hlong,if_pos hbd])
   clear HX HNW
   go_enter Tryz.func11,Tryz.ntmps11
   go_wp2_with (first
    | (go_at_call 28; (with_reducible refine (HAL.out _ B1.out).mono ?_); rintro e w2 ⟨v2,rfl,ho2,b2⟩; obtain ⟨A2,c2,rfl⟩:=ho2.form; have HO2:=Lh ho2; have JV:=Lh (JV.out.under b2); have hz2s:=b2.size; rw [hs1.out] at hz2s; have B2:=Lh (bTr B1 b2); clear b2 ho2)
    | (go_at_call 27; (with_reducible refine (HBD.out _ _ _ _ (HO2.out.tok rfl)).mono ?_); rintro e w3 ⟨rfl,b3⟩; rw [hbd]; have JV:=Lh (JV.out.under b3); have hz3s:=b3.size; have B3:=Lh (bTr B2 b3); clear b3; dsimp only)
    | fail)
   obtain ⟨W,hW⟩ : ∃ W,w3.alloc (.cells #[.int .i64 (badOf L).1,.int .i64 (badOf L).2.1,.int .i64 (badOf L).2.2] 60) = W:=⟨_,rfl⟩
   have c1 : W.cell? ⟨w3.heap.size,1,none⟩ = some (.int .i64 (badOf L).2.1):=by rw [← hW,World.cell?_alloc_at _ _ _ _ rfl]; rfl
   have B4 : Hid (Below w.heap.size w W.drew):=Lh ((show Below w.heap.size w W by rw [← hW]; exact B3.out.alloc B3.out.size _).trans (below_drew _ _))
   have JV : Hid (Var W.drew w.heap.size (moC false false MoV.nul)):=Lh ((show Var W w.heap.size (moC false false MoV.nul) by rw [← hW]; exact JV.out.under bAl).under (below_drew _ _))
   rw [hW]
   obtain ⟨S,hSd⟩ : ∃ S : World → Prop,S = fun V => V.cell? ⟨w3.heap.size,1,none⟩ = some (.int .i64 (badOf L).2.1):=⟨_,rfl⟩
   have hSF : ∀ V,S V → V.cell? ⟨w3.heap.size,1,none⟩ = some (.int .i64 (badOf L).2.1):=by rw [hSd]; exact fun W h => h
   have s1 : ∀ sw : SW S,sw.w.cell? ⟨w3.heap.size,1,none⟩ = some (.int .i64 (badOf L).2.1):=fun sw => hSF _ sw.h
   have hS0 : S W.drew:=by rw [hSd]; exact c1
   have ht:=Tn.sets (M:=fun k => k = w.heap.size) w.heap.size (moC false false MoV.nul) rfl 0 W.drew
   have hsv:=JV.out.sets 0 (moC false false MoV.nul) (Nat.le_refl 7)
   have hth:=JV.out.there (o:=0) (n:=7) (Nat.le_refl 7)
   have B5:=Lh (B4.out.trans (ht.below B4.out.size (fun k hk e => by omega)))
   obtain ⟨WW,hWW⟩ : ∃ WW,W.drew.setCells w.heap.size 0 (moC false false MoV.nul) = WW:=⟨_,rfl⟩
   rw [hWW] at hsv B5
   have JV5 : Hid (Var WW w.heap.size (moC false false MoV.nul)):=Lh hsv
   have hS5 : S WW:=by
    rw [hSd]
    show WW.cell? _ = _
    rw [← hWW]
    exact (ht.cell (G:=w3.heap.size) (j:=1) (World.block_lt_of_cell? _ _ c1) (by omega)).trans c1
   clear hSd hSF hW c1 ht hsv
   try dsimp only [Act.put]
   refine regionH_start (by kernel_rfl) 6 rfl S 5 ?_
   refine wpL_next 0 3 3 (by kernel_rfl) (fun _ _ d _ _ h => by cases d <;> exact h) hS0 (fun hne => ?_)
   simp only [sD,sE,sF,sG]
   repeat (go_big_quiet_step (fail))
   refine wpQuiet_nil ?_
   refine wpL_one (i:=3) (fuel:=2) (by kernel_rfl) rfl (fun KK hKK => ?_)
   refine step_stm rfl 29 (.tmp 2) (.tmp 19) rfl w.heap.size 0 (moC false false MoV.nul) rfl rfl hth info_mo (moC_one (m:=MoT.nul) rfl rfl rfl rfl rfl) ?_
   rw [hWW]
   refine hKK _ _ hS5 ?_
   clear hKK KK hWW hth
   simp only [Act.put,sA,sB,sC]
   refine wpL_one (i:=4) (fuel:=1) (by kernel_rfl) rfl (fun KK hKK => ?_)
   go_simp
   refine hKK _ _ hS5 ?_
   clear hKK KK
   refine wpL_last (fuel:=0) (by kernel_rfl) (by kernel_rfl) rfl (fun KK hKK => ?_)
   go_simp
   refine hKK _ _ ?_
   clear hKK KK
   go_wp2_with fail
   rw [HR.out]
   exact v_done3 29 rfl rfl rfl rfl rfl JV5.out Tryz.underlying29 rfl info_mo ⟨MoV.nul,rfl,MoSh.nul,B5.out⟩
  | false =>
   obtain ⟨g,hg⟩ : ∃ g,fits (rowT T L) F f f MoT.nul (0,0) = g:=⟨_,rfl⟩
   have HR : Hid (X = if g.2.2 = 0 then (g.1,(rowT T L).ps g.2.1,0) else (MoT.nul,(rowT T L).ps g.2.1,g.2.2)):=Lh (by
    rw [← HX.out,← hg]
    unfold parseM
    rw [if_neg hlong,if_neg (by rw [hbd]; decide)])
   have HG:=Lh hg
   clear HX hg
   go_enter Tryz.func11,Tryz.ntmps11
   go_wp2_with (first
    | (go_at_call 28; (with_reducible refine (HAL.out _ B1.out).mono ?_); rintro e w2 ⟨v2,rfl,ho2,b2⟩; obtain ⟨A2,c2,rfl⟩:=ho2.form; have HO2:=Lh ho2; have JV:=Lh (JV.out.under b2); have hz2s:=b2.size; rw [hs1.out] at hz2s; have B2:=Lh (bTr B1 b2); clear b2 ho2)
    | (go_at_call 27; (with_reducible refine (HBD.out _ _ _ _ (HO2.out.tok rfl)).mono ?_); rintro e w3 ⟨rfl,b3⟩; rw [hbd]; have JV:=Lh ((JV.out.under b3).under (bRf.alloc nLe (.cells #[.int .i64 (badOf L).1,.int .i64 (badOf L).2.1,.int .i64 (badOf L).2.2] 60))); have hz3s:=b3.size; have B3:=Lh (bTr B2 b3); have B4:=Lh (B3.out.alloc B3.out.size (.cells #[.int .i64 (badOf L).1,.int .i64 (badOf L).2.1,.int .i64 (badOf L).2.2] 60)); clear b3; dsimp only)
    | (go_at_call 29; (with_reducible refine (HNW.out _ B4.out).mono ?_); rintro e w4 ⟨C,rfl,rfl,rfl,hc,hb4,hg4,hAb⟩; refine Hid.out ?_)
    | fail)
   have HC:=Lh hc
   have hgl : w3.heap.size + 1 ≤ C.g:=by have:=hg4; rwa [size_al] at this
   have B5:=Lh (bTr B4 hb4)
   have JV:=Lh (JV.out.under hb4)
   have hgw : C.g < w4.heap.size:=hc.lt
   have hln : C.L.length < 1000000:=by omega
   have HIT : Hid (∀ G m v FL p W,Frd C G m.hl m.he v W (p,0) → MoS G W m v FL (capX (p,0)) → CP 31 #[.pointer (some ⟨G,0,none⟩)] W (ItTo C G (fit C.R F f m p) W)):=Lh fun G m v FL p W h1 h2 => fitem C HTK.out HDG.out (row_ok _ _) hln F (by omega) f (by omega) G m v FL p W h1 h2
   have HDN : Hid (∀ W p,Cur C W p → CP 30 #[C.ptr] W fun e w' => e = .returned (.bool (decide (p = C.L.length))) ∧ Quiet W w'):=Lh fun W p h => done_any C HTK.out p W h
   have HPO : Hid (∀ W p,Cur C W p → CP 32 #[C.ptr] W fun e w' => e = .returned (.int .i64 (C.R.ps p)) ∧ Below W.heap.size W w'):=Lh fun W p h => pos_any C HTK.out p W h
   have HUP : Hid (∀ m p,p ≤ C.R.n → Up C.R 1 (p,0) (fit C.R F f m p).2):=Lh fun m p hp => fit_up (row_ok _ _) F f m hp
   have hptr : C.ptr = .pointer (some ⟨C.g,0,none⟩):=rfl
   have hff : C.L.length < f:=by omega
   have HAB : Hid (∀ b off,C.A = some ⟨b,off,none⟩ → b ≠ w.heap.size):=Lh fun b off e => by have:=hAb b off e; rw [size_al] at this; omega
   clear hc hb4 hg4 hAb HNW HAL HBD B2 B3 B4 HO2
   refine Lh ?_
   go_wp2_with (first
    | (refine wpList_stV rfl 68 _ _ rfl (G:=w4.heap.size) (off:=0) rfl (us:=frC C false false MoV.nul 0) (Var.new w4 [.pointer none,.slice none 0 0,.bool false,.slice none 0 0,.bool false,.slice none 0 0,.slice none 0 0,.slice none 0 0,.int .i64 0] 68 rfl) rfl info_fr (Nat.le_refl 9) (frC_one rfl rfl rfl rfl rfl) ?_; intro w5 ht hs; have ta:=Tn.alloc (fun k => k = w4.heap.size) w4 (.cells #[.pointer none,.slice none 0 0,.bool false,.slice none 0 0,.bool false,.slice none 0 0,.slice none 0 0,.slice none 0 0,.int .i64 0] 68); have hz5:=ht.size; rw [size_al] at hz5; have JV:=Lh (JV.out.turn (ta.trans ht) (by omega)); have B6:=Lh (B5.out.trans ((ta.trans ht).below B5.out.size (fun k hk e => by omega))); have J : Hid (Frd C w4.heap.size false false MoV.nul w5 (0,0)):=Lh ⟨HC.out.turn (ta.trans ht) (fun k hk e => by omega),hs,hgw⟩; clear ht hs ta)
    | fail)
   try dsimp only [Act.put]
   have hwC : w.heap.size < C.g:=by omega
   go_loopw [] (fun wr => ∃ (m : MoT) (v : MoV) (FL : List (FnT × FnV)) (x : Nat × Int) (k : Nat),Frd C w4.heap.size m.hl m.he v wr x ∧ MoS w4.heap.size wr m v FL (capX x) ∧ fits C.R F f k m x = g ∧ (x.2 = 0 → C.L.length < x.1 + k) ∧ Var wr w.heap.size (moC false false MoV.nul) ∧ Below w.heap.size w wr) (fun wr => msrF C w4.heap.size wr)
   case atStart => exact ⟨MoT.nul,MoV.nul,[],(0,0),f,J.out,⟨Own.nil _ _ _ _ (by omega),Own.nil _ _ _ _ (by omega),Own.nil _ _ _ _ (by omega),Own.nil _ _ _ _ (by omega),Own.nil _ _ _ _ (by omega),rfl,(fun q hq => by cases hq),Apt.none,Nat.zero_le _,Nat.zero_le _,Nat.zero_le _,Nat.zero_le _,Nat.zero_le _⟩,HG.out,fun _ => by show C.L.length < 0 + f; omega,JV.out,B6.out⟩
   case round =>
    clear J JV B6 HG
    obtain ⟨m,v,FL,⟨p,r⟩,k,hj,hm,hgf,hk,hjv,hb6⟩:=hrel
    have hms:=msrF_eq hj
    have hpn:=hj.cur.le
    have g8:=hj.c8
    have g0:=hj.c0
    have J:=Lh hj
    have JP:=Lh hm
    have HG:=Lh hgf
    have JV:=Lh hjv
    have B6:=Lh hb6
    dsimp only at g8 hpn hms hk
    clear hj hm hgf hjv hb6
    by_cases hr : r = 0
    ·subst hr
     by_cases hp : p = C.L.length
     ·have hgx : g = (m,(p,0)):=by rw [← HG.out]; exact fits_end (fun h => h.2 hp)
      have HR2 : Hid (X = (m,C.R.ps p,0)):=Lh (by rw [HR.out,hgx,if_pos rfl])
      have hd : decide (p = C.L.length) = true:=decide_eq_true hp
      have HMS:=Lh hms
      clear HR HG hgx hk hms
      go_wp2_with (first
       | (go_at_call 30; (with_reducible refine (HDN.out _ _ J.out.cur).mono ?_); rintro e w6 ⟨rfl,hq⟩; rw [hd]; have b:=hq.below wr.heap.size; have JV:=Lh (JV.out.under b); have JP:=Lh (JP.out.under b); have B6:=Lh (bTr B6 b); have J:=Lh (J.out.under b); clear b hq g8; have g8 : w6.cell? ⟨w4.heap.size,8,none⟩ = some (.int .i64 0):=J.out.c8; dsimp only)
       | fail)
      have J:=Lh (show Frd C w4.heap.size m.hl m.he v w6.drew (p,0) from J.out.under (below_drew _ _))
      have JP:=Lh (JP.out.under (below_drew _ _))
      have JV:=Lh (JV.out.under (below_drew _ _))
      have B6:=Lh (B6.out.trans (below_drew _ _))
      have hone:=(JP.out.show (S:=fun _ => True) (fun _ _ => trivial)).one m.hl m.he
      obtain ⟨im,la,ef,va,fn⟩:=v
      obtain ⟨S,hSd⟩ : ∃ S : World → Prop,S = fun V => V.cell? ⟨w4.heap.size,0,none⟩ = some C.ptr ∧ V.rangeAt w4.heap.size 1 [im,.bool m.hl,la,.bool m.he,ef,va,fn]:=⟨_,rfl⟩
      have hSF : ∀ V,S V → V.cell? ⟨w4.heap.size,0,none⟩ = some C.ptr ∧ V.rangeAt w4.heap.size 1 [im,.bool m.hl,la,.bool m.he,ef,va,fn]:=by rw [hSd]; exact fun W h => h
      have s0 : ∀ sw : SW S,sw.w.cell? ⟨w4.heap.size,0,none⟩ = some C.ptr:=fun sw => (hSF _ sw.h).1
      have sK : ∀ V,S V → V.rangeAt w4.heap.size 1 [im,.bool m.hl,la,.bool m.he,ef,va,fn]:=fun V h => (hSF V h).2
      have HS : Hid (∀ V y,Frd C w4.heap.size m.hl m.he ⟨im,la,ef,va,fn⟩ V y → S V):=Lh fun V y h => by rw [hSd]; exact ⟨h.c0,h.mid⟩
      have hS0:=HS.out _ _ J.out
      clear hSd hSF g8 g0
      try dsimp only [Act.put]
      refine regionH_start (by kernel_rfl) 8 rfl S 7 ?_
      refine wpL_next 0 1 7 (by kernel_rfl) (fun _ _ d _ _ h => by cases d <;> exact h) hS0 (fun hne => ?_)
      simp only [sD,sE,sF,sG]
      repeat (go_big_quiet_step (fail))
      refine wpQuiet_nil ?_
      refine wpL_take 1 (fuel:=6) (.agg (List.toArray [im,.bool m.hl,la,.bool m.he,ef,va,fn])) (by kernel_rfl) (fun _ _ d _ _ h => by cases d <;> exact h) rfl hS0 (yieldsIf_load_mid rfl 29 (.tmp 44) rfl w4.heap.size 1 rfl [im,.bool m.hl,la,.bool m.he,ef,va,fn] _ sK Tryz.underlying29 rfl info_mo) ?_
      simp only [Act.put,sA,sB,sC]
      refine wpL_next 2 2 4 (by kernel_rfl) (fun _ _ d _ _ h => by cases d <;> exact h) hS0 (fun hne => ?_)
      simp only [sD,sE,sF,sG]
      repeat (go_big_quiet_step (fail))
      refine wpQuiet_nil ?_
      refine wpL_one (i:=4) (fuel:=3) (by kernel_rfl) rfl (fun KK hKK => ?_)
      go_simp
      with_reducible refine (HPO.out _ _ J.out.cur).mono ?_
      rintro e wz ⟨rfl,b⟩
      have JV:=Lh (JV.out.under b)
      have JP:=Lh (JP.out.under b)
      have B6:=Lh (bTr B6 b)
      have J:=Lh (J.out.under b)
      clear b
      refine hKK _ _ (HS.out _ _ J.out) ?_
      clear hKK KK
      refine wpL_one (i:=5) (fuel:=2) (by kernel_rfl) rfl (fun KK hKK => ?_)
      refine step_stm rfl 29 (.tmp 2) (.tmp 45) rfl w.heap.size 0 (moC m.hl m.he ⟨im,la,ef,va,fn⟩) rfl rfl (JV.out.there (Nat.le_refl 7)) info_mo hone ?_
      have ht:=Tn.sets (M:=fun k => k = w.heap.size) w.heap.size (moC m.hl m.he ⟨im,la,ef,va,fn⟩) rfl 0 wz
      have hsv:=JV.out.sets 0 (moC m.hl m.he ⟨im,la,ef,va,fn⟩) (Nat.le_refl 7)
      have B6:=Lh (B6.out.trans (ht.below B6.out.size (fun k hk e => by omega)))
      have JP:=Lh (JP.out.turn ht (fun k h1 _ e => by omega))
      have J:=Lh (J.out.turn2 ht hvs (by omega) (by omega) HAB.out)
      obtain ⟨WW,hWW⟩ : ∃ WW,wz.setCells w.heap.size 0 (moC m.hl m.he ⟨im,la,ef,va,fn⟩) = WW:=⟨_,rfl⟩
      rw [hWW] at hsv B6 J JP ⊢
      have JV : Hid (Var WW w.heap.size (moC m.hl m.he ⟨im,la,ef,va,fn⟩)):=Lh hsv
      refine hKK _ _ (HS.out _ _ J.out) ?_
      clear hKK KK hWW ht hsv
      simp only [Act.put,sA,sB,sC]
      refine wpL_one (i:=6) (fuel:=1) (by kernel_rfl) rfl (fun KK hKK => ?_)
      go_simp
      refine hKK _ _ (HS.out _ _ J.out) ?_
      clear hKK KK
      refine wpL_last (fuel:=0) (by kernel_rfl) (by kernel_rfl) rfl (fun KK hKK => ?_)
      go_simp
      refine hKK _ _ ?_
      clear hKK KK
      go_wp2_with fail
      rw [HR2.out]
      exact v_done3 29 rfl rfl rfl rfl rfl JV.out Tryz.underlying29 rfl info_mo ⟨⟨im,la,ef,va,fn⟩,by rw [hp]; rfl,JP.out.show (fun b hb => by show w.heap.size ≤ b; omega),B6.out⟩
     ·obtain ⟨k,rfl⟩ : ∃ k',k = k' + 1:=⟨k - 1,by have:=hk rfl; omega⟩
      have HK : Hid (C.L.length < p + (k + 1)):=Lh (hk rfl)
      have HG2 : Hid (fits C.R F f k (fit C.R F f m p).1 (fit C.R F f m p).2 = g):=Lh (by rw [← HG.out,fits_on (show ¬ p = C.R.n from hp)])
      have hup:=HUP.out m p hpn
      obtain ⟨y,hy⟩ : ∃ y,fit C.R F f m p = y:=⟨_,rfl⟩
      have hII:=fun W h1 h2 => HIT.out w4.heap.size m v FL p W h1 h2
      rw [hy] at hII HG2 hup
      have HII:=Lh hII
      have HUP1:=Lh hup
      have hd : decide (p = C.L.length) = false:=decide_eq_false hp
      have HMS:=Lh hms
      clear hII hy hup HG hk hms
      go_wp2_with (first
       | (go_at_call 30; (with_reducible refine (HDN.out _ _ J.out.cur).mono ?_); rintro e w6 ⟨rfl,hq⟩; rw [hd]; have b:=hq.below wr.heap.size; have JV:=Lh (JV.out.under b); have JP:=Lh (JP.out.under b); have B6:=Lh (bTr B6 b); have J:=Lh (J.out.under b); clear b hq; dsimp only)
       | (go_at_call 31; (with_reducible refine (HII.out _ J.out JP.out).mono ?_); rintro e w7 ⟨v',FL',rfl,hr7,hm7,ht7⟩; have JV:=Lh (JV.out.turn ht7 (by intro h; rcases h with h | h <;> omega)); have B6:=Lh (B6.out.trans (ht7.below B6.out.size (fun k hk h => by rcases h with h | h <;> omega))); have J:=Lh hr7; have JP:=Lh hm7; clear hr7 hm7 ht7; dsimp only)
       | fail)
      go_roundw
      case rel => exact ⟨y.1,v',FL',y.2,k,J.out,JP.out,HG2.out,fun h0 => by have h1 : p + (0 + 1) ≤ y.2.1:=(HUP1.out.st h0).2; have h2:=HK.out; omega,JV.out,B6.out⟩
      case measure => rw [HMS.out,msrF_eq J.out]; exact msrF_lt rfl HUP1.out rfl
    ·have hgx : g = (m,(p,r)):=by rw [← HG.out]; exact fits_end (fun h => hr h.1)
     have HR2 : Hid (X = (MoT.nul,C.R.ps p,r)):=Lh (by rw [HR.out,hgx,if_neg hr])
     have hr1 : (r == 0) = false:=by simp [hr]
     have hr2 : decide (r = 0) = false:=by simp [hr]
     have hr3 : (r != 0) = true:=by simp [hr]
     clear HR HG hgx hk hms
     go_wp2_with fail
     have J:=Lh (show Frd C w4.heap.size m.hl m.he v wr.drew (p,r) from J.out.under (below_drew _ _))
     have JV:=Lh (JV.out.under (below_drew _ _))
     have B6:=Lh (B6.out.trans (below_drew _ _))
     obtain ⟨S,hSd⟩ : ∃ S : World → Prop,S = fun V => V.cell? ⟨w4.heap.size,0,none⟩ = some C.ptr ∧ V.cell? ⟨w4.heap.size,8,none⟩ = some (.int .i64 r):=⟨_,rfl⟩
     have hSF : ∀ V,S V → V.cell? ⟨w4.heap.size,0,none⟩ = some C.ptr ∧ V.cell? ⟨w4.heap.size,8,none⟩ = some (.int .i64 r):=by rw [hSd]; exact fun W h => h
     have s0 : ∀ sw : SW S,sw.w.cell? ⟨w4.heap.size,0,none⟩ = some C.ptr:=fun sw => (hSF _ sw.h).1
     have s8 : ∀ sw : SW S,sw.w.cell? ⟨w4.heap.size,8,none⟩ = some (.int .i64 r):=fun sw => (hSF _ sw.h).2
     have HS : Hid (∀ V,Frd C w4.heap.size m.hl m.he v V (p,r) → S V):=Lh fun V h => by rw [hSd]; exact ⟨h.c0,h.c8⟩
     have hS0:=HS.out _ J.out
     clear hSd hSF g8 g0
     try dsimp only [Act.put]
     refine regionH_start (by kernel_rfl) 9 rfl S 8 ?_
     refine wpL_next 0 3 6 (by kernel_rfl) (fun _ _ d _ _ h => by cases d <;> exact h) hS0 (fun hne => ?_)
     simp only [sD,sE,sF,sG]
     repeat (go_big_quiet_step (fail))
     refine wpQuiet_nil ?_
     refine wpL_next 4 2 4 (by kernel_rfl) (fun _ _ d _ _ h => by cases d <;> exact h) hS0 (fun hne => ?_)
     simp only [sD,sE,sF,sG]
     repeat (go_big_quiet_step (fail))
     refine wpQuiet_nil ?_
     refine wpL_one (i:=3) (fuel:=3) (by kernel_rfl) rfl (fun KK hKK => ?_)
     go_simp
     with_reducible refine (HPO.out _ _ J.out.cur).mono ?_
     rintro e wz ⟨rfl,b⟩
     have JV:=Lh (JV.out.under b)
     have B6:=Lh (bTr B6 b)
     have J:=Lh (J.out.under b)
     clear b
     refine hKK _ _ (HS.out _ J.out) ?_
     clear hKK KK
     refine wpL_one (i:=6) (fuel:=2) (by kernel_rfl) rfl (fun KK hKK => ?_)
     refine step_stm rfl 29 (.tmp 2) (.tmp 38) rfl w.heap.size 0 (moC false false MoV.nul) rfl rfl (JV.out.there (Nat.le_refl 7)) info_mo (moC_one (m:=MoT.nul) rfl rfl rfl rfl rfl) ?_
     have ht:=Tn.sets (M:=fun k => k = w.heap.size) w.heap.size (moC false false MoV.nul) rfl 0 wz
     have hsv:=JV.out.sets 0 (moC false false MoV.nul) (Nat.le_refl 7)
     have B6:=Lh (B6.out.trans (ht.below B6.out.size (fun k hk e => by omega)))
     have J:=Lh (J.out.turn2 ht hvs (by omega) (by omega) HAB.out)
     obtain ⟨WW,hWW⟩ : ∃ WW,wz.setCells w.heap.size 0 (moC false false MoV.nul) = WW:=⟨_,rfl⟩
     rw [hWW] at hsv B6 J ⊢
     have JV : Hid (Var WW w.heap.size (moC false false MoV.nul)):=Lh hsv
     refine hKK _ _ (HS.out _ J.out) ?_
     clear hKK KK hWW ht hsv
     simp only [Act.put,sA,sB,sC]
     refine wpL_one (i:=7) (fuel:=1) (by kernel_rfl) rfl (fun KK hKK => ?_)
     go_simp
     refine hKK _ _ (HS.out _ J.out) ?_
     clear hKK KK
     refine wpL_last (fuel:=0) (by kernel_rfl) (by kernel_rfl) rfl (fun KK hKK => ?_)
     go_simp
     refine hKK _ _ ?_
     clear hKK KK
     go_wp2_with fail
     rw [HR2.out]
     exact v_done3 29 rfl rfl rfl rfl rfl JV.out Tryz.underlying29 rfl info_mo ⟨MoV.nul,rfl,MoSh.nul,B6.out⟩
end Go.Proofs.YtkjhlgnpohamnaaGreatDoor
