import Derived.Test.YtkjhlgnpohamnaaGreatDoorSq
import Derived.Test.YtkjhlgnpohamnaaGreatDoorFiA
set_option maxHeartbeats 3200000
namespace Go.Proofs.YtkjhlgnpohamnaaGreatDoor
set_option linter.unusedVariables false
set_option linter.unusedSimpArgs false
open Go.RowKit
theorem zeroFn (w : World) : (zeroValue 79).run Tryz.prog w = .ok (.agg #[.string ⟨#[]⟩,.int .i64 0,.slice none 0 0,.int .i64 0,.bool false,.bool false,.string ⟨#[]⟩,.int .i64 0,.int .i64 0,.bool false,.slice none 0 0,.slice none 0 0,.int .i64 0,.int .i64 0,.int .i64 0,.string ⟨#[]⟩,.string ⟨#[]⟩,.slice none 0 0]) w:=by kernel_rfl
def FnTo (C : Cx) (G : Nat) (hl he : Bool) (m : MoT) (FL : List (FnT × FnV)) (k : Nat) (y : FnT × (Nat × Int)) (w : World) (e : Ending) (w' : World) : Prop:=
 ∃ v' q,e = .returned none0 ∧ Frd C G hl he v' w' y.2 ∧ MoS G w' { m with fn:=m.fn ++ [y.1] } v' (FL ++ [q]) (k + 1) ∧ Tn (FrG C G) w w'
theorem ShV.len {w : World} {S : Nat → Prop} {lv : Value} {n : Nat} {cs : List Value} (h : ShV w S lv n cs) : ∃ A c,lv = .slice A n c:=by
 obtain ⟨A,c,e,_⟩:=h
 exact ⟨A,c,e⟩
set_option maxRecDepth 100000 in
theorem ffunction (C : Cx) (hC : TokOk C.T C.L) (hDg : DigOk C) (hR : C.R.Ok) (hn : C.L.length < 1000000) (F : Nat) (hF : 16 * C.L.length + 9 ≤ F) (f : Nat) (hf : 3 * C.L.length + 3 ≤ f) (G : Nat) (hl he : Bool) (v : MoV) (m : MoT) (FL : List (FnT × FnV)) (k : Nat) (x : Nat × Int) (w : World) (h : Frd C G hl he v w x) (hP : MoS G w m v FL k) (hk : k ≤ 10000000) :
  CP 64 #[.pointer (some ⟨G,0,none⟩)] w (FnTo C G hl he m FL k (ffn C.R F f x) w):=by
 have hz1:=zeroNm
 have hz2:=zeroFn
 have hGw:=h.v.lt
 have hgt:=h.gt
 obtain ⟨im,la,ef,va,fn⟩:=v
 obtain ⟨A7,c7,e7⟩:=hP.fn.form
 dsimp only at e7
 subst e7
 have hlw : ∀ k,(Value.slice A7 FL.length c7).ownBlock = some k → k < w.heap.size:=fun k hk => (hP.fn.1.lt k hk).2
 obtain ⟨v,hv⟩ : ∃ v : MoV,v = ⟨im,la,ef,va,.slice A7 FL.length c7⟩:=⟨_,rfl⟩
 rw [← hv] at h hP
 obtain ⟨x1,hx1⟩ : ∃ y,mu C.R x [wFn] = y:=⟨_,rfl⟩
 obtain ⟨y2,hy2⟩ : ∃ y,fnm C.R x1 = y:=⟨_,rfl⟩
 obtain ⟨x3,hx3⟩ : ∃ y,mu C.R y2.2 [wPar] = y:=⟨_,rfl⟩
 obtain ⟨y4,hy4⟩ : ∃ y,lst C.R (onV C.R) wRap f [] x3 = y:=⟨_,rfl⟩
 obtain ⟨x5,hx5⟩ : ∃ y,mu C.R y4.2 [wCol] = y:=⟨_,rfl⟩
 obtain ⟨y6,hy6⟩ : ∃ y,pty C.R x5 = y:=⟨_,rfl⟩
 obtain ⟨y7,hy7⟩ : ∃ y,pmk C.R y6.2 = y:=⟨_,rfl⟩
 obtain ⟨b,hb⟩ : ∃ y,tkW C.R y7.2 [47] = y:=⟨_,rfl⟩
 obtain ⟨x9,hx9⟩ : ∃ y,mu C.R (tkX y7.2 true) [wBra] = y:=⟨_,rfl⟩
 obtain ⟨z10,hz10⟩ : ∃ y,lst C.R (onN C.R) wKet f [] x9 = y:=⟨_,rfl⟩
 obtain ⟨y10,hy10⟩ : ∃ y : List NmT × (Nat × Int),(if b = true then z10 else ([],y7.2)) = y:=⟨_,rfl⟩
 obtain ⟨x11,hx11⟩ : ∃ y,mu C.R y10.2 [wBra] = y:=⟨_,rfl⟩
 obtain ⟨y12,hy12⟩ : ∃ y,prow C.R F f x11 = y:=⟨_,rfl⟩
 obtain ⟨x13,hx13⟩ : ∃ y,mu C.R y12.2 [wRet] = y:=⟨_,rfl⟩
 obtain ⟨y14,hy14⟩ : ∃ y,pex C.R F x13 = y:=⟨_,rfl⟩
 obtain ⟨x15,hx15⟩ : ∃ y,mu C.R y14.2 [wSem,wKet] = y:=⟨_,rfl⟩
 have HV : ffn C.R F f x = (⟨y2.1.nm,y2.1.a,y4.1,y6.1,y7.1,b,y10.1,y12.1,y14.1⟩,x15):=by
  simp only [ffn,hx1,hy2,hx3,hy4,hx5,hy6,hy7,hb,hx9,hz10,hy10,hx11,hy12,hx13,hy14,hx15]
 rw [HV]
 have HM1 : Hid (∀ W,Frd C G hl he v W x → CP 57 #[.pointer (some ⟨G,0,none⟩),.slice (some ⟨W.heap.size,0,none⟩) 1 1] (W.alloc (.cells #[.string ⟨#[102,110]⟩] 9)) (FGo C G hl he v none0 x1 W)):=Lh fun W hW => by
  have:=fmust1 C hC G hl he v x W hW ⟨#[102,110]⟩ (by decide)
  rw [hx1] at this
  exact this
 have HN2 : Hid (∀ W,Frd C G hl he v W x1 → CP 58 #[.pointer (some ⟨G,0,none⟩)] W (FGo C G hl he v (nmV y2.1) y2.2 W)):=Lh fun W hW => by
  have:=fname C hC G hl he v x1 W hW
  rwa [hy2] at this
 have HM3 : Hid (∀ W,Frd C G hl he v W y2.2 → CP 57 #[.pointer (some ⟨G,0,none⟩),.slice (some ⟨W.heap.size,0,none⟩) 1 1] (W.alloc (.cells #[.string ⟨#[40]⟩] 9)) (FGo C G hl he v none0 x3 W)):=Lh fun W hW => by
  have:=fmust1 C hC G hl he v y2.2 W hW ⟨#[40]⟩ (by decide)
  rw [hx3] at this
  exact this
 have HL4 : Hid (∀ K f0 W,w.heap.size < K → Frd C G hl he v W x3 → Var W w.heap.size [ptrG G] → Var W K (fnC f0 ⟨.slice none 0 0,.slice none 0 0,.slice none 0 0,.slice none 0 0⟩) → CP 98 #[.pointer (some ⟨G,0,none⟩),.string ⟨#[41]⟩,.func (.func 99) #[] #[.pointer (some ⟨K,0,none⟩),.pointer (some ⟨w.heap.size,0,none⟩)]] W fun e w' => ∃ pv,e = .returned none0 ∧ Frd C G hl he v w' y4.2 ∧ Var w' K (fnC f0 ⟨pv,.slice none 0 0,.slice none 0 0,.slice none 0 0⟩) ∧ Own w' W.heap.size 71 8 pv y4.1.length (vrs y4.1) ∧ Tn (LsM C G K W.heap.size) W w'):=Lh fun K f0 W hK hW hB hV => by
  have:=flist1 C hC hR hn f (by omega) G K w.heap.size hGw hK hl he v f0 _ rfl x3 W hW hB hV
  rw [hy4] at this
  exact this
 have HM5 : Hid (∀ W,Frd C G hl he v W y4.2 → CP 57 #[.pointer (some ⟨G,0,none⟩),.slice (some ⟨W.heap.size,0,none⟩) 1 1] (W.alloc (.cells #[.string ⟨#[58]⟩] 9)) (FGo C G hl he v none0 x5 W)):=Lh fun W hW => by
  have:=fmust1 C hC G hl he v y4.2 W hW ⟨#[58]⟩ (by decide)
  rw [hx5] at this
  exact this
 have HT6 : Hid (∀ W,Frd C G hl he v W x5 → CP 94 #[.pointer (some ⟨G,0,none⟩),.func (.func 95) #[] #[]] W (FGo C G hl he v (.int .i64 y6.1) y6.2 W)):=Lh fun W hW => by
  have:=fpartT C hC G hl he v x5 W hW
  rwa [hy6] at this
 have HA7 : Hid (∀ W,Frd C G hl he v W y6.2 → CP 96 #[.pointer (some ⟨G,0,none⟩),.func (.func 97) #[] #[]] W (FGo C G hl he v (anV y7.1) y7.2 W)):=Lh fun W hW => by
  have:=fpartA C hC G hl he v y6.2 W hW
  rwa [hy7] at this
 have HK8 : Hid (∀ W,Frd C G hl he v W y7.2 → CP 92 #[.pointer (some ⟨G,0,none⟩),.string ⟨#[47]⟩] W (FGo C G hl he v (.bool b) (tkX y7.2 b) W)):=Lh fun W hW => by
  have:=ftakeW C hC G hl he v y7.2 W hW 47 []
  rwa [hb] at this
 have HM9 : Hid (∀ W,Frd C G hl he v W (tkX y7.2 true) → CP 57 #[.pointer (some ⟨G,0,none⟩),.slice (some ⟨W.heap.size,0,none⟩) 1 1] (W.alloc (.cells #[.string ⟨#[123]⟩] 9)) (FGo C G hl he v none0 x9 W)):=Lh fun W hW => by
  have:=fmust1 C hC G hl he v (tkX y7.2 true) W hW ⟨#[123]⟩ (by decide)
  rw [hx9] at this
  exact this
 have HL10 : Hid (∀ K f0 pv W,w.heap.size < K → Frd C G hl he v W x9 → Var W w.heap.size [ptrG G] → Var W K (fnC f0 ⟨pv,.slice none 0 0,.slice none 0 0,.slice none 0 0⟩) → CP 98 #[.pointer (some ⟨G,0,none⟩),.string ⟨#[125]⟩,.func (.func 100) #[] #[.pointer (some ⟨K,0,none⟩),.pointer (some ⟨w.heap.size,0,none⟩)]] W fun e w' => ∃ rv,e = .returned none0 ∧ Frd C G hl he v w' z10.2 ∧ Var w' K (fnC f0 ⟨pv,rv,.slice none 0 0,.slice none 0 0⟩) ∧ Own w' W.heap.size 109 2 rv z10.1.length (nms z10.1) ∧ Tn (LsM C G K W.heap.size) W w'):=Lh fun K f0 pv W hK hW hB hV => by
  have:=flist2 C hC hR hn f (by omega) G K w.heap.size hGw hK hl he v f0 _ rfl x9 W hW hB hV
  rw [hz10] at this
  exact this
 have HM11 : Hid (∀ W,Frd C G hl he v W y10.2 → CP 57 #[.pointer (some ⟨G,0,none⟩),.slice (some ⟨W.heap.size,0,none⟩) 1 1] (W.alloc (.cells #[.string ⟨#[123]⟩] 9)) (FGo C G hl he v none0 x11 W)):=Lh fun W hW => by
  have:=fmust1 C hC G hl he v y10.2 W hW ⟨#[123]⟩ (by decide)
  rw [hx11] at this
  exact this
 have HR12 : Hid (∀ W,Frd C G hl he v W x11 → CP 101 #[.pointer (some ⟨G,0,none⟩),.func (.func 102) #[] #[]] W fun e w' => ∃ lv,FGo C G hl he v lv y12.2 W e w' ∧ ShS w' (fun b => W.heap.size ≤ b) lv y12.1):=Lh fun W hW => by
  have:=fpartR C hC hDg hR hn F hF f hf G hl he v x11 W hW
  rwa [hy12] at this
 have HM13 : Hid (∀ W,Frd C G hl he v W y12.2 → CP 57 #[.pointer (some ⟨G,0,none⟩),.slice (some ⟨W.heap.size,0,none⟩) 1 1] (W.alloc (.cells #[.string ⟨#[114,101,116,117,114,110]⟩] 9)) (FGo C G hl he v none0 x13 W)):=Lh fun W hW => by
  have:=fmust1 C hC G hl he v y12.2 W hW ⟨#[114,101,116,117,114,110]⟩ (by decide)
  rw [hx13] at this
  exact this
 have HE14 : Hid (∀ W,Frd C G hl he v W x13 → CP 104 #[.pointer (some ⟨G,0,none⟩),.func (.func 105) #[] #[]] W fun e w' => ∃ lv,FGo C G hl he v (exV y14.1 lv) y14.2 W e w' ∧ Shx w' (fun b => W.heap.size ≤ b) lv y14.1.l):=Lh fun W hW => by
  have:=fpartE C hC hDg F hF G hl he v x13 W hW
  rwa [hy14] at this
 have HM15 : Hid (∀ W,Frd C G hl he v W y14.2 → CP 57 #[.pointer (some ⟨G,0,none⟩),.slice (some ⟨W.heap.size,0,none⟩) 2 2] (W.alloc (.cells #[.string ⟨#[59]⟩,.string ⟨#[125]⟩] 9)) (FGo C G hl he v none0 x15 W)):=Lh fun W hW => by
  have:=fmust2 C hC G hl he v y14.2 W hW ⟨#[59]⟩ ⟨#[125]⟩ (by decide) (by decide)
  rw [hx15] at this
  exact this
 have hs0 : Hid ((w.alloc (.cells #[ptrG G] 105)).heap.size = w.heap.size + 1):=Lh (by simp)
 have J : Hid (Frd C G hl he v (w.alloc (.cells #[ptrG G] 105)) x):=Lh (h.new _)
 have JB : Hid (Var (w.alloc (.cells #[ptrG G] 105)) w.heap.size [ptrG G]):=Lh (Var.new w [ptrG G] 105 rfl)
 have JT : Hid (Tn (NwM C G w.heap.size) w (w.alloc (.cells #[ptrG G] 105))):=Lh (Tn.alloc _ _ _)
 have HP:=Lh hP
 have hM1:=HM1.out _ J.out
 rw [size_al] at hM1
 have HM1:=Lh hM1
 have kb:=JB.out.at 0 rfl
 have HVV:=Lh hv
 clear h hP HV hM1 hx1 hy2 hx3 hy4 hx5 hy6 hy7 hb hx9 hz10 hx11 hy12 hx13 hy14 hx15 hv
 cases b with
 | true =>
  have hy : y10 = (z10.1,z10.2):=by rw [← hy10,if_pos rfl]
  subst hy
  clear hy10
  go_enter Tryz.func64,Tryz.ntmps64
  go_wp2_with (first
   | (go_at_call 57; (with_reducible refine HM1.out.mono ?_); rintro e wa ⟨rfl,hr,ht⟩; have hza:=ht.size; rw [hs0.out] at hza; have JB:=Lh (JB.out.turn ht (by intro h; rcases h with h | h <;> omega)); have JT:=Lh (JT.out.nw ht); have J:=Lh hr; clear hr ht kb; have kb:=JB.out.at 0 rfl; dsimp only)
   | (go_at_call 58; (with_reducible refine (HN2.out _ J.out).mono ?_); rintro e w2 ⟨rfl,hr,ht⟩; have hzw2:=ht.size; have JB:=Lh (JB.out.turn ht (by intro h; rcases h with h | h <;> omega)); have JT:=Lh (JT.out.nw ht); have J:=Lh hr; clear hr ht; have kb:=JB.out.at 0 rfl; dsimp only)
   | (refine wpList_stV rfl 109 _ _ rfl (G:=w2.heap.size) rfl (us:=nmC y2.1) (Var.new w2 (nmC NmT.nul) 109 rfl) rfl info_nm (Nat.le_refl 2) (nmC_one _) ?_; intro w3 ht hs; have hz3:=ht.size; rw [size_al] at hz3; have ta:=Tn.alloc (fun k => k = w2.heap.size) w2 (.cells #[.string ⟨#[]⟩,.int .i64 0] 109); have JB:=Lh (JB.out.turn (ta.trans ht) (by omega)); have JT:=Lh (JT.out.trans ((ta.trans ht).weak fun k _ h => .inr (.inr (by omega)))); have J:=Lh (J.out.own (ta.trans ht) (by omega)); have J3:=Lh (show Var w3 w2.heap.size (nmC y2.1) from hs); clear ht hs ta; have k0:=J3.out.at 0 rfl; have k1:=J3.out.at 1 rfl; have kb:=JB.out.at 0 rfl)
   | (refine wpList_stV rfl 79 _ _ rfl (G:=w3.heap.size) rfl (us:=fnC ⟨y2.1.nm,y2.1.a,[],0,An.nul,false,[],[],Ex.nul⟩ ⟨.slice none 0 0,.slice none 0 0,.slice none 0 0,.slice none 0 0⟩) (Var.new w3 (fnC FnT.nul ⟨.slice none 0 0,.slice none 0 0,.slice none 0 0,.slice none 0 0⟩) 79 rfl) rfl info_fn (Nat.le_refl 18) (fnC_one rfl rfl rfl rfl) ?_; intro w4 ht hs; have hz4:=ht.size; rw [size_al] at hz4; have ta:=Tn.alloc (fun k => k = w3.heap.size) w3 (.cells #[.string ⟨#[]⟩,.int .i64 0,.slice none 0 0,.int .i64 0,.bool false,.bool false,.string ⟨#[]⟩,.int .i64 0,.int .i64 0,.bool false,.slice none 0 0,.slice none 0 0,.int .i64 0,.int .i64 0,.int .i64 0,.string ⟨#[]⟩,.string ⟨#[]⟩,.slice none 0 0] 79); have JB:=Lh (JB.out.turn (ta.trans ht) (by omega)); have JT:=Lh (JT.out.trans ((ta.trans ht).weak fun k _ h => .inr (.inr (by omega)))); have J:=Lh (J.out.own (ta.trans ht) (by omega)); have JK:=Lh (show Var w4 w3.heap.size (fnC ⟨y2.1.nm,y2.1.a,[],0,An.nul,false,[],[],Ex.nul⟩ ⟨.slice none 0 0,.slice none 0 0,.slice none 0 0,.slice none 0 0⟩) from hs); clear ht hs ta k0 k1; have kb:=JB.out.at 0 rfl)
   | (go_at_call 57; (with_reducible refine (HM3.out _ J.out).mono ?_); rintro e w5 ⟨rfl,hr,ht⟩; have hzw5:=ht.size; have JK:=Lh (JK.out.turn ht (by intro h; rcases h with h | h <;> omega)); have JB:=Lh (JB.out.turn ht (by intro h; rcases h with h | h <;> omega)); have JT:=Lh (JT.out.nw ht); have J:=Lh hr; clear hr ht; have kb:=JB.out.at 0 rfl; dsimp only)
   | (go_at_call 98; (with_reducible refine (HL4.out _ _ _ (by omega) J.out JB.out JK.out).mono ?_); rintro e w6 ⟨pv,rfl,hr,hK,hO,ht⟩; have hz6:=ht.size; have JB:=Lh (JB.out.turn ht (by intro h; rcases h with h | h | h | h <;> omega)); have JT:=Lh (JT.out.trans (ht.weak fun k _ h => by rcases h with h | h | h | h; exact .inl h; exact .inr (.inl h); exact .inr (.inr (by omega)); exact .inr (.inr (by omega)))); have J:=Lh hr; have JK:=Lh hK; have PS : Hid (ShV w6 (fun b => w3.heap.size < b) pv y4.1.length (vrs y4.1)):=Lh (ShV.of_own hO (fun b hb _ _ => by show w3.heap.size < b; omega)); have hpv:=PS.out.one; clear hr ht hK hO; have kb:=JB.out.at 0 rfl; dsimp only)
   | (go_at_call 57; (with_reducible refine (HM5.out _ J.out).mono ?_); rintro e w7 ⟨rfl,hr,ht⟩; have hzw7:=ht.size; have JK:=Lh (JK.out.turn ht (by intro h; rcases h with h | h <;> omega)); have PS:=Lh (PS.out.turn (S':=fun b => w3.heap.size < b) ht (fun b hb _ => ⟨hb,by have hb : w3.heap.size < b:=hb; intro h; rcases h with h | h <;> omega⟩)); have JB:=Lh (JB.out.turn ht (by intro h; rcases h with h | h <;> omega)); have JT:=Lh (JT.out.nw ht); have J:=Lh hr; clear hr ht; have kb:=JB.out.at 0 rfl; dsimp only)
   | (go_at_call 94; (with_reducible refine (HT6.out _ J.out).mono ?_); rintro e w8 ⟨rfl,hr,ht⟩; have hzw8:=ht.size; have JK:=Lh (JK.out.turn ht (by intro h; rcases h with h | h <;> omega)); have PS:=Lh (PS.out.turn (S':=fun b => w3.heap.size < b) ht (fun b hb _ => ⟨hb,by have hb : w3.heap.size < b:=hb; intro h; rcases h with h | h <;> omega⟩)); have JB:=Lh (JB.out.turn ht (by intro h; rcases h with h | h <;> omega)); have JT:=Lh (JT.out.nw ht); have J:=Lh hr; clear hr ht; have kb:=JB.out.at 0 rfl; dsimp only)
   | (refine wpList_st1 rfl _ _ _ rfl (G:=w3.heap.size) (off:=3) rfl (v:=.int .i64 y6.1) JK.out rfl (by kernel_rfl) (by show 3 < 18; omega) rfl ?_; intro w9 ht hs; have hzw9:=ht.size; have PS:=Lh (PS.out.turn (S':=fun b => w3.heap.size < b) ht (fun b hb _ => ⟨hb,by have hb : w3.heap.size < b:=hb; omega⟩)); have JB:=Lh (JB.out.turn ht (by omega)); have JT:=Lh (JT.out.trans (ht.weak fun k _ h => .inr (.inr (by omega)))); have J:=Lh (J.out.own ht (by omega)); have JK:=Lh (show Var w9 w3.heap.size (fnC ⟨y2.1.nm,y2.1.a,y4.1,y6.1,An.nul,false,[],[],Ex.nul⟩ ⟨pv,.slice none 0 0,.slice none 0 0,.slice none 0 0⟩) from hs); clear ht hs; have kb:=JB.out.at 0 rfl)
   | (go_at_call 96; (with_reducible refine (HA7.out _ J.out).mono ?_); rintro e w10 ⟨rfl,hr,ht⟩; have hzw10:=ht.size; have JK:=Lh (JK.out.turn ht (by intro h; rcases h with h | h <;> omega)); have PS:=Lh (PS.out.turn (S':=fun b => w3.heap.size < b) ht (fun b hb _ => ⟨hb,by have hb : w3.heap.size < b:=hb; intro h; rcases h with h | h <;> omega⟩)); have JB:=Lh (JB.out.turn ht (by intro h; rcases h with h | h <;> omega)); have JT:=Lh (JT.out.nw ht); have J:=Lh hr; clear hr ht; have kb:=JB.out.at 0 rfl; dsimp only)
   | (refine wpList_stV rfl 36 _ _ rfl (G:=w3.heap.size) (off:=4) rfl (us:=anC y7.1) JK.out rfl info_an (by show 4 + 5 ≤ 18; omega) (anC_one _) ?_; intro w11 ht hs; have hzw11:=ht.size; have PS:=Lh (PS.out.turn (S':=fun b => w3.heap.size < b) ht (fun b hb _ => ⟨hb,by have hb : w3.heap.size < b:=hb; omega⟩)); have JB:=Lh (JB.out.turn ht (by omega)); have JT:=Lh (JT.out.trans (ht.weak fun k _ h => .inr (.inr (by omega)))); have J:=Lh (J.out.own ht (by omega)); have JK:=Lh (show Var w11 w3.heap.size (fnC ⟨y2.1.nm,y2.1.a,y4.1,y6.1,y7.1,false,[],[],Ex.nul⟩ ⟨pv,.slice none 0 0,.slice none 0 0,.slice none 0 0⟩) from hs); clear ht hs; have kb:=JB.out.at 0 rfl)
   | (go_at_call 92; (with_reducible refine (HK8.out _ J.out).mono ?_); rintro e w12 ⟨rfl,hr,ht⟩; have hzw12:=ht.size; have JK:=Lh (JK.out.turn ht (by intro h; rcases h with h | h <;> omega)); have PS:=Lh (PS.out.turn (S':=fun b => w3.heap.size < b) ht (fun b hb _ => ⟨hb,by have hb : w3.heap.size < b:=hb; intro h; rcases h with h | h <;> omega⟩)); have JB:=Lh (JB.out.turn ht (by intro h; rcases h with h | h <;> omega)); have JT:=Lh (JT.out.nw ht); have J:=Lh hr; clear hr ht; have kb:=JB.out.at 0 rfl; dsimp only)
   | (refine wpList_st1 rfl _ _ _ rfl (G:=w3.heap.size) (off:=9) rfl (v:=.bool true) JK.out rfl (by kernel_rfl) (by show 9 < 18; omega) rfl ?_; intro w13 ht hs; have hzw13:=ht.size; have PS:=Lh (PS.out.turn (S':=fun b => w3.heap.size < b) ht (fun b hb _ => ⟨hb,by have hb : w3.heap.size < b:=hb; omega⟩)); have JB:=Lh (JB.out.turn ht (by omega)); have JT:=Lh (JT.out.trans (ht.weak fun k _ h => .inr (.inr (by omega)))); have J:=Lh (J.out.own ht (by omega)); have JK:=Lh (show Var w13 w3.heap.size (fnC ⟨y2.1.nm,y2.1.a,y4.1,y6.1,y7.1,true,[],[],Ex.nul⟩ ⟨pv,.slice none 0 0,.slice none 0 0,.slice none 0 0⟩) from hs); have k9:=JK.out.at 9 rfl; clear ht hs; have kb:=JB.out.at 0 rfl)
   | (go_at_call 57; (with_reducible refine (HM9.out _ J.out).mono ?_); rintro e w14 ⟨rfl,hr,ht⟩; have hzw14:=ht.size; have JK:=Lh (JK.out.turn ht (by intro h; rcases h with h | h <;> omega)); have PS:=Lh (PS.out.turn (S':=fun b => w3.heap.size < b) ht (fun b hb _ => ⟨hb,by have hb : w3.heap.size < b:=hb; intro h; rcases h with h | h <;> omega⟩)); have JB:=Lh (JB.out.turn ht (by intro h; rcases h with h | h <;> omega)); have JT:=Lh (JT.out.nw ht); have J:=Lh hr; clear hr ht; have kb:=JB.out.at 0 rfl; dsimp only)
   | (go_at_call 98; (with_reducible refine (HL10.out _ _ _ _ (by omega) J.out JB.out JK.out).mono ?_); rintro e w15 ⟨rv,rfl,hr,hK,hO,ht⟩; have hz15:=ht.size; have PS:=Lh (PS.out.turn (S':=fun b => w3.heap.size < b) ht (fun b hb hlt => ⟨hb,by have hb : w3.heap.size < b:=hb; intro h; rcases h with h | h | h | h <;> omega⟩)); have JB:=Lh (JB.out.turn ht (by intro h; rcases h with h | h | h | h <;> omega)); have JT:=Lh (JT.out.trans (ht.weak fun k _ h => by rcases h with h | h | h | h; exact .inl h; exact .inr (.inl h); exact .inr (.inr (by omega)); exact .inr (.inr (by omega)))); have J:=Lh hr; have JK:=Lh hK; have RL : Hid (ShV w15 (fun b => w3.heap.size < b) rv z10.1.length (nms z10.1)):=Lh (ShV.of_own hO (fun b hb _ _ => by show w3.heap.size < b; omega)); have hrv:=RL.out.one; clear hr ht hK hO; have kb:=JB.out.at 0 rfl; dsimp only)
   | (go_at_call 57; (with_reducible refine (HM11.out _ J.out).mono ?_); rintro e w16 ⟨rfl,hr,ht⟩; have hzw16:=ht.size; have JK:=Lh (JK.out.turn ht (by intro h; rcases h with h | h <;> omega)); have PS:=Lh (PS.out.turn (S':=fun b => w3.heap.size < b) ht (fun b hb _ => ⟨hb,by have hb : w3.heap.size < b:=hb; intro h; rcases h with h | h <;> omega⟩)); have RL:=Lh (RL.out.turn (S':=fun b => w3.heap.size < b) ht (fun b hb _ => ⟨hb,by have hb : w3.heap.size < b:=hb; intro h; rcases h with h | h <;> omega⟩)); have JB:=Lh (JB.out.turn ht (by intro h; rcases h with h | h <;> omega)); have JT:=Lh (JT.out.nw ht); have J:=Lh hr; clear hr ht; have kb:=JB.out.at 0 rfl; dsimp only)
   | (go_at_call 101; (with_reducible refine (HR12.out _ J.out).mono ?_); rintro e w17 ⟨bv,⟨rfl,hr,ht⟩,hx⟩; have hzw17:=ht.size; have JK:=Lh (JK.out.turn ht (by intro h; rcases h with h | h <;> omega)); have PS:=Lh (PS.out.turn (S':=fun b => w3.heap.size < b) ht (fun b hb _ => ⟨hb,by have hb : w3.heap.size < b:=hb; intro h; rcases h with h | h <;> omega⟩)); have RL:=Lh (RL.out.turn (S':=fun b => w3.heap.size < b) ht (fun b hb _ => ⟨hb,by have hb : w3.heap.size < b:=hb; intro h; rcases h with h | h <;> omega⟩)); have JB:=Lh (JB.out.turn ht (by intro h; rcases h with h | h <;> omega)); have JT:=Lh (JT.out.nw ht); have J:=Lh hr; have BD : Hid (ShS w17 (fun b => w3.heap.size < b) bv y12.1):=Lh (hx.weak (fun b hb _ => by show w3.heap.size < b; have hb : _ ≤ b:=hb; omega)); have hbv:=BD.out.one; clear hx; clear hr ht; have kb:=JB.out.at 0 rfl; dsimp only)
   | (refine wpList_st1 rfl _ _ _ rfl (G:=w3.heap.size) (off:=11) rfl (v:=bv) JK.out rfl (by kernel_rfl) (by show 11 < 18; omega) hbv ?_; intro w18 ht hs; have hzw18:=ht.size; have PS:=Lh (PS.out.turn (S':=fun b => w3.heap.size < b) ht (fun b hb _ => ⟨hb,by have hb : w3.heap.size < b:=hb; omega⟩)); have RL:=Lh (RL.out.turn (S':=fun b => w3.heap.size < b) ht (fun b hb _ => ⟨hb,by have hb : w3.heap.size < b:=hb; omega⟩)); have BD:=Lh (BD.out.turn (S':=fun b => w3.heap.size < b) ht (fun b hb _ => ⟨hb,by have hb : w3.heap.size < b:=hb; omega⟩)); have JB:=Lh (JB.out.turn ht (by omega)); have JT:=Lh (JT.out.trans (ht.weak fun k _ h => .inr (.inr (by omega)))); have J:=Lh (J.out.own ht (by omega)); have JK:=Lh (show Var w18 w3.heap.size (fnC ⟨y2.1.nm,y2.1.a,y4.1,y6.1,y7.1,true,z10.1,y12.1,Ex.nul⟩ ⟨pv,rv,bv,.slice none 0 0⟩) from hs); clear ht hs; have kb:=JB.out.at 0 rfl)
   | (go_at_call 57; (with_reducible refine (HM13.out _ J.out).mono ?_); rintro e w19 ⟨rfl,hr,ht⟩; have hzw19:=ht.size; have JK:=Lh (JK.out.turn ht (by intro h; rcases h with h | h <;> omega)); have PS:=Lh (PS.out.turn (S':=fun b => w3.heap.size < b) ht (fun b hb _ => ⟨hb,by have hb : w3.heap.size < b:=hb; intro h; rcases h with h | h <;> omega⟩)); have RL:=Lh (RL.out.turn (S':=fun b => w3.heap.size < b) ht (fun b hb _ => ⟨hb,by have hb : w3.heap.size < b:=hb; intro h; rcases h with h | h <;> omega⟩)); have BD:=Lh (BD.out.turn (S':=fun b => w3.heap.size < b) ht (fun b hb _ => ⟨hb,by have hb : w3.heap.size < b:=hb; intro h; rcases h with h | h <;> omega⟩)); have JB:=Lh (JB.out.turn ht (by intro h; rcases h with h | h <;> omega)); have JT:=Lh (JT.out.nw ht); have J:=Lh hr; clear hr ht; have kb:=JB.out.at 0 rfl; dsimp only)
   | (go_at_call 104; (with_reducible refine (HE14.out _ J.out).mono ?_); rintro e w20 ⟨ev,⟨rfl,hr,ht⟩,hx⟩; have hzw20:=ht.size; have JK:=Lh (JK.out.turn ht (by intro h; rcases h with h | h <;> omega)); have PS:=Lh (PS.out.turn (S':=fun b => w3.heap.size < b) ht (fun b hb _ => ⟨hb,by have hb : w3.heap.size < b:=hb; intro h; rcases h with h | h <;> omega⟩)); have RL:=Lh (RL.out.turn (S':=fun b => w3.heap.size < b) ht (fun b hb _ => ⟨hb,by have hb : w3.heap.size < b:=hb; intro h; rcases h with h | h <;> omega⟩)); have BD:=Lh (BD.out.turn (S':=fun b => w3.heap.size < b) ht (fun b hb _ => ⟨hb,by have hb : w3.heap.size < b:=hb; intro h; rcases h with h | h <;> omega⟩)); have JB:=Lh (JB.out.turn ht (by intro h; rcases h with h | h <;> omega)); have JT:=Lh (JT.out.nw ht); have J:=Lh hr; have RE : Hid (Shx w20 (fun b => w3.heap.size < b) ev y14.1.l):=Lh (hx.weak (fun b hb _ => by show w3.heap.size < b; have hb : _ ≤ b:=hb; omega)); have hev:=RE.out.one; clear hx; clear hr ht; have kb:=JB.out.at 0 rfl; dsimp only)
   | (refine wpList_stV rfl 77 _ _ rfl (G:=w3.heap.size) (off:=12) rfl (us:=exC y14.1 ev) JK.out rfl info_ex (by show 12 + 6 ≤ 18; omega) (exC_one _ hev) ?_; intro w21 ht hs; have hzw21:=ht.size; have PS:=Lh (PS.out.turn (S':=fun b => w3.heap.size < b) ht (fun b hb _ => ⟨hb,by have hb : w3.heap.size < b:=hb; omega⟩)); have RL:=Lh (RL.out.turn (S':=fun b => w3.heap.size < b) ht (fun b hb _ => ⟨hb,by have hb : w3.heap.size < b:=hb; omega⟩)); have BD:=Lh (BD.out.turn (S':=fun b => w3.heap.size < b) ht (fun b hb _ => ⟨hb,by have hb : w3.heap.size < b:=hb; omega⟩)); have RE:=Lh (RE.out.turn (S':=fun b => w3.heap.size < b) ht (fun b hb _ => ⟨hb,by have hb : w3.heap.size < b:=hb; omega⟩)); have JB:=Lh (JB.out.turn ht (by omega)); have JT:=Lh (JT.out.trans (ht.weak fun k _ h => .inr (.inr (by omega)))); have J:=Lh (J.out.own ht (by omega)); have JK:=Lh (show Var w21 w3.heap.size (fnC ⟨y2.1.nm,y2.1.a,y4.1,y6.1,y7.1,true,z10.1,y12.1,y14.1⟩ ⟨pv,rv,bv,ev⟩) from hs); clear ht hs; have kb:=JB.out.at 0 rfl)
   | (go_at_call 57; (with_reducible refine (HM15.out _ J.out).mono ?_); rintro e w22 ⟨rfl,hr,ht⟩; have hzw22:=ht.size; have JK:=Lh (JK.out.turn ht (by intro h; rcases h with h | h <;> omega)); have PS:=Lh (PS.out.turn (S':=fun b => w3.heap.size < b) ht (fun b hb _ => ⟨hb,by have hb : w3.heap.size < b:=hb; intro h; rcases h with h | h <;> omega⟩)); have RL:=Lh (RL.out.turn (S':=fun b => w3.heap.size < b) ht (fun b hb _ => ⟨hb,by have hb : w3.heap.size < b:=hb; intro h; rcases h with h | h <;> omega⟩)); have BD:=Lh (BD.out.turn (S':=fun b => w3.heap.size < b) ht (fun b hb _ => ⟨hb,by have hb : w3.heap.size < b:=hb; intro h; rcases h with h | h <;> omega⟩)); have RE:=Lh (RE.out.turn (S':=fun b => w3.heap.size < b) ht (fun b hb _ => ⟨hb,by have hb : w3.heap.size < b:=hb; intro h; rcases h with h | h <;> omega⟩)); have JB:=Lh (JB.out.turn ht (by intro h; rcases h with h | h <;> omega)); have JT:=Lh (JT.out.nw ht); have J:=Lh hr; clear hr ht; have kb:=JB.out.at 0 rfl; dsimp only)
   | fail)
  have J:=Lh (show Frd C G hl he v w22.drew x15 from J.out.under (below_drew _ _))
  have JB:=Lh (JB.out.under (below_drew _ _))
  have JK:=Lh (JK.out.under (below_drew _ _))
  have JT:=Lh (JT.out.trans (Tn.drew _ _))
  have JP:=Lh (HP.out.nw hgt JT.out)
  have JT:=Lh (JT.out.nwg hGw)
  have hFS : FnS w22.drew (MoX G v) ⟨y2.1.nm,y2.1.a,y4.1,y6.1,y7.1,true,z10.1,y12.1,y14.1⟩ ⟨pv,rv,bv,ev⟩:=by
   have hkx : ∀ b,w3.heap.size < b → b < w22.heap.size → MoX G v b ∧ b < w22.drew.heap.size ∧ w22.drew.heap[b]? = w22.heap[b]?:=fun b hb hlt => ⟨⟨by omega,fun hm => by have:=(HP.out.row_lt hm).2; omega⟩,hlt,rfl⟩
   exact ⟨PS.out.keep hkx,RL.out.keep hkx,BD.out.keep hkx,RE.out.keep hkx⟩
  have HFS:=Lh hFS
  have hone:=hFS.one
  have e7 : v.fn = .slice A7 FL.length c7:=by rw [HVV.out]
  obtain ⟨S,hSd⟩ : ∃ S : World → Prop,S = fun W => W.cell? ⟨G,7,none⟩ = some (.slice A7 FL.length c7) ∧ W.cell? ⟨w.heap.size,0,none⟩ = some (ptrG G) ∧ W.rangeAt w3.heap.size 0 [.string y2.1.nm,.int .i64 y2.1.a,pv,.int .i64 y6.1,.bool y7.1.so,.bool y7.1.lk,.string y7.1.lb,.int .i64 y7.1.fr,.int .i64 y7.1.to,.bool true,rv,bv,.int .i64 y14.1.k,.int .i64 y14.1.a,.int .i64 y14.1.m,.string y14.1.nm,.string y14.1.lb,ev]:=⟨_,rfl⟩
  have hSF : ∀ W,S W → W.cell? ⟨G,7,none⟩ = some (.slice A7 FL.length c7) ∧ W.cell? ⟨w.heap.size,0,none⟩ = some (ptrG G) ∧ W.rangeAt w3.heap.size 0 [.string y2.1.nm,.int .i64 y2.1.a,pv,.int .i64 y6.1,.bool y7.1.so,.bool y7.1.lk,.string y7.1.lb,.int .i64 y7.1.fr,.int .i64 y7.1.to,.bool true,rv,bv,.int .i64 y14.1.k,.int .i64 y14.1.a,.int .i64 y14.1.m,.string y14.1.nm,.string y14.1.lb,ev]:=by rw [hSd]; exact fun W h => h
  have s7 : ∀ sw : SW S,sw.w.cell? ⟨G,7,none⟩ = some (.slice A7 FL.length c7):=fun sw => (hSF _ sw.h).1
  have sb : ∀ sw : SW S,sw.w.cell? ⟨w.heap.size,0,none⟩ = some (ptrG G):=fun sw => (hSF _ sw.h).2.1
  have sK : ∀ W,S W → W.rangeAt w3.heap.size 0 [.string y2.1.nm,.int .i64 y2.1.a,pv,.int .i64 y6.1,.bool y7.1.so,.bool y7.1.lk,.string y7.1.lb,.int .i64 y7.1.fr,.int .i64 y7.1.to,.bool true,rv,bv,.int .i64 y14.1.k,.int .i64 y14.1.a,.int .i64 y14.1.m,.string y14.1.nm,.string y14.1.lb,ev]:=fun W h => (hSF W h).2.2
  have HS : Hid (∀ W y,Frd C G hl he v W y → Var W w.heap.size [ptrG G] → Var W w3.heap.size (fnC ⟨y2.1.nm,y2.1.a,y4.1,y6.1,y7.1,true,z10.1,y12.1,y14.1⟩ ⟨pv,rv,bv,ev⟩) → S W):=Lh fun W y hW h1 h2 => by rw [hSd]; exact ⟨by rw [← e7]; exact hW.c7,h1.at 0 rfl,h2.rg⟩
  have hS0:=HS.out _ _ J.out JB.out JK.out
  have hOF : Own w22.drew (G + 1) 79 18 (.slice A7 FL.length c7) FL.length (fns FL):=by rw [← e7]; exact JP.out.fn
  have HE7:=Lh e7
  clear hSd hSF hFS e7
  try dsimp only [Act.put]
  refine region_start (by kernel_rfl) 13 rfl ?_
  refine wpAny_hold S 12 (by kernel_rfl) ?_
  refine wpM_next 0 6 7 (by kernel_rfl) (fun _ _ d _ _ h => by cases d <;> exact h) hS0 (fun hne => ?_)
  simp only [sD,sE,sF,sG]
  repeat (go_big_quiet_step (fail))
  refine wpQuiet_nil ?_
  refine wpM_take 6 (fuel:=6) (.agg (List.toArray [.string y2.1.nm,.int .i64 y2.1.a,pv,.int .i64 y6.1,.bool y7.1.so,.bool y7.1.lk,.string y7.1.lb,.int .i64 y7.1.fr,.int .i64 y7.1.to,.bool true,rv,bv,.int .i64 y14.1.k,.int .i64 y14.1.a,.int .i64 y14.1.m,.string y14.1.nm,.string y14.1.lb,ev])) (by kernel_rfl) (fun _ _ d _ _ h => by cases d <;> exact h) rfl hS0 (yieldsIf_load_mid rfl 79 (.tmp 3) rfl w3.heap.size 0 rfl [.string y2.1.nm,.int .i64 y2.1.a,pv,.int .i64 y6.1,.bool y7.1.so,.bool y7.1.lk,.string y7.1.lb,.int .i64 y7.1.fr,.int .i64 y7.1.to,.bool true,rv,bv,.int .i64 y14.1.k,.int .i64 y14.1.a,.int .i64 y14.1.m,.string y14.1.nm,.string y14.1.lb,ev] _ sK Tryz.underlying79 rfl info_fn) ?_
  simp only [Act.put,sA,sB,sC]
  refine wpM_one (i:=7) (fuel:=5) (by kernel_rfl) (by omega) rfl (fun KK hKK => ?_)
  refine step_build1 rfl 27 79 (.tmp 63) rfl (fnC ⟨y2.1.nm,y2.1.a,y4.1,y6.1,y7.1,true,z10.1,y12.1,y14.1⟩ ⟨pv,rv,bv,ev⟩) rfl (by simp [fnC]) (by simp [fnC]) Tryz.underlying27 info_fn (by kernel_rfl) ?_
  refine hKK _ _ (HS.out _ _ (J.out.new _) (JB.out.under bAl) (JK.out.under bAl)) ?_
  clear hKK KK
  refine wpM_one (i:=8) (fuel:=4) (by kernel_rfl) (by omega) rfl (fun KK hKK => ?_)
  refine step_push_b rfl (.tmp 62) (.tmp 64) 27 rfl rowFn w22.drew (G + 1) (.slice A7 FL.length c7) FL.length (fns FL) (fnC ⟨y2.1.nm,y2.1.a,y4.1,y6.1,y7.1,true,z10.1,y12.1,y14.1⟩ ⟨pv,rv,bv,ev⟩) rfl hOF rfl rfl rfl hone (by have:=JP.out.lf; omega) (by omega) ?_
  intro v6 wn ho6 hg6 hv6
  have hno : ∀ k,(Value.slice A7 FL.length c7).ownBlock = some k → G < k ∧ k < w.heap.size:=fun k hk => ⟨(hOF.1.lt k hk).1,hlw k hk⟩
  have JP6:=JP.out.push_fn (⟨y2.1.nm,y2.1.a,y4.1,y6.1,y7.1,true,z10.1,y12.1,y14.1⟩,⟨pv,rv,bv,ev⟩) HFS.out ho6 (by rw [HE7.out]; exact hg6) (by rw [HE7.out]; exact hv6)
  have tg:=Tn.of_gb (M:=fun k => (Value.slice A7 FL.length c7).ownBlock = some k) hg6 fun k e _ => e
  have ta:=Tn.alloc (fun k => (Value.slice A7 FL.length c7).ownBlock = some k) w22.drew (.cells (fnC ⟨y2.1.nm,y2.1.a,y4.1,y6.1,y7.1,true,z10.1,y12.1,y14.1⟩ ⟨pv,rv,bv,ev⟩).toArray 79)
  have J6:=J.out.turn (ta.trans tg) (fun k hk e => by have:=hno k e; omega)
  have JB6:=JB.out.turn (ta.trans tg) (fun e => by have:=hno _ e; omega)
  have JK6:=JK.out.turn (ta.trans tg) (fun e => by have:=hno _ e; omega)
  have JT6:=JT.out.trans ((ta.trans tg).weak (M':=FrG C G) fun k _ e => .inr (by have:=hno k e; omega))
  obtain ⟨g6,c6,rfl,hgg,_⟩:=ho6.1.form (Nat.succ_pos _)
  have JP7:=Lh (JP6.turn (Tn.set (M:=fun k => k = G) wn G 7 (.slice (some ⟨g6,0,none⟩) (FL.length + 1) c6) rfl) (fun k h1 _ e => by omega))
  have J7 : Hid (Frd C G hl he { v with fn:=.slice (some ⟨g6,0,none⟩) (FL.length + 1) c6 } (wn.setCell ⟨G,7,none⟩ (.slice (some ⟨g6,0,none⟩) (FL.length + 1) c6)) x15):=Lh ⟨J6.cur.turn (Tn.set (M:=fun k => k = G) wn G 7 _ rfl) (fun k hk e => by omega),J6.v.set 7 _ (by show 7 < 9; omega),hgt⟩
  have JT7:=Lh (JT6.trans (Tn.set wn G 7 (.slice (some ⟨g6,0,none⟩) (FL.length + 1) c6) (.inr (Nat.le_refl G))))
  have tG:=J6.v.there (o:=7) (n:=1) (by show 7 + 1 ≤ 9; omega)
  have hS6:=HS.out _ _ J6 JB6 JK6
  refine hKK _ _ hS6 ?_
  clear hKK KK J6 JP6 JT6 JK6 JB6 ho6 hg6 hv6 tg ta
  simp only [Act.put,sA,sB,sC]
  refine wpM_next 9 3 1 (by kernel_rfl) (fun _ _ d _ _ h => by cases d <;> exact h) hS6 (fun hne => ?_)
  simp only [sD,sE,sF,sG]
  repeat (go_big_quiet_step (fail))
  refine wpQuiet_nil ?_
  refine wpM_late (i:=12) (fuel:=0) (by kernel_rfl) (by omega) rfl (fun KK hKK => ?_)
  refine step_st1 rfl 27 (.tmp 68) (.tmp 65) rfl G 7 rfl (v:=.slice (some ⟨g6,0,none⟩) (FL.length + 1) c6) tG rfl (by kernel_rfl) rfl ?_
  refine hKK _ _ ?_
  clear hKK KK
  refine wpAny_done (by kernel_rfl) ?_ _
  go_wp2_with fail
  refine bodyPost_end (results_none rfl _ _ _) rfl ?_
  exact ⟨_,_,rfl,J7.out,JP7.out,JT7.out⟩
 | false =>
  have hy : y10 = ([],y7.2):=by rw [← hy10,if_neg (by decide)]
  subst hy
  clear hy10
  go_enter Tryz.func64,Tryz.ntmps64
  go_wp2_with (first
   | (go_at_call 57; (with_reducible refine HM1.out.mono ?_); rintro e wa ⟨rfl,hr,ht⟩; have hza:=ht.size; rw [hs0.out] at hza; have JB:=Lh (JB.out.turn ht (by intro h; rcases h with h | h <;> omega)); have JT:=Lh (JT.out.nw ht); have J:=Lh hr; clear hr ht kb; have kb:=JB.out.at 0 rfl; dsimp only)
   | (go_at_call 58; (with_reducible refine (HN2.out _ J.out).mono ?_); rintro e w2 ⟨rfl,hr,ht⟩; have hzw2:=ht.size; have JB:=Lh (JB.out.turn ht (by intro h; rcases h with h | h <;> omega)); have JT:=Lh (JT.out.nw ht); have J:=Lh hr; clear hr ht; have kb:=JB.out.at 0 rfl; dsimp only)
   | (refine wpList_stV rfl 109 _ _ rfl (G:=w2.heap.size) rfl (us:=nmC y2.1) (Var.new w2 (nmC NmT.nul) 109 rfl) rfl info_nm (Nat.le_refl 2) (nmC_one _) ?_; intro w3 ht hs; have hz3:=ht.size; rw [size_al] at hz3; have ta:=Tn.alloc (fun k => k = w2.heap.size) w2 (.cells #[.string ⟨#[]⟩,.int .i64 0] 109); have JB:=Lh (JB.out.turn (ta.trans ht) (by omega)); have JT:=Lh (JT.out.trans ((ta.trans ht).weak fun k _ h => .inr (.inr (by omega)))); have J:=Lh (J.out.own (ta.trans ht) (by omega)); have J3:=Lh (show Var w3 w2.heap.size (nmC y2.1) from hs); clear ht hs ta; have k0:=J3.out.at 0 rfl; have k1:=J3.out.at 1 rfl; have kb:=JB.out.at 0 rfl)
   | (refine wpList_stV rfl 79 _ _ rfl (G:=w3.heap.size) rfl (us:=fnC ⟨y2.1.nm,y2.1.a,[],0,An.nul,false,[],[],Ex.nul⟩ ⟨.slice none 0 0,.slice none 0 0,.slice none 0 0,.slice none 0 0⟩) (Var.new w3 (fnC FnT.nul ⟨.slice none 0 0,.slice none 0 0,.slice none 0 0,.slice none 0 0⟩) 79 rfl) rfl info_fn (Nat.le_refl 18) (fnC_one rfl rfl rfl rfl) ?_; intro w4 ht hs; have hz4:=ht.size; rw [size_al] at hz4; have ta:=Tn.alloc (fun k => k = w3.heap.size) w3 (.cells #[.string ⟨#[]⟩,.int .i64 0,.slice none 0 0,.int .i64 0,.bool false,.bool false,.string ⟨#[]⟩,.int .i64 0,.int .i64 0,.bool false,.slice none 0 0,.slice none 0 0,.int .i64 0,.int .i64 0,.int .i64 0,.string ⟨#[]⟩,.string ⟨#[]⟩,.slice none 0 0] 79); have JB:=Lh (JB.out.turn (ta.trans ht) (by omega)); have JT:=Lh (JT.out.trans ((ta.trans ht).weak fun k _ h => .inr (.inr (by omega)))); have J:=Lh (J.out.own (ta.trans ht) (by omega)); have JK:=Lh (show Var w4 w3.heap.size (fnC ⟨y2.1.nm,y2.1.a,[],0,An.nul,false,[],[],Ex.nul⟩ ⟨.slice none 0 0,.slice none 0 0,.slice none 0 0,.slice none 0 0⟩) from hs); clear ht hs ta k0 k1; have kb:=JB.out.at 0 rfl)
   | (go_at_call 57; (with_reducible refine (HM3.out _ J.out).mono ?_); rintro e w5 ⟨rfl,hr,ht⟩; have hzw5:=ht.size; have JK:=Lh (JK.out.turn ht (by intro h; rcases h with h | h <;> omega)); have JB:=Lh (JB.out.turn ht (by intro h; rcases h with h | h <;> omega)); have JT:=Lh (JT.out.nw ht); have J:=Lh hr; clear hr ht; have kb:=JB.out.at 0 rfl; dsimp only)
   | (go_at_call 98; (with_reducible refine (HL4.out _ _ _ (by omega) J.out JB.out JK.out).mono ?_); rintro e w6 ⟨pv,rfl,hr,hK,hO,ht⟩; have hz6:=ht.size; have JB:=Lh (JB.out.turn ht (by intro h; rcases h with h | h | h | h <;> omega)); have JT:=Lh (JT.out.trans (ht.weak fun k _ h => by rcases h with h | h | h | h; exact .inl h; exact .inr (.inl h); exact .inr (.inr (by omega)); exact .inr (.inr (by omega)))); have J:=Lh hr; have JK:=Lh hK; have PS : Hid (ShV w6 (fun b => w3.heap.size < b) pv y4.1.length (vrs y4.1)):=Lh (ShV.of_own hO (fun b hb _ _ => by show w3.heap.size < b; omega)); have hpv:=PS.out.one; clear hr ht hK hO; have kb:=JB.out.at 0 rfl; dsimp only)
   | (go_at_call 57; (with_reducible refine (HM5.out _ J.out).mono ?_); rintro e w7 ⟨rfl,hr,ht⟩; have hzw7:=ht.size; have JK:=Lh (JK.out.turn ht (by intro h; rcases h with h | h <;> omega)); have PS:=Lh (PS.out.turn (S':=fun b => w3.heap.size < b) ht (fun b hb _ => ⟨hb,by have hb : w3.heap.size < b:=hb; intro h; rcases h with h | h <;> omega⟩)); have JB:=Lh (JB.out.turn ht (by intro h; rcases h with h | h <;> omega)); have JT:=Lh (JT.out.nw ht); have J:=Lh hr; clear hr ht; have kb:=JB.out.at 0 rfl; dsimp only)
   | (go_at_call 94; (with_reducible refine (HT6.out _ J.out).mono ?_); rintro e w8 ⟨rfl,hr,ht⟩; have hzw8:=ht.size; have JK:=Lh (JK.out.turn ht (by intro h; rcases h with h | h <;> omega)); have PS:=Lh (PS.out.turn (S':=fun b => w3.heap.size < b) ht (fun b hb _ => ⟨hb,by have hb : w3.heap.size < b:=hb; intro h; rcases h with h | h <;> omega⟩)); have JB:=Lh (JB.out.turn ht (by intro h; rcases h with h | h <;> omega)); have JT:=Lh (JT.out.nw ht); have J:=Lh hr; clear hr ht; have kb:=JB.out.at 0 rfl; dsimp only)
   | (refine wpList_st1 rfl _ _ _ rfl (G:=w3.heap.size) (off:=3) rfl (v:=.int .i64 y6.1) JK.out rfl (by kernel_rfl) (by show 3 < 18; omega) rfl ?_; intro w9 ht hs; have hzw9:=ht.size; have PS:=Lh (PS.out.turn (S':=fun b => w3.heap.size < b) ht (fun b hb _ => ⟨hb,by have hb : w3.heap.size < b:=hb; omega⟩)); have JB:=Lh (JB.out.turn ht (by omega)); have JT:=Lh (JT.out.trans (ht.weak fun k _ h => .inr (.inr (by omega)))); have J:=Lh (J.out.own ht (by omega)); have JK:=Lh (show Var w9 w3.heap.size (fnC ⟨y2.1.nm,y2.1.a,y4.1,y6.1,An.nul,false,[],[],Ex.nul⟩ ⟨pv,.slice none 0 0,.slice none 0 0,.slice none 0 0⟩) from hs); clear ht hs; have kb:=JB.out.at 0 rfl)
   | (go_at_call 96; (with_reducible refine (HA7.out _ J.out).mono ?_); rintro e w10 ⟨rfl,hr,ht⟩; have hzw10:=ht.size; have JK:=Lh (JK.out.turn ht (by intro h; rcases h with h | h <;> omega)); have PS:=Lh (PS.out.turn (S':=fun b => w3.heap.size < b) ht (fun b hb _ => ⟨hb,by have hb : w3.heap.size < b:=hb; intro h; rcases h with h | h <;> omega⟩)); have JB:=Lh (JB.out.turn ht (by intro h; rcases h with h | h <;> omega)); have JT:=Lh (JT.out.nw ht); have J:=Lh hr; clear hr ht; have kb:=JB.out.at 0 rfl; dsimp only)
   | (refine wpList_stV rfl 36 _ _ rfl (G:=w3.heap.size) (off:=4) rfl (us:=anC y7.1) JK.out rfl info_an (by show 4 + 5 ≤ 18; omega) (anC_one _) ?_; intro w11 ht hs; have hzw11:=ht.size; have PS:=Lh (PS.out.turn (S':=fun b => w3.heap.size < b) ht (fun b hb _ => ⟨hb,by have hb : w3.heap.size < b:=hb; omega⟩)); have JB:=Lh (JB.out.turn ht (by omega)); have JT:=Lh (JT.out.trans (ht.weak fun k _ h => .inr (.inr (by omega)))); have J:=Lh (J.out.own ht (by omega)); have JK:=Lh (show Var w11 w3.heap.size (fnC ⟨y2.1.nm,y2.1.a,y4.1,y6.1,y7.1,false,[],[],Ex.nul⟩ ⟨pv,.slice none 0 0,.slice none 0 0,.slice none 0 0⟩) from hs); clear ht hs; have kb:=JB.out.at 0 rfl)
   | (go_at_call 92; (with_reducible refine (HK8.out _ J.out).mono ?_); rintro e w12 ⟨rfl,hr,ht⟩; have hzw12:=ht.size; have JK:=Lh (JK.out.turn ht (by intro h; rcases h with h | h <;> omega)); have PS:=Lh (PS.out.turn (S':=fun b => w3.heap.size < b) ht (fun b hb _ => ⟨hb,by have hb : w3.heap.size < b:=hb; intro h; rcases h with h | h <;> omega⟩)); have JB:=Lh (JB.out.turn ht (by intro h; rcases h with h | h <;> omega)); have JT:=Lh (JT.out.nw ht); have J:=Lh hr; clear hr ht; have kb:=JB.out.at 0 rfl; dsimp only)
   | (refine wpList_st1 rfl _ _ _ rfl (G:=w3.heap.size) (off:=9) rfl (v:=.bool false) JK.out rfl (by kernel_rfl) (by show 9 < 18; omega) rfl ?_; intro w13 ht hs; have hzw13:=ht.size; have PS:=Lh (PS.out.turn (S':=fun b => w3.heap.size < b) ht (fun b hb _ => ⟨hb,by have hb : w3.heap.size < b:=hb; omega⟩)); have JB:=Lh (JB.out.turn ht (by omega)); have JT:=Lh (JT.out.trans (ht.weak fun k _ h => .inr (.inr (by omega)))); have J:=Lh (J.out.own ht (by omega)); have JK:=Lh (show Var w13 w3.heap.size (fnC ⟨y2.1.nm,y2.1.a,y4.1,y6.1,y7.1,false,[],[],Ex.nul⟩ ⟨pv,.slice none 0 0,.slice none 0 0,.slice none 0 0⟩) from hs); have k9:=JK.out.at 9 rfl; clear ht hs; have kb:=JB.out.at 0 rfl)
   | (go_at_call 57; (with_reducible refine (HM11.out _ J.out).mono ?_); rintro e w16 ⟨rfl,hr,ht⟩; have hzw16:=ht.size; have JK:=Lh (JK.out.turn ht (by intro h; rcases h with h | h <;> omega)); have PS:=Lh (PS.out.turn (S':=fun b => w3.heap.size < b) ht (fun b hb _ => ⟨hb,by have hb : w3.heap.size < b:=hb; intro h; rcases h with h | h <;> omega⟩)); have JB:=Lh (JB.out.turn ht (by intro h; rcases h with h | h <;> omega)); have JT:=Lh (JT.out.nw ht); have J:=Lh hr; clear hr ht; have kb:=JB.out.at 0 rfl; dsimp only)
   | (go_at_call 101; (with_reducible refine (HR12.out _ J.out).mono ?_); rintro e w17 ⟨bv,⟨rfl,hr,ht⟩,hx⟩; have hzw17:=ht.size; have JK:=Lh (JK.out.turn ht (by intro h; rcases h with h | h <;> omega)); have PS:=Lh (PS.out.turn (S':=fun b => w3.heap.size < b) ht (fun b hb _ => ⟨hb,by have hb : w3.heap.size < b:=hb; intro h; rcases h with h | h <;> omega⟩)); have JB:=Lh (JB.out.turn ht (by intro h; rcases h with h | h <;> omega)); have JT:=Lh (JT.out.nw ht); have J:=Lh hr; have BD : Hid (ShS w17 (fun b => w3.heap.size < b) bv y12.1):=Lh (hx.weak (fun b hb _ => by show w3.heap.size < b; have hb : _ ≤ b:=hb; omega)); have hbv:=BD.out.one; clear hx; clear hr ht; have kb:=JB.out.at 0 rfl; dsimp only)
   | (refine wpList_st1 rfl _ _ _ rfl (G:=w3.heap.size) (off:=11) rfl (v:=bv) JK.out rfl (by kernel_rfl) (by show 11 < 18; omega) hbv ?_; intro w18 ht hs; have hzw18:=ht.size; have PS:=Lh (PS.out.turn (S':=fun b => w3.heap.size < b) ht (fun b hb _ => ⟨hb,by have hb : w3.heap.size < b:=hb; omega⟩)); have BD:=Lh (BD.out.turn (S':=fun b => w3.heap.size < b) ht (fun b hb _ => ⟨hb,by have hb : w3.heap.size < b:=hb; omega⟩)); have JB:=Lh (JB.out.turn ht (by omega)); have JT:=Lh (JT.out.trans (ht.weak fun k _ h => .inr (.inr (by omega)))); have J:=Lh (J.out.own ht (by omega)); have JK:=Lh (show Var w18 w3.heap.size (fnC ⟨y2.1.nm,y2.1.a,y4.1,y6.1,y7.1,false,[],y12.1,Ex.nul⟩ ⟨pv,.slice none 0 0,bv,.slice none 0 0⟩) from hs); clear ht hs; have kb:=JB.out.at 0 rfl)
   | (go_at_call 57; (with_reducible refine (HM13.out _ J.out).mono ?_); rintro e w19 ⟨rfl,hr,ht⟩; have hzw19:=ht.size; have JK:=Lh (JK.out.turn ht (by intro h; rcases h with h | h <;> omega)); have PS:=Lh (PS.out.turn (S':=fun b => w3.heap.size < b) ht (fun b hb _ => ⟨hb,by have hb : w3.heap.size < b:=hb; intro h; rcases h with h | h <;> omega⟩)); have BD:=Lh (BD.out.turn (S':=fun b => w3.heap.size < b) ht (fun b hb _ => ⟨hb,by have hb : w3.heap.size < b:=hb; intro h; rcases h with h | h <;> omega⟩)); have JB:=Lh (JB.out.turn ht (by intro h; rcases h with h | h <;> omega)); have JT:=Lh (JT.out.nw ht); have J:=Lh hr; clear hr ht; have kb:=JB.out.at 0 rfl; dsimp only)
   | (go_at_call 104; (with_reducible refine (HE14.out _ J.out).mono ?_); rintro e w20 ⟨ev,⟨rfl,hr,ht⟩,hx⟩; have hzw20:=ht.size; have JK:=Lh (JK.out.turn ht (by intro h; rcases h with h | h <;> omega)); have PS:=Lh (PS.out.turn (S':=fun b => w3.heap.size < b) ht (fun b hb _ => ⟨hb,by have hb : w3.heap.size < b:=hb; intro h; rcases h with h | h <;> omega⟩)); have BD:=Lh (BD.out.turn (S':=fun b => w3.heap.size < b) ht (fun b hb _ => ⟨hb,by have hb : w3.heap.size < b:=hb; intro h; rcases h with h | h <;> omega⟩)); have JB:=Lh (JB.out.turn ht (by intro h; rcases h with h | h <;> omega)); have JT:=Lh (JT.out.nw ht); have J:=Lh hr; have RE : Hid (Shx w20 (fun b => w3.heap.size < b) ev y14.1.l):=Lh (hx.weak (fun b hb _ => by show w3.heap.size < b; have hb : _ ≤ b:=hb; omega)); have hev:=RE.out.one; clear hx; clear hr ht; have kb:=JB.out.at 0 rfl; dsimp only)
   | (refine wpList_stV rfl 77 _ _ rfl (G:=w3.heap.size) (off:=12) rfl (us:=exC y14.1 ev) JK.out rfl info_ex (by show 12 + 6 ≤ 18; omega) (exC_one _ hev) ?_; intro w21 ht hs; have hzw21:=ht.size; have PS:=Lh (PS.out.turn (S':=fun b => w3.heap.size < b) ht (fun b hb _ => ⟨hb,by have hb : w3.heap.size < b:=hb; omega⟩)); have BD:=Lh (BD.out.turn (S':=fun b => w3.heap.size < b) ht (fun b hb _ => ⟨hb,by have hb : w3.heap.size < b:=hb; omega⟩)); have RE:=Lh (RE.out.turn (S':=fun b => w3.heap.size < b) ht (fun b hb _ => ⟨hb,by have hb : w3.heap.size < b:=hb; omega⟩)); have JB:=Lh (JB.out.turn ht (by omega)); have JT:=Lh (JT.out.trans (ht.weak fun k _ h => .inr (.inr (by omega)))); have J:=Lh (J.out.own ht (by omega)); have JK:=Lh (show Var w21 w3.heap.size (fnC ⟨y2.1.nm,y2.1.a,y4.1,y6.1,y7.1,false,[],y12.1,y14.1⟩ ⟨pv,.slice none 0 0,bv,ev⟩) from hs); clear ht hs; have kb:=JB.out.at 0 rfl)
   | (go_at_call 57; (with_reducible refine (HM15.out _ J.out).mono ?_); rintro e w22 ⟨rfl,hr,ht⟩; have hzw22:=ht.size; have JK:=Lh (JK.out.turn ht (by intro h; rcases h with h | h <;> omega)); have PS:=Lh (PS.out.turn (S':=fun b => w3.heap.size < b) ht (fun b hb _ => ⟨hb,by have hb : w3.heap.size < b:=hb; intro h; rcases h with h | h <;> omega⟩)); have BD:=Lh (BD.out.turn (S':=fun b => w3.heap.size < b) ht (fun b hb _ => ⟨hb,by have hb : w3.heap.size < b:=hb; intro h; rcases h with h | h <;> omega⟩)); have RE:=Lh (RE.out.turn (S':=fun b => w3.heap.size < b) ht (fun b hb _ => ⟨hb,by have hb : w3.heap.size < b:=hb; intro h; rcases h with h | h <;> omega⟩)); have JB:=Lh (JB.out.turn ht (by intro h; rcases h with h | h <;> omega)); have JT:=Lh (JT.out.nw ht); have J:=Lh hr; clear hr ht; have kb:=JB.out.at 0 rfl; dsimp only)
   | fail)
  have J:=Lh (show Frd C G hl he v w22.drew x15 from J.out.under (below_drew _ _))
  have JB:=Lh (JB.out.under (below_drew _ _))
  have JK:=Lh (JK.out.under (below_drew _ _))
  have JT:=Lh (JT.out.trans (Tn.drew _ _))
  have JP:=Lh (HP.out.nw hgt JT.out)
  have JT:=Lh (JT.out.nwg hGw)
  have hFS : FnS w22.drew (MoX G v) ⟨y2.1.nm,y2.1.a,y4.1,y6.1,y7.1,false,[],y12.1,y14.1⟩ ⟨pv,.slice none 0 0,bv,ev⟩:=by
   have hkx : ∀ b,w3.heap.size < b → b < w22.heap.size → MoX G v b ∧ b < w22.drew.heap.size ∧ w22.drew.heap[b]? = w22.heap[b]?:=fun b hb hlt => ⟨⟨by omega,fun hm => by have:=(HP.out.row_lt hm).2; omega⟩,hlt,rfl⟩
   exact ⟨PS.out.keep hkx,ShV.nil,BD.out.keep hkx,RE.out.keep hkx⟩
  have HFS:=Lh hFS
  have hone:=hFS.one
  have e7 : v.fn = .slice A7 FL.length c7:=by rw [HVV.out]
  obtain ⟨S,hSd⟩ : ∃ S : World → Prop,S = fun W => W.cell? ⟨G,7,none⟩ = some (.slice A7 FL.length c7) ∧ W.cell? ⟨w.heap.size,0,none⟩ = some (ptrG G) ∧ W.rangeAt w3.heap.size 0 [.string y2.1.nm,.int .i64 y2.1.a,pv,.int .i64 y6.1,.bool y7.1.so,.bool y7.1.lk,.string y7.1.lb,.int .i64 y7.1.fr,.int .i64 y7.1.to,.bool false,.slice none 0 0,bv,.int .i64 y14.1.k,.int .i64 y14.1.a,.int .i64 y14.1.m,.string y14.1.nm,.string y14.1.lb,ev]:=⟨_,rfl⟩
  have hSF : ∀ W,S W → W.cell? ⟨G,7,none⟩ = some (.slice A7 FL.length c7) ∧ W.cell? ⟨w.heap.size,0,none⟩ = some (ptrG G) ∧ W.rangeAt w3.heap.size 0 [.string y2.1.nm,.int .i64 y2.1.a,pv,.int .i64 y6.1,.bool y7.1.so,.bool y7.1.lk,.string y7.1.lb,.int .i64 y7.1.fr,.int .i64 y7.1.to,.bool false,.slice none 0 0,bv,.int .i64 y14.1.k,.int .i64 y14.1.a,.int .i64 y14.1.m,.string y14.1.nm,.string y14.1.lb,ev]:=by rw [hSd]; exact fun W h => h
  have s7 : ∀ sw : SW S,sw.w.cell? ⟨G,7,none⟩ = some (.slice A7 FL.length c7):=fun sw => (hSF _ sw.h).1
  have sb : ∀ sw : SW S,sw.w.cell? ⟨w.heap.size,0,none⟩ = some (ptrG G):=fun sw => (hSF _ sw.h).2.1
  have sK : ∀ W,S W → W.rangeAt w3.heap.size 0 [.string y2.1.nm,.int .i64 y2.1.a,pv,.int .i64 y6.1,.bool y7.1.so,.bool y7.1.lk,.string y7.1.lb,.int .i64 y7.1.fr,.int .i64 y7.1.to,.bool false,.slice none 0 0,bv,.int .i64 y14.1.k,.int .i64 y14.1.a,.int .i64 y14.1.m,.string y14.1.nm,.string y14.1.lb,ev]:=fun W h => (hSF W h).2.2
  have HS : Hid (∀ W y,Frd C G hl he v W y → Var W w.heap.size [ptrG G] → Var W w3.heap.size (fnC ⟨y2.1.nm,y2.1.a,y4.1,y6.1,y7.1,false,[],y12.1,y14.1⟩ ⟨pv,.slice none 0 0,bv,ev⟩) → S W):=Lh fun W y hW h1 h2 => by rw [hSd]; exact ⟨by rw [← e7]; exact hW.c7,h1.at 0 rfl,h2.rg⟩
  have hS0:=HS.out _ _ J.out JB.out JK.out
  have hOF : Own w22.drew (G + 1) 79 18 (.slice A7 FL.length c7) FL.length (fns FL):=by rw [← e7]; exact JP.out.fn
  have HE7:=Lh e7
  clear hSd hSF hFS e7
  try dsimp only [Act.put]
  refine region_start (by kernel_rfl) 13 rfl ?_
  refine wpAny_hold S 12 (by kernel_rfl) ?_
  refine wpM_next 0 6 7 (by kernel_rfl) (fun _ _ d _ _ h => by cases d <;> exact h) hS0 (fun hne => ?_)
  simp only [sD,sE,sF,sG]
  repeat (go_big_quiet_step (fail))
  refine wpQuiet_nil ?_
  refine wpM_take 6 (fuel:=6) (.agg (List.toArray [.string y2.1.nm,.int .i64 y2.1.a,pv,.int .i64 y6.1,.bool y7.1.so,.bool y7.1.lk,.string y7.1.lb,.int .i64 y7.1.fr,.int .i64 y7.1.to,.bool false,.slice none 0 0,bv,.int .i64 y14.1.k,.int .i64 y14.1.a,.int .i64 y14.1.m,.string y14.1.nm,.string y14.1.lb,ev])) (by kernel_rfl) (fun _ _ d _ _ h => by cases d <;> exact h) rfl hS0 (yieldsIf_load_mid rfl 79 (.tmp 3) rfl w3.heap.size 0 rfl [.string y2.1.nm,.int .i64 y2.1.a,pv,.int .i64 y6.1,.bool y7.1.so,.bool y7.1.lk,.string y7.1.lb,.int .i64 y7.1.fr,.int .i64 y7.1.to,.bool false,.slice none 0 0,bv,.int .i64 y14.1.k,.int .i64 y14.1.a,.int .i64 y14.1.m,.string y14.1.nm,.string y14.1.lb,ev] _ sK Tryz.underlying79 rfl info_fn) ?_
  simp only [Act.put,sA,sB,sC]
  refine wpM_one (i:=7) (fuel:=5) (by kernel_rfl) (by omega) rfl (fun KK hKK => ?_)
  refine step_build1 rfl 27 79 (.tmp 63) rfl (fnC ⟨y2.1.nm,y2.1.a,y4.1,y6.1,y7.1,false,[],y12.1,y14.1⟩ ⟨pv,.slice none 0 0,bv,ev⟩) rfl (by simp [fnC]) (by simp [fnC]) Tryz.underlying27 info_fn (by kernel_rfl) ?_
  refine hKK _ _ (HS.out _ _ (J.out.new _) (JB.out.under bAl) (JK.out.under bAl)) ?_
  clear hKK KK
  refine wpM_one (i:=8) (fuel:=4) (by kernel_rfl) (by omega) rfl (fun KK hKK => ?_)
  refine step_push_b rfl (.tmp 62) (.tmp 64) 27 rfl rowFn w22.drew (G + 1) (.slice A7 FL.length c7) FL.length (fns FL) (fnC ⟨y2.1.nm,y2.1.a,y4.1,y6.1,y7.1,false,[],y12.1,y14.1⟩ ⟨pv,.slice none 0 0,bv,ev⟩) rfl hOF rfl rfl rfl hone (by have:=JP.out.lf; omega) (by omega) ?_
  intro v6 wn ho6 hg6 hv6
  have hno : ∀ k,(Value.slice A7 FL.length c7).ownBlock = some k → G < k ∧ k < w.heap.size:=fun k hk => ⟨(hOF.1.lt k hk).1,hlw k hk⟩
  have JP6:=JP.out.push_fn (⟨y2.1.nm,y2.1.a,y4.1,y6.1,y7.1,false,[],y12.1,y14.1⟩,⟨pv,.slice none 0 0,bv,ev⟩) HFS.out ho6 (by rw [HE7.out]; exact hg6) (by rw [HE7.out]; exact hv6)
  have tg:=Tn.of_gb (M:=fun k => (Value.slice A7 FL.length c7).ownBlock = some k) hg6 fun k e _ => e
  have ta:=Tn.alloc (fun k => (Value.slice A7 FL.length c7).ownBlock = some k) w22.drew (.cells (fnC ⟨y2.1.nm,y2.1.a,y4.1,y6.1,y7.1,false,[],y12.1,y14.1⟩ ⟨pv,.slice none 0 0,bv,ev⟩).toArray 79)
  have J6:=J.out.turn (ta.trans tg) (fun k hk e => by have:=hno k e; omega)
  have JB6:=JB.out.turn (ta.trans tg) (fun e => by have:=hno _ e; omega)
  have JK6:=JK.out.turn (ta.trans tg) (fun e => by have:=hno _ e; omega)
  have JT6:=JT.out.trans ((ta.trans tg).weak (M':=FrG C G) fun k _ e => .inr (by have:=hno k e; omega))
  obtain ⟨g6,c6,rfl,hgg,_⟩:=ho6.1.form (Nat.succ_pos _)
  have JP7:=Lh (JP6.turn (Tn.set (M:=fun k => k = G) wn G 7 (.slice (some ⟨g6,0,none⟩) (FL.length + 1) c6) rfl) (fun k h1 _ e => by omega))
  have J7 : Hid (Frd C G hl he { v with fn:=.slice (some ⟨g6,0,none⟩) (FL.length + 1) c6 } (wn.setCell ⟨G,7,none⟩ (.slice (some ⟨g6,0,none⟩) (FL.length + 1) c6)) x15):=Lh ⟨J6.cur.turn (Tn.set (M:=fun k => k = G) wn G 7 _ rfl) (fun k hk e => by omega),J6.v.set 7 _ (by show 7 < 9; omega),hgt⟩
  have JT7:=Lh (JT6.trans (Tn.set wn G 7 (.slice (some ⟨g6,0,none⟩) (FL.length + 1) c6) (.inr (Nat.le_refl G))))
  have tG:=J6.v.there (o:=7) (n:=1) (by show 7 + 1 ≤ 9; omega)
  have hS6:=HS.out _ _ J6 JB6 JK6
  refine hKK _ _ hS6 ?_
  clear hKK KK J6 JP6 JT6 JK6 JB6 ho6 hg6 hv6 tg ta
  simp only [Act.put,sA,sB,sC]
  refine wpM_next 9 3 1 (by kernel_rfl) (fun _ _ d _ _ h => by cases d <;> exact h) hS6 (fun hne => ?_)
  simp only [sD,sE,sF,sG]
  repeat (go_big_quiet_step (fail))
  refine wpQuiet_nil ?_
  refine wpM_late (i:=12) (fuel:=0) (by kernel_rfl) (by omega) rfl (fun KK hKK => ?_)
  refine step_st1 rfl 27 (.tmp 68) (.tmp 65) rfl G 7 rfl (v:=.slice (some ⟨g6,0,none⟩) (FL.length + 1) c6) tG rfl (by kernel_rfl) rfl ?_
  refine hKK _ _ ?_
  clear hKK KK
  refine wpAny_done (by kernel_rfl) ?_ _
  go_wp2_with fail
  refine bodyPost_end (results_none rfl _ _ _) rfl ?_
  exact ⟨_,_,rfl,J7.out,JP7.out,JT7.out⟩
theorem MoS.flag {G : Nat} {w : World} {m m' : MoT} {v : MoV} {FL : List (FnT × FnV)} {k : Nat} (h : MoS G w m v FL k) (h1 : m'.im = m.im) (h2 : m'.la = m.la) (h3 : m'.ef = m.ef) (h4 : m'.va = m.va) (h5 : m'.fn = m.fn) : MoS G w m' v FL k:=by
 obtain ⟨a1,a2,a3,a4,a5,a6,a7,a8,a9,a10,a11,a12,a13⟩:=h
 exact ⟨by rw [h1]; exact a1,by rw [h2]; exact a2,by rw [h3]; exact a3,by rw [h4]; exact a4,a5,by rw [h5]; exact a6,a7,a8,by rw [h1]; exact a9,by rw [h2]; exact a10,by rw [h3]; exact a11,by rw [h4]; exact a12,a13⟩
def DaL (C : Cx) (G : Nat) (hl he : Bool) (m : MoT) (FL : List (FnT × FnV)) (w1 : World) : DaT (List PrT):=fun s k a b u W => a = hl ∧ b = he ∧ MoS G W { m with la:=s } u FL k ∧ Tn (FrG C G) w1 W
def DaE (C : Cx) (G : Nat) (hl he : Bool) (m : MoT) (FL : List (FnT × FnV)) (w1 : World) : DaT (List NmT):=fun s k a b u W => a = hl ∧ b = he ∧ MoS G W { m with ef:=s } u FL k ∧ Tn (FrG C G) w1 W
theorem DaL.keep {C : Cx} {G : Nat} {hl he : Bool} {m : MoT} {FL : List (FnT × FnV)} {w1 : World} (hg : C.g < G) : ∀ s k k' a b u W W',DaL C G hl he m FL w1 s k a b u W → k ≤ k' → Tn (Rdr.M C G) W W' → DaL C G hl he m FL w1 s k' a b u W':=by
 rintro s k k' a b u W W' ⟨h1,h2,h3,h4⟩ hk ht
 exact ⟨h1,h2,(h3.turn ht (fun k h1 _ h => by rcases h with h | h <;> omega)).cap hk,h4.frg ht⟩
theorem DaE.keep {C : Cx} {G : Nat} {hl he : Bool} {m : MoT} {FL : List (FnT × FnV)} {w1 : World} (hg : C.g < G) : ∀ s k k' a b u W W',DaE C G hl he m FL w1 s k a b u W → k ≤ k' → Tn (Rdr.M C G) W W' → DaE C G hl he m FL w1 s k' a b u W':=by
 rintro s k k' a b u W W' ⟨h1,h2,h3,h4⟩ hk ht
 exact ⟨h1,h2,(h3.turn ht (fun k h1 _ h => by rcases h with h | h <;> omega)).cap hk,h4.frg ht⟩
theorem enters_pair : ∀ args w,(callFunc 61 args).run Tryz.prog w = .ok (.enter 61 args) w:=enters_of Tryz.func61 (by kernel_rfl) rfl
theorem enters_effect : ∀ args w,(callFunc 62 args).run Tryz.prog w = .ok (.enter 62 args) w:=enters_of Tryz.func62 (by kernel_rfl) rfl
def LnToP (C : Cx) (G : Nat) (hl he : Bool) (m : MoT) (FL : List (FnT × FnV)) (y : List PrT × (Nat × Int)) (w : World) (e : Ending) (w' : World) : Prop:=
 ∃ v',e = .returned none0 ∧ Frd C G hl he v' w' y.2 ∧ MoS G w' { m with la:=y.1 } v' FL (capX y.2) ∧ Tn (FrG C G) w w'
theorem flinesP (C : Cx) (hC : TokOk C.T C.L) (hR : C.R.Ok) (hn : C.L.length < 1000000) (f : Nat) (hf : C.L.length < f) (G : Nat) (hl he : Bool) (v : MoV) (m : MoT) (FL : List (FnT × FnV)) (x : Nat × Int) (w : World) (h : Frd C G hl he v w x) (hP : MoS G w m v FL (capX x)) :
  CP 60 #[.pointer (some ⟨G,0,none⟩),.func (.func 61) #[.pointer (some ⟨G,0,none⟩)] #[]] w (LnToP C G hl he m FL (lns C.R (onP C.R) f m.la x) w):=by
 refine (flines C hC hR G (DaL C G hl he m FL w) (DaL.keep h.gt) (onP C.R) (fun s x hx => (onP_up hR s hx).weak (Nat.zero_le 1)) 61 #[.pointer (some ⟨G,0,none⟩)] #[] enters_pair
  (fun s a b u W x h0 hW hD => by
   obtain ⟨rfl,rfl,hM,hT⟩:=hD
   have hc:=capX_n (R:=C.R) (x:=x) hW.cur.le
   have hc : capX x ≤ 10000000:=Nat.le_trans hc (by show C.L.length + 1 ≤ 10000000; omega)
   have:=fpair C hC G a b u { m with la:=s } FL (capX x) x W hW hM hc
   rw [show (#[Value.pointer (some ⟨G,0,none⟩)] ++ #[] : Array Value) = #[.pointer (some ⟨G,0,none⟩)] from by simp]
   refine this.mono ?_
   rintro e w' ⟨v',rfl,h1,h2,h3⟩
   exact ⟨a,b,v',rfl,h1,rfl,rfl,h2.cap (capX_lt (onP_up hR s hW.cur.le) h0),hT.trans h3⟩) f hf m.la hl he v x w h ⟨rfl,rfl,hP.flag rfl rfl rfl rfl rfl,Tn.refl _ _⟩).mono ?_
 rintro e w' ⟨a,b,u,rfl,hr,rfl,rfl,h1,h2⟩
 exact ⟨u,rfl,hr,h1,h2⟩
def LnToN (C : Cx) (G : Nat) (hl he : Bool) (m : MoT) (FL : List (FnT × FnV)) (y : List NmT × (Nat × Int)) (w : World) (e : Ending) (w' : World) : Prop:=
 ∃ v',e = .returned none0 ∧ Frd C G hl he v' w' y.2 ∧ MoS G w' { m with ef:=y.1 } v' FL (capX y.2) ∧ Tn (FrG C G) w w'
theorem flinesN (C : Cx) (hC : TokOk C.T C.L) (hR : C.R.Ok) (hn : C.L.length < 1000000) (f : Nat) (hf : C.L.length < f) (G : Nat) (hl he : Bool) (v : MoV) (m : MoT) (FL : List (FnT × FnV)) (x : Nat × Int) (w : World) (h : Frd C G hl he v w x) (hP : MoS G w m v FL (capX x)) :
  CP 60 #[.pointer (some ⟨G,0,none⟩),.func (.func 62) #[.pointer (some ⟨G,0,none⟩)] #[]] w (LnToN C G hl he m FL (lns C.R (onN C.R) f m.ef x) w):=by
 refine (flines C hC hR G (DaE C G hl he m FL w) (DaE.keep h.gt) (onN C.R) (fun s x hx => (onN_up hR s hx).weak (Nat.zero_le 1)) 62 #[.pointer (some ⟨G,0,none⟩)] #[] enters_effect
  (fun s a b u W x h0 hW hD => by
   obtain ⟨rfl,rfl,hM,hT⟩:=hD
   have hc:=capX_n (R:=C.R) (x:=x) hW.cur.le
   have hc : capX x ≤ 10000000:=Nat.le_trans hc (by show C.L.length + 1 ≤ 10000000; omega)
   have:=feffect C hC G a b u { m with ef:=s } FL (capX x) x W hW hM hc
   rw [show (#[Value.pointer (some ⟨G,0,none⟩)] ++ #[] : Array Value) = #[.pointer (some ⟨G,0,none⟩)] from by simp]
   refine this.mono ?_
   rintro e w' ⟨v',rfl,h1,h2,h3⟩
   exact ⟨a,b,v',rfl,h1,rfl,rfl,h2.cap (capX_lt (onN_up hR s hW.cur.le) h0),hT.trans h3⟩) f hf m.ef hl he v x w h ⟨rfl,rfl,hP.flag rfl rfl rfl rfl rfl,Tn.refl _ _⟩).mono ?_
 rintro e w' ⟨a,b,u,rfl,hr,rfl,rfl,h1,h2⟩
 exact ⟨u,rfl,hr,h1,h2⟩
def ItTo (C : Cx) (G : Nat) (y : MoT × (Nat × Int)) (w : World) (e : Ending) (w' : World) : Prop:=
 ∃ v' FL',e = .returned none0 ∧ Frd C G y.1.hl y.1.he v' w' y.2 ∧ MoS G w' y.1 v' FL' (capX y.2) ∧ Tn (FrG C G) w w'
set_option maxRecDepth 100000 in
theorem item_imp (C : Cx) (hC : TokOk C.T C.L) (hDg : DigOk C) (hR : C.R.Ok) (hn : C.L.length < 1000000) (F : Nat) (hF : 16 * C.L.length + 9 ≤ F) (f : Nat) (hf : 3 * C.L.length + 3 ≤ f) (G : Nat) (m : MoT) (v : MoV) (FL : List (FnT × FnV)) (p : Nat) (w : World) (h : Frd C G m.hl m.he v w (p,0)) (hP : MoS G w m v FL (capX (p,0))) (h0 : C.R.is p lImp = true) :
  CP 31 #[.pointer (some ⟨G,0,none⟩)] w (ItTo C G (fit C.R F f m p) w):=by
 have hGw:=h.v.lt
 have hgt:=h.gt
 have hpn:=h.cur.le
 have hcap:=capX_lt (fit_up hR F f m hpn) rfl
 have hc:=capX_n (R:=C.R) (x:=(p,0)) hpn
 have hc : capX (p,0) ≤ 1000001:=Nat.le_trans hc (by show C.L.length + 1 ≤ 1000001; omega)
 obtain ⟨kk,hkk⟩ : ∃ kk,capX (p,0) = kk:=⟨_,rfl⟩
 rw [hkk] at hcap hc hP
 obtain ⟨s,hs⟩ : ∃ s,C.R.wd p = s:=⟨_,rfl⟩
 have g0 : (s.toList == [105,109,112,111,114,116]) = true:=by rw [← hs]; exact h0
 have HPK : Hid (∀ W,Cur C W p → CP 56 #[C.ptr] W fun e w' => e = .returned (.string s) ∧ Below W.heap.size W w'):=Lh fun W hW => by rw [← hs]; exact peek_any C hC p W hW
 obtain ⟨im,la,ef,va,fn⟩:=v
 obtain ⟨A5,c5,e5⟩:=hP.im.form
 dsimp only at e5
 subst e5
 obtain ⟨x1,hx1⟩ : ∃ y,mu C.R (p,0) [wImp] = y:=⟨_,rfl⟩
 obtain ⟨y,hy⟩ : ∃ y,fnm C.R x1 = y:=⟨_,rfl⟩
 obtain ⟨x3,hx3⟩ : ∃ z,mu C.R y.2 [wSem] = z:=⟨_,rfl⟩
 have HX : fit C.R F f m p = ({ m with im:=m.im ++ [y.1] },x3):=by
  unfold fit
  rw [if_pos h0]
  simp only [hx1,hy,hx3]
 rw [HX] at hcap ⊢
 dsimp only at hcap
 have HN : Hid (∀ W,Frd C G m.hl m.he ⟨.slice A5 m.im.length c5,la,ef,va,fn⟩ W x1 → CP 58 #[.pointer (some ⟨G,0,none⟩)] W (FGo C G m.hl m.he ⟨.slice A5 m.im.length c5,la,ef,va,fn⟩ (nmV y.1) y.2 W)):=Lh fun W hW => by
  have:=fname C hC G m.hl m.he _ x1 W hW
  rwa [hy] at this
 have HM1 : Hid (∀ W,Frd C G m.hl m.he ⟨.slice A5 m.im.length c5,la,ef,va,fn⟩ W (p,0) → CP 57 #[.pointer (some ⟨G,0,none⟩),.slice (some ⟨W.heap.size,0,none⟩) 1 1] (W.alloc (.cells #[.string ⟨#[105,109,112,111,114,116]⟩] 9)) (FGo C G m.hl m.he ⟨.slice A5 m.im.length c5,la,ef,va,fn⟩ none0 x1 W)):=Lh fun W hW => by
  have:=fmust1 C hC G m.hl m.he ⟨.slice A5 m.im.length c5,la,ef,va,fn⟩ (p,0) W hW ⟨#[105,109,112,111,114,116]⟩ (by decide)
  rw [hx1] at this
  exact this
 have HM2 : Hid (∀ uu W,Frd C G m.hl m.he uu W y.2 → CP 57 #[.pointer (some ⟨G,0,none⟩),.slice (some ⟨W.heap.size,0,none⟩) 1 1] (W.alloc (.cells #[.string ⟨#[59]⟩] 9)) (FGo C G m.hl m.he uu none0 x3 W)):=Lh fun uu W hW => by
  have:=fmust1 C hC G m.hl m.he uu y.2 W hW ⟨#[59]⟩ (by decide)
  rw [hx3] at this
  exact this
 have J:=Lh h
 have JP:=Lh hP
 have JT : Hid (Tn (FrG C G) w w):=Lh (Tn.refl _ _)
 have k0:=h.c0
 have HCAP:=Lh hcap
 clear h hP hx1 hy hx3 HX hs hcap h0
 go_enter Tryz.func31,Tryz.ntmps31
 go_wp2_with (first
  | (go_at_call 56; (with_reducible refine (HPK.out _ J.out.cur).mono ?_); rintro e w1 ⟨rfl,b1⟩; have JP:=Lh (JP.out.under b1); have JT:=Lh (JT.out.trans (Tn.of_below _ b1)); have J:=Lh (J.out.under b1); clear b1; dsimp only)
  | (go_at_call 57; (with_reducible refine (HM1.out _ J.out).mono ?_); rintro e w2 ⟨rfl,hr,ht⟩; have JP:=Lh (JP.out.turn ht (fun k h1 _ h => by rcases h with h | h <;> omega)); have JT:=Lh (JT.out.frg ht); have J:=Lh hr; clear hr ht; dsimp only)
  | fail)
 have J:=Lh (show Frd C G m.hl m.he ⟨.slice A5 m.im.length c5,la,ef,va,fn⟩ w2.drew x1 from J.out.under (below_drew _ _))
 have JP:=Lh (JP.out.under (below_drew _ _))
 have JT:=Lh (JT.out.trans (Tn.drew _ _))
 obtain ⟨S,hSd⟩ : ∃ S : World → Prop,S = fun W => W.cell? ⟨G,1,none⟩ = some (.slice A5 m.im.length c5):=⟨_,rfl⟩
 have hSF : ∀ W,S W → W.cell? ⟨G,1,none⟩ = some (.slice A5 m.im.length c5):=by rw [hSd]; exact fun W h => h
 have s5 : ∀ sw : SW S,sw.w.cell? ⟨G,1,none⟩ = some (.slice A5 m.im.length c5):=fun sw => hSF _ sw.h
 have HS : Hid (∀ W y,Frd C G m.hl m.he ⟨.slice A5 m.im.length c5,la,ef,va,fn⟩ W y → S W):=Lh fun W y hW => by rw [hSd]; exact hW.c1
 have hS0:=HS.out _ _ J.out
 clear hSd hSF k0
 try dsimp only [Act.put]
 refine region_start (by kernel_rfl) 14 rfl ?_
 refine wpAny_hold S 13 (by kernel_rfl) ?_
 refine wpM_next 0 7 7 (by kernel_rfl) (fun _ _ d _ _ h => by cases d <;> exact h) hS0 (fun hne => ?_)
 simp only [sD,sE,sF,sG]
 repeat (go_big_quiet_step (fail))
 refine wpQuiet_nil ?_
 refine wpM_one (i:=7) (fuel:=6) (by kernel_rfl) (by omega) rfl (fun KK hKK => ?_)
 go_simp
 with_reducible refine (HN.out _ J.out).mono ?_
 rintro e wz ⟨rfl,hr,ht⟩
 have JP:=Lh (JP.out.turn ht (fun k h1 _ h => by rcases h with h | h <;> omega))
 have JT:=Lh (JT.out.frg ht)
 have J:=Lh hr
 clear hr ht
 refine hKK _ _ (HS.out _ _ J.out) ?_
 clear hKK KK
 refine wpM_one (i:=8) (fuel:=5) (by kernel_rfl) (by omega) rfl (fun KK hKK => ?_)
 refine step_build1 rfl 24 109 (.tmp 22) rfl (nmC y.1) rfl (by simp [nmC]) (by simp [nmC]) Tryz.underlying24 info_nm (by kernel_rfl) ?_
 refine hKK _ _ (HS.out _ _ (J.out.new _)) ?_
 clear hKK KK
 refine wpM_one (i:=9) (fuel:=4) (by kernel_rfl) (by omega) rfl (fun KK hKK => ?_)
 refine step_push_b rfl (.tmp 20) (.tmp 23) 24 rfl rowNm wz (G + 1) (.slice A5 m.im.length c5) m.im.length (nms m.im) (nmC y.1) rfl JP.out.im rfl rfl rfl (nmC_one _) (by have:=JP.out.li; omega) (by omega) ?_
 intro v6 w6 ho6 hg6 hv6
 have hno : ∀ k,(Value.slice A5 m.im.length c5).ownBlock = some k → G < k:=fun k hk => (JP.out.im.1.lt k hk).1
 have JP6:=JP.out.push_im y.1 ho6 hg6 hv6
 have J6:=(J.out.new (.cells (nmC y.1).toArray 109)).turn (Tn.of_gb (M:=fun k => (Value.slice A5 m.im.length c5).ownBlock = some k) hg6 fun k e _ => e) (fun k hk e => by have:=hno k e; omega)
 have JT6:=(JT.out.trans (Tn.alloc _ wz (.cells (nmC y.1).toArray 109))).trans (Tn.of_gb hg6 fun k e _ => .inr (by have:=hno k e; omega))
 obtain ⟨g6,c6,rfl,hgg,_⟩:=ho6.1.form (Nat.succ_pos _)
 have JP:=Lh (JP6.turn (Tn.set (M:=fun k => k = G) w6 G 1 (.slice (some ⟨g6,0,none⟩) (m.im.length + 1) c6) rfl) (fun k h1 _ e => by omega))
 have J : Hid (Frd C G m.hl m.he ⟨.slice (some ⟨g6,0,none⟩) (m.im.length + 1) c6,la,ef,va,fn⟩ (w6.setCell ⟨G,1,none⟩ (.slice (some ⟨g6,0,none⟩) (m.im.length + 1) c6)) y.2):=Lh ⟨J6.cur.turn (Tn.set (M:=fun k => k = G) w6 G 1 _ rfl) (fun k hk e => by omega),J6.v.set 1 _ (by show 1 < 9; omega),hgt⟩
 have JT:=Lh (JT6.trans (Tn.set w6 G 1 (.slice (some ⟨g6,0,none⟩) (m.im.length + 1) c6) (.inr (Nat.le_refl G))))
 have tG:=J6.v.there (o:=1) (n:=1) (by show 1 + 1 ≤ 9; omega)
 have hS6:=HS.out _ _ J6
 refine hKK _ _ hS6 ?_
 clear hKK KK J6 JP6 JT6 ho6 hg6 hv6
 simp only [Act.put,sA,sB,sC]
 refine wpM_next 10 3 1 (by kernel_rfl) (fun _ _ d _ _ h => by cases d <;> exact h) hS6 (fun hne => ?_)
 simp only [sD,sE,sF,sG]
 repeat (go_big_quiet_step (fail))
 refine wpQuiet_nil ?_
 refine wpM_late (i:=13) (fuel:=0) (by kernel_rfl) (by omega) rfl (fun KK hKK => ?_)
 refine step_st1 rfl 24 (.tmp 27) (.tmp 24) rfl G 1 rfl (v:=.slice (some ⟨g6,0,none⟩) (m.im.length + 1) c6) tG rfl (by kernel_rfl) rfl ?_
 refine hKK _ _ ?_
 clear hKK KK tG hS6 hS0 HS s5
 obtain ⟨wq,hwq⟩ : ∃ wq,w6.setCell ⟨G,1,none⟩ (.slice (some ⟨g6,0,none⟩) (m.im.length + 1) c6) = wq:=⟨_,rfl⟩
 rw [hwq] at J JP JT ⊢
 clear hwq
 refine wpAny_done (by kernel_rfl) ?_ _
 go_wp2_with (first
  | (go_at_call 57; (with_reducible refine (HM2.out _ _ J.out).mono ?_); rintro e w7 ⟨rfl,hr,ht⟩; have JP:=Lh (JP.out.turn ht (fun k h1 _ h => by rcases h with h | h <;> omega)); have JT:=Lh (JT.out.frg ht); have J:=Lh hr; clear hr ht; dsimp only)
  | fail)
 first
  | refine bodyPost_end (results_none rfl _ _ _) rfl ?_
  | refine bodyPost_ret (results_none rfl _ _ _) rfl ?_
 exact ⟨_,_,rfl,J.out,JP.out.cap HCAP.out,JT.out⟩
set_option maxRecDepth 100000 in
theorem item_var (C : Cx) (hC : TokOk C.T C.L) (hDg : DigOk C) (hR : C.R.Ok) (hn : C.L.length < 1000000) (F : Nat) (hF : 16 * C.L.length + 9 ≤ F) (f : Nat) (hf : 3 * C.L.length + 3 ≤ f) (G : Nat) (m : MoT) (v : MoV) (FL : List (FnT × FnV)) (p : Nat) (w : World) (h : Frd C G m.hl m.he v w (p,0)) (hP : MoS G w m v FL (capX (p,0))) (h0 : C.R.is p lImp = false) (h1 : C.R.is p lLat = false) (h2 : C.R.is p lEff = false) (h3 : C.R.is p lVar = true) :
  CP 31 #[.pointer (some ⟨G,0,none⟩)] w (ItTo C G (fit C.R F f m p) w):=by
 have hGw:=h.v.lt
 have hgt:=h.gt
 have hpn:=h.cur.le
 have hcap:=capX_lt (fit_up hR F f m hpn) rfl
 have hc:=capX_n (R:=C.R) (x:=(p,0)) hpn
 have hc : capX (p,0) ≤ 1000001:=Nat.le_trans hc (by show C.L.length + 1 ≤ 1000001; omega)
 obtain ⟨kk,hkk⟩ : ∃ kk,capX (p,0) = kk:=⟨_,rfl⟩
 rw [hkk] at hcap hc hP
 obtain ⟨s,hs⟩ : ∃ s,C.R.wd p = s:=⟨_,rfl⟩
 have g0 : (s.toList == [105,109,112,111,114,116]) = false:=by rw [← hs]; exact h0
 have g1 : (s.toList == [108,97,116,116,105,99,101]) = false:=by rw [← hs]; exact h1
 have g2 : (s.toList == [101,102,102,101,99,116,115]) = false:=by rw [← hs]; exact h2
 have g3 : (s.toList == [118,97,114]) = true:=by rw [← hs]; exact h3
 have HPK : Hid (∀ W,Cur C W p → CP 56 #[C.ptr] W fun e w' => e = .returned (.string s) ∧ Below W.heap.size W w'):=Lh fun W hW => by rw [← hs]; exact peek_any C hC p W hW
 obtain ⟨im,la,ef,va,fn⟩:=v
 obtain ⟨A5,c5,e5⟩:=hP.va.form
 dsimp only at e5
 subst e5
 obtain ⟨x1,hx1⟩ : ∃ y,mu C.R (p,0) [wVar] = y:=⟨_,rfl⟩
 obtain ⟨y,hy⟩ : ∃ y,fvr C.R x1 = y:=⟨_,rfl⟩
 obtain ⟨x3,hx3⟩ : ∃ z,mu C.R y.2 [wSem] = z:=⟨_,rfl⟩
 have HX : fit C.R F f m p = ({ m with va:=m.va ++ [y.1] },x3):=by
  unfold fit
  rw [if_neg (by rw [h0]; decide),if_neg (by rw [h1]; decide),if_neg (by rw [h2]; decide),if_pos h3]
  simp only [hx1,hy,hx3]
 rw [HX] at hcap ⊢
 dsimp only at hcap
 have HN : Hid (∀ W,Frd C G m.hl m.he ⟨im,la,ef,.slice A5 m.va.length c5,fn⟩ W x1 → CP 63 #[.pointer (some ⟨G,0,none⟩)] W (FGo C G m.hl m.he ⟨im,la,ef,.slice A5 m.va.length c5,fn⟩ (vrV y.1) y.2 W)):=Lh fun W hW => by
  have:=fvariable C hC G m.hl m.he _ x1 W hW
  rwa [hy] at this
 have HM1 : Hid (∀ W,Frd C G m.hl m.he ⟨im,la,ef,.slice A5 m.va.length c5,fn⟩ W (p,0) → CP 57 #[.pointer (some ⟨G,0,none⟩),.slice (some ⟨W.heap.size,0,none⟩) 1 1] (W.alloc (.cells #[.string ⟨#[118,97,114]⟩] 9)) (FGo C G m.hl m.he ⟨im,la,ef,.slice A5 m.va.length c5,fn⟩ none0 x1 W)):=Lh fun W hW => by
  have:=fmust1 C hC G m.hl m.he ⟨im,la,ef,.slice A5 m.va.length c5,fn⟩ (p,0) W hW ⟨#[118,97,114]⟩ (by decide)
  rw [hx1] at this
  exact this
 have HM2 : Hid (∀ uu W,Frd C G m.hl m.he uu W y.2 → CP 57 #[.pointer (some ⟨G,0,none⟩),.slice (some ⟨W.heap.size,0,none⟩) 1 1] (W.alloc (.cells #[.string ⟨#[59]⟩] 9)) (FGo C G m.hl m.he uu none0 x3 W)):=Lh fun uu W hW => by
  have:=fmust1 C hC G m.hl m.he uu y.2 W hW ⟨#[59]⟩ (by decide)
  rw [hx3] at this
  exact this
 have J:=Lh h
 have JP:=Lh hP
 have JT : Hid (Tn (FrG C G) w w):=Lh (Tn.refl _ _)
 have k0:=h.c0
 have HCAP:=Lh hcap
 clear h hP hx1 hy hx3 HX hs hcap h0 h1 h2 h3
 go_enter Tryz.func31,Tryz.ntmps31
 go_wp2_with (first
  | (go_at_call 56; (with_reducible refine (HPK.out _ J.out.cur).mono ?_); rintro e w1 ⟨rfl,b1⟩; have JP:=Lh (JP.out.under b1); have JT:=Lh (JT.out.trans (Tn.of_below _ b1)); have J:=Lh (J.out.under b1); clear b1; dsimp only)
  | (go_at_call 57; (with_reducible refine (HM1.out _ J.out).mono ?_); rintro e w2 ⟨rfl,hr,ht⟩; have JP:=Lh (JP.out.turn ht (fun k h1 _ h => by rcases h with h | h <;> omega)); have JT:=Lh (JT.out.frg ht); have J:=Lh hr; clear hr ht; dsimp only)
  | fail)
 have J:=Lh (show Frd C G m.hl m.he ⟨im,la,ef,.slice A5 m.va.length c5,fn⟩ w2.drew x1 from J.out.under (below_drew _ _))
 have JP:=Lh (JP.out.under (below_drew _ _))
 have JT:=Lh (JT.out.trans (Tn.drew _ _))
 obtain ⟨S,hSd⟩ : ∃ S : World → Prop,S = fun W => W.cell? ⟨G,6,none⟩ = some (.slice A5 m.va.length c5):=⟨_,rfl⟩
 have hSF : ∀ W,S W → W.cell? ⟨G,6,none⟩ = some (.slice A5 m.va.length c5):=by rw [hSd]; exact fun W h => h
 have s5 : ∀ sw : SW S,sw.w.cell? ⟨G,6,none⟩ = some (.slice A5 m.va.length c5):=fun sw => hSF _ sw.h
 have HS : Hid (∀ W y,Frd C G m.hl m.he ⟨im,la,ef,.slice A5 m.va.length c5,fn⟩ W y → S W):=Lh fun W y hW => by rw [hSd]; exact hW.c6
 have hS0:=HS.out _ _ J.out
 clear hSd hSF k0
 try dsimp only [Act.put]
 refine region_start (by kernel_rfl) 14 rfl ?_
 refine wpAny_hold S 13 (by kernel_rfl) ?_
 refine wpM_next 0 7 7 (by kernel_rfl) (fun _ _ d _ _ h => by cases d <;> exact h) hS0 (fun hne => ?_)
 simp only [sD,sE,sF,sG]
 repeat (go_big_quiet_step (fail))
 refine wpQuiet_nil ?_
 refine wpM_one (i:=7) (fuel:=6) (by kernel_rfl) (by omega) rfl (fun KK hKK => ?_)
 go_simp
 with_reducible refine (HN.out _ J.out).mono ?_
 rintro e wz ⟨rfl,hr,ht⟩
 have JP:=Lh (JP.out.turn ht (fun k h1 _ h => by rcases h with h | h <;> omega))
 have JT:=Lh (JT.out.frg ht)
 have J:=Lh hr
 clear hr ht
 refine hKK _ _ (HS.out _ _ J.out) ?_
 clear hKK KK
 refine wpM_one (i:=8) (fuel:=5) (by kernel_rfl) (by omega) rfl (fun KK hKK => ?_)
 refine step_build1 rfl 26 71 (.tmp 73) rfl (vrC y.1) rfl (by simp [vrC]) (by simp [vrC]) Tryz.underlying26 info_vr (by kernel_rfl) ?_
 refine hKK _ _ (HS.out _ _ (J.out.new _)) ?_
 clear hKK KK
 refine wpM_one (i:=9) (fuel:=4) (by kernel_rfl) (by omega) rfl (fun KK hKK => ?_)
 refine step_push_b rfl (.tmp 71) (.tmp 74) 26 rfl rowVr wz (G + 1) (.slice A5 m.va.length c5) m.va.length (vrs m.va) (vrC y.1) rfl JP.out.va rfl rfl rfl (vrC_one _) (by have:=JP.out.lv; omega) (by omega) ?_
 intro v6 w6 ho6 hg6 hv6
 have hno : ∀ k,(Value.slice A5 m.va.length c5).ownBlock = some k → G < k:=fun k hk => (JP.out.va.1.lt k hk).1
 have JP6:=JP.out.push_va y.1 ho6 hg6 hv6
 have J6:=(J.out.new (.cells (vrC y.1).toArray 71)).turn (Tn.of_gb (M:=fun k => (Value.slice A5 m.va.length c5).ownBlock = some k) hg6 fun k e _ => e) (fun k hk e => by have:=hno k e; omega)
 have JT6:=(JT.out.trans (Tn.alloc _ wz (.cells (vrC y.1).toArray 71))).trans (Tn.of_gb hg6 fun k e _ => .inr (by have:=hno k e; omega))
 obtain ⟨g6,c6,rfl,hgg,_⟩:=ho6.1.form (Nat.succ_pos _)
 have JP:=Lh (JP6.turn (Tn.set (M:=fun k => k = G) w6 G 6 (.slice (some ⟨g6,0,none⟩) (m.va.length + 1) c6) rfl) (fun k h1 _ e => by omega))
 have J : Hid (Frd C G m.hl m.he ⟨im,la,ef,.slice (some ⟨g6,0,none⟩) (m.va.length + 1) c6,fn⟩ (w6.setCell ⟨G,6,none⟩ (.slice (some ⟨g6,0,none⟩) (m.va.length + 1) c6)) y.2):=Lh ⟨J6.cur.turn (Tn.set (M:=fun k => k = G) w6 G 6 _ rfl) (fun k hk e => by omega),J6.v.set 6 _ (by show 6 < 9; omega),hgt⟩
 have JT:=Lh (JT6.trans (Tn.set w6 G 6 (.slice (some ⟨g6,0,none⟩) (m.va.length + 1) c6) (.inr (Nat.le_refl G))))
 have tG:=J6.v.there (o:=6) (n:=1) (by show 6 + 1 ≤ 9; omega)
 have hS6:=HS.out _ _ J6
 refine hKK _ _ hS6 ?_
 clear hKK KK J6 JP6 JT6 ho6 hg6 hv6
 simp only [Act.put,sA,sB,sC]
 refine wpM_next 10 3 1 (by kernel_rfl) (fun _ _ d _ _ h => by cases d <;> exact h) hS6 (fun hne => ?_)
 simp only [sD,sE,sF,sG]
 repeat (go_big_quiet_step (fail))
 refine wpQuiet_nil ?_
 refine wpM_late (i:=13) (fuel:=0) (by kernel_rfl) (by omega) rfl (fun KK hKK => ?_)
 refine step_st1 rfl 26 (.tmp 78) (.tmp 75) rfl G 6 rfl (v:=.slice (some ⟨g6,0,none⟩) (m.va.length + 1) c6) tG rfl (by kernel_rfl) rfl ?_
 refine hKK _ _ ?_
 clear hKK KK tG hS6 hS0 HS s5
 obtain ⟨wq,hwq⟩ : ∃ wq,w6.setCell ⟨G,6,none⟩ (.slice (some ⟨g6,0,none⟩) (m.va.length + 1) c6) = wq:=⟨_,rfl⟩
 rw [hwq] at J JP JT ⊢
 clear hwq
 refine wpAny_done (by kernel_rfl) ?_ _
 go_wp2_with (first
  | (go_at_call 57; (with_reducible refine (HM2.out _ _ J.out).mono ?_); rintro e w7 ⟨rfl,hr,ht⟩; have JP:=Lh (JP.out.turn ht (fun k h1 _ h => by rcases h with h | h <;> omega)); have JT:=Lh (JT.out.frg ht); have J:=Lh hr; clear hr ht; dsimp only)
  | fail)
 first
  | refine bodyPost_end (results_none rfl _ _ _) rfl ?_
  | refine bodyPost_ret (results_none rfl _ _ _) rfl ?_
 exact ⟨_,_,rfl,J.out,JP.out.cap HCAP.out,JT.out⟩
set_option maxRecDepth 100000 in
theorem item_lat (C : Cx) (hC : TokOk C.T C.L) (hDg : DigOk C) (hR : C.R.Ok) (hn : C.L.length < 1000000) (F : Nat) (hF : 16 * C.L.length + 9 ≤ F) (f : Nat) (hf : 3 * C.L.length + 3 ≤ f) (G : Nat) (m : MoT) (v : MoV) (FL : List (FnT × FnV)) (p : Nat) (w : World) (h : Frd C G m.hl m.he v w (p,0)) (hP : MoS G w m v FL (capX (p,0))) (h0 : C.R.is p lImp = false) (h1 : C.R.is p lLat = true) :
  CP 31 #[.pointer (some ⟨G,0,none⟩)] w (ItTo C G (fit C.R F f m p) w):=by
 have hGw:=h.v.lt
 have hgt:=h.gt
 have hpn:=h.cur.le
 have hcap:=capX_lt (fit_up hR F f m hpn) rfl
 have hc:=capX_n (R:=C.R) (x:=(p,0)) hpn
 have hc : capX (p,0) ≤ 1000001:=Nat.le_trans hc (by show C.L.length + 1 ≤ 1000001; omega)
 obtain ⟨kk,hkk⟩ : ∃ kk,capX (p,0) = kk:=⟨_,rfl⟩
 rw [hkk] at hcap hc hP
 obtain ⟨s,hs⟩ : ∃ s,C.R.wd p = s:=⟨_,rfl⟩
 have g0 : (s.toList == [105,109,112,111,114,116]) = false:=by rw [← hs]; exact h0
 have g1 : (s.toList == [108,97,116,116,105,99,101]) = true:=by rw [← hs]; exact h1
 have HPK : Hid (∀ W,Cur C W p → CP 56 #[C.ptr] W fun e w' => e = .returned (.string s) ∧ Below W.heap.size W w'):=Lh fun W hW => by rw [← hs]; exact peek_any C hC p W hW
 obtain ⟨x0,hx0⟩ : ∃ y : Nat × Int,(p,if m.hl = true then (11 : Int) else 0) = y:=⟨_,rfl⟩
 obtain ⟨x1,hx1⟩ : ∃ y,mu C.R x0 [wLat] = y:=⟨_,rfl⟩
 obtain ⟨y,hy⟩ : ∃ y,lns C.R (onP C.R) f m.la x1 = y:=⟨_,rfl⟩
 have HX : fit C.R F f m p = ({ m with hl:=true,la:=y.1 },y.2):=by
  unfold fit
  rw [if_neg (by rw [h0]; decide),if_pos h1]
  simp only [hx0,hx1,hy]
 have hcx : kk ≤ capX x1:=by
  rw [← hkk,← hx1,← hx0]
  refine Nat.le_trans ?_ (capX_le (mw hR 108 [97,116,116,105,99,101] (x:=(p,if m.hl = true then 11 else 0)) hpn))
  unfold capX
  rw [if_pos rfl]
  exact Nat.le_add_right _ _
 rw [HX]
 have HFR : Hid (∀ W,Frd C G m.hl m.he v W (p,0) → CP 59 #[.pointer (some ⟨G,0,none⟩),.pointer (some ⟨G,2,none⟩)] W (FGo C G true m.he v none0 x0 W)):=Lh fun W hW => by
  have:=ffirst C G m.hl m.he v (p,0) W hW true
  have e : (if m.hl = true then (p,(11 : Int)) else (p,0)) = x0:=by rw [← hx0]; cases m.hl <;> rfl
  simpa [e] using this
 have HM1 : Hid (∀ W,Frd C G true m.he v W x0 → CP 57 #[.pointer (some ⟨G,0,none⟩),.slice (some ⟨W.heap.size,0,none⟩) 1 1] (W.alloc (.cells #[.string ⟨#[108,97,116,116,105,99,101]⟩] 9)) (FGo C G true m.he v none0 x1 W)):=Lh fun W hW => by
  have:=fmust1 C hC G true m.he v x0 W hW ⟨#[108,97,116,116,105,99,101]⟩ (by decide)
  rw [hx1] at this
  exact this
 have HL : Hid (∀ W,Frd C G true m.he v W x1 → MoS G W m v FL (capX x1) → CP 60 #[.pointer (some ⟨G,0,none⟩),.func (.func 61) #[.pointer (some ⟨G,0,none⟩)] #[]] W (LnToP C G true m.he m FL y W)):=Lh fun W hW hM => by
  have:=flinesP C hC hR hn f (by omega) G true m.he v m FL x1 W hW hM
  rwa [hy] at this
 have J:=Lh h
 have JP:=Lh hP
 have JT : Hid (Tn (FrG C G) w w):=Lh (Tn.refl _ _)
 have k0:=h.c0
 have HCX:=Lh hcx
 clear h hP hx0 hx1 hy HX hs hcap hcx h0 h1
 go_enter Tryz.func31,Tryz.ntmps31
 go_wp2_with (first
  | (go_at_call 56; (with_reducible refine (HPK.out _ J.out.cur).mono ?_); rintro e w1 ⟨rfl,b1⟩; have JP:=Lh (JP.out.under b1); have JT:=Lh (JT.out.trans (Tn.of_below _ b1)); have J:=Lh (J.out.under b1); clear b1; dsimp only)
  | (go_at_call 59; (with_reducible refine (HFR.out _ J.out).mono ?_); rintro e w2 ⟨rfl,hr,ht⟩; have JP:=Lh (JP.out.turn ht (fun k h1 _ h => by rcases h with h | h <;> omega)); have JT:=Lh (JT.out.frg ht); have J:=Lh hr; clear hr ht; dsimp only)
  | (go_at_call 57; (with_reducible refine (HM1.out _ J.out).mono ?_); rintro e w3 ⟨rfl,hr,ht⟩; have JP:=Lh (JP.out.turn ht (fun k h1 _ h => by rcases h with h | h <;> omega)); have JT:=Lh (JT.out.frg ht); have J:=Lh hr; clear hr ht; dsimp only)
  | (go_at_call 60; (with_reducible refine (HL.out _ J.out (JP.out.cap HCX.out)).mono ?_); rintro e w4 ⟨v',rfl,hr,hm,ht⟩; have JP:=Lh hm; have JT:=Lh (JT.out.trans ht); have J:=Lh hr; clear hr hm ht; dsimp only)
  | fail)
 first
  | refine bodyPost_end (results_none rfl _ _ _) rfl ?_
  | refine bodyPost_ret (results_none rfl _ _ _) rfl ?_
 exact ⟨_,_,rfl,J.out,JP.out.flag rfl rfl rfl rfl rfl,JT.out⟩
set_option maxRecDepth 100000 in
theorem item_eff (C : Cx) (hC : TokOk C.T C.L) (hDg : DigOk C) (hR : C.R.Ok) (hn : C.L.length < 1000000) (F : Nat) (hF : 16 * C.L.length + 9 ≤ F) (f : Nat) (hf : 3 * C.L.length + 3 ≤ f) (G : Nat) (m : MoT) (v : MoV) (FL : List (FnT × FnV)) (p : Nat) (w : World) (h : Frd C G m.hl m.he v w (p,0)) (hP : MoS G w m v FL (capX (p,0))) (h0 : C.R.is p lImp = false) (h1 : C.R.is p lLat = false) (h2 : C.R.is p lEff = true) :
  CP 31 #[.pointer (some ⟨G,0,none⟩)] w (ItTo C G (fit C.R F f m p) w):=by
 have hGw:=h.v.lt
 have hgt:=h.gt
 have hpn:=h.cur.le
 have hcap:=capX_lt (fit_up hR F f m hpn) rfl
 have hc:=capX_n (R:=C.R) (x:=(p,0)) hpn
 have hc : capX (p,0) ≤ 1000001:=Nat.le_trans hc (by show C.L.length + 1 ≤ 1000001; omega)
 obtain ⟨kk,hkk⟩ : ∃ kk,capX (p,0) = kk:=⟨_,rfl⟩
 rw [hkk] at hcap hc hP
 obtain ⟨s,hs⟩ : ∃ s,C.R.wd p = s:=⟨_,rfl⟩
 have g0 : (s.toList == [105,109,112,111,114,116]) = false:=by rw [← hs]; exact h0
 have g1 : (s.toList == [108,97,116,116,105,99,101]) = false:=by rw [← hs]; exact h1
 have g2 : (s.toList == [101,102,102,101,99,116,115]) = true:=by rw [← hs]; exact h2
 have HPK : Hid (∀ W,Cur C W p → CP 56 #[C.ptr] W fun e w' => e = .returned (.string s) ∧ Below W.heap.size W w'):=Lh fun W hW => by rw [← hs]; exact peek_any C hC p W hW
 obtain ⟨x0,hx0⟩ : ∃ y : Nat × Int,(p,if m.he = true then (11 : Int) else 0) = y:=⟨_,rfl⟩
 obtain ⟨x1,hx1⟩ : ∃ y,mu C.R x0 [wEff] = y:=⟨_,rfl⟩
 obtain ⟨y,hy⟩ : ∃ y,lns C.R (onN C.R) f m.ef x1 = y:=⟨_,rfl⟩
 have HX : fit C.R F f m p = ({ m with he:=true,ef:=y.1 },y.2):=by
  unfold fit
  rw [if_neg (by rw [h0]; decide),if_neg (by rw [h1]; decide),if_pos h2]
  simp only [hx0,hx1,hy]
 have hcx : kk ≤ capX x1:=by
  rw [← hkk,← hx1,← hx0]
  refine Nat.le_trans ?_ (capX_le (mw hR 101 [102,102,101,99,116,115] (x:=(p,if m.he = true then 11 else 0)) hpn))
  unfold capX
  rw [if_pos rfl]
  exact Nat.le_add_right _ _
 rw [HX]
 have HFR : Hid (∀ W,Frd C G m.hl m.he v W (p,0) → CP 59 #[.pointer (some ⟨G,0,none⟩),.pointer (some ⟨G,4,none⟩)] W (FGo C G m.hl true v none0 x0 W)):=Lh fun W hW => by
  have:=ffirst C G m.hl m.he v (p,0) W hW false
  have e : (if m.he = true then (p,(11 : Int)) else (p,0)) = x0:=by rw [← hx0]; cases m.he <;> rfl
  simpa [e] using this
 have HM1 : Hid (∀ W,Frd C G m.hl true v W x0 → CP 57 #[.pointer (some ⟨G,0,none⟩),.slice (some ⟨W.heap.size,0,none⟩) 1 1] (W.alloc (.cells #[.string ⟨#[101,102,102,101,99,116,115]⟩] 9)) (FGo C G m.hl true v none0 x1 W)):=Lh fun W hW => by
  have:=fmust1 C hC G m.hl true v x0 W hW ⟨#[101,102,102,101,99,116,115]⟩ (by decide)
  rw [hx1] at this
  exact this
 have HL : Hid (∀ W,Frd C G m.hl true v W x1 → MoS G W m v FL (capX x1) → CP 60 #[.pointer (some ⟨G,0,none⟩),.func (.func 62) #[.pointer (some ⟨G,0,none⟩)] #[]] W (LnToN C G m.hl true m FL y W)):=Lh fun W hW hM => by
  have:=flinesN C hC hR hn f (by omega) G m.hl true v m FL x1 W hW hM
  rwa [hy] at this
 have J:=Lh h
 have JP:=Lh hP
 have JT : Hid (Tn (FrG C G) w w):=Lh (Tn.refl _ _)
 have k0:=h.c0
 have HCX:=Lh hcx
 clear h hP hx0 hx1 hy HX hs hcap hcx h0 h1 h2
 go_enter Tryz.func31,Tryz.ntmps31
 go_wp2_with (first
  | (go_at_call 56; (with_reducible refine (HPK.out _ J.out.cur).mono ?_); rintro e w1 ⟨rfl,b1⟩; have JP:=Lh (JP.out.under b1); have JT:=Lh (JT.out.trans (Tn.of_below _ b1)); have J:=Lh (J.out.under b1); clear b1; dsimp only)
  | (go_at_call 59; (with_reducible refine (HFR.out _ J.out).mono ?_); rintro e w2 ⟨rfl,hr,ht⟩; have JP:=Lh (JP.out.turn ht (fun k h1 _ h => by rcases h with h | h <;> omega)); have JT:=Lh (JT.out.frg ht); have J:=Lh hr; clear hr ht; dsimp only)
  | (go_at_call 57; (with_reducible refine (HM1.out _ J.out).mono ?_); rintro e w3 ⟨rfl,hr,ht⟩; have JP:=Lh (JP.out.turn ht (fun k h1 _ h => by rcases h with h | h <;> omega)); have JT:=Lh (JT.out.frg ht); have J:=Lh hr; clear hr ht; dsimp only)
  | (go_at_call 60; (with_reducible refine (HL.out _ J.out (JP.out.cap HCX.out)).mono ?_); rintro e w4 ⟨v',rfl,hr,hm,ht⟩; have JP:=Lh hm; have JT:=Lh (JT.out.trans ht); have J:=Lh hr; clear hr hm ht; dsimp only)
  | fail)
 first
  | refine bodyPost_end (results_none rfl _ _ _) rfl ?_
  | refine bodyPost_ret (results_none rfl _ _ _) rfl ?_
 exact ⟨_,_,rfl,J.out,JP.out.flag rfl rfl rfl rfl rfl,JT.out⟩
set_option maxRecDepth 100000 in
theorem item_fn (C : Cx) (hC : TokOk C.T C.L) (hDg : DigOk C) (hR : C.R.Ok) (hn : C.L.length < 1000000) (F : Nat) (hF : 16 * C.L.length + 9 ≤ F) (f : Nat) (hf : 3 * C.L.length + 3 ≤ f) (G : Nat) (m : MoT) (v : MoV) (FL : List (FnT × FnV)) (p : Nat) (w : World) (h : Frd C G m.hl m.he v w (p,0)) (hP : MoS G w m v FL (capX (p,0))) (h0 : C.R.is p lImp = false) (h1 : C.R.is p lLat = false) (h2 : C.R.is p lEff = false) (h3 : C.R.is p lVar = false) (h4 : C.R.is p lFn = true) :
  CP 31 #[.pointer (some ⟨G,0,none⟩)] w (ItTo C G (fit C.R F f m p) w):=by
 have hGw:=h.v.lt
 have hgt:=h.gt
 have hpn:=h.cur.le
 have hcap:=capX_lt (fit_up hR F f m hpn) rfl
 have hc:=capX_n (R:=C.R) (x:=(p,0)) hpn
 have hc : capX (p,0) ≤ 1000001:=Nat.le_trans hc (by show C.L.length + 1 ≤ 1000001; omega)
 obtain ⟨kk,hkk⟩ : ∃ kk,capX (p,0) = kk:=⟨_,rfl⟩
 rw [hkk] at hcap hc hP
 obtain ⟨s,hs⟩ : ∃ s,C.R.wd p = s:=⟨_,rfl⟩
 have g0 : (s.toList == [105,109,112,111,114,116]) = false:=by rw [← hs]; exact h0
 have g1 : (s.toList == [108,97,116,116,105,99,101]) = false:=by rw [← hs]; exact h1
 have g2 : (s.toList == [101,102,102,101,99,116,115]) = false:=by rw [← hs]; exact h2
 have g3 : (s.toList == [118,97,114]) = false:=by rw [← hs]; exact h3
 have g4 : (s.toList == [102,110]) = true:=by rw [← hs]; exact h4
 have HPK : Hid (∀ W,Cur C W p → CP 56 #[C.ptr] W fun e w' => e = .returned (.string s) ∧ Below W.heap.size W w'):=Lh fun W hW => by rw [← hs]; exact peek_any C hC p W hW
 obtain ⟨y,hy⟩ : ∃ y,ffn C.R F f (p,0) = y:=⟨_,rfl⟩
 have HX : fit C.R F f m p = ({ m with fn:=m.fn ++ [y.1] },y.2):=by
  unfold fit
  rw [if_neg (by rw [h0]; decide),if_neg (by rw [h1]; decide),if_neg (by rw [h2]; decide),if_neg (by rw [h3]; decide),if_pos h4]
  simp only [hy]
 rw [HX] at hcap ⊢
 dsimp only at hcap
 have HF : Hid (∀ W,Frd C G m.hl m.he v W (p,0) → MoS G W m v FL kk → CP 64 #[.pointer (some ⟨G,0,none⟩)] W (FnTo C G m.hl m.he m FL kk y W)):=Lh fun W hW hM => by
  have:=ffunction C hC hDg hR hn F hF f hf G m.hl m.he v m FL kk (p,0) W hW hM (by omega)
  rwa [hy] at this
 have J:=Lh h
 have JP:=Lh hP
 have JT : Hid (Tn (FrG C G) w w):=Lh (Tn.refl _ _)
 have k0:=h.c0
 have HCAP:=Lh hcap
 clear h hP hy HX hs hcap h0 h1 h2 h3 h4
 go_enter Tryz.func31,Tryz.ntmps31
 go_wp2_with (first
  | (go_at_call 56; (with_reducible refine (HPK.out _ J.out.cur).mono ?_); rintro e w1 ⟨rfl,b1⟩; have JP:=Lh (JP.out.under b1); have JT:=Lh (JT.out.trans (Tn.of_below _ b1)); have J:=Lh (J.out.under b1); clear b1; dsimp only)
  | (go_at_call 64; (with_reducible refine (HF.out _ J.out JP.out).mono ?_); rintro e w4 ⟨v',q,rfl,hr,hm,ht⟩; have JP:=Lh hm; have JT:=Lh (JT.out.trans ht); have J:=Lh hr; clear hr hm ht; dsimp only)
  | fail)
 first
  | refine bodyPost_end (results_none rfl _ _ _) rfl ?_
  | refine bodyPost_ret (results_none rfl _ _ _) rfl ?_
 exact ⟨_,_,rfl,J.out,JP.out.cap HCAP.out,JT.out⟩
set_option maxRecDepth 100000 in
theorem item_bad (C : Cx) (hC : TokOk C.T C.L) (hDg : DigOk C) (hR : C.R.Ok) (hn : C.L.length < 1000000) (F : Nat) (hF : 16 * C.L.length + 9 ≤ F) (f : Nat) (hf : 3 * C.L.length + 3 ≤ f) (G : Nat) (m : MoT) (v : MoV) (FL : List (FnT × FnV)) (p : Nat) (w : World) (h : Frd C G m.hl m.he v w (p,0)) (hP : MoS G w m v FL (capX (p,0))) (h0 : C.R.is p lImp = false) (h1 : C.R.is p lLat = false) (h2 : C.R.is p lEff = false) (h3 : C.R.is p lVar = false) (h4 : C.R.is p lFn = false) :
  CP 31 #[.pointer (some ⟨G,0,none⟩)] w (ItTo C G (fit C.R F f m p) w):=by
 have hGw:=h.v.lt
 have hgt:=h.gt
 have hpn:=h.cur.le
 have hcap:=capX_lt (fit_up hR F f m hpn) rfl
 have hc:=capX_n (R:=C.R) (x:=(p,0)) hpn
 have hc : capX (p,0) ≤ 1000001:=Nat.le_trans hc (by show C.L.length + 1 ≤ 1000001; omega)
 obtain ⟨kk,hkk⟩ : ∃ kk,capX (p,0) = kk:=⟨_,rfl⟩
 rw [hkk] at hcap hc hP
 obtain ⟨s,hs⟩ : ∃ s,C.R.wd p = s:=⟨_,rfl⟩
 have g0 : (s.toList == [105,109,112,111,114,116]) = false:=by rw [← hs]; exact h0
 have g1 : (s.toList == [108,97,116,116,105,99,101]) = false:=by rw [← hs]; exact h1
 have g2 : (s.toList == [101,102,102,101,99,116,115]) = false:=by rw [← hs]; exact h2
 have g3 : (s.toList == [118,97,114]) = false:=by rw [← hs]; exact h3
 have g4 : (s.toList == [102,110]) = false:=by rw [← hs]; exact h4
 have HPK : Hid (∀ W,Cur C W p → CP 56 #[C.ptr] W fun e w' => e = .returned (.string s) ∧ Below W.heap.size W w'):=Lh fun W hW => by rw [← hs]; exact peek_any C hC p W hW
 have HX : fit C.R F f m p = (m,(p,11)):=by
  unfold fit
  rw [if_neg (by rw [h0]; decide),if_neg (by rw [h1]; decide),if_neg (by rw [h2]; decide),if_neg (by rw [h3]; decide),if_neg (by rw [h4]; decide)]
 rw [HX] at hcap ⊢
 dsimp only at hcap
 have J:=Lh h
 have JP:=Lh hP
 have JT : Hid (Tn (FrG C G) w w):=Lh (Tn.refl _ _)
 have k0:=h.c0
 have HCAP:=Lh hcap
 clear h hP HX hs hcap h0 h1 h2 h3 h4
 go_enter Tryz.func31,Tryz.ntmps31
 go_wp2_with (first
  | (go_at_call 56; (with_reducible refine (HPK.out _ J.out.cur).mono ?_); rintro e w1 ⟨rfl,b1⟩; have JP:=Lh (JP.out.under b1); have JT:=Lh (JT.out.trans (Tn.of_below _ b1)); have J:=Lh (J.out.under b1); clear b1; have k8:=J.out.c8; have f8:=J.out.fz 8 (by omega); have k0:=J.out.c0; dsimp only)
  | fail)
 first
  | refine bodyPost_end (results_none rfl _ _ _) rfl ?_
  | refine bodyPost_ret (results_none rfl _ _ _) rfl ?_
 exact ⟨_,_,rfl,J.out.err 11,(JP.out.turn (Tn.set (M:=fun k => k = G) _ G 8 (.int .i64 11) rfl) (fun k h1 _ e => by omega)).cap (Nat.le_trans (Nat.le_succ kk) HCAP.out),JT.out.trans (Tn.set _ _ _ _ (.inr (Nat.le_refl G)))⟩
theorem fitem (C : Cx) (hC : TokOk C.T C.L) (hDg : DigOk C) (hR : C.R.Ok) (hn : C.L.length < 1000000) (F : Nat) (hF : 16 * C.L.length + 9 ≤ F) (f : Nat) (hf : 3 * C.L.length + 3 ≤ f) (G : Nat) (m : MoT) (v : MoV) (FL : List (FnT × FnV)) (p : Nat) (w : World) (h : Frd C G m.hl m.he v w (p,0)) (hP : MoS G w m v FL (capX (p,0))) :
  CP 31 #[.pointer (some ⟨G,0,none⟩)] w (ItTo C G (fit C.R F f m p) w):=by
 cases h0 : C.R.is p lImp with
 | true => exact item_imp C hC hDg hR hn F hF f hf G m v FL p w h hP h0
 | false =>
  cases h1 : C.R.is p lLat with
  | true => exact item_lat C hC hDg hR hn F hF f hf G m v FL p w h hP h0 h1
  | false =>
   cases h2 : C.R.is p lEff with
   | true => exact item_eff C hC hDg hR hn F hF f hf G m v FL p w h hP h0 h1 h2
   | false =>
    cases h3 : C.R.is p lVar with
    | true => exact item_var C hC hDg hR hn F hF f hf G m v FL p w h hP h0 h1 h2 h3
    | false =>
     cases h4 : C.R.is p lFn with
     | true => exact item_fn C hC hDg hR hn F hF f hf G m v FL p w h hP h0 h1 h2 h3 h4
     | false => exact item_bad C hC hDg hR hn F hF f hf G m v FL p w h hP h0 h1 h2 h3 h4
end Go.Proofs.YtkjhlgnpohamnaaGreatDoor
