import Derived.Test.YtkjhlgnpohamnaaGreatDoorSq
import Derived.Test.YtkjhlgnpohamnaaGreatDoorStM
import Derived.Deep.RegionHeld3
set_option maxHeartbeats 3200000
namespace Go.Proofs.YtkjhlgnpohamnaaGreatDoor
set_option linter.unusedVariables false
set_option linter.unusedSimpArgs false
open Go.RowKit
theorem Var.gbn {w w' : World} {G g : Nat} {cs : List Value} (h : Var w G cs) (hg : w.grownBy w' (some g)) (hne : G ≠ g) : Var w' G cs:=h.keep (hg.block G h.lt (by intro e; injection e with e; exact hne e)) hg.size
theorem anC_one (x : An) : ∀ u ∈ anC x,u.oneCell' = true:=by
 intro u hu
 simp [anC] at hu
 rcases hu with rfl | rfl | rfl | rfl | rfl <;> rfl
set_option maxRecDepth 10000 in
theorem mark_any (C : Cx) (hC : TokOk C.T C.L) (p : Nat) (w : World) (h : Cur C w p) :
  CP 97 #[C.ptr] w (PartTo C (anV (markS C.R p).1) (markS C.R p).2 w):=by
 have hz:=zeroAn
 have hln:=hC.len
 have hne : w.heap.size ≠ C.g:=by have:=h.lt; omega
 have hlt:=h.lt
 have b1 : Below w.heap.size w (w.alloc (.cells #[.bool false,.bool false,.string ⟨#[]⟩,.int .i64 0,.int .i64 0] 36)):=(Below.refl _ w).alloc nLe _
 have HE : Hid (∀ W,Cur C W p → CP 119 #[C.ptr,.string ⟨#[64,61]⟩] W (TakeTo C p (C.R.is p [64,61]) W)):=Lh fun W hW => takeW C hC p W hW [64,61] (by decide)
 have HA : Hid (∀ W,Cur C W p → CP 119 #[C.ptr,.string ⟨#[64]⟩] W (TakeTo C p (C.R.is p [64]) W)):=Lh fun W hW => takeW C hC p W hW [64] (by decide)
 have HPO : Hid (∀ W,Cur C W (p + 1) → CP 32 #[C.ptr] W fun e w' => e = .returned (.int .i64 (C.R.ps (p + 1))) ∧ Below W.heap.size W w'):=Lh fun W hW => pos_any C hC (p + 1) W hW
 have HEN0 : Hid (∀ W,Cur C W p → CP 120 #[C.ptr] W fun e w' => e = .returned (.int .i64 (C.R.en p)) ∧ Below W.heap.size W w'):=Lh fun W hW => en_any C hC p W hW
 have HEN2 : Hid (∀ W,Cur C W (p + 2) → CP 120 #[C.ptr] W fun e w' => e = .returned (.int .i64 (C.R.en (p + 2))) ∧ Below W.heap.size W w'):=Lh fun W hW => en_any C hC (p + 2) W hW
 have HNM : Hid (∀ W,Cur C W (p + 1) → CP 121 #[C.ptr] W (PartTo C (.string (nmS C.R (p + 1)).1) (nmS C.R (p + 1)).2 W)):=Lh fun W hW => name_any C hC (p + 1) W hW
 have J:=Lh (h.under b1)
 have JG:=Lh (below_fr b1 (some C.g))
 have JV : Hid (Var (w.alloc (.cells #[.bool false,.bool false,.string ⟨#[]⟩,.int .i64 0,.int .i64 0] 36)) w.heap.size (anC An.nul)):=Lh (Var.new w (anC An.nul) 36 rfl)
 unfold markS
 clear h b1
 cases hL : C.R.is p [64,61] with
 | true =>
  rw [hL] at HE
  cases hi : C.R.idn (p + 1) with
  | true =>
   have hid2 : nmS C.R (p + 1) = (C.R.wd (p + 1),(p + 2,0)):=by unfold nmS; rw [if_pos hi]
   rw [hid2] at HNM
   clear hid2
   go_enter Tryz.func97,Tryz.ntmps97
   go_wp2_with (first
    | (go_at_call 119; first
      | ((with_reducible refine (HE.out _ J.out).mono ?_); rintro e w2 ⟨rfl,hc,hg,_⟩; have JG:=Lh (gb_trans JG.out hg); have JV:=Lh (JV.out.gbn hg hne); have J:=Lh (show Cur C w2 (p + 1) from hc); clear hc hg; dsimp only))
    | (go_at_call 32; (with_reducible refine (HPO.out _ J.out).mono ?_); rintro e w2 ⟨rfl,b2⟩; have hg:=below_fr b2 (some C.g); have JG:=Lh (gb_trans JG.out hg); have JV:=Lh (JV.out.gbn hg hne); have J:=Lh (J.out.under b2); clear b2 hg; dsimp only)
    | (go_at_call 121; (with_reducible refine (HNM.out _ J.out).mono ?_); rintro e w2 ⟨rfl,hc,hg⟩; have JG:=Lh (gb_trans JG.out hg); have JV:=Lh (JV.out.gbn hg hne); have J:=Lh (show Cur C w2 (p + 2) from hc); clear hc hg; dsimp only)
    | (go_at_call 120; (with_reducible refine (HEN2.out _ J.out).mono ?_); rintro e w2 ⟨rfl,b2⟩; have hg:=below_fr b2 (some C.g); have JG:=Lh (gb_trans JG.out hg); have JV:=Lh (JV.out.gbn hg hne); have J:=Lh (J.out.under b2); clear b2 hg; dsimp only)
    | (refine wpList_stV rfl 36 (.tmp 2) (.tmp 41) rfl rfl (us:=anC ⟨true,true,C.R.wd (p + 1),C.R.ps (p + 1),C.R.en (p + 2)⟩) JV.out rfl info_an (Nat.le_refl 5) (anC_one _) ?_; intro w3 ht hs; have JG:=Lh (gb_then JG.out (Tn.gb ht) (fun j e => by injection e with e; exact .inl (by omega))); have J:=Lh (J.out.turn ht (fun k hk e => by omega)); have JV:=Lh (show Var w3 w.heap.size (anC ⟨true,true,C.R.wd (p + 1),C.R.ps (p + 1),C.R.en (p + 2)⟩) from hs); clear ht hs)
    | fail)
   exact v_done 36 rfl rfl rfl rfl JV.out Tryz.underlying36 rfl info_an ⟨rfl,J.out,JG.out⟩
  | false =>
   have hid2 : nmS C.R (p + 1) = (⟨#[]⟩,(p + 1,11)):=by unfold nmS; rw [if_neg (by rw [hi]; decide)]
   rw [hid2] at HNM
   clear hid2
   go_enter Tryz.func97,Tryz.ntmps97
   go_wp2_with (first
    | (go_at_call 119; first
      | ((with_reducible refine (HE.out _ J.out).mono ?_); rintro e w2 ⟨rfl,hc,hg,_⟩; have JG:=Lh (gb_trans JG.out hg); have JV:=Lh (JV.out.gbn hg hne); have J:=Lh (show Cur C w2 (p + 1) from hc); clear hc hg; dsimp only))
    | (go_at_call 32; (with_reducible refine (HPO.out _ J.out).mono ?_); rintro e w2 ⟨rfl,b2⟩; have hg:=below_fr b2 (some C.g); have JG:=Lh (gb_trans JG.out hg); have JV:=Lh (JV.out.gbn hg hne); have J:=Lh (J.out.under b2); clear b2 hg; dsimp only)
    | (go_at_call 121; (with_reducible refine (HNM.out _ J.out).mono ?_); rintro e w2 ⟨rfl,hc,hg⟩; have JG:=Lh (gb_trans JG.out hg); have JV:=Lh (JV.out.gbn hg hne); have J:=Lh (show Cur C w2 (p + 1) from hc); clear hc hg; dsimp only)
    | (refine wpList_stV rfl 36 (.tmp 2) (.tmp 34) rfl rfl (us:=anC An.nul) JV.out rfl info_an (Nat.le_refl 5) (anC_one _) ?_; intro w3 ht hs; have JG:=Lh (gb_then JG.out (Tn.gb ht) (fun j e => by injection e with e; exact .inl (by omega))); have J:=Lh (J.out.turn ht (fun k hk e => by omega)); have JV:=Lh (show Var w3 w.heap.size (anC An.nul) from hs); clear ht hs)
    | fail)
   exact v_done 36 rfl rfl rfl rfl JV.out Tryz.underlying36 rfl info_an ⟨rfl,J.out,JG.out⟩
 | false =>
  rw [hL] at HE
  cases hA : C.R.is p [64] with
  | true =>
   rw [hA] at HA
   cases hi : C.R.idn (p + 1) with
   | true =>
    have hid2 : nmS C.R (p + 1) = (C.R.wd (p + 1),(p + 2,0)):=by unfold nmS; rw [if_pos hi]
    rw [hid2] at HNM
    clear hid2
    go_enter Tryz.func97,Tryz.ntmps97
    go_wp2_with (first
     | (go_at_call 119; first
       | ((with_reducible refine (HE.out _ J.out).mono ?_); rintro e w2 ⟨rfl,hc,hg,_⟩; have JG:=Lh (gb_trans JG.out hg); have JV:=Lh (JV.out.gbn hg hne); have J:=Lh (show Cur C w2 (p) from hc); clear hc hg; dsimp only)
       | ((with_reducible refine (HA.out _ J.out).mono ?_); rintro e w2 ⟨rfl,hc,hg,_⟩; have JG:=Lh (gb_trans JG.out hg); have JV:=Lh (JV.out.gbn hg hne); have J:=Lh (show Cur C w2 (p + 1) from hc); clear hc hg; dsimp only))
     | (go_at_call 32; (with_reducible refine (HPO.out _ J.out).mono ?_); rintro e w2 ⟨rfl,b2⟩; have hg:=below_fr b2 (some C.g); have JG:=Lh (gb_trans JG.out hg); have JV:=Lh (JV.out.gbn hg hne); have J:=Lh (J.out.under b2); clear b2 hg; dsimp only)
     | (go_at_call 121; (with_reducible refine (HNM.out _ J.out).mono ?_); rintro e w2 ⟨rfl,hc,hg⟩; have JG:=Lh (gb_trans JG.out hg); have JV:=Lh (JV.out.gbn hg hne); have J:=Lh (show Cur C w2 (p + 2) from hc); clear hc hg; dsimp only)
     | (go_at_call 120; (with_reducible refine (HEN2.out _ J.out).mono ?_); rintro e w2 ⟨rfl,b2⟩; have hg:=below_fr b2 (some C.g); have JG:=Lh (gb_trans JG.out hg); have JV:=Lh (JV.out.gbn hg hne); have J:=Lh (J.out.under b2); clear b2 hg; dsimp only)
     | (refine wpList_stV rfl 36 (.tmp 2) (.tmp 41) rfl rfl (us:=anC ⟨true,false,C.R.wd (p + 1),C.R.ps (p + 1),C.R.en (p + 2)⟩) JV.out rfl info_an (Nat.le_refl 5) (anC_one _) ?_; intro w3 ht hs; have JG:=Lh (gb_then JG.out (Tn.gb ht) (fun j e => by injection e with e; exact .inl (by omega))); have J:=Lh (J.out.turn ht (fun k hk e => by omega)); have JV:=Lh (show Var w3 w.heap.size (anC ⟨true,false,C.R.wd (p + 1),C.R.ps (p + 1),C.R.en (p + 2)⟩) from hs); clear ht hs)
     | fail)
    exact v_done 36 rfl rfl rfl rfl JV.out Tryz.underlying36 rfl info_an ⟨rfl,J.out,JG.out⟩
   | false =>
    have hid2 : nmS C.R (p + 1) = (⟨#[]⟩,(p + 1,11)):=by unfold nmS; rw [if_neg (by rw [hi]; decide)]
    rw [hid2] at HNM
    clear hid2
    go_enter Tryz.func97,Tryz.ntmps97
    go_wp2_with (first
     | (go_at_call 119; first
       | ((with_reducible refine (HE.out _ J.out).mono ?_); rintro e w2 ⟨rfl,hc,hg,_⟩; have JG:=Lh (gb_trans JG.out hg); have JV:=Lh (JV.out.gbn hg hne); have J:=Lh (show Cur C w2 (p) from hc); clear hc hg; dsimp only)
       | ((with_reducible refine (HA.out _ J.out).mono ?_); rintro e w2 ⟨rfl,hc,hg,_⟩; have JG:=Lh (gb_trans JG.out hg); have JV:=Lh (JV.out.gbn hg hne); have J:=Lh (show Cur C w2 (p + 1) from hc); clear hc hg; dsimp only))
     | (go_at_call 32; (with_reducible refine (HPO.out _ J.out).mono ?_); rintro e w2 ⟨rfl,b2⟩; have hg:=below_fr b2 (some C.g); have JG:=Lh (gb_trans JG.out hg); have JV:=Lh (JV.out.gbn hg hne); have J:=Lh (J.out.under b2); clear b2 hg; dsimp only)
     | (go_at_call 121; (with_reducible refine (HNM.out _ J.out).mono ?_); rintro e w2 ⟨rfl,hc,hg⟩; have JG:=Lh (gb_trans JG.out hg); have JV:=Lh (JV.out.gbn hg hne); have J:=Lh (show Cur C w2 (p + 1) from hc); clear hc hg; dsimp only)
     | (refine wpList_stV rfl 36 (.tmp 2) (.tmp 34) rfl rfl (us:=anC An.nul) JV.out rfl info_an (Nat.le_refl 5) (anC_one _) ?_; intro w3 ht hs; have JG:=Lh (gb_then JG.out (Tn.gb ht) (fun j e => by injection e with e; exact .inl (by omega))); have J:=Lh (J.out.turn ht (fun k hk e => by omega)); have JV:=Lh (show Var w3 w.heap.size (anC An.nul) from hs); clear ht hs)
     | fail)
    exact v_done 36 rfl rfl rfl rfl JV.out Tryz.underlying36 rfl info_an ⟨rfl,J.out,JG.out⟩
  | false =>
   rw [hA] at HA
   go_enter Tryz.func97,Tryz.ntmps97
   go_wp2_with (first
    | (go_at_call 119; first
      | ((with_reducible refine (HE.out _ J.out).mono ?_); rintro e w2 ⟨rfl,hc,hg,_⟩; have JG:=Lh (gb_trans JG.out hg); have JV:=Lh (JV.out.gbn hg hne); have J:=Lh (show Cur C w2 (p) from hc); clear hc hg; dsimp only)
      | ((with_reducible refine (HA.out _ J.out).mono ?_); rintro e w2 ⟨rfl,hc,hg,_⟩; have JG:=Lh (gb_trans JG.out hg); have JV:=Lh (JV.out.gbn hg hne); have J:=Lh (show Cur C w2 (p) from hc); clear hc hg; dsimp only))
    | (go_at_call 120; (with_reducible refine (HEN0.out _ J.out).mono ?_); rintro e w2 ⟨rfl,b2⟩; have hg:=below_fr b2 (some C.g); have JG:=Lh (gb_trans JG.out hg); have JV:=Lh (JV.out.gbn hg hne); have J:=Lh (J.out.under b2); clear b2 hg; dsimp only)
    | (refine wpList_stV rfl 36 (.tmp 2) (.tmp 24) rfl rfl (us:=anC ⟨false,false,⟨#[]⟩,C.R.en p,C.R.en p⟩) JV.out rfl info_an (Nat.le_refl 5) (anC_one _) ?_; intro w3 ht hs; have JG:=Lh (gb_then JG.out (Tn.gb ht) (fun j e => by injection e with e; exact .inl (by omega))); have J:=Lh (J.out.turn ht (fun k hk e => by omega)); have JV:=Lh (show Var w3 w.heap.size (anC ⟨false,false,⟨#[]⟩,C.R.en p,C.R.en p⟩) from hs); clear ht hs)
    | fail)
   exact v_done 36 rfl rfl rfl rfl JV.out Tryz.underlying36 rfl info_an ⟨rfl,J.out,JG.out⟩
def rdC (C : Cx) (D : Int) (rv ov : Value) (r : Int) : List Value:=[C.ptr,.int .i64 D,rv,ov,.int .i64 r]
structure Rdr (C : Cx) (G : Nat) (D : Int) (rv ov : Value) (w : World) (x : Nat × Int) : Prop where
 cur : Cur C w x.1
 v : Var w G (rdC C D rv ov x.2)
 gt : C.g < G
abbrev Rdr.M (C : Cx) (G : Nat) : Nat → Prop:=fun k => k = C.g ∨ k = G
section
variable {C : Cx} {G : Nat} {D : Int} {rv ov : Value} {w w' : World} {x : Nat × Int}
theorem Rdr.turn {M : Nat → Prop} (h : Rdr C G D rv ov w x) (ht : Tn M w w') (hM : ∀ k,k ≤ G → ¬ M k) : Rdr C G D rv ov w' x:=
 ⟨h.cur.turn ht (fun k hk => hM k (by have:=h.gt; omega)),h.v.turn ht (hM G nLe),h.gt⟩
theorem Rdr.under (h : Rdr C G D rv ov w x) (hb : Below w.heap.size w w') : Rdr C G D rv ov w' x:=⟨h.cur.under hb,h.v.under hb,h.gt⟩
theorem Rdr.c0 (h : Rdr C G D rv ov w x) : w.cell? ⟨G,0,none⟩ = some C.ptr:=h.v.at 0 rfl
theorem Rdr.c1 (h : Rdr C G D rv ov w x) : w.cell? ⟨G,1,none⟩ = some (.int .i64 D):=h.v.at 1 rfl
theorem Rdr.c2 (h : Rdr C G D rv ov w x) : w.cell? ⟨G,2,none⟩ = some rv:=h.v.at 2 rfl
theorem Rdr.c3 (h : Rdr C G D rv ov w x) : w.cell? ⟨G,3,none⟩ = some ov:=h.v.at 3 rfl
theorem Rdr.c4 (h : Rdr C G D rv ov w x) : w.cell? ⟨G,4,none⟩ = some (.int .i64 x.2):=h.v.at 4 rfl
theorem Rdr.f4 (h : Rdr C G D rv ov w x) : w.frozen? ⟨G,4,none⟩ = false:=h.v.fz 4 (by show 4 < 5; omega)
theorem Rdr.f3 (h : Rdr C G D rv ov w x) : w.frozen? ⟨G,3,none⟩ = false:=h.v.fz 3 (by show 3 < 5; omega)
theorem Rdr.f2 (h : Rdr C G D rv ov w x) : w.frozen? ⟨G,2,none⟩ = false:=h.v.fz 2 (by show 2 < 5; omega)
theorem Rdr.gone {p : Nat} (h : Rdr C G D rv ov w x) (hc : Cur C w' p) (hg : w.grownBy w' (some C.g)) : Rdr C G D rv ov w' (p,x.2):=⟨hc,h.v.gbn hg (by have:=h.gt; omega),h.gt⟩
theorem Tn.cur (hg : w.grownBy w' (some C.g)) : Tn (Rdr.M C G) w w':=Tn.of_gb hg fun k e _ => by injection e with e; exact .inl e.symm
theorem Rdr.err (h : Rdr C G D rv ov w x) (r : Int) : Rdr C G D rv ov (w.setCell ⟨G,4,none⟩ (.int .i64 r)) (x.1,r):=
 ⟨h.cur.turn (Tn.set (M:=fun k => k = G) w G 4 _ rfl) (fun k hk e => by have:=h.gt; omega),h.v.set 4 (.int .i64 r) (by show 4 < 5; omega),h.gt⟩
end
def GoTo (C : Cx) (G : Nat) (D : Int) (rv ov : Value) (v : Value) (x : Nat × Int) (w : World) (e : Ending) (w' : World) : Prop:=e = .returned v ∧ Rdr C G D rv ov w' x ∧ Tn (Rdr.M C G) w w'
abbrev none0 : Value:=.tuple #[]
theorem mu_nil (R : Rw) (x : Nat × Int) : mu R x [] = x:=by
 unfold mu mustP
 split
 ·rename_i h; exact Prod.ext rfl h.symm
 ·rfl
theorem mu_bad (R : Rw) (x : Nat × Int) (s : ByteArray) (l : List ByteArray) (h : ¬ x.2 = 0) : mu R x (s :: l) = mu R x l:=by
 unfold mu
 rw [if_neg h,if_neg h]
theorem mu_yes (R : Rw) (p : Nat) (s : ByteArray) (l : List ByteArray) (h : R.is p s.toList = true) : mu R (p,0) (s :: l) = mu R (p + 1,0) l:=by
 unfold mu
 rw [if_pos rfl,if_pos rfl]
 show (if R.is p s.toList = true then _ else _) = _
 rw [if_pos h]
theorem mu_no (R : Rw) (p : Nat) (s : ByteArray) (l : List ByteArray) (h : R.is p s.toList = false) : mu R (p,0) (s :: l) = mu R (p,11) l:=by
 unfold mu
 rw [if_pos rfl,if_neg (show ¬ (11 : Int) = 0 by decide)]
 show (if R.is p s.toList = true then _ else _) = _
 rw [if_neg (by rw [h]; decide)]
set_option maxRecDepth 10000 in
theorem mustS_any (C : Cx) (hC : TokOk C.T C.L) (G : Nat) (D : Int) (rv ov : Value) (x : Nat × Int) (w : World) (h : Rdr C G D rv ov w x) (ss : List ByteArray) (hss : ∀ s ∈ ss,s.size ≠ 0) (A : Option Addr) (n c : Nat) (hsh : Sh w w.heap.size A n (ss.map Value.string)) (hn : n ≤ 1000) (hA : ∀ b off,A = some ⟨b,off,none⟩ → b ≠ C.g ∧ b ≠ G) :
  CP 147 #[.pointer (some ⟨G,0,none⟩),.slice A n c] w (GoTo C G D rv ov none0 (mu C.R x ss) w):=by
 have hl : ss.length = n:=by have:=hsh.len; simpa using this
 have HL:=Lh hl
 have HSS:=Lh hss
 have HSH:=Lh hsh
 have H:=Lh h
 have HA:=Lh hA
 obtain ⟨X,hX⟩ : ∃ X,mu C.R x ss = X:=⟨_,rfl⟩
 rw [hX]
 have HX:=Lh hX
 clear hl hss hsh h hA hX
 go_enter Tryz.func147,Tryz.ntmps147
 go_wp2
 go_loopw [8] (fun iv wr => ∃ (k : Nat) (y : Nat × Int),iv = .int .i64 (k : Int) ∧ k ≤ n ∧ Rdr C G D rv ov wr y ∧ Tn (Rdr.M C G) w wr ∧ mu C.R y (ss.drop k) = X) (fun iv _ => n - (intOf iv).toNat)
 case atStart => exact ⟨0,x,rfl,Nat.zero_le _,H.out,Tn.refl _ _,HX.out⟩
 case round =>
  obtain ⟨k,y,rfl,hk,hcur,hg,hm⟩:=hrel
  obtain ⟨q,r⟩:=y
  have HC:=Lh hcur
  have HG:=Lh hg
  have HM:=Lh hm
  clear hcur hg hm
  by_cases hkn : k < n
  ·have hs1 : Sh wr w.heap.size A n (ss.map Value.string):=by
    refine ⟨HSH.out.1,fun hn => ?_⟩
    obtain ⟨b,off,e,hb,hc⟩:=HSH.out.2 hn
    exact ⟨b,off,e,hb,fun k u hu => (HG.out.cell hb (fun hm => by have:=HA.out b off e; rcases hm with h | h <;> simp_all)).trans (hc k u hu)⟩
   obtain ⟨b,off,u,hAe,hb,hu,hcell⟩:=hs1.at hkn
   rw [List.getElem?_map] at hu
   obtain ⟨s,hs,rfl⟩:=Option.map_eq_some_iff.1 hu
   have hsz:=HSS.out s (List.mem_of_getElem? hs)
   have hd : ss.drop k = s :: ss.drop (k + 1):=by
    have hlt : k < ss.length:=(List.getElem?_eq_some_iff.1 hs).1
    rw [List.drop_eq_getElem_cons hlt]
    congr 1
    exact (List.getElem?_eq_some_iff.1 hs).2
   have HM2:=Lh (by have:=HM.out; rwa [hd] at this : mu C.R (q,r) (s :: ss.drop (k + 1)) = X)
   have c0:=HC.out.c0
   have c4:=HC.out.c4
   dsimp only at c4
   clear hs1 hu hs hd
   subst hAe
   by_cases hr : r = 0
   ·subst hr
    have HT:=Lh (takeL C hC q wr HC.out.cur s hsz)
    cases hq : C.R.is q s.toList with
    | true =>
     rw [hq] at HT
     have HM3 : Hid (mu C.R (q + 1,0) (ss.drop (k + 1)) = X):=Lh (by rw [← mu_yes _ _ _ _ hq]; exact HM2.out)
     go_wp2_with (first
      | (go_at_call 119; refine HT.out.mono ?_; rintro e w2 ⟨rfl,hc2,hg2,_⟩; have HR2:=Lh (HC.out.gone hc2 hg2); have HG2:=Lh (HG.out.trans (Tn.cur hg2)); clear hc2 hg2; dsimp only)
      | fail)
     go_roundw
     case rel => exact ⟨k + 1,(q + 1,0),by go_num,hkn,HR2.out,HG2.out,HM3.out⟩
     case measure => simp [intOf]; omega
    | false =>
     rw [hq] at HT
     have HM3 : Hid (mu C.R (q,11) (ss.drop (k + 1)) = X):=Lh (by rw [← mu_no _ _ _ _ hq]; exact HM2.out)
     go_wp2_with (first
      | (go_at_call 119; refine HT.out.mono ?_; rintro e w2 ⟨rfl,hc2,hg2,_⟩; have HR2:=Lh (HC.out.gone hc2 hg2); have HG2:=Lh (HG.out.trans (Tn.cur hg2)); clear hc2 hg2; have k4:=HR2.out.c4; have f4:=HR2.out.f4; dsimp only)
      | fail)
     go_roundw
     case rel => exact ⟨k + 1,(q,11),by go_num,hkn,HR2.out.err 11,HG2.out.trans (Tn.set _ _ _ _ (.inr rfl)),HM3.out⟩
     case measure => simp [intOf]; omega
   ·have hr1 : (r == 0) = false:=by simp [hr]
    have hr2 : decide (r = 0) = false:=by simp [hr]
    have HM3 : Hid (mu C.R (q,r) (ss.drop (k + 1)) = X):=Lh (by rw [← mu_bad _ _ s _ hr]; exact HM2.out)
    go_wp2_with fail
    go_roundw
    case rel => exact ⟨k + 1,(q,r),by go_num,hkn,HC.out,HG.out,HM3.out⟩
    case measure => simp [intOf]; omega
  ·obtain rfl : k = n:=by omega
   have HM3 : Hid ((q,r) = X):=Lh (by
    have:=HM.out
    rwa [List.drop_of_length_le (by rw [HL.out]; exact Nat.le_refl _),mu_nil] at this)
   go_wp2
   refine bodyPost_ret (results_none rfl _ _ _) rfl ?_
   rw [← HM3.out]
   exact ⟨rfl,HC.out,HG.out⟩
theorem must1_any (C : Cx) (hC : TokOk C.T C.L) (G : Nat) (D : Int) (rv ov : Value) (x : Nat × Int) (w : World) (h : Rdr C G D rv ov w x) (s : ByteArray) (hs : s.size ≠ 0) :
  CP 147 #[.pointer (some ⟨G,0,none⟩),.slice (some ⟨w.heap.size,0,none⟩) 1 1] (w.alloc (.cells #[.string s] 9)) (GoTo C G D rv ov none0 (mu C.R x [s]) w):=by
 have hb : Below w.heap.size w (w.alloc (.cells #[.string s] 9)):=bAl
 have hl:=h.v.lt
 have hg:=h.gt
 refine (mustS_any C hC G D rv ov x _ (h.under hb) [s] (fun t ht => by obtain rfl : t = s:=(by simpa using ht); exact hs) _ 1 1 ?_ (by omega) (fun b off e => by cases e; omega)).mono fun e w' hh => ⟨hh.1,hh.2.1,(Tn.of_below _ hb).trans hh.2.2⟩
 have:=Sh.lit w [.string s] 9
 simpa using this
theorem must2_any (C : Cx) (hC : TokOk C.T C.L) (G : Nat) (D : Int) (rv ov : Value) (x : Nat × Int) (w : World) (h : Rdr C G D rv ov w x) (s t : ByteArray) (hs : s.size ≠ 0) (ht : t.size ≠ 0) :
  CP 147 #[.pointer (some ⟨G,0,none⟩),.slice (some ⟨w.heap.size,0,none⟩) 2 2] (w.alloc (.cells #[.string s,.string t] 9)) (GoTo C G D rv ov none0 (mu C.R x [s,t]) w):=by
 have hb : Below w.heap.size w (w.alloc (.cells #[.string s,.string t] 9)):=bAl
 have hl:=h.v.lt
 have hg:=h.gt
 refine (mustS_any C hC G D rv ov x _ (h.under hb) [s,t] (fun u hu => by
  rcases List.mem_cons.1 hu with rfl | hu
  ·exact hs
  ·obtain rfl : u = t:=by simpa using hu
   exact ht) _ 2 2 ?_ (by omega) (fun b off e => by cases e; omega)).mono fun e w' hh => ⟨hh.1,hh.2.1,(Tn.of_below _ hb).trans hh.2.2⟩
 have:=Sh.lit w [.string s,.string t] 9
 simpa using this
set_option maxRecDepth 10000 in
theorem partN_any (C : Cx) (hC : TokOk C.T C.L) (G : Nat) (D : Int) (rv ov : Value) (x : Nat × Int) (w : World) (h : Rdr C G D rv ov w x) :
  CP 150 #[.pointer (some ⟨G,0,none⟩),.func (.func 121) #[] #[]] w (GoTo C G D rv ov (.string (pnm C.R x).1) (pnm C.R x).2 w):=by
 obtain ⟨p,r⟩:=x
 have H:=Lh h
 have c0:=h.c0
 have c4:=h.c4
 dsimp only at c4
 unfold pnm
 dsimp only
 by_cases hr : r = 0
 ·subst hr
  have HT:=Lh (name_any C hC p w h.cur)
  rw [if_pos rfl]
  clear h
  go_enter Tryz.func150,Tryz.ntmps150
  go_wp2_with (first
   | (go_at_call 121; refine HT.out.mono ?_; rintro e w2 ⟨rfl,hc2,hg2⟩; have HR2:=Lh (H.out.gone hc2 hg2); have HG2:=Lh (Tn.cur (G:=G) hg2); clear hc2 hg2; have k4:=HR2.out.c4; have f4:=HR2.out.f4; dsimp only)
   | fail)
  go_ret
  exact ⟨rfl,HR2.out.err _,HG2.out.trans (Tn.set _ _ _ _ (.inr rfl))⟩
 ·have hr1 : (r == 0) = false:=by simp [hr]
  have hr2 : decide (r = 0) = false:=by simp [hr]
  rw [if_neg hr]
  clear h
  go_enter Tryz.func150,Tryz.ntmps150
  go_wp2_with fail
  go_ret
  exact ⟨rfl,H.out,Tn.refl _ _⟩
set_option maxRecDepth 10000 in
theorem partT_any (C : Cx) (hC : TokOk C.T C.L) (G : Nat) (D : Int) (rv ov : Value) (x : Nat × Int) (w : World) (h : Rdr C G D rv ov w x) :
  CP 161 #[.pointer (some ⟨G,0,none⟩),.func (.func 95) #[] #[]] w (GoTo C G D rv ov (.int .i64 (pty C.R x).1) (pty C.R x).2 w):=by
 obtain ⟨p,r⟩:=x
 have H:=Lh h
 have c0:=h.c0
 have c4:=h.c4
 dsimp only at c4
 unfold pty
 dsimp only
 by_cases hr : r = 0
 ·subst hr
  have HT:=Lh (type_any C hC p w h.cur)
  rw [if_pos rfl]
  clear h
  go_enter Tryz.func161,Tryz.ntmps161
  go_wp2_with (first
   | (go_at_call 95; refine HT.out.mono ?_; rintro e w2 ⟨rfl,hc2,hg2⟩; have HR2:=Lh (H.out.gone hc2 hg2); have HG2:=Lh (Tn.cur (G:=G) hg2); clear hc2 hg2; have k4:=HR2.out.c4; have f4:=HR2.out.f4; dsimp only)
   | fail)
  go_ret
  exact ⟨rfl,HR2.out.err _,HG2.out.trans (Tn.set _ _ _ _ (.inr rfl))⟩
 ·have hr1 : (r == 0) = false:=by simp [hr]
  have hr2 : decide (r = 0) = false:=by simp [hr]
  rw [if_neg hr]
  clear h
  go_enter Tryz.func161,Tryz.ntmps161
  go_wp2_with fail
  go_ret
  exact ⟨rfl,H.out,Tn.refl _ _⟩
theorem Rdr.new {C : Cx} {G : Nat} {D : Int} {rv ov : Value} {w : World} {x : Nat × Int} (h : Rdr C G D rv ov w x) (o : Obj) : Rdr C G D rv ov (w.alloc o) x:=h.under bAl
theorem Rdr.own {C : Cx} {G K : Nat} {D : Int} {rv ov : Value} {w w' : World} {x : Nat × Int} (h : Rdr C G D rv ov w x) (ht : Tn (fun k => k = K) w w') (hK : G < K) : Rdr C G D rv ov w' x:=h.turn ht fun k hk e => by omega
theorem Tn.own {M : Nat → Prop} {K : Nat} {w w1 w2 : World} (h : Tn M w w1) (ht : Tn (fun k => k = K) w1 w2) (hK : w.heap.size ≤ K) : Tn M w w2:=h.then_ ht fun i hi e => by omega
set_option maxRecDepth 10000 in
theorem partA_any (C : Cx) (hC : TokOk C.T C.L) (G : Nat) (D : Int) (rv ov : Value) (x : Nat × Int) (w : World) (h : Rdr C G D rv ov w x) :
  CP 162 #[.pointer (some ⟨G,0,none⟩),.func (.func 97) #[] #[]] w (GoTo C G D rv ov (anV (pmk C.R x).1) (pmk C.R x).2 w):=by
 obtain ⟨p,r⟩:=x
 have hz:=zeroAn
 have hlt:=h.v.lt
 have hgt:=h.gt
 have hs1 : Hid ((w.alloc (.cells #[.bool false,.bool false,.string ⟨#[]⟩,.int .i64 0,.int .i64 0] 36)).heap.size = w.heap.size + 1):=Lh (by simp)
 have J : Hid (Rdr C G D rv ov (w.alloc (.cells #[.bool false,.bool false,.string ⟨#[]⟩,.int .i64 0,.int .i64 0] 36)) (p,r)):=Lh (h.new _)
 have JG : Hid (Tn (Rdr.M C G) w (w.alloc (.cells #[.bool false,.bool false,.string ⟨#[]⟩,.int .i64 0,.int .i64 0] 36))):=Lh (Tn.alloc _ _ _)
 have JV : Hid (Var (w.alloc (.cells #[.bool false,.bool false,.string ⟨#[]⟩,.int .i64 0,.int .i64 0] 36)) w.heap.size (anC An.nul)):=Lh (Var.new w (anC An.nul) 36 rfl)
 have c0:=J.out.c0
 have c4:=J.out.c4
 dsimp only at c4
 clear h
 unfold pmk
 dsimp only
 by_cases hr : r = 0
 ·subst hr
  have HT:=Lh (mark_any C hC p _ J.out.cur)
  obtain ⟨y,hy⟩ : ∃ y,markS C.R p = y:=⟨_,rfl⟩
  rw [if_pos rfl,hy]
  rw [hy] at HT
  clear hy
  go_enter Tryz.func162,Tryz.ntmps162
  go_wp2_with (first
   | (go_at_call 97; refine HT.out.mono ?_; rintro e w2 ⟨rfl,hc2,hg2⟩; have J:=Lh (J.out.gone hc2 hg2); have JG:=Lh (JG.out.trans (Tn.cur (G:=G) hg2)); have JV:=Lh (JV.out.gbn hg2 (by omega)); have hs2:=hg2.size; rw [hs1.out] at hs2; clear hc2 hg2; dsimp only)
   | (refine wpList_stV rfl 36 (.tmp 6) (.tmp 21) rfl (G:=w2.heap.size) rfl (us:=anC y.1) (Var.new w2 (anC An.nul) 36 rfl) rfl info_an (Nat.le_refl 5) (anC_one _) ?_; intro w3 ht hs; have ta:=Tn.alloc (fun k => k = w2.heap.size) w2 (.cells #[.bool false,.bool false,.string ⟨#[]⟩,.int .i64 0,.int .i64 0] 36); have J:=Lh ((J.out.new (.cells #[.bool false,.bool false,.string ⟨#[]⟩,.int .i64 0,.int .i64 0] 36)).own ht (by omega)); have JG:=Lh ((JG.out.trans (Tn.alloc _ w2 (.cells #[.bool false,.bool false,.string ⟨#[]⟩,.int .i64 0,.int .i64 0] 36))).own ht (by omega)); have JV:=Lh ((JV.out.turn ta (by omega)).turn ht (by omega)); have JS:=Lh (show Var w3 w2.heap.size (anC y.1) from hs); have hs3:=ht.size; clear ht hs ta; have k0:=J.out.c0; have k4:=J.out.c4; have f4:=J.out.f4)
   | (refine wpList_ldV rfl 36 (.tmp 6) rfl w2.heap.size 0 rfl (anC y.1) (JS.out.turn (Tn.set (M:=fun k => k = G) w3 G 4 (.int .i64 y.2.2) rfl) (by omega)).rg Tryz.underlying36 rfl info_an ?_)
   | (refine wpList_stV rfl 36 (.tmp 4) (.tmp 27) rfl (G:=w.heap.size) rfl (us:=anC y.1) (JV.out.turn (Tn.set (M:=fun k => k = G) w3 G 4 (.int .i64 y.2.2) rfl) (by omega)) rfl info_an (Nat.le_refl 5) (anC_one _) ?_; intro w4 ht hs; have J:=Lh ((J.out.err y.2.2).own ht (by omega)); have JG:=Lh ((JG.out.trans (Tn.set w3 G 4 (.int .i64 y.2.2) (.inr rfl))).own ht (by omega)); have JV:=Lh (show Var w4 w.heap.size (anC y.1) from hs); clear ht hs)
   | fail)
  exact v_ret 36 rfl rfl rfl JV.out Tryz.underlying36 rfl info_an ⟨rfl,J.out,JG.out⟩
 ·have hr1 : (r == 0) = false:=by simp [hr]
  have hr2 : decide (r = 0) = false:=by simp [hr]
  rw [if_neg hr]
  go_enter Tryz.func162,Tryz.ntmps162
  go_wp2_with (first
   | (refine wpList_ldV rfl 36 (.tmp 5) rfl (w.alloc (.cells #[.bool false,.bool false,.string ⟨#[]⟩,.int .i64 0,.int .i64 0] 36)).heap.size 0 rfl (anC An.nul) (Var.new (w.alloc (.cells #[.bool false,.bool false,.string ⟨#[]⟩,.int .i64 0,.int .i64 0] 36)) (anC An.nul) 36 rfl).rg Tryz.underlying36 rfl info_an ?_)
   | (refine wpList_stV rfl 36 (.tmp 4) (.tmp 13) rfl (G:=w.heap.size) rfl (us:=anC An.nul) (JV.out.turn (Tn.alloc (fun k => k = 0) (w.alloc (.cells #[.bool false,.bool false,.string ⟨#[]⟩,.int .i64 0,.int .i64 0] 36)) (.cells #[.bool false,.bool false,.string ⟨#[]⟩,.int .i64 0,.int .i64 0] 36)) (by omega)) rfl info_an (Nat.le_refl 5) (anC_one _) ?_; intro w4 ht hs; have J:=Lh ((J.out.new (.cells #[.bool false,.bool false,.string ⟨#[]⟩,.int .i64 0,.int .i64 0] 36)).own ht (by omega)); have JG:=Lh ((JG.out.trans (Tn.alloc _ (w.alloc (.cells #[.bool false,.bool false,.string ⟨#[]⟩,.int .i64 0,.int .i64 0] 36)) (.cells #[.bool false,.bool false,.string ⟨#[]⟩,.int .i64 0,.int .i64 0] 36))).own ht (by omega)); have JV:=Lh (show Var w4 w.heap.size (anC An.nul) from hs); clear ht hs)
   | fail)
  exact v_ret 36 rfl rfl rfl JV.out Tryz.underlying36 rfl info_an ⟨rfl,J.out,JG.out⟩
set_option maxRecDepth 10000 in
theorem partE_any (C : Cx) (hC : TokOk C.T C.L) (hDg : DigOk C) (F : Nat) (hF : 16 * C.L.length + 9 ≤ F) (G : Nat) (D : Int) (rv ov : Value) (x : Nat × Int) (w : World) (h : Rdr C G D rv ov w x) :
  CP 163 #[.pointer (some ⟨G,0,none⟩),.func (.func 105) #[] #[]] w fun e w' => ∃ lv,GoTo C G D rv ov (exV (pex C.R F x).1 lv) (pex C.R F x).2 w e w' ∧ Shx w' (fun b => w.heap.size ≤ b) lv (pex C.R F x).1.l:=by
 obtain ⟨p,r⟩:=x
 have hz:=zeroEx'
 have hlt:=h.v.lt
 have hgt:=h.gt
 have hs1 : Hid ((w.alloc (.cells z6 77)).heap.size = w.heap.size + 1):=Lh (by simp)
 have J : Hid (Rdr C G D rv ov (w.alloc (.cells z6 77)) (p,r)):=Lh (h.new _)
 have JG : Hid (Tn (Rdr.M C G) w (w.alloc (.cells z6 77))):=Lh (Tn.alloc _ _ _)
 have JV : Hid (Var (w.alloc (.cells z6 77)) w.heap.size (exC Ex.nul (.slice none 0 0))):=Lh (Var.new w (exC Ex.nul (.slice none 0 0)) 77 rfl)
 have c0:=J.out.c0
 have c4:=J.out.c4
 dsimp only at c4
 clear h
 unfold pex
 dsimp only
 by_cases hr : r = 0
 ·subst hr
  have HT:=Lh (expr_any C hC hDg F p _ J.out.cur (by omega))
  unfold exS
  obtain ⟨y,hy⟩ : ∃ y,rd C.R F (.lev 1) p 0 = y:=⟨_,rfl⟩
  rw [if_pos rfl,hy]
  rw [hy] at HT
  dsimp only
  clear hy
  go_enter Tryz.func163,Tryz.ntmps163
  go_wp2_with (first
   | (go_at_call 105; refine HT.out.mono ?_; rintro e w2 ⟨lv,rfl,hx2,hg2,hc2⟩; have hone:=hx2.one; have JX:=Lh (hx2.weak (S':=fun b => w.heap.size < b ∧ b < w2.heap.size) (by intro b hb hb2; have:=hs1.out; exact ⟨by omega,hb2⟩)); have J:=Lh (J.out.gone hc2 hg2); have JG:=Lh (JG.out.trans (Tn.cur (G:=G) hg2)); have JV:=Lh (JV.out.gbn hg2 (by omega)); have hs2:=hg2.size; rw [hs1.out] at hs2; clear hc2 hg2 hx2; dsimp only)
   | (refine wpList_stV rfl 77 (.tmp 6) (.tmp 21) rfl (G:=w2.heap.size) rfl (us:=exC y.e lv) (Var.new w2 (exC Ex.nul (.slice none 0 0)) 77 rfl) rfl info_ex (Nat.le_refl 6) (exC_one _ hone) ?_; intro w3 ht hs; have ta:=Tn.alloc (fun k => k = w2.heap.size) w2 (.cells z6 77); have J:=Lh ((J.out.new (.cells z6 77)).own ht (by omega)); have JG:=Lh ((JG.out.trans (Tn.alloc _ w2 (.cells z6 77))).own ht (by omega)); have JV:=Lh ((JV.out.turn ta (by omega)).turn ht (by omega)); have JX:=Lh ((JX.out.turn (S':=fun b => w.heap.size < b ∧ b < w2.heap.size) ta (fun b hb _ => ⟨hb,by omega⟩)).turn (S':=fun b => w.heap.size < b ∧ b < w2.heap.size) ht (fun b hb _ => ⟨hb,by omega⟩)); have JS:=Lh (show Var w3 w2.heap.size (exC y.e lv) from hs); have hs3:=ht.size; clear ht hs ta; have k0:=J.out.c0; have k4:=J.out.c4; have f4:=J.out.f4)
   | (refine wpList_ldV rfl 77 (.tmp 6) rfl w2.heap.size 0 rfl (exC y.e lv) (JS.out.turn (Tn.set (M:=fun k => k = G) w3 G 4 (.int .i64 y.r) rfl) (by omega)).rg Tryz.underlying77 rfl info_ex ?_)
   | (refine wpList_stV rfl 77 (.tmp 4) (.tmp 27) rfl (G:=w.heap.size) rfl (us:=exC y.e lv) (JV.out.turn (Tn.set (M:=fun k => k = G) w3 G 4 (.int .i64 y.r) rfl) (by omega)) rfl info_ex (Nat.le_refl 6) (exC_one _ hone) ?_; intro w4 ht hs; have J:=Lh ((J.out.err y.r).own ht (by omega)); have JG:=Lh ((JG.out.trans (Tn.set w3 G 4 (.int .i64 y.r) (.inr rfl))).own ht (by omega)); have JX:=Lh ((JX.out.turn (S':=fun b => w.heap.size < b ∧ b < w2.heap.size) (Tn.set (M:=fun k => k = G) w3 G 4 (.int .i64 y.r) rfl) (fun b hb _ => ⟨hb,by omega⟩)).turn (S':=fun b => w.heap.size ≤ b) ht (fun b hb _ => ⟨by omega,by omega⟩)); have JV:=Lh (show Var w4 w.heap.size (exC y.e lv) from hs); clear ht hs)
   | fail)
  exact v_ret 77 rfl rfl rfl JV.out Tryz.underlying77 rfl info_ex ⟨lv,⟨rfl,J.out,JG.out⟩,JX.out⟩
 ·have hr1 : (r == 0) = false:=by simp [hr]
  have hr2 : decide (r = 0) = false:=by simp [hr]
  rw [if_neg hr]
  go_enter Tryz.func163,Tryz.ntmps163
  go_wp2_with (first
   | (refine wpList_ldV rfl 77 (.tmp 5) rfl (w.alloc (.cells z6 77)).heap.size 0 rfl (exC Ex.nul (.slice none 0 0)) (Var.new (w.alloc (.cells z6 77)) (exC Ex.nul (.slice none 0 0)) 77 rfl).rg Tryz.underlying77 rfl info_ex ?_)
   | (refine wpList_stV rfl 77 (.tmp 4) (.tmp 13) rfl (G:=w.heap.size) rfl (us:=exC Ex.nul (.slice none 0 0)) (JV.out.turn (Tn.alloc (fun k => k = 0) (w.alloc (.cells z6 77)) (.cells z6 77)) (by omega)) rfl info_ex (Nat.le_refl 6) (exC_one _ rfl) ?_; intro w4 ht hs; have J:=Lh ((J.out.new (.cells z6 77)).own ht (by omega)); have JG:=Lh ((JG.out.trans (Tn.alloc _ (w.alloc (.cells z6 77)) (.cells z6 77))).own ht (by omega)); have JV:=Lh (show Var w4 w.heap.size (exC Ex.nul (.slice none 0 0)) from hs); clear ht hs)
   | fail)
  exact v_ret 77 rfl rfl rfl JV.out Tryz.underlying77 rfl info_ex ⟨.slice none 0 0,⟨rfl,J.out,JG.out⟩,.nil⟩
abbrev Rdr.M3 (C : Cx) (G K : Nat) : Nat → Prop:=fun k => k = C.g ∨ k = G ∨ k = K
def HdTo (C : Cx) (G K : Nat) (D : Int) (rv ov : Value) (y : St × (Nat × Int)) (w : World) (e : Ending) (w' : World) : Prop:=
 ∃ lv,e = .returned none0 ∧ Rdr C G D rv ov w' y.2 ∧ Var w' K (stC y.1 ⟨lv,.slice none 0 0,.slice none 0 0⟩) ∧ Shx w' (fun b => w.heap.size ≤ b) lv y.1.e.l ∧ Tn (Rdr.M3 C G K) w w'
set_option maxRecDepth 100000 in
theorem let_any (C : Cx) (hC : TokOk C.T C.L) (hDg : DigOk C) (F : Nat) (hF : 16 * C.L.length + 9 ≤ F) (G K : Nat) (hGK : G < K) (D : Int) (rv ov : Value) (x : Nat × Int) (w : World) (h : Rdr C G D rv ov w x) (a : Int) (hv : Var w K (stC (.mk 0 a ⟨#[]⟩ 0 An.nul Ex.nul [] []) ⟨.slice none 0 0,.slice none 0 0,.slice none 0 0⟩)) :
  CP 148 #[.pointer (some ⟨G,0,none⟩),.pointer (some ⟨K,0,none⟩)] w (HdTo C G K D rv ov (letS C.R F a x) w):=by
 have hgt:=h.gt
 have hKw:=hv.lt
 obtain ⟨x1,hx1⟩ : ∃ y,mu C.R x [wLet] = y:=⟨_,rfl⟩
 obtain ⟨y2,hy2⟩ : ∃ y,pnm C.R x1 = y:=⟨_,rfl⟩
 obtain ⟨x3,hx3⟩ : ∃ y,mu C.R y2.2 [wCol] = y:=⟨_,rfl⟩
 obtain ⟨y4,hy4⟩ : ∃ y,pty C.R x3 = y:=⟨_,rfl⟩
 obtain ⟨y5,hy5⟩ : ∃ y,pmk C.R y4.2 = y:=⟨_,rfl⟩
 obtain ⟨x6,hx6⟩ : ∃ y,mu C.R y5.2 [wEq] = y:=⟨_,rfl⟩
 obtain ⟨y7,hy7⟩ : ∃ y,pex C.R F x6 = y:=⟨_,rfl⟩
 obtain ⟨x8,hx8⟩ : ∃ y,mu C.R y7.2 [wSem] = y:=⟨_,rfl⟩
 have HL : letS C.R F a x = (.mk 0 a y2.1 y4.1 y5.1 y7.1 [] [],x8):=by simp only [letS,hx1,hy2,hx3,hy4,hy5,hx6,hy7,hx8]
 rw [HL]
 have HM1 : Hid (∀ W,Rdr C G D rv ov W x → CP 147 #[.pointer (some ⟨G,0,none⟩),.slice (some ⟨W.heap.size,0,none⟩) 1 1] (W.alloc (.cells #[.string ⟨#[108,101,116]⟩] 9)) (GoTo C G D rv ov none0 x1 W)):=Lh fun W hW => by
  have:=must1_any C hC G D rv ov x W hW ⟨#[108,101,116]⟩ (by decide)
  rwa [hx1] at this
 have HN2 : Hid (∀ W,Rdr C G D rv ov W x1 → CP 150 #[.pointer (some ⟨G,0,none⟩),.func (.func 121) #[] #[]] W (GoTo C G D rv ov (.string y2.1) y2.2 W)):=Lh fun W hW => by
  have:=partN_any C hC G D rv ov x1 W hW
  rwa [hy2] at this
 have HM3 : Hid (∀ W,Rdr C G D rv ov W y2.2 → CP 147 #[.pointer (some ⟨G,0,none⟩),.slice (some ⟨W.heap.size,0,none⟩) 1 1] (W.alloc (.cells #[.string ⟨#[58]⟩] 9)) (GoTo C G D rv ov none0 x3 W)):=Lh fun W hW => by
  have:=must1_any C hC G D rv ov y2.2 W hW ⟨#[58]⟩ (by decide)
  rwa [hx3] at this
 have HT4 : Hid (∀ W,Rdr C G D rv ov W x3 → CP 161 #[.pointer (some ⟨G,0,none⟩),.func (.func 95) #[] #[]] W (GoTo C G D rv ov (.int .i64 y4.1) y4.2 W)):=Lh fun W hW => by
  have:=partT_any C hC G D rv ov x3 W hW
  rwa [hy4] at this
 have HA5 : Hid (∀ W,Rdr C G D rv ov W y4.2 → CP 162 #[.pointer (some ⟨G,0,none⟩),.func (.func 97) #[] #[]] W (GoTo C G D rv ov (anV y5.1) y5.2 W)):=Lh fun W hW => by
  have:=partA_any C hC G D rv ov y4.2 W hW
  rwa [hy5] at this
 have HM6 : Hid (∀ W,Rdr C G D rv ov W y5.2 → CP 147 #[.pointer (some ⟨G,0,none⟩),.slice (some ⟨W.heap.size,0,none⟩) 1 1] (W.alloc (.cells #[.string ⟨#[61]⟩] 9)) (GoTo C G D rv ov none0 x6 W)):=Lh fun W hW => by
  have:=must1_any C hC G D rv ov y5.2 W hW ⟨#[61]⟩ (by decide)
  rwa [hx6] at this
 have HE7 : Hid (∀ W,Rdr C G D rv ov W x6 → CP 163 #[.pointer (some ⟨G,0,none⟩),.func (.func 105) #[] #[]] W fun e w' => ∃ lv,GoTo C G D rv ov (exV y7.1 lv) y7.2 W e w' ∧ Shx w' (fun b => W.heap.size ≤ b) lv y7.1.l):=Lh fun W hW => by
  have:=partE_any C hC hDg F hF G D rv ov x6 W hW
  rwa [hy7] at this
 have HM8 : Hid (∀ W,Rdr C G D rv ov W y7.2 → CP 147 #[.pointer (some ⟨G,0,none⟩),.slice (some ⟨W.heap.size,0,none⟩) 1 1] (W.alloc (.cells #[.string ⟨#[59]⟩] 9)) (GoTo C G D rv ov none0 x8 W)):=Lh fun W hW => by
  have:=must1_any C hC G D rv ov y7.2 W hW ⟨#[59]⟩ (by decide)
  rwa [hx8] at this
 have J:=Lh h
 have JV:=Lh hv
 have JT:=Lh (Tn.refl (Rdr.M3 C G K) w)
 clear h hv HL hx1 hy2 hx3 hy4 hy5 hx6 hy7 hx8
 go_enter Tryz.func148,Tryz.ntmps148
 go_wp2_with (first
  | (refine wpList_st1 rfl _ _ _ rfl (G:=K) (off:=0) rfl (v:=.int .i64 0) JV.out rfl (by kernel_rfl) (by show 0 < 17; omega) rfl ?_; intro w3 ht hs; have J:=Lh (J.out.own ht hGK); have JT:=Lh (JT.out.then_ ht (fun i _ hi => .inr (.inr hi))); have JV:=Lh (show Var w3 K (stC (.mk 0 a ⟨#[]⟩ 0 An.nul Ex.nul [] []) ⟨.slice none 0 0,.slice none 0 0,.slice none 0 0⟩) from hs); clear ht hs)
  | (go_at_call 147; (with_reducible refine (HM1.out _ J.out).mono ?_); rintro e w2 ⟨rfl,hr,ht⟩; have hsz:=ht.size; have J:=Lh hr; have JT:=Lh (JT.out.then_ ht (fun i _ hi => hi.elim .inl (fun h => .inr (.inl h)))); have JV:=Lh (JV.out.turn ht (fun hi => hi.elim (by omega) (by omega))); clear hr ht; dsimp only)
  | (go_at_call 150; (with_reducible refine (HN2.out _ J.out).mono ?_); rintro e w2 ⟨rfl,hr,ht⟩; have hsz:=ht.size; have J:=Lh hr; have JT:=Lh (JT.out.then_ ht (fun i _ hi => hi.elim .inl (fun h => .inr (.inl h)))); have JV:=Lh (JV.out.turn ht (fun hi => hi.elim (by omega) (by omega))); clear hr ht; dsimp only)
  | (refine wpList_st1 rfl _ _ _ rfl (G:=K) (off:=2) rfl (v:=.string y2.1) JV.out rfl (by kernel_rfl) (by show 2 < 17; omega) rfl ?_; intro w3 ht hs; have J:=Lh (J.out.own ht hGK); have JT:=Lh (JT.out.then_ ht (fun i _ hi => .inr (.inr hi))); have JV:=Lh (show Var w3 K (stC (.mk 0 a y2.1 0 An.nul Ex.nul [] []) ⟨.slice none 0 0,.slice none 0 0,.slice none 0 0⟩) from hs); clear ht hs)
  | (go_at_call 147; (with_reducible refine (HM3.out _ J.out).mono ?_); rintro e w2 ⟨rfl,hr,ht⟩; have hsz:=ht.size; have J:=Lh hr; have JT:=Lh (JT.out.then_ ht (fun i _ hi => hi.elim .inl (fun h => .inr (.inl h)))); have JV:=Lh (JV.out.turn ht (fun hi => hi.elim (by omega) (by omega))); clear hr ht; dsimp only)
  | (go_at_call 161; (with_reducible refine (HT4.out _ J.out).mono ?_); rintro e w2 ⟨rfl,hr,ht⟩; have hsz:=ht.size; have J:=Lh hr; have JT:=Lh (JT.out.then_ ht (fun i _ hi => hi.elim .inl (fun h => .inr (.inl h)))); have JV:=Lh (JV.out.turn ht (fun hi => hi.elim (by omega) (by omega))); clear hr ht; dsimp only)
  | (refine wpList_st1 rfl _ _ _ rfl (G:=K) (off:=3) rfl (v:=.int .i64 y4.1) JV.out rfl (by kernel_rfl) (by show 3 < 17; omega) rfl ?_; intro w3 ht hs; have J:=Lh (J.out.own ht hGK); have JT:=Lh (JT.out.then_ ht (fun i _ hi => .inr (.inr hi))); have JV:=Lh (show Var w3 K (stC (.mk 0 a y2.1 y4.1 An.nul Ex.nul [] []) ⟨.slice none 0 0,.slice none 0 0,.slice none 0 0⟩) from hs); clear ht hs)
  | (go_at_call 162; (with_reducible refine (HA5.out _ J.out).mono ?_); rintro e w2 ⟨rfl,hr,ht⟩; have hsz:=ht.size; have J:=Lh hr; have JT:=Lh (JT.out.then_ ht (fun i _ hi => hi.elim .inl (fun h => .inr (.inl h)))); have JV:=Lh (JV.out.turn ht (fun hi => hi.elim (by omega) (by omega))); clear hr ht; dsimp only)
  | (refine wpList_stV rfl 36 _ _ rfl (G:=K) (off:=4) rfl (us:=anC y5.1) JV.out rfl info_an (by show 4 + 5 ≤ 17; omega) (anC_one _) ?_; intro w3 ht hs; have J:=Lh (J.out.own ht hGK); have JT:=Lh (JT.out.then_ ht (fun i _ hi => .inr (.inr hi))); have JV:=Lh (show Var w3 K (stC (.mk 0 a y2.1 y4.1 y5.1 Ex.nul [] []) ⟨.slice none 0 0,.slice none 0 0,.slice none 0 0⟩) from hs); clear ht hs)
  | (go_at_call 147; (with_reducible refine (HM6.out _ J.out).mono ?_); rintro e w2 ⟨rfl,hr,ht⟩; have hsz:=ht.size; have J:=Lh hr; have JT:=Lh (JT.out.then_ ht (fun i _ hi => hi.elim .inl (fun h => .inr (.inl h)))); have JV:=Lh (JV.out.turn ht (fun hi => hi.elim (by omega) (by omega))); clear hr ht; dsimp only)
  | (go_at_call 163; (with_reducible refine (HE7.out _ J.out).mono ?_); rintro e w2 ⟨lv,⟨rfl,hr,ht⟩,hx⟩; have hone:=hx.one; have JX:=Lh (hx.weak (S':=fun b => w.heap.size ≤ b) (fun b hb _ => Nat.le_trans JT.out.size hb)); have hsz:=ht.size; have J:=Lh hr; have JT:=Lh (JT.out.then_ ht (fun i _ hi => hi.elim .inl (fun h => .inr (.inl h)))); have JV:=Lh (JV.out.turn ht (fun hi => hi.elim (by omega) (by omega))); clear hr ht hx; dsimp only)
  | (refine wpList_stV rfl 77 _ _ rfl (G:=K) (off:=9) rfl (us:=exC y7.1 lv) JV.out rfl info_ex (by show 9 + 6 ≤ 17; omega) (exC_one _ hone) ?_; intro w3 ht hs; have J:=Lh (J.out.own ht hGK); have JT:=Lh (JT.out.then_ ht (fun i _ hi => .inr (.inr hi))); have JV:=Lh (show Var w3 K (stC (.mk 0 a y2.1 y4.1 y5.1 y7.1 [] []) ⟨lv,.slice none 0 0,.slice none 0 0⟩) from hs); have JX:=Lh (JX.out.turn (S':=fun b => w.heap.size ≤ b) ht (fun b hb _ => ⟨hb,by omega⟩)); clear ht hs)
  | (go_at_call 147; (with_reducible refine (HM8.out _ J.out).mono ?_); rintro e w2 ⟨rfl,hr,ht⟩; have hsz:=ht.size; have J:=Lh hr; have JT:=Lh (JT.out.then_ ht (fun i _ hi => hi.elim .inl (fun h => .inr (.inl h)))); have JV:=Lh (JV.out.turn ht (fun hi => hi.elim (by omega) (by omega))); have JX:=Lh (JX.out.turn (S':=fun b => w.heap.size ≤ b) ht (fun b hb _ => ⟨hb,fun hi => hi.elim (by omega) (by omega)⟩)); clear hr ht; dsimp only)
  | fail)
 refine bodyPost_ret (results_none rfl _ _ _) rfl ⟨lv,rfl,J.out,JV.out,JX.out,JT.out⟩
set_option maxRecDepth 100000 in
theorem asked_any (C : Cx) (hC : TokOk C.T C.L) (hDg : DigOk C) (F : Nat) (hF : 16 * C.L.length + 9 ≤ F) (G K : Nat) (hGK : G < K) (D : Int) (rv ov : Value) (x : Nat × Int) (w : World) (h : Rdr C G D rv ov w x) (k a : Int) (s : ByteArray) (hs : s.size ≠ 0) (hv : Var w K (stC (.mk k a ⟨#[]⟩ 0 An.nul Ex.nul [] []) ⟨.slice none 0 0,.slice none 0 0,.slice none 0 0⟩)) :
  CP 149 #[.pointer (some ⟨G,0,none⟩),.pointer (some ⟨K,0,none⟩),.string s] w (HdTo C G K D rv ov (askS C.R F k a s x) w):=by
 have hgt:=h.gt
 have hKw:=hv.lt
 obtain ⟨x1,hx1⟩ : ∃ y,mu C.R x [s,wPar] = y:=⟨_,rfl⟩
 obtain ⟨y2,hy2⟩ : ∃ y,pex C.R F x1 = y:=⟨_,rfl⟩
 obtain ⟨x3,hx3⟩ : ∃ y,mu C.R y2.2 [wRap] = y:=⟨_,rfl⟩
 have HL : askS C.R F k a s x = (.mk k a ⟨#[]⟩ 0 An.nul y2.1 [] [],x3):=by simp only [askS,hx1,hy2,hx3]
 rw [HL]
 have HM1 : Hid (∀ W,Rdr C G D rv ov W x → CP 147 #[.pointer (some ⟨G,0,none⟩),.slice (some ⟨W.heap.size,0,none⟩) 2 2] (W.alloc (.cells #[.string s,.string ⟨#[40]⟩] 9)) (GoTo C G D rv ov none0 x1 W)):=Lh fun W hW => by
  have:=must2_any C hC G D rv ov x W hW s ⟨#[40]⟩ hs (by decide)
  rwa [hx1] at this
 have HE2 : Hid (∀ W,Rdr C G D rv ov W x1 → CP 163 #[.pointer (some ⟨G,0,none⟩),.func (.func 105) #[] #[]] W fun e w' => ∃ lv,GoTo C G D rv ov (exV y2.1 lv) y2.2 W e w' ∧ Shx w' (fun b => W.heap.size ≤ b) lv y2.1.l):=Lh fun W hW => by
  have:=partE_any C hC hDg F hF G D rv ov x1 W hW
  rwa [hy2] at this
 have HM3 : Hid (∀ W,Rdr C G D rv ov W y2.2 → CP 147 #[.pointer (some ⟨G,0,none⟩),.slice (some ⟨W.heap.size,0,none⟩) 1 1] (W.alloc (.cells #[.string ⟨#[41]⟩] 9)) (GoTo C G D rv ov none0 x3 W)):=Lh fun W hW => by
  have:=must1_any C hC G D rv ov y2.2 W hW ⟨#[41]⟩ (by decide)
  rwa [hx3] at this
 have J:=Lh h
 have JV:=Lh hv
 have JT:=Lh (Tn.refl (Rdr.M3 C G K) w)
 clear h hv HL hx1 hy2 hx3
 go_enter Tryz.func149,Tryz.ntmps149
 go_wp2_with (first
  | (go_at_call 147; (with_reducible refine (HM1.out _ J.out).mono ?_); rintro e w2 ⟨rfl,hr,ht⟩; have hsz:=ht.size; have J:=Lh hr; have JT:=Lh (JT.out.then_ ht (fun i _ hi => hi.elim .inl (fun h => .inr (.inl h)))); have JV:=Lh (JV.out.turn ht (fun hi => hi.elim (by omega) (by omega))); clear hr ht; dsimp only)
  | (go_at_call 163; (with_reducible refine (HE2.out _ J.out).mono ?_); rintro e w2 ⟨lv,⟨rfl,hr,ht⟩,hx⟩; have hone:=hx.one; have JX:=Lh (hx.weak (S':=fun b => w.heap.size ≤ b) (fun b hb _ => Nat.le_trans JT.out.size hb)); have hsz:=ht.size; have J:=Lh hr; have JT:=Lh (JT.out.then_ ht (fun i _ hi => hi.elim .inl (fun h => .inr (.inl h)))); have JV:=Lh (JV.out.turn ht (fun hi => hi.elim (by omega) (by omega))); clear hr ht hx; dsimp only)
  | (refine wpList_stV rfl 77 _ _ rfl (G:=K) (off:=9) rfl (us:=exC y2.1 lv) JV.out rfl info_ex (by show 9 + 6 ≤ 17; omega) (exC_one _ hone) ?_; intro w3 ht hs; have J:=Lh (J.out.own ht hGK); have JT:=Lh (JT.out.then_ ht (fun i _ hi => .inr (.inr hi))); have JV:=Lh (show Var w3 K (stC (.mk k a ⟨#[]⟩ 0 An.nul y2.1 [] []) ⟨lv,.slice none 0 0,.slice none 0 0⟩) from hs); have JX:=Lh (JX.out.turn (S':=fun b => w.heap.size ≤ b) ht (fun b hb _ => ⟨hb,by omega⟩)); clear ht hs)
  | (go_at_call 147; (with_reducible refine (HM3.out _ J.out).mono ?_); rintro e w2 ⟨rfl,hr,ht⟩; have hsz:=ht.size; have J:=Lh hr; have JT:=Lh (JT.out.then_ ht (fun i _ hi => hi.elim .inl (fun h => .inr (.inl h)))); have JV:=Lh (JV.out.turn ht (fun hi => hi.elim (by omega) (by omega))); have JX:=Lh (JX.out.turn (S':=fun b => w.heap.size ≤ b) ht (fun b hb _ => ⟨hb,fun hi => hi.elim (by omega) (by omega)⟩)); clear hr ht; dsimp only)
  | fail)
 refine bodyPost_ret (results_none rfl _ _ _) rfl ⟨lv,rfl,J.out,JV.out,JX.out,JT.out⟩
set_option maxRecDepth 100000 in
theorem plain_any (C : Cx) (hC : TokOk C.T C.L) (hDg : DigOk C) (F : Nat) (hF : 16 * C.L.length + 9 ≤ F) (G K : Nat) (hGK : G < K) (D : Int) (rv ov : Value) (x : Nat × Int) (w : World) (h : Rdr C G D rv ov w x) (a : Int) (hv : Var w K (stC (.mk 0 a ⟨#[]⟩ 0 An.nul Ex.nul [] []) ⟨.slice none 0 0,.slice none 0 0,.slice none 0 0⟩)) :
  CP 151 #[.pointer (some ⟨G,0,none⟩),.pointer (some ⟨K,0,none⟩)] w (HdTo C G K D rv ov (plS C.R F a x) w):=by
 have hgt:=h.gt
 have hKw:=hv.lt
 have hz:=zeroEx'
 obtain ⟨y1,hy1⟩ : ∃ y,pex C.R F x = y:=⟨_,rfl⟩
 have HE1 : Hid (∀ W,Rdr C G D rv ov W x → CP 163 #[.pointer (some ⟨G,0,none⟩),.func (.func 105) #[] #[]] W fun e w' => ∃ lv,GoTo C G D rv ov (exV y1.1 lv) y1.2 W e w' ∧ Shx w' (fun b => W.heap.size ≤ b) lv y1.1.l):=Lh fun W hW => by
  have:=partE_any C hC hDg F hF G D rv ov x W hW
  rwa [hy1] at this
 have J:=Lh h
 have JV:=Lh hv
 have JT:=Lh (Tn.refl (Rdr.M3 C G K) w)
 clear h hv
 by_cases hr : y1.2.2 = 0
 ·have hr1 : (y1.2.2 == 0) = true:=by simp [hr]
  have hr2 : decide (y1.2.2 = 0) = true:=by simp [hr]
  have hr3 : (y1.2.2 != 0) = false:=by simp [hr]
  by_cases hk2 : y1.1.k = 2
  ·have hk2' : (y1.1.k == 2) = true:=by simp [hk2]
   have hk2'' : decide (y1.1.k = 2) = true:=by simp [hk2]
   obtain ⟨x2,hx2⟩ : ∃ y,mu C.R y1.2 [wEq] = y:=⟨_,rfl⟩
   obtain ⟨y3,hy3⟩ : ∃ y,pex C.R F x2 = y:=⟨_,rfl⟩
   obtain ⟨x4,hx4⟩ : ∃ y,mu C.R y3.2 [wSem] = y:=⟨_,rfl⟩
   have HL : plS C.R F a x = (.mk 1 a y1.1.nm 0 An.nul y3.1 [] [],x4):=by simp only [plS,hy1,if_pos hr,if_pos hk2,hx2,hy3,hx4]
   rw [HL]
   have HM2 : Hid (∀ W,Rdr C G D rv ov W y1.2 → CP 147 #[.pointer (some ⟨G,0,none⟩),.slice (some ⟨W.heap.size,0,none⟩) 1 1] (W.alloc (.cells #[.string ⟨#[61]⟩] 9)) (GoTo C G D rv ov none0 x2 W)):=Lh fun W hW => by
    have:=must1_any C hC G D rv ov y1.2 W hW ⟨#[61]⟩ (by decide)
    rwa [hx2] at this
   have HE3 : Hid (∀ W,Rdr C G D rv ov W x2 → CP 163 #[.pointer (some ⟨G,0,none⟩),.func (.func 105) #[] #[]] W fun e w' => ∃ lv,GoTo C G D rv ov (exV y3.1 lv) y3.2 W e w' ∧ Shx w' (fun b => W.heap.size ≤ b) lv y3.1.l):=Lh fun W hW => by
    have:=partE_any C hC hDg F hF G D rv ov x2 W hW
    rwa [hy3] at this
   have HM4 : Hid (∀ W,Rdr C G D rv ov W y3.2 → CP 147 #[.pointer (some ⟨G,0,none⟩),.slice (some ⟨W.heap.size,0,none⟩) 1 1] (W.alloc (.cells #[.string ⟨#[59]⟩] 9)) (GoTo C G D rv ov none0 x4 W)):=Lh fun W hW => by
    have:=must1_any C hC G D rv ov y3.2 W hW ⟨#[59]⟩ (by decide)
    rwa [hx4] at this
   clear HL hx2 hy3 hx4 hy1 hr hk2
   go_enter Tryz.func151,Tryz.ntmps151
   go_wp2_with (first
    | (go_at_call 163; (with_reducible refine (HE1.out _ J.out).mono ?_); rintro e w2 ⟨lv,⟨rfl,hr,ht⟩,hx⟩; have hone:=hx.one; have JX:=Lh (hx.weak (S':=fun b => w.heap.size ≤ b ∧ b < w2.heap.size) (fun b hb h2 => ⟨Nat.le_trans JT.out.size hb,h2⟩)); have hsz:=ht.size; have J:=Lh hr; have JT:=Lh (JT.out.then_ ht (fun i _ hi => hi.elim .inl (fun h => .inr (.inl h)))); have JV:=Lh (JV.out.turn ht (fun hi => hi.elim (by omega) (by omega))); clear hr ht hx; dsimp only)
    | (refine wpList_stV rfl 77 (.tmp 4) _ rfl (G:=w2.heap.size) (off:=0) rfl (us:=exC y1.1 lv) (Var.new w2 (exC Ex.nul (.slice none 0 0)) 77 rfl) rfl info_ex (Nat.le_refl 6) (exC_one _ hone) ?_; intro w3 ht hs; have ta:=Tn.alloc (fun k => k = w2.heap.size) w2 (.cells z6 77); have J:=Lh ((J.out.new (.cells z6 77)).own ht (by omega)); have JT:=Lh ((JT.out.trans (Tn.alloc _ w2 (.cells z6 77))).own ht (by omega)); have JV:=Lh ((JV.out.turn ta (by omega)).turn ht (by omega)); have JX:=Lh ((JX.out.turn (S':=fun b => w.heap.size ≤ b ∧ b < w2.heap.size) ta (fun b hb _ => ⟨hb,by omega⟩)).turn (S':=fun b => w.heap.size ≤ b ∧ b < w2.heap.size) ht (fun b hb _ => ⟨hb,by omega⟩)); have JE:=Lh (show Var w3 w2.heap.size (exC y1.1 lv) from hs); have hs3:=ht.size; clear ht hs ta; have k4:=J.out.c4; have f4:=J.out.f4; have e0:=JE.out.at 0 (v:=.int .i64 y1.1.k) rfl)
    | fail)
   have e3:=JE.out.at 3 (v:=.string y1.1.nm) rfl
   have s0:=JV.out.at 0 (v:=.int .i64 0) rfl
   have s2:=JV.out.at 2 (v:=.string ⟨#[]⟩) rfl
   have f0:=JV.out.fz 0 (by show 0 < 17; omega)
   have f2:=JV.out.fz 2 (by show 2 < 17; omega)
   have hne : ¬ w2.heap.size = K:=by omega
   go_region
   have J:=Lh (((J.out.own (Tn.set (M:=fun k => k = K) w3 K 0 (.int .i64 1) rfl) hGK).own (Tn.set (M:=fun k => k = K) _ K 2 (.string y1.1.nm) rfl) hGK).under (below_drew _ _))
   have JT:=Lh ((((JT.out.trans (Tn.set w3 K 0 (.int .i64 1) (.inr (.inr rfl)))).trans (Tn.set _ K 2 (.string y1.1.nm) (.inr (.inr rfl))))).trans (Tn.drew _ _))
   have JV:=Lh (show Var _ K (stC (.mk 1 a y1.1.nm 0 An.nul Ex.nul [] []) ⟨.slice none 0 0,.slice none 0 0,.slice none 0 0⟩) from (((JV.out.set 0 (.int .i64 1) (by show 0 < 17; omega)).set 2 (.string y1.1.nm) (by show 2 < 17; omega)).under (below_drew _ _)))
   obtain ⟨w4,hw4⟩ : ∃ w4,((w3.setCell ⟨K,0,none⟩ (.int .i64 1)).setCell ⟨K,2,none⟩ (.string y1.1.nm)).drew = w4:=⟨_,rfl⟩
   rw [hw4] at J JT JV ⊢
   clear hw4 e3 s0 s2 f0 f2 e0 k4 f4 JX JE hs3 hsz
   go_wp2_with (first
    | (go_at_call 147; (with_reducible refine (HM2.out _ J.out).mono ?_); rintro e w2 ⟨rfl,hr,ht⟩; have hsz:=ht.size; have J:=Lh hr; have JT:=Lh (JT.out.then_ ht (fun i _ hi => hi.elim .inl (fun h => .inr (.inl h)))); have JV:=Lh (JV.out.turn ht (fun hi => hi.elim (by omega) (by omega))); clear hr ht; dsimp only)
    | (go_at_call 163; (with_reducible refine (HE3.out _ J.out).mono ?_); rintro e w2 ⟨lv,⟨rfl,hr,ht⟩,hx⟩; have hone:=hx.one; have JX:=Lh (hx.weak (S':=fun b => w.heap.size ≤ b) (fun b hb _ => Nat.le_trans JT.out.size hb)); have hsz:=ht.size; have J:=Lh hr; have JT:=Lh (JT.out.then_ ht (fun i _ hi => hi.elim .inl (fun h => .inr (.inl h)))); have JV:=Lh (JV.out.turn ht (fun hi => hi.elim (by omega) (by omega))); clear hr ht hx; dsimp only)
    | (refine wpList_stV rfl 77 _ _ rfl (G:=K) (off:=9) rfl (us:=exC y3.1 lv) JV.out rfl info_ex (by show 9 + 6 ≤ 17; omega) (exC_one _ hone) ?_; intro w3 ht hs; have J:=Lh (J.out.own ht hGK); have JT:=Lh (JT.out.then_ ht (fun i _ hi => .inr (.inr hi))); have JV:=Lh (show Var w3 K (stC (.mk 1 a y1.1.nm 0 An.nul y3.1 [] []) ⟨lv,.slice none 0 0,.slice none 0 0⟩) from hs); have JX:=Lh (JX.out.turn (S':=fun b => w.heap.size ≤ b) ht (fun b hb _ => ⟨hb,by omega⟩)); clear ht hs)
    | (go_at_call 147; (with_reducible refine (HM4.out _ J.out).mono ?_); rintro e w2 ⟨rfl,hr,ht⟩; have hsz:=ht.size; have J:=Lh hr; have JT:=Lh (JT.out.then_ ht (fun i _ hi => hi.elim .inl (fun h => .inr (.inl h)))); have JV:=Lh (JV.out.turn ht (fun hi => hi.elim (by omega) (by omega))); have JX:=Lh (JX.out.turn (S':=fun b => w.heap.size ≤ b) ht (fun b hb _ => ⟨hb,fun hi => hi.elim (by omega) (by omega)⟩)); clear hr ht; dsimp only)
    | fail)
   refine bodyPost_ret (results_none rfl _ _ _) rfl ⟨lv,rfl,J.out,JV.out,JX.out,JT.out⟩
  ·have hk2' : (y1.1.k == 2) = false:=by simp [hk2]
   have hk2'' : decide (y1.1.k = 2) = false:=by simp [hk2]
   by_cases hk3 : y1.1.k = 3
   ·have hk3' : (y1.1.k == 3) = true:=by simp [hk3]
    have hk3'' : decide (y1.1.k = 3) = true:=by simp [hk3]
    obtain ⟨x2,hx2⟩ : ∃ y,mu C.R y1.2 [wSem] = y:=⟨_,rfl⟩
    have HL : plS C.R F a x = (.mk 5 a ⟨#[]⟩ 0 An.nul y1.1 [] [],x2):=by simp only [plS,hy1,if_pos hr,if_neg hk2,if_pos hk3,hx2]
    rw [HL]
    have HM2 : Hid (∀ W,Rdr C G D rv ov W y1.2 → CP 147 #[.pointer (some ⟨G,0,none⟩),.slice (some ⟨W.heap.size,0,none⟩) 1 1] (W.alloc (.cells #[.string ⟨#[59]⟩] 9)) (GoTo C G D rv ov none0 x2 W)):=Lh fun W hW => by
     have:=must1_any C hC G D rv ov y1.2 W hW ⟨#[59]⟩ (by decide)
     rwa [hx2] at this
    clear HL hx2 hy1 hr hk2 hk3
    go_enter Tryz.func151,Tryz.ntmps151
    go_wp2_with (first
     | (go_at_call 163; (with_reducible refine (HE1.out _ J.out).mono ?_); rintro e w2 ⟨lv,⟨rfl,hr,ht⟩,hx⟩; have hone:=hx.one; have JX:=Lh (hx.weak (S':=fun b => w.heap.size ≤ b ∧ b < w2.heap.size) (fun b hb h2 => ⟨Nat.le_trans JT.out.size hb,h2⟩)); have hsz:=ht.size; have J:=Lh hr; have JT:=Lh (JT.out.then_ ht (fun i _ hi => hi.elim .inl (fun h => .inr (.inl h)))); have JV:=Lh (JV.out.turn ht (fun hi => hi.elim (by omega) (by omega))); clear hr ht hx; dsimp only)
     | (refine wpList_stV rfl 77 (.tmp 4) _ rfl (G:=w2.heap.size) (off:=0) rfl (us:=exC y1.1 lv) (Var.new w2 (exC Ex.nul (.slice none 0 0)) 77 rfl) rfl info_ex (Nat.le_refl 6) (exC_one _ hone) ?_; intro w3 ht hs; have ta:=Tn.alloc (fun k => k = w2.heap.size) w2 (.cells z6 77); have J:=Lh ((J.out.new (.cells z6 77)).own ht (by omega)); have JT:=Lh ((JT.out.trans (Tn.alloc _ w2 (.cells z6 77))).own ht (by omega)); have JV:=Lh ((JV.out.turn ta (by omega)).turn ht (by omega)); have JX:=Lh ((JX.out.turn (S':=fun b => w.heap.size ≤ b ∧ b < w2.heap.size) ta (fun b hb _ => ⟨hb,by omega⟩)).turn (S':=fun b => w.heap.size ≤ b ∧ b < w2.heap.size) ht (fun b hb _ => ⟨hb,by omega⟩)); have JE:=Lh (show Var w3 w2.heap.size (exC y1.1 lv) from hs); have hs3:=ht.size; clear ht hs ta; have k4:=J.out.c4; have f4:=J.out.f4; have e0:=JE.out.at 0 (v:=.int .i64 y1.1.k) rfl)
     | fail)
    have e1:=JE.out.at 1 (v:=.int .i64 y1.1.a) rfl
    have e2:=JE.out.at 2 (v:=.int .i64 y1.1.m) rfl
    have e3:=JE.out.at 3 (v:=.string y1.1.nm) rfl
    have e4:=JE.out.at 4 (v:=.string y1.1.lb) rfl
    have e5:=JE.out.at 5 (v:=lv) rfl
    have s0:=JV.out.at 0 (v:=.int .i64 0) rfl
    have s9:=JV.out.at 9 (v:=.int .i64 0) rfl
    have s10:=JV.out.at 10 (v:=.int .i64 0) rfl
    have s11:=JV.out.at 11 (v:=.int .i64 0) rfl
    have s12:=JV.out.at 12 (v:=.string ⟨#[]⟩) rfl
    have s13:=JV.out.at 13 (v:=.string ⟨#[]⟩) rfl
    have s14:=JV.out.at 14 (v:=.slice none 0 0) rfl
    have f0:=JV.out.fz 0 (by show 0 < 17; omega)
    have f9:=JV.out.fz 9 (by show 9 < 17; omega)
    have f10:=JV.out.fz 10 (by show 10 < 17; omega)
    have f11:=JV.out.fz 11 (by show 11 < 17; omega)
    have f12:=JV.out.fz 12 (by show 12 < 17; omega)
    have f13:=JV.out.fz 13 (by show 13 < 17; omega)
    have f14:=JV.out.fz 14 (by show 14 < 17; omega)
    have hne : ¬ w2.heap.size = K:=by omega
    obtain ⟨A9,c9,rfl,_⟩:=JX.out.len
    go_region
    have JX:=Lh (((JX.out.turn (S':=fun b => w.heap.size ≤ b) (Tn.set (M:=fun k => k = K) w3 K 0 (.int .i64 5) rfl) (fun b hb _ => ⟨hb.1,by omega⟩)).turn (S':=fun b => w.heap.size ≤ b) (Tn.sets (M:=fun k => k = K) K (exC y1.1 (.slice A9 y1.1.l.length c9)) rfl 9 _) (fun b hb _ => ⟨hb,by omega⟩)).turn (S':=fun b => w.heap.size ≤ b) (Tn.drew (fun k => k = K) _) (fun b hb _ => ⟨hb,by omega⟩))
    have J:=Lh (((J.out.own (Tn.set (M:=fun k => k = K) w3 K 0 (.int .i64 5) rfl) hGK).own (Tn.sets (M:=fun k => k = K) K (exC y1.1 (.slice A9 y1.1.l.length c9)) rfl 9 _) hGK).under (below_drew _ _))
    have JT:=Lh ((((JT.out.trans (Tn.set w3 K 0 (.int .i64 5) (.inr (.inr rfl)))).trans (Tn.sets K (exC y1.1 (.slice A9 y1.1.l.length c9)) (.inr (.inr rfl)) 9 _))).trans (Tn.drew _ _))
    have JV:=Lh (show Var _ K (stC (.mk 5 a ⟨#[]⟩ 0 An.nul y1.1 [] []) ⟨.slice A9 y1.1.l.length c9,.slice none 0 0,.slice none 0 0⟩) from (((JV.out.set 0 (.int .i64 5) (by show 0 < 17; omega)).sets 9 (exC y1.1 (.slice A9 y1.1.l.length c9)) (by show 9 + 6 ≤ 17; omega)).under (below_drew _ _)))
    obtain ⟨w4,hw4⟩ : ∃ w4,((w3.setCell ⟨K,0,none⟩ (.int .i64 5)).setCells K 9 (exC y1.1 (.slice A9 y1.1.l.length c9))).drew = w4:=⟨_,rfl⟩
    rw [hw4] at J JT JV JX
    have hw5 : (((((((w3.setCell ⟨K,0,none⟩ (.int .i64 5)).setCell ⟨K,9,none⟩ (.int .i64 y1.1.k)).setCell ⟨K,10,none⟩ (.int .i64 y1.1.a)).setCell ⟨K,11,none⟩ (.int .i64 y1.1.m)).setCell ⟨K,12,none⟩ (.string y1.1.nm)).setCell ⟨K,13,none⟩ (.string y1.1.lb)).setCell ⟨K,14,none⟩ (.slice A9 y1.1.l.length c9)).drew = w4:=hw4
    rw [hw5]
    clear hw4 hw5 e0 e1 e2 e3 e4 e5 s0 s9 s10 s11 s12 s13 s14 f0 f9 f10 f11 f12 f13 f14 k4 f4 JE hs3 hsz
    go_wp2_with (first
     | (go_at_call 147; (with_reducible refine (HM2.out _ J.out).mono ?_); rintro e w2 ⟨rfl,hr,ht⟩; have hsz:=ht.size; have J:=Lh hr; have JT:=Lh (JT.out.then_ ht (fun i _ hi => hi.elim .inl (fun h => .inr (.inl h)))); have JV:=Lh (JV.out.turn ht (fun hi => hi.elim (by omega) (by omega))); have JX:=Lh (JX.out.turn (S':=fun b => w.heap.size ≤ b) ht (fun b hb _ => ⟨hb,fun hi => hi.elim (by omega) (by omega)⟩)); clear hr ht; dsimp only)
     | fail)
    refine bodyPost_ret (results_none rfl _ _ _) rfl ⟨.slice A9 y1.1.l.length c9,rfl,J.out,JV.out,JX.out,JT.out⟩
   ·have hk3' : (y1.1.k == 3) = false:=by simp [hk3]
    have hk3'' : decide (y1.1.k = 3) = false:=by simp [hk3]
    have HL : plS C.R F a x = (.mk 0 a ⟨#[]⟩ 0 An.nul Ex.nul [] [],(y1.2.1,11)):=by simp only [plS,hy1,if_pos hr,if_neg hk2,if_neg hk3]
    rw [HL]
    clear HL hy1 hr hk2 hk3
    go_enter Tryz.func151,Tryz.ntmps151
    go_wp2_with (first
     | (go_at_call 163; (with_reducible refine (HE1.out _ J.out).mono ?_); rintro e w2 ⟨lv,⟨rfl,hr,ht⟩,hx⟩; have hone:=hx.one; have JX:=Lh (hx.weak (S':=fun b => w.heap.size ≤ b ∧ b < w2.heap.size) (fun b hb h2 => ⟨Nat.le_trans JT.out.size hb,h2⟩)); have hsz:=ht.size; have J:=Lh hr; have JT:=Lh (JT.out.then_ ht (fun i _ hi => hi.elim .inl (fun h => .inr (.inl h)))); have JV:=Lh (JV.out.turn ht (fun hi => hi.elim (by omega) (by omega))); clear hr ht hx; dsimp only)
     | (refine wpList_stV rfl 77 (.tmp 4) _ rfl (G:=w2.heap.size) (off:=0) rfl (us:=exC y1.1 lv) (Var.new w2 (exC Ex.nul (.slice none 0 0)) 77 rfl) rfl info_ex (Nat.le_refl 6) (exC_one _ hone) ?_; intro w3 ht hs; have ta:=Tn.alloc (fun k => k = w2.heap.size) w2 (.cells z6 77); have J:=Lh ((J.out.new (.cells z6 77)).own ht (by omega)); have JT:=Lh ((JT.out.trans (Tn.alloc _ w2 (.cells z6 77))).own ht (by omega)); have JV:=Lh ((JV.out.turn ta (by omega)).turn ht (by omega)); have JX:=Lh ((JX.out.turn (S':=fun b => w.heap.size ≤ b ∧ b < w2.heap.size) ta (fun b hb _ => ⟨hb,by omega⟩)).turn (S':=fun b => w.heap.size ≤ b ∧ b < w2.heap.size) ht (fun b hb _ => ⟨hb,by omega⟩)); have JE:=Lh (show Var w3 w2.heap.size (exC y1.1 lv) from hs); have hs3:=ht.size; clear ht hs ta; have k4:=J.out.c4; have f4:=J.out.f4; have e0:=JE.out.at 0 (v:=.int .i64 y1.1.k) rfl)
     | fail)
    refine bodyPost_ret (results_none rfl _ _ _) rfl ⟨.slice none 0 0,rfl,J.out.err 11,JV.out.turn (Tn.set (M:=fun k => k = G) w3 G 4 _ rfl) (by omega),.nil,JT.out.trans (Tn.set _ G 4 _ (.inr (.inl rfl)))⟩
 ·have hr1 : (y1.2.2 == 0) = false:=by simp [hr]
  have hr2 : decide (y1.2.2 = 0) = false:=by simp [hr]
  have hr3 : (y1.2.2 != 0) = true:=by simp [hr]
  have HL : plS C.R F a x = (.mk 0 a ⟨#[]⟩ 0 An.nul Ex.nul [] [],y1.2):=by simp only [plS,hy1,if_neg hr]
  rw [HL]
  clear HL hy1 hr
  go_enter Tryz.func151,Tryz.ntmps151
  go_wp2_with (first
   | (go_at_call 163; (with_reducible refine (HE1.out _ J.out).mono ?_); rintro e w2 ⟨lv,⟨rfl,hr,ht⟩,hx⟩; have hone:=hx.one; have JX:=Lh (hx.weak (S':=fun b => w.heap.size ≤ b ∧ b < w2.heap.size) (fun b hb h2 => ⟨Nat.le_trans JT.out.size hb,h2⟩)); have hsz:=ht.size; have J:=Lh hr; have JT:=Lh (JT.out.then_ ht (fun i _ hi => hi.elim .inl (fun h => .inr (.inl h)))); have JV:=Lh (JV.out.turn ht (fun hi => hi.elim (by omega) (by omega))); clear hr ht hx; dsimp only)
   | (refine wpList_stV rfl 77 (.tmp 4) _ rfl (G:=w2.heap.size) (off:=0) rfl (us:=exC y1.1 lv) (Var.new w2 (exC Ex.nul (.slice none 0 0)) 77 rfl) rfl info_ex (Nat.le_refl 6) (exC_one _ hone) ?_; intro w3 ht hs; have ta:=Tn.alloc (fun k => k = w2.heap.size) w2 (.cells z6 77); have J:=Lh ((J.out.new (.cells z6 77)).own ht (by omega)); have JT:=Lh ((JT.out.trans (Tn.alloc _ w2 (.cells z6 77))).own ht (by omega)); have JV:=Lh ((JV.out.turn ta (by omega)).turn ht (by omega)); have JX:=Lh ((JX.out.turn (S':=fun b => w.heap.size ≤ b ∧ b < w2.heap.size) ta (fun b hb _ => ⟨hb,by omega⟩)).turn (S':=fun b => w.heap.size ≤ b ∧ b < w2.heap.size) ht (fun b hb _ => ⟨hb,by omega⟩)); have JE:=Lh (show Var w3 w2.heap.size (exC y1.1 lv) from hs); have hs3:=ht.size; clear ht hs ta; have k4:=J.out.c4; have f4:=J.out.f4; have e0:=JE.out.at 0 (v:=.int .i64 y1.1.k) rfl)
   | fail)
  refine bodyPost_ret (results_none rfl _ _ _) rfl ⟨.slice none 0 0,rfl,J.out,JV.out,.nil,JT.out⟩
theorem row_sizeS (w : World) (v : Array Value) (t : TypeId) : (w.alloc (.cells v t)).heap.size = w.heap.size + 1:=by simp
theorem st_one1 (x : St) {lv : Value} (h : lv.oneCell' = true) : ∀ u ∈ stC x ⟨lv,.slice none 0 0,.slice none 0 0⟩,u.oneCell' = true:=by
 intro u hu
 simp [stC] at hu
 rcases hu with rfl | rfl | rfl | rfl | rfl | rfl | rfl | rfl | rfl | rfl | rfl | rfl | rfl | rfl | rfl | rfl
 all_goals first | rfl | exact h
theorem st_one0 (x : St) : ∀ u ∈ stC x ⟨.slice none 0 0,.slice none 0 0,.slice none 0 0⟩,u.oneCell' = true:=st_one1 x rfl
def HeadTo (C : Cx) (G : Nat) (D : Int) (rv ov : Value) (y : St × (Nat × Int)) (w : World) (e : Ending) (w' : World) : Prop:=
 ∃ lv,e = .returned (.agg (stC y.1 ⟨lv,.slice none 0 0,.slice none 0 0⟩).toArray) ∧ Rdr C G D rv ov w' y.2 ∧ Shx w' (fun b => w.heap.size ≤ b) lv y.1.e.l ∧ Tn (Rdr.M C G) w w'
set_option maxRecDepth 100000 in
theorem head_any (C : Cx) (hC : TokOk C.T C.L) (hDg : DigOk C) (F : Nat) (hF : 16 * C.L.length + 9 ≤ F) (G : Nat) (D : Int) (rv ov : Value) (p : Nat) (w : World) (h : Rdr C G D rv ov w (p,0)) :
  CP 136 #[.pointer (some ⟨G,0,none⟩)] w (HeadTo C G D rv ov (hdS C.R F p) w):=by
 have hz:=zeroSt
 have hlt:=h.v.lt
 have hgt:=h.gt
 have hs1 : Hid ((w.alloc (.cells z17 118)).heap.size = w.heap.size + 1):=Lh (by simp)
 have J : Hid (Rdr C G D rv ov (w.alloc (.cells z17 118)) (p,0)):=Lh (h.new _)
 have JT : Hid (Tn (Rdr.M C G) w (w.alloc (.cells z17 118))):=Lh (Tn.alloc _ _ _)
 have JR : Hid (Var (w.alloc (.cells z17 118)) w.heap.size (stC St.nul Tv.nul)):=Lh (Var.new w (stC St.nul Tv.nul) 118 rfl)
 have c0:=J.out.c0
 have HPO : Hid (∀ W,Rdr C G D rv ov W (p,0) → CP 32 #[C.ptr] W fun e w' => e = .returned (.int .i64 (C.R.ps p)) ∧ Below W.heap.size W w'):=Lh fun W hW => pos_any C hC p W hW.cur
 have HPK : Hid (∀ W,Rdr C G D rv ov W (p,0) → CP 56 #[C.ptr] W fun e w' => e = .returned (.string (C.R.wd p)) ∧ Below W.heap.size W w'):=Lh fun W hW => peek_any C hC p W hW.cur
 obtain ⟨a,ha⟩ : ∃ a,C.R.ps p = a:=⟨_,rfl⟩
 obtain ⟨s,hs⟩ : ∃ s,C.R.wd p = s:=⟨_,rfl⟩
 rw [ha] at HPO
 rw [hs] at HPK
 clear h
 cases h1 : (s.toList == [108,101,116]) with
 | true =>
  obtain ⟨y,hy⟩ : ∃ y,letS C.R F a (p,0) = y:=⟨_,rfl⟩
  have HLE : Hid (∀ K W,G < K → Rdr C G D rv ov W (p,0) → Var W K (stC (.mk 0 a ⟨#[]⟩ 0 An.nul Ex.nul [] []) ⟨.slice none 0 0,.slice none 0 0,.slice none 0 0⟩) → CP 148 #[.pointer (some ⟨G,0,none⟩),.pointer (some ⟨K,0,none⟩)] W (HdTo C G K D rv ov y W)):=Lh fun K W hK hW hV => by rw [← hy]; exact let_any C hC hDg F hF G K hK D rv ov (p,0) W hW a hV
  have HL : hdS C.R F p = y:=by
   unfold hdS
   rw [if_pos (show C.R.is p lLet = true by unfold Rw.is; rw [hs]; exact h1),ha,hy]
  rw [HL]
  clear hy HL ha hs
  go_enter Tryz.func136,Tryz.ntmps136
  go_wp2_with (first
   | (go_at_call 32; (with_reducible refine (HPO.out _ J.out).mono ?_); rintro e w2 ⟨rfl,b⟩; have hsz:=b.size; rw [hs1.out] at hsz; have J:=Lh (J.out.under b); have JT:=Lh (JT.out.trans (Tn.of_below _ b)); have JR:=Lh (JR.out.under b); clear b; dsimp only)
   | (refine wpList_stV rfl 118 (.tmp 3) (.tmp 9) rfl (G:=w2.heap.size) (off:=0) rfl (us:=stC (.mk 0 a ⟨#[]⟩ 0 An.nul Ex.nul [] []) ⟨.slice none 0 0,.slice none 0 0,.slice none 0 0⟩) (Var.new w2 (stC St.nul Tv.nul) 118 rfl) rfl info_st (Nat.le_refl 17) (st_one0 _) ?_; intro w3 ht hs; have ta:=Tn.alloc (fun k => k = w2.heap.size) w2 (.cells z17 118); have J:=Lh ((J.out.new (.cells z17 118)).own ht (by omega)); have JT:=Lh ((JT.out.trans (Tn.alloc _ w2 (.cells z17 118))).own ht (by omega)); have JR:=Lh ((JR.out.turn ta (by omega)).turn ht (by omega)); have JV:=Lh (show Var w3 w2.heap.size (stC (.mk 0 a ⟨#[]⟩ 0 An.nul Ex.nul [] []) ⟨.slice none 0 0,.slice none 0 0,.slice none 0 0⟩) from hs); have hs3:=ht.size; rw [row_sizeS] at hs3; clear ht hs ta; have d0:=J.out.c0)
   | (go_at_call 56; (with_reducible refine (HPK.out _ J.out).mono ?_); rintro e w4 ⟨rfl,b⟩; have J:=Lh (J.out.under b); have JT:=Lh (JT.out.trans (Tn.of_below _ b)); have JR:=Lh (JR.out.under b); have JV:=Lh (JV.out.under b); have hs4:=b.size; clear b; dsimp only; refine Hid.out ?_)
   | fail)
  obtain ⟨K,hK⟩ : ∃ K,w2.heap.size = K:=⟨_,rfl⟩
  rw [hK] at JV ⊢
  have hGK : G < K:=by omega
  have hK4 : K < w4.heap.size:=by omega
  have hKw : w.heap.size < K:=by omega
  clear hK
  refine Lh ?_
  go_wp2_with (first
   | (go_at_call 148; (with_reducible refine (HLE.out _ _ hGK J.out JV.out).mono ?_); rintro e w6 ⟨lv,rfl,hj,hv,hx,ht⟩; have hone:=hx.one; have JX:=Lh (hx.weak (S':=fun b => w.heap.size < b ∧ b < w6.heap.size) (fun b hb h2 => ⟨by have hb : _ ≤ b:=hb; omega,h2⟩)); have JT:=Lh (JT.out.then_ ht (fun i hi h => by rcases h with h | h | h; exact .inl h; exact .inr h; omega)); have JR:=Lh (JR.out.turn ht (by intro h; rcases h with h | h | h; omega; omega; omega)); have J:=Lh hj; have JV:=Lh hv; have hs6:=ht.size; clear hj hv hx ht; dsimp only)
   | (refine wpList_ldV rfl 118 (.tmp 3) rfl K 0 rfl (stC y.1 ⟨lv,.slice none 0 0,.slice none 0 0⟩) JV.out.rg Tryz.underlying118 rfl info_st ?_)
   | (refine wpList_stV rfl 118 (.tmp 2) (.tmp 43) rfl (G:=w.heap.size) (off:=0) rfl (us:=stC y.1 ⟨lv,.slice none 0 0,.slice none 0 0⟩) JR.out rfl info_st (Nat.le_refl 17) (st_one1 _ hone) ?_; intro w7 ht hs; have J:=Lh (J.out.own ht (by omega)); have JT:=Lh (JT.out.own ht nLe); have JX:=Lh (JX.out.turn (S':=fun b => w.heap.size ≤ b) ht (fun b hb _ => ⟨Nat.le_of_lt hb.1,by omega⟩)); have JR:=Lh (show Var w7 w.heap.size (stC y.1 ⟨lv,.slice none 0 0,.slice none 0 0⟩) from hs); clear ht hs)
   | fail)
  exact v_ret 118 rfl rfl rfl JR.out Tryz.underlying118 rfl info_st ⟨lv,rfl,J.out,JX.out,JT.out⟩
 | false =>
 cases h2 : (s.toList == [105,102]) with
 | true =>
  obtain ⟨y,hy⟩ : ∃ y,askS C.R F 2 a ⟨#[105,102]⟩ (p,0) = y:=⟨_,rfl⟩
  have HAS : Hid (∀ K W,G < K → Rdr C G D rv ov W (p,0) → Var W K (stC (.mk 2 a ⟨#[]⟩ 0 An.nul Ex.nul [] []) ⟨.slice none 0 0,.slice none 0 0,.slice none 0 0⟩) → CP 149 #[.pointer (some ⟨G,0,none⟩),.pointer (some ⟨K,0,none⟩),.string ⟨#[105,102]⟩] W (HdTo C G K D rv ov y W)):=Lh fun K W hK hW hV => by rw [← hy]; exact asked_any C hC hDg F hF G K hK D rv ov (p,0) W hW 2 a ⟨#[105,102]⟩ (by decide) hV
  have HL : hdS C.R F p = y:=by
   unfold hdS
   rw [if_neg (show ¬ C.R.is p lLet = true by unfold Rw.is; rw [hs,h1]; decide),if_pos (show C.R.is p lIf = true by unfold Rw.is; rw [hs]; exact h2),ha]
   exact hy
  rw [HL]
  clear hy HL ha hs
  go_enter Tryz.func136,Tryz.ntmps136
  go_wp2_with (first
   | (go_at_call 32; (with_reducible refine (HPO.out _ J.out).mono ?_); rintro e w2 ⟨rfl,b⟩; have hsz:=b.size; rw [hs1.out] at hsz; have J:=Lh (J.out.under b); have JT:=Lh (JT.out.trans (Tn.of_below _ b)); have JR:=Lh (JR.out.under b); clear b; dsimp only)
   | (refine wpList_stV rfl 118 (.tmp 3) (.tmp 9) rfl (G:=w2.heap.size) (off:=0) rfl (us:=stC (.mk 0 a ⟨#[]⟩ 0 An.nul Ex.nul [] []) ⟨.slice none 0 0,.slice none 0 0,.slice none 0 0⟩) (Var.new w2 (stC St.nul Tv.nul) 118 rfl) rfl info_st (Nat.le_refl 17) (st_one0 _) ?_; intro w3 ht hs; have ta:=Tn.alloc (fun k => k = w2.heap.size) w2 (.cells z17 118); have J:=Lh ((J.out.new (.cells z17 118)).own ht (by omega)); have JT:=Lh ((JT.out.trans (Tn.alloc _ w2 (.cells z17 118))).own ht (by omega)); have JR:=Lh ((JR.out.turn ta (by omega)).turn ht (by omega)); have JV:=Lh (show Var w3 w2.heap.size (stC (.mk 0 a ⟨#[]⟩ 0 An.nul Ex.nul [] []) ⟨.slice none 0 0,.slice none 0 0,.slice none 0 0⟩) from hs); have hs3:=ht.size; rw [row_sizeS] at hs3; clear ht hs ta; have d0:=J.out.c0)
   | (go_at_call 56; (with_reducible refine (HPK.out _ J.out).mono ?_); rintro e w4 ⟨rfl,b⟩; have J:=Lh (J.out.under b); have JT:=Lh (JT.out.trans (Tn.of_below _ b)); have JR:=Lh (JR.out.under b); have JV:=Lh (JV.out.under b); have hs4:=b.size; clear b; dsimp only; refine Hid.out ?_)
   | fail)
  obtain ⟨K,hK⟩ : ∃ K,w2.heap.size = K:=⟨_,rfl⟩
  rw [hK] at JV ⊢
  have hGK : G < K:=by omega
  have hK4 : K < w4.heap.size:=by omega
  have hKw : w.heap.size < K:=by omega
  clear hK
  refine Lh ?_
  go_wp2_with (first
   | (refine wpList_st1 rfl _ _ _ rfl (G:=K) (off:=0) rfl (v:=.int .i64 2) JV.out rfl (by kernel_rfl) (by show 0 < 17; omega) rfl ?_; intro w5 ht hs; have J:=Lh (J.out.own ht hGK); have JT:=Lh (JT.out.own ht (by omega)); have JR:=Lh (JR.out.turn ht (by omega)); have hs5:=ht.size; have JV:=Lh (show Var w5 K (stC (.mk 2 a ⟨#[]⟩ 0 An.nul Ex.nul [] []) ⟨.slice none 0 0,.slice none 0 0,.slice none 0 0⟩) from hs); clear ht hs)
   | (go_at_call 149; (with_reducible refine (HAS.out _ _ hGK J.out JV.out).mono ?_); rintro e w6 ⟨lv,rfl,hj,hv,hx,ht⟩; have hone:=hx.one; have JX:=Lh (hx.weak (S':=fun b => w.heap.size < b ∧ b < w6.heap.size) (fun b hb h2 => ⟨by have hb : _ ≤ b:=hb; omega,h2⟩)); have JT:=Lh (JT.out.then_ ht (fun i hi h => by rcases h with h | h | h; exact .inl h; exact .inr h; omega)); have JR:=Lh (JR.out.turn ht (by intro h; rcases h with h | h | h; omega; omega; omega)); have J:=Lh hj; have JV:=Lh hv; have hs6:=ht.size; clear hj hv hx ht; dsimp only)
   | (refine wpList_ldV rfl 118 (.tmp 3) rfl K 0 rfl (stC y.1 ⟨lv,.slice none 0 0,.slice none 0 0⟩) JV.out.rg Tryz.underlying118 rfl info_st ?_)
   | (refine wpList_stV rfl 118 (.tmp 2) (.tmp 43) rfl (G:=w.heap.size) (off:=0) rfl (us:=stC y.1 ⟨lv,.slice none 0 0,.slice none 0 0⟩) JR.out rfl info_st (Nat.le_refl 17) (st_one1 _ hone) ?_; intro w7 ht hs; have J:=Lh (J.out.own ht (by omega)); have JT:=Lh (JT.out.own ht nLe); have JX:=Lh (JX.out.turn (S':=fun b => w.heap.size ≤ b) ht (fun b hb _ => ⟨Nat.le_of_lt hb.1,by omega⟩)); have JR:=Lh (show Var w7 w.heap.size (stC y.1 ⟨lv,.slice none 0 0,.slice none 0 0⟩) from hs); clear ht hs)
   | fail)
  exact v_ret 118 rfl rfl rfl JR.out Tryz.underlying118 rfl info_st ⟨lv,rfl,J.out,JX.out,JT.out⟩
 | false =>
 cases h3 : (s.toList == [119,104,105,108,101]) with
 | true =>
  obtain ⟨y,hy⟩ : ∃ y,askS C.R F 3 a ⟨#[119,104,105,108,101]⟩ (p,0) = y:=⟨_,rfl⟩
  have HAS : Hid (∀ K W,G < K → Rdr C G D rv ov W (p,0) → Var W K (stC (.mk 3 a ⟨#[]⟩ 0 An.nul Ex.nul [] []) ⟨.slice none 0 0,.slice none 0 0,.slice none 0 0⟩) → CP 149 #[.pointer (some ⟨G,0,none⟩),.pointer (some ⟨K,0,none⟩),.string ⟨#[119,104,105,108,101]⟩] W (HdTo C G K D rv ov y W)):=Lh fun K W hK hW hV => by rw [← hy]; exact asked_any C hC hDg F hF G K hK D rv ov (p,0) W hW 3 a ⟨#[119,104,105,108,101]⟩ (by decide) hV
  have HL : hdS C.R F p = y:=by
   unfold hdS
   rw [if_neg (show ¬ C.R.is p lLet = true by unfold Rw.is; rw [hs,h1]; decide),if_neg (show ¬ C.R.is p lIf = true by unfold Rw.is; rw [hs,h2]; decide),if_pos (show C.R.is p lWhile = true by unfold Rw.is; rw [hs]; exact h3),ha]
   exact hy
  rw [HL]
  clear hy HL ha hs
  go_enter Tryz.func136,Tryz.ntmps136
  go_wp2_with (first
   | (go_at_call 32; (with_reducible refine (HPO.out _ J.out).mono ?_); rintro e w2 ⟨rfl,b⟩; have hsz:=b.size; rw [hs1.out] at hsz; have J:=Lh (J.out.under b); have JT:=Lh (JT.out.trans (Tn.of_below _ b)); have JR:=Lh (JR.out.under b); clear b; dsimp only)
   | (refine wpList_stV rfl 118 (.tmp 3) (.tmp 9) rfl (G:=w2.heap.size) (off:=0) rfl (us:=stC (.mk 0 a ⟨#[]⟩ 0 An.nul Ex.nul [] []) ⟨.slice none 0 0,.slice none 0 0,.slice none 0 0⟩) (Var.new w2 (stC St.nul Tv.nul) 118 rfl) rfl info_st (Nat.le_refl 17) (st_one0 _) ?_; intro w3 ht hs; have ta:=Tn.alloc (fun k => k = w2.heap.size) w2 (.cells z17 118); have J:=Lh ((J.out.new (.cells z17 118)).own ht (by omega)); have JT:=Lh ((JT.out.trans (Tn.alloc _ w2 (.cells z17 118))).own ht (by omega)); have JR:=Lh ((JR.out.turn ta (by omega)).turn ht (by omega)); have JV:=Lh (show Var w3 w2.heap.size (stC (.mk 0 a ⟨#[]⟩ 0 An.nul Ex.nul [] []) ⟨.slice none 0 0,.slice none 0 0,.slice none 0 0⟩) from hs); have hs3:=ht.size; rw [row_sizeS] at hs3; clear ht hs ta; have d0:=J.out.c0)
   | (go_at_call 56; (with_reducible refine (HPK.out _ J.out).mono ?_); rintro e w4 ⟨rfl,b⟩; have J:=Lh (J.out.under b); have JT:=Lh (JT.out.trans (Tn.of_below _ b)); have JR:=Lh (JR.out.under b); have JV:=Lh (JV.out.under b); have hs4:=b.size; clear b; dsimp only; refine Hid.out ?_)
   | fail)
  obtain ⟨K,hK⟩ : ∃ K,w2.heap.size = K:=⟨_,rfl⟩
  rw [hK] at JV ⊢
  have hGK : G < K:=by omega
  have hK4 : K < w4.heap.size:=by omega
  have hKw : w.heap.size < K:=by omega
  clear hK
  refine Lh ?_
  go_wp2_with (first
   | (refine wpList_st1 rfl _ _ _ rfl (G:=K) (off:=0) rfl (v:=.int .i64 3) JV.out rfl (by kernel_rfl) (by show 0 < 17; omega) rfl ?_; intro w5 ht hs; have J:=Lh (J.out.own ht hGK); have JT:=Lh (JT.out.own ht (by omega)); have JR:=Lh (JR.out.turn ht (by omega)); have hs5:=ht.size; have JV:=Lh (show Var w5 K (stC (.mk 3 a ⟨#[]⟩ 0 An.nul Ex.nul [] []) ⟨.slice none 0 0,.slice none 0 0,.slice none 0 0⟩) from hs); clear ht hs)
   | (go_at_call 149; (with_reducible refine (HAS.out _ _ hGK J.out JV.out).mono ?_); rintro e w6 ⟨lv,rfl,hj,hv,hx,ht⟩; have hone:=hx.one; have JX:=Lh (hx.weak (S':=fun b => w.heap.size < b ∧ b < w6.heap.size) (fun b hb h2 => ⟨by have hb : _ ≤ b:=hb; omega,h2⟩)); have JT:=Lh (JT.out.then_ ht (fun i hi h => by rcases h with h | h | h; exact .inl h; exact .inr h; omega)); have JR:=Lh (JR.out.turn ht (by intro h; rcases h with h | h | h; omega; omega; omega)); have J:=Lh hj; have JV:=Lh hv; have hs6:=ht.size; clear hj hv hx ht; dsimp only)
   | (refine wpList_ldV rfl 118 (.tmp 3) rfl K 0 rfl (stC y.1 ⟨lv,.slice none 0 0,.slice none 0 0⟩) JV.out.rg Tryz.underlying118 rfl info_st ?_)
   | (refine wpList_stV rfl 118 (.tmp 2) (.tmp 43) rfl (G:=w.heap.size) (off:=0) rfl (us:=stC y.1 ⟨lv,.slice none 0 0,.slice none 0 0⟩) JR.out rfl info_st (Nat.le_refl 17) (st_one1 _ hone) ?_; intro w7 ht hs; have J:=Lh (J.out.own ht (by omega)); have JT:=Lh (JT.out.own ht nLe); have JX:=Lh (JX.out.turn (S':=fun b => w.heap.size ≤ b) ht (fun b hb _ => ⟨Nat.le_of_lt hb.1,by omega⟩)); have JR:=Lh (show Var w7 w.heap.size (stC y.1 ⟨lv,.slice none 0 0,.slice none 0 0⟩) from hs); clear ht hs)
   | fail)
  exact v_ret 118 rfl rfl rfl JR.out Tryz.underlying118 rfl info_st ⟨lv,rfl,J.out,JX.out,JT.out⟩
 | false =>
 cases h4 : (s.toList == [100,111]) with
 | true =>
  obtain ⟨x1,hx1⟩ : ∃ y,mu C.R (p,0) [wDo] = y:=⟨_,rfl⟩
  obtain ⟨y2,hy2⟩ : ∃ y,pnm C.R x1 = y:=⟨_,rfl⟩
  obtain ⟨x3,hx3⟩ : ∃ y,mu C.R y2.2 [wSem] = y:=⟨_,rfl⟩
  have HL : hdS C.R F p = (.mk 4 a y2.1 0 An.nul Ex.nul [] [],x3):=by
   unfold hdS
   rw [if_neg (show ¬ C.R.is p lLet = true by unfold Rw.is; rw [hs,h1]; decide),if_neg (show ¬ C.R.is p lIf = true by unfold Rw.is; rw [hs,h2]; decide),if_neg (show ¬ C.R.is p lWhile = true by unfold Rw.is; rw [hs,h3]; decide),if_pos (show C.R.is p lDo = true by unfold Rw.is; rw [hs]; exact h4),ha]
   simp only [doS,hx1,hy2,hx3]
  rw [HL]
  have HM1 : Hid (∀ W,Rdr C G D rv ov W (p,0) → CP 147 #[.pointer (some ⟨G,0,none⟩),.slice (some ⟨W.heap.size,0,none⟩) 1 1] (W.alloc (.cells #[.string ⟨#[100,111]⟩] 9)) (GoTo C G D rv ov none0 x1 W)):=Lh fun W hW => by
   have:=must1_any C hC G D rv ov (p,0) W hW ⟨#[100,111]⟩ (by decide)
   rwa [hx1] at this
  have HN2 : Hid (∀ W,Rdr C G D rv ov W x1 → CP 150 #[.pointer (some ⟨G,0,none⟩),.func (.func 121) #[] #[]] W (GoTo C G D rv ov (.string y2.1) y2.2 W)):=Lh fun W hW => by
   have:=partN_any C hC G D rv ov x1 W hW
   rwa [hy2] at this
  have HM3 : Hid (∀ W,Rdr C G D rv ov W y2.2 → CP 147 #[.pointer (some ⟨G,0,none⟩),.slice (some ⟨W.heap.size,0,none⟩) 1 1] (W.alloc (.cells #[.string ⟨#[59]⟩] 9)) (GoTo C G D rv ov none0 x3 W)):=Lh fun W hW => by
   have:=must1_any C hC G D rv ov y2.2 W hW ⟨#[59]⟩ (by decide)
   rwa [hx3] at this
  clear HL hx1 hy2 hx3 ha hs
  go_enter Tryz.func136,Tryz.ntmps136
  go_wp2_with (first
   | (go_at_call 32; (with_reducible refine (HPO.out _ J.out).mono ?_); rintro e w2 ⟨rfl,b⟩; have hsz:=b.size; rw [hs1.out] at hsz; have J:=Lh (J.out.under b); have JT:=Lh (JT.out.trans (Tn.of_below _ b)); have JR:=Lh (JR.out.under b); clear b; dsimp only)
   | (refine wpList_stV rfl 118 (.tmp 3) (.tmp 9) rfl (G:=w2.heap.size) (off:=0) rfl (us:=stC (.mk 0 a ⟨#[]⟩ 0 An.nul Ex.nul [] []) ⟨.slice none 0 0,.slice none 0 0,.slice none 0 0⟩) (Var.new w2 (stC St.nul Tv.nul) 118 rfl) rfl info_st (Nat.le_refl 17) (st_one0 _) ?_; intro w3 ht hs; have ta:=Tn.alloc (fun k => k = w2.heap.size) w2 (.cells z17 118); have J:=Lh ((J.out.new (.cells z17 118)).own ht (by omega)); have JT:=Lh ((JT.out.trans (Tn.alloc _ w2 (.cells z17 118))).own ht (by omega)); have JR:=Lh ((JR.out.turn ta (by omega)).turn ht (by omega)); have JV:=Lh (show Var w3 w2.heap.size (stC (.mk 0 a ⟨#[]⟩ 0 An.nul Ex.nul [] []) ⟨.slice none 0 0,.slice none 0 0,.slice none 0 0⟩) from hs); have hs3:=ht.size; rw [row_sizeS] at hs3; clear ht hs ta; have d0:=J.out.c0)
   | (go_at_call 56; (with_reducible refine (HPK.out _ J.out).mono ?_); rintro e w4 ⟨rfl,b⟩; have J:=Lh (J.out.under b); have JT:=Lh (JT.out.trans (Tn.of_below _ b)); have JR:=Lh (JR.out.under b); have JV:=Lh (JV.out.under b); have hs4:=b.size; clear b; dsimp only; refine Hid.out ?_)
   | fail)
  obtain ⟨K,hK⟩ : ∃ K,w2.heap.size = K:=⟨_,rfl⟩
  rw [hK] at JV ⊢
  have hGK : G < K:=by omega
  have hK4 : K < w4.heap.size:=by omega
  have hKw : w.heap.size < K:=by omega
  clear hK
  refine Lh ?_
  go_wp2_with (first
   | (refine wpList_st1 rfl _ _ _ rfl (G:=K) (off:=0) rfl (v:=.int .i64 4) JV.out rfl (by kernel_rfl) (by show 0 < 17; omega) rfl ?_; intro w5 ht hs; have J:=Lh (J.out.own ht hGK); have JT:=Lh (JT.out.own ht (by omega)); have JR:=Lh (JR.out.turn ht (by omega)); have hs5:=ht.size; have JV:=Lh (show Var w5 K (stC (.mk 4 a ⟨#[]⟩ 0 An.nul Ex.nul [] []) ⟨.slice none 0 0,.slice none 0 0,.slice none 0 0⟩) from hs); clear ht hs)
   | (go_at_call 147; (with_reducible refine (HM1.out _ J.out).mono ?_); rintro e w6 ⟨rfl,hr,ht⟩; have J:=Lh hr; have JT:=Lh (JT.out.trans ht); have JV:=Lh (JV.out.turn ht (by intro h; rcases h with h | h; omega; omega)); have JR:=Lh (JR.out.turn ht (by intro h; rcases h with h | h; omega; omega)); have hsz6:=ht.size; clear hr ht; dsimp only)
   | (go_at_call 150; (with_reducible refine (HN2.out _ J.out).mono ?_); rintro e w6 ⟨rfl,hr,ht⟩; have J:=Lh hr; have JT:=Lh (JT.out.trans ht); have JV:=Lh (JV.out.turn ht (by intro h; rcases h with h | h; omega; omega)); have JR:=Lh (JR.out.turn ht (by intro h; rcases h with h | h; omega; omega)); have hsz6:=ht.size; clear hr ht; dsimp only)
   | (refine wpList_st1 rfl _ _ _ rfl (G:=K) (off:=2) rfl (v:=.string y2.1) JV.out rfl (by kernel_rfl) (by show 2 < 17; omega) rfl ?_; intro w5 ht hs; have J:=Lh (J.out.own ht hGK); have JT:=Lh (JT.out.own ht (by omega)); have JR:=Lh (JR.out.turn ht (by omega)); have JV:=Lh (show Var w5 K (stC (.mk 4 a y2.1 0 An.nul Ex.nul [] []) ⟨.slice none 0 0,.slice none 0 0,.slice none 0 0⟩) from hs); clear ht hs)
   | (go_at_call 147; (with_reducible refine (HM3.out _ J.out).mono ?_); rintro e w6 ⟨rfl,hr,ht⟩; have J:=Lh hr; have JT:=Lh (JT.out.trans ht); have JV:=Lh (JV.out.turn ht (by intro h; rcases h with h | h; omega; omega)); have JR:=Lh (JR.out.turn ht (by intro h; rcases h with h | h; omega; omega)); have hsz6:=ht.size; clear hr ht; dsimp only)
   | (refine wpList_ldV rfl 118 (.tmp 3) rfl K 0 rfl (stC ((.mk 4 a y2.1 0 An.nul Ex.nul [] [] : St),x3).1 ⟨.slice none 0 0,.slice none 0 0,.slice none 0 0⟩) JV.out.rg Tryz.underlying118 rfl info_st ?_)
   | (refine wpList_stV rfl 118 (.tmp 2) (.tmp 43) rfl (G:=w.heap.size) (off:=0) rfl (us:=stC ((.mk 4 a y2.1 0 An.nul Ex.nul [] [] : St),x3).1 ⟨.slice none 0 0,.slice none 0 0,.slice none 0 0⟩) JR.out rfl info_st (Nat.le_refl 17) (st_one0 _) ?_; intro w7 ht hs; have J:=Lh (J.out.own ht (by omega)); have JT:=Lh (JT.out.own ht nLe); have JR:=Lh (show Var w7 w.heap.size (stC ((.mk 4 a y2.1 0 An.nul Ex.nul [] [] : St),x3).1 ⟨.slice none 0 0,.slice none 0 0,.slice none 0 0⟩) from hs); clear ht hs)
   | fail)
  exact v_ret 118 rfl rfl rfl JR.out Tryz.underlying118 rfl info_st ⟨.slice none 0 0,rfl,J.out,.nil,JT.out⟩
 | false =>
  obtain ⟨y,hy⟩ : ∃ y,plS C.R F a (p,0) = y:=⟨_,rfl⟩
  have HPL : Hid (∀ K W,G < K → Rdr C G D rv ov W (p,0) → Var W K (stC (.mk 0 a ⟨#[]⟩ 0 An.nul Ex.nul [] []) ⟨.slice none 0 0,.slice none 0 0,.slice none 0 0⟩) → CP 151 #[.pointer (some ⟨G,0,none⟩),.pointer (some ⟨K,0,none⟩)] W (HdTo C G K D rv ov y W)):=Lh fun K W hK hW hV => by rw [← hy]; exact plain_any C hC hDg F hF G K hK D rv ov (p,0) W hW a hV
  have HL : hdS C.R F p = y:=by
   unfold hdS
   rw [if_neg (show ¬ C.R.is p lLet = true by unfold Rw.is; rw [hs,h1]; decide),if_neg (show ¬ C.R.is p lIf = true by unfold Rw.is; rw [hs,h2]; decide),if_neg (show ¬ C.R.is p lWhile = true by unfold Rw.is; rw [hs,h3]; decide),if_neg (show ¬ C.R.is p lDo = true by unfold Rw.is; rw [hs,h4]; decide),ha,hy]
  rw [HL]
  clear hy HL ha hs
  go_enter Tryz.func136,Tryz.ntmps136
  go_wp2_with (first
   | (go_at_call 32; (with_reducible refine (HPO.out _ J.out).mono ?_); rintro e w2 ⟨rfl,b⟩; have hsz:=b.size; rw [hs1.out] at hsz; have J:=Lh (J.out.under b); have JT:=Lh (JT.out.trans (Tn.of_below _ b)); have JR:=Lh (JR.out.under b); clear b; dsimp only)
   | (refine wpList_stV rfl 118 (.tmp 3) (.tmp 9) rfl (G:=w2.heap.size) (off:=0) rfl (us:=stC (.mk 0 a ⟨#[]⟩ 0 An.nul Ex.nul [] []) ⟨.slice none 0 0,.slice none 0 0,.slice none 0 0⟩) (Var.new w2 (stC St.nul Tv.nul) 118 rfl) rfl info_st (Nat.le_refl 17) (st_one0 _) ?_; intro w3 ht hs; have ta:=Tn.alloc (fun k => k = w2.heap.size) w2 (.cells z17 118); have J:=Lh ((J.out.new (.cells z17 118)).own ht (by omega)); have JT:=Lh ((JT.out.trans (Tn.alloc _ w2 (.cells z17 118))).own ht (by omega)); have JR:=Lh ((JR.out.turn ta (by omega)).turn ht (by omega)); have JV:=Lh (show Var w3 w2.heap.size (stC (.mk 0 a ⟨#[]⟩ 0 An.nul Ex.nul [] []) ⟨.slice none 0 0,.slice none 0 0,.slice none 0 0⟩) from hs); have hs3:=ht.size; rw [row_sizeS] at hs3; clear ht hs ta; have d0:=J.out.c0)
   | (go_at_call 56; (with_reducible refine (HPK.out _ J.out).mono ?_); rintro e w4 ⟨rfl,b⟩; have J:=Lh (J.out.under b); have JT:=Lh (JT.out.trans (Tn.of_below _ b)); have JR:=Lh (JR.out.under b); have JV:=Lh (JV.out.under b); have hs4:=b.size; clear b; dsimp only; refine Hid.out ?_)
   | fail)
  obtain ⟨K,hK⟩ : ∃ K,w2.heap.size = K:=⟨_,rfl⟩
  rw [hK] at JV ⊢
  have hGK : G < K:=by omega
  have hK4 : K < w4.heap.size:=by omega
  have hKw : w.heap.size < K:=by omega
  clear hK
  refine Lh ?_
  go_wp2_with (first
   | (go_at_call 151; (with_reducible refine (HPL.out _ _ hGK J.out JV.out).mono ?_); rintro e w6 ⟨lv,rfl,hj,hv,hx,ht⟩; have hone:=hx.one; have JX:=Lh (hx.weak (S':=fun b => w.heap.size < b ∧ b < w6.heap.size) (fun b hb h2 => ⟨by have hb : _ ≤ b:=hb; omega,h2⟩)); have JT:=Lh (JT.out.then_ ht (fun i hi h => by rcases h with h | h | h; exact .inl h; exact .inr h; omega)); have JR:=Lh (JR.out.turn ht (by intro h; rcases h with h | h | h; omega; omega; omega)); have J:=Lh hj; have JV:=Lh hv; have hs6:=ht.size; clear hj hv hx ht; dsimp only)
   | (refine wpList_ldV rfl 118 (.tmp 3) rfl K 0 rfl (stC y.1 ⟨lv,.slice none 0 0,.slice none 0 0⟩) JV.out.rg Tryz.underlying118 rfl info_st ?_)
   | (refine wpList_stV rfl 118 (.tmp 2) (.tmp 43) rfl (G:=w.heap.size) (off:=0) rfl (us:=stC y.1 ⟨lv,.slice none 0 0,.slice none 0 0⟩) JR.out rfl info_st (Nat.le_refl 17) (st_one1 _ hone) ?_; intro w7 ht hs; have J:=Lh (J.out.own ht (by omega)); have JT:=Lh (JT.out.own ht nLe); have JX:=Lh (JX.out.turn (S':=fun b => w.heap.size ≤ b) ht (fun b hb _ => ⟨Nat.le_of_lt hb.1,by omega⟩)); have JR:=Lh (show Var w7 w.heap.size (stC y.1 ⟨lv,.slice none 0 0,.slice none 0 0⟩) from hs); clear ht hs)
   | fail)
  exact v_ret 118 rfl rfl rfl JR.out Tryz.underlying118 rfl info_st ⟨lv,rfl,J.out,JX.out,JT.out⟩
structure Pe where
 b : Bk
 t : Tv
 av : Value
 al : List (St × Tv)
def bkC (e : Pe) : List Value:=[.int .i64 e.b.of.k,.int .i64 e.b.of.a,.string e.b.of.nm,.int .i64 e.b.of.ty,.bool e.b.of.an.so,.bool e.b.of.an.lk,.string e.b.of.an.lb,.int .i64 e.b.of.an.fr,.int .i64 e.b.of.an.to,
 .int .i64 e.b.of.e.k,.int .i64 e.b.of.e.a,.int .i64 e.b.of.e.m,.string e.b.of.e.nm,.string e.b.of.e.lb,e.t.e,e.t.l,e.t.r,e.av,.bool e.b.ot]
def bkV (e : Pe) : Value:=.agg #[.int .i64 e.b.of.k,.int .i64 e.b.of.a,.string e.b.of.nm,.int .i64 e.b.of.ty,.bool e.b.of.an.so,.bool e.b.of.an.lk,.string e.b.of.an.lb,.int .i64 e.b.of.an.fr,.int .i64 e.b.of.an.to,
 .int .i64 e.b.of.e.k,.int .i64 e.b.of.e.a,.int .i64 e.b.of.e.m,.string e.b.of.e.nm,.string e.b.of.e.lb,e.t.e,e.t.l,e.t.r,e.av,.bool e.b.ot]
def bcs (L : List Pe) : List Value:=L.flatMap bkC
theorem bkC_len (e : Pe) : (bkC e).length = 19:=rfl
theorem bcs_snoc (L : List Pe) (e : Pe) : bcs (L ++ [e]) = bcs L ++ bkC e:=by simp [bcs]
theorem bcs_len (L : List Pe) : (bcs L).length = L.length * 19:=by
 induction L with
 | nil => rfl
 | cons t L ih => show (bkC t ++ bcs L).length = _; rw [List.length_append,ih,bkC_len]; simp; omega
theorem info_bk : (Tryz.prog.info? 200).map (·.size) = some 19:=by kernel_rfl
theorem rowBk : RowT Tryz.prog 178 200 19 240:=RowT.mk (z:=.agg #[.int .i64 0,.int .i64 0,.string ⟨#[]⟩,.int .i64 0,.bool false,.bool false,.string ⟨#[]⟩,.int .i64 0,.int .i64 0,.int .i64 0,.int .i64 0,.int .i64 0,.string ⟨#[]⟩,.string ⟨#[]⟩,.slice none 0 0,.slice none 0 0,.slice none 0 0,.slice none 0 0,.bool false]) Tryz.underlying178 (by kernel_rfl) rfl (by omega)
def Mu (rv ov : Value) (pl : List Pe) (b : Nat) : Prop:=rv.ownBlock = some b ∨ ov.ownBlock = some b ∨ ∃ e ∈ pl,e.av.ownBlock = some b
def Fx (G : Nat) (rv ov : Value) (pl : List Pe) : Nat → Prop:=fun b => G < b ∧ ¬ Mu rv ov pl b
def Apt (a b : Value) : Prop:=∀ k,a.ownBlock = some k → b.ownBlock ≠ some k
structure Pl (G : Nat) (w : World) (rv ov : Value) (rl : List (St × Tv)) (pl : List Pe) : Prop where
 row : Own w (G + 1) 118 17 rv rl.length (scs rl)
 op : Own w (G + 1) 200 19 ov pl.length (bcs pl)
 ah : ∀ e ∈ pl,Own w (G + 1) 118 17 e.av e.al.length (scs e.al) ∧ e.al.map (·.1) = e.b.ah
 tr : ∀ p ∈ rl,TrS w (Fx G rv ov pl) p.1 p.2
 to_ : ∀ e ∈ pl,TrS w (Fx G rv ov pl) e.b.of e.t ∧ ∀ p ∈ e.al,TrS w (Fx G rv ov pl) p.1 p.2
 ar : ∀ e ∈ pl,Apt rv e.av
 aa : pl.Pairwise fun a b => Apt a.av b.av
 len : rl.length ≤ 1000000 ∧ pl.length ≤ 1000000
theorem Apt.symm {a b : Value} (h : Apt a b) : Apt b a:=fun k h1 h2 => h k h2 h1
theorem Apt.none {a : Value} : Apt (.slice none 0 0) a:=fun k h => by cases h
theorem Own.apt {w : World} {B B' n n' size size' : Nat} {e e' : TypeId} {v v' : Value} {xs xs' : List Value} (h : Own w B e size v n xs) (h' : Own w B' e' size' v' n' xs') (hne : e ≠ e') : Apt v v':=by
 intro k h1 h2
 rcases h.1.2 with ⟨rfl,_⟩ | ⟨q,cap,cur,rfl,_,hq,_⟩
 ·cases h1
 ·rcases h'.1.2 with ⟨rfl,_⟩ | ⟨q',cap',cur',rfl,_,hq',_⟩
  ·cases h2
  ·simp only [Value.ownBlock,Option.some.injEq] at h1 h2
   subst h1
   subst h2
   rw [hq] at hq'
   injection hq' with hq'
   injection hq' with _ e1
   exact hne e1
section
variable {G : Nat} {w w' : World} {rv ov : Value} {rl : List (St × Tv)} {pl : List Pe}
theorem Pl.mu_lt (h : Pl G w rv ov rl pl) {b : Nat} (hb : Mu rv ov pl b) : G < b ∧ b < w.heap.size:=by
 rcases hb with hb | hb | ⟨e,he,hb⟩
 ·exact h.row.1.lt b hb
 ·exact h.op.1.lt b hb
 ·exact (h.ah e he).1.1.lt b hb
theorem Pl.turn {M : Nat → Prop} (h : Pl G w rv ov rl pl) (ht : Tn M w w') (hM : ∀ k,G < k → k < w.heap.size → ¬ M k) : Pl G w' rv ov rl pl:=by
 have hS : ∀ b,Fx G rv ov pl b → b < w.heap.size → Fx G rv ov pl b ∧ ¬ M b:=fun b hb hl => ⟨hb,hM b hb.1 hl⟩
 exact ⟨h.row.turn ht (fun k hk => hM k (h.mu_lt (.inl hk)).1 (h.mu_lt (.inl hk)).2),h.op.turn ht (fun k hk => hM k (h.mu_lt (.inr (.inl hk))).1 (h.mu_lt (.inr (.inl hk))).2),
  fun e he => ⟨(h.ah e he).1.turn ht (fun k hk => hM k (h.mu_lt (.inr (.inr ⟨e,he,hk⟩))).1 (h.mu_lt (.inr (.inr ⟨e,he,hk⟩))).2),(h.ah e he).2⟩,
  fun p hp => (h.tr p hp).turn ht hS,fun e he => ⟨(h.to_ e he).1.turn ht hS,fun p hp => ((h.to_ e he).2 p hp).turn ht hS⟩,h.ar,h.aa,h.len⟩
theorem Pl.under (h : Pl G w rv ov rl pl) (hb : Below w.heap.size w w') : Pl G w' rv ov rl pl:=h.turn (Tn.of_below (fun _ => False) hb) (fun _ _ _ h => h)
end
structure RdI (C : Cx) (G : Nat) (D : Int) (w : World) (m : Mc) (rv ov : Value) (rl : List (St × Tv)) (pl : List Pe) : Prop where
 rd : Rdr C G D rv ov w (m.p,m.r)
 ps : Pl G w rv ov rl pl
 row : rl.map (·.1) = m.row
 op : pl.map (·.b) = m.op
def RdT (C : Cx) (G : Nat) (D : Int) (m : Mc) (w : World) (e : Ending) (w' : World) : Prop:=
 ∃ rv ov rl pl,e = .returned none0 ∧ RdI C G D w' m rv ov rl pl ∧ Tn (fun k => k = C.g ∨ G ≤ k) w w'
section
variable {P : Program} {ops : Array Oper} {rest : List Oper} {o : Oper} {a : Act} {Q : Exit → Act → World → Prop}
theorem wp_push_b {K : Act → World → Prop} (s x : Operand) (t : TypeId) (ho : o.op = .call { callee:=.builtin .append,args:=#[s,x],argTypes:=#[t,t] })
  {e : TypeId} {size bytes : Nat} (hT : RowT P t e size bytes) (w : World) (B : Nat) (v : Value) (n : Nat) (xs us : List Value) (hs : a.eval s = v) (hown : Own w B e size v n xs)
  {G : Nat} (hx : a.eval x = .slice (some ⟨G,0,none⟩) 1 1) (hG : G = w.heap.size) (hl : us.length = size) (h1 : ∀ u ∈ us,u.oneCell' = true)
  (hlen : n ≤ 1000000000) (hby : bytes ≤ 256)
  (h : ∀ v' w',Own w' B e size v' (n + 1) (xs ++ us) → (w.alloc (.cells us.toArray e)).grownBy w' v.ownBlock → (v'.ownBlock = v.ownBlock ∨ v'.ownBlock = some (w.heap.size + 1)) → K (a.put o.dst v') w') :
  o.wp P a (w.alloc (.cells us.toArray e)) K Q:=by
 subst hG
 obtain ⟨ht,i,z,hi,hz,hsize,hbytes,hzs,hpos⟩:=hT
 have hbb : (n + 1) * bytes ≤ 140737488355328:=Nat.le_trans (Nat.mul_le_mul (show n + 1 ≤ 1000000001 by omega) hby) (by decide)
 obtain ⟨v',w',hr,h2,h3,_,h5⟩:=run_append_own_at (P:=P) (w.alloc (.cells us.toArray e)) B t o.type e i z size bytes ht hi hz hsize hbytes hzs hpos v n xs (hown.1.alloc _) ⟨w.heap.size,0,none⟩ 1 1 us (by simpa using hl)
  (fun j y hj => by
   rw [Addr.add_lit,Nat.zero_add,World.cell?_alloc_at _ _ _ _ rfl]
   simpa using hj) h1 (by unfold maxLen; omega) hbb (by have:=hown.2; simp; omega)
 have hge : B ≤ (w.alloc (.cells us.toArray e)).heap.size:=by have:=hown.2; simp; omega
 unfold Oper.wp execOp
 simp only [ho,resolve,invoke,builtin,Sem.run_bind,Sem.run_pure,Result.andThen_ok,List.map_toArray,List.map_cons,List.map_nil,hs,hx,hr]
 exact h v' w' ⟨h2,Nat.le_trans hge h3.size⟩ h3 (by simpa using h5)
theorem step_push_b {K : Act → World → Prop} {E : Prop} (hgd : Region.wanted o (yielded ops a.tmps) = true) (s x : Operand) (t : TypeId) (ho : o.op = .call { callee:=.builtin .append,args:=#[s,x],argTypes:=#[t,t] })
  {e : TypeId} {size bytes : Nat} (hT : RowT P t e size bytes) (w : World) (B : Nat) (v : Value) (n : Nat) (xs us : List Value) (hs : a.eval s = v) (hown : Own w B e size v n xs)
  {G : Nat} (hx : a.eval x = .slice (some ⟨G,0,none⟩) 1 1) (hG : G = w.heap.size) (hl : us.length = size) (h1 : ∀ u ∈ us,u.oneCell' = true)
  (hlen : n ≤ 1000000000) (hby : bytes ≤ 256)
  (h : ∀ v' w',Own w' B e size v' (n + 1) (xs ++ us) → (w.alloc (.cells us.toArray e)).grownBy w' v.ownBlock → (v'.ownBlock = v.ownBlock ∨ v'.ownBlock = some (w.heap.size + 1)) → K (a.put o.dst v') w') :
  if Region.wanted o (yielded ops a.tmps) = true then Oper.wp P o a (w.alloc (.cells us.toArray e)) K Q else E:=by
 rw [if_pos hgd]
 exact wp_push_b s x t ho hT w B v n xs us hs hown hx hG hl h1 hlen hby h
theorem wpList_push_b (hgd : Region.wanted o (yielded ops a.tmps) = true) (s x : Operand) (t : TypeId) (ho : o.op = .call { callee:=.builtin .append,args:=#[s,x],argTypes:=#[t,t] })
  {e : TypeId} {size bytes : Nat} (hT : RowT P t e size bytes) (w : World) (B : Nat) (v : Value) (n : Nat) (xs us : List Value) (hs : a.eval s = v) (hown : Own w B e size v n xs)
  {G : Nat} (hx : a.eval x = .slice (some ⟨G,0,none⟩) 1 1) (hG : G = w.heap.size) (hl : us.length = size) (h1 : ∀ u ∈ us,u.oneCell' = true)
  (hlen : n ≤ 1000000000) (hby : bytes ≤ 256)
  (h : ∀ v' w',Own w' B e size v' (n + 1) (xs ++ us) → (w.alloc (.cells us.toArray e)).grownBy w' v.ownBlock → (v'.ownBlock = v.ownBlock ∨ v'.ownBlock = some (w.heap.size + 1)) → wpList P ops Q rest (a.put o.dst v') w') :
  wpList P ops Q (o :: rest) a (w.alloc (.cells us.toArray e)):=
 wpList_wanted hgd fun _ hK => wp_push_b s x t ho hT w B v n xs us hs hown hx hG hl h1 hlen hby fun v' w' h2 h3 h4 => hK _ _ (h v' w' h2 h3 h4)
end
theorem bkC_one {e : Pe} (he : e.t.e.oneCell' = true) (hl : e.t.l.oneCell' = true) (hr : e.t.r.oneCell' = true) (ha : e.av.oneCell' = true) : ∀ u ∈ bkC e,u.oneCell' = true:=by
 intro u hu
 simp [bkC] at hu
 rcases hu with rfl | rfl | rfl | rfl | rfl | rfl | rfl | rfl | rfl | rfl | rfl | rfl | rfl | rfl | rfl | rfl | rfl | rfl | rfl
 all_goals first | rfl | assumption
theorem Own.gbx {w w' : World} {o : Obj} {B n size : Nat} {e : TypeId} {v : Value} {xs : List Value} {r : Option Nat} (h : Own w B e size v n xs) (hg : (w.alloc o).grownBy w' r) (hr : ∀ k,v.ownBlock = some k → r ≠ some k) : Own w' B e size v n xs:=
 (h.alloc o).turn (Tn.of_gb (M:=fun k => r = some k) hg fun k e _ => e) fun k hk e => hr k hk e
theorem Pl.pushed {G : Nat} {w w6 : World} {av ov v6 : Value} {al : List (St × Tv)} {pl : List Pe} {o : Obj} (h : Pl G w av ov al pl) (e : Pe) (h1 : e.av = av) (h2 : e.al = al) (hah : al.map (·.1) = e.b.ah) (ht : TrS w (Fx G av ov pl) e.b.of e.t)
  (ho : Own w6 (G + 1) 200 19 v6 (pl.length + 1) (bcs pl ++ bkC e)) (hg : (w.alloc o).grownBy w6 ov.ownBlock) (hv : v6.ownBlock = ov.ownBlock ∨ v6.ownBlock = some (w.heap.size + 1)) (hl : pl.length < 1000000) : Pl G w6 (.slice none 0 0) v6 [] (pl ++ [e]):=by
 subst h1
 subst h2
 have hs:=hg.size
 have hsz : w.heap.size + 1 ≤ w6.heap.size:=by simpa using hs
 have hF : ∀ b,Fx G e.av ov pl b → b < w.heap.size → Fx G (.slice none 0 0) v6 (pl ++ [e]) b ∧ ¬ ov.ownBlock = some b:=fun b hb hlt => by
  refine ⟨⟨hb.1,fun hm => hb.2 ?_⟩,fun e1 => hb.2 (.inr (.inl e1))⟩
  rcases hm with hm | hm | ⟨e',he',hm⟩
  ·cases hm
  ·rcases hv with hv | hv
   ·exact .inr (.inl (hv ▸ hm))
   ·rw [hv] at hm; injection hm; omega
  ·rcases List.mem_append.1 he' with he' | he'
   ·exact .inr (.inr ⟨e',he',hm⟩)
   ·rw [List.mem_singleton.1 he'] at hm; exact .inl hm
 have hT : ∀ (x : St) (v : Tv),TrS w (Fx G e.av ov pl) x v → TrS w6 (Fx G (.slice none 0 0) v6 (pl ++ [e])) x v:=fun x v hx =>
  hx.keep fun b hb hlt => by
   have hb1:=((Below.refl w.heap.size w).alloc nLe o).block b hlt
   exact ⟨(hF b hb hlt).1,by omega,(hg.block b (by simp; omega) fun e1 => (hF b hb hlt).2 e1.symm).trans hb1⟩
 refine ⟨Own.nil _ _ _ _ (by have:=h.row.2; omega),?_,fun e' he' => ?_,(fun p hp => by cases hp),fun e' he' => ?_,fun e' _ => Apt.none,?_,⟨Nat.zero_le _,by simp; omega⟩⟩
 ·exact ho.cast (by simp) (bcs_snoc pl e).symm
 ·rcases List.mem_append.1 he' with he' | he'
  ·exact ⟨(h.ah e' he').1.gbx hg fun k hk e1 => Own.apt (h.ah e' he').1 h.op (by decide) k hk e1,(h.ah e' he').2⟩
  ·rw [List.mem_singleton.1 he']
   exact ⟨h.row.gbx hg fun k hk e1 => Own.apt h.row h.op (by decide) k hk e1,hah⟩
 ·rcases List.mem_append.1 he' with he' | he'
  ·exact ⟨hT _ _ (h.to_ e' he').1,fun p hp => hT _ _ ((h.to_ e' he').2 p hp)⟩
  ·rw [List.mem_singleton.1 he']
   exact ⟨hT _ _ ht,fun p hp => hT _ _ (h.tr p hp)⟩
 ·refine List.pairwise_append.2 ⟨h.aa,List.pairwise_singleton _ _,fun a ha b hb => ?_⟩
  rw [List.mem_singleton.1 hb]
  exact (h.ar a ha).symm
end Go.Proofs.YtkjhlgnpohamnaaGreatDoor
