import Derived.Test.YtkjhlgnpohamnaaGreatDoorSq
import Derived.Test.YtkjhlgnpohamnaaGreatDoorMSv
import Derived.Test.YtkjhlgnpohamnaaGreatDoorMSz
import Derived.BigQuiet
import Derived.Test.YtkjhlgnpohamnaaGreatDoorStR
namespace Go.Proofs.YtkjhlgnpohamnaaGreatDoor
set_option linter.unusedVariables false
set_option linter.unusedSimpArgs false
open Go.RowKit
theorem zeroRd (w : World) : (zeroValue 180).run Tryz.prog w = .ok (.agg #[.pointer none,.int .i64 0,.slice none 0 0,.slice none 0 0,.int .i64 0]) w:=by kernel_rfl
theorem info_rd : (Tryz.prog.info? 180).map (·.size) = some 5:=by kernel_rfl
def RowTo (C : Cx) (F : Nat) (D : Int) (p : Nat) (w : World) (e : Ending) (w' : World) : Prop:=
 ∃ m lv,EndsS C.R F D (dnRow C.R) (mc0 p) m ∧ e = .returned (.tuple #[lv,.int .i64 m.r]) ∧ Cur C w' m.p ∧ (m.r = 0 → ShS w' (fun b => w.heap.size ≤ b) lv m.row) ∧ (¬ m.r = 0 → lv = (Value.slice none 0 0)) ∧ Tn (fun k => k = C.g) w w'
set_option maxRecDepth 100000 in
set_option maxHeartbeats 1600000 in
theorem row_any (C : Cx) (hC : TokOk C.T C.L) (hDg : DigOk C) (hR : C.R.Ok) (hn : C.L.length < 1000000) (F : Nat) (hF : 16 * C.L.length + 9 ≤ F) (D : Int) (p : Nat) (w : World) (h : Cur C w p) :
  CP 103 #[C.ptr,.int .i64 D] w (RowTo C F D p w):=by
 have hz:=zeroRd
 have hgw:=h.lt
 have hpn:=h.le
 have J:=Lh h
 have hs1 : Hid ((w.alloc (.cells #[.pointer none,.int .i64 0,.slice none 0 0,.slice none 0 0,.int .i64 0] 180)).heap.size = w.heap.size + 1):=Lh (by simp)
 have hnp : ¬ C.ptr = .pointer none:=by unfold Cx.ptr; simp
 clear h
 go_enter Tryz.func103,Tryz.ntmps103
 go_wp2_with (first
  | (refine wpList_stV rfl 180 (.tmp 6) (.tmp 11) rfl (G:=w.heap.size) (off:=0) rfl (us:=rdC C D (Value.slice none 0 0) (Value.slice none 0 0) 0) (Var.new w [.pointer none,.int .i64 0,(Value.slice none 0 0),(Value.slice none 0 0),.int .i64 0] 180 rfl) rfl info_rd (Nat.le_refl 5) (by intro u hu; simp [rdC] at hu; rcases hu with rfl | rfl | rfl | rfl <;> rfl) ?_; intro w3 ht hs; have hsz3:=ht.size; rw [hs1.out] at hsz3; have JC:=Lh ((J.out.under bAl).turn ht (fun k hk e => by omega)); have JV:=Lh (show Var w3 w.heap.size (rdC C D (Value.slice none 0 0) (Value.slice none 0 0) 0) from hs); have JT:=Lh ((Tn.alloc (fun k => k = C.g ∨ w.heap.size ≤ k) w (.cells #[.pointer none,.int .i64 0,.slice none 0 0,.slice none 0 0,.int .i64 0] 180)).trans (ht.weak (fun k _ h => .inr (by omega)))); clear ht hs; dsimp only)
  | fail)
 have hG : C.g < w.heap.size:=hgw
 have hI0 : RdI C w.heap.size D w3 (mc0 p) (Value.slice none 0 0) (Value.slice none 0 0) [] []:=⟨⟨JC.out,JV.out,hG⟩,⟨Own.nil _ _ _ _ (by omega),Own.nil _ _ _ _ (by omega),(fun e he => by cases he),(fun q hq => by cases hq),(fun e he => by cases he),(fun e he => by cases he),List.Pairwise.nil,⟨Nat.zero_le _,Nat.zero_le _⟩⟩,rfl,rfl⟩
 have HI0:=Lh hI0
 clear hI0 JC JV J hs1
 dsimp only [Act.put]
 go_loopw [4,5] (fun a b wr => a = (Value.slice none 0 0) ∧ b = .int .i64 0 ∧ ∃ (m : Mc) (rv ov : Value) (rl : List (St × Tv)) (pl : List Pe),RdI C w.heap.size D wr m rv ov rl pl ∧ m.r = 0 ∧ m.Fit C.R ∧ (∀ x,EndsS C.R F D (dnRow C.R) m x → EndsS C.R F D (dnRow C.R) (mc0 p) x) ∧ Tn (fun k => k = C.g ∨ w.heap.size ≤ k) w wr) (fun _ _ wr => C.L.length + 1 - placeOf wr C.g)
 case atStart => exact ⟨rfl,rfl,mc0 p,_,_,[],[],HI0.out,rfl,⟨hpn,Nat.zero_le _,Nat.zero_le _,fun b hb => by cases hb⟩,fun x hx => hx,JT.out⟩
 case round =>
  clear HI0 JT
  obtain ⟨rfl,rfl,m,rv,ov,rl,pl,hI,hr0,hf,hE,hT⟩:=hrel
  have hfr:=hf.row
  have hfo:=hf.op
  have hfa:=hf.ah
  have hfn : m.p ≤ C.L.length:=hf.n
  have hpl:=placeOf_eq hI.rd.cur
  have HF:=Lh hf
  have HE:=Lh hE
  have J:=Lh hI.rd
  have JP:=Lh hI.ps
  have HII:=Lh hI
  have JT:=Lh hT
  obtain ⟨m2,hm2⟩ : ∃ m2,m.step C.R F D = m2:=⟨_,rfl⟩
  have hst:=step_fit hR F D m hf hr0
  rw [hm2] at hst
  have HST:=Lh hst
  have HSP : Hid (∀ W,Rdr C w.heap.size D rv ov W (m.p,m.r) → Pl w.heap.size W rv ov rl pl → CP 123 #[.pointer (some ⟨w.heap.size,0,none⟩)] W (RdT C w.heap.size D m2 W)):=Lh fun W h1 h2 => by
   rw [← hm2]
   exact step_any C hC hDg F hF w.heap.size D rv ov rl pl m W ⟨h1,h2,hI.row,hI.op⟩ hr0 (by omega) (by omega) (fun b hb => by have:=hfa b hb; omega)
  have HEN : Hid (∀ W,Rdr C w.heap.size D rv ov W (m.p,m.r) → CP 122 #[C.ptr] W fun e w' => e = .returned (.bool (endsB C.R m.p)) ∧ Below W.heap.size W w'):=Lh fun W hW => ends_any C hC m.p W hW.cur
  have hol : m.op.length = pl.length:=by rw [← hI.op]; simp
  obtain ⟨Ar,cr,rfl⟩:=hI.ps.row.form
  obtain ⟨Ao,co,rfl⟩:=hI.ps.op.form
  have g3:=J.out.c3
  have g0:=J.out.c0
  have HM2:=Lh hm2
  clear hI hf hE hT hfr hfo hfa hst hm2
  cases hdn : dnRow C.R m with
  | true =>
   unfold dnRow at hdn
   rw [Bool.and_eq_true,List.isEmpty_iff] at hdn
   have hl0 : pl.length = 0:=by rw [← hol,hdn.1]; rfl
   have hd1 : decide ((0 : Int) < (pl.length : Int)) = false:=decide_eq_false (by omega)
   have hd3 : ¬ (0 : Int) < (pl.length : Int):=by omega
   have hd2 : decide (0 < pl.length) = false:=decide_eq_false (by omega)
   rw [hdn.2] at HEN
   have hdd : dnRow C.R m = true:=by unfold dnRow; rw [hdn.1,hdn.2]; rfl
   clear hdn hl0 hol
   go_wp2_with (first
    | (go_at_call 122; (with_reducible refine (HEN.out _ J.out).mono ?_); rintro _ w1 ⟨rfl,b⟩; have J:=Lh (J.out.under b); have JP:=Lh (JP.out.under b); have JT:=Lh (JT.out.trans (Tn.of_below _ b)); clear b; have g2:=J.out.c2; dsimp only)
    | fail)
   go_ret2
   exact ⟨m,.slice Ar rl.length cr,HE.out _ (.here m hdd),by rw [hr0]; rfl,J.out.cur,fun _ => by rw [← HII.out.row]; exact ShS.of_own JP.out.row rfl (fun q hq => (JP.out.tr q hq).weak (fun b hb _ => Nat.le_of_lt hb.1)) (fun b h1 _ _ => by omega),fun h => absurd hr0 h,JT.out.weak (fun k hk h => h.elim id (fun h => by omega))⟩
  | false =>
   have HDN:=Lh hdn
   by_cases hp0 : 0 < pl.length
   ·have hd1 : decide ((0 : Int) < (pl.length : Int)) = true:=decide_eq_true (by omega)
    have hd3 : (0 : Int) < (pl.length : Int):=by omega
    have hd2 : decide (0 < pl.length) = true:=decide_eq_true (by omega)
    clear hdn hol HEN
    go_wp2_with (first
     | (go_at_call 123; (with_reducible refine (HSP.out _ J.out JP.out).mono ?_); rintro _ w2 ⟨rv',ov',rl',pl',rfl,hI,hT⟩; have HI:=Lh hI; have JT:=Lh (JT.out.trans hT); clear hI hT; dsimp only; refine Hid.out ?_)
     | fail)
    clear HSP g3 g0
    by_cases hr2 : m2.r = 0
    ·obtain ⟨hlt,hfit⟩:=HST.out hr2
     have g4 : w2.cell? ⟨w.heap.size,4,none⟩ = some (.int .i64 0):=by
      have:=HI.out.rd.c4
      rw [hr2] at this
      exact this
     have hpl2:=placeOf_eq HI.out.rd.cur
     have hfn2 : m2.p ≤ C.L.length:=hfit.n
     have HFT:=Lh hfit
     clear hfit
     refine Lh ?_
     go_wp2_with fail
     go_roundw
     case rel => exact ⟨rfl,rfl,m2,_,_,_,_,HI.out,hr2,HFT.out,fun x hx => HE.out x (.on m x HDN.out (by rw [HM2.out]; exact hr2) (by rw [HM2.out]; exact hx)),JT.out⟩
     case measure => omega
    ·have g4 : w2.cell? ⟨w.heap.size,4,none⟩ = some (.int .i64 m2.r):=HI.out.rd.c4
     have hr3 : (m2.r == 0) = false:=by simp [hr2]
     have hr4 : decide (m2.r = 0) = false:=by simp [hr2]
     refine Lh ?_
     go_wp2_with fail
     go_quiet (fail)
     go_wp2
     go_ret2
     exact ⟨m2,_,HE.out _ (by have:=EndsS.err (F:=F) (D:=D) m HDN.out (by rw [HM2.out]; exact hr2); rwa [HM2.out] at this),rfl,HI.out.rd.cur.under ((Quiet.one _ _).below _),fun h => absurd h hr2,fun _ => rfl,(JT.out.trans (Tn.of_below _ ((Quiet.one _ _).below _))).weak (fun k hk h => h.elim id (fun h => by omega))⟩
   ·have hd1 : decide ((0 : Int) < (pl.length : Int)) = false:=decide_eq_false (by omega)
    have hd3 : ¬ (0 : Int) < (pl.length : Int):=by omega
    have hd2 : decide (0 < pl.length) = false:=decide_eq_false (by omega)
    have he : endsB C.R m.p = false:=by
     unfold dnRow at hdn
     rw [List.isEmpty_iff.2 (List.eq_nil_of_length_eq_zero (by omega)),Bool.true_and] at hdn
     exact hdn
    rw [he] at HEN
    clear hdn hol he
    go_wp2_with (first
     | (go_at_call 122; (with_reducible refine (HEN.out _ J.out).mono ?_); rintro _ w1 ⟨rfl,b⟩; have J:=Lh (J.out.under b); have JP:=Lh (JP.out.under b); have JT:=Lh (JT.out.trans (Tn.of_below _ b)); clear b; dsimp only)
     | (go_at_call 123; (with_reducible refine (HSP.out _ J.out JP.out).mono ?_); rintro _ w2 ⟨rv',ov',rl',pl',rfl,hI,hT⟩; have HI:=Lh hI; have JT:=Lh (JT.out.trans hT); clear hI hT; dsimp only; refine Hid.out ?_)
     | fail)
    clear HSP g3 g0
    by_cases hr2 : m2.r = 0
    ·obtain ⟨hlt,hfit⟩:=HST.out hr2
     have g4 : w2.cell? ⟨w.heap.size,4,none⟩ = some (.int .i64 0):=by
      have:=HI.out.rd.c4
      rw [hr2] at this
      exact this
     have hpl2:=placeOf_eq HI.out.rd.cur
     have hfn2 : m2.p ≤ C.L.length:=hfit.n
     have HFT:=Lh hfit
     clear hfit
     refine Lh ?_
     go_wp2_with fail
     go_roundw
     case rel => exact ⟨rfl,rfl,m2,_,_,_,_,HI.out,hr2,HFT.out,fun x hx => HE.out x (.on m x HDN.out (by rw [HM2.out]; exact hr2) (by rw [HM2.out]; exact hx)),JT.out⟩
     case measure => omega
    ·have g4 : w2.cell? ⟨w.heap.size,4,none⟩ = some (.int .i64 m2.r):=HI.out.rd.c4
     have hr3 : (m2.r == 0) = false:=by simp [hr2]
     have hr4 : decide (m2.r = 0) = false:=by simp [hr2]
     refine Lh ?_
     go_wp2_with fail
     go_quiet (fail)
     go_wp2
     go_ret2
     exact ⟨m2,_,HE.out _ (by have:=EndsS.err (F:=F) (D:=D) m HDN.out (by rw [HM2.out]; exact hr2); rwa [HM2.out] at this),rfl,HI.out.rd.cur.under ((Quiet.one _ _).below _),fun h => absurd h hr2,fun _ => rfl,(JT.out.trans (Tn.of_below _ ((Quiet.one _ _).below _))).weak (fun k hk h => h.elim id (fun h => by omega))⟩
end Go.Proofs.YtkjhlgnpohamnaaGreatDoor
