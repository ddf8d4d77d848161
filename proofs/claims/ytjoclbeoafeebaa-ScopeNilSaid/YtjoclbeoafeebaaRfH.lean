import Derived.Test.YtjoclbeoafeebaaSq
import Derived.Test.YtjoclbeoafeebaaRfV
set_option maxHeartbeats 6400000
set_option maxRecDepth 100000
namespace Go.Proofs.Ytjoclbeoafeebaa
set_option linter.unusedVariables false
set_option linter.unusedSimpArgs false
open Go.RowKit
theorem pvC_len(y:List VrT×(Nat×Int))(v:Value):(pvC y v).length=19:=by unfold pvC;split <;> rfl
theorem pvC_one{y:List VrT×(Nat×Int)}{v:Value}(h:v.oneCell'=true):∀ u∈pvC y v,u.oneCell'=true:=by
 unfold pvC
 split
 ·exact Zy _ _ Ki rfl (Jj _) h
 ·exact Qn _ _
theorem nlC_len(y:List NmT×(Nat×Int))(v:Value):(nlC y v).length=19:=by unfold nlC;split <;> rfl
theorem nlC_one{y:List NmT×(Nat×Int)}{v:Value}(h:v.oneCell'=true):∀ u∈nlC y v,u.oneCell'=true:=by
 unfold nlC
 split
 ·exact Zy _ _ Ki h (Jj _) rfl
 ·exact Qn _ _
theorem info_rw:(Try.prog.info? 77).map (·.size)=some 2:=by kernel_rfl
def fnD(sg:ByteArray)(xn:Int)(pv:Value)(ty:Int)(an:An)(rs:Bool)(rl bd:Value)(e:Ex)(re:Value):List Value:=fnC ⟨sg,xn,[],ty,an,rs,[],[],e⟩ ⟨pv,rl,bd,re⟩
structure Ff (X:Ry) (w W:World) (ms os:List Value) (G:Nat) (fs:List Value):Prop where
 f3:F3 X w W ms os
 vf:Var W G fs
 hg:w.heap.size+2<G
section
variable {X:Ry} {w W W':World} {ms os us fs fs':List Value} {G:Nat}
theorem Ff.under(h:Ff X w W ms os G fs)(hb:Below W.heap.size W W'):Ff X w W' ms os G fs:=⟨h.f3.under hb,h.vf.under hb,h.hg⟩
theorem Ff.set_f(h:Ff X w W ms os G fs)(ht:Tn (fun k=>k=G) W W')(hv:Var W' G fs'):Ff X w W' ms os G fs':=⟨h.f3.set_n ht h.hg,hv,h.hg⟩
theorem Ff.set_n{G':Nat}(h:Ff X w W ms os G fs)(ht:Tn (fun k=>k=G') W W')(hG:G<G'):Ff X w W' ms os G fs:=⟨h.f3.set_n ht (Nat.lt_trans h.hg hG),h.vf.turn ht (by omega),h.hg⟩
theorem Ff.low(h:Ff X w W ms os G fs)(hb:Below (G+1) W W'):Ff X w W' ms os G fs:=⟨h.f3.low ⟨hb.os,hb.tape,hb.output,hb.size,fun k hk=>hb.block k (by have:=h.hg;omega)⟩,h.vf.keep (hb.block _ (by omega)) hb.size,h.hg⟩
theorem FnS.under{x:FnT}{v:FnV}{S:Nat→Prop}(h:FnS W S x v)(hb:Below W.heap.size W W'):FnS W' S x v:=h.keep fun b h1 h2=>⟨h1,Nat.lt_of_lt_of_le h2 hb.size,hb.block b h2⟩
end
theorem Qia(l:List (FnT×FnV)):(fns l).length=l.length*18:=by
 unfold fns
 induction l with
 | nil=>rfl
 | cons x l ih=>rw [List.flatMap_cons,List.length_append,ih,List.length_cons];show 18+_=_;omega
theorem Qnu{w:World}{S:Nat→Prop}{l:List (FnT×FnV)}(h:∀ q∈l,FnS w S q.1 q.2):∀ u∈fns l,u.oneCell'=true:=fun u hu=>by
 obtain ⟨x,hx,h2⟩:=List.mem_flatMap.1 hu
 exact (h x hx).one u h2
theorem Qnv{w W:World}{S:Nat→Prop}{m:MoT}{v:MoV}{T:FnT}{V:FnV}{FL:List (FnT×FnV)}{A:Option Addr}{n c:Nat}(hM:Zx w S m v)(hb:Below w.heap.size w W)(hFL:FL.map (·.1)=m.fn)(hFS:∀ q∈FL,FnS w S q.1 q.2)
  (hL:ShV W (fun b=>S b∨w.heap.size+2<b) (.slice A n c) (FL++[(T,V)]).length (fns (FL++[(T,V)]))) (hN:FnS W (fun b=>w.heap.size≤b) T V) :
  Zx W (fun b=>S b∨w.heap.size≤b) { m with fn:=m.fn++[T] } { v with fn:=.slice A n c }:=by
 have hm2:=(hM.under hb).weak (S':=fun b=>S b∨w.heap.size≤b) fun b h _=>.inl h
 refine ⟨hm2.im,hm2.la,hm2.ef,hm2.va,FL++[(T,V)],by rw [List.map_append,hFL];rfl,hL.weak fun b h _=>h.imp_right fun h=>by omega,fun q hq=>?_⟩
 rcases List.mem_append.1 hq with hq | hq
 ·exact ((hFS q hq).under hb).weak fun b h _=>.inl h
 ·rw [List.mem_singleton.1 hq]
  exact hN.weak fun b h _=>.inr h
theorem muW{R:Rw}{q k:Nat}(h:R.is k [123]=true):mu R (k,0) [Uy]=(k+1,0):=Q5 h
theorem Qjo{P:Program}{C:Code}{Q:Exit→Act→World→Prop}{a:Act}{w:World}(D:Act→World→Prop)(h:C.wp P (fun e a' w'=>e=.normal∧D a' w') a w)(k:∀ a' w',D a' w'→Q .normal a' w'):C.wp P Q a w:=
 Code.wp_mono (fun e a' w' h=>by
  obtain ⟨rfl,hR⟩:=h
  exact k a' w' hR) h
theorem tn_of{w2 wb W W':World}{NB k:Nat}(hb:Below NB wb W)(hwb:w2.drew=wb)(hNB:wb.heap.size=NB)(ht:Tn (fun j=>j=k) W W'):Tn (fun j=>j=k) w2 W':=by
 subst hNB
 subst hwb
 exact Tn.trans ⟨hb.os,hb.tape,hb.output,hb.size,fun j hj _=>hb.block j hj⟩ ht
theorem fn_r45(X:Ry)(S:Nat→Prop)(w w2:World)(hl he:Bool)(v:MoV)(G:Nat)(T:FnT)(V:FnV)(FL:List (FnT×FnV))(A:Option Addr)(c:Nat)
  (hf3:F3 X w w2.drew [v.im,.bool hl,v.la,.bool he,v.ef,v.va,.slice A FL.length c] (gtE 0 0)) (hvg:Var w2.drew G (fnC T V)) (hll:ShV w2.drew (fun b=>S b∨w.heap.size+2<b) (.slice A FL.length c) FL.length (fns FL)) (hno:∀ u∈fnC T V,u.oneCell'=true) (hf1:∀ u∈fns FL,u.oneCell'=true) (hss:∀ b,S b→b<w.heap.size) (hfl:FL.length≤1000000)
  {s0 s1 s2 s3 s5 s6 s8 s9 s10 s11 s12 s13 s14 s15 s16 s17 s18 s19 s20 s21 s22 s23 s24 s25 s26 s27 s28 s29 s30 s31 s32 s33 s34 s35 s36 s37 s38 s39 s40 s41 s42 s43 s44 s45 s46 s47 s48 s49 s50 s51 s52 s53 s54 s55 s56 s57 s58 s59 s60 s61 s62 s63 s64 s65 s66 s67 s68 s69 s70 s71 s72 s73 s74 s75 s76 s77 s78 s79 s80 s81 s82 s83 s84 s85 s86 s87 s88 s89 s90 s91 s92 s93 s94 s95 s96 s97 s98 s99 s100 s101 s102 s103 s104 s105 s106 s107 s108 s109 s110 s111 s112 s113 s114 s115 s116 s117 s118 s119 s120 s121 s122 s123 s124 s125 s126 s127 s128 s129 s130 s131 s132 s133 s134 s135 s136 s137 s138 s139 s140 s141 s142 s143 s144 s145 s146 s147 s148 s149 s150 s151 s152 s153 s154 s155 s156 s157 s158 s159 s160 s161 s162 s163 s164 s165 s166 s167 s168 s169 s170 s171 s172 s173 s174 s175 s176 s177 s178 s179 s180 s181 s182:Value} :
  (Code.region 45 #[{ dst:=some 170,op:=Op.buildSlice 49 0 #[],type:=49,pos:="ref.go:154",after:=#[],guard:=none },
 { dst:=some 171,op:=Op.fieldAddr 51 (Operand.tmp 4) 6,type:=0,pos:="ref.go:154",after:=#[],guard:=none },
 { dst:=some 172,op:=Op.load 49 (Operand.tmp 171),type:=49,pos:="ref.go:154",after:=#[{ on:=1,ground:=Ground.data }],guard:=none },
 { dst:=some 173,op:=Op.call { callee:=Callee.builtin Builtin.append,args:=#[Operand.tmp 170,Operand.tmp 172],argTypes:=#[49,49] },type:=49,pos:="ref.go:154",after:=#[{ on:=0,ground:=Ground.data },{ on:=2,ground:=Ground.data }],guard:=none },
 { dst:=some 174,op:=Op.load 83 (Operand.tmp 7),type:=83,pos:="ref.go:154",after:=#[],guard:=none },
 { dst:=some 175,op:=Op.buildSlice 49 1 #[(0,Operand.tmp 174)],type:=49,pos:="ref.go:154",after:=#[{ on:=4,ground:=Ground.data }],guard:=none },
 { dst:=some 176,op:=Op.call { callee:=Callee.builtin Builtin.append,args:=#[Operand.tmp 173,Operand.tmp 175],argTypes:=#[49,49] },type:=49,pos:="ref.go:154",after:=#[{ on:=3,ground:=Ground.data },{ on:=5,ground:=Ground.data },{ on:=3,ground:=Ground.chain }],guard:=none },
 { dst:=some 177,op:=Op.fieldAddr 51 (Operand.tmp 4) 6,type:=0,pos:="ref.go:154",after:=#[{ on:=0,ground:=Ground.phase },{ on:=1,ground:=Ground.phase },{ on:=2,ground:=Ground.phase },{ on:=3,ground:=Ground.phase },{ on:=4,ground:=Ground.phase },{ on:=5,ground:=Ground.phase },{ on:=6,ground:=Ground.phase }],guard:=none },
 { dst:=none,op:=Op.store 49 (Operand.tmp 177) (Operand.tmp 176),type:=0,pos:="ref.go:154",after:=#[{ on:=7,ground:=Ground.data },{ on:=6,ground:=Ground.data },{ on:=6,ground:=Ground.chain },{ on:=0,ground:=Ground.phase },{ on:=1,ground:=Ground.phase },{ on:=2,ground:=Ground.phase },{ on:=3,ground:=Ground.phase },{ on:=4,ground:=Ground.phase },{ on:=5,ground:=Ground.phase },{ on:=6,ground:=Ground.phase }],guard:=none }] true).wp Try.prog (fun e a' w' => e = .normal ∧ ∃ y0 y1 y2 y3 y4 y5 y6 y7 : Value,a' = ⟨#[s0,s1,s2,s3,.pointer (some ⟨w.heap.size + 1,0,none⟩),s5,s6,.pointer (some ⟨G,0,none⟩),s8,s9,s10,s11,s12,s13,s14,s15,s16,s17,s18,s19,s20,s21,s22,s23,s24,s25,s26,s27,s28,s29,s30,s31,s32,s33,s34,s35,s36,s37,s38,s39,s40,s41,s42,s43,s44,s45,s46,s47,s48,s49,s50,s51,s52,s53,s54,s55,s56,s57,s58,s59,s60,s61,s62,s63,s64,s65,s66,s67,s68,s69,s70,s71,s72,s73,s74,s75,s76,s77,s78,s79,s80,s81,s82,s83,s84,s85,s86,s87,s88,s89,s90,s91,s92,s93,s94,s95,s96,s97,s98,s99,s100,s101,s102,s103,s104,s105,s106,s107,s108,s109,s110,s111,s112,s113,s114,s115,s116,s117,s118,s119,s120,s121,s122,s123,s124,s125,s126,s127,s128,s129,s130,s131,s132,s133,s134,s135,s136,s137,s138,s139,s140,s141,s142,s143,s144,s145,s146,s147,s148,s149,s150,s151,s152,s153,s154,s155,s156,s157,s158,s159,s160,s161,s162,s163,s164,s165,s166,s167,s168,s169,y0,y1,y2,y3,y4,y5,y6,y7,s178,s179,s180,s181,s182],[]⟩ ∧ ∃ A6 c6,F3 X w w' [v.im,.bool hl,v.la,.bool he,v.ef,v.va,.slice A6 (FL.length + 1) c6] (gtE 0 0) ∧ ShV w' (fun b => S b ∨ w.heap.size + 2 < b) (.slice A6 (FL.length + 1) c6) (FL ++ [(T,V)]).length (fns (FL ++ [(T,V)])) ∧ Tn (fun k => k = w.heap.size + 1) w2 w')
   ⟨#[s0,s1,s2,s3,.pointer (some ⟨w.heap.size+1,0,none⟩),s5,s6,.pointer (some ⟨G,0,none⟩),s8,s9,s10,s11,s12,s13,s14,s15,s16,s17,s18,s19,s20,s21,s22,s23,s24,s25,s26,s27,s28,s29,s30,s31,s32,s33,s34,s35,s36,s37,s38,s39,s40,s41,s42,s43,s44,s45,s46,s47,s48,s49,s50,s51,s52,s53,s54,s55,s56,s57,s58,s59,s60,s61,s62,s63,s64,s65,s66,s67,s68,s69,s70,s71,s72,s73,s74,s75,s76,s77,s78,s79,s80,s81,s82,s83,s84,s85,s86,s87,s88,s89,s90,s91,s92,s93,s94,s95,s96,s97,s98,s99,s100,s101,s102,s103,s104,s105,s106,s107,s108,s109,s110,s111,s112,s113,s114,s115,s116,s117,s118,s119,s120,s121,s122,s123,s124,s125,s126,s127,s128,s129,s130,s131,s132,s133,s134,s135,s136,s137,s138,s139,s140,s141,s142,s143,s144,s145,s146,s147,s148,s149,s150,s151,s152,s153,s154,s155,s156,s157,s158,s159,s160,s161,s162,s163,s164,s165,s166,s167,s168,s169,s170,s171,s172,s173,s174,s175,s176,s177,s178,s179,s180,s181,s182],[]⟩ w2:=by
 have HQ:=Lh (And.intro hf3 hvg)
 have HL:=Lh hll
 have HNO:=Lh hno
 have HF1:=Lh hf1
 have HSS:=Lh hss
 clear hf3 hvg hll hno hf1 hss
 refine Jc (by kernel_rfl) 9 rfl ?_
 obtain ⟨wb,hwb⟩:∃ wb,w2.drew=wb:=⟨_,rfl⟩
 rw [hwb] at HQ HL
 rw [hwb]
 obtain ⟨NB,hNB⟩:∃ NB,wb.heap.size=NB:=⟨_,rfl⟩
 have HXS:=Lh (show NB≤wb.heap.size by omega)
 have HXB:=Lh (show Below NB wb wb from Below.refl _ _)
 have HB3:=Lh (show w.heap.size+3≤NB by rw [← hNB];exact HQ.out.1.lt)
 have HNB:=Lh hNB
 have HWB:=Lh hwb
 obtain ⟨SS,hSd⟩:∃ SS:World→Prop,SS=fun W=>F3 X w W [v.im,.bool hl,v.la,.bool he,v.ef,v.va,.slice A FL.length c] (gtE 0 0)∧Var W G (fnC T V):=⟨_,rfl⟩
 have HS:Hid (∀ W,(F3 X w W [v.im,.bool hl,v.la,.bool he,v.ef,v.va,.slice A FL.length c] (gtE 0 0)∧Var W G (fnC T V))→SS W):=Lh fun W h=>by rw [hSd];exact h
 have hSF:∀ W,SS W→F3 X w W [v.im,.bool hl,v.la,.bool he,v.ef,v.va,.slice A FL.length c] (gtE 0 0)∧Var W G (fnC T V):=by rw [hSd];exact fun W h=>h
 have q0:∀ x:SW SS,x.w.cell? ⟨w.heap.size+1,6,none⟩=some (.slice A FL.length c):=fun x=>(hSF _ x.h).1.vm.at 6 rfl
 have qf0:∀ x:SW SS,x.w.cell? ⟨G,0,none⟩=some (.string T.nm):=fun x=>(hSF _ x.h).2.at 0 rfl
 have qf1:∀ x:SW SS,x.w.cell? ⟨G,1,none⟩=some (.int .i64 T.a):=fun x=>(hSF _ x.h).2.at 1 rfl
 have qf2:∀ x:SW SS,x.w.cell? ⟨G,2,none⟩=some (V.ps):=fun x=>(hSF _ x.h).2.at 2 rfl
 have qf3:∀ x:SW SS,x.w.cell? ⟨G,3,none⟩=some (.int .i64 T.ty):=fun x=>(hSF _ x.h).2.at 3 rfl
 have qf4:∀ x:SW SS,x.w.cell? ⟨G,4,none⟩=some (.bool T.an.so):=fun x=>(hSF _ x.h).2.at 4 rfl
 have qf5:∀ x:SW SS,x.w.cell? ⟨G,5,none⟩=some (.bool T.an.lk):=fun x=>(hSF _ x.h).2.at 5 rfl
 have qf6:∀ x:SW SS,x.w.cell? ⟨G,6,none⟩=some (.string T.an.lb):=fun x=>(hSF _ x.h).2.at 6 rfl
 have qf7:∀ x:SW SS,x.w.cell? ⟨G,7,none⟩=some (.int .i64 T.an.fr):=fun x=>(hSF _ x.h).2.at 7 rfl
 have qf8:∀ x:SW SS,x.w.cell? ⟨G,8,none⟩=some (.int .i64 T.an.to):=fun x=>(hSF _ x.h).2.at 8 rfl
 have qf9:∀ x:SW SS,x.w.cell? ⟨G,9,none⟩=some (.bool T.rs):=fun x=>(hSF _ x.h).2.at 9 rfl
 have qf10:∀ x:SW SS,x.w.cell? ⟨G,10,none⟩=some (V.rl):=fun x=>(hSF _ x.h).2.at 10 rfl
 have qf11:∀ x:SW SS,x.w.cell? ⟨G,11,none⟩=some (V.bd):=fun x=>(hSF _ x.h).2.at 11 rfl
 have qf12:∀ x:SW SS,x.w.cell? ⟨G,12,none⟩=some (.int .i64 T.re.k):=fun x=>(hSF _ x.h).2.at 12 rfl
 have qf13:∀ x:SW SS,x.w.cell? ⟨G,13,none⟩=some (.int .i64 T.re.a):=fun x=>(hSF _ x.h).2.at 13 rfl
 have qf14:∀ x:SW SS,x.w.cell? ⟨G,14,none⟩=some (.int .i64 T.re.m):=fun x=>(hSF _ x.h).2.at 14 rfl
 have qf15:∀ x:SW SS,x.w.cell? ⟨G,15,none⟩=some (.string T.re.nm):=fun x=>(hSF _ x.h).2.at 15 rfl
 have qf16:∀ x:SW SS,x.w.cell? ⟨G,16,none⟩=some (.string T.re.lb):=fun x=>(hSF _ x.h).2.at 16 rfl
 have qf17:∀ x:SW SS,x.w.cell? ⟨G,17,none⟩=some (V.re):=fun x=>(hSF _ x.h).2.at 17 rfl
 have HGB:=Lh (show G<NB by rw [← hNB];exact HQ.out.2.lt)
 clear hNB
 have hS0:=HS.out _ HQ.out
 clear hwb hSF hSd
 refine J2 SS 8 (by kernel_rfl) ?_
 refine Qp 1 2 7 (by kernel_rfl) (fun _ _ d _ _ h=>by first | (cases d <;> exact h) | exact absurd h.1 (fun e=>nomatch e)) hS0 (fun hne=>?_)
 simp only [sD,sE,sF,sG]
 repeat (go_big_quiet_step (fail))
 refine wpQuiet_nil ?_
 refine Qp 4 1 6 (by kernel_rfl) (fun _ _ d _ _ h=>by first | (cases d <;> exact h) | exact absurd h.1 (fun e=>nomatch e)) hS0 (fun hne=>?_)
 simp only [sD,sE,sF,sG]
 repeat (go_big_quiet_step (fail))
 refine wpQuiet_nil ?_
 refine Z9 (i:=0) (j:=5) (fuel:=5) (by kernel_rfl) (by omega) (by omega) rfl rfl (fun KK hKK=>?_) (fun KK hKK=>?_)
 ·go_simp
  have HO:=Lh (Own.empty wb NB 83 18 HXS.out)
  have hba:=(Below.refl wb.heap.size wb).alloc nLe (.cells #[] 83)
  have HQ:=Lh (And.intro (HQ.out.1.under hba) (HQ.out.2.under hba))
  have HL:=Lh (HL.out.under hba)
  have HOB:=Lh (show ∀ k,(Value.slice (some ⟨wb.heap.size,0,none⟩) 0 0).ownBlock=some k→k=wb.heap.size from fun k hk=>by cases hk;rfl)
  have HXB:=Lh (HXB.out.trans (hba.mono HXS.out))
  have HXS:=Lh (Nat.le_trans HXS.out hba.size)
  obtain ⟨wE,hwE⟩:∃ wE,wb.alloc (.cells #[] 83)=wE:=⟨_,rfl⟩
  obtain ⟨b0,hb0⟩:∃ b0,wb.heap.size=b0:=⟨_,rfl⟩
  have HBE:=Lh (show b0<wE.heap.size by rw [← hwE,← hb0];simp)
  rw [hwE] at HO HQ HL HXS HXB
  rw [hb0] at HO HOB
  rw [hwE,hb0]
  clear hwE hba hS0
  have hS0:=HS.out _ HQ.out
  refine hKK _ _ hS0 ?_
  clear hKK KK
  refine Z9 (i:=3) (j:=5) (fuel:=4) (by kernel_rfl) (by omega) (by omega) rfl rfl (fun KK hKK=>?_) (fun KK hKK=>?_)
  ·refine Qs rfl (.tmp 170) (.tmp 172) 49 rfl Qkh wE NB _ 0 [] (fns FL) rfl HO.out A FL.length c rfl ((Qia FL)) HL.out.cells HF1.out (by omega) (by omega) ?_
   intro v3 w3 ho3 hb3 hg3
   have HQ:=Lh (And.intro (HQ.out.1.low ⟨hb3.os,hb3.tape,hb3.output,hb3.size,fun k hk=>hb3.block k (by have:=HB3.out;omega)⟩) (HQ.out.2.keep (hb3.block G HGB.out) hb3.size))
   have HO:=Lh (ho3.cast (n':=FL.length) (by omega) (List.nil_append _))
   obtain ⟨A3,c3,rfl⟩:=HO.out.form
   have HXB:=Lh (HXB.out.trans hb3)
   have HXS:=Lh (Nat.le_trans HXS.out hb3.size)
   clear hS0 ho3 hb3 hg3
   have hS0:=HS.out _ HQ.out
   refine hKK _ _ hS0 ?_
   clear hKK KK
   refine Ql (i:=5) (fuel:=3) (by kernel_rfl) (by omega) rfl (fun KK hKK=>?_)
   refine Q0 rfl 49 83 (.tmp 174) rfl (fnC T V) rfl (by show 0<18;omega) (by show 18≤2^24;decide) Try.underlying49 Zr (by kernel_rfl) ?_
   have hba:=(Below.refl w3.heap.size w3).alloc nLe (.cells (fnC T V).toArray 83)
   have HLIT:=Lh (Var.new w3 (fnC T V) 83 (c:=(fnC T V).toArray) rfl)
   have HQ:=Lh (And.intro (HQ.out.1.under hba) (HQ.out.2.under hba))
   have HO:=Lh (HO.out.alloc (.cells (fnC T V).toArray 83))
   have HXB:=Lh (HXB.out.trans (hba.mono HXS.out))
   have HXS:=Lh (Nat.le_trans HXS.out hba.size)
   obtain ⟨wF,hwF⟩:∃ wF,w3.alloc (.cells (fnC T V).toArray 83)=wF:=⟨_,rfl⟩
   obtain ⟨GL,hGL⟩:∃ GL,w3.heap.size=GL:=⟨_,rfl⟩
   rw [hwF] at HQ HXS HLIT HO HXB
   rw [hGL] at HLIT
   rw [hwF,hGL]
   clear hwF hba hS0
   have hS0:=HS.out _ HQ.out
   refine hKK _ _ hS0 ?_
   clear hKK KK
   refine Ql (i:=6) (fuel:=2) (by kernel_rfl) (by omega) rfl (fun KK hKK=>?_)
   refine Qs rfl (.tmp 173) (.tmp 175) 49 rfl Qkh wF NB _ FL.length (fns FL) (fnC T V) rfl HO.out (some ⟨GL,0,none⟩) 1 1 rfl rfl (fun _=>⟨GL,0,rfl,HLIT.out.rg⟩) (HNO.out) (by omega) (by omega) ?_
   intro v6 w6 ho6 hb6 _
   have HXB:=Lh (HXB.out.trans hb6)
   obtain ⟨A6,c6,rfl⟩:=ho6.form
   have HQ:=Lh (And.intro (HQ.out.1.low ⟨hb6.os,hb6.tape,hb6.output,hb6.size,fun k hk=>hb6.block k (by have:=HB3.out;omega)⟩) (HQ.out.2.keep (hb6.block G HGB.out) hb6.size))
   have HO:=Lh (ho6.cast (show FL.length+1=(FL++[(T,V)]).length by simp) (Qep FL (T,V)).symm)
   clear hS0
   have hS0:=HS.out _ HQ.out
   refine hKK _ _ hS0 ?_
   clear hKK KK ho6 hb6
   simp only [Act.put,sA,sB,sC]
   refine Qp 7 1 1 (by kernel_rfl) (fun _ _ d _ _ h=>by first | (cases d <;> exact h) | exact absurd h.1 (fun e=>nomatch e)) hS0 (fun hne=>?_)
   simp only [sD,sE,sF,sG]
   repeat (go_big_quiet_step (fail))
   refine wpQuiet_nil ?_
   refine Ja (i:=8) (fuel:=0) (by kernel_rfl) nLe rfl (fun KK hKK=>?_)
   refine Zb rfl 49 (.tmp 177) (.tmp 176) rfl (w.heap.size+1) 6 rfl (v:=.slice A6 (FL.length+1) c6) (HQ.out.1.vm.there (by show 6+1≤7;omega)) rfl (by kernel_rfl) rfl ?_
   have ht:=Tn.set (M:=fun k=>k=w.heap.size+1) w6 (w.heap.size+1) 6 (.slice A6 (FL.length+1) c6) rfl
   have HF:=Lh (HQ.out.1.set_m (us:=[v.im,.bool hl,v.la,.bool he,v.ef,v.va,.slice A6 (FL.length+1) c6]) ht (HQ.out.1.vm.set 6 _ (by show 6<7;omega)))
   have hb3':=HB3.out
   have HL:=Lh ((ShV.of_own (S:=fun b=>S b∨w.heap.size+2<b) HO.out (fun b hb _ _=>.inr (by omega))).turn (S':=fun b=>S b∨w.heap.size+2<b) ht fun b hb h2=>⟨hb,fun e=>by rcases hb with hb | hb;have:=HSS.out b hb;omega;omega⟩)
   have HTN:=Lh (show Tn (fun k=>k=w.heap.size+1) w2 _ from tn_of HXB.out HWB.out HNB.out ht)
   refine hKK _ _ ?_
   clear hKK KK q0 qf0 qf1 qf2 qf3 qf4 qf5 qf6 qf7 qf8 qf9 qf10 qf11 qf12 qf13 qf14 qf15 qf16 qf17 HS hS0 ht HQ HO hb3'
   refine wpAny_done (by kernel_rfl) ?_ _
   try simp only [Act.put,sA,sB,sC]
   exact ⟨by first | trivial | rfl,_,_,_,_,_,_,_,_,rfl,A6,c6,HF.out,HL.out,HTN.out⟩
  ·refine Q0 rfl 49 83 (.tmp 174) rfl (fnC T V) rfl (by show 0<18;omega) (by show 18≤2^24;decide) Try.underlying49 Zr (by kernel_rfl) ?_
   have hba:=(Below.refl wE.heap.size wE).alloc nLe (.cells (fnC T V).toArray 83)
   have HLIT:=Lh (Var.new wE (fnC T V) 83 (c:=(fnC T V).toArray) rfl)
   have HQ:=Lh (And.intro (HQ.out.1.under hba) (HQ.out.2.under hba))
   have HL:=Lh (HL.out.under hba)
   have HO:=Lh (HO.out.alloc (.cells (fnC T V).toArray 83))
   have HXB:=Lh (HXB.out.trans (hba.mono HXS.out))
   have HXS:=Lh (Nat.le_trans HXS.out hba.size)
   obtain ⟨wF,hwF⟩:∃ wF,wE.alloc (.cells (fnC T V).toArray 83)=wF:=⟨_,rfl⟩
   obtain ⟨GL,hGL⟩:∃ GL,wE.heap.size=GL:=⟨_,rfl⟩
   have HLN:=Lh (show (Value.slice (some ⟨b0,0,none⟩) 0 0).ownBlock=some GL→False from fun e=>by have:=HOB.out _ e;have:=HBE.out;omega)
   rw [hwF] at HQ HL HXS HLIT HO HXB
   rw [hGL] at HLIT
   rw [hwF,hGL]
   clear hwF hba hS0
   have hS0:=HS.out _ HQ.out
   refine hKK _ _ hS0 ?_
   clear hKK KK
   refine Ql (i:=3) (fuel:=3) (by kernel_rfl) (by omega) rfl (fun KK hKK=>?_)
   refine Qs rfl (.tmp 170) (.tmp 172) 49 rfl Qkh wF NB _ 0 [] (fns FL) rfl HO.out A FL.length c rfl ((Qia FL)) HL.out.cells HF1.out (by omega) (by omega) ?_
   intro v3 w3 ho3 hb3 hg3
   have HQ:=Lh (And.intro (HQ.out.1.low ⟨hb3.os,hb3.tape,hb3.output,hb3.size,fun k hk=>hb3.block k (by have:=HB3.out;omega)⟩) (HQ.out.2.keep (hb3.block G HGB.out) hb3.size))
   have HO:=Lh (ho3.cast (n':=FL.length) (by omega) (List.nil_append _))
   have HLIT:=Lh (HLIT.out.keep (hg3.block _ HLIT.out.lt (fun e=>HLN.out e.symm)) hg3.size)
   obtain ⟨A3,c3,rfl⟩:=HO.out.form
   have HXB:=Lh (HXB.out.trans hb3)
   have HXS:=Lh (Nat.le_trans HXS.out hb3.size)
   clear hS0 ho3 hb3 hg3
   have hS0:=HS.out _ HQ.out
   refine hKK _ _ hS0 ?_
   clear hKK KK
   refine Ql (i:=6) (fuel:=2) (by kernel_rfl) (by omega) rfl (fun KK hKK=>?_)
   refine Qs rfl (.tmp 173) (.tmp 175) 49 rfl Qkh w3 NB _ FL.length (fns FL) (fnC T V) rfl HO.out (some ⟨GL,0,none⟩) 1 1 rfl rfl (fun _=>⟨GL,0,rfl,HLIT.out.rg⟩) (HNO.out) (by omega) (by omega) ?_
   intro v6 w6 ho6 hb6 _
   have HXB:=Lh (HXB.out.trans hb6)
   obtain ⟨A6,c6,rfl⟩:=ho6.form
   have HQ:=Lh (And.intro (HQ.out.1.low ⟨hb6.os,hb6.tape,hb6.output,hb6.size,fun k hk=>hb6.block k (by have:=HB3.out;omega)⟩) (HQ.out.2.keep (hb6.block G HGB.out) hb6.size))
   have HO:=Lh (ho6.cast (show FL.length+1=(FL++[(T,V)]).length by simp) (Qep FL (T,V)).symm)
   clear hS0
   have hS0:=HS.out _ HQ.out
   refine hKK _ _ hS0 ?_
   clear hKK KK ho6 hb6
   simp only [Act.put,sA,sB,sC]
   refine Qp 7 1 1 (by kernel_rfl) (fun _ _ d _ _ h=>by first | (cases d <;> exact h) | exact absurd h.1 (fun e=>nomatch e)) hS0 (fun hne=>?_)
   simp only [sD,sE,sF,sG]
   repeat (go_big_quiet_step (fail))
   refine wpQuiet_nil ?_
   refine Ja (i:=8) (fuel:=0) (by kernel_rfl) nLe rfl (fun KK hKK=>?_)
   refine Zb rfl 49 (.tmp 177) (.tmp 176) rfl (w.heap.size+1) 6 rfl (v:=.slice A6 (FL.length+1) c6) (HQ.out.1.vm.there (by show 6+1≤7;omega)) rfl (by kernel_rfl) rfl ?_
   have ht:=Tn.set (M:=fun k=>k=w.heap.size+1) w6 (w.heap.size+1) 6 (.slice A6 (FL.length+1) c6) rfl
   have HF:=Lh (HQ.out.1.set_m (us:=[v.im,.bool hl,v.la,.bool he,v.ef,v.va,.slice A6 (FL.length+1) c6]) ht (HQ.out.1.vm.set 6 _ (by show 6<7;omega)))
   have hb3':=HB3.out
   have HL:=Lh ((ShV.of_own (S:=fun b=>S b∨w.heap.size+2<b) HO.out (fun b hb _ _=>.inr (by omega))).turn (S':=fun b=>S b∨w.heap.size+2<b) ht fun b hb h2=>⟨hb,fun e=>by rcases hb with hb | hb;have:=HSS.out b hb;omega;omega⟩)
   have HTN:=Lh (show Tn (fun k=>k=w.heap.size+1) w2 _ from tn_of HXB.out HWB.out HNB.out ht)
   refine hKK _ _ ?_
   clear hKK KK q0 qf0 qf1 qf2 qf3 qf4 qf5 qf6 qf7 qf8 qf9 qf10 qf11 qf12 qf13 qf14 qf15 qf16 qf17 HS hS0 ht HQ HO hb3'
   refine wpAny_done (by kernel_rfl) ?_ _
   try simp only [Act.put,sA,sB,sC]
   exact ⟨by first | trivial | rfl,_,_,_,_,_,_,_,_,rfl,A6,c6,HF.out,HL.out,HTN.out⟩
 ·refine Q0 rfl 49 83 (.tmp 174) rfl (fnC T V) rfl (by show 0<18;omega) (by show 18≤2^24;decide) Try.underlying49 Zr (by kernel_rfl) ?_
  have hba:=(Below.refl wb.heap.size wb).alloc nLe (.cells (fnC T V).toArray 83)
  have HLIT:=Lh (Var.new wb (fnC T V) 83 (c:=(fnC T V).toArray) rfl)
  have HQ:=Lh (And.intro (HQ.out.1.under hba) (HQ.out.2.under hba))
  have HL:=Lh (HL.out.under hba)
  have HXB:=Lh (HXB.out.trans (hba.mono HXS.out))
  have HXS:=Lh (Nat.le_trans HXS.out hba.size)
  obtain ⟨wF,hwF⟩:∃ wF,wb.alloc (.cells (fnC T V).toArray 83)=wF:=⟨_,rfl⟩
  obtain ⟨GL,hGL⟩:∃ GL,wb.heap.size=GL:=⟨_,rfl⟩
  rw [hwF] at HQ HL HXS HLIT HXB
  rw [hGL] at HLIT
  rw [hwF,hGL]
  clear hwF hba hS0
  have hS0:=HS.out _ HQ.out
  refine hKK _ _ hS0 ?_
  clear hKK KK
  have HGLL:=Lh (show GL<wF.heap.size from HLIT.out.lt)
  refine Ql (i:=0) (fuel:=4) (by kernel_rfl) (by omega) rfl (fun KK hKK=>?_)
  go_simp
  have HO:=Lh (Own.empty wF NB 83 18 HXS.out)
  have hba:=(Below.refl wF.heap.size wF).alloc nLe (.cells #[] 83)
  have HQ:=Lh (And.intro (HQ.out.1.under hba) (HQ.out.2.under hba))
  have HL:=Lh (HL.out.under hba)
  have HLIT:=Lh (HLIT.out.under hba)
  have HOB:=Lh (show ∀ k,(Value.slice (some ⟨wF.heap.size,0,none⟩) 0 0).ownBlock=some k→k=wF.heap.size from fun k hk=>by cases hk;rfl)
  have HXB:=Lh (HXB.out.trans (hba.mono HXS.out))
  have HXS:=Lh (Nat.le_trans HXS.out hba.size)
  obtain ⟨wE,hwE⟩:∃ wE,wF.alloc (.cells #[] 83)=wE:=⟨_,rfl⟩
  obtain ⟨b0,hb0⟩:∃ b0,wF.heap.size=b0:=⟨_,rfl⟩
  have HBE:=Lh (show b0<wE.heap.size by rw [← hwE,← hb0];simp)
  rw [hwE] at HO HQ HL HXS HLIT HXB
  rw [hb0] at HO HOB HGLL
  rw [hwE,hb0]
  clear hwE hba hS0
  have hS0:=HS.out _ HQ.out
  refine hKK _ _ hS0 ?_
  clear hKK KK
  have HLN:=Lh (show (Value.slice (some ⟨b0,0,none⟩) 0 0).ownBlock=some GL→False from fun e=>by have:=HOB.out _ e;have:=HGLL.out;omega)
  refine Ql (i:=3) (fuel:=3) (by kernel_rfl) (by omega) rfl (fun KK hKK=>?_)
  refine Qs rfl (.tmp 170) (.tmp 172) 49 rfl Qkh wE NB _ 0 [] (fns FL) rfl HO.out A FL.length c rfl ((Qia FL)) HL.out.cells HF1.out (by omega) (by omega) ?_
  intro v3 w3 ho3 hb3 hg3
  have HQ:=Lh (And.intro (HQ.out.1.low ⟨hb3.os,hb3.tape,hb3.output,hb3.size,fun k hk=>hb3.block k (by have:=HB3.out;omega)⟩) (HQ.out.2.keep (hb3.block G HGB.out) hb3.size))
  have HO:=Lh (ho3.cast (n':=FL.length) (by omega) (List.nil_append _))
  have HLIT:=Lh (HLIT.out.keep (hg3.block _ HLIT.out.lt (fun e=>HLN.out e.symm)) hg3.size)
  obtain ⟨A3,c3,rfl⟩:=HO.out.form
  have HXB:=Lh (HXB.out.trans hb3)
  have HXS:=Lh (Nat.le_trans HXS.out hb3.size)
  clear hS0 ho3 hb3 hg3
  have hS0:=HS.out _ HQ.out
  refine hKK _ _ hS0 ?_
  clear hKK KK
  refine Ql (i:=6) (fuel:=2) (by kernel_rfl) (by omega) rfl (fun KK hKK=>?_)
  refine Qs rfl (.tmp 173) (.tmp 175) 49 rfl Qkh w3 NB _ FL.length (fns FL) (fnC T V) rfl HO.out (some ⟨GL,0,none⟩) 1 1 rfl rfl (fun _=>⟨GL,0,rfl,HLIT.out.rg⟩) (HNO.out) (by omega) (by omega) ?_
  intro v6 w6 ho6 hb6 _
  have HXB:=Lh (HXB.out.trans hb6)
  obtain ⟨A6,c6,rfl⟩:=ho6.form
  have HQ:=Lh (And.intro (HQ.out.1.low ⟨hb6.os,hb6.tape,hb6.output,hb6.size,fun k hk=>hb6.block k (by have:=HB3.out;omega)⟩) (HQ.out.2.keep (hb6.block G HGB.out) hb6.size))
  have HO:=Lh (ho6.cast (show FL.length+1=(FL++[(T,V)]).length by simp) (Qep FL (T,V)).symm)
  clear hS0
  have hS0:=HS.out _ HQ.out
  refine hKK _ _ hS0 ?_
  clear hKK KK ho6 hb6
  simp only [Act.put,sA,sB,sC]
  refine Qp 7 1 1 (by kernel_rfl) (fun _ _ d _ _ h=>by first | (cases d <;> exact h) | exact absurd h.1 (fun e=>nomatch e)) hS0 (fun hne=>?_)
  simp only [sD,sE,sF,sG]
  repeat (go_big_quiet_step (fail))
  refine wpQuiet_nil ?_
  refine Ja (i:=8) (fuel:=0) (by kernel_rfl) nLe rfl (fun KK hKK=>?_)
  refine Zb rfl 49 (.tmp 177) (.tmp 176) rfl (w.heap.size+1) 6 rfl (v:=.slice A6 (FL.length+1) c6) (HQ.out.1.vm.there (by show 6+1≤7;omega)) rfl (by kernel_rfl) rfl ?_
  have ht:=Tn.set (M:=fun k=>k=w.heap.size+1) w6 (w.heap.size+1) 6 (.slice A6 (FL.length+1) c6) rfl
  have HF:=Lh (HQ.out.1.set_m (us:=[v.im,.bool hl,v.la,.bool he,v.ef,v.va,.slice A6 (FL.length+1) c6]) ht (HQ.out.1.vm.set 6 _ (by show 6<7;omega)))
  have hb3':=HB3.out
  have HL:=Lh ((ShV.of_own (S:=fun b=>S b∨w.heap.size+2<b) HO.out (fun b hb _ _=>.inr (by omega))).turn (S':=fun b=>S b∨w.heap.size+2<b) ht fun b hb h2=>⟨hb,fun e=>by rcases hb with hb | hb;have:=HSS.out b hb;omega;omega⟩)
  have HTN:=Lh (show Tn (fun k=>k=w.heap.size+1) w2 _ from tn_of HXB.out HWB.out HNB.out ht)
  refine hKK _ _ ?_
  clear hKK KK q0 qf0 qf1 qf2 qf3 qf4 qf5 qf6 qf7 qf8 qf9 qf10 qf11 qf12 qf13 qf14 qf15 qf16 qf17 HS hS0 ht HQ HO hb3'
  refine wpAny_done (by kernel_rfl) ?_ _
  try simp only [Act.put,sA,sB,sC]
  exact ⟨by first | trivial | rfl,_,_,_,_,_,_,_,_,rfl,A6,c6,HF.out,HL.out,HTN.out⟩
end Go.Proofs.Ytjoclbeoafeebaa
