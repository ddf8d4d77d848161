import Derived.Test.YtjoclbeoafeebaaSq
import Derived.Test.YtjoclbeoafeebaaSkR
set_option maxHeartbeats 1600000
set_option maxRecDepth 100000
namespace Go.Proofs.Ytjoclbeoafeebaa
set_option linter.unusedVariables false
set_option linter.unusedSimpArgs false
open Go.RowKit Go.Maps
def Qc6(p:SMd→Bool):List SMd→Nat→List Nat
 | [],_=>[]
 | m::r,k=>if p m=true then k::Qc6 p r (k+1) else Qc6 p r (k+1)
theorem Uk{p:SMd→Bool}:∀ {M:List SMd} {i k:Nat},nth p M i k=((Qc6 p M k)[i]?.map fun (j:Nat)=>(j:Int)).getD (-1)
 | [],i,k=>rfl
 | m::r,i,k=>by
  unfold nth Qc6
  by_cases h:p m=true
  ·rw [if_pos h,if_pos h]
   cases i with
   | zero=>rfl
   | succ i =>
    rw [if_neg (by omega),Uk,List.getElem?_cons_succ]
    rfl
  ·rw [if_neg h,if_neg h,Uk]
theorem Qfh{p:SMd→Bool}:∀ {M:List SMd} {k:Nat},(Qc6 p M k).length≤M.length
 | [],k=>Nat.le_refl _
 | m::r,k=>by
  unfold Qc6
  have:=Qfh (p:=p) (M:=r) (k:=k+1)
  split <;> simp <;> omega
section
variable {X:MkA} {l:List ByteArray} {qi qo:Nat} {f:Int×ByteArray→Option Int} {g:Int×ByteArray→Option (Int×Int)} {la ef:Int} {w w':World}
theorem Mk.setL(h:Mk X l qi f qo g la ef w)(v:Int):Mk X l qi f qo g v ef (w.setCell ⟨X.G+2,3,none⟩ (.int .i64 v)).drew∧Bg X w (w.setCell ⟨X.G+2,3,none⟩ (.int .i64 v)).drew:=by
 have hs:=h.sc.set 3 (.int .i64 v) (by show 3<5;omega)
 have ht:Tn (fun j=>j=X.G+2) w (w.setCell ⟨X.G+2,3,none⟩ (.int .i64 v)).drew:=(Tn.set (M:=fun j=>j=X.G+2) w (X.G+2) 3 _ rfl).trans (Tn.drew _ _)
 exact ⟨⟨h.me.turn ht (by omega),hs.keep rfl nLe,h.nm.stay (ht.block _ h.nm.lt (by omega)),h.im.stay (ht.block _ h.im.lt (by omega)),h.ow.stay (ht.block _ h.ow.lt (by omega))⟩,ht.weak fun k _ e=>(by omega)⟩
theorem Mk.setE(h:Mk X l qi f qo g la ef w)(v:Int):Mk X l qi f qo g la v (w.setCell ⟨X.G+2,4,none⟩ (.int .i64 v)).drew∧Bg X w (w.setCell ⟨X.G+2,4,none⟩ (.int .i64 v)).drew:=by
 have hs:=h.sc.set 4 (.int .i64 v) (by show 4<5;omega)
 have ht:Tn (fun j=>j=X.G+2) w (w.setCell ⟨X.G+2,4,none⟩ (.int .i64 v)).drew:=(Tn.set (M:=fun j=>j=X.G+2) w (X.G+2) 4 _ rfl).trans (Tn.drew _ _)
 exact ⟨⟨h.me.turn ht (by omega),hs.keep rfl nLe,h.nm.stay (ht.block _ h.nm.lt (by omega)),h.im.stay (ht.block _ h.im.lt (by omega)),h.ow.stay (ht.block _ h.ow.lt (by omega))⟩,ht.weak fun k _ e=>(by omega)⟩
end
def latR(M:List SMd):Option Qb6:=if nth SMd.hl M 0 0<0 then some (0,0,17) else if 0≤nth SMd.hl M 1 0 then some ((nth SMd.hl M 1 0).toNat,0,17) else none
def effR(M:List SMd):Option Qb6:=if 0≤nth SMd.he M 1 0 then some ((nth SMd.he M 1 0).toNat,0,7) else none
theorem slat_has(hl he:Bool)(v:MoV)(h1:∀ u∈moC hl he v,u.oneCell'=true)(w:World):CP 42 #[.agg (moC hl he v).toArray] w fun e w'=>e=.returned (.bool hl)∧Below w.heap.size w w':=by
 have hb:Below w.heap.size w (w.alloc (.cells (moC hl he v).toArray 51)):=bAl
 have c1:(w.alloc (.cells (moC hl he v).toArray 51)).cell? ⟨w.heap.size,1,none⟩=some (.bool hl):=(Var.new w (moC hl he v) 51 rfl).at 1 rfl
 have HB:=Lh hb
 clear hb h1
 go_enter Try.func42,Try.ntmps42
 go_wp2
 go_ret
 exact ⟨rfl,HB.out⟩
theorem Qk6{X:MkA}{S:Nat→Prop}{N:List ByteArray}{ML:List OMo}{l:List ByteArray}{qi qo:Nat}{f:Int×ByteArray→Option Int}{g:Int×ByteArray→Option (Int×Int)}{la ef:Int}{w:World}(h:Mk X l qi f qo g la ef w)(hr:Rd X S N ML w) :
  CP 41 #[.pointer (some ⟨X.G+4,0,none⟩),.func (Fn.func 42) #[] #[]] w (Qbs (Qc6 SMd.hl (Qm ML) 0) w):=by
 have hzm:=Qbg
 have c2:w.cell? ⟨X.G+4,2,none⟩=some (.slice X.A X.n X.c):=h.me.at 2 rfl
 have HLn:=Lh hr.sh.len
 have hn64:=hr.hn
 have HRD:=Lh hr
 have hgl:X.G+4<w.heap.size:=h.lt
 obtain ⟨P,hP⟩:∃ P,Qc6 SMd.hl (Qm ML) 0=P:=⟨_,rfl⟩
 rw [hP]
 have hPl:P.length≤64:=by rw [← hP];have:=Qfh (p:=SMd.hl) (M:=Qm ML) (k:=0);rw [Qw,hr.sh.len] at this;omega
 have HP0:=Lh (show P=[]++Qc6 SMd.hl ((Qm ML).drop 0) 0 from hP.symm)
 have HB0:=Lh (Below.refl w.heap.size w)
 have HO0:=Lh (Own.nil w w.heap.size 3 1 nLe)
 clear h hr hP
 unfold Qbs
 go_enter Try.func41,Try.ntmps41
 go_wp2
 clear c2
 go_loopw [5,13] (fun v i wr=>∃ (k:Nat) (D:List Nat),i=.int .i64 (k:Int)∧k≤X.n∧D.length≤k∧Hid (P=D++Qc6 SMd.hl ((Qm ML).drop k) k)∧Hid (Own wr w.heap.size 3 1 v D.length (Qjr D))∧Hid (Below w.heap.size w wr)) (fun _ i _=>X.n-(intOf i).toNat)
 case atStart=>exact ⟨0,[],rfl,Nat.zero_le _,Nat.zero_le _,HP0,HO0,HB0⟩
 case round =>
  clear HP0 HO0 HB0
  obtain ⟨k,D,rfl,hk,hD,HP,HO,HB⟩:=hrel
  have HRW:=Lh (HRD.out.low (HB.out.mono (by omega)))
  by_cases hlt:k<X.n
  ·obtain ⟨b0,off0,q,hA0,hq,hqm,hms,hrg⟩:=HRW.out.sh.rg hlt
   rw [hA0]
   obtain ⟨VA,vc,hv⟩:=HO.out.form
   subst hv
   have hp:=HP.out
   rw [Zm hq,Qc6] at hp
   have HONE:=Lh (hms.ones q.1.hl q.1.he)
   have HRG:=Lh hrg
   obtain ⟨bl,hbl⟩:∃ bl,q.1.hl=bl:=⟨_,rfl⟩
   have HH:=Lh (fun w=>(slat_has q.1.hl q.1.he q.2 HONE.out w).mono fun e w' hh=>(show e=.returned (.bool bl)∧Below w.heap.size w w' from ⟨by rw [← hbl];exact hh.1,hh.2⟩))
   rw [show q.1.sm.hl=bl from hbl] at hp
   clear hq hqm hms hrg hbl
   cases bl with
   | true =>
    rw [if_pos rfl] at hp
    have HP2:=Lh (show P=(D++[k])++Qc6 SMd.hl ((Qm ML).drop (k+1)) (k+1) by rw [hp];simp)
    clear hp
    go_wp2_with (first
     | (refine Qb rfl 51 (.tmp 16) rfl b0 (off0+k*7) rfl (moC q.1.hl q.1.he q.2) HRG.out Try.underlying51 rfl Jm ?_)
     | (refine Qa rfl 51 (.tmp 7) (.tmp 17) rfl (G:=wr.heap.size) (off:=0) rfl (us:=moC q.1.hl q.1.he q.2) (Var.new wr (moC false false MoV.nul) 51 rfl) rfl Jm (Nat.le_refl 7) HONE.out ?_;intro w2 ht hs;have tb:=((Tn.alloc (fun k=>k=wr.heap.size) wr (.cells (moC false false MoV.nul).toArray 51)).trans ht).below nLe (by intro k hk e;omega);have HB2:=Lh (bTr HB tb);have HO2:=Lh (HO.out.below tb);have HV2:=Lh hs;clear ht hs tb)
     | (refine Qb rfl 51 (.tmp 7) rfl wr.heap.size 0 rfl (moC q.1.hl q.1.he q.2) HV2.out.rg Try.underlying51 rfl Jm ?_)
     | (go_at_call 42;refine (HH.out _).mono ?_;rintro e w3 ⟨rfl,b3⟩;have HB3:=Lh (bTr HB2 b3);have HO3:=Lh (HO2.out.below b3))
     | (at_builtin;refine Hid.out ?_)
     | go_in)
    refine Lh ?_
    refine Zd rfl (.tmp 21) (.tmp 23) 43 rfl Qjs w _ w.heap.size _ _ _ [.int .i64 (k:Int)] rfl HO3.out (by simp [Act.eval]) rfl (by intro u hu;simp at hu;subst hu;rfl) HB3.out (by omega) (by omega) ?_
    intro v2 w4 ho2 hb2
    go_wp2
    refine ⟨⟨k+1,D++[k],by go_num,hlt,by simp;omega,HP2,Lh (by rw [List.length_append,Qaq];exact ho2),Lh hb2⟩,by simp [intOf];omega⟩
   | false =>
    rw [if_neg (by decide)] at hp
    have HP2:=Lh hp
    clear hp
    go_wp2_with (first
     | (refine Qb rfl 51 (.tmp 16) rfl b0 (off0+k*7) rfl (moC q.1.hl q.1.he q.2) HRG.out Try.underlying51 rfl Jm ?_)
     | (refine Qa rfl 51 (.tmp 7) (.tmp 17) rfl (G:=wr.heap.size) (off:=0) rfl (us:=moC q.1.hl q.1.he q.2) (Var.new wr (moC false false MoV.nul) 51 rfl) rfl Jm (Nat.le_refl 7) HONE.out ?_;intro w2 ht hs;have tb:=((Tn.alloc (fun k=>k=wr.heap.size) wr (.cells (moC false false MoV.nul).toArray 51)).trans ht).below nLe (by intro k hk e;omega);have HB2:=Lh (bTr HB tb);have HO2:=Lh (HO.out.below tb);have HV2:=Lh hs;clear ht hs tb)
     | (refine Qb rfl 51 (.tmp 7) rfl wr.heap.size 0 rfl (moC q.1.hl q.1.he q.2) HV2.out.rg Try.underlying51 rfl Jm ?_)
     | (go_at_call 42;refine (HH.out _).mono ?_;rintro e w3 ⟨rfl,b3⟩;have HB3:=Lh (bTr HB2 b3);have HO3:=Lh (HO2.out.below b3))
     | go_in)
    go_roundw
    case rel=>exact ⟨k+1,D,by go_num,hlt,by omega,HP2,HO3,HB3⟩
    case measure=>simp [intOf];omega
  ·obtain rfl:X.n=k:=by omega
   have hp:=HP.out
   rw [List.drop_eq_nil_of_le (by rw [Qw,HLn.out];exact Nat.le_refl _),Qc6,List.append_nil] at hp
   have HE:=Lh hp
   clear hp
   go_wp2
   go_ret
   exact ⟨_,rfl,by rw [HE.out];exact HO.out,HB.out⟩
theorem seff_has(hl he:Bool)(v:MoV)(h1:∀ u∈moC hl he v,u.oneCell'=true)(w:World):CP 43 #[.agg (moC hl he v).toArray] w fun e w'=>e=.returned (.bool he)∧Below w.heap.size w w':=by
 have hb:Below w.heap.size w (w.alloc (.cells (moC hl he v).toArray 51)):=bAl
 have c1:(w.alloc (.cells (moC hl he v).toArray 51)).cell? ⟨w.heap.size,3,none⟩=some (.bool he):=(Var.new w (moC hl he v) 51 rfl).at 3 rfl
 have HB:=Lh hb
 clear hb h1
 go_enter Try.func43,Try.ntmps43
 go_wp2
 go_ret
 exact ⟨rfl,HB.out⟩
theorem Qk7{X:MkA}{S:Nat→Prop}{N:List ByteArray}{ML:List OMo}{l:List ByteArray}{qi qo:Nat}{f:Int×ByteArray→Option Int}{g:Int×ByteArray→Option (Int×Int)}{la ef:Int}{w:World}(h:Mk X l qi f qo g la ef w)(hr:Rd X S N ML w) :
  CP 41 #[.pointer (some ⟨X.G+4,0,none⟩),.func (Fn.func 43) #[] #[]] w (Qbs (Qc6 SMd.he (Qm ML) 0) w):=by
 have hzm:=Qbg
 have c2:w.cell? ⟨X.G+4,2,none⟩=some (.slice X.A X.n X.c):=h.me.at 2 rfl
 have HLn:=Lh hr.sh.len
 have hn64:=hr.hn
 have HRD:=Lh hr
 have hgl:X.G+4<w.heap.size:=h.lt
 obtain ⟨P,hP⟩:∃ P,Qc6 SMd.he (Qm ML) 0=P:=⟨_,rfl⟩
 rw [hP]
 have hPl:P.length≤64:=by rw [← hP];have:=Qfh (p:=SMd.he) (M:=Qm ML) (k:=0);rw [Qw,hr.sh.len] at this;omega
 have HP0:=Lh (show P=[]++Qc6 SMd.he ((Qm ML).drop 0) 0 from hP.symm)
 have HB0:=Lh (Below.refl w.heap.size w)
 have HO0:=Lh (Own.nil w w.heap.size 3 1 nLe)
 clear h hr hP
 unfold Qbs
 go_enter Try.func41,Try.ntmps41
 go_wp2
 clear c2
 go_loopw [5,13] (fun v i wr=>∃ (k:Nat) (D:List Nat),i=.int .i64 (k:Int)∧k≤X.n∧D.length≤k∧Hid (P=D++Qc6 SMd.he ((Qm ML).drop k) k)∧Hid (Own wr w.heap.size 3 1 v D.length (Qjr D))∧Hid (Below w.heap.size w wr)) (fun _ i _=>X.n-(intOf i).toNat)
 case atStart=>exact ⟨0,[],rfl,Nat.zero_le _,Nat.zero_le _,HP0,HO0,HB0⟩
 case round =>
  clear HP0 HO0 HB0
  obtain ⟨k,D,rfl,hk,hD,HP,HO,HB⟩:=hrel
  have HRW:=Lh (HRD.out.low (HB.out.mono (by omega)))
  by_cases hlt:k<X.n
  ·obtain ⟨b0,off0,q,hA0,hq,hqm,hms,hrg⟩:=HRW.out.sh.rg hlt
   rw [hA0]
   obtain ⟨VA,vc,hv⟩:=HO.out.form
   subst hv
   have hp:=HP.out
   rw [Zm hq,Qc6] at hp
   have HONE:=Lh (hms.ones q.1.hl q.1.he)
   have HRG:=Lh hrg
   obtain ⟨bl,hbl⟩:∃ bl,q.1.he=bl:=⟨_,rfl⟩
   have HH:=Lh (fun w=>(seff_has q.1.hl q.1.he q.2 HONE.out w).mono fun e w' hh=>(show e=.returned (.bool bl)∧Below w.heap.size w w' from ⟨by rw [← hbl];exact hh.1,hh.2⟩))
   rw [show q.1.sm.he=bl from hbl] at hp
   clear hq hqm hms hrg hbl
   cases bl with
   | true =>
    rw [if_pos rfl] at hp
    have HP2:=Lh (show P=(D++[k])++Qc6 SMd.he ((Qm ML).drop (k+1)) (k+1) by rw [hp];simp)
    clear hp
    go_wp2_with (first
     | (refine Qb rfl 51 (.tmp 16) rfl b0 (off0+k*7) rfl (moC q.1.hl q.1.he q.2) HRG.out Try.underlying51 rfl Jm ?_)
     | (refine Qa rfl 51 (.tmp 7) (.tmp 17) rfl (G:=wr.heap.size) (off:=0) rfl (us:=moC q.1.hl q.1.he q.2) (Var.new wr (moC false false MoV.nul) 51 rfl) rfl Jm (Nat.le_refl 7) HONE.out ?_;intro w2 ht hs;have tb:=((Tn.alloc (fun k=>k=wr.heap.size) wr (.cells (moC false false MoV.nul).toArray 51)).trans ht).below nLe (by intro k hk e;omega);have HB2:=Lh (bTr HB tb);have HO2:=Lh (HO.out.below tb);have HV2:=Lh hs;clear ht hs tb)
     | (refine Qb rfl 51 (.tmp 7) rfl wr.heap.size 0 rfl (moC q.1.hl q.1.he q.2) HV2.out.rg Try.underlying51 rfl Jm ?_)
     | (go_at_call 43;refine (HH.out _).mono ?_;rintro e w3 ⟨rfl,b3⟩;have HB3:=Lh (bTr HB2 b3);have HO3:=Lh (HO2.out.below b3))
     | (at_builtin;refine Hid.out ?_)
     | go_in)
    refine Lh ?_
    refine Zd rfl (.tmp 21) (.tmp 23) 43 rfl Qjs w _ w.heap.size _ _ _ [.int .i64 (k:Int)] rfl HO3.out (by simp [Act.eval]) rfl (by intro u hu;simp at hu;subst hu;rfl) HB3.out (by omega) (by omega) ?_
    intro v2 w4 ho2 hb2
    go_wp2
    refine ⟨⟨k+1,D++[k],by go_num,hlt,by simp;omega,HP2,Lh (by rw [List.length_append,Qaq];exact ho2),Lh hb2⟩,by simp [intOf];omega⟩
   | false =>
    rw [if_neg (by decide)] at hp
    have HP2:=Lh hp
    clear hp
    go_wp2_with (first
     | (refine Qb rfl 51 (.tmp 16) rfl b0 (off0+k*7) rfl (moC q.1.hl q.1.he q.2) HRG.out Try.underlying51 rfl Jm ?_)
     | (refine Qa rfl 51 (.tmp 7) (.tmp 17) rfl (G:=wr.heap.size) (off:=0) rfl (us:=moC q.1.hl q.1.he q.2) (Var.new wr (moC false false MoV.nul) 51 rfl) rfl Jm (Nat.le_refl 7) HONE.out ?_;intro w2 ht hs;have tb:=((Tn.alloc (fun k=>k=wr.heap.size) wr (.cells (moC false false MoV.nul).toArray 51)).trans ht).below nLe (by intro k hk e;omega);have HB2:=Lh (bTr HB tb);have HO2:=Lh (HO.out.below tb);have HV2:=Lh hs;clear ht hs tb)
     | (refine Qb rfl 51 (.tmp 7) rfl wr.heap.size 0 rfl (moC q.1.hl q.1.he q.2) HV2.out.rg Try.underlying51 rfl Jm ?_)
     | (go_at_call 43;refine (HH.out _).mono ?_;rintro e w3 ⟨rfl,b3⟩;have HB3:=Lh (bTr HB2 b3);have HO3:=Lh (HO2.out.below b3))
     | go_in)
    go_roundw
    case rel=>exact ⟨k+1,D,by go_num,hlt,by omega,HP2,HO3,HB3⟩
    case measure=>simp [intOf];omega
  ·obtain rfl:X.n=k:=by omega
   have hp:=HP.out
   rw [List.drop_eq_nil_of_le (by rw [Qw,HLn.out];exact Nat.le_refl _),Qc6,List.append_nil] at hp
   have HE:=Lh hp
   clear hp
   go_wp2
   go_ret
   exact ⟨_,rfl,by rw [HE.out];exact HO.out,HB.out⟩
theorem Ul{w:World}{B n c g:Nat}{e:TypeId}{xs:List Value}(h:Own w B e 1 (.slice (some ⟨g,0,none⟩) n c) n xs){j:Nat}{u:Value}(hu:xs[j]?=some u):w.cell? ⟨g,j,none⟩=some u:=by
 have:=h.1.cells (g:=g) rfl j u hu
 rwa [Addr.add_lit,Nat.zero_add] at this
theorem Qg9{X:MkA}{S:Nat→Prop}{N:List ByteArray}{ML:List OMo}{l:List ByteArray}{qi qo:Nat}{f:Int×ByteArray→Option Int}{g:Int×ByteArray→Option (Int×Int)}{la ef:Int}{w:World}(h:Mk X l qi f qo g la ef w)(hr:Rd X S N ML w) :
  CP 26 #[.pointer (some ⟨X.G+4,0,none⟩)] w (Yt X (latR (Qm ML)) (Mk X l qi f qo g (nth SMd.hl (Qm ML) 0 0) ef) w):=by
 have HT:=Lh (Qk6 h hr)
 have hn0:=Uk (p:=SMd.hl) (M:=Qm ML) (i:=0) (k:=0)
 have hn1:=Uk (p:=SMd.hl) (M:=Qm ML) (i:=1) (k:=0)
 obtain ⟨R,hR⟩:∃ R,latR (Qm ML)=R:=⟨_,rfl⟩
 obtain ⟨P,hP⟩:∃ P,Qc6 SMd.hl (Qm ML) 0=P:=⟨_,rfl⟩
 obtain ⟨y,hy⟩:∃ y,nth SMd.hl (Qm ML) 0 0=y:=⟨_,rfl⟩
 unfold latR at hR
 rw [hn1] at hR
 rw [hP] at HT hn0 hR
 rw [hy] at hn0 ⊢
 rw [hy] at hR
 rw [show latR (Qm ML)=R by unfold latR;rw [hn1,hP,hy];exact hR]
 unfold Qbs at HT
 have HM:=Lh h
 clear hn1 hP hy h hr
 rcases P with _ | ⟨a,_ | ⟨b,r⟩⟩
 ·
  have hR2:R=some (0,0,17):=by rw [← hR,hn0];rfl
  have HE:=Lh hR2
  obtain ⟨L,hL⟩:∃ L:List Nat,[]=L:=⟨_,rfl⟩
  have hm:L.length=0:=by rw [← hL];rfl
  rw [hL,hm] at HT
  clear hR hR2 hm hL hn0
  go_enter Try.func26,Try.ntmps26
  go_wp2_with (first
   | (go_at_call 41;refine HT.out.mono ?_;rintro e w1 ⟨v,rfl,ho,b1⟩;obtain ⟨VA,vc,hv⟩:=ho.form;subst hv;have HB1:=Lh (Bg.of (X:=X) b1);clear ho b1)
   | go_in)
  go_ret3
  exact Yt.bad (i:=0) HE.out HB1.out
 ·
  have hya:y=(a:Int):=hn0
  have hR2:R=none:=by rw [← hR,hya,if_neg (show ¬ (a:Int)<0 by omega)];rfl
  subst hya
  have HE:=Lh hR2
  obtain ⟨L,hL⟩:∃ L,[a]=L:=⟨_,rfl⟩
  have HA:=Lh (show (Qjr L)[0]?=some (.int .i64 (a:Int)) by rw [← hL];rfl)
  have hm:L.length=1:=by rw [← hL];rfl
  rw [hL,hm] at HT
  clear hR hR2 hm hL hn0
  go_enter Try.func26,Try.ntmps26
  go_wp2_with (first
   | (go_at_call 41;refine HT.out.mono ?_;rintro e w1 ⟨v,rfl,ho,b1⟩;obtain ⟨gb,cap,hv,hle,hbl⟩:=ho.1.form (show 0<1 by omega);subst hv;have l0:w1.cell? ⟨gb,0,none⟩=some (.int .i64 (a:Int)):=Ul ho HA.out;have HM1:=Lh (HM.out.under b1);have HB1:=Lh (Bg.of (X:=X) b1);have m0:w1.cell? ⟨X.G+4,0,none⟩=some (.pointer (some ⟨X.G+2,0,none⟩)):=HM1.out.me.at 0 rfl;have s3:w1.cell? ⟨X.G+2,3,none⟩=some (.int .i64 la):=HM1.out.sc.at 3 rfl;have f3:w1.frozen? ⟨X.G+2,3,none⟩=false:=HM1.out.sc.fz 3 (by show 3<5;omega);clear ho b1)
   | go_in)
  go_region
  all_goals
   have HS:=HM1.out.setL (a:Int)
   go_wp2
   go_ret3
   exact Yt.good HE.out (HB1.out.trans HS.2) HS.1
 ·
  have hya:y=(a:Int):=hn0
  have hR2:R=some (b,0,17):=by rw [← hR,hya,if_neg (show ¬ (a:Int)<0 by omega)];exact if_pos (show (0:Int)≤(b:Int) by omega)
  have HE:=Lh hR2
  have hl1:(1:Int)<((a::b::r).length:Int):=by simp;omega
  have hl0:(((a::b::r).length:Int)==0)=false:=by simp;omega
  obtain ⟨L,hL⟩:∃ L,a::b::r=L:=⟨_,rfl⟩
  have HB:=Lh (show (Qjr L)[1]?=some (.int .i64 (b:Int)) by rw [← hL];rfl)
  rw [hL] at HT hl1 hl0
  obtain ⟨m,hm⟩:∃ m,L.length=m:=⟨_,rfl⟩
  rw [hm] at HT hl1 hl0
  clear hR hR2 hm hL hn0 hya
  go_enter Try.func26,Try.ntmps26
  go_wp2_with (first
   | (go_at_call 41;refine HT.out.mono ?_;rintro e w1 ⟨v,rfl,ho,b1⟩;obtain ⟨gb,cap,hv,hle,hbl⟩:=ho.1.form (show 0<m by omega);subst hv;have l1:w1.cell? ⟨gb,1,none⟩=some (.int .i64 (b:Int)):=Ul ho HB.out;have HB1:=Lh (Bg.of (X:=X) b1);clear ho b1)
   | go_in)
  go_ret3
  exact Yt.bad HE.out HB1.out
theorem Qha{X:MkA}{S:Nat→Prop}{N:List ByteArray}{ML:List OMo}{l:List ByteArray}{qi qo:Nat}{f:Int×ByteArray→Option Int}{g:Int×ByteArray→Option (Int×Int)}{la:Int}{w:World}(h:Mk X l qi f qo g la (-1) w)(hr:Rd X S N ML w) :
  CP 27 #[.pointer (some ⟨X.G+4,0,none⟩)] w (Yt X (effR (Qm ML)) (Mk X l qi f qo g la (nth SMd.he (Qm ML) 0 0)) w):=by
 have HT:=Lh (Qk7 h hr)
 have hn0:=Uk (p:=SMd.he) (M:=Qm ML) (i:=0) (k:=0)
 have hn1:=Uk (p:=SMd.he) (M:=Qm ML) (i:=1) (k:=0)
 obtain ⟨R,hR⟩:∃ R,effR (Qm ML)=R:=⟨_,rfl⟩
 obtain ⟨P,hP⟩:∃ P,Qc6 SMd.he (Qm ML) 0=P:=⟨_,rfl⟩
 obtain ⟨y,hy⟩:∃ y,nth SMd.he (Qm ML) 0 0=y:=⟨_,rfl⟩
 unfold effR at hR
 rw [hn1] at hR
 rw [hP] at HT hn0 hR
 rw [hy] at hn0 ⊢
 rw [show effR (Qm ML)=R by unfold effR;rw [hn1,hP];exact hR]
 unfold Qbs at HT
 have HM:=Lh h
 clear hn1 hP hy h hr
 rcases P with _ | ⟨a,_ | ⟨b,r⟩⟩
 ·
  have hR2:R=none:=by rw [← hR];rfl
  have hya:y=-1:=hn0
  subst hya
  have HE:=Lh hR2
  obtain ⟨L,hL⟩:∃ L:List Nat,[]=L:=⟨_,rfl⟩
  have hm:L.length=0:=by rw [← hL];rfl
  rw [hL,hm] at HT
  clear hR hR2 hm hL hn0
  go_enter Try.func27,Try.ntmps27
  go_wp2_with (first
   | (go_at_call 41;refine HT.out.mono ?_;rintro e w1 ⟨v,rfl,ho,b1⟩;obtain ⟨VA,vc,hv⟩:=ho.form;subst hv;have HM1:=Lh (HM.out.under b1);have HB1:=Lh (Bg.of (X:=X) b1);clear ho b1)
   | go_in)
  go_ret3
  exact Yt.good HE.out HB1.out HM1.out
 ·
  have hya:y=(a:Int):=hn0
  have hR2:R=none:=by rw [← hR];rfl
  subst hya
  have HE:=Lh hR2
  obtain ⟨L,hL⟩:∃ L,[a]=L:=⟨_,rfl⟩
  have HA:=Lh (show (Qjr L)[0]?=some (.int .i64 (a:Int)) by rw [← hL];rfl)
  have hm:L.length=1:=by rw [← hL];rfl
  rw [hL,hm] at HT
  clear hR hR2 hm hL hn0
  go_enter Try.func27,Try.ntmps27
  go_wp2_with (first
   | (go_at_call 41;refine HT.out.mono ?_;rintro e w1 ⟨v,rfl,ho,b1⟩;obtain ⟨gb,cap,hv,hle,hbl⟩:=ho.1.form (show 0<1 by omega);subst hv;have l0:w1.cell? ⟨gb,0,none⟩=some (.int .i64 (a:Int)):=Ul ho HA.out;have HM1:=Lh (HM.out.under b1);have HB1:=Lh (Bg.of (X:=X) b1);have m0:w1.cell? ⟨X.G+4,0,none⟩=some (.pointer (some ⟨X.G+2,0,none⟩)):=HM1.out.me.at 0 rfl;have s3:w1.cell? ⟨X.G+2,4,none⟩=some (.int .i64 (-1)):=HM1.out.sc.at 4 rfl;have f3:w1.frozen? ⟨X.G+2,4,none⟩=false:=HM1.out.sc.fz 4 (by show 4<5;omega);clear ho b1)
   | go_in)
  go_region
  all_goals
   have HS:=HM1.out.setE (a:Int)
   go_wp2
   go_ret3
   exact Yt.good HE.out (HB1.out.trans HS.2) HS.1
 ·
  have hya:y=(a:Int):=hn0
  have hR2:R=some (b,0,7):=by rw [← hR];exact if_pos (show (0:Int)≤(b:Int) by omega)
  have HE:=Lh hR2
  have hl1:(1:Int)<((a::b::r).length:Int):=by simp;omega
  have hl0:(((a::b::r).length:Int)==0)=false:=by simp;omega
  obtain ⟨L,hL⟩:∃ L,a::b::r=L:=⟨_,rfl⟩
  have HB:=Lh (show (Qjr L)[1]?=some (.int .i64 (b:Int)) by rw [← hL];rfl)
  rw [hL] at HT hl1 hl0
  obtain ⟨m,hm⟩:∃ m,L.length=m:=⟨_,rfl⟩
  rw [hm] at HT hl1 hl0
  clear hR hR2 hm hL hn0 hya
  go_enter Try.func27,Try.ntmps27
  go_wp2_with (first
   | (go_at_call 41;refine HT.out.mono ?_;rintro e w1 ⟨v,rfl,ho,b1⟩;obtain ⟨gb,cap,hv,hle,hbl⟩:=ho.1.form (show 0<m by omega);subst hv;have l1:w1.cell? ⟨gb,1,none⟩=some (.int .i64 (b:Int)):=Ul ho HB.out;have HB1:=Lh (Bg.of (X:=X) b1);clear ho b1)
   | go_in)
  go_ret3
  exact Yt.bad HE.out HB1.out
end Go.Proofs.Ytjoclbeoafeebaa
