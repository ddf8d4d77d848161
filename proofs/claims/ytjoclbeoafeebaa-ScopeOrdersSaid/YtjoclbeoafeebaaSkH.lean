import Derived.Test.YtjoclbeoafeebaaSq
import Derived.Test.YtjoclbeoafeebaaSkD
set_option maxHeartbeats 1600000
set_option maxRecDepth 100000
namespace Go.Proofs.Ytjoclbeoafeebaa
set_option linter.unusedVariables false
set_option linter.unusedSimpArgs false
open Go.RowKit Go.Maps
def nmcs(L:List (Int×ByteArray)):List Value:=L.flatMap fun p=>[.int .i64 p.1,.string p.2]
theorem rowNmS:Kq Try.prog 109 102 2 24:=Kq.mk (z:=.agg #[.int .i64 0,.string ⟨#[]⟩]) Try.underlying109 (by kernel_rfl) rfl (by omega)
structure ScW (N:List ByteArray) (M:List SMd) (g mo mi:Nat) (la ef:Int) (w:World):Prop where
 v:Var w g (scC M.length mo mi la ef)
 im:∃ k,Qhb.At w mi k (Qc5 N M)
 ow:∃ k,mOwn.At w mo k (Uv M)
theorem ScW.under{N:List ByteArray}{M:List SMd}{g mo mi:Nat}{la ef:Int}{w w':World}(h:ScW N M g mo mi la ef w)(hb:Below w.heap.size w w'):ScW N M g mo mi la ef w':=by
 obtain ⟨k1,h1⟩:=h.im
 obtain ⟨k2,h2⟩:=h.ow
 exact ⟨h.v.under hb,⟨k1,h1.stay (hb.block _ h1.lt)⟩,⟨k2,h2.stay (hb.block _ h2.lt)⟩⟩
def Qk3(w:World)(b:Nat)(L:List (Int×ByteArray)):Prop:=b<w.heap.size∧∀ k p,L[k]?=some p→w.cell? ⟨b,k*2,none⟩=some (.int .i64 p.1)∧w.cell? ⟨b,k*2+1,none⟩=some (.string p.2)
theorem Qk3.under{w w':World}{b:Nat}{L:List (Int×ByteArray)}(h:Qk3 w b L)(hb:Below w.heap.size w w'):Qk3 w' b L:=⟨Nat.lt_of_lt_of_le h.1 hb.size,fun k p hp=>⟨(World.cell?_of_block (a:=⟨b,_,none⟩) (hb.block b h.1)).trans (h.2 k p hp).1,(World.cell?_of_block (a:=⟨b,_,none⟩) (hb.block b h.1)).trans (h.2 k p hp).2⟩⟩
theorem Qim:∀ {L:List (Int×ByteArray)} {k:Nat} {p:Int×ByteArray},L[k]?=some p→(nmcs L)[k*2]?=some (.int .i64 p.1)∧(nmcs L)[k*2+1]?=some (.string p.2)
 | [],k,x,h=>by cases h
 | a::L,0,x,h=>by cases h;exact ⟨rfl,rfl⟩
 | a::L,k+1,x,h=>by
  have:=Qim (L:=L) (k:=k) (p:=x) (by simpa using h)
  have h2:∀ j,(nmcs (a::L))[j+2]?=(nmcs L)[j]?:=fun j=>rfl
  rw [show (k+1)*2=k*2+2 by omega,show k*2+2+1=(k*2+1)+2 by omega,h2,h2]
  exact this
theorem Qk3.of{w:World}{b:Nat}{L:List (Int×ByteArray)}(hb:b<w.heap.size)(h:∀ j u,(nmcs L)[j]?=some u→w.cell? ⟨b,j,none⟩=some u):Qk3 w b L:=⟨hb,fun k p hp=>⟨h _ _ (Qim hp).1,h _ _ (Qim hp).2⟩⟩
theorem U8{f:Int×ByteArray→Option (Int×Int)}{kd:Int}{L:List (Int×ByteArray)}{k:Nat}{p:Int×ByteArray}(h:L[k]?=some p):Jt f kd (L.drop k)=match Qhe kd (f p) with
  | some i=>(p.1,i,true)
  | none=>Jt f kd (L.drop (k+1)):=by
 obtain ⟨h1,h2⟩:=List.getElem?_eq_some_iff.1 h
 rw [List.drop_eq_getElem_cons h1,h2,Jt]
 cases Qhe kd (f p) <;> rfl
theorem Qg7{w:World}{g mo mi:Nat}{la ef:Int}{N:List ByteArray}{M:List SMd}(hw:ScW N M g mo mi la ef w)(hN:Qhd N M)(hO:OwOk M)(file:Int)(s:ByteArray)(kd:Int)(hk:kd=0∨kd=1)(h1:-9223372036854775808≤file)(h2:file≤9223372036854775807)(hs:s.size≤100000) :
  CP 31 #[.pointer (some ⟨g,0,none⟩),.int .i64 file,.string s,.int .i64 kd] w (Qc4 (Ju (Qeb kd) N M file s) w):=by
 have hzn:=Qog
 have hzt:=Qoh
 have HC:=Lh (fun w=>cut_dot s w (by omega))
 have b0:Below w.heap.size w (w.alloc (.cells #[.int .i64 file,.string s] 102)):=bAl
 have HB0:=Lh b0
 have HW0:=Lh (hw.under b0)
 have V0:=Var.new w [.int .i64 file,.string s] 102 rfl
 have HS0:=Lh (Qk3.of (L:=[(file,s)]) V0.lt fun j u hu=>V0.at j hu)
 clear V0
 cases hd:Qa9 s.data.toList with
 | none =>
  rw [hd] at HC
  have HF:=Lh (Qil (N:=N) hO hk (file:=file) hd)
  obtain ⟨R,hR⟩:∃ R,fdT (Ju (Qeb kd) N M file s)=R:=⟨_,rfl⟩
  unfold Qc4
  rw [hR] at HF ⊢
  clear hd b0 hw hN hO hR
  go_enter Try.func31,Try.ntmps31
  go_wp2_with (first
   | (go_at_call 47;refine (HC.out _).mono ?_;rintro e w1 ⟨⟨n,rfl⟩,rfl⟩)
   | go_in)
  obtain ⟨L,hL⟩:∃ L,[(file,s)]=L:=⟨_,rfl⟩
  have hLm:L.length=1:=by rw [← hL];rfl
  have HP:=Lh (show ∀ p∈L,-9223372036854775808≤p.1∧p.1≤9223372036854775807∧p.2.size≤1000000 from fun p hp=>by rw [← hL] at hp;rw [List.mem_singleton.1 hp];exact ⟨h1,h2,by show s.size≤_;omega⟩)
  obtain ⟨w1,hw1⟩:∃ w1,(w.alloc (.cells #[.int .i64 file,.string s] 102)).drewN n=w1:=⟨_,rfl⟩
  have HS:=Lh (show Qk3 w1 w.heap.size L by rw [← hw1,← hL];exact HS0.out)
  have HW:=Lh (show ScW N M g mo mi la ef w1 by rw [← hw1];exact HW0.out.under ((Quiet.one _ n).below _))
  have HB:=Lh (show Below w.heap.size w w1 by rw [← hw1];exact HB0.out.trans ((Quiet.one _ n).below _))
  have HL:Hid (Jt (Uv M) kd (L.drop 0)=R):=Lh (by rw [← hL];exact HF.out)
  rw [hw1]
  clear hw1 hL HS0 HW0 HB0 HF HC
  go_loopw [54] (fun i wr=>∃ k:Nat,i=.int .i64 (k:Int)∧k≤1∧Hid (Jt (Uv M) kd (L.drop k)=R)∧Hid (Qk3 wr w.heap.size L)∧Hid (ScW N M g mo mi la ef wr)∧Hid (Below w.heap.size w wr)) (fun i _=>1-(intOf i).toNat)
  case atStart=>exact ⟨0,rfl,Nat.zero_le _,HL,HS,HW,HB⟩
  case round =>
   clear HS HW HB HL
   obtain ⟨k,rfl,hk',HL,HS,HW,HB⟩:=hrel
   by_cases hlt:k<1
   ·have hlt':(k:Int)<1:=by omega
    obtain ⟨⟨i,x⟩,hp⟩:∃ p,L[k]?=some p:=⟨_,List.getElem?_eq_getElem (by rw [hLm];exact hlt)⟩
    obtain ⟨c0,c1⟩:=HS.out.2 k _ hp
    dsimp only at c0 c1
    obtain ⟨p1,p2,p3⟩:=HP.out _ (List.mem_of_getElem? hp)
    dsimp only at p1 p2 p3
    have hdr:=U8 (f:=Uv M) (kd:=kd) hp
    rw [HL.out] at hdr
    have HD:=Lh hdr
    have b1:Below wr.heap.size wr (wr.alloc (.cells #[.int .i64 i,.string x] 102)):=bAl
    have HW2:=HW.out.under b1
    obtain ⟨kw,hkw⟩:=HW2.ow
    have hlk:=Jl hkw p1 p2 p3
    have HS2:=Lh (HS.out.under b1)
    have HB2:=Lh (bTr HB b1)
    have d0:(wr.alloc (.cells #[.int .i64 i,.string x] 102)).cell? ⟨wr.heap.size,0,none⟩=some (.int .i64 i):=(Var.new wr [.int .i64 i,.string x] 102 rfl).at 0 rfl
    have d1:(wr.alloc (.cells #[.int .i64 i,.string x] 102)).cell? ⟨wr.heap.size,1,none⟩=some (.string x):=(Var.new wr [.int .i64 i,.string x] 102 rfl).at 1 rfl
    have g1:(wr.alloc (.cells #[.int .i64 i,.string x] 102)).cell? ⟨g,1,none⟩=some (.map (some mo)):=HW2.v.at 1 rfl
    have HW2:=Lh HW2
    clear hdr hp
    go_wp2
    obtain ⟨w2,hw2⟩:∃ w2,wr.alloc (.cells #[.int .i64 i,.string x] 102)=w2:=⟨_,rfl⟩
    rw [hw2] at hkw hlk HW2 HS2 HB2 d0 d1 g1
    rw [hw2]
    have hs2:w2.heap.size=wr.heap.size+1:=by rw [← hw2];simp
    have b3:Below w2.heap.size w2 (w2.alloc (.cells #[.int .i64 0,.int .i64 0] 107)):=bAl
    have hgl:g<w2.heap.size:=HW2.out.v.lt
    have hbl:wr.heap.size<w2.heap.size:=by omega
    have hlk1:=Jl (hkw.stay (w':=w2.drew) rfl) p1 p2 p3
    have hlk2:=Jl (hkw.stay (w':=(w2.alloc (.cells #[.int .i64 0,.int .i64 0] 107)).drew) (b3.block _ hkw.lt)) p1 p2 p3
    have ga:(w2.alloc (.cells #[.int .i64 0,.int .i64 0] 107)).cell? ⟨g,1,none⟩=some (.map (some mo)):=(World.cell?_of_block (a:=⟨g,1,none⟩) (b3.block g hgl)).trans g1
    have da0:(w2.alloc (.cells #[.int .i64 0,.int .i64 0] 107)).cell? ⟨wr.heap.size,0,none⟩=some (.int .i64 i):=(World.cell?_of_block (a:=⟨wr.heap.size,0,none⟩) (b3.block _ hbl)).trans d0
    have da1:(w2.alloc (.cells #[.int .i64 0,.int .i64 0] 107)).cell? ⟨wr.heap.size,1,none⟩=some (.string x):=(World.cell?_of_block (a:=⟨wr.heap.size,1,none⟩) (b3.block _ hbl)).trans d1
    have HWK:=Lh (fun (t0 t1:Int)=>show Below w2.heap.size w2 (w2.alloc (.cells #[.int .i64 t0,.int .i64 t1] 107)).drew∧Var (w2.alloc (.cells #[.int .i64 t0,.int .i64 t1] 107)).drew (wr.heap.size+1) [.int .i64 t0,.int .i64 t1]∧(w2.alloc (.cells #[.int .i64 t0,.int .i64 t1] 107)).drew.cell? ⟨wr.heap.size,0,none⟩=some (.int .i64 i) from by
     have h5:Below w2.heap.size w2 (w2.alloc (.cells #[.int .i64 t0,.int .i64 t1] 107)).drew:=((Tn.alloc (fun _=>False) w2 (.cells #[.int .i64 t0,.int .i64 t1] 107)).trans (Tn.drew _ _)).below nLe (fun _ _ h=>h)
     refine ⟨h5,?_,(World.cell?_of_block (a:=⟨wr.heap.size,0,none⟩) (h5.block _ hbl)).trans d0⟩
     have h6:=(Var.new w2 [.int .i64 t0,.int .i64 t1] 107 rfl).keep (w':=(w2.alloc (.cells #[.int .i64 t0,.int .i64 t1] 107)).drew) rfl nLe
     rw [hs2] at h6
     exact h6)
    clear hw2 b3 b1
    cases hf:Uv M (i,x) with
    | none =>
     rw [hf] at hlk hlk1 hlk2 HD
     dsimp only [Option.getD,Option.isSome] at hlk hlk1 hlk2
     have HD2:=Lh (show Jt (Uv M) kd (L.drop (k+1))=R from HD.out.symm)
     obtain ⟨b4,V4,e4⟩:=HWK.out 0 0
     clear hf HD HWK
     go_region
     all_goals
      have B4:=Lh (bTr HB2 b4)
      have W4:=Lh (HW2.out.under b4)
      have S4:=Lh (HS2.out.under b4)
      obtain ⟨w4,hw4⟩:∃ w4,(w2.alloc (.cells #[.int .i64 0,.int .i64 0] 107)).drew=w4:=⟨_,rfl⟩
      rw [hw4] at B4 W4 S4 V4
      rw [hw4]
      clear hw4 b4 e4
      go_wp2
      go_roundw
      case rel=>exact ⟨k+1,by go_num,hlt,HD2,S4,W4,B4⟩
      case measure=>simp [intOf];omega
    | some t0 =>
     obtain ⟨q0,q1⟩:=t0
     rw [hf] at hlk hlk1 hlk2 HD
     dsimp only [Option.getD,Option.isSome] at hlk hlk1 hlk2
     by_cases hq:q0=kd
     ·have HD2:=Lh (show R=(i,q1,true) from by rw [HD.out];simp [Qhe,hq])
      obtain ⟨b4,V4,e4⟩:=HWK.out q0 q1
      subst hq
      clear hf HD HWK
      go_region
      all_goals
       have B4:=Lh (bTr HB2 b4)
       obtain ⟨w4,hw4⟩:∃ w4,(w2.alloc (.cells #[.int .i64 q0,.int .i64 q1] 107)).drew=w4:=⟨_,rfl⟩
       rw [hw4] at B4 V4 e4
       rw [hw4]
       have v0:w4.cell? ⟨wr.heap.size+1,0,none⟩=some (.int .i64 q0):=V4.at 0 rfl
       have v1:w4.cell? ⟨wr.heap.size+1,1,none⟩=some (.int .i64 q1):=V4.at 1 rfl
       clear hw4 b4
       go_wp2
       go_region
       all_goals
        go_wp2
        go_ret3
        exact ⟨by rw [HD2.out];rfl,B4.out.trans ((Quiet.one _ 1).below _)⟩
     ·have HD2:=Lh (show Jt (Uv M) kd (L.drop (k+1))=R from by rw [HD.out];simp [Qhe,hq])
      obtain ⟨b4,V4,e4⟩:=HWK.out q0 q1
      have hqb:(q0==kd)=false:=by simpa using hq
      clear hq
      clear hf HD HWK
      go_region
      all_goals
       have B4:=Lh (bTr HB2 b4)
       have W4:=Lh (HW2.out.under b4)
       have S4:=Lh (HS2.out.under b4)
       obtain ⟨w4,hw4⟩:∃ w4,(w2.alloc (.cells #[.int .i64 q0,.int .i64 q1] 107)).drew=w4:=⟨_,rfl⟩
       rw [hw4] at B4 W4 S4 V4
       rw [hw4]
       have v0:w4.cell? ⟨wr.heap.size+1,0,none⟩=some (.int .i64 q0):=V4.at 0 rfl
       clear hw4 b4 e4
       go_wp2
       go_roundw
       case rel=>exact ⟨k+1,by go_num,hlt,HD2,S4,W4,B4⟩
       case measure=>simp [intOf];omega
   ·obtain rfl:k=1:=by omega
    have hl:=HL.out
    rw [List.drop_eq_nil_of_le (by rw [hLm];exact Nat.le_refl _),Jt] at hl
    have HE:=Lh hl
    clear hl
    go_wp2
    go_ret3
    exact ⟨by rw [← HE.out];rfl,HB.out⟩
 | some d =>
  rw [hd] at HC
  have hx1:(s.extract 0 d).size≤1000000:=by have:=ByteArray.size_extract (a:=s) (b:=0) (e:=d);omega
  have hx2:(s.extract (d+1) s.size).size≤1000000:=by have:=ByteArray.size_extract (a:=s) (b:=d+1) (e:=s.size);omega
  have hil:∀ n,(Instr.lookup 59 (.map (some mi)) (.agg #[.int .i64 file,.string (s.extract 0 d)]) true).run Try.prog ((w.alloc (.cells #[.int .i64 file,.string s] 102)).drewN n)=.ok (.tuple #[.int .i64 ((Qc5 N M (file,s.extract 0 d)).getD 0),.bool (Qc5 N M (file,s.extract 0 d)).isSome]) ((w.alloc (.cells #[.int .i64 file,.string s] 102)).drewN n):=fun n=>by
   obtain ⟨kq,hkq⟩:=HW0.out.im
   exact Qg4 (hkq.stay (w':=(w.alloc (.cells #[.int .i64 file,.string s] 102)).drewN n) rfl) h1 h2 hx1
  have g2:∀ n,((w.alloc (.cells #[.int .i64 file,.string s] 102)).drewN n).cell? ⟨g,2,none⟩=some (.map (some mi)):=fun n=>HW0.out.v.at 2 rfl
  cases hf:Qc5 N M (file,s.extract 0 d) with
  | none =>
   rw [hf] at hil
   dsimp only [Option.getD,Option.isSome] at hil
   have HF:=Lh (Qol hO hN hk hd hf)
   obtain ⟨R,hR⟩:∃ R,fdT (Ju (Qeb kd) N M file s)=R:=⟨_,rfl⟩
   unfold Qc4
   rw [hR] at HF ⊢
   clear hd b0 hw hN hO hR hf
   go_enter Try.func31,Try.ntmps31
   go_wp2_with (first
    | (go_at_call 47;refine (HC.out _).mono ?_;rintro e w1 ⟨⟨n,rfl⟩,rfl⟩)
    | go_in)
   clear hil g2
   obtain ⟨L,hL⟩:∃ L,[(file,s)]=L:=⟨_,rfl⟩
   have hLm:L.length=1:=by rw [← hL];rfl
   have HP:=Lh (show ∀ p∈L,-9223372036854775808≤p.1∧p.1≤9223372036854775807∧p.2.size≤1000000 from fun p hp=>by rw [← hL] at hp;rw [List.mem_singleton.1 hp];exact ⟨h1,h2,by show s.size≤_;omega⟩)
   obtain ⟨w1,hw1⟩:∃ w1,(w.alloc (.cells #[.int .i64 file,.string s] 102)).drewN n=w1:=⟨_,rfl⟩
   have HS:=Lh (show Qk3 w1 w.heap.size L by rw [← hw1,← hL];exact HS0.out)
   have HW:=Lh (show ScW N M g mo mi la ef w1 by rw [← hw1];exact HW0.out.under ((Quiet.one _ n).below _))
   have HB:=Lh (show Below w.heap.size w w1 by rw [← hw1];exact HB0.out.trans ((Quiet.one _ n).below _))
   have HL:Hid (Jt (Uv M) kd (L.drop 0)=R):=Lh (by rw [← hL];exact HF.out)
   rw [hw1]
   clear hw1 hL HS0 HW0 HB0 HF HC
   go_loopw [54] (fun i wr=>∃ k:Nat,i=.int .i64 (k:Int)∧k≤1∧Hid (Jt (Uv M) kd (L.drop k)=R)∧Hid (Qk3 wr w.heap.size L)∧Hid (ScW N M g mo mi la ef wr)∧Hid (Below w.heap.size w wr)) (fun i _=>1-(intOf i).toNat)
   case atStart=>exact ⟨0,rfl,Nat.zero_le _,HL,HS,HW,HB⟩
   case round =>
    clear HS HW HB HL
    obtain ⟨k,rfl,hk',HL,HS,HW,HB⟩:=hrel
    by_cases hlt:k<1
    ·have hlt':(k:Int)<1:=by omega
     obtain ⟨⟨i,x⟩,hp⟩:∃ p,L[k]?=some p:=⟨_,List.getElem?_eq_getElem (by rw [hLm];exact hlt)⟩
     obtain ⟨c0,c1⟩:=HS.out.2 k _ hp
     dsimp only at c0 c1
     obtain ⟨p1,p2,p3⟩:=HP.out _ (List.mem_of_getElem? hp)
     dsimp only at p1 p2 p3
     have hdr:=U8 (f:=Uv M) (kd:=kd) hp
     rw [HL.out] at hdr
     have HD:=Lh hdr
     have b1:Below wr.heap.size wr (wr.alloc (.cells #[.int .i64 i,.string x] 102)):=bAl
     have HW2:=HW.out.under b1
     obtain ⟨kw,hkw⟩:=HW2.ow
     have hlk:=Jl hkw p1 p2 p3
     have HS2:=Lh (HS.out.under b1)
     have HB2:=Lh (bTr HB b1)
     have d0:(wr.alloc (.cells #[.int .i64 i,.string x] 102)).cell? ⟨wr.heap.size,0,none⟩=some (.int .i64 i):=(Var.new wr [.int .i64 i,.string x] 102 rfl).at 0 rfl
     have d1:(wr.alloc (.cells #[.int .i64 i,.string x] 102)).cell? ⟨wr.heap.size,1,none⟩=some (.string x):=(Var.new wr [.int .i64 i,.string x] 102 rfl).at 1 rfl
     have g1:(wr.alloc (.cells #[.int .i64 i,.string x] 102)).cell? ⟨g,1,none⟩=some (.map (some mo)):=HW2.v.at 1 rfl
     have HW2:=Lh HW2
     clear hdr hp
     go_wp2
     obtain ⟨w2,hw2⟩:∃ w2,wr.alloc (.cells #[.int .i64 i,.string x] 102)=w2:=⟨_,rfl⟩
     rw [hw2] at hkw hlk HW2 HS2 HB2 d0 d1 g1
     rw [hw2]
     have hs2:w2.heap.size=wr.heap.size+1:=by rw [← hw2];simp
     have b3:Below w2.heap.size w2 (w2.alloc (.cells #[.int .i64 0,.int .i64 0] 107)):=bAl
     have hgl:g<w2.heap.size:=HW2.out.v.lt
     have hbl:wr.heap.size<w2.heap.size:=by omega
     have hlk1:=Jl (hkw.stay (w':=w2.drew) rfl) p1 p2 p3
     have hlk2:=Jl (hkw.stay (w':=(w2.alloc (.cells #[.int .i64 0,.int .i64 0] 107)).drew) (b3.block _ hkw.lt)) p1 p2 p3
     have ga:(w2.alloc (.cells #[.int .i64 0,.int .i64 0] 107)).cell? ⟨g,1,none⟩=some (.map (some mo)):=(World.cell?_of_block (a:=⟨g,1,none⟩) (b3.block g hgl)).trans g1
     have da0:(w2.alloc (.cells #[.int .i64 0,.int .i64 0] 107)).cell? ⟨wr.heap.size,0,none⟩=some (.int .i64 i):=(World.cell?_of_block (a:=⟨wr.heap.size,0,none⟩) (b3.block _ hbl)).trans d0
     have da1:(w2.alloc (.cells #[.int .i64 0,.int .i64 0] 107)).cell? ⟨wr.heap.size,1,none⟩=some (.string x):=(World.cell?_of_block (a:=⟨wr.heap.size,1,none⟩) (b3.block _ hbl)).trans d1
     have HWK:=Lh (fun (t0 t1:Int)=>show Below w2.heap.size w2 (w2.alloc (.cells #[.int .i64 t0,.int .i64 t1] 107)).drew∧Var (w2.alloc (.cells #[.int .i64 t0,.int .i64 t1] 107)).drew (wr.heap.size+1) [.int .i64 t0,.int .i64 t1]∧(w2.alloc (.cells #[.int .i64 t0,.int .i64 t1] 107)).drew.cell? ⟨wr.heap.size,0,none⟩=some (.int .i64 i) from by
      have h5:Below w2.heap.size w2 (w2.alloc (.cells #[.int .i64 t0,.int .i64 t1] 107)).drew:=((Tn.alloc (fun _=>False) w2 (.cells #[.int .i64 t0,.int .i64 t1] 107)).trans (Tn.drew _ _)).below nLe (fun _ _ h=>h)
      refine ⟨h5,?_,(World.cell?_of_block (a:=⟨wr.heap.size,0,none⟩) (h5.block _ hbl)).trans d0⟩
      have h6:=(Var.new w2 [.int .i64 t0,.int .i64 t1] 107 rfl).keep (w':=(w2.alloc (.cells #[.int .i64 t0,.int .i64 t1] 107)).drew) rfl nLe
      rw [hs2] at h6
      exact h6)
     clear hw2 b3 b1
     cases hf:Uv M (i,x) with
     | none =>
      rw [hf] at hlk hlk1 hlk2 HD
      dsimp only [Option.getD,Option.isSome] at hlk hlk1 hlk2
      have HD2:=Lh (show Jt (Uv M) kd (L.drop (k+1))=R from HD.out.symm)
      obtain ⟨b4,V4,e4⟩:=HWK.out 0 0
      clear hf HD HWK
      go_region
      all_goals
       have B4:=Lh (bTr HB2 b4)
       have W4:=Lh (HW2.out.under b4)
       have S4:=Lh (HS2.out.under b4)
       obtain ⟨w4,hw4⟩:∃ w4,(w2.alloc (.cells #[.int .i64 0,.int .i64 0] 107)).drew=w4:=⟨_,rfl⟩
       rw [hw4] at B4 W4 S4 V4
       rw [hw4]
       clear hw4 b4 e4
       go_wp2
       go_roundw
       case rel=>exact ⟨k+1,by go_num,hlt,HD2,S4,W4,B4⟩
       case measure=>simp [intOf];omega
     | some t0 =>
      obtain ⟨q0,q1⟩:=t0
      rw [hf] at hlk hlk1 hlk2 HD
      dsimp only [Option.getD,Option.isSome] at hlk hlk1 hlk2
      by_cases hq:q0=kd
      ·have HD2:=Lh (show R=(i,q1,true) from by rw [HD.out];simp [Qhe,hq])
       obtain ⟨b4,V4,e4⟩:=HWK.out q0 q1
       subst hq
       clear hf HD HWK
       go_region
       all_goals
        have B4:=Lh (bTr HB2 b4)
        obtain ⟨w4,hw4⟩:∃ w4,(w2.alloc (.cells #[.int .i64 q0,.int .i64 q1] 107)).drew=w4:=⟨_,rfl⟩
        rw [hw4] at B4 V4 e4
        rw [hw4]
        have v0:w4.cell? ⟨wr.heap.size+1,0,none⟩=some (.int .i64 q0):=V4.at 0 rfl
        have v1:w4.cell? ⟨wr.heap.size+1,1,none⟩=some (.int .i64 q1):=V4.at 1 rfl
        clear hw4 b4
        go_wp2
        go_region
        all_goals
         go_wp2
         go_ret3
         exact ⟨by rw [HD2.out];rfl,B4.out.trans ((Quiet.one _ 1).below _)⟩
      ·have HD2:=Lh (show Jt (Uv M) kd (L.drop (k+1))=R from by rw [HD.out];simp [Qhe,hq])
       obtain ⟨b4,V4,e4⟩:=HWK.out q0 q1
       have hqb:(q0==kd)=false:=by simpa using hq
       clear hq
       clear hf HD HWK
       go_region
       all_goals
        have B4:=Lh (bTr HB2 b4)
        have W4:=Lh (HW2.out.under b4)
        have S4:=Lh (HS2.out.under b4)
        obtain ⟨w4,hw4⟩:∃ w4,(w2.alloc (.cells #[.int .i64 q0,.int .i64 q1] 107)).drew=w4:=⟨_,rfl⟩
        rw [hw4] at B4 W4 S4 V4
        rw [hw4]
        have v0:w4.cell? ⟨wr.heap.size+1,0,none⟩=some (.int .i64 q0):=V4.at 0 rfl
        clear hw4 b4 e4
        go_wp2
        go_roundw
        case rel=>exact ⟨k+1,by go_num,hlt,HD2,S4,W4,B4⟩
        case measure=>simp [intOf];omega
    ·obtain rfl:k=1:=by omega
     have hl:=HL.out
     rw [List.drop_eq_nil_of_le (by rw [hLm];exact Nat.le_refl _),Jt] at hl
     have HE:=Lh hl
     clear hl
     go_wp2
     go_ret3
     exact ⟨by rw [← HE.out];rfl,HB.out⟩
  | some t =>
   rw [hf] at hil
   dsimp only [Option.getD,Option.isSome] at hil
   obtain ⟨ta,tb,e1,e2,ta64,tb64⟩:=hN.bnd _ _ _ hf
   have HF:=Lh (found_in hO hN hk hd hf)
   obtain ⟨R,hR⟩:∃ R,fdT (Ju (Qeb kd) N M file s)=R:=⟨_,rfl⟩
   unfold Qc4
   rw [hR] at HF ⊢
   have HOW:=Lh (fun n=>(show Own ((w.alloc (.cells #[.int .i64 file,.string s] 102)).drewN n) w.heap.size 102 2 (.slice (some ⟨w.heap.size,0,none⟩) 1 1) 1 [.int .i64 file,.string s] from Own.drewN ⟨World.ownsRow_lit w #[.int .i64 file,.string s] 1 nLe (by unfold maxLen;omega) rfl,by simp⟩ n))
   have ht1:-9223372036854775808≤t∧t≤9223372036854775807:=by omega
   have HWW:=Lh hw
   clear hd b0 hw hN hO hR hf e1 e2 ta64 tb64
   go_enter Try.func31,Try.ntmps31
   go_wp2_with (first
    | (go_at_call 47;refine (HC.out _).mono ?_;rintro e w1 ⟨⟨n,rfl⟩,rfl⟩)
    | (at_builtin;refine Hid.out ?_)
    | go_in)
   refine Lh ?_
   have HBn:=Lh (HB0.out.trans ((Quiet.one (w.alloc (.cells #[.int .i64 file,.string s] 102)) n).below w.heap.size))
   have HOn:=Lh (HOW.out n)
   obtain ⟨W1,hW1⟩:∃ W1,(w.alloc (.cells #[.int .i64 file,.string s] 102)).drewN n=W1:=⟨_,rfl⟩
   rw [hW1] at HBn HOn
   rw [hW1]
   have hs1:W1.heap.size=w.heap.size+1:=by rw [← hW1];simp
   clear hW1 HOW hil g2 HW0 HS0 HC
   refine Zd rfl (.tmp 46) (.tmp 50) 109 rfl rowNmS w W1 w.heap.size _ _ _ [.int .i64 t,.string (s.extract (d+1) s.size)] rfl HOn.out (by rw [hs1];rfl) rfl (by intro u hu;simp at hu;rcases hu with rfl | rfl <;> rfl) HBn.out (by omega) (by omega) ?_
   intro v2 w1 ho2 hb2
   obtain ⟨bb,cap,hv,hle,hbl⟩:=ho2.1.form (by omega)
   subst hv
   obtain ⟨L,hL⟩:∃ L,[(file,s),(t,s.extract (d+1) s.size)]=L:=⟨_,rfl⟩
   have hLm:L.length=2:=by rw [← hL];rfl
   have HP:=Lh (show ∀ p∈L,-9223372036854775808≤p.1∧p.1≤9223372036854775807∧p.2.size≤1000000 from fun p hp=>by
    rw [← hL] at hp
    simp at hp
    rcases hp with rfl | rfl
    ·exact ⟨h1,h2,by show s.size≤_;omega⟩
    ·exact ⟨ht1.1,ht1.2,hx2⟩)
   have HS:=Lh (show Qk3 w1 bb L from Qk3.of hbl fun j u hu=>by
    have:=ho2.1.cells (g:=bb) rfl j u (by rw [← hL] at hu;exact hu)
    rwa [Addr.add_lit,Nat.zero_add] at this)
   have HW:=Lh (HWW.out.under hb2)
   have HB:=Lh hb2
   have HL:Hid (Jt (Uv M) kd (L.drop 0)=R):=Lh (by rw [← hL];exact HF.out)
   clear ho2 hb2 hle hbl HOn HBn HWW HF hL
   go_wp2
   go_loopw [54] (fun i wr=>∃ k:Nat,i=.int .i64 (k:Int)∧k≤2∧Hid (Jt (Uv M) kd (L.drop k)=R)∧Hid (Qk3 wr bb L)∧Hid (ScW N M g mo mi la ef wr)∧Hid (Below w.heap.size w wr)) (fun i _=>2-(intOf i).toNat)
   case atStart=>exact ⟨0,rfl,Nat.zero_le _,HL,HS,HW,HB⟩
   case round =>
    clear HS HW HB HL
    obtain ⟨k,rfl,hk',HL,HS,HW,HB⟩:=hrel
    by_cases hlt:k<2
    ·have hlt':(k:Int)<2:=by omega
     obtain ⟨⟨i,x⟩,hp⟩:∃ p,L[k]?=some p:=⟨_,List.getElem?_eq_getElem (by rw [hLm];exact hlt)⟩
     obtain ⟨c0,c1⟩:=HS.out.2 k _ hp
     dsimp only at c0 c1
     obtain ⟨p1,p2,p3⟩:=HP.out _ (List.mem_of_getElem? hp)
     dsimp only at p1 p2 p3
     have hdr:=U8 (f:=Uv M) (kd:=kd) hp
     rw [HL.out] at hdr
     have HD:=Lh hdr
     have b1:Below wr.heap.size wr (wr.alloc (.cells #[.int .i64 i,.string x] 102)):=bAl
     have HW2:=HW.out.under b1
     obtain ⟨kw,hkw⟩:=HW2.ow
     have hlk:=Jl hkw p1 p2 p3
     have HS2:=Lh (HS.out.under b1)
     have HB2:=Lh (bTr HB b1)
     have d0:(wr.alloc (.cells #[.int .i64 i,.string x] 102)).cell? ⟨wr.heap.size,0,none⟩=some (.int .i64 i):=(Var.new wr [.int .i64 i,.string x] 102 rfl).at 0 rfl
     have d1:(wr.alloc (.cells #[.int .i64 i,.string x] 102)).cell? ⟨wr.heap.size,1,none⟩=some (.string x):=(Var.new wr [.int .i64 i,.string x] 102 rfl).at 1 rfl
     have g1:(wr.alloc (.cells #[.int .i64 i,.string x] 102)).cell? ⟨g,1,none⟩=some (.map (some mo)):=HW2.v.at 1 rfl
     have HW2:=Lh HW2
     clear hdr hp
     go_wp2
     obtain ⟨w2,hw2⟩:∃ w2,wr.alloc (.cells #[.int .i64 i,.string x] 102)=w2:=⟨_,rfl⟩
     rw [hw2] at hkw hlk HW2 HS2 HB2 d0 d1 g1
     rw [hw2]
     have hs2:w2.heap.size=wr.heap.size+1:=by rw [← hw2];simp
     have b3:Below w2.heap.size w2 (w2.alloc (.cells #[.int .i64 0,.int .i64 0] 107)):=bAl
     have hgl:g<w2.heap.size:=HW2.out.v.lt
     have hbl:wr.heap.size<w2.heap.size:=by omega
     have hlk1:=Jl (hkw.stay (w':=w2.drew) rfl) p1 p2 p3
     have hlk2:=Jl (hkw.stay (w':=(w2.alloc (.cells #[.int .i64 0,.int .i64 0] 107)).drew) (b3.block _ hkw.lt)) p1 p2 p3
     have ga:(w2.alloc (.cells #[.int .i64 0,.int .i64 0] 107)).cell? ⟨g,1,none⟩=some (.map (some mo)):=(World.cell?_of_block (a:=⟨g,1,none⟩) (b3.block g hgl)).trans g1
     have da0:(w2.alloc (.cells #[.int .i64 0,.int .i64 0] 107)).cell? ⟨wr.heap.size,0,none⟩=some (.int .i64 i):=(World.cell?_of_block (a:=⟨wr.heap.size,0,none⟩) (b3.block _ hbl)).trans d0
     have da1:(w2.alloc (.cells #[.int .i64 0,.int .i64 0] 107)).cell? ⟨wr.heap.size,1,none⟩=some (.string x):=(World.cell?_of_block (a:=⟨wr.heap.size,1,none⟩) (b3.block _ hbl)).trans d1
     have HWK:=Lh (fun (t0 t1:Int)=>show Below w2.heap.size w2 (w2.alloc (.cells #[.int .i64 t0,.int .i64 t1] 107)).drew∧Var (w2.alloc (.cells #[.int .i64 t0,.int .i64 t1] 107)).drew (wr.heap.size+1) [.int .i64 t0,.int .i64 t1]∧(w2.alloc (.cells #[.int .i64 t0,.int .i64 t1] 107)).drew.cell? ⟨wr.heap.size,0,none⟩=some (.int .i64 i) from by
      have h5:Below w2.heap.size w2 (w2.alloc (.cells #[.int .i64 t0,.int .i64 t1] 107)).drew:=((Tn.alloc (fun _=>False) w2 (.cells #[.int .i64 t0,.int .i64 t1] 107)).trans (Tn.drew _ _)).below nLe (fun _ _ h=>h)
      refine ⟨h5,?_,(World.cell?_of_block (a:=⟨wr.heap.size,0,none⟩) (h5.block _ hbl)).trans d0⟩
      have h6:=(Var.new w2 [.int .i64 t0,.int .i64 t1] 107 rfl).keep (w':=(w2.alloc (.cells #[.int .i64 t0,.int .i64 t1] 107)).drew) rfl nLe
      rw [hs2] at h6
      exact h6)
     clear hw2 b3 b1
     cases hf:Uv M (i,x) with
     | none =>
      rw [hf] at hlk hlk1 hlk2 HD
      dsimp only [Option.getD,Option.isSome] at hlk hlk1 hlk2
      have HD2:=Lh (show Jt (Uv M) kd (L.drop (k+1))=R from HD.out.symm)
      obtain ⟨b4,V4,e4⟩:=HWK.out 0 0
      clear hf HD HWK
      go_region
      all_goals
       have B4:=Lh (bTr HB2 b4)
       have W4:=Lh (HW2.out.under b4)
       have S4:=Lh (HS2.out.under b4)
       obtain ⟨w4,hw4⟩:∃ w4,(w2.alloc (.cells #[.int .i64 0,.int .i64 0] 107)).drew=w4:=⟨_,rfl⟩
       rw [hw4] at B4 W4 S4 V4
       rw [hw4]
       clear hw4 b4 e4
       go_wp2
       go_roundw
       case rel=>exact ⟨k+1,by go_num,hlt,HD2,S4,W4,B4⟩
       case measure=>simp [intOf];omega
     | some t0 =>
      obtain ⟨q0,q1⟩:=t0
      rw [hf] at hlk hlk1 hlk2 HD
      dsimp only [Option.getD,Option.isSome] at hlk hlk1 hlk2
      by_cases hq:q0=kd
      ·have HD2:=Lh (show R=(i,q1,true) from by rw [HD.out];simp [Qhe,hq])
       obtain ⟨b4,V4,e4⟩:=HWK.out q0 q1
       subst hq
       clear hf HD HWK
       go_region
       all_goals
        have B4:=Lh (bTr HB2 b4)
        obtain ⟨w4,hw4⟩:∃ w4,(w2.alloc (.cells #[.int .i64 q0,.int .i64 q1] 107)).drew=w4:=⟨_,rfl⟩
        rw [hw4] at B4 V4 e4
        rw [hw4]
        have v0:w4.cell? ⟨wr.heap.size+1,0,none⟩=some (.int .i64 q0):=V4.at 0 rfl
        have v1:w4.cell? ⟨wr.heap.size+1,1,none⟩=some (.int .i64 q1):=V4.at 1 rfl
        clear hw4 b4
        go_wp2
        go_region
        all_goals
         go_wp2
         go_ret3
         exact ⟨by rw [HD2.out];rfl,B4.out.trans ((Quiet.one _ 1).below _)⟩
      ·have HD2:=Lh (show Jt (Uv M) kd (L.drop (k+1))=R from by rw [HD.out];simp [Qhe,hq])
       obtain ⟨b4,V4,e4⟩:=HWK.out q0 q1
       have hqb:(q0==kd)=false:=by simpa using hq
       clear hq
       clear hf HD HWK
       go_region
       all_goals
        have B4:=Lh (bTr HB2 b4)
        have W4:=Lh (HW2.out.under b4)
        have S4:=Lh (HS2.out.under b4)
        obtain ⟨w4,hw4⟩:∃ w4,(w2.alloc (.cells #[.int .i64 q0,.int .i64 q1] 107)).drew=w4:=⟨_,rfl⟩
        rw [hw4] at B4 W4 S4 V4
        rw [hw4]
        have v0:w4.cell? ⟨wr.heap.size+1,0,none⟩=some (.int .i64 q0):=V4.at 0 rfl
        clear hw4 b4 e4
        go_wp2
        go_roundw
        case rel=>exact ⟨k+1,by go_num,hlt,HD2,S4,W4,B4⟩
        case measure=>simp [intOf];omega
    ·obtain rfl:k=2:=by omega
     have hl:=HL.out
     rw [List.drop_eq_nil_of_le (by rw [hLm];exact Nat.le_refl _),Jt] at hl
     have HE:=Lh hl
     clear hl
     go_wp2
     go_ret3
     exact ⟨by rw [← HE.out];rfl,HB.out⟩
theorem selK_vs:Qeb 0=SMd.vs:=by funext m;simp [Qeb]
theorem selK_fs:Qeb 1=SMd.fs:=by funext m;simp [Qeb]
section
variable {w:World} {g mo mi:Nat} {la ef:Int} {N:List ByteArray} {M:List SMd}
theorem svar_any(hw:ScW N M g mo mi la ef w)(hN:Qhd N M)(hO:OwOk M)(file:Int)(s:ByteArray)(h1:-9223372036854775808≤file)(h2:file≤9223372036854775807)(hs:s.size≤100000) :
  CP 11 #[.pointer (some ⟨g,0,none⟩),.int .i64 file,.string s] w (Qc4 (Ju SMd.vs N M file s) w):=by
 have HF:=Lh (Qg7 hw hN hO file s 0 (.inl rfl) h1 h2 hs)
 rw [selK_vs] at HF
 obtain ⟨R,hR⟩:∃ R,fdT (Ju SMd.vs N M file s)=R:=⟨_,rfl⟩
 unfold Qc4 at *
 rw [hR] at HF ⊢
 clear hw hN hO hR
 go_enter Try.func11,Try.ntmps11
 go_wp2_with (first
  | (go_at_call 31;refine HF.out.mono ?_;rintro e w1 ⟨rfl,b⟩)
  | go_in)
 go_ret3
 exact ⟨rfl,b⟩
theorem sfn_any(hw:ScW N M g mo mi la ef w)(hN:Qhd N M)(hO:OwOk M)(file:Int)(s:ByteArray)(h1:-9223372036854775808≤file)(h2:file≤9223372036854775807)(hs:s.size≤100000) :
  CP 13 #[.pointer (some ⟨g,0,none⟩),.int .i64 file,.string s] w (Qc4 (Ju SMd.fs N M file s) w):=by
 have HF:=Lh (Qg7 hw hN hO file s 1 (.inr rfl) h1 h2 hs)
 rw [selK_fs] at HF
 obtain ⟨R,hR⟩:∃ R,fdT (Ju SMd.fs N M file s)=R:=⟨_,rfl⟩
 unfold Qc4 at *
 rw [hR] at HF ⊢
 clear hw hN hO hR
 go_enter Try.func13,Try.ntmps13
 go_wp2_with (first
  | (go_at_call 31;refine HF.out.mono ?_;rintro e w1 ⟨rfl,b⟩)
  | go_in)
 go_ret3
 exact ⟨rfl,b⟩
theorem slat_any{n:Nat}(hn:0<n)(hv:Var w g (scC n mo mi la ef)):CP 16 #[.pointer (some ⟨g,0,none⟩)] w fun e w'=>e=.returned (.int .i64 la)∧w=w':=by
 have c3:w.cell? ⟨g,3,none⟩=some (.int .i64 la):=hv.at 3 rfl
 have hb:((n:Int)==0)=false:=by simp;omega
 have HV:=Lh hv
 clear hv
 go_enter Try.func16,Try.ntmps16
 go_wp2_with (first
  | (go_at_call 15;refine (Yv HV.out).mono ?_;rintro e w1 ⟨rfl,rfl⟩)
  | go_in)
 go_ret
 exact ⟨rfl,rfl⟩
theorem seff_any{n:Nat}(hn:0<n)(hv:Var w g (scC n mo mi la ef)):CP 18 #[.pointer (some ⟨g,0,none⟩)] w fun e w'=>e=.returned (.int .i64 ef)∧w=w':=by
 have c3:w.cell? ⟨g,4,none⟩=some (.int .i64 ef):=hv.at 4 rfl
 have hb:((n:Int)==0)=false:=by simp;omega
 have HV:=Lh hv
 clear hv
 go_enter Try.func18,Try.ntmps18
 go_wp2_with (first
  | (go_at_call 15;refine (Yv HV.out).mono ?_;rintro e w1 ⟨rfl,rfl⟩)
  | go_in)
 go_ret
 exact ⟨rfl,rfl⟩
end
/-! ### a scope that is none -/
theorem slat_nil(w:World):CP 16 #[.pointer none] w fun e w'=>e=.returned (.int .i64 (-1))∧Below w.heap.size w w':=by
 go_enter Try.func16,Try.ntmps16
 go_wp2_with (first
  | (go_at_call 15;refine (Qb8 _).mono ?_;rintro e w1 ⟨rfl,rfl⟩)
  | go_in)
 go_ret
 exact ⟨rfl,Below.refl _ _⟩
theorem seff_nil(w:World):CP 18 #[.pointer none] w fun e w'=>e=.returned (.int .i64 (-1))∧Below w.heap.size w w':=by
 go_enter Try.func18,Try.ntmps18
 go_wp2_with (first
  | (go_at_call 15;refine (Qb8 _).mono ?_;rintro e w1 ⟨rfl,rfl⟩)
  | go_in)
 go_ret
 exact ⟨rfl,Below.refl _ _⟩
theorem Qg8(w:World)(file kd:Int)(s:ByteArray):CP 31 #[.pointer none,.int .i64 file,.string s,.int .i64 kd] w (Qc4 none w):=by
 unfold Qc4
 dsimp only [fdT]
 go_enter Try.func31,Try.ntmps31
 go_wp2
 go_ret3
 exact ⟨rfl,Below.refl _ _⟩
theorem svar_nil(w:World)(file:Int)(s:ByteArray):CP 11 #[.pointer none,.int .i64 file,.string s] w (Qc4 none w):=by
 have HF:=Lh (Qg8 w file 0 s)
 unfold Qc4 at *
 dsimp only [fdT] at *
 go_enter Try.func11,Try.ntmps11
 go_wp2_with (first
  | (go_at_call 31;refine HF.out.mono ?_;rintro e w1 ⟨rfl,b⟩)
  | go_in)
 go_ret3
 exact ⟨rfl,b⟩
theorem sfn_nil(w:World)(file:Int)(s:ByteArray):CP 13 #[.pointer none,.int .i64 file,.string s] w (Qc4 none w):=by
 have HF:=Lh (Qg8 w file 1 s)
 unfold Qc4 at *
 dsimp only [fdT] at *
 go_enter Try.func13,Try.ntmps13
 go_wp2_with (first
  | (go_at_call 31;refine HF.out.mono ?_;rintro e w1 ⟨rfl,b⟩)
  | go_in)
 go_ret3
 exact ⟨rfl,b⟩
theorem Qom(w:World):CP 33 #[.pointer none] w fun e w'=>e=.returned (.agg (t64 fun _=>0).toArray)∧Below w.heap.size w w':=by
 have hz:=Qea
 have b0:Below w.heap.size w (w.alloc (.cells (t64 fun _=>0).toArray 85)):=bAl
 have HV:=Lh (Var.new w (t64 fun _=>0) 85 rfl)
 have HB:=Lh b0
 clear b0
 go_enter Try.func33,Try.ntmps33
 go_wp2_with (first
  | (refine Qb rfl 85 (.tmp 2) rfl w.heap.size 0 rfl (t64 fun _=>0) HV.out.rg Try.underlying85 rfl (Ui _) ?_)
  | (refine Qa rfl 85 (.tmp 2) (.tmp 7) rfl (G:=w.heap.size) (off:=0) rfl (us:=t64 fun _=>0) HV.out rfl (Kj _) (by rw [Q8];exact Nat.le_refl _) (U7 _) ?_;intro w90 ht hs;rw [Uj (by rw [Q8])] at hs;have HVD:=Lh hs;have HBD:=Lh (HB.out.trans (ht.below HB.out.size fun k hk e=>by omega));clear ht hs)
  | go_in)
 exact Qj 85 rfl rfl rfl HVD.out Try.underlying85 rfl (Ui _) ⟨rfl,HBD.out⟩
theorem Qk4(w:World):CP 20 #[.pointer none] w fun e w'=>∃ A c,e=.returned (.slice A 0 c)∧Below w.heap.size w w':=by
 have hz:=Qea
 go_enter Try.func20,Try.ntmps20
 go_wp2
 go_step3
 go_wp2_with (first
  | (go_at_call 33;refine (Qom _).mono ?_;rintro e w1 ⟨rfl,b1⟩;have HB1:=Lh b1;clear b1)
  | (refine Qa rfl 85 (.tmp 4) (.tmp 8) rfl (G:=w1.heap.size) (off:=0) rfl (us:=t64 fun _=>0) (Var.new w1 (t64 fun _=>0) 85 rfl) rfl (Kj _) (by rw [Q8];exact Nat.le_refl _) (U7 _) ?_;intro w2 ht hs;have HB2:=Lh (HB1.out.trans (((Tn.alloc (fun k=>k=w1.heap.size) w1 (.cells (t64 fun _=>0).toArray 85)).trans ht).below HB1.out.size fun k hk e=>by have:=HB1.out.size;omega));clear hs ht)
  | go_in)
 go_step3
 go_wp2_with (first
  | (go_at_call 15;refine (Qb8 _).mono ?_;rintro e wx ⟨rfl,rfl⟩)
  | go_in)
 go_loopw [3,11] (fun v i wr=>v=.slice none 0 0∧i=.int .i64 0∧wr=w2) (fun _ _ _=>0)
 case atStart=>exact ⟨rfl,rfl,rfl⟩
 case round =>
  obtain ⟨rfl,rfl,rfl⟩:=hrel
  go_wp2
  rw [Exit.noGoto_ret]
  go_ret
  exact ⟨_,_,rfl,HB2.out⟩
/-! ### all that is asked of a scope -/
theorem ScW.low{N:List ByteArray}{M:List SMd}{g mo mi B:Nat}{la ef:Int}{w w':World}(h:ScW N M g mo mi la ef w)(h1:g<B)(h2:mo<B)(h3:mi<B)(hb:Below B w w'):ScW N M g mo mi la ef w':=by
 obtain ⟨k1,i1⟩:=h.im
 obtain ⟨k2,i2⟩:=h.ow
 exact ⟨h.v.keep (hb.block _ h1) hb.size,⟨k1,i1.stay (hb.block _ h3)⟩,⟨k2,i2.stay (hb.block _ h2)⟩⟩
theorem scC_of{N:List ByteArray}{M:List SMd}{g mo mi B:Nat}{la ef:Int}(hN:Qhd N M)(hO:OwOk M)(hp:0<M.length)(h1:g<B)(h2:mo<B)(h3:mi<B)(hla:la=nth SMd.hl M 0 0)(hef:ef=nth SMd.he M 0 0) :
  ScC N M g B fun w=>ScW N M g mo mi la ef w∧B≤w.heap.size where
 sz h:=h.2
 stay h hb:=⟨h.1.low h1 h2 h3 hb,Nat.le_trans h.2 hb.size⟩
 len h:=(Yv h.1.v).mono fun e w' ⟨a,b⟩=>⟨a,b▸Below.refl _ _⟩
 lat h:=(slat_any hp h.1.v).mono fun e w' ⟨a,b⟩=>⟨hla▸a,b▸Below.refl _ _⟩
 eff h:=(seff_any hp h.1.v).mono fun e w' ⟨a,b⟩=>⟨hef▸a,b▸Below.refl _ _⟩
 var file s f1 f2 hs h:=svar_any h.1 hN hO file s f1 f2 (by omega)
 fn file s f1 f2 hs h:=sfn_any h.1 hN hO file s f1 f2 (by omega)
 ord h:=by
  obtain ⟨k,hi⟩:=h.1.im
  exact Qk2 h.1.v hi hN
end Go.Proofs.Ytjoclbeoafeebaa
