import Derived.Test.YtjoclbeoafeebaaSq
import Derived.Test.YtjoclbeoafeebaaSkT
set_option maxHeartbeats 3200000
set_option maxRecDepth 100000
namespace Go.Proofs.Ytjoclbeoafeebaa
set_option linter.unusedVariables false
set_option linter.unusedSimpArgs false
open Go.RowKit Go.Maps
theorem zeroMker(w:World):(zeroValue 64).run Try.prog w=.ok (.agg #[.pointer none,.slice none 0 0,.slice none 0 0,.map none]) w:=by kernel_rfl
def stR(N:List ByteArray)(M:List SMd):Nat→Option Qb6
 | 0=>sc1 [] N 0
 | 1=>sc2 N M 0
 | 2=>sc3 (edg N M) M.length N M 0
 | 3=>latR M
 | 4=>effR M
 | _=>sc5 M 0
def stP(X:MkA)(N:List ByteArray)(M:List SMd):Nat→World→Prop
 | 0=>Mk X [] 0 (fun _=>none) 0 (fun _=>none) (-1) (-1)
 | 1=>Mk X N 0 (fun _=>none) 0 (fun _=>none) (-1) (-1)
 | 2=>Mk X N (X.n*1000000) (Qc5 N M) 0 (fun _=>none) (-1) (-1)
 | 3=>Mk X N (X.n*1000000) (Qc5 N M) 0 (fun _=>none) (-1) (-1)
 | 4=>Mk X N (X.n*1000000) (Qc5 N M) 0 (fun _=>none) (nth SMd.hl M 0 0) (-1)
 | 5=>Mk X N (X.n*1000000) (Qc5 N M) 0 (fun _=>none) (nth SMd.hl M 0 0) (nth SMd.he M 0 0)
 | _=>Mk X N (X.n*1000000) (Qc5 N M) (X.n*2000000) (Uv M) (nth SMd.hl M 0 0) (nth SMd.he M 0 0)
section
variable {N:List ByteArray} {M:List SMd}
theorem Qop(hl:N.length=M.length∧M.length≠0∧M.length≤64):Qe8 N M=match stR N M 0 with
  | some b=>some b
  | none=>match stR N M 1 with
   | some b=>some b
   | none=>match stR N M 2 with
    | some b=>some b
    | none=>match stR N M 3 with
     | some b=>some b
     | none=>match stR N M 4 with
      | some b=>some b
      | none=>stR N M 5:=by
 unfold Qe8 Zk stR latR effR
 rw [if_pos hl]
 cases h1:sc1 [] N 0 with
 | some b=>rfl
 | none =>
  cases h2:sc2 N M 0 with
  | some b=>rfl
  | none =>
   cases h3:sc3 (edg N M) M.length N M 0 with
   | some b=>rfl
   | none =>
    dsimp only
    by_cases h4:nth SMd.hl M 0 0<0
    ·simp [h4]
    ·by_cases h5:0≤nth SMd.hl M 1 0
     ·simp [h4,h5]
     ·by_cases h6:0≤nth SMd.he M 1 0
      ·simp [h4,h5,h6]
      ·simp [h4,h5,h6]
theorem Um(hl:N.length=M.length∧M.length≠0∧M.length≤64){k:Nat}(hk:k<6)(h:∀ j,j<k→stR N M j=none){b:Qb6}(hb:stR N M k=some b):Qe8 N M=some b:=by
 rw [Qop hl]
 match k,hk with
 | 0,_=>rw [hb]
 | 1,_=>rw [h 0 (by omega),hb]
 | 2,_=>rw [h 0 (by omega),h 1 (by omega),hb]
 | 3,_=>rw [h 0 (by omega),h 1 (by omega),h 2 (by omega),hb]
 | 4,_=>rw [h 0 (by omega),h 1 (by omega),h 2 (by omega),h 3 (by omega),hb]
 | 5,_=>rw [h 0 (by omega),h 1 (by omega),h 2 (by omega),h 3 (by omega),h 4 (by omega),hb]
theorem Qoq(hl:N.length=M.length∧M.length≠0∧M.length≤64)(h:∀ j,j<6→stR N M j=none):Qe8 N M=none:=by
 rw [Qop hl,h 0 (by omega),h 1 (by omega),h 2 (by omega),h 3 (by omega),h 4 (by omega),h 5 (by omega)]
theorem Qk8{k:Nat}{b:Qb6}(h:stR N M k=some b):(b.2.2 != 0)=true:=by
 have h2:b.2.2≠0:=by
  unfold stR at h
  split at h
  ·exact sc1_e h
  ·exact sc2_e h
  ·exact sc3_e h
  ·unfold latR at h
   split at h
   ·cases h;decide
   ·split at h
    ·cases h;exact (by decide:(17:Int)≠0)
    ·cases h
  ·unfold effR at h
   split at h
   ·cases h;exact (by decide:(7:Int)≠0)
   ·cases h
  ·exact sc5_e h
 simpa using h2
theorem Qor:∀ {r:List SNm} {D:List ByteArray},Qbr D r=none→D.Nodup→(D++r.map (·.1)).Nodup
 | [],D,h,hd=>by simpa using hd
 | x::r,D,h,hd=>by
  unfold Qbr at h
  split at h
  ·cases h
  ·rename_i h1
   rw [Qy] at h1
   have:=Qor h (by
    rw [List.nodup_append]
    exact ⟨hd,by simp,fun a ha b hb=>by
     simp at hb
     subst hb
     exact fun e=>h1 (e▸ha)⟩)
   rw [List.append_assoc] at this
   exact this
theorem sc5_nd:∀ {M:List SMd} {i:Nat},sc5 M i=none→∀ m∈M,((m.vs++m.fs).map (·.1)).Nodup
 | [],i,h,m,hm=>by cases hm
 | m::r,i,h,m',hm=>by
  unfold sc5 at h
  cases hk:Qbr [] (m.vs++m.fs) with
  | some c=>rw [hk] at h;cases h
  | none =>
   rw [hk] at h
   rcases List.mem_cons.1 hm with rfl | hm
   ·simpa using Qor hk List.nodup_nil
   ·exact sc5_nd h m' hm
end
theorem Qir{s:ByteArray}(h:idB s=true):s.size≤1000000:=by
 unfold idB at h
 simp only [Bool.and_eq_true,decide_eq_true_eq] at h
 omega
theorem ow_ok{ML:List OMo}(h5:sc5 (Qm ML) 0=none)(hq:∀ q∈ML,q.1.Fine):OwOk (Qm ML):=by
 refine ⟨sc5_nd h5,fun m hm x hx=>?_⟩
 obtain ⟨q,hqm,rfl⟩:=List.mem_map.1 hm
 rcases List.mem_append.1 hx with hx | hx
 ·obtain ⟨y,hy,rfl⟩:=List.mem_map.1 hx
  exact id_dot ((hq q hqm).va y hy)
 ·obtain ⟨y,hy,rfl⟩:=List.mem_map.1 hx
  exact id_dot ((hq q hqm).fn y hy)
def fnV(G k:Nat):Value:=.func (Fn.func k) #[.pointer (some ⟨G+4,0,none⟩)] #[]
def fnsV(G:Nat):List Value:=[fnV G 23,fnV G 24,fnV G 25,fnV G 26,fnV G 27,fnV G 28]
theorem Jv{fn:Func}{t u v x:Tmp}(h:fn.results=#[.tmp t,.tmp u,.tmp v,.tmp x])(tmps:Array Value)(P:Program)(w:World) :
  (results fn tmps).run P w=.ok (.tuple #[tmps.getD t undef,tmps.getD u undef,tmps.getD v undef,tmps.getD x undef]) w:=by
 simp [results,h]
theorem Un(w:World)(o:Obj):Below w.heap.size w (w.alloc o):=bAl
theorem mk_start(w:World)(A B:Option Addr)(m d n c:Nat):Mk ⟨w.heap.size,B,m,d,A,n,c⟩ [] 0 (fun _=>none) 0 (fun _=>none) (-1) (-1) ((((((w.alloc (.map #[] 0)).alloc (.map #[] 0)).alloc (.cells #[.int .i64 (n:Int),.map (some w.heap.size),.map (some (w.heap.size+1)),.int .i64 (-1),.int .i64 (-1)] 61)).alloc (.map #[] 0)).alloc (.cells #[.pointer (some ⟨w.heap.size+2,0,none⟩),.slice B m d,.slice A n c,.map (some (w.heap.size+3))] 64)).alloc (.cells #[.func (Fn.func 23) #[.pointer (some ⟨w.heap.size+4,0,none⟩)] #[],.func (Fn.func 24) #[.pointer (some ⟨w.heap.size+4,0,none⟩)] #[],.func (Fn.func 25) #[.pointer (some ⟨w.heap.size+4,0,none⟩)] #[],.func (Fn.func 26) #[.pointer (some ⟨w.heap.size+4,0,none⟩)] #[],.func (Fn.func 27) #[.pointer (some ⟨w.heap.size+4,0,none⟩)] #[],.func (Fn.func 28) #[.pointer (some ⟨w.heap.size+4,0,none⟩)] #[]] 65))∧Var ((((((w.alloc (.map #[] 0)).alloc (.map #[] 0)).alloc (.cells #[.int .i64 (n:Int),.map (some w.heap.size),.map (some (w.heap.size+1)),.int .i64 (-1),.int .i64 (-1)] 61)).alloc (.map #[] 0)).alloc (.cells #[.pointer (some ⟨w.heap.size+2,0,none⟩),.slice B m d,.slice A n c,.map (some (w.heap.size+3))] 64)).alloc (.cells #[.func (Fn.func 23) #[.pointer (some ⟨w.heap.size+4,0,none⟩)] #[],.func (Fn.func 24) #[.pointer (some ⟨w.heap.size+4,0,none⟩)] #[],.func (Fn.func 25) #[.pointer (some ⟨w.heap.size+4,0,none⟩)] #[],.func (Fn.func 26) #[.pointer (some ⟨w.heap.size+4,0,none⟩)] #[],.func (Fn.func 27) #[.pointer (some ⟨w.heap.size+4,0,none⟩)] #[],.func (Fn.func 28) #[.pointer (some ⟨w.heap.size+4,0,none⟩)] #[]] 65)) (w.heap.size+5) (fnsV w.heap.size)∧Below w.heap.size w ((((((w.alloc (.map #[] 0)).alloc (.map #[] 0)).alloc (.cells #[.int .i64 (n:Int),.map (some w.heap.size),.map (some (w.heap.size+1)),.int .i64 (-1),.int .i64 (-1)] 61)).alloc (.map #[] 0)).alloc (.cells #[.pointer (some ⟨w.heap.size+2,0,none⟩),.slice B m d,.slice A n c,.map (some (w.heap.size+3))] 64)).alloc (.cells #[.func (Fn.func 23) #[.pointer (some ⟨w.heap.size+4,0,none⟩)] #[],.func (Fn.func 24) #[.pointer (some ⟨w.heap.size+4,0,none⟩)] #[],.func (Fn.func 25) #[.pointer (some ⟨w.heap.size+4,0,none⟩)] #[],.func (Fn.func 26) #[.pointer (some ⟨w.heap.size+4,0,none⟩)] #[],.func (Fn.func 27) #[.pointer (some ⟨w.heap.size+4,0,none⟩)] #[],.func (Fn.func 28) #[.pointer (some ⟨w.heap.size+4,0,none⟩)] #[]] 65)):=by
 obtain ⟨w1,hw1⟩:∃ w1,w.alloc (.map #[] 0)=w1:=⟨_,rfl⟩
 have s1:w1.heap.size=w.heap.size+1:=by rw [← hw1];simp
 have o1:mOwn.At w1 w.heap.size 0 (fun _=>none):=by rw [← hw1];exact KM.At.made mOwn w
 have b1:Below w.heap.size w w1:=by rw [← hw1];exact Un _ _
 rw [hw1]
 obtain ⟨w2,hw2⟩:∃ w2,w1.alloc (.map #[] 0)=w2:=⟨_,rfl⟩
 have s2:w2.heap.size=w.heap.size+2:=by rw [← hw2];simp [s1]
 have o2:Qhb.At w2 (w.heap.size+1) 0 (fun _=>none):=by rw [← hw2,← s1];exact KM.At.made Qhb w1
 have b2:Below w1.heap.size w1 w2:=by rw [← hw2];exact Un _ _
 rw [hw2]
 obtain ⟨w3,hw3⟩:∃ w3,w2.alloc (.cells #[.int .i64 (n:Int),.map (some w.heap.size),.map (some (w.heap.size+1)),.int .i64 (-1),.int .i64 (-1)] 61)=w3:=⟨_,rfl⟩
 have s3:w3.heap.size=w.heap.size+3:=by rw [← hw3];simp [s2]
 have o3:Var w3 (w.heap.size+2) (scC n w.heap.size (w.heap.size+1) (-1) (-1)):=by rw [← hw3,← s2];exact Var.new w2 _ _ rfl
 have b3:Below w2.heap.size w2 w3:=by rw [← hw3];exact Un _ _
 rw [hw3]
 obtain ⟨w4,hw4⟩:∃ w4,w3.alloc (.map #[] 0)=w4:=⟨_,rfl⟩
 have s4:w4.heap.size=w.heap.size+4:=by rw [← hw4];simp [s3]
 have o4:mNum.At w4 (w.heap.size+3) 0 (fun _=>none):=by rw [← hw4,← s3];exact KM.At.made mNum w3
 have b4:Below w3.heap.size w3 w4:=by rw [← hw4];exact Un _ _
 rw [hw4]
 obtain ⟨w5,hw5⟩:∃ w5,w4.alloc (.cells #[.pointer (some ⟨w.heap.size+2,0,none⟩),.slice B m d,.slice A n c,.map (some (w.heap.size+3))] 64)=w5:=⟨_,rfl⟩
 have s5:w5.heap.size=w.heap.size+5:=by rw [← hw5];simp [s4]
 have o5:Var w5 (w.heap.size+4) (MkA.cs ⟨w.heap.size,B,m,d,A,n,c⟩):=by rw [← hw5,← s4];exact Var.new w4 _ _ rfl
 have b5:Below w4.heap.size w4 w5:=by rw [← hw5];exact Un _ _
 rw [hw5]
 obtain ⟨w6,hw6⟩:∃ w6,w5.alloc (.cells #[.func (Fn.func 23) #[.pointer (some ⟨w.heap.size+4,0,none⟩)] #[],.func (Fn.func 24) #[.pointer (some ⟨w.heap.size+4,0,none⟩)] #[],.func (Fn.func 25) #[.pointer (some ⟨w.heap.size+4,0,none⟩)] #[],.func (Fn.func 26) #[.pointer (some ⟨w.heap.size+4,0,none⟩)] #[],.func (Fn.func 27) #[.pointer (some ⟨w.heap.size+4,0,none⟩)] #[],.func (Fn.func 28) #[.pointer (some ⟨w.heap.size+4,0,none⟩)] #[]] 65)=w6:=⟨_,rfl⟩
 have o6:Var w6 (w.heap.size+5) (fnsV w.heap.size):=by rw [← hw6,← s5];exact Var.new w5 _ _ rfl
 have b6:Below w5.heap.size w5 w6:=by rw [← hw6];exact Un _ _
 rw [hw6]
 have b56:=b5.trans (b6.mono b5.size)
 have b46:=b4.trans (b56.mono b4.size)
 have b36:=b3.trans (b46.mono b3.size)
 have b26:=b2.trans (b36.mono b2.size)
 exact ⟨⟨o5.under b6,o3.under b46,(o4.stay (b56.block _ o4.lt)),(o2.stay (b36.block _ o2.lt)),(o1.stay (b26.block _ o1.lt))⟩,o6,b1.trans (b26.mono b1.size)⟩
theorem snew_any(w:World)(A B:Option Addr)(n m c d:Nat)(ML:List OMo)(N:List ByteArray)(S0:Nat→Prop)(hL:Y4 w S0 A n ML)(hn:n≤8)(hnc:n≤c)(hB:Sh w w.heap.size B m (Z0 N))(hm:m≤10)(hmd:m≤d)(hs:∀ s∈N,s.size≤100)(hq:∀ q∈ML,q.1.Fine∧q.1.Cap 1000) :
  CP 9 #[.slice B m d,.slice A n c] w (Qk0 N (Qm ML) w):=by
 have hzk:=zeroMker
 have hmm:=@run_makeMap Try.prog
 have hNl:N.length=m:=by have:=hB.len;simpa [Z0] using this
 have hMl:(Qm ML).length=n:=by rw [Qw,hL.len]
 by_cases hmn:m=n∧n≠0
 ·obtain ⟨rfl,hn0⟩:=hmn
  have h1:((m:Int) != (m:Int))=false:=by simp
  have h2:((m:Int)==0)=false:=by simpa using hn0
  have h3:decide ((64:Int)<(m:Int))=false:=by simp;omega
  have HLE:=Lh (show N.length=(Qm ML).length∧(Qm ML).length≠0∧(Qm ML).length≤64 by rw [hMl,hNl];exact ⟨rfl,hn0,by omega⟩)
  have HRD0:=Lh (show Rd ⟨w.heap.size,B,m,d,A,m,c⟩ (fun b=>b<w.heap.size) N ML w from ⟨hL.weak fun b _ h=>h,fun b hb=>hb,(by show m≤64;omega),hNl,fun s hs'=>by have:=hs s hs';omega,fun q hq'=>⟨fun x hx=>Qir ((hq q hq').1.im x hx),fun x hx=>Qir ((hq q hq').1.va x hx),fun x hx=>Qir ((hq q hq').1.fn x hx)⟩,fun q hq'=>by
   have:=(hq q hq').2
   exact ⟨Nat.le_trans this.im (by omega),Nat.le_trans this.va (by omega),Nat.le_trans this.fn (by omega)⟩⟩)
  have HSH:=Lh hB
  have HFI:=Lh (fun q hq'=>(hq q hq').1)
  have HSZ:=Lh (show ∀ s∈N,s.size≤1000000 from fun s hs'=>by have:=hs s hs';omega)
  have hst:=mk_start w A B m d m c
  clear hL hB hs hq hNl
  go_enter Try.func9,Try.ntmps9
  go_wp2
  have e2:w.heap.size+1+1=w.heap.size+2:=rfl
  have e3:w.heap.size+2+1=w.heap.size+3:=rfl
  have e4:w.heap.size+3+1=w.heap.size+4:=rfl
  have e5:w.heap.size+4+1=w.heap.size+5:=rfl
  simp only [e2,e3,e4,e5]
  clear e2 e3 e4 e5 hmm hzk
  obtain ⟨W6,hW6⟩:∃ W6,(((((w.alloc (.map #[] 0)).alloc (.map #[] 0)).alloc (.cells #[.int .i64 (m:Int),.map (some w.heap.size),.map (some (w.heap.size+1)),.int .i64 (-1),.int .i64 (-1)] 61)).alloc (.map #[] 0)).alloc (.cells #[.pointer (some ⟨w.heap.size+2,0,none⟩),.slice B m d,.slice A m c,.map (some (w.heap.size+3))] 64)).alloc (.cells #[.func (Fn.func 23) #[.pointer (some ⟨w.heap.size+4,0,none⟩)] #[],.func (Fn.func 24) #[.pointer (some ⟨w.heap.size+4,0,none⟩)] #[],.func (Fn.func 25) #[.pointer (some ⟨w.heap.size+4,0,none⟩)] #[],.func (Fn.func 26) #[.pointer (some ⟨w.heap.size+4,0,none⟩)] #[],.func (Fn.func 27) #[.pointer (some ⟨w.heap.size+4,0,none⟩)] #[],.func (Fn.func 28) #[.pointer (some ⟨w.heap.size+4,0,none⟩)] #[]] 65)=W6:=⟨_,rfl⟩
  rw [hW6] at hst
  rw [hW6]
  clear hW6
  obtain ⟨h6a,h6b,h6c⟩:=hst
  have HP0:=Lh (show stP ⟨w.heap.size,B,m,d,A,m,c⟩ N (Qm ML) 0 W6 from h6a)
  have HV0:=Lh h6b
  have HB6:=Lh h6c
  have HNO0:=Lh (show ∀ j,j<0→stR N (Qm ML) j=none from fun j hj=>absurd hj (Nat.not_lt_zero _))
  have HBG0:=Lh (Bg.refl ⟨w.heap.size,B,m,d,A,m,c⟩ W6)
  clear h6a h6b h6c
  go_loopw [4,45] (fun s i wr=>∃ k:Nat,s=.pointer (some ⟨w.heap.size+2,0,none⟩)∧i=.int .i64 (k:Int)∧k≤6∧Hid (∀ j,j<k→stR N (Qm ML) j=none)∧Hid (stP ⟨w.heap.size,B,m,d,A,m,c⟩ N (Qm ML) k wr)∧Hid (Var wr (w.heap.size+5) (fnsV w.heap.size))∧Hid (Bg ⟨w.heap.size,B,m,d,A,m,c⟩ W6 wr)) (fun _ i _=>6-(intOf i).toNat)
  case atStart=>exact ⟨0,rfl,rfl,Nat.zero_le _,HNO0,HP0,HV0,HBG0⟩
  case round =>
  clear HNO0 HP0 HV0 HBG0
  obtain ⟨k,rfl,rfl,hk,HNO,HP,HV,HBG⟩:=hrel
  have HRW:=Lh (HRD0.out.low (HB6.out.trans (HBG.out.lo HB6.out.size)))
  match k,HNO,HP,hk with
  | 0,HNO,HP,hk =>
   have HC:=Lh (show CP 23 #[.pointer (some ⟨w.heap.size+4,0,none⟩)] wr (Yt ⟨w.heap.size,B,m,d,A,m,c⟩ (stR N (Qm ML) 0) (stP ⟨w.heap.size,B,m,d,A,m,c⟩ N (Qm ML) 1) wr) from Qio (X:=⟨w.heap.size,B,m,d,A,m,c⟩) HP.out ((HSH.out.below HB6.out).below (HBG.out.lo HB6.out.size)) (by show m≤1000;omega) HSZ.out)
   have c0:wr.cell? ⟨w.heap.size+5,0,none⟩=some (.func (Fn.func 23) #[.pointer (some ⟨w.heap.size+4,0,none⟩)] #[]):=HV.out.at 0 rfl
   obtain ⟨R,hR⟩:∃ R,stR N (Qm ML) 0=R:=⟨_,rfl⟩
   rw [hR] at HC
   cases R with
   | none =>
    unfold Yt at HC
    dsimp only [Uq] at HC
    have HNO2:=Lh (show ∀ j,j<1→stR N (Qm ML) j=none from fun j hj=>by
     rcases Nat.lt_succ_iff_lt_or_eq.1 hj with h | h
     ·exact HNO.out j h
     ·rw [h];exact hR)
    clear hR
    go_wp2_with (first
     | (go_at_call 23;refine HC.out.mono ?_;rintro e w2 ⟨rfl,hb,hp⟩;have HP2:=Lh (hp rfl);have HBB:=Lh (HBG.out.trans hb);have HV2:=Lh (HV.out.turn hb (fun hh=>absurd hh.2 (by show ¬ (w.heap.size+5≤w.heap.size+4);omega)));clear hb hp)
     | go_in)
    go_roundw
    case rel=>exact ⟨1,rfl,by go_num,by omega,HNO2,HP2,HV2,HBB⟩
    case measure=>simp [intOf]
   | some b =>
    obtain ⟨bi,ba,be⟩:=b
    unfold Yt at HC
    dsimp only [Uq] at HC
    have hbe:(be != 0)=true:=Qk8 hR
    have HNS:=Lh (Um HLE.out (show 0<6 by omega) HNO.out hR)
    clear hR
    go_wp2_with (first
     | (go_at_call 23;refine HC.out.mono ?_;rintro e w2 ⟨rfl,hb,_⟩;have HBB:=Lh (HBG.out.trans hb);clear hb)
     | go_in)
    refine bodyPost_ret (Jv rfl _ _ _) rfl ?_
    refine ⟨HB6.out.trans (HBB.out.lo HB6.out.size),?_⟩
    rw [HNS.out]
    rfl
  | 1,HNO,HP,hk =>
   have HC:=Lh (show CP 24 #[.pointer (some ⟨w.heap.size+4,0,none⟩)] wr (Yt ⟨w.heap.size,B,m,d,A,m,c⟩ (stR N (Qm ML) 1) (stP ⟨w.heap.size,B,m,d,A,m,c⟩ N (Qm ML) 2) wr) from Qoo (X:=⟨w.heap.size,B,m,d,A,m,c⟩) HP.out HRW.out)
   have c0:wr.cell? ⟨w.heap.size+5,1,none⟩=some (.func (Fn.func 24) #[.pointer (some ⟨w.heap.size+4,0,none⟩)] #[]):=HV.out.at 1 rfl
   obtain ⟨R,hR⟩:∃ R,stR N (Qm ML) 1=R:=⟨_,rfl⟩
   rw [hR] at HC
   cases R with
   | none =>
    unfold Yt at HC
    dsimp only [Uq] at HC
    have HNO2:=Lh (show ∀ j,j<2→stR N (Qm ML) j=none from fun j hj=>by
     rcases Nat.lt_succ_iff_lt_or_eq.1 hj with h | h
     ·exact HNO.out j h
     ·rw [h];exact hR)
    clear hR
    go_wp2_with (first
     | (go_at_call 24;refine HC.out.mono ?_;rintro e w2 ⟨rfl,hb,hp⟩;have HP2:=Lh (hp rfl);have HBB:=Lh (HBG.out.trans hb);have HV2:=Lh (HV.out.turn hb (fun hh=>absurd hh.2 (by show ¬ (w.heap.size+5≤w.heap.size+4);omega)));clear hb hp)
     | go_in)
    go_roundw
    case rel=>exact ⟨2,rfl,by go_num,by omega,HNO2,HP2,HV2,HBB⟩
    case measure=>simp [intOf]
   | some b =>
    obtain ⟨bi,ba,be⟩:=b
    unfold Yt at HC
    dsimp only [Uq] at HC
    have hbe:(be != 0)=true:=Qk8 hR
    have HNS:=Lh (Um HLE.out (show 1<6 by omega) HNO.out hR)
    clear hR
    go_wp2_with (first
     | (go_at_call 24;refine HC.out.mono ?_;rintro e w2 ⟨rfl,hb,_⟩;have HBB:=Lh (HBG.out.trans hb);clear hb)
     | go_in)
    refine bodyPost_ret (Jv rfl _ _ _) rfl ?_
    refine ⟨HB6.out.trans (HBB.out.lo HB6.out.size),?_⟩
    rw [HNS.out]
    rfl
  | 2,HNO,HP,hk =>
   have HC:=Lh (show CP 25 #[.pointer (some ⟨w.heap.size+4,0,none⟩)] wr (Yt ⟨w.heap.size,B,m,d,A,m,c⟩ (stR N (Qm ML) 2) (stP ⟨w.heap.size,B,m,d,A,m,c⟩ N (Qm ML) 3) wr) from Qip (X:=⟨w.heap.size,B,m,d,A,m,c⟩) HP.out HRW.out (HRW.out.ok (HNO.out 1 (by omega))))
   have c0:wr.cell? ⟨w.heap.size+5,2,none⟩=some (.func (Fn.func 25) #[.pointer (some ⟨w.heap.size+4,0,none⟩)] #[]):=HV.out.at 2 rfl
   obtain ⟨R,hR⟩:∃ R,stR N (Qm ML) 2=R:=⟨_,rfl⟩
   rw [hR] at HC
   cases R with
   | none =>
    unfold Yt at HC
    dsimp only [Uq] at HC
    have HNO2:=Lh (show ∀ j,j<3→stR N (Qm ML) j=none from fun j hj=>by
     rcases Nat.lt_succ_iff_lt_or_eq.1 hj with h | h
     ·exact HNO.out j h
     ·rw [h];exact hR)
    clear hR
    go_wp2_with (first
     | (go_at_call 25;refine HC.out.mono ?_;rintro e w2 ⟨rfl,hb,hp⟩;have HP2:=Lh (hp rfl);have HBB:=Lh (HBG.out.trans hb);have HV2:=Lh (HV.out.turn hb (fun hh=>absurd hh.2 (by show ¬ (w.heap.size+5≤w.heap.size+4);omega)));clear hb hp)
     | go_in)
    go_roundw
    case rel=>exact ⟨3,rfl,by go_num,by omega,HNO2,HP2,HV2,HBB⟩
    case measure=>simp [intOf]
   | some b =>
    obtain ⟨bi,ba,be⟩:=b
    unfold Yt at HC
    dsimp only [Uq] at HC
    have hbe:(be != 0)=true:=Qk8 hR
    have HNS:=Lh (Um HLE.out (show 2<6 by omega) HNO.out hR)
    clear hR
    go_wp2_with (first
     | (go_at_call 25;refine HC.out.mono ?_;rintro e w2 ⟨rfl,hb,_⟩;have HBB:=Lh (HBG.out.trans hb);clear hb)
     | go_in)
    refine bodyPost_ret (Jv rfl _ _ _) rfl ?_
    refine ⟨HB6.out.trans (HBB.out.lo HB6.out.size),?_⟩
    rw [HNS.out]
    rfl
  | 3,HNO,HP,hk =>
   have HC:=Lh (show CP 26 #[.pointer (some ⟨w.heap.size+4,0,none⟩)] wr (Yt ⟨w.heap.size,B,m,d,A,m,c⟩ (stR N (Qm ML) 3) (stP ⟨w.heap.size,B,m,d,A,m,c⟩ N (Qm ML) 4) wr) from Qg9 (X:=⟨w.heap.size,B,m,d,A,m,c⟩) HP.out HRW.out)
   have c0:wr.cell? ⟨w.heap.size+5,3,none⟩=some (.func (Fn.func 26) #[.pointer (some ⟨w.heap.size+4,0,none⟩)] #[]):=HV.out.at 3 rfl
   obtain ⟨R,hR⟩:∃ R,stR N (Qm ML) 3=R:=⟨_,rfl⟩
   rw [hR] at HC
   cases R with
   | none =>
    unfold Yt at HC
    dsimp only [Uq] at HC
    have HNO2:=Lh (show ∀ j,j<4→stR N (Qm ML) j=none from fun j hj=>by
     rcases Nat.lt_succ_iff_lt_or_eq.1 hj with h | h
     ·exact HNO.out j h
     ·rw [h];exact hR)
    clear hR
    go_wp2_with (first
     | (go_at_call 26;refine HC.out.mono ?_;rintro e w2 ⟨rfl,hb,hp⟩;have HP2:=Lh (hp rfl);have HBB:=Lh (HBG.out.trans hb);have HV2:=Lh (HV.out.turn hb (fun hh=>absurd hh.2 (by show ¬ (w.heap.size+5≤w.heap.size+4);omega)));clear hb hp)
     | go_in)
    go_roundw
    case rel=>exact ⟨4,rfl,by go_num,by omega,HNO2,HP2,HV2,HBB⟩
    case measure=>simp [intOf]
   | some b =>
    obtain ⟨bi,ba,be⟩:=b
    unfold Yt at HC
    dsimp only [Uq] at HC
    have hbe:(be != 0)=true:=Qk8 hR
    have HNS:=Lh (Um HLE.out (show 3<6 by omega) HNO.out hR)
    clear hR
    go_wp2_with (first
     | (go_at_call 26;refine HC.out.mono ?_;rintro e w2 ⟨rfl,hb,_⟩;have HBB:=Lh (HBG.out.trans hb);clear hb)
     | go_in)
    refine bodyPost_ret (Jv rfl _ _ _) rfl ?_
    refine ⟨HB6.out.trans (HBB.out.lo HB6.out.size),?_⟩
    rw [HNS.out]
    rfl
  | 4,HNO,HP,hk =>
   have HC:=Lh (show CP 27 #[.pointer (some ⟨w.heap.size+4,0,none⟩)] wr (Yt ⟨w.heap.size,B,m,d,A,m,c⟩ (stR N (Qm ML) 4) (stP ⟨w.heap.size,B,m,d,A,m,c⟩ N (Qm ML) 5) wr) from Qha (X:=⟨w.heap.size,B,m,d,A,m,c⟩) HP.out HRW.out)
   have c0:wr.cell? ⟨w.heap.size+5,4,none⟩=some (.func (Fn.func 27) #[.pointer (some ⟨w.heap.size+4,0,none⟩)] #[]):=HV.out.at 4 rfl
   obtain ⟨R,hR⟩:∃ R,stR N (Qm ML) 4=R:=⟨_,rfl⟩
   rw [hR] at HC
   cases R with
   | none =>
    unfold Yt at HC
    dsimp only [Uq] at HC
    have HNO2:=Lh (show ∀ j,j<5→stR N (Qm ML) j=none from fun j hj=>by
     rcases Nat.lt_succ_iff_lt_or_eq.1 hj with h | h
     ·exact HNO.out j h
     ·rw [h];exact hR)
    clear hR
    go_wp2_with (first
     | (go_at_call 27;refine HC.out.mono ?_;rintro e w2 ⟨rfl,hb,hp⟩;have HP2:=Lh (hp rfl);have HBB:=Lh (HBG.out.trans hb);have HV2:=Lh (HV.out.turn hb (fun hh=>absurd hh.2 (by show ¬ (w.heap.size+5≤w.heap.size+4);omega)));clear hb hp)
     | go_in)
    go_roundw
    case rel=>exact ⟨5,rfl,by go_num,by omega,HNO2,HP2,HV2,HBB⟩
    case measure=>simp [intOf]
   | some b =>
    obtain ⟨bi,ba,be⟩:=b
    unfold Yt at HC
    dsimp only [Uq] at HC
    have hbe:(be != 0)=true:=Qk8 hR
    have HNS:=Lh (Um HLE.out (show 4<6 by omega) HNO.out hR)
    clear hR
    go_wp2_with (first
     | (go_at_call 27;refine HC.out.mono ?_;rintro e w2 ⟨rfl,hb,_⟩;have HBB:=Lh (HBG.out.trans hb);clear hb)
     | go_in)
    refine bodyPost_ret (Jv rfl _ _ _) rfl ?_
    refine ⟨HB6.out.trans (HBB.out.lo HB6.out.size),?_⟩
    rw [HNS.out]
    rfl
  | 5,HNO,HP,hk =>
   have HC:=Lh (show CP 28 #[.pointer (some ⟨w.heap.size+4,0,none⟩)] wr (Yt ⟨w.heap.size,B,m,d,A,m,c⟩ (stR N (Qm ML) 5) (stP ⟨w.heap.size,B,m,d,A,m,c⟩ N (Qm ML) 6) wr) from Qiq (X:=⟨w.heap.size,B,m,d,A,m,c⟩) HP.out HRW.out)
   have c0:wr.cell? ⟨w.heap.size+5,5,none⟩=some (.func (Fn.func 28) #[.pointer (some ⟨w.heap.size+4,0,none⟩)] #[]):=HV.out.at 5 rfl
   obtain ⟨R,hR⟩:∃ R,stR N (Qm ML) 5=R:=⟨_,rfl⟩
   rw [hR] at HC
   cases R with
   | none =>
    unfold Yt at HC
    dsimp only [Uq] at HC
    have HNO2:=Lh (show ∀ j,j<6→stR N (Qm ML) j=none from fun j hj=>by
     rcases Nat.lt_succ_iff_lt_or_eq.1 hj with h | h
     ·exact HNO.out j h
     ·rw [h];exact hR)
    clear hR
    go_wp2_with (first
     | (go_at_call 28;refine HC.out.mono ?_;rintro e w2 ⟨rfl,hb,hp⟩;have HP2:=Lh (hp rfl);have HBB:=Lh (HBG.out.trans hb);have HV2:=Lh (HV.out.turn hb (fun hh=>absurd hh.2 (by show ¬ (w.heap.size+5≤w.heap.size+4);omega)));clear hb hp)
     | go_in)
    go_roundw
    case rel=>exact ⟨6,rfl,by go_num,by omega,HNO2,HP2,HV2,HBB⟩
    case measure=>simp [intOf]
   | some b =>
    obtain ⟨bi,ba,be⟩:=b
    unfold Yt at HC
    dsimp only [Uq] at HC
    have hbe:(be != 0)=true:=Qk8 hR
    have HNS:=Lh (Um HLE.out (show 5<6 by omega) HNO.out hR)
    clear hR
    go_wp2_with (first
     | (go_at_call 28;refine HC.out.mono ?_;rintro e w2 ⟨rfl,hb,_⟩;have HBB:=Lh (HBG.out.trans hb);clear hb)
     | go_in)
    refine bodyPost_ret (Jv rfl _ _ _) rfl ?_
    refine ⟨HB6.out.trans (HBB.out.lo HB6.out.size),?_⟩
    rw [HNS.out]
    rfl
  | 6,HNO,HP,hk =>
   have HNS:=Lh (Qoq HLE.out HNO.out)
   have hok:=HRW.out.ok (HNO.out 1 (by omega))
   have how:=ow_ok (HNO.out 5 (by omega)) HFI.out
   have hlt:=HP.out.lt
   have HS:=Lh (scC_of (g:=w.heap.size+2) (mo:=w.heap.size) (mi:=w.heap.size+1) (B:=wr.heap.size) hok how (by omega) (show w.heap.size+2<_ by have:w.heap.size+4<wr.heap.size:=hlt;omega) (show w.heap.size<_ by have:w.heap.size+4<wr.heap.size:=hlt;omega) (show w.heap.size+1<_ by have:w.heap.size+4<wr.heap.size:=hlt;omega) rfl rfl)
   have HPP:=Lh (show ScW N (Qm ML) (w.heap.size+2) w.heap.size (w.heap.size+1) (nth SMd.hl (Qm ML) 0 0) (nth SMd.he (Qm ML) 0 0) wr from ⟨by rw [hMl];exact HP.out.sc,⟨_,HP.out.im⟩,⟨_,HP.out.ow⟩⟩)
   clear hok how hlt
   go_wp2
   refine bodyPost_ret (Jv rfl _ _ _) rfl ?_
   refine ⟨HB6.out.trans (HBG.out.lo HB6.out.size),?_⟩
   rw [HNS.out]
   exact ⟨w.heap.size+2,_,rfl,HS.out,HPP.out,Nat.le_refl _⟩
 ·have HNS:=Lh (show Qe8 N (Qm ML)=some (0,0,1) by
   unfold Qe8
   rw [if_neg (fun hc=>hmn ⟨by have:=hc.1;omega,by have:=hc.2.1;omega⟩)])
  have ts:((m:Int) != (n:Int))=true∨((m:Int) != (n:Int))=false∧((n:Int)==0)=true:=by
   by_cases h1:m=n
   ·refine .inr ⟨by simp [h1],?_⟩
    have:n=0:=Classical.byContradiction fun h2=>hmn ⟨h1,h2⟩
    simp [this]
   ·exact .inl (by simp;omega)
  clear hL hB hs hq hmm hzk
  rcases ts with t1 | ⟨t1,t2⟩
  all_goals
   go_enter Try.func9,Try.ntmps9
   go_wp2
   refine bodyPost_ret (Jv rfl _ _ _) rfl ?_
   refine ⟨Below.refl _ _,?_⟩
   rw [HNS.out]
   rfl
theorem Qk9:Qid where
 new w A B n m c d ML N S0 h1 h2 h3 h4 h5 h6 h7 h8:=snew_any w A B n m c d ML N S0 h1 h2 h3 h4 h5 h6 h7 h8
 nlen w:=(Qb8 w).mono fun e w' ⟨a,b⟩=>⟨a,b▸Below.refl _ _⟩
 nlat w:=slat_nil w
 neff w:=seff_nil w
 nvar w file s _:=svar_nil w file s
 nfn w file s _:=sfn_nil w file s
 nord w:=Qk4 w
end Go.Proofs.Ytjoclbeoafeebaa
