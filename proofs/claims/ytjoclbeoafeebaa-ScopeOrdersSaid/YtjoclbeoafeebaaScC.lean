import Derived.Test.YtjoclbeoafeebaaSq
import Derived.Test.YtjoclbeoafeebaaScP
import Derived.Test.YtjoclbeoafeebaaScV
set_option maxHeartbeats 1600000
set_option maxRecDepth 100000
namespace Go.Proofs.Ytjoclbeoafeebaa
set_option linter.unusedVariables false
set_option linter.unusedSimpArgs false
open Go.RowKit
def fdT:Option (Nat×Nat)→Int×Int×Bool
 | some (i,k)=>((i:Int),(k:Int),true)
 | none=>(0,0,false)
theorem fdC_T(z:Option (Nat×Nat)):fdC z=[.int .i64 (fdT z).1,.int .i64 (fdT z).2.1,.bool (fdT z).2.2]:=by rcases z with _ | ⟨i,k⟩ <;> rfl
def Qc4(z:Option (Nat×Nat))(w:World)(e:Ending)(w':World):Prop:=e=.returned (.tuple #[.int .i64 (fdT z).1,.int .i64 (fdT z).2.1,.bool (fdT z).2.2])∧Below w.heap.size w w'
structure ScC (N:List ByteArray) (M:List SMd) (g B:Nat) (P:World→Prop):Prop where
 sz:∀ {w},P w→B≤w.heap.size
 stay:∀ {w w'},P w→Below B w w'→P w'
 len:∀ {w},P w→CP 15 #[.pointer (some ⟨g,0,none⟩)] w fun e w'=>e=.returned (.int .i64 (M.length:Int))∧Below w.heap.size w w'
 lat:∀ {w},P w→CP 16 #[.pointer (some ⟨g,0,none⟩)] w fun e w'=>e=.returned (.int .i64 (nth SMd.hl M 0 0))∧Below w.heap.size w w'
 eff:∀ {w},P w→CP 18 #[.pointer (some ⟨g,0,none⟩)] w fun e w'=>e=.returned (.int .i64 (nth SMd.he M 0 0))∧Below w.heap.size w w'
 var:∀ {w} (file:Int) (s:ByteArray),-9223372036854775808≤file→file≤9223372036854775807→s.size≤100→P w→CP 11 #[.pointer (some ⟨g,0,none⟩),.int .i64 file,.string s] w (Qc4 (Ju SMd.vs N M file s) w)
 fn:∀ {w} (file:Int) (s:ByteArray),-9223372036854775808≤file→file≤9223372036854775807→s.size≤100→P w→CP 13 #[.pointer (some ⟨g,0,none⟩),.int .i64 file,.string s] w (Qc4 (Ju SMd.fs N M file s) w)
 ord:∀ {w},P w→CP 20 #[.pointer (some ⟨g,0,none⟩)] w (Qbs (Qnr N M) w)
def Qk0(N:List ByteArray)(M:List SMd)(w:World)(e:Ending)(w':World):Prop:=Below w.heap.size w w'∧match Qe8 N M with
  | none=>∃ g P,e=.returned (.tuple #[.pointer (some ⟨g,0,none⟩),.int .i64 0,.int .i64 0,.int .i64 0])∧ScC N M g w'.heap.size P∧P w'
  | some b=>e=.returned (.tuple #[.pointer none,.int .i64 (Uq (some b)).1,.int .i64 (Uq (some b)).2.1,.int .i64 (Uq (some b)).2.2])
structure Qid:Prop where
 new:∀ (w:World) (A B:Option Addr) (n m c d:Nat) (ML:List OMo) (N:List ByteArray) (S0:Nat→Prop),Y4 w S0 A n ML→n≤8→n≤c→Sh w w.heap.size B m (Z0 N)→m≤10→m≤d→(∀ s∈N,s.size≤100)→(∀ q∈ML,q.1.Fine∧q.1.Cap 1000) →
  CP 9 #[.slice B m d,.slice A n c] w (Qk0 N (Qm ML) w)
 nlen:∀ w,CP 15 #[.pointer none] w fun e w'=>e=.returned (.int .i64 0)∧Below w.heap.size w w'
 nlat:∀ w,CP 16 #[.pointer none] w fun e w'=>e=.returned (.int .i64 (-1))∧Below w.heap.size w w'
 neff:∀ w,CP 18 #[.pointer none] w fun e w'=>e=.returned (.int .i64 (-1))∧Below w.heap.size w w'
 nvar:∀ w (file:Int) (s:ByteArray),s.size≤100→CP 11 #[.pointer none,.int .i64 file,.string s] w (Qc4 none w)
 nfn:∀ w (file:Int) (s:ByteArray),s.size≤100→CP 13 #[.pointer none,.int .i64 file,.string s] w (Qc4 none w)
 nord:∀ w,CP 20 #[.pointer none] w fun e w'=>∃ A c,e=.returned (.slice A 0 c)∧Below w.heap.size w w'
def Aw17:Prop:=∀ w,CP 8 #[] w fun e w'=>e=.returned (.bool true)∧Below w.heap.size w w'
def K8(l:List ByteArray):Bool:=(l.take 10).all (fun s=>decide (s.size≤100))&&decide (l.length≤10)
theorem Qd8{l:List ByteArray}(h:K8 l=true):l.length≤10∧∀ s∈l,s.size≤100:=by
 unfold K8 at h
 simp only [Bool.and_eq_true,decide_eq_true_eq,List.all_eq_true] at h
 exact ⟨h.2,fun s hs=>h.1 s (by rw [List.take_of_length_le h.2];exact hs)⟩
theorem Qcy(B:Option Addr)(m d:Nat)(N:List ByteArray)(w:World)(hB:Sh w w.heap.size B m (Z0 N))(hm:m≤maxLen) :
  CP 7 #[.slice B m d] w fun e w'=>e=.returned (.bool (K8 N))∧w=w':=by
 unfold maxLen at hm
 have hl:N.length=m:=by have:=hB.len;simpa [Z0] using this
 have HL:=Lh hl
 have HBB:=Lh hB
 clear hB hl
 go_enter Try.func7,Try.ntmps7
 go_wp2
 go_loopw [3] (fun i wr=>∃ k:Nat,i=.int .i64 (k:Int)∧k≤m∧k≤10∧Hid (∀ s∈N.take k,s.size≤100)∧wr=w) (fun i _=>m-(intOf i).toNat)
 case atStart=>exact ⟨0,rfl,Nat.zero_le _,Nat.zero_le _,Lh (fun s hs=>(by cases hs)),rfl⟩
 case round =>
  obtain ⟨k,rfl,hk,hk10,HA,rfl⟩:=hrel
  by_cases hlt:k<m
  ·by_cases hlt10:k<10
   ·obtain ⟨b0,off0,u,hA0,hb0,hu,hc0⟩:=HBB.out.at hlt
    have hkl:k<N.length:=by rw [HL.out];exact hlt
    obtain ⟨s,hs⟩:∃ s,N[k]=s:=⟨_,rfl⟩
    have hu2:u=.string s:=by
     unfold Z0 at hu
     rw [List.getElem?_map,List.getElem?_eq_getElem hkl,hs] at hu
     cases hu
     rfl
    subst hu2
    subst hA0
    have htk:N.take (k+1)=N.take k++[s]:=by rw [← hs,List.take_succ_eq_append_getElem hkl]
    by_cases hsz:s.size≤100
    ·have h1:¬ (100:Int)<(s.size:Int):=by omega
     have HA2:=Lh (show ∀ t∈N.take (k+1),t.size≤100 from fun t ht=>by
      rw [htk] at ht
      rcases List.mem_append.1 ht with ht | ht
      ·exact HA.out t ht
      ·rw [List.mem_singleton.1 ht];exact hsz)
     clear hu hs htk
     go_wp2
     go_roundw
     case rel=>exact ⟨k+1,by go_num,hlt,hlt10,HA2,by first | rfl | trivial⟩
     case measure=>simp [intOf];omega
    ·have h1:(100:Int)<(s.size:Int):=by omega
     have HR:=Lh (show K8 N=false by
      unfold K8
      rw [Bool.and_eq_false_iff]
      left
      rw [List.all_eq_false]
      refine ⟨s,?_,by simpa using hsz⟩
      have:s∈N.take (k+1):=by rw [htk];simp
      exact List.mem_of_mem_take (show s∈(N.take 10).take (k+1) by rw [List.take_take,Nat.min_eq_left (by omega)];exact this))
     clear hu hs htk
     go_wp2
     go_ret
     exact ⟨by rw [HR.out];rfl,rfl⟩
   ·obtain rfl:k=10:=by omega
    have h2:¬ (m:Int)≤10:=by omega
    have HR:=Lh (show K8 N=false by
     unfold K8
     rw [Bool.and_eq_false_iff]
     right
     rw [HL.out]
     simp;omega)
    go_wp2
    go_ret
    exact ⟨by rw [HR.out];first | rfl | (simp;omega),rfl⟩
  ·obtain rfl:m=k:=by omega
   have h2:(m:Int)≤10:=by omega
   have HR:=Lh (show K8 N=true by
    unfold K8
    rw [Bool.and_eq_true]
    refine ⟨?_,by rw [HL.out];simpa using hk10⟩
    rw [List.all_eq_true]
    intro s hs
    rw [List.take_of_length_le (by rw [HL.out];exact hk10)] at hs
    have:=HA.out s (by rw [List.take_of_length_le (by rw [HL.out];exact Nat.le_refl _)];exact hs)
    simpa using this)
   go_wp2
   go_ret
   exact ⟨by rw [HR.out];first | rfl | (simp;omega),rfl⟩
theorem Qfc(HI:Qid)(HA:Aw17)(file:Int)(s:ByteArray)(w:World)(hs:s.size≤maxLen) :
  CP 5 #[.int .i64 file,.string s] w fun e w'=>e=.returned (.bool true)∧Below w.heap.size w w':=by
 have HAW:=Lh HA
 unfold Aw17 at HAW
 by_cases h100:s.size≤100
 ·have h1:¬ (100:Int)<(s.size:Int):=by omega
  have HV:=Lh (fun w=>HI.nvar w file s h100)
  have HF:=Lh (fun w=>HI.nfn w file s h100)
  have HLn:=Lh HI.nlen
  have HLa:=Lh HI.nlat
  have HEf:=Lh HI.neff
  have HOr:=Lh HI.nord
  unfold Qc4 at HV HF
  dsimp only [fdT] at HV HF
  have HB:=Lh (Below.refl w.heap.size w)
  clear HI HA
  go_enter Try.func5,Try.ntmps5
  go_wp2_with (first
   | (go_at_call 11;with_reducible refine (HV.out _).mono ?_;rintro e w2 ⟨rfl,b⟩;have HB:=Lh (bTr HB b);clear b)
   | (go_at_call 13;with_reducible refine (HF.out _).mono ?_;rintro e w2 ⟨rfl,b⟩;have HB:=Lh (bTr HB b);clear b)
   | (go_at_call 15;with_reducible refine (HLn.out _).mono ?_;rintro e w2 ⟨rfl,b⟩;have HB:=Lh (bTr HB b);clear b)
   | (go_at_call 16;with_reducible refine (HLa.out _).mono ?_;rintro e w2 ⟨rfl,b⟩;have HB:=Lh (bTr HB b);clear b)
   | (go_at_call 18;with_reducible refine (HEf.out _).mono ?_;rintro e w2 ⟨rfl,b⟩;have HB:=Lh (bTr HB b);clear b)
   | (go_at_call 20;with_reducible refine (HOr.out _).mono ?_;rintro e w2 ⟨oA,oc,rfl,b⟩;have HB:=Lh (bTr HB b);clear b)
   | (go_at_call 8;with_reducible refine (HAW.out _).mono ?_;rintro e w2 ⟨rfl,b⟩;have HB:=Lh (bTr HB b);clear b)
   | fail)
  go_ret
  exact ⟨rfl,HB.out⟩
 ·have h1:(100:Int)<(s.size:Int):=by omega
  have HB:=Lh (Below.refl w.heap.size w)
  clear HI HA
  go_enter Try.func5,Try.ntmps5
  go_wp2_with (first
   | (go_at_call 8;with_reducible refine (HAW.out _).mono ?_;rintro e w2 ⟨rfl,b⟩;have HB:=Lh (bTr HB b);clear b)
   | fail)
  go_ret
  exact ⟨rfl,HB.out⟩
end Go.Proofs.Ytjoclbeoafeebaa
