import Derived.Test.YtkjhlgnpohamnaaGreatDoorSq
import Derived.Test.YtkjhlgnpohamnaaGreatDoorMLl
import Derived.Test.YtkjhlgnpohamnaaGreatDoorLxR
import Derived.Laws.BytesArg
import Derived.Lib.ConvBytes
import Derived.Laws.Concat
import Derived.OpenShut
set_option maxHeartbeats 1600000
namespace Go.Proofs.YtkjhlgnpohamnaaGreatDoor
set_option linter.unusedVariables false
set_option linter.unusedSimpArgs false
open Go.RowKit Go.ChangeShapes
theorem convert_none (src e : TypeId) (hs : Tryz.prog.underlying src = some (.slice e)) (he : Tryz.prog.underlying e = some (.int .u8)) (dst : TypeId) (hd : Tryz.prog.underlying dst = some .string) (p : Option Addr) (c : Nat) (w : World) :
  (convert src dst (.slice p 0 c)).run Tryz.prog w = .ok (.string ⟨#[]⟩) w:=by
 rw [run_convert_bytes_string w src dst e _ 0 c hs he hd]
 rcases p with _ | a
 ·rfl
 ·have:=run_bytesToString (P:=Tryz.prog) w a 0 c [] (by simpa using run_loadCells_list (P:=Tryz.prog) w a [] (by simp))
  exact this
theorem convert_sh {w : World} {B n : Nat} {A : Option Addr} {bs : List Int} (h : Sh w B A n (by8 bs)) (c : Nat) : (convert 22 9 (.slice A n c)).run Tryz.prog w = .ok (.string (strOfNums bs)) w:=by
 have hl : bs.length = n:=by have:=h.len; rwa [by8_len] at this
 rcases Nat.eq_zero_or_pos n with h0 | h0
 ·subst h0
  have : bs = []:=List.eq_nil_of_length_eq_zero hl
  subst this
  exact convert_none 22 5 Tryz.underlying22 (by kernel_rfl) 9 (by kernel_rfl) A c w
 ·obtain ⟨b,off,rfl,_,hc⟩:=h.2 h0
  refine run_convert_bytes_arg w 22 5 Tryz.underlying22 (by kernel_rfl) b off n c bs hl (fun i hi => ?_) 9 (by kernel_rfl)
  refine hc i _ ?_
  rw [by8_get?]
  have : i < bs.length:=by omega
  simp [this]
def Byt8 (l : List Int) : Prop:=∀ x ∈ l,0 ≤ x ∧ x < 256
theorem byt8_of {l : List Int} (h : ∀ n ∈ l,(Lit.int .u8 n).wf = true) : Byt8 l:=fun x hx => by
 have:=bounds_u8 (h x hx)
 omega
theorem bts_str {xs : List Int} (h : Byt8 xs) : bts (strOfNums xs) = xs:=by
 unfold bts
 rw [strOfNums_data,List.map_map]
 refine (List.map_congr_left fun x hx => ?_).trans (List.map_id xs)
 obtain ⟨h0,h1⟩:=h x hx
 have : x.toNat < 256:=by omega
 simp [UInt8.toNat_ofNat,Nat.mod_eq_of_lt this]
 omega
theorem convS {w : World} {B : Nat} (s : ByteArray) (bs : List Int) (hb : bts s = bs) (hs : s.size ≤ 1000000) (hB : B ≤ w.heap.size) : ∃ wl c,(convert 9 22 (.string s)).run Tryz.prog w = .ok (.slice (some ⟨w.heap.size,0,none⟩) s.size c) wl ∧
  Sh wl wl.heap.size (some ⟨w.heap.size,0,none⟩) s.size (by8 bs) ∧ Below B w wl ∧ s.size ≤ c ∧ c ≤ maxLen:=by
 refine ⟨Lib.bytesWorld w 5 s,grownCap w s.size 0 5,?_,?_,?_,?_,?_⟩
 ·exact Lib.run_convert_string_bytes w 9 22 5 s (u:=.string) (by kernel_rfl) Tryz.underlying22 (by kernel_rfl)
 ·subst hb
  refine ⟨by rw [by8_len,bts_len],fun hn => ⟨w.heap.size,0,rfl,by rw [Lib.bytesWorld_size]; omega,fun k u hu => ?_⟩⟩
  rw [by8_get?] at hu
  obtain ⟨x,hx,rfl⟩:=Option.map_eq_some_iff.1 hu
  have hk : k < s.size:=by have:=(List.getElem?_eq_some_iff.1 hx).1; rwa [bts_len] at this
  rw [Nat.zero_add,Lib.bytesWorld_cell w _ s k hk]
  unfold bts at hx
  rw [List.getElem?_map] at hx
  obtain ⟨y,hy,rfl⟩:=Option.map_eq_some_iff.1 hx
  rw [List.getD,hy]
  rfl
 ·refine ⟨rfl,rfl,rfl,?_,fun k hk => ?_⟩
  ·rw [Lib.bytesWorld_size]; omega
  ·exact Lib.bytesWorld_at_old w _ s k (by omega)
 ·exact grownCap_ge w s.size 0 _
 ·exact grownCap_le_maxLen w s.size 0 _ (by unfold maxLen; omega)
theorem str_len (a : List Int) : (strOfNums a).size = a.length:=strOfNums_size a
theorem Byt8.take {l : List Int} (h : Byt8 l) (n : Nat) : Byt8 (l.take n):=fun x hx => h x (List.mem_of_mem_take hx)
theorem Byt8.drop {l : List Int} (h : Byt8 l) (n : Nat) : Byt8 (l.drop n):=fun x hx => h x (List.mem_of_mem_drop hx)
end Go.Proofs.YtkjhlgnpohamnaaGreatDoor
namespace Go.Proofs.YtkjhlgnpohamnaaGreatDoor
set_option linter.unusedVariables false
set_option linter.unusedSimpArgs false
open Go.RowKit
def kws : List (List UInt8):=[[105,109,112,111,114,116],[108,97,116,116,105,99,101],[101,102,102,101,99,116,115],[118,97,114],[102,110],[108,101,116],[105,102],[101,108,115,101],[119,104,105,108,101],[114,101,116,117,114,110],[100,111],[116,114,117,101],[102,97,108,115,101],[105,110,116],[98,111,111,108],[100,101,99,108,97,115,115,105,102,121]]
def kwB (s : ByteArray) : Bool:=kws.any fun l => s.toList == l
set_option maxRecDepth 10000 in
theorem keyword_any (s : ByteArray) (w : World) : CP 115 #[.string s] w fun e w' => e = .returned (.bool (kwB s)) ∧ w = w':=by
 by_cases hk : kwB s = true
 ·have hm : ∃ l ∈ kws,s.toList = l:=by
   obtain ⟨l,hl,he⟩:=List.any_eq_true.1 hk
   exact ⟨l,hl,by simpa using he⟩
  obtain ⟨l,hl,he⟩:=hm
  rw [hk]
  have e1:=Lh he
  simp only [kws,List.mem_cons,List.not_mem_nil,or_false] at hl
  clear hk he
  have hq : ∀ l',(s.toList == l') = (l == l'):=fun l' => by rw [e1.out]
  clear e1
  rcases hl with rfl | rfl | rfl | rfl | rfl | rfl | rfl | rfl | rfl | rfl | rfl | rfl | rfl | rfl | rfl | rfl
  all_goals
   go_enter Tryz.func115,Tryz.ntmps115
   go_wp2
   go_ret
   exact ⟨rfl,rfl⟩
 ·have hk' : kwB s = false:=by simpa using hk
  rw [hk']
  have hall : ∀ l ∈ kws,(s.toList == l) = false:=fun l hl => by
   have:=List.any_eq_false.1 hk' l hl
   simpa using this
  simp only [kws,List.mem_cons,List.not_mem_nil,or_false,forall_eq_or_imp,forall_eq] at hall
  obtain ⟨h1,h2,h3,h4,h5,h6,h7,h8,h9,h10,h11,h12,h13,h14,h15,h16⟩:=hall
  clear hk hk'
  go_enter Tryz.func115,Tryz.ntmps115
  go_wp2
  go_ret
  exact ⟨rfl,rfl⟩
def identL : List Int → Bool
 | [] => false
 | c :: r => kd c == 2 && r.all fun x => kd x == 2 || kd x == 3
theorem identL_cons (c : Int) (r : List Int) : identL (c :: r) = (kd c == 2 && r.all fun x => kd x == 2 || kd x == 3):=rfl
def idB (s : ByteArray) : Bool:=decide (s.size ≤ 24) && !(kwB s) && identL (bts s)
theorem run_full {p : Int → Bool} {l : List Int} : (runB p l == l.length) = l.all p:=by
 induction l with
 | nil => rfl
 | cons x l ih =>
  cases h : p x
  ·rw [runB_no h]
   simp [h]
  ·rw [runB_yes h,List.length_cons,List.all_cons,h,← ih]
   simp
theorem ident_tok {bs : List Int} (h : 0 < bs.length) : identL bs = (tk bs == 2 && ((tl bs : Int) == (bs.length : Int))):=by
 cases bs with
 | nil => simp at h
 | cons c r =>
  have hr:=kd_range c
  by_cases h2 : kd c = 2
  ·have e1 : tk (c :: r) = 2:=by rw [tk_cons,if_pos (by omega),h2]
   have e2 : tl (c :: r) = 1 + runB (goes 2) r:=by rw [tl_cons,if_pos (by omega),h2]
   have e3 : (r.all fun x => kd x == 2 || kd x == 3) = r.all (goes 2):=rfl
   rw [identL_cons]
   rw [h2,e1,e2,e3,← run_full]
   have : (((1 + runB (goes 2) r : Nat) : Int) == (((c :: r).length : Nat) : Int)) = (runB (goes 2) r == r.length):=by
    rw [List.length_cons]
    by_cases e : runB (goes 2) r = r.length
    ·rw [e]; simp; omega
    ·have h1 : ¬ (((1 + runB (goes 2) r : Nat) : Int) = ((r.length + 1 : Nat) : Int)):=by omega
     rw [beq_eq_false_iff_ne.2 e,beq_eq_false_iff_ne.2 h1]
   rw [this]
  ·have e1 : (tk (c :: r) == 2) = false:=by
    rw [tk_cons]
    split
    ·simpa using h2
    ·split
     ·rfl
     ·simpa using h2
   rw [identL_cons]
   rw [e1]
   simp [h2]
theorem toList_nil {s : ByteArray} : (s.toList == []) = decide (s.size = 0):=by
 rw [ByteArray.toList_eq]
 have : s.size = s.data.toList.length:=rfl
 cases h : s.data.toList with
 | nil => rw [this,h]; rfl
 | cons a l => rw [this,h]; simp
set_option maxRecDepth 10000 in
theorem ident_any (s : ByteArray) (w : World) : CP 79 #[.string s] w fun e w' => e = .returned (.bool (idB s)) ∧ Below w.heap.size w w':=by
 have hkw:=Lh (keyword_any s)
 by_cases h0 : s.size = 0
 ·have hn : (s.toList == []) = true:=by rw [toList_nil,h0]; rfl
  have hid : idB s = false:=by
   have : bts s = []:=List.eq_nil_of_length_eq_zero (by rw [bts_len,h0])
   unfold idB
   rw [this]
   simp [identL]
  have HI:=Lh hid
  clear h0 hid
  go_enter Tryz.func79,Tryz.ntmps79
  go_wp2
  go_ret
  exact ⟨ret_bool HI.out.symm,Below.refl _ _⟩
 ·have hn : (s.toList == []) = false:=by rw [toList_nil]; simpa using h0
  by_cases h24 : 24 < s.size
  ·have h24' : (24 : Int) < (s.size : Int):=by omega
   have hid : idB s = false:=by unfold idB; rw [show decide (s.size ≤ 24) = false by simp; omega]; rfl
   have HI:=Lh hid
   clear hid
   go_enter Tryz.func79,Tryz.ntmps79
   go_wp2
   go_ret
   exact ⟨ret_bool HI.out.symm,Below.refl _ _⟩
  ·have h24' : ¬ (24 : Int) < (s.size : Int):=by omega
   cases hk : kwB s with
   | true =>
    have hid : idB s = false:=by unfold idB; rw [hk]; simp
    have HI:=Lh hid
    have HK:=Lh hk
    clear hid hk
    go_enter Tryz.func79,Tryz.ntmps79
    go_wp2_with (first
     | (go_at_call 115; refine (hkw.out _).mono ?_; rintro e w' ⟨rfl,rfl⟩; rw [HK.out])
     | fail)
    go_ret
    exact ⟨ret_bool HI.out.symm,Below.refl _ _⟩
   | false =>
    have hlen : 0 < (bts s).length:=by rw [bts_len]; omega
    have hid : idB s = (tk (bts s) == 2 && ((tl (bts s) : Int) == (s.size : Int))):=by
     unfold idB
     rw [hk,ident_tok hlen,bts_len,show decide (s.size ≤ 24) = true by simp; omega]
     simp
    have HI:=Lh hid
    have HK:=Lh hk
    obtain ⟨wl,cc,hcv,hxw,hbw,hc1,hc2⟩:=convS (w:=w) (B:=w.heap.size) s (bts s) rfl (by omega) nLe
    have hto:=tokenAt_any _ s.size cc 0 (bts s) wl hxw (by omega) hc1 hc2 (by omega)
    rw [List.drop_zero,Nat.zero_add] at hto
    have HT:=Lh hto
    have HBW:=Lh hbw
    have hz:=zeroTok
    obtain ⟨K,hK⟩ : ∃ K,tk (bts s) = K:=⟨_,rfl⟩
    obtain ⟨T,hT⟩ : ∃ T,tl (bts s) = T:=⟨_,rfl⟩
    rw [hK,hT] at HT HI
    clear hid hk hto hbw hxw hc1 hc2 hK hT hlen
    have hcs : ((K == 2) = false) ∨ ((K == 2) = true ∧ ((T : Int) == (s.size : Int)) = false) ∨ ((K == 2) = true ∧ ((T : Int) == (s.size : Int)) = true):=by
     cases h2 : (K == 2)
     ·exact .inl rfl
     ·cases h3 : ((T : Int) == (s.size : Int))
      ·exact .inr (.inl ⟨rfl,rfl⟩)
      ·exact .inr (.inr ⟨rfl,rfl⟩)
    obtain ⟨r,hr⟩ : ∃ r,idB s = r:=⟨_,rfl⟩
    rw [hr] at HI ⊢
    clear hr
    rcases hcs with h2 | ⟨h2,h3⟩ | ⟨h2,h3⟩
    all_goals
     simp only [h2] at HI
     try simp only [h3] at HI
     go_enter Tryz.func79,Tryz.ntmps79
     go_wp2_with (first
      | (go_at_call 115; refine (hkw.out _).mono ?_; rintro e w' ⟨rfl,rfl⟩; rw [HK.out])
      | (go_at_call 55; refine HT.out.mono ?_; rintro e w1 ⟨rfl,b1⟩; have B1:=Lh b1; clear b1; dsimp only)
      | fail)
     go_ret
     exact ⟨ret_bool HI.out.symm,HBW.out.trans (B1.out.mono HBW.out.size)⟩
end Go.Proofs.YtkjhlgnpohamnaaGreatDoor
