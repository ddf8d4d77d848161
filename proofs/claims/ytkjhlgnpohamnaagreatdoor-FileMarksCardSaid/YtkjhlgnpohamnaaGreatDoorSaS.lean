import Derived.Test.YtkjhlgnpohamnaaGreatDoorSq
import Derived.Test.YtkjhlgnpohamnaaGreatDoorSaZ
import Derived.Lib.Builder
namespace Go.Proofs.YtkjhlgnpohamnaaGreatDoor.Mk
set_option linter.unusedVariables false
set_option linter.unusedSimpArgs false
open Go.RowKit Go.Lib Go.Sort
theorem ins_none (v : Value) (w : World) : CP 106 #[v,.int .i64 0,.int .i64 0,cmpV] w fun e w' => e = .returned (.tuple #[]) ∧ w = w':=by
 go_enter Tryz.func106,Tryz.ntmps106
 go_wp2
 go_loopw [8] (fun i wr => i = .int .i64 1 ∧ w = wr) (fun i _ => 0)
 case atStart => exact ⟨rfl,rfl⟩
 case round =>
  obtain ⟨rfl,rfl⟩:=hrel
  go_wp2
  go_end0
  exact ⟨rfl,rfl⟩
theorem stable_none (v : Value) (w : World) : CP 66 #[v,.int .i64 0,cmpV] w fun e w' => e = .returned (.tuple #[]) ∧ w = w':=by
 go_enter Tryz.func66,Tryz.ntmps66
 go_wp2
 go_loopw [7,8] (fun a b wr => a = .int .i64 0 ∧ b = .int .i64 20 ∧ w = wr) (fun _ _ _ => 0)
 case atStart => exact ⟨rfl,rfl,rfl⟩
 case round =>
  obtain ⟨rfl,rfl,rfl⟩:=hrel
  go_wp2_with (first
   | (go_at_call 106; refine (ins_none _ _).mono ?_; rintro e w1 ⟨rfl,rfl⟩)
   | fail)
  go_loopw [6,7,8,9] (fun s a b m wr => s = .int .i64 20 ∧ w = wr) (fun _ _ _ _ _ => 0)
  case atStart => exact ⟨rfl,rfl⟩
  case round =>
   obtain ⟨rfl,rfl⟩:=hrel
   go_wp2
   go_end0
   exact ⟨rfl,rfl⟩
theorem below_SWK {B g : Nat} {w0 W : World} {d : Array Ed} (h : SWK ecell 5 w0 g 0 d W) (hg : B ≤ g) (hB : B ≤ w0.heap.size) : Below B w0 W:=by
 obtain ⟨n,os,rfl⟩:=h
 have h1 : Below B w0 (putRow id (Sort.ahead w0 n) g 0 (flatK ecell 5 d)):=
  ⟨rfl,rfl,rfl,by simp [putRow,mapBlock,Sort.ahead],fun k hk => by simp [putRow,mapBlock,Sort.ahead,Array.getElem?_modify,show g ≠ k by omega]⟩
 refine h1.trans ⟨rfl,rfl,rfl,?_,fun k hk => ?_⟩
 ·show _ ≤ (Go.Sort.grow (putRowK ecell 5 (Sort.ahead w0 n) g 0 d) os).heap.size
  rw [size_grow]
  exact Nat.le_add_right _ _
 ·show (Go.Sort.grow (putRowK ecell 5 (Sort.ahead w0 n) g 0 d) os).heap[k]? = _
  have hlt : k < (putRowK ecell 5 (Sort.ahead w0 n) g 0 d).heap.size:=Nat.lt_of_lt_of_le hk (by rw [size_putRowK]; exact hB)
  unfold Go.Sort.grow
  dsimp only
  rw [Array.getElem?_append_left hlt]
  rfl
theorem take_add' (L : List Ed) (a b : Nat) : L.take (a + b) = L.take a ++ (L.drop a).take b:=List.take_add
set_option maxHeartbeats 2000000 in
set_option maxRecDepth 1000000 in
theorem stable_any (g cap : Nat) (d0 : Array Ed) (w0 w : World) (D : List Ed) (hR : RowK ecell 5 w0 g 0 d0) (n : Nat) (hn : n = d0.size) (hS : SWE w0 g D w) (hs : D.length = n) (hsz : n ≤ 100000) :
  CP 66 #[.slice (some ⟨g,0,none⟩) n cap,.int .i64 n,cmpV] w fun e w' => e = .returned (.tuple #[]) ∧ ∃ L,SWE w0 g L w' ∧ Srt L ∧ Fl L D:=by
 have HS:=Lh hS
 have HN:=Lh hs
 have HNN:=Lh hn
 clear hS hs hn
 go_enter Tryz.func66,Tryz.ntmps66
 go_wp2
 go_loopw [7,8] (fun va vb wr => ∃ (t a : Nat) (A : List Ed),a = t * 20 ∧ va = .int .i64 (a : Int) ∧ vb = .int .i64 ((a : Int) + 20) ∧ a ≤ n ∧ A.length = a ∧ BS 20 A ∧ Fl A (D.take a) ∧ SWE w0 g (A ++ D.drop a) wr) (fun va _ _ => n + 1 - (intOf va).toNat)
 case atStart => exact ⟨0,0,[],rfl,rfl,rfl,Nat.zero_le _,rfl,BS.nil _,Fl.refl _,by simpa using HS.out⟩
 case round =>
  obtain ⟨t,a,A,hta,rfl,rfl,ha,hA,hbs,hfl,hw⟩:=hrel
  have HT:=Lh hta
  have HA:=Lh hA
  have HBS:=Lh hbs
  have HFL:=Lh hfl
  have HW:=Lh hw
  clear hta hA hbs hfl hw
  by_cases hlt : a + 20 ≤ n
  ·obtain ⟨b,hb⟩ : ∃ b,a + 20 = b:=⟨_,rfl⟩
   have hb' : (a : Int) + 20 = (b : Int):=by omega
   have hbn : (b : Int) ≤ (n : Int):=by omega
   have rb : IntKind.i64.wrap ((b : Int) + 20) = (b : Int) + 20:=IntWalk.i64_in _ (by omega)
   have HIN : Hid (CP 106 #[.slice (some ⟨g,0,none⟩) n cap,.int .i64 (a : Int),.int .i64 (b : Int),cmpV] wr fun e w' => e = .returned (.tuple #[]) ∧ Hid (∃ M,SWE w0 g (A ++ M ++ D.drop b) w' ∧ Srt M ∧ Fl M ((D.drop a).take 20))):=Lh (by
    have h1:=HA.out
    have h2:=HN.out
    have hw:=HW.out
    have e1 : A ++ D.drop a = A ++ (D.drop a).take 20 ++ D.drop b:=by
     have : D.drop a = (D.drop a).take 20 ++ D.drop b:=by
      conv => lhs; rw [← List.take_append_drop 20 (D.drop a)]
      rw [List.drop_drop,← hb]
     rw [List.append_assoc,← this]
    rw [e1] at hw
    have hl : ((D.drop a).take 20).length = 20:=by rw [List.length_take,List.length_drop]; omega
    refine (ins_any g cap a b d0 w0 wr A ((D.drop a).take 20) (D.drop b) hR n HNN.out hw ?_ h1.symm (by rw [hl]; omega) hsz).mono ?_
    ·simp only [List.length_append]; rw [hl,List.length_drop]; omega
    ·rintro e w' ⟨he,M,m1,m2,m3⟩
     exact ⟨he,Lh ⟨M,m1,m2,m3⟩⟩)
   rw [hb']
   have HB:=Lh hb
   clear hb hb'
   go_wp2_with (first
    | (go_at_call 106; refine HIN.out.mono ?_; rintro e w1 ⟨rfl,hM⟩)
    | fail)
   obtain ⟨M,m1,m2,m3⟩:=hM.out
   have hl : ((D.drop a).take 20).length = 20:=by rw [List.length_take,List.length_drop]; have:=HN.out; omega
   go_roundw
   case rel =>
    refine ⟨t + 1,b,A ++ M,by have:=HT.out; have:=HB.out; omega,rfl,rfl,by omega,?_,HBS.out.app (t:=t) (by rw [HA.out,HT.out]) m2 (by rw [m3.1,hl]; exact Nat.le_refl _),?_,m1⟩
    ·rw [List.length_append,m3.1,hl,HA.out]; exact HB.out
    ·rw [← HB.out,take_add']; exact HFL.out.app m3
   case measure => simp [intOf]; have:=HB.out; omega
  ·have hbn : ¬ (a : Int) + 20 ≤ (n : Int):=by omega
   have HIN : Hid (CP 106 #[.slice (some ⟨g,0,none⟩) n cap,.int .i64 (a : Int),.int .i64 (n : Int),cmpV] wr fun e w' => e = .returned (.tuple #[]) ∧ Hid (∃ L,SWE w0 g L w' ∧ BS 20 L ∧ Fl L D)):=Lh (by
    have h1:=HA.out
    have h2:=HN.out
    have hw:=HW.out
    have e1 : A ++ D.drop a = A ++ D.drop a ++ []:=by simp
    rw [e1] at hw
    refine (ins_any g cap a n d0 w0 wr A (D.drop a) [] hR n HNN.out hw ?_ h1.symm (by rw [List.length_drop]; omega) hsz).mono ?_
    ·simp only [List.length_append,List.length_nil,List.length_drop]; omega
    ·rintro e w' ⟨he,M,m1,m2,m3⟩
     refine ⟨he,Lh ⟨A ++ M,by simpa using m1,HBS.out.app (t:=t) (by rw [HA.out,HT.out]) m2 (by rw [m3.1,List.length_drop]; omega),?_⟩⟩
     have:=HFL.out.app m3
     rwa [List.take_append_drop] at this)
   go_wp2_with (first
    | (go_at_call 106; refine HIN.out.mono ?_; rintro e w1 ⟨rfl,hM⟩)
    | fail)
   clear HIN HW HFL HBS HA HT
   go_loopw [6,7,8,9] (fun v6 v7 v8 v9 wr => ∃ (bs : Nat) (L : List Ed),v6 = .int .i64 (bs : Int) ∧ 20 ≤ bs ∧ bs ≤ 200000 ∧ Hid (SWE w0 g L wr ∧ BS bs L ∧ Fl L D)) (fun v6 _ _ _ _ => 2 * n - (intOf v6).toNat)
   case atStart =>
    obtain ⟨L,l1,l2,l3⟩:=hM.out
    exact ⟨20,L,rfl,by omega,by omega,Lh ⟨l1,l2,l3⟩⟩
   case round =>
    obtain ⟨bs,L,rfl,hb1,hb2,HL⟩:=hrel
    by_cases hbl : bs < n
    ·have hbl' : (bs : Int) < (n : Int):=by omega
     have r2 : IntKind.i64.wrap (2 * (bs : Int)) = 2 * (bs : Int):=IntWalk.i64_in _ (by omega)
     have r2' : IntKind.i64.wrap ((bs : Int) * 2) = (bs : Int) * 2:=IntWalk.i64_in _ (by omega)
     go_wp2
     obtain ⟨wa,hwa⟩ : ∃ wa,wa = wr:=⟨_,rfl⟩
     rw [← hwa] at HL ⊢
     clear hwa
     go_loopw [7,8] (fun va vb wq => ∃ (t a : Nat) (A S : List Ed),a = t * (2 * bs) ∧ va = .int .i64 (a : Int) ∧ vb = .int .i64 ((a : Int) + 2 * (bs : Int)) ∧ a ≤ n ∧ A.length = a ∧ S.length = n - a ∧ Hid (BS (2 * bs) A ∧ BS bs S ∧ Fl (A ++ S) D ∧ SWE w0 g (A ++ S) wq)) (fun va _ _ => n + 1 - (intOf va).toNat)
     case atStart => exact ⟨0,0,[],L,by omega,rfl,by simp,Nat.zero_le _,rfl,by rw [HL.out.2.2.1,HN.out]; rfl,Lh ⟨BS.nil _,HL.out.2.1,HL.out.2.2,HL.out.1⟩⟩
     case round =>
      obtain ⟨t,a,A,S,hta,rfl,rfl,ha,hA,hSl,HH⟩:=hrel
      have HT:=Lh hta
      have HA:=Lh hA
      have HSL:=Lh hSl
      clear hta hA hSl
      by_cases hlt : a + 2 * bs ≤ n
      ·obtain ⟨b,hb⟩ : ∃ b,a + 2 * bs = b:=⟨_,rfl⟩
       obtain ⟨m,hm⟩ : ∃ m,a + bs = m:=⟨_,rfl⟩
       have hb' : (a : Int) + 2 * (bs : Int) = (b : Int):=by omega
       have hm' : (a : Int) + (bs : Int) = (m : Int):=by omega
       have rm : IntKind.i64.wrap ((a : Int) + (bs : Int)) = (m : Int):=by rw [hm']; exact IntWalk.i64_in _ (by omega)
       have hbn : (b : Int) ≤ (n : Int):=by omega
       have rb : IntKind.i64.wrap ((b : Int) + 2 * (bs : Int)) = (b : Int) + 2 * (bs : Int):=IntWalk.i64_in _ (by omega)
       have HMG : Hid (CP 107 #[.slice (some ⟨g,0,none⟩) n cap,.int .i64 (a : Int),.int .i64 (m : Int),.int .i64 (b : Int),cmpV] wr fun e w' => e = .returned (.tuple #[]) ∧ Hid (∃ M S2,M.length = 2 * bs ∧ S2.length = n - b ∧ BS (2 * bs) (A ++ M) ∧ BS bs S2 ∧ Fl (A ++ M ++ S2) D ∧ SWE w0 g (A ++ M ++ S2) w')):=Lh (by
        have h1:=HA.out
        have h2:=HN.out
        have h3:=HSL.out
        obtain ⟨k1,k2,k3,hw⟩:=HH.out
        have e0 : S = S.take bs ++ (S.drop bs).take bs ++ S.drop (2 * bs):=by
         conv => lhs; rw [← List.take_append_drop (2 * bs) S]
         rw [show 2 * bs = bs + bs by omega,take_add']
        have l1 : (S.take bs).length = bs:=by rw [List.length_take]; omega
        have l2 : ((S.drop bs).take bs).length = bs:=by rw [List.length_take,List.length_drop]; omega
        have e1 : A ++ S = A ++ S.take bs ++ (S.drop bs).take bs ++ S.drop (2 * bs):=by
         conv => lhs; rw [e0]
         simp only [List.append_assoc]
        rw [e1] at hw k3
        have s2:=k2 1
        rw [Nat.one_mul] at s2
        refine (merge_any g cap d0 w0 hR n HNN.out hsz (bs + bs) a m b wr A (S.take bs) ((S.drop bs).take bs) (S.drop (2 * bs)) (by omega) hw (by simp only [List.length_append]; rw [l1,l2,List.length_drop]; omega) h1.symm (by omega) (by omega) (by omega) (by omega) k2.first s2).mono ?_
        rintro e w' ⟨he,M,m1,m2,m3⟩
        have lm : M.length = 2 * bs:=by rw [m3.1,List.length_append,l1,l2]; omega
        refine ⟨he,Lh ⟨M,S.drop (2 * bs),lm,by rw [List.length_drop]; omega,k1.app (t:=t) (by rw [h1,HT.out]) m2 (by omega),k2.drop 2,?_,m1⟩⟩
        refine Fl.trans ?_ k3
        have e2 : A ++ S.take bs ++ (S.drop bs).take bs ++ S.drop (2 * bs) = A ++ (S.take bs ++ (S.drop bs).take bs) ++ S.drop (2 * bs):=by simp only [List.append_assoc]
        rw [e2]
        exact Fl.right (Fl.left m3))
       rw [hb']
       have HB:=Lh hb
       clear hb hb' hm
       go_wp2_with (first
        | (go_at_call 107; refine HMG.out.mono ?_; rintro e w2 ⟨rfl,hM2⟩)
        | fail)
       obtain ⟨M,S2,q1,q2,q3,q4,q5,q6⟩:=hM2.out
       go_roundw
       case rel =>
        refine ⟨t + 1,b,A ++ M,S2,?_,rfl,rfl,by omega,by rw [List.length_append,HA.out,q1]; exact HB.out,q2,Lh ⟨q3,q4,q5,q6⟩⟩
        have h1:=HT.out
        have h2:=HB.out
        rw [Nat.add_mul,Nat.one_mul]
        omega
       case measure => simp [intOf]; have:=HB.out; omega
      ·have hbn : ¬ (a : Int) + 2 * (bs : Int) ≤ (n : Int):=by omega
       obtain ⟨m,hm⟩ : ∃ m,a + bs = m:=⟨_,rfl⟩
       have hm' : (a : Int) + (bs : Int) = (m : Int):=by omega
       have rm : IntKind.i64.wrap ((a : Int) + (bs : Int)) = (m : Int):=by rw [hm']; exact IntWalk.i64_in _ (by omega)
       have HMM:=Lh hm
       clear hm
       by_cases hmn : m < n
       ·have hmn' : (m : Int) < (n : Int):=by omega
        have HMG : Hid (CP 107 #[.slice (some ⟨g,0,none⟩) n cap,.int .i64 (a : Int),.int .i64 (m : Int),.int .i64 (n : Int),cmpV] wr fun e w' => e = .returned (.tuple #[]) ∧ Hid (∃ L,SWE w0 g L w' ∧ BS (2 * bs) L ∧ Fl L D)):=Lh (by
         have h1:=HA.out
         have h2:=HN.out
         have h3:=HSL.out
         have h4:=HMM.out
         obtain ⟨k1,k2,k3,hw⟩:=HH.out
         have l1 : (S.take bs).length = bs:=by rw [List.length_take]; omega
         have e1 : A ++ S = A ++ S.take bs ++ S.drop bs ++ []:=by
          rw [List.append_nil,List.append_assoc,List.take_append_drop]
         have s2:=k2 1
         rw [Nat.one_mul,List.take_of_length_le (by rw [List.length_drop]; omega)] at s2
         rw [e1] at hw
         refine (merge_any g cap d0 w0 hR n HNN.out hsz (bs + bs) a m n wr A (S.take bs) (S.drop bs) [] (by rw [l1,List.length_drop]; omega) hw (by simp only [List.length_append,List.length_nil]; rw [l1,List.length_drop]; omega) h1.symm (by omega) (by rw [l1,List.length_drop]; omega) (by omega) (by rw [List.length_drop]; omega) k2.first s2).mono ?_
         rintro e w' ⟨he,M,m1,m2,m3⟩
         have lm : M.length = n - a:=by rw [m3.1,List.length_append,l1,List.length_drop]; omega
         refine ⟨he,Lh ⟨A ++ M,by simpa using m1,k1.app (t:=t) (by rw [h1,HT.out]) m2 (by omega),?_⟩⟩
         refine Fl.trans ?_ k3
         rw [List.take_append_drop] at m3
         exact Fl.left m3)
        go_wp2_with (first
         | (go_at_call 107; refine HMG.out.mono ?_; rintro e w2 ⟨rfl,hM2⟩)
         | fail)
        obtain ⟨L2,q1,q2,q3⟩:=hM2.out
        go_roundw
        case rel => exact ⟨2 * bs,L2,by go_num,by omega,by omega,Lh ⟨q1,q2,q3⟩⟩
        case measure => simp [intOf]; omega
       ·have hmn' : ¬ (m : Int) < (n : Int):=by omega
        go_wp2
        go_roundw
        case rel =>
         refine ⟨2 * bs,A ++ S,by go_num,by omega,by omega,Lh ?_⟩
         obtain ⟨k1,k2,k3,hw⟩:=HH.out
         have h3:=HSL.out
         have h4:=HMM.out
         exact ⟨hw,k1.app (t:=t) (by rw [HA.out,HT.out]) (k2.all (by omega)) (by omega),k3⟩
        case measure => simp [intOf]; omega
    ·have hbl' : ¬ (bs : Int) < (n : Int):=by omega
     go_wp2
     go_end0
     obtain ⟨l1,l2,l3⟩:=HL.out
     exact ⟨rfl,L,l1,l2.all (by rw [l3.1,HN.out]; omega),l3⟩
end Go.Proofs.YtkjhlgnpohamnaaGreatDoor.Mk
namespace Go.Proofs.YtkjhlgnpohamnaaGreatDoor.Mk
set_option linter.unusedVariables false
set_option linter.unusedSimpArgs false
open Go.RowKit Go.Lib Go.Sort
theorem ecs_get {L : List Ed} {j : Nat} {u : Value} (h : (ecs L)[j]? = some u) : ∃ t,L[j / 5]? = some t ∧ (ecell t)[j % 5]? = some u:=by
 induction L generalizing j with
 | nil => simp [ecs] at h
 | cons t L ih =>
  have e : ecs (t :: L) = ecell t ++ ecs L:=rfl
  have hl : (ecell t).length = 5:=rfl
  rw [e] at h
  by_cases hj : j < 5
  ·rw [List.getElem?_append_left (by rw [hl]; exact hj)] at h
   exact ⟨t,by rw [Nat.div_eq_of_lt hj]; rfl,by rw [Nat.mod_eq_of_lt hj]; exact h⟩
  ·rw [List.getElem?_append_right (by rw [hl]; omega),hl] at h
   obtain ⟨s,h1,h2⟩:=ih h
   refine ⟨s,?_,?_⟩
   ·rw [show j / 5 = (j - 5) / 5 + 1 by omega]; exact h1
   ·rw [show j % 5 = (j - 5) % 5 by omega]; exact h2
theorem holds_of {w : World} {B g n cap : Nat} {L : List Ed} (h : w.ownsRow B 36 5 (.slice (some ⟨g,0,none⟩) n cap) n (ecs L)) (hl : L.length = n) : HoldsK ecell 5 w g 0 L.toArray ∧ g < w.heap.size ∧ B ≤ g:=by
 rcases h.2 with ⟨h1,_⟩ | ⟨g',cap',cur,h1,hB,hg,hn,hm,hs,ht⟩
 ·cases h1
 ·injection h1 with h1 _ _
  injection h1 with h1
  injection h1 with h1 _ _
  subst h1
  refine ⟨fun j hj => ?_,(Array.getElem?_eq_some_iff.1 hg).1,hB⟩
  rw [size_flatK] at hj
  have hjl : j < L.length * 5:=by simpa using hj
  rw [get_flatK _ _ _ _ hj]
  have hk : j / 5 < L.length:=by omega
  have e1 : (L.toArray)[j / 5]! = L[j / 5]:=by rw [getElem!_pos _ _ (by simpa using hk)]; simp
  have hu : (ecs L)[j]? = some ((ecell L[j / 5])[j % 5]!):=by
   obtain ⟨u,hu⟩ : ∃ u,(ecs L)[j]? = some u:=⟨_,List.getElem?_eq_getElem (by rw [ecs_len]; omega)⟩
   obtain ⟨t,ht,hc⟩:=ecs_get hu
   have : t = L[j / 5]:=by rw [List.getElem?_eq_getElem hk] at ht; exact (Option.some.inj ht).symm
   subst this
   rw [hu,← hc]
   have h3 : j % 5 < (ecell L[j / 5]).length:=Nat.mod_lt _ (by decide)
   rw [getElem!_pos (ecell L[j / 5]) (j % 5) h3,List.getElem?_eq_getElem h3]
  rw [e1]
  refine ⟨?_,Lib.frozen_of_heap hg _⟩
  have:=h.cells (g:=g) rfl j _ hu
  rwa [Addr.add_lit] at this
theorem sortFn_any (g cap : Nat) (d0 : Array Ed) (w0 w : World) (D : List Ed) (hR : RowK ecell 5 w0 g 0 d0) (n : Nat) (hn : n = d0.size) (hS : SWE w0 g D w) (hs : D.length = n) (hsz : n ≤ 100000) :
  CP 34 #[.slice (some ⟨g,0,none⟩) n cap,cmpV] w fun e w' => e = .returned (.tuple #[]) ∧ ∃ L,SWE w0 g L w' ∧ Srt L ∧ Fl L D:=by
 have HST:=Lh (stable_any g cap d0 w0 w D hR n hn hS hs hsz)
 clear hS hs hn
 go_enter Tryz.func34,Tryz.ntmps34
 go_wp2_with (first
  | (go_at_call 66; refine HST.out.mono ?_; rintro e w1 ⟨rfl,H1⟩; have H1:=Lh H1)
  | fail)
 go_end0
 exact ⟨rfl,H1.out⟩
theorem sortFn_none (A : Option Addr) (c : Nat) (w : World) :
  CP 34 #[.slice A 0 c,cmpV] w fun e w' => e = .returned (.tuple #[]) ∧ w = w':=by
 go_enter Tryz.func34,Tryz.ntmps34
 go_wp2_with (first
  | (go_at_call 66; refine (stable_none _ _).mono ?_; rintro e w1 ⟨rfl,rfl⟩)
  | fail)
 go_end0
 exact ⟨rfl,rfl⟩
end Go.Proofs.YtkjhlgnpohamnaaGreatDoor.Mk
