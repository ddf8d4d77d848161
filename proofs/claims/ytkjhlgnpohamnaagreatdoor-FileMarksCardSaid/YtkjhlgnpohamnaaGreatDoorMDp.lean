import Derived.Test.YtkjhlgnpohamnaaGreatDoorStSm
import Derived.Test.YtkjhlgnpohamnaaGreatDoorMSs
import Derived.Test.YtkjhlgnpohamnaaGreatDoorMPa
import Derived.Test.YtkjhlgnpohamnaaGreatDoorMEi
namespace Go.Proofs.YtkjhlgnpohamnaaGreatDoor
set_option linter.unusedVariables false
set_option linter.unusedSimpArgs false
open Go.RowKit
theorem ShS.take {w : World} {S : Nat → Prop} {A : Option Addr} {n c : Nat} {l k : List St} (h : ShS w S (.slice A n c) (l ++ k)) : ShS w S (.slice A l.length c) l:=by
 obtain ⟨lv,hlv⟩ : ∃ lv,lv = Value.slice A n c:=⟨_,rfl⟩
 obtain ⟨L,hL⟩ : ∃ L,L = l ++ k:=⟨_,rfl⟩
 rw [← hlv,← hL] at h
 cases h with
 | emp A' c' =>
  have : l = []:=by cases l with | nil => rfl | cons a l => cases hL
  subst this
  exact .emp A c
 | row b off n' c' l' vs hl hn hnc hb hlt hc he hs hr =>
  injection hlv with e1 e2 e3
  subst e1 e2 e3
  subst hL
  cases l with
  | nil => exact .emp _ _
  | cons a l =>
   have hg : ∀ (j : Nat) (x : St),(a :: l)[j]? = some x → ((a :: l) ++ k)[j]? = some x:=fun j x hx => by rw [List.getElem?_append_left (List.getElem?_eq_some_iff.1 hx).1]; exact hx
   have hle : (a :: l).length ≤ ((a :: l) ++ k).length:=by rw [List.length_append]; omega
   exact .row b off (a :: l).length c' (a :: l) vs rfl (by simp) (by omega) hb hlt (fun j x hx => hc j x (hg j x hx)) (fun j x hx => he j x (hg j x hx)) (fun j x hx => hs j x (hg j x hx)) (fun j x hx => hr j x (hg j x hx))
end Go.Proofs.YtkjhlgnpohamnaaGreatDoor
