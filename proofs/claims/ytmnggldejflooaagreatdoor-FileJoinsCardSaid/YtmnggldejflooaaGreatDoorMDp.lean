import Derived.Test.YtmnggldejflooaaGreatDoorStSm
import Derived.Test.YtmnggldejflooaaGreatDoorMSs
import Derived.Test.YtmnggldejflooaaGreatDoorMPa
import Derived.Test.YtmnggldejflooaaGreatDoorMEi
namespace Go.Proofs.YtmnggldejflooaaGreatDoor
set_option linter.unusedVariables false
set_option linter.unusedSimpArgs false
open Go.RowKit
theorem ShS.take {w : World} {S : Nat → Prop} {A : Option Addr} {n c : Nat} {l k : List St} (h : ShS w S (.slice A n c) (l ++ k)) : ShS w S (.slice A l.length c) l := by
 obtain ⟨lv, hlv⟩ : ∃ lv, lv = Value.slice A n c := ⟨_, rfl⟩
 obtain ⟨L, hL⟩ : ∃ L, L = l ++ k := ⟨_, rfl⟩
 rw [← hlv, ← hL] at h
 cases h with
 | emp A' c' =>
  have : l = [] := by cases l with | nil => rfl | cons a l => cases hL
  subst this
  exact .emp A c
 | row b off n' c' l' vs hl hn hnc hb hlt hc he hs hr =>
  injection hlv with e1 e2 e3
  subst e1 e2 e3
  subst hL
  cases l with
  | nil => exact .emp _ _
  | cons a l =>
   have hg : ∀ (j : Nat) (x : St), (a :: l)[j]? = some x → ((a :: l) ++ k)[j]? = some x := fun j x hx => by rw [List.getElem?_append_left (List.getElem?_eq_some_iff.1 hx).1]; exact hx
   have hle : (a :: l).length ≤ ((a :: l) ++ k).length := by rw [List.length_append]; omega
   exact .row b off (a :: l).length c' (a :: l) vs rfl (by simp) (by omega) hb hlt (fun j x hx => hc j x (hg j x hx)) (fun j x hx => he j x (hg j x hx)) (fun j x hx => hs j x (hg j x hx)) (fun j x hx => hr j x (hg j x hx))
theorem win_pre (T P : ByteArray) (L K : List Tk) (hL : ∀ t ∈ L, t.2.2.toNat ≤ T.size) : Win (rowT T L) (rowT (T ++ P) (L ++ K)) 0 0 L.length := by
 have hat : ∀ i, i < L.length → ∃ t, L[i]? = some t ∧ (L ++ K)[i]? = some t := fun i hi => ⟨_, List.getElem?_eq_getElem hi, by rw [List.getElem?_append_left hi, List.getElem?_eq_getElem hi]⟩
 have hwd : ∀ i, i < L.length → wdT (T ++ P) (L ++ K) i = wdT T L i := fun i hi => by
  obtain ⟨t, h1, h2⟩ := hat i hi
  have h3 := hL t (List.mem_of_getElem? h1)
  unfold wdT
  rw [h1, h2]
  show (T ++ P).extract t.2.1.toNat t.2.2.toNat = T.extract t.2.1.toNat t.2.2.toNat
  rw [ByteArray.extract_append, show t.2.2.toNat - T.size = 0 by omega]
  apply ByteArray.ext
  simp
 refine ⟨fun i hi => hwd i hi, fun i hi => ?_, fun i hi => ?_, fun i hi => ?_⟩
 ·obtain ⟨t, h1, h2⟩ := hat i hi
  simp only [rowT, Nat.add_zero, h1, h2]
 ·show idB (wdT _ _ (i + 0)) = idB (wdT _ _ i)
  rw [Nat.add_zero, hwd i hi]
 ·obtain ⟨t, h1, h2⟩ := hat i hi
  simp only [rowT, Nat.add_zero, h1, h2, Int.add_zero]
theorem win_suf (P T : ByteArray) (K L : List Tk) {c : Nat} (hc : P.size = c) (hL : ∀ t ∈ L, 0 ≤ t.2.1 ∧ 0 ≤ t.2.2) : Win (rowT T L) (rowT (P ++ T) (K ++ L.map (shift (c : Int)))) K.length (c : Int) (L.length + 1) := by
 have hat : ∀ i, (K ++ L.map (shift (c : Int)))[i + K.length]? = (L[i]?).map (shift (c : Int)) := fun i => by
  rw [List.getElem?_append_right (by omega), Nat.add_sub_cancel, List.getElem?_map]
 have hwd : ∀ i, wdT (P ++ T) (K ++ L.map (shift (c : Int))) (i + K.length) = wdT T L i := fun i => by
  unfold wdT
  rw [hat]
  cases h : L[i]? with
  | none => rfl
  | some t =>
   obtain ⟨h1, h2⟩ := hL t (List.mem_of_getElem? h)
   show (P ++ T).extract (t.2.1 + (c : Int)).toNat (t.2.2 + (c : Int)).toNat = T.extract t.2.1.toNat t.2.2.toNat
   rw [show (t.2.1 + (c : Int)).toNat = c + t.2.1.toNat by omega, show (t.2.2 + (c : Int)).toNat = c + t.2.2.toNat by omega]
   exact ByteArray.extract_append_size_add' hc.symm
 refine ⟨fun i _ => hwd i, fun i _ => ?_, fun i _ => ?_, fun i _ => ?_⟩
 ·show (match (K ++ L.map (shift (c : Int)))[i + K.length]? with | some t => t.1 | none => 0) = (match L[i]? with | some t => t.1 | none => 0)
  rw [hat]
  cases L[i]? <;> rfl
 ·show idB (wdT _ _ _) = idB (wdT _ _ _)
  rw [hwd i]
 ·show (match (K ++ L.map (shift (c : Int)))[i + K.length]? with | some t => t.2.1 | none => (((P ++ T).size : Nat) : Int)) = (match L[i]? with | some t => t.2.1 | none => (T.size : Int)) + (c : Int)
  rw [hat]
  cases L[i]? with
  | some t => rfl
  | none =>
   show (((P ++ T).size : Nat) : Int) = (T.size : Int) + (c : Int)
   rw [ByteArray.size_append, hc]
   omega
theorem isBad_app (a b : List Tk) (ha : isBad a = false) (hb : isBad b = false) : isBad (a ++ b) = false := by
 unfold isBad at *
 rw [List.find?_append]
 cases h : a.find? (fun t => t.1 == 5) with
 | some t => rw [h] at ha; cases ha
 | none => rw [Option.none_or]; exact hb
end Go.Proofs.YtmnggldejflooaaGreatDoor
