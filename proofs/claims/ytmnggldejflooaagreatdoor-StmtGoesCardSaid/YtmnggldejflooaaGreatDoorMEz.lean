import Derived.Test.YtmnggldejflooaaGreatDoorSq
import Derived.Test.YtmnggldejflooaaGreatDoorMLl
import Derived.Test.YtmnggldejflooaaGreatDoorLxR
import Derived.Laws.BytesArg
import Derived.Lib.ConvBytes
import Derived.Laws.Concat
import Derived.OpenShut
set_option maxHeartbeats 3200000
namespace Go.Proofs.YtmnggldejflooaaGreatDoor
set_option linter.unusedVariables false
set_option linter.unusedSimpArgs false
open Go.RowKit Go.ChangeShapes
theorem convert_none (src e : TypeId) (hs : Tryz.prog.underlying src = some (.slice e)) (he : Tryz.prog.underlying e = some (.int .u8)) (dst : TypeId) (hd : Tryz.prog.underlying dst = some .string) (p : Option Addr) (c : Nat) (w : World) :
  (convert src dst (.slice p 0 c)).run Tryz.prog w = .ok (.string ⟨#[]⟩) w := by
 rw [run_convert_bytes_string w src dst e _ 0 c hs he hd]
 rcases p with _ | a
 ·rfl
 ·have := run_bytesToString (P := Tryz.prog) w a 0 c [] (by simpa using run_loadCells_list (P := Tryz.prog) w a [] (by simp))
  exact this
theorem convert_sh {w : World} {B n : Nat} {A : Option Addr} {bs : List Int} (h : Sh w B A n (by8 bs)) (c : Nat) : (convert 22 9 (.slice A n c)).run Tryz.prog w = .ok (.string (strOfNums bs)) w := by
 have hl : bs.length = n := by have := h.len; rwa [by8_len] at this
 rcases Nat.eq_zero_or_pos n with h0 | h0
 ·subst h0
  have : bs = [] := List.eq_nil_of_length_eq_zero hl
  subst this
  exact convert_none 22 5 Tryz.underlying22 (by kernel_rfl) 9 (by kernel_rfl) A c w
 ·obtain ⟨b, off, rfl, _, hc⟩ := h.2 h0
  refine run_convert_bytes_arg w 22 5 Tryz.underlying22 (by kernel_rfl) b off n c bs hl (fun i hi => ?_) 9 (by kernel_rfl)
  refine hc i _ ?_
  rw [by8_get?]
  have : i < bs.length := by omega
  simp [this]
def Byt8 (l : List Int) : Prop := ∀ x ∈ l, 0 ≤ x ∧ x < 256
theorem byt8_of {l : List Int} (h : ∀ n ∈ l, (Lit.int .u8 n).wf = true) : Byt8 l := fun x hx => by
 have := bounds_u8 (h x hx)
 omega
theorem bts_str {xs : List Int} (h : Byt8 xs) : bts (strOfNums xs) = xs := by
 unfold bts
 rw [strOfNums_data, List.map_map]
 refine (List.map_congr_left fun x hx => ?_).trans (List.map_id xs)
 obtain ⟨h0, h1⟩ := h x hx
 have : x.toNat < 256 := by omega
 simp [UInt8.toNat_ofNat, Nat.mod_eq_of_lt this]
 omega
theorem convS {w : World} {B : Nat} (s : ByteArray) (bs : List Int) (hb : bts s = bs) (hs : s.size ≤ 1000000) (hB : B ≤ w.heap.size) : ∃ wl c, (convert 9 22 (.string s)).run Tryz.prog w = .ok (.slice (some ⟨w.heap.size, 0, none⟩) s.size c) wl ∧
  Sh wl wl.heap.size (some ⟨w.heap.size, 0, none⟩) s.size (by8 bs) ∧ Below B w wl ∧ s.size ≤ c ∧ c ≤ maxLen := by
 refine ⟨Lib.bytesWorld w 5 s, grownCap w s.size 0 5, ?_, ?_, ?_, ?_, ?_⟩
 ·exact Lib.run_convert_string_bytes w 9 22 5 s (u := .string) (by kernel_rfl) Tryz.underlying22 (by kernel_rfl)
 ·subst hb
  refine ⟨by rw [by8_len, bts_len], fun hn => ⟨w.heap.size, 0, rfl, by rw [Lib.bytesWorld_size]; omega, fun k u hu => ?_⟩⟩
  rw [by8_get?] at hu
  obtain ⟨x, hx, rfl⟩ := Option.map_eq_some_iff.1 hu
  have hk : k < s.size := by have := (List.getElem?_eq_some_iff.1 hx).1; rwa [bts_len] at this
  rw [Nat.zero_add, Lib.bytesWorld_cell w _ s k hk]
  unfold bts at hx
  rw [List.getElem?_map] at hx
  obtain ⟨y, hy, rfl⟩ := Option.map_eq_some_iff.1 hx
  rw [List.getD, hy]
  rfl
 ·refine ⟨rfl, rfl, rfl, ?_, fun k hk => ?_⟩
  ·rw [Lib.bytesWorld_size]; omega
  ·exact Lib.bytesWorld_at_old w _ s k (by omega)
 ·exact grownCap_ge w s.size 0 _
 ·exact grownCap_le_maxLen w s.size 0 _ (by unfold maxLen; omega)
end Go.Proofs.YtmnggldejflooaaGreatDoor
namespace Go.Proofs.YtmnggldejflooaaGreatDoor
set_option linter.unusedVariables false
set_option linter.unusedSimpArgs false
open Go.RowKit
theorem bts_at2 {t : ByteArray} {bs : List Int} {e : Nat} (hb : bts t = bs) (he : e < t.size) : ((t[e]'he).toNat : Int) = bs.getD e 0 := by
 subst hb
 have h1 : e < t.data.size := he
 have h2 : (bts t)[e]? = some (((t.data[e]'h1).toNat : Nat) : Int) := by unfold bts; rw [List.getElem?_map, Array.getElem?_toList, Array.getElem?_eq_getElem h1]; rfl
 rw [List.getD, h2]
 rfl
def kws : List (List UInt8) := [[105, 109, 112, 111, 114, 116], [108, 97, 116, 116, 105, 99, 101], [101, 102, 102, 101, 99, 116, 115], [118, 97, 114], [102, 110], [108, 101, 116], [105, 102], [101, 108, 115, 101], [119, 104, 105, 108, 101], [114, 101, 116, 117, 114, 110], [100, 111], [116, 114, 117, 101], [102, 97, 108, 115, 101], [105, 110, 116], [98, 111, 111, 108], [100, 101, 99, 108, 97, 115, 115, 105, 102, 121]]
def kwB (s : ByteArray) : Bool := kws.any fun l => s.toList == l
set_option maxRecDepth 10000 in
theorem keyword_any (s : ByteArray) (w : World) : CP 150 #[.string s] w fun e w' => e = .returned (.bool (kwB s)) ∧ w = w' := by
 by_cases hk : kwB s = true
 ·have hm : ∃ l ∈ kws, s.toList = l := by
   obtain ⟨l, hl, he⟩ := List.any_eq_true.1 hk
   exact ⟨l, hl, by simpa using he⟩
  obtain ⟨l, hl, he⟩ := hm
  rw [hk]
  have e1 := Lh he
  simp only [kws, List.mem_cons, List.not_mem_nil, or_false] at hl
  clear hk he
  have hq : ∀ l', (s.toList == l') = (l == l') := fun l' => by rw [e1.out]
  clear e1
  rcases hl with rfl | rfl | rfl | rfl | rfl | rfl | rfl | rfl | rfl | rfl | rfl | rfl | rfl | rfl | rfl | rfl
  all_goals
   go_enter Tryz.func150, Tryz.ntmps150
   go_wp2
   go_ret
   exact ⟨rfl, rfl⟩
 ·have hk' : kwB s = false := by simpa using hk
  rw [hk']
  have hall : ∀ l ∈ kws, (s.toList == l) = false := fun l hl => by
   have := List.any_eq_false.1 hk' l hl
   simpa using this
  simp only [kws, List.mem_cons, List.not_mem_nil, or_false, forall_eq_or_imp, forall_eq] at hall
  obtain ⟨h1, h2, h3, h4, h5, h6, h7, h8, h9, h10, h11, h12, h13, h14, h15, h16⟩ := hall
  clear hk hk'
  go_enter Tryz.func150, Tryz.ntmps150
  go_wp2
  go_ret
  exact ⟨rfl, rfl⟩
theorem kw_of {s : ByteArray} {k : Nat} (hk : k < 16) (h : (kws.getD k [] == s.toList) = true) : kwB s = true := by
 refine List.any_eq_true.2 ⟨kws.getD k [], ?_, ?_⟩
 ·have : k < kws.length := hk
  simp [List.getD, this]
 ·have : kws.getD k [] = s.toList := by simpa using h
  rw [this]; simp
theorem kw_no {s : ByteArray} (h : ∀ j, j < 16 → (kws.getD j [] == s.toList) = false) : kwB s = false := by
 refine List.any_eq_false.2 fun l hl => ?_
 obtain ⟨j, hj, rfl⟩ := List.getElem_of_mem hl
 have := h j hj
 have hg : kws.getD j [] = kws[j] := by simp [List.getD, hj]
 rw [hg] at this
 intro e
 have e' : s.toList = kws[j] := by simpa using e
 rw [e'] at this
 simp at this
set_option maxRecDepth 10000 in
theorem rkeyword_any (s : ByteArray) (w : World) : CP 87 #[.string s] w fun e w' => e = .returned (.bool (kwB s)) ∧ Below w.heap.size w w' := by
 have c0 : (w.alloc (.cells zkw 9)).cell? ⟨w.heap.size, 0, none⟩ = some (.string ⟨#[105, 109, 112, 111, 114, 116]⟩) := by rw [World.cell?_alloc_at _ _ _ _ rfl]; rfl
 have c1 : (w.alloc (.cells zkw 9)).cell? ⟨w.heap.size, 1, none⟩ = some (.string ⟨#[108, 97, 116, 116, 105, 99, 101]⟩) := by rw [World.cell?_alloc_at _ _ _ _ rfl]; rfl
 have c2 : (w.alloc (.cells zkw 9)).cell? ⟨w.heap.size, 2, none⟩ = some (.string ⟨#[101, 102, 102, 101, 99, 116, 115]⟩) := by rw [World.cell?_alloc_at _ _ _ _ rfl]; rfl
 have c3 : (w.alloc (.cells zkw 9)).cell? ⟨w.heap.size, 3, none⟩ = some (.string ⟨#[118, 97, 114]⟩) := by rw [World.cell?_alloc_at _ _ _ _ rfl]; rfl
 have c4 : (w.alloc (.cells zkw 9)).cell? ⟨w.heap.size, 4, none⟩ = some (.string ⟨#[102, 110]⟩) := by rw [World.cell?_alloc_at _ _ _ _ rfl]; rfl
 have c5 : (w.alloc (.cells zkw 9)).cell? ⟨w.heap.size, 5, none⟩ = some (.string ⟨#[108, 101, 116]⟩) := by rw [World.cell?_alloc_at _ _ _ _ rfl]; rfl
 have c6 : (w.alloc (.cells zkw 9)).cell? ⟨w.heap.size, 6, none⟩ = some (.string ⟨#[105, 102]⟩) := by rw [World.cell?_alloc_at _ _ _ _ rfl]; rfl
 have c7 : (w.alloc (.cells zkw 9)).cell? ⟨w.heap.size, 7, none⟩ = some (.string ⟨#[101, 108, 115, 101]⟩) := by rw [World.cell?_alloc_at _ _ _ _ rfl]; rfl
 have c8 : (w.alloc (.cells zkw 9)).cell? ⟨w.heap.size, 8, none⟩ = some (.string ⟨#[119, 104, 105, 108, 101]⟩) := by rw [World.cell?_alloc_at _ _ _ _ rfl]; rfl
 have c9 : (w.alloc (.cells zkw 9)).cell? ⟨w.heap.size, 9, none⟩ = some (.string ⟨#[114, 101, 116, 117, 114, 110]⟩) := by rw [World.cell?_alloc_at _ _ _ _ rfl]; rfl
 have c10 : (w.alloc (.cells zkw 9)).cell? ⟨w.heap.size, 10, none⟩ = some (.string ⟨#[100, 111]⟩) := by rw [World.cell?_alloc_at _ _ _ _ rfl]; rfl
 have c11 : (w.alloc (.cells zkw 9)).cell? ⟨w.heap.size, 11, none⟩ = some (.string ⟨#[116, 114, 117, 101]⟩) := by rw [World.cell?_alloc_at _ _ _ _ rfl]; rfl
 have c12 : (w.alloc (.cells zkw 9)).cell? ⟨w.heap.size, 12, none⟩ = some (.string ⟨#[102, 97, 108, 115, 101]⟩) := by rw [World.cell?_alloc_at _ _ _ _ rfl]; rfl
 have c13 : (w.alloc (.cells zkw 9)).cell? ⟨w.heap.size, 13, none⟩ = some (.string ⟨#[105, 110, 116]⟩) := by rw [World.cell?_alloc_at _ _ _ _ rfl]; rfl
 have c14 : (w.alloc (.cells zkw 9)).cell? ⟨w.heap.size, 14, none⟩ = some (.string ⟨#[98, 111, 111, 108]⟩) := by rw [World.cell?_alloc_at _ _ _ _ rfl]; rfl
 have c15 : (w.alloc (.cells zkw 9)).cell? ⟨w.heap.size, 15, none⟩ = some (.string ⟨#[100, 101, 99, 108, 97, 115, 115, 105, 102, 121]⟩) := by rw [World.cell?_alloc_at _ _ _ _ rfl]; rfl
 obtain ⟨w1, hw1⟩ : ∃ w1, w.alloc (.cells zkw 9) = w1 := ⟨_, rfl⟩
 have hb : Below w.heap.size w w1 := by rw [← hw1]; exact bAl
 rw [hw1] at c0 c1 c2 c3 c4 c5 c6 c7 c8 c9 c10 c11 c12 c13 c14 c15
 have HB := Lh hb
 have HW := Lh hw1
 clear hb hw1
 go_enter Tryz.func87, Tryz.ntmps87
 go_wp2
 rw [HW.out]
 go_loopw [4] (fun i wr => ∃ k : Nat, i = .int .i64 (k : Int) ∧ k ≤ 16 ∧ (∀ j, j < k → (kws.getD j [] == s.toList) = false) ∧ wr = w1) (fun i _ => 16 - (intOf i).toNat)
 case atStart => exact ⟨0, rfl, by omega, fun j hj => absurd hj (by omega), rfl⟩
 case round =>
  obtain ⟨k, rfl, hk, hno, rfl⟩ := hrel
  have HN := Lh hno
  clear hno HW
  by_cases hlt : k < 16
  ·have hk16 : k = 0 ∨ k = 1 ∨ k = 2 ∨ k = 3 ∨ k = 4 ∨ k = 5 ∨ k = 6 ∨ k = 7 ∨ k = 8 ∨ k = 9 ∨ k = 10 ∨ k = 11 ∨ k = 12 ∨ k = 13 ∨ k = 14 ∨ k = 15 := by omega
   cases hv : (kws.getD k [] == s.toList) with
   | true =>
    have HK := Lh (kw_of hlt hv)
    rcases hk16 with rfl | rfl | rfl | rfl | rfl | rfl | rfl | rfl | rfl | rfl | rfl | rfl | rfl | rfl | rfl | rfl
    all_goals
     simp only [kws, List.getD_cons_zero, List.getD_cons_succ] at hv
     go_wp2
     go_ret
     exact ⟨ret_bool HK.out.symm, HB.out⟩
   | false =>
    have HA : Hid (∀ j, j < k + 1 → (kws.getD j [] == s.toList) = false) := Lh fun j hj => by
     rcases Nat.lt_or_ge j k with e | e
     ·exact HN.out j e
     ·obtain rfl : j = k := by omega
      exact hv
    rcases hk16 with rfl | rfl | rfl | rfl | rfl | rfl | rfl | rfl | rfl | rfl | rfl | rfl | rfl | rfl | rfl | rfl
    all_goals
     simp only [kws, List.getD_cons_zero, List.getD_cons_succ] at hv
     go_wp2
     go_roundw
     case rel => exact ⟨_ + 1, by go_num, by omega, HA.out, (by trivial)⟩
     case measure => simp [intOf]
  ·obtain rfl : k = 16 := by omega
   have HK := Lh (kw_no HN.out)
   go_wp2
   go_ret
   exact ⟨ret_bool HK.out.symm, HB.out⟩
def identL : List Int → Bool
 | [] => false
 | c :: r => kd c == 2 && r.all fun x => kd x == 2 || kd x == 3
theorem identL_cons (c : Int) (r : List Int) : identL (c :: r) = (kd c == 2 && r.all fun x => kd x == 2 || kd x == 3) := rfl
def idB (s : ByteArray) : Bool := decide (s.size ≤ 24) && !(kwB s) && identL (bts s)
theorem run_full {p : Int → Bool} {l : List Int} : (runB p l == l.length) = l.all p := by
 induction l with
 | nil => rfl
 | cons x l ih =>
  cases h : p x
  ·rw [runB_no h]
   simp [h]
  ·rw [runB_yes h, List.length_cons, List.all_cons, h, ← ih]
   simp
theorem ident_tok {bs : List Int} (h : 0 < bs.length) : identL bs = (tk bs == 2 && ((tl bs : Int) == (bs.length : Int))) := by
 cases bs with
 | nil => simp at h
 | cons c r =>
  have hr := kd_range c
  by_cases h2 : kd c = 2
  ·have e1 : tk (c :: r) = 2 := by rw [tk_cons, if_pos (by omega), h2]
   have e2 : tl (c :: r) = 1 + runB (goes 2) r := by rw [tl_cons, if_pos (by omega), h2]
   have e3 : (r.all fun x => kd x == 2 || kd x == 3) = r.all (goes 2) := rfl
   rw [identL_cons]
   rw [h2, e1, e2, e3, ← run_full]
   have : (((1 + runB (goes 2) r : Nat) : Int) == (((c :: r).length : Nat) : Int)) = (runB (goes 2) r == r.length) := by
    rw [List.length_cons]
    by_cases e : runB (goes 2) r = r.length
    ·rw [e]; simp; omega
    ·have h1 : ¬ (((1 + runB (goes 2) r : Nat) : Int) = ((r.length + 1 : Nat) : Int)) := by omega
     rw [beq_eq_false_iff_ne.2 e, beq_eq_false_iff_ne.2 h1]
   rw [this]
  ·have e1 : (tk (c :: r) == 2) = false := by
    rw [tk_cons]
    split
    ·simpa using h2
    ·split
     ·rfl
     ·simpa using h2
   rw [identL_cons]
   rw [e1]
   simp [h2]
theorem ident_no {bs : List Int} {j : Nat} (hj : j < bs.length) (h : kd (bs.getD j 0) ≠ 2 ∧ (j = 0 ∨ kd (bs.getD j 0) ≠ 3)) : identL bs = false := by
 cases bs with
 | nil => simp at hj
 | cons c r =>
  rw [identL_cons]
  cases j with
  | zero =>
   have h1 : ¬ kd c = 2 := by simpa using h.1
   simp [h1]
  | succ j =>
   have hjr : j < r.length := by simpa using hj
   have hx : (c :: r).getD (j + 1) 0 = r[j] := by simp [List.getD, hjr]
   rw [hx] at h
   have : (r.all fun x => kd x == 2 || kd x == 3) = false := by
    refine List.all_eq_false.2 ⟨r[j], List.getElem_mem _, ?_⟩
    simp
    exact ⟨h.1, by rcases h.2 with e | e <;> first | omega | exact e⟩
   rw [this]
   simp
theorem ident_yes {bs : List Int} (h0 : 0 < bs.length) (h : ∀ j, j < bs.length → kd (bs.getD j 0) = 2 ∨ (j ≠ 0 ∧ kd (bs.getD j 0) = 3)) : identL bs = true := by
 cases bs with
 | nil => simp at h0
 | cons c r =>
  rw [identL_cons]
  have hc : kd c = 2 := by
   rcases h 0 (by simp) with e | e
   ·simpa using e
   ·exact absurd rfl e.1
  have hr : (r.all fun x => kd x == 2 || kd x == 3) = true := by
   refine List.all_eq_true.2 fun x hx => ?_
   obtain ⟨j, hj, rfl⟩ := List.getElem_of_mem hx
   have := h (j + 1) (by simpa using hj)
   have hg : (c :: r).getD (j + 1) 0 = r[j] := by simp [List.getD, hj]
   rw [hg] at this
   rcases this with e | e
   ·simp [e]
   ·simp [e.2]
  rw [hr, hc]
  rfl
theorem toList_nil {s : ByteArray} : (s.toList == []) = decide (s.size = 0) := by
 rw [ByteArray.toList_eq]
 have : s.size = s.data.toList.length := rfl
 cases h : s.data.toList with
 | nil => rw [this, h]; rfl
 | cons a l => rw [this, h]; simp
set_option maxRecDepth 10000 in
theorem ident_any (s : ByteArray) (w : World) : CP 122 #[.string s] w fun e w' => e = .returned (.bool (idB s)) ∧ Below w.heap.size w w' := by
 have hkw := Lh (keyword_any s)
 by_cases h0 : s.size = 0
 ·have hn : (s.toList == []) = true := by rw [toList_nil, h0]; rfl
  have hid : idB s = false := by
   have : bts s = [] := List.eq_nil_of_length_eq_zero (by rw [bts_len, h0])
   unfold idB
   rw [this]
   simp [identL]
  have HI := Lh hid
  clear h0 hid
  go_enter Tryz.func122, Tryz.ntmps122
  go_wp2
  go_ret
  exact ⟨ret_bool HI.out.symm, Below.refl _ _⟩
 ·have hn : (s.toList == []) = false := by rw [toList_nil]; simpa using h0
  by_cases h24 : 24 < s.size
  ·have h24' : (24 : Int) < (s.size : Int) := by omega
   have hid : idB s = false := by unfold idB; rw [show decide (s.size ≤ 24) = false by simp; omega]; rfl
   have HI := Lh hid
   clear hid
   go_enter Tryz.func122, Tryz.ntmps122
   go_wp2
   go_ret
   exact ⟨ret_bool HI.out.symm, Below.refl _ _⟩
  ·have h24' : ¬ (24 : Int) < (s.size : Int) := by omega
   cases hk : kwB s with
   | true =>
    have hid : idB s = false := by unfold idB; rw [hk]; simp
    have HI := Lh hid
    have HK := Lh hk
    clear hid hk
    go_enter Tryz.func122, Tryz.ntmps122
    go_wp2_with (first
     | (go_at_call 150; refine (hkw.out _).mono ?_; rintro e w' ⟨rfl, rfl⟩; rw [HK.out])
     | fail)
    go_ret
    exact ⟨ret_bool HI.out.symm, Below.refl _ _⟩
   | false =>
    have hlen : 0 < (bts s).length := by rw [bts_len]; omega
    have hid : idB s = (tk (bts s) == 2 && ((tl (bts s) : Int) == (s.size : Int))) := by
     unfold idB
     rw [hk, ident_tok hlen, bts_len, show decide (s.size ≤ 24) = true by simp; omega]
     simp
    have HI := Lh hid
    have HK := Lh hk
    obtain ⟨wl, cc, hcv, hxw, hbw, hc1, hc2⟩ := convS (w := w) (B := w.heap.size) s (bts s) rfl (by omega) nLe
    have hto := tokenAt_any _ s.size cc 0 (bts s) wl hxw (by omega) hc1 hc2 (by omega)
    rw [List.drop_zero, Nat.zero_add] at hto
    have HT := Lh hto
    have HBW := Lh hbw
    have hz := zeroTok
    obtain ⟨K, hK⟩ : ∃ K, tk (bts s) = K := ⟨_, rfl⟩
    obtain ⟨T, hT⟩ : ∃ T, tl (bts s) = T := ⟨_, rfl⟩
    rw [hK, hT] at HT HI
    clear hid hk hto hbw hxw hc1 hc2 hK hT hlen
    have hcs : ((K == 2) = false) ∨ ((K == 2) = true ∧ ((T : Int) == (s.size : Int)) = false) ∨ ((K == 2) = true ∧ ((T : Int) == (s.size : Int)) = true) := by
     cases h2 : (K == 2)
     ·exact .inl rfl
     ·cases h3 : ((T : Int) == (s.size : Int))
      ·exact .inr (.inl ⟨rfl, rfl⟩)
      ·exact .inr (.inr ⟨rfl, rfl⟩)
    obtain ⟨r, hr⟩ : ∃ r, idB s = r := ⟨_, rfl⟩
    rw [hr] at HI ⊢
    clear hr
    rcases hcs with h2 | ⟨h2, h3⟩ | ⟨h2, h3⟩
    all_goals
     simp only [h2] at HI
     try simp only [h3] at HI
     go_enter Tryz.func122, Tryz.ntmps122
     go_wp2_with (first
      | (go_at_call 150; refine (hkw.out _).mono ?_; rintro e w' ⟨rfl, rfl⟩; rw [HK.out])
      | (go_at_call 85; refine HT.out.mono ?_; rintro e w1 ⟨rfl, b1⟩; have B1 := Lh b1; clear b1; dsimp only)
      | fail)
     go_ret
     exact ⟨ret_bool HI.out.symm, HBW.out.trans (B1.out.mono HBW.out.size)⟩
set_option maxRecDepth 10000 in
theorem rident_any (s : ByteArray) (w : World) (hs : s.size ≤ 1000000) : CP 47 #[.string s] w fun e w' => e = .returned (.bool (idB s)) ∧ Below w.heap.size w w' := by
 have hkw := Lh (rkeyword_any s)
 have hbl := Lh (bts_len s)
 go_enter Tryz.func47, Tryz.ntmps47
 go_wp2
 go_loopw [3] (fun i wr => ∃ k : Nat, i = .int .i64 (k : Int) ∧ k ≤ s.size ∧ (∀ j, j < k → kd ((bts s).getD j 0) = 2 ∨ (j ≠ 0 ∧ kd ((bts s).getD j 0) = 3)) ∧ wr = w) (fun i _ => s.size - (intOf i).toNat)
 case atStart => exact ⟨0, rfl, Nat.zero_le _, fun j hj => absurd hj (Nat.not_lt_zero _), rfl⟩
 case round =>
  obtain ⟨k, rfl, hk, hall, rfl⟩ := hrel
  have HA := Lh hall
  clear hall
  by_cases hlt : k < s.size
  ·have hx : ((s[k]'hlt).toNat : Int) = (bts s).getD k 0 := bts_at2 rfl hlt
   obtain ⟨x, hx0⟩ : ∃ x, (bts s).getD k 0 = x := ⟨_, rfl⟩
   rw [hx0] at hx
   have HX := Lh hx0
   clear hx0
   by_cases hok : kd x = 2 ∨ (k ≠ 0 ∧ kd x = 3)
   ·have HO : Hid (∀ j, j < k + 1 → kd ((bts s).getD j 0) = 2 ∨ (j ≠ 0 ∧ kd ((bts s).getD j 0) = 3)) := Lh fun j hj => by
     rcases Nat.lt_or_ge j k with e | e
     ·exact HA.out j e
     ·obtain rfl : j = k := by omega
      rw [HX.out]; exact hok
    have hok' : (kd x == 2) = true ∨ ((kd x == 2) = false ∧ ((k : Int) == 0) = false ∧ (kd x == 3) = true) := by
     by_cases h2 : kd x = 2
     ·exact .inl (by simp [h2])
     ·rcases hok with h | ⟨h, h3⟩
      ·exact absurd h h2
      ·exact .inr ⟨by simpa using h2, by simp; omega, by simp [h3]⟩
    clear hok
    rcases hok' with l2 | ⟨l2, h0, l3⟩
    all_goals
     go_wp2_with (first
      | (go_at_call 82; refine (letter_any _ _).mono ?_; rintro e1 w' ⟨rfl, rfl⟩; rw [l2])
      | (go_at_call 83; refine (digit_any _ _).mono ?_; rintro e1 w' ⟨rfl, rfl⟩; rw [l3])
      | fail)
     go_roundw
     case rel => exact ⟨k + 1, by go_num, hlt, HO.out, (by trivial)⟩
     case measure => simp [intOf]; omega
   ·have hno : identL (bts s) = false := ident_no (j := k) (by rw [hbl.out]; exact hlt) (by
     rw [HX.out]
     by_cases h2 : kd x = 2
     ·exact absurd (.inl h2) hok
     ·refine ⟨h2, ?_⟩
      by_cases h3 : k = 0
      ·exact .inl h3
      ·exact .inr fun h => hok (.inr ⟨h3, h⟩))
    have hid : idB s = false := by unfold idB; rw [hno]; simp
    have HI := Lh hid
    have hok' : (kd x == 2) = false ∧ (((k : Int) == 0) = true ∨ (((k : Int) == 0) = false ∧ (kd x == 3) = false)) := by
     have h2 : kd x ≠ 2 := fun h => hok (.inl h)
     refine ⟨by simpa using h2, ?_⟩
     by_cases h3 : k = 0
     ·exact .inl (by simp [h3])
     ·exact .inr ⟨by simp; omega, by simpa using fun h => hok (.inr ⟨h3, h⟩)⟩
    clear hok hno hid
    obtain ⟨l2, hh⟩ := hok'
    rcases hh with h0 | ⟨h0, l3⟩
    all_goals
     go_wp2_with (first
      | (go_at_call 82; refine (letter_any _ _).mono ?_; rintro e1 w' ⟨rfl, rfl⟩; rw [l2])
      | (go_at_call 83; refine (digit_any _ _).mono ?_; rintro e1 w' ⟨rfl, rfl⟩; rw [l3])
      | fail)
     go_ret
     exact ⟨ret_bool HI.out.symm, Below.refl _ _⟩
  ·obtain rfl : k = s.size := by omega
   by_cases h1 : 1 ≤ s.size
   ·have hyes : identL (bts s) = true := ident_yes (by rw [hbl.out]; omega) (by rw [hbl.out]; exact HA.out)
    have hid : idB s = (decide (s.size ≤ 24) && !(kwB s)) := by unfold idB; rw [hyes]; simp
    have HI := Lh hid
    have h1' : (1 : Int) ≤ (s.size : Int) := by omega
    clear hyes hid
    by_cases h24 : s.size ≤ 24
    ·have h24' : (s.size : Int) ≤ 24 := by omega
     have HD := Lh (show decide (s.size ≤ 24) = true by simpa using h24)
     go_wp2_with (first
      | (go_at_call 87; refine (hkw.out _).mono ?_; rintro e1 w1 ⟨rfl, b1⟩)
      | fail)
     go_ret
     exact ⟨ret_bool (by rw [HI.out, HD.out]; rfl), b1⟩
    ·have h24' : ¬ (s.size : Int) ≤ 24 := by omega
     have HD := Lh (show decide (s.size ≤ 24) = false by simpa using h24)
     go_wp2
     go_ret
     exact ⟨ret_bool (by rw [HI.out, HD.out]; rfl), Below.refl _ _⟩
   ·have hid : idB s = false := by
     have : bts s = [] := List.eq_nil_of_length_eq_zero (by rw [bts_len]; omega)
     unfold idB
     rw [this]
     simp [identL]
    have HI := Lh hid
    have h1' : ¬ (1 : Int) ≤ (s.size : Int) := by omega
    clear hid
    go_wp2
    go_ret
    exact ⟨ret_bool HI.out.symm, Below.refl _ _⟩
end Go.Proofs.YtmnggldejflooaaGreatDoor
