/-
  CONTRACTS OF 'bytes.LastIndexByte', 'bytes.Count' at one byte, 'lex.Line'.
-/
import Derived.Test.YtenohmkcbncehaaLxC
import Derived.Shelf.Bytes.SlCountOne
namespace Go.Proofs.Ytenohmkcbncehaa
set_option linter.unusedVariables false
set_option linter.unusedSimpArgs false
open Go.RowKit

/-- v is the last place of a line's end among the first m bytes; -1: there is none. -/
def IsLast (xs : List Int) (m : Nat) (v : Int) : Prop := (v = -1 ∧ ∀ j, j < m → xs.getD j 0 ≠ 10) ∨ ∃ k : Nat, k < m ∧ v = (k : Int) ∧ xs.getD k 0 = 10 ∧ ∀ j, k < j → j < m → xs.getD j 0 ≠ 10
theorem IsLast.unique {xs : List Int} {m : Nat} {v u : Int} (h : IsLast xs m v) (g : IsLast xs m u) : v = u := by
  rcases h with ⟨rfl, h⟩ | ⟨k, hk, rfl, hv, h⟩ <;> rcases g with ⟨rfl, g⟩ | ⟨l, hl, rfl, gv, g⟩
  · rfl
  · exact absurd gv (h l hl)
  · exact absurd hv (g k hk)
  · rcases Nat.lt_trichotomy k l with e | e | e
    · exact absurd gv (h l e hl)
    · rw [e]
    · exact absurd hv (g k e hk)
theorem IsLast.zero (xs : List Int) : IsLast xs 0 (-1) := .inl ⟨rfl, fun j hj => absurd hj (Nat.not_lt_zero _)⟩
theorem IsLast.yes {xs : List Int} {m : Nat} (h : xs.getD m 0 = 10) : IsLast xs (m + 1) (m : Int) := .inr ⟨m, by omega, rfl, h, fun j h1 h2 => by omega⟩
theorem IsLast.no {xs : List Int} {m : Nat} {v : Int} (g : IsLast xs m v) (h : xs.getD m 0 ≠ 10) : IsLast xs (m + 1) v := by
  rcases g with ⟨rfl, g⟩ | ⟨k, hk, rfl, hv, g⟩
  · refine .inl ⟨rfl, fun j hj => ?_⟩
    rcases Nat.lt_or_ge j m with e | e
    · exact g j e
    · obtain rfl : j = m := by omega
      exact h
  · refine .inr ⟨k, by omega, rfl, hv, fun j h1 h2 => ?_⟩
    rcases Nat.lt_or_ge j m with e | e
    · exact g j h1 e
    · obtain rfl : j = m := by omega
      exact h
theorem IsLast.range {xs : List Int} {m : Nat} {v : Int} (g : IsLast xs m v) : -1 ≤ v ∧ v < m := by
  rcases g with ⟨rfl, _⟩ | ⟨k, hk, rfl, _⟩ <;> omega
/-- How many line's ends stand among the first m bytes. -/
def cntN (xs : List Int) (m : Nat) : Nat := (xs.take m).count 10
theorem cntN_succ {xs : List Int} {m : Nat} (h : m < xs.length) : cntN xs (m + 1) = cntN xs m + (if xs.getD m 0 = 10 then 1 else 0) := by
  unfold cntN
  rw [List.take_succ_eq_append_getElem h, List.count_append]
  have : xs.getD m 0 = xs[m] := by simp [h]
  rw [this]
  by_cases e : xs[m] = 10
  · simp [e]
  · simp [e, List.count_cons]
theorem cntN_le (xs : List Int) (m : Nat) : cntN xs m ≤ m := by
  unfold cntN
  have := List.count_le_length (a := (10 : Int)) (l := xs.take m)
  simp at this
  omega
theorem count_bytes {xs : List Int} (h : Byt8 xs) : Lib.countByte (Lib.bytesOf xs) (10 : Int).toNat.toUInt8 = xs.count 10 := by
  unfold Lib.countByte Lib.bytesOf
  induction xs with
  | nil => rfl
  | cons x l ih =>
    have hx := h x (by simp)
    have hl : Byt8 l := fun y hy => h y (by simp [hy])
    rw [List.map_cons, List.count_cons, List.count_cons, ih hl]
    congr 1
    have key : (UInt8.ofNat x.toNat == (10 : Int).toNat.toUInt8) = (x == 10) := by
      by_cases e : x = 10
      · subst e; rfl
      · have h1 : UInt8.ofNat x.toNat ≠ (10 : Int).toNat.toUInt8 := fun h => by
          have := congrArg UInt8.toNat h
          have h2 : x.toNat < 256 := by omega
          simp [UInt8.toNat_ofNat, Nat.mod_eq_of_lt h2] at this
          omega
        rw [beq_eq_false_iff_ne.2 h1, beq_eq_false_iff_ne.2 e]
    rw [key]

set_option maxHeartbeats 800000 in
theorem last_any (A : Option Addr) (n c : Nat) (xs : List Int) (w : World) (U : Nat) (hx : Sh w U A n (by8 xs)) (hn : n ≤ 1000000) :
    Calls Try.prog 37 #[.slice A n c, .int .u8 10] w fun e w' => (∃ v, e = .returned (.int .i64 v) ∧ IsLast xs n v) ∧ w = w' := by
  have HX := Lib.hid hx
  clear hx
  go_enter Try.func37, Try.ntmps37
  go_wp2
  go_loopw [5] (fun i wr => ∃ k : Nat, k ≤ n ∧ i = .int .i64 ((k : Int) - 1) ∧ (∀ j, k ≤ j → j < n → xs.getD j 0 ≠ 10) ∧ wr = w) (fun i _ => (intOf i + 1).toNat)
  case atStart => exact ⟨n, Nat.le_refl _, rfl, fun j h1 h2 => absurd h1 (by omega), rfl⟩
  case round =>
    obtain ⟨k, hk, rfl, ha, rfl⟩ := hrel
    have HA := Lib.hid ha
    clear ha
    by_cases h0 : 0 < k
    · obtain ⟨b, off, rfl, hb, hc⟩ := HX.out.byte (k := k - 1) (by omega)
      obtain ⟨j, rfl⟩ : ∃ j, k = j + 1 := ⟨k - 1, by omega⟩
      rw [show j + 1 - 1 = j by omega] at hc
      obtain ⟨x, hx0⟩ : ∃ x, xs.getD j 0 = x := ⟨_, rfl⟩
      rw [hx0] at hc
      have HX0 := Lib.hid hx0
      clear hx0 h0
      have hj : ((j + 1 : Nat) : Int) - 1 = (j : Int) := by omega
      rw [hj]
      have hjp : 0 ≤ (j : Int) := by omega
      clear hj
      by_cases hv : x = 10
      · subst hv
        go_wp2
        go_ret
        exact ⟨⟨_, rfl, .inr ⟨j, by omega, rfl, HX0.out, fun l h1 h2 => HA.out l (by omega) h2⟩⟩, rfl⟩
      · have hv' : (x == 10) = false := by simpa using hv
        go_wp2
        go_roundw
        case rel => exact ⟨j, by omega, by go_num, (fun l h1 h2 => by
          rcases Nat.lt_or_ge j l with e | e
          · exact HA.out l (by omega) h2
          · obtain rfl : l = j := by omega
            rw [HX0.out]; exact hv), (by trivial)⟩
        case measure => simp [intOf]
    · obtain rfl : k = 0 := by omega
      go_wp2
      go_ret
      exact ⟨⟨_, rfl, .inl ⟨rfl, fun j hj => HA.out j (Nat.zero_le _) hj⟩⟩, rfl⟩
theorem lastIndex_any (A : Option Addr) (n c : Nat) (xs : List Int) (w : World) (U : Nat) (hx : Sh w U A n (by8 xs)) (hn : n ≤ 1000000) :
    Calls Try.prog 28 #[.slice A n c, .int .u8 10] w fun e w' => (∃ v, e = .returned (.int .i64 v) ∧ IsLast xs n v) ∧ w = w' := by
  have HM := Lib.hid (last_any A n c xs w U hx hn)
  clear hx
  go_enter Try.func28, Try.ntmps28
  go_wp2_with (go_at_call 37; refine HM.out.mono ?_; rintro e w' ⟨⟨v, rfl, hv⟩, rfl⟩)
  go_ret
  exact ⟨⟨v, rfl, hv⟩, rfl⟩

set_option maxHeartbeats 800000 in
set_option maxRecDepth 100000 in
theorem count_any' (b off n c b2 d : Nat) (xs : List Int) (w : World) (hx : xs.length = n) (hb : Byt8 xs) (hc : ∀ i, i < n → w.cell? ⟨b, off + i, none⟩ = some (.int .u8 (xs.getD i 0))) (hc2 : w.cell? ⟨b2, 0, none⟩ = some (.int .u8 10)) :
    Calls Try.prog 29 #[.slice (some ⟨b, off, none⟩) n c, .slice (some ⟨b2, 0, none⟩) 1 d] w fun e w' => e = .returned (.int .i64 (xs.count 10 : Nat)) ∧ w = w' := by
  have hcb := Lib.hid (count_bytes hb)
  go_enter Try.func29, Try.ntmps29
  go_wp2
  rw [run_callFunc_extern (P := Try.prog) Try.func39 (by kernel_rfl) (by kernel_rfl) (by kernel_rfl) (e := Extern.BytealgCount.count) (by kernel_rfl), Lib.run_countSlice w b off n c xs hx hc 10]
  simp only [Result.andThen]
  rw [Oper.upon_value]
  go_wp2
  go_ret
  exact ⟨ret_int (by exact congrArg Int.ofNat hcb.out), rfl⟩
theorem count_nil' (A : Option Addr) (n c b2 d : Nat) (w : World) (hn : n = 0) (hc2 : w.cell? ⟨b2, 0, none⟩ = some (.int .u8 10)) :
    Calls Try.prog 29 #[.slice A n c, .slice (some ⟨b2, 0, none⟩) 1 d] w fun e w' => e = .returned (.int .i64 0) ∧ w = w' := by
  subst hn
  have hcv : (Extern.BytealgCount.count #[.slice A 0 c, .int .u8 10]).run Try.prog w = .ok (.int .i64 0) w := by
    rcases A with _ | a
    · exact Lib.run_countNil w 0 c 10
    · exact Lib.run_countAt w a 0 c [] rfl (fun i hi => absurd hi (Nat.not_lt_zero _)) 10
  go_enter Try.func29, Try.ntmps29
  go_wp2
  rw [run_callFunc_extern (P := Try.prog) Try.func39 (by kernel_rfl) (by kernel_rfl) (by kernel_rfl) (e := Extern.BytealgCount.count) (by kernel_rfl), hcv]
  simp only [Result.andThen]
  rw [Oper.upon_value]
  go_wp2
  go_ret
  exact ⟨rfl, rfl⟩

/-- Line(b, at). -/
def LineTo (bs : List Int) (m : Nat) (w : World) (e : Ending) (w' : World) : Prop := (∃ v, e = .returned (.tuple #[.int .i64 (1 + (cntN bs m : Int)), .int .i64 ((m : Int) - v)]) ∧ IsLast bs m v) ∧ Below w.heap.size w w'

set_option maxRecDepth 10000 in
set_option maxHeartbeats 800000 in
theorem line_any (A : Option Addr) (n c m : Nat) (bs : List Int) (at_ : Int) (w : World) (hx : Sh w w.heap.size A n (by8 bs)) (hn : n ≤ 1000000) (hnc : n ≤ c) (hcm : c ≤ maxLen) (hb : Byt8 bs) (hm : m = (min (max at_ 0) (n : Int)).toNat) :
    Calls Try.prog 22 #[.slice A n c, .int .i64 at_] w (LineTo bs m w) := by
  have hl : bs.length = n := by have := hx.len; rwa [by8_len] at this
  have hmn : m ≤ n := by omega
  unfold maxLen at hcm
  have hh := hx.head hmn
  rw [by8_take] at hh
  have HL1 := Lib.hid (lastIndex_any A m c (bs.take m) w w.heap.size hh (by omega))
  have hlen : (bs.take m).length = m := by simp; omega
  have hwl : (w.alloc (.cells #[.int .u8 10] 5)).cell? ⟨w.heap.size, 0, none⟩ = some (.int .u8 10) := by rw [World.cell?_alloc_at _ _ _ _ rfl]; rfl
  have HCN : Hid (∀ d, Calls Try.prog 29 #[.slice A m c, .slice (some ⟨w.heap.size, 0, none⟩) 1 d] (w.alloc (.cells #[.int .u8 10] 5)) fun e w' => e = .returned (.int .i64 (cntN bs m : Nat)) ∧ w.alloc (.cells #[.int .u8 10] 5) = w') := Lib.hid fun d => by
    rcases Nat.eq_zero_or_pos m with h0 | h0
    · have e : cntN bs m = 0 := by subst h0; rfl
      rw [e]
      exact count_nil' A m c w.heap.size d (w.alloc (.cells #[.int .u8 10] 5)) h0 hwl
    · obtain ⟨b, off, rfl, hbb, _⟩ := hh.byte (k := 0) h0
      exact count_any' b off m c w.heap.size d (bs.take m) (w.alloc (.cells #[.int .u8 10] 5)) hlen (hb.take m) (fun i hi => by
        obtain ⟨b', off', e', _, hc⟩ := (hh.alloc (Nat.le_refl _) (.cells #[.int .u8 10] 5)).byte hi
        cases e'
        exact hc) hwl
  have HLB : Hid (∀ v, IsLast (bs.take m) m v → IsLast bs m v) := Lib.hid fun v h => by
    have hg : ∀ j, j < m → (bs.take m).getD j 0 = bs.getD j 0 := fun j hj => by simp [List.getD, List.getElem?_take, hj]
    rcases h with ⟨rfl, h⟩ | ⟨k, hk, rfl, hv, h⟩
    · exact .inl ⟨rfl, fun j hj => by rw [← hg j hj]; exact h j hj⟩
    · exact .inr ⟨k, hk, rfl, by rw [← hg k hk]; exact hv, fun j h1 h2 => by rw [← hg j h2]; exact h j h1 h2⟩
  have HBL := Lib.hid ((Below.refl w.heap.size w).alloc (Nat.le_refl _) (.cells #[.int .u8 10] 5))
  have hcnt := cntN_le bs m
  obtain ⟨q, hq⟩ : ∃ q, cntN bs m = q := ⟨_, rfl⟩
  unfold LineTo
  rw [hq] at HCN hcnt ⊢
  clear hx hh hlen hwl hb hl hq
  have HM := Lib.hid hm
  clear hm
  have hfin : ∀ v, IsLast (bs.take m) m v → -1 ≤ v ∧ v < m := fun v h => h.range
  have HFIN := Lib.hid hfin
  clear hfin
  have hmc : m ≤ c := by omega
  go_enter Try.func22, Try.ntmps22
  go_wp2_with fail
  rw [← HM.out]
  refine HL1.out.mono ?_
  rintro e w' ⟨⟨v, rfl, hv⟩, rfl⟩
  have HV := Lib.hid (HLB.out v hv)
  obtain ⟨r0, r1⟩ := HFIN.out v hv
  clear hv
  go_wp2_with (first
    | (go_at_call 29; refine (HCN.out _).mono ?_; rintro e w' ⟨rfl, rfl⟩)
    | fail)
  go_ret2
  exact ⟨⟨v, rfl, HV.out⟩, HBL.out⟩
end Go.Proofs.Ytenohmkcbncehaa
