/-
  CONTRACTS OF 'num.grown', 'num.Put', 'num.Add', 'blazonref01.Short', 'awake' of layer 1.
-/
import Derived.Test.YtmodcdpljflmaaaSame
import Derived.Test.YtmodcdpljflmaaaNumMath
import Derived.Laws.CopyOwn
import Derived.Laws.MakeOwn
import Derived.Laws.BitsAllLaws
import Derived.Laws.BitsLemmas
import Derived.IntWalk
import Derived.WalkSpells
namespace Go.Proofs.Ytmodcdpljflmaaa
set_option linter.unusedVariables false
set_option linter.unusedSimpArgs false
open Go.RowKit

/-- Below 2^64, behind a name: the walk meets no numeral of this size. -/
def U64 (n : Nat) : Prop := n < 18446744073709551616
theorem U64.div {n : Nat} (h : U64 n) (k : Nat) : U64 (n / k) := Nat.lt_of_le_of_lt (Nat.div_le_self _ _) h
theorem u64_in {n : Int} (h0 : 0 ≤ n) (h : n < 18446744073709551616) : IntKind.u64.wrap n = n := IntWalk.u64_in n ⟨h0, by omega⟩
theorem U64.quo {n : Nat} (h : U64 n) : IntKind.u64.wrap ((n : Int) / 128) = (n : Int) / 128 := u64_in (by omega) (by unfold U64 at h; omega)
theorem rowB : RowT Try.prog 23 5 1 1 := RowT.mk (z := .int .u8 0) Try.underlying23 (by kernel_rfl) rfl (by omega)

theorem size_made (z : Array Value) (n : Nat) (h : z.size = 1) : (madeCells z n).size = n := by simp [madeCells]

set_option maxHeartbeats 400000 in
theorem grown_any (A : Option Addr) (n c : Nat) (xs : List Int) (k : Int) (w : World) (U : Nat) (hx : Sh w U A n (by8 xs)) (hn : n ≤ 1099511627776) (hk0 : 0 ≤ k) (hk : k ≤ 16) :
    Calls Try.prog 25 #[.slice A n c, .int .i64 k] w fun e w' => ∃ v, e = .returned v ∧ Own w' w.heap.size 5 1 v n (by8 xs) ∧ Below w.heap.size w w' := by
  obtain ⟨ht, i, z, hi, hz, hsize, hbytes, hzs, hpos⟩ := rowB
  have hmk : ∀ W : World, ∃ Z : List Value, Z.length = n + k.toNat ∧ (Instr.makeSlice 23 (.int .i64 (n : Int)) (.int .i64 ((n : Int) + k))).run Try.prog W =
      .ok (.slice (some ⟨W.heap.size, 0, none⟩) n (n + k.toNat)) (W.alloc (.cells Z.toArray 5)) := by
    intro W
    have h := run_make (P := Try.prog) W 23 5 i z ht hi hz .i64 .i64 (n : Int) ((n : Int) + k) (by omega) (by omega) (by rw [hbytes]; omega) (by omega)
    refine ⟨(madeCells z.cells (((n : Int) + k).toNat * i.size)).toList, ?_, ?_⟩
    · rw [Array.length_toList, size_made _ _ hzs, hsize]; omega
    · rw [h]
      have e1 : ((n : Int)).toNat = n := by omega
      have e2 : ((n : Int) + k).toNat = n + k.toNat := by omega
      simp only [e1, e2, Array.toArray_toList]
  obtain ⟨Z, hZ, hm⟩ := hmk w
  have HZ := Lib.hid hZ
  have HS := Lib.hid hsize
  have HI := Lib.hid hi
  clear hmk hZ hz hi hsize hbytes hzs
  go_enter Try.func25, Try.ntmps25
  go_wp2_with (with_reducible refine wpList_copy_splice rfl (.tmp 13) (.tmp 14) 23 23 rfl 5 ht (by rw [HI.out]; simp [HS.out]) (some ⟨w.heap.size, 0, none⟩) A n (n + k.toNat) n c rfl rfl w.heap.size 0 Z 5 (heap_alloc_new _ _) (by8 xs) (by rw [hx.len]; simp) ?_ (by rw [HZ.out, hx.len]; omega) (by8_one xs) w.heap.size w ((Below.refl _ _).alloc (Nat.le_refl _) _) (Nat.le_refl _) ?_)
  · intro h
    obtain ⟨b, off, e, hb, hc⟩ := hx.2 (by have := hx.len; omega)
    first | refine ⟨rfl, ⟨b, off, none⟩, e, fun j v hv => ?_⟩ | refine ⟨⟨b, off, none⟩, e, fun j v hv => ?_⟩
    rw [Addr.add_lit]
    have hc' := hc j v hv
    rw [World.cell?_alloc_past _ _ _ (World.block_lt_of_cell? _ _ hc')]
    exact hc'
  · intro w2 hg2 hb2
    go_wp2
    go_ret
    have hl := hx.len
    have hz := HZ.out
    refine ⟨_, rfl, Own.mk_ (Nat.le_refl _) hg2.out (by omega) (by unfold maxLen; omega) ?_ ?_, hb2⟩
    · rw [length_splice _ _ _ (by omega)]; omega
    · simp [splice, ← hl]

/-- The last digits of the short form behind the ones that are laid. -/
theorem push_short {out : List Int} {m n : Nat} {b : List Int} (h : out ++ short m = b ++ short n) (hm : ¬ m < 128) : (out ++ [((m % 128 + 128 : Nat) : Int)]) ++ short (m / 128) = b ++ short n := by
  rw [← h, short_ge hm, List.append_assoc]; rfl

theorem or128 : ∀ a : Fin 256, a.val ||| 128 = a.val % 128 + 128 := by decide +kernel
theorem byte_or (m : Nat) : bits .or .u8 ((m : Int) % 256) 128 = ((m % 128 + 128 : Nat) : Int) := by
  have h := u8_or_nat (m % 256) 128 (by omega) (by omega)
  have e := or128 ⟨m % 256, by omega⟩
  simp only at e
  rw [e] at h
  have e1 : (m : Int) % 256 = ((m % 256 : Nat) : Int) := by omega
  rw [e1]
  refine h.trans ?_
  congr 1
  omega

set_option maxRecDepth 10000 in
set_option maxHeartbeats 800000 in
theorem put_any (A : Option Addr) (n c : Nat) (xs : List Int) (k : Nat) (w : World) (U : Nat) (hx : Sh w U A n (by8 xs)) (hn : n ≤ 1000000) (hk : U64 k) :
    Calls Try.prog 12 #[.slice A n c, .int .u64 k] w fun e w' => ∃ v, e = .returned v ∧ Own w' w.heap.size 5 1 v (n + (short k).length) (by8 (xs ++ short k)) ∧ Below w.heap.size w w' := by
  have h10 := short_ten hk
  go_enter Try.func12, Try.ntmps12
  go_wp2_with fail
  refine (grown_any A n c xs 10 w U hx (by omega) (by omega) (by omega)).mono ?_
  rintro e w1 ⟨v1, rfl, ho1, hb1⟩
  go_wp2
  go_loopw [1, 5] (fun m v wr => ∃ (j : Nat) (out : List Int) (q : Nat), U64 j ∧ m = .int .u64 j ∧ out ++ short j = xs ++ short k ∧ q ≤ n + 10 ∧ Own wr w.heap.size 5 1 v q (by8 out) ∧ Below w.heap.size w wr) (fun m _ _ => (intOf m).toNat)
  case atStart => exact ⟨k, xs, n, hk, rfl, rfl, by omega, ho1, hb1⟩
  case round =>
    obtain ⟨j, out, q, hj, rfl, hs, hq, ho, hb⟩ := hrel
    have HS := Lib.hid hs
    clear hs
    by_cases hlt : j < 128
    · go_wp2_with (at_builtin; refine wpList_push rfl (.tmp 18) (.tmp 21) 23 rfl rowB w wr w.heap.size _ q (by8 out) [_] rfl ho rfl rfl (by intro u hu; simp at hu; subst hu; rfl) hb (by omega) (by omega) ?_; intro v2 w2 ho2 hb2)
      go_ret
      have e1 : out ++ [(j : Int)] = xs ++ short k := by rw [← HS.out, short_lt hlt]
      have e2 := congrArg List.length e1
      have e3 := ho.len1
      have e4 := hx.len
      simp only [List.length_append, List.length_singleton, by8_len] at e2 e4
      exact ⟨_, rfl, ho2.cast (by omega) (by rw [← e1, by8_append]; rfl), hb2⟩
    · go_wp2_with (at_builtin; refine wpList_push rfl (.tmp 10) (.tmp 14) 23 rfl rowB w wr w.heap.size _ q (by8 out) [_] rfl ho rfl rfl (by intro u hu; simp at hu; subst hu; rfl) hb (by omega) (by omega) ?_; intro v2 w2 ho2 hb2)
      have HP := Lib.hid (push_short HS.out hlt)
      have HO := Lib.hid (byte_or j)
      have hq1 : q + 1 ≤ n + 10 := by
        have e2 := congrArg List.length HP.out
        have e3 := ho.len1
        have e4 := hx.len
        have e5 := short_pos (j / 128)
        simp only [List.length_append, List.length_singleton, by8_len] at e2 e4
        omega
      go_roundw
      case rel => exact ⟨j / 128, _, q + 1, hj.div 128, by go_num, HP.out, hq1, ho2.cast rfl (by rw [HO.out, by8_append]; rfl), hb2⟩
      case measure => simp [intOf]; omega

theorem put_nil (k : Nat) (w : World) (hk : U64 k) :
    Calls Try.prog 12 #[.slice none 0 0, .int .u64 k] w fun e w' => ∃ A c, e = .returned (.slice A (short k).length c) ∧ Own w' w.heap.size 5 1 (.slice A (short k).length c) (short k).length (by8 (short k)) ∧ Below w.heap.size w w' :=
  (put_any none 0 0 [] k w 0 (Sh.nil _ _ _) (by omega) hk).mono fun e w' ⟨v, he, ho, hb⟩ => by
    have ho2 := ho.cast (Nat.zero_add _) rfl
    obtain ⟨A, c, rfl⟩ := ho2.form
    exact ⟨A, c, he, ho2, hb⟩

set_option maxRecDepth 10000 in
set_option maxHeartbeats 800000 in
theorem short_any (k : Nat) (w : World) (hk : U64 k) :
    Calls Try.prog 15 #[.int .u64 k] w fun e w' => ∃ v, e = .returned v ∧ Own w' w.heap.size 5 1 v (short k).length (by8 (short k)) ∧ Below w.heap.size w w' := by
  have h10 := short_ten hk
  go_enter Try.func15, Try.ntmps15
  go_wp2
  go_loopw [0, 3] (fun m v wr => ∃ (j : Nat) (out : List Int) (q : Nat), U64 j ∧ m = .int .u64 j ∧ out ++ short j = [] ++ short k ∧ q ≤ 10 ∧ Own wr w.heap.size 5 1 v q (by8 out) ∧ Below w.heap.size w wr) (fun m _ _ => (intOf m).toNat)
  case atStart => exact ⟨k, [], 0, hk, rfl, rfl, by omega, Own.nil _ _ _ _ (Nat.le_refl _), Below.refl _ _⟩
  case round =>
    obtain ⟨j, out, q, hj, rfl, hs, hq, ho, hb⟩ := hrel
    have HS := Lib.hid hs
    clear hs
    by_cases hlt : j < 128
    · go_wp2_with (at_builtin; refine wpList_push rfl (.tmp 15) (.tmp 18) 23 rfl rowB w wr w.heap.size _ q (by8 out) [_] rfl ho rfl rfl (by intro u hu; simp at hu; subst hu; rfl) hb (by omega) (by omega) ?_; intro v2 w2 ho2 hb2)
      go_ret
      have e1 : out ++ [(j : Int)] = [] ++ short k := by rw [← HS.out, short_lt hlt]
      have e2 := congrArg List.length e1
      have e3 := ho.len1
      simp only [List.length_append, List.length_singleton, List.nil_append] at e2
      exact ⟨_, rfl, ho2.cast (by omega) (by rw [List.nil_append] at e1; rw [← e1, by8_append]; rfl), hb2⟩
    · have HP := Lib.hid (push_short HS.out hlt)
      have hq1 : q + 1 ≤ 10 := by
        have e2 := congrArg List.length HP.out
        have e3 := ho.len1
        have e5 := short_pos (j / 128)
        simp only [List.length_append, List.length_singleton, List.nil_append] at e2
        omega
      have hquo := hj.quo
      go_wp2_with (at_builtin; refine wpList_push rfl (.tmp 6) (.tmp 11) 23 rfl rowB w wr w.heap.size _ q (by8 out) [_] rfl ho rfl rfl (by intro u hu; simp at hu; subst hu; rfl) hb (by omega) (by omega) ?_; intro v2 w2 ho2 hb2)
      go_roundw
      case rel => exact ⟨j / 128, _, q + 1, hj.div 128, by go_num, HP.out, hq1, ho2.cast rfl (by rw [by8_append]; rfl), hb2⟩
      case measure => simp [intOf]; omega
end Go.Proofs.Ytmodcdpljflmaaa
