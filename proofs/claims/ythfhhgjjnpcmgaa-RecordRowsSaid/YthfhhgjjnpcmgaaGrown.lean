/-
  CONTRACT OF 'num.grown'.
-/
import Derived.Test.YthfhhgjjnpcmgaaRowB
import Derived.Laws.CopyOwn
import Derived.Laws.MakeOwn
import Derived.Laws.BitsAllLaws
import Derived.Laws.BitsLemmas
import Derived.IntWalk
import Derived.WalkSpells
namespace Go.Proofs.Ythfhhgjjnpcmgaa
set_option linter.unusedVariables false
set_option linter.unusedSimpArgs false
open Go.RowKit

/-- Below 2^64, behind a name: the walk meets no numeral of this size. -/
def U64 (n : Nat) : Prop := n < 18446744073709551616
theorem U64.div {n : Nat} (h : U64 n) (k : Nat) : U64 (n / k) := Nat.lt_of_le_of_lt (Nat.div_le_self _ _) h
theorem u64_in {n : Int} (h0 : 0 ≤ n) (h : n < 18446744073709551616) : IntKind.u64.wrap n = n := IntWalk.u64_in n ⟨h0, by omega⟩
theorem U64.quo {n : Nat} (h : U64 n) : IntKind.u64.wrap ((n : Int) / 128) = (n : Int) / 128 := u64_in (by omega) (by unfold U64 at h; omega)

theorem size_made (z : Array Value) (n : Nat) (h : z.size = 1) : (madeCells z n).size = n := by simp [madeCells]

set_option maxHeartbeats 400000 in
theorem grown_any (A : Option Addr) (n c : Nat) (xs : List Int) (k : Int) (w : World) (U : Nat) (hx : Sh w U A n (by8 xs)) (hn : n ≤ 1099511627776) (hk0 : 0 ≤ k) (hk : k ≤ 16) :
    Calls Try.prog 26 #[.slice A n c, .int .i64 k] w fun e w' => ∃ v, e = .returned v ∧ Own w' w.heap.size 5 1 v n (by8 xs) ∧ Below w.heap.size w w' := by
  obtain ⟨ht, i, z, hi, hz, hsize, hbytes, hzs, hpos⟩ := rowB
  have hmk : ∀ W : World, ∃ Z : List Value, Z.length = n + k.toNat ∧ (Instr.makeSlice 22 (.int .i64 (n : Int)) (.int .i64 ((n : Int) + k))).run Try.prog W =
      .ok (.slice (some ⟨W.heap.size, 0, none⟩) n (n + k.toNat)) (W.alloc (.cells Z.toArray 5)) := by
    intro W
    have h := run_make (P := Try.prog) W 22 5 i z ht hi hz .i64 .i64 (n : Int) ((n : Int) + k) (by omega) (by omega) (by rw [hbytes]; omega) (by omega)
    refine ⟨(madeCells z.cells (((n : Int) + k).toNat * i.size)).toList, ?_, ?_⟩
    · rw [Array.length_toList, size_made _ _ hzs, hsize]; omega
    · rw [h]
      have e1 : ((n : Int)).toNat = n := by omega
      have e2 : ((n : Int) + k).toNat = n + k.toNat := by omega
      simp only [e1, e2, Array.toArray_toList]
  obtain ⟨Z, hZ, hm⟩ := hmk w
  have HZ := Lib.hid hZ
  have HS := Lib.hid hsize
  have HI := Lib.hid hi
  clear hmk hZ hz hi hsize hbytes hzs
  go_enter Try.func26, Try.ntmps26
  go_wp2_with (with_reducible refine wpList_copy_splice rfl (.tmp 13) (.tmp 14) 22 22 rfl 5 ht (by rw [HI.out]; simp [HS.out]) (some ⟨w.heap.size, 0, none⟩) A n (n + k.toNat) n c rfl rfl w.heap.size 0 Z 5 (heap_alloc_new _ _) (by8 xs) (by rw [hx.len]; simp) ?_ (by rw [HZ.out, hx.len]; omega) (by8_one xs) w.heap.size w ((Below.refl _ _).alloc (Nat.le_refl _) _) (Nat.le_refl _) ?_)
  · intro h
    obtain ⟨b, off, e, hb, hc⟩ := hx.2 (by have := hx.len; omega)
    first | refine ⟨rfl, ⟨b, off, none⟩, e, fun j v hv => ?_⟩ | refine ⟨⟨b, off, none⟩, e, fun j v hv => ?_⟩
    rw [Addr.add_lit]
    have hc' := hc j v hv
    rw [World.cell?_alloc_past _ _ _ (World.block_lt_of_cell? _ _ hc')]
    exact hc'
  · intro w2 hg2 hb2
    go_wp2
    go_ret
    have hl := hx.len
    have hz := HZ.out
    refine ⟨_, rfl, Own.mk_ (Nat.le_refl _) hg2.out (by omega) (by unfold maxLen; omega) ?_ ?_, hb2⟩
    · rw [length_splice _ _ _ (by omega)]; omega
    · simp [splice, ← hl]

end Go.Proofs.Ythfhhgjjnpcmgaa
