/-
  CONTRACTS OF slices.Grow and slices.Concat at bytes.
-/
import Derived.Test.YthfhhgjjnpcmgaaClone
import Derived.Lib.AppendZeros
import Derived.Laws.MakeOwn
import Derived.IntWalk
namespace Go.Proofs.Ythfhhgjjnpcmgaa
set_option linter.unusedVariables false
set_option linter.unusedSimpArgs false
open Go.RowKit

set_option maxRecDepth 10000 in
set_option maxHeartbeats 800000 in
theorem grow_any (n : Nat) (w : World) (hn : n ≤ 10000000) :
    Calls Try.prog 29 #[.slice none 0 0, .int .i64 (n : Int)] w fun e w' => ∃ v, e = .returned v ∧ Own w' w.heap.size 5 1 v 0 [] ∧ Below w.heap.size w w' := by
  obtain ⟨ht, i, z, hi, hz, hsize, hbytes, hzs, hpos⟩ := rowB
  by_cases h : 0 < n
  · have hr := Lib.run_append_nil_zeros (P := Try.prog) w 22 3 22 5 i z .i64 .i64 ht Try.underlying3 hi hz n h (by omega) (by omega) (by rw [hbytes]; omega)
    have hge : n ≤ grownCap w n 0 5 := grownCap_ge _ _ _ _
    have hle : grownCap w n 0 5 ≤ maxLen := grownCap_le_maxLen _ _ _ _ (by unfold maxLen; omega)
    obtain ⟨cp, hcp⟩ : ∃ cp, cp = grownCap w n 0 5 := ⟨_, rfl⟩
    rw [← hcp] at hr hge hle
    obtain ⟨Z, hZ⟩ : ∃ Z, Z = Builtin.zeroCells z.cells n ++ Builtin.zeroCells z.cells (cp - n) := ⟨_, rfl⟩
    have hzl : Z.toList.length = cp * 1 := by
      rw [hZ, Array.length_toList, Array.size_append, size_zeroCells, size_zeroCells, hzs]
      omega
    rw [← hZ] at hr
    have HZ := Lib.hid hzl
    have HR := Lib.hid hr
    unfold maxLen at hle
    clear hr hzl hZ hcp hi hz hsize hbytes hzs hpos ht
    go_enter Try.func29, Try.ntmps29
    go_wp2_with (at_builtin; refine Lib.wpList_append_run w rfl (.tmp 20) (.tmp 21) 22 3 rfl _ _ rfl rfl _ _ HR.out ?_)
    go_ret
    have e : Z = Z.toList.toArray := by simp
    rw [e]
    refine ⟨_, rfl, Own.mk_ (cur := Z.toList) (Nat.le_refl _) (heap_alloc_new w.drew _) (Nat.zero_le _) (by unfold maxLen; omega) HZ.out (by simp), ?_⟩
    exact (Quiet.one w 1).below _ |>.alloc (Nat.le_refl _) _
  · obtain rfl : n = 0 := by omega
    clear hi hz hsize hbytes hzs hpos ht
    go_enter Try.func29, Try.ntmps29
    go_wp2
    go_ret
    exact ⟨_, rfl, Own.nil _ _ _ _ (Nat.le_refl _), Below.refl _ _⟩

/-- A piece: where it lies, its length, its capacity, its bytes. -/
abbrev Pc := Option Addr × Nat × Nat × List Int
def Pc.val (p : Pc) : Value := .slice p.1 p.2.1 p.2.2.1
def tot (L : List Pc) : Nat := (L.map fun p => p.2.1).sum
def flat (L : List Pc) : List Int := L.flatMap fun p => p.2.2.2
theorem take_next {α : Type} {L : List α} {k : Nat} {p : α} (h : L[k]? = some p) : L.take (k + 1) = L.take k ++ [p] := by
  obtain ⟨hk, e⟩ := List.getElem?_eq_some_iff.1 h
  rw [List.take_succ_eq_append_getElem hk, e]
theorem tot_next {L : List Pc} {k : Nat} {p : Pc} (h : L[k]? = some p) : tot (L.take (k + 1)) = tot (L.take k) + p.2.1 := by
  rw [take_next h]; simp [tot]
theorem flat_next {L : List Pc} {k : Nat} {p : Pc} (h : L[k]? = some p) : flat (L.take (k + 1)) = flat (L.take k) ++ p.2.2.2 := by
  rw [take_next h]; simp [flat]
theorem tot_le (L : List Pc) (k : Nat) : tot (L.take k) ≤ tot L := by
  have h : tot (L.take k ++ L.drop k) = tot (L.take k) + tot (L.drop k) := by simp only [tot, List.map_append, List.sum_append]
  rw [List.take_append_drop] at h
  omega

set_option maxRecDepth 10000 in
set_option maxHeartbeats 800000 in
theorem concat_any (b off n : Nat) (L : List Pc) (w : World) (U : Nat) (hl : L.length = n) (hn : n ≤ 1000) (hb : b < w.heap.size) (hU : U ≤ w.heap.size)
    (hc : ∀ (k : Nat) (p : Pc), L[k]? = some p → w.cell? ⟨b, off + k, none⟩ = some p.val) (hs : ∀ (k : Nat) (p : Pc), L[k]? = some p → Sh w U p.1 p.2.1 (by8 p.2.2.2)) (ht : tot L ≤ 10000000) :
    Calls Try.prog 21 #[.slice (some ⟨b, off, none⟩) n n] w fun e w' => ∃ v, e = .returned v ∧ Own w' w.heap.size 5 1 v (tot L) (by8 (flat L)) ∧ Below w.heap.size w w' := by
  have HL := Lib.hid hl
  have HC := Lib.hid hc
  have HS := Lib.hid hs
  have HT := Lib.hid (fun k => Nat.le_trans (tot_le L k) ht)
  clear hl hc hs
  go_enter Try.func21, Try.ntmps21
  go_wp2
  go_loop [3, 11] (fun s i => ∃ q : Nat, q ≤ n ∧ i = .int .i64 q ∧ s = .int .i64 (tot (L.take q) : Nat)) (fun _ i => n - (intOf i).toNat)
  case atStart => exact ⟨0, Nat.zero_le _, rfl, rfl⟩
  case round =>
    obtain ⟨q, hq, rfl, rfl⟩ := hrel
    have ht1 := HT.out q
    by_cases hlt : q < n
    · obtain ⟨p, hp⟩ : ∃ p, L[q]? = some p := ⟨_, List.getElem?_eq_getElem (by rw [HL.out]; exact hlt)⟩
      have ht2 := HT.out (q + 1)
      have hcell := HC.out q p hp
      have hnx := tot_next hp
      obtain ⟨A, m, c, ys⟩ := p
      simp only [Pc.val] at hcell hnx
      rw [hnx] at ht2
      have HN := Lib.hid hnx
      obtain ⟨t, ht0⟩ : ∃ t, t = tot (L.take q) := ⟨_, rfl⟩
      rw [← ht0] at ht1 ht2 ⊢
      have HT0 := Lib.hid ht0
      clear ht0 hnx
      go_wp2
      go_round
      case rel => exact ⟨q + 1, by omega, by go_num, congrArg (Value.int .i64) (by rw [HN.out, ← HT0.out]; omega)⟩
      case measure => simp [intOf]; omega
    · obtain rfl : q = n := by omega
      have HE : Hid (L.take q = L) := Lib.hid (List.take_of_length_le (by rw [HL.out]; exact Nat.le_refl _))
      rw [HE.out] at ht1 ⊢
      go_wp2_with fail
      refine (grow_any (tot L) w (by omega)).mono ?_
      rintro e w1 ⟨v1, rfl, ho1, hb1⟩
      go_wp2
      go_loopw [6, 27] (fun v i wr => ∃ k : Nat, k ≤ q ∧ i = .int .i64 k ∧ Own wr w.heap.size 5 1 v (tot (L.take k)) (by8 (flat (L.take k))) ∧ Below w.heap.size w wr) (fun _ i _ => q - (intOf i).toNat)
      case atStart => exact ⟨0, Nat.zero_le _, rfl, ho1, hb1⟩
      case round =>
        obtain ⟨k, hk, rfl, ho, hbw⟩ := hrel
        have ht1 := HT.out k
        by_cases hlt : k < q
        · obtain ⟨p, hp⟩ : ∃ p, L[k]? = some p := ⟨_, List.getElem?_eq_getElem (by rw [HL.out]; exact hlt)⟩
          have ht2 := HT.out (k + 1)
          have hcell := (hbw.cell (p := ⟨b, off + k, none⟩) hb).trans (HC.out k p hp)
          have hsh := (HS.out k p hp).up hbw hU
          have hnx := tot_next hp
          have HF := Lib.hid (flat_next hp)
          obtain ⟨A, m, c, ys⟩ := p
          simp only [Pc.val] at hcell hnx hsh
          rw [hnx] at ht2
          have HN := Lib.hid hnx
          have HSH := Lib.hid hsh
          clear hnx hsh
          obtain ⟨t, ht0⟩ : ∃ t, t = tot (L.take k) := ⟨_, rfl⟩
          rw [← ht0] at ht1 ht2 ho
          have HT0 := Lib.hid ht0
          clear ht0
          go_wp2_with (at_builtin; refine wpList_more rfl (.tmp 31) (.tmp 32) 22 rfl rowB w wr w.heap.size _ t (by8 (flat (L.take k))) (by8 ys) rfl ho U A m c rfl HSH.out (by8_one _) hbw (by omega) (by omega) ?_; intro v2 w2 ho2 hb2)
          go_roundw
          case rel => exact ⟨k + 1, by omega, by go_num, ho2.cast (by rw [HN.out, ← HT0.out]) (by rw [HF.out, by8_append]), hb2⟩
          case measure => simp [intOf]; omega
        · obtain rfl : k = q := by omega
          rw [HE.out] at ho
          go_wp2
          go_ret
          exact ⟨_, rfl, ho, hbw⟩
end Go.Proofs.Ythfhhgjjnpcmgaa
