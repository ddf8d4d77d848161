/-
  CONTRACTS OF the document's names: 'without', 'put'.
-/
import Derived.Test.YtekhockdgglndaaRMem
namespace Go.Proofs.Ytekhockdgglndaa
set_option linter.unusedVariables false
set_option linter.unusedSimpArgs false
open Go.RowKit

theorem rowE : RowT Try.prog 68 77 2 24 := RowT.mk (z := .agg #[.string ByteArray.empty, .int .i64 0]) Try.underlying68 (by kernel_rfl) rfl (by omega)

/-- Names without one. -/
def rwithout (N : List RE) (s : ByteArray) : List RE := N.filter fun q => !(eqs q.1 s)
theorem rwithout_yes {N : List RE} {k : Nat} {q : RE} {s : ByteArray} (h : N[k]? = some q) (he : eqs q.1 s = true) : rwithout (N.take (k + 1)) s = rwithout (N.take k) s := by
  rw [take_more h]; simp [rwithout, he]
theorem rwithout_no {N : List RE} {k : Nat} {q : RE} {s : ByteArray} (h : N[k]? = some q) (he : eqs q.1 s = false) : rwithout (N.take (k + 1)) s = rwithout (N.take k) s ++ [q] := by
  rw [take_more h]; simp [rwithout, he]
theorem rwithout_len (N : List RE) (s : ByteArray) : (rwithout N s).length ≤ N.length := List.length_filter_le _ _

set_option maxRecDepth 10000 in
set_option maxHeartbeats 800000 in
theorem without_any (X : Nat → Prop) (A : Option Addr) (n c : Nat) (N : List RE) (s : ByteArray) (w : World) (hX : ∀ b, X b → b < w.heap.size) (hl : N.length = n) (hn : n ≤ 1000) (h : SX w X A n 2 (recells N)) :
    Calls Try.prog 69 #[.slice A n c, .string s] w fun e w' => ∃ v, e = .returned v ∧ Own w' w.heap.size 77 2 v (rwithout N s).length (recells (rwithout N s)) ∧ Below w.heap.size w w' := by
  have HL := Lib.hid hl
  have HN := Lib.hid (fun w' (hb : Below w.heap.size w w') (j : Nat) (q : RE) (hq : N[j]? = some q) => NX.at (h.stay fun b hx => hb.block b (hX b hx)) hl hq)
  clear hl h
  go_enter Try.func69, Try.ntmps69
  go_wp2
  go_loopw [5, 6] (fun v i wr => ∃ k : Nat, k ≤ n ∧ i = .int .i64 k ∧ Own wr w.heap.size 77 2 v (rwithout (N.take k) s).length (recells (rwithout (N.take k) s)) ∧ Below w.heap.size w wr) (fun _ i _ => n - (intOf i).toNat)
  case atStart => exact ⟨0, Nat.zero_le _, rfl, Own.nil _ _ _ _ (Nat.le_refl _), Below.refl _ _⟩
  case round =>
    obtain ⟨k, hk, rfl, ho, hb⟩ := hrel
    by_cases hlt : k < n
    · obtain ⟨q, hq⟩ : ∃ q, N[k]? = some q := ⟨_, List.getElem?_eq_getElem (by rw [HL.out]; exact hlt)⟩
      obtain ⟨b, off, rfl, _, c0, c1⟩ := HN.out wr hb k q hq
      have hlen : (rwithout (N.take k) s).length ≤ 1000 := Nat.le_trans (rwithout_len _ _) (by simp; omega)
      have HQ := Lib.hid hq
      have HO := Lib.hid ho
      clear hq
      by_cases he : eqs q.1 s = true
      · have he' : (q.1.toList == s.toList) = true := he
        have HE := Lib.hid he
        clear he
        go_wp2
        go_roundw
        case rel => exact ⟨k + 1, by omega, by go_num, by rw [rwithout_yes HQ.out HE.out]; exact HO.out, hb⟩
        case measure => simp [intOf]; omega
      · have he' : (q.1.toList == s.toList) = false := by simpa [eqs] using he
        have HE : Hid (eqs q.1 s = false) := Lib.hid (by simpa using he)
        clear he
        obtain ⟨l, hl⟩ : ∃ l, l = (rwithout (N.take k) s).length := ⟨_, rfl⟩
        rw [← hl] at ho hlen
        have HLL := Lib.hid hl
        clear hl
        go_wp2_with (at_builtin; refine wpList_push_g rfl (.tmp 20) (.tmp 25) 68 rfl rowE wr w.heap.size _ l (recells (rwithout (N.take k) s)) [.string q.1, .int .i64 (q.2 : Int)] rfl ho rfl rfl rfl (by intro z hz; simp at hz; rcases hz with rfl | rfl <;> rfl) (by omega) (by omega) ?_; intro v2 w2 ho2 hg2)
        go_roundw
        case rel => exact ⟨k + 1, by omega, by go_num, ho2.cast (by rw [rwithout_no HQ.out HE.out, HLL.out]; simp) (by rw [rwithout_no HQ.out HE.out, recells_snoc]; rfl), ((hb.alloc hb.size _).grown hg2 (by simp; have := hb.size; omega) ho.block_ge)⟩
        case measure => simp [intOf]; omega
    · obtain rfl : k = n := by omega
      have HT : Hid (N.take k = N) := Lib.hid (List.take_of_length_le (by rw [HL.out]; exact Nat.le_refl _))
      rw [HT.out] at ho
      go_wp2
      go_ret
      exact ⟨_, rfl, ho, hb⟩
end Go.Proofs.Ytekhockdgglndaa
