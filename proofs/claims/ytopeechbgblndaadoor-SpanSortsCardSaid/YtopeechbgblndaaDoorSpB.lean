/-
  CONTRACTS OF (*bytes.Buffer).Write, WriteString, Bytes at this dump; 'span.Apply'.
-/
import Derived.Test.YtopeechbgblndaaDoorSpC
import Derived.Test.YtopeechbgblndaaDoorShelf
import Derived.Lib.BufferOld
import Derived.WalkKit
import Derived.BigCall
import Derived.BigGuard
namespace Go.Proofs.YtopeechbgblndaaDoor
set_option linter.unusedVariables false
set_option linter.unusedSimpArgs false
open Go.RowKit

abbrev Buf (g : Nat) (acc : List Int) (w : World) : Prop := Lib.IsBuffer 45 5 g g (by8 acc) w
/-- Behind a call that writes into the buffer at block g. -/
def Wrote (g : Nat) (w w' : World) : Prop := Below g w w' ∧ Lib.OthersKept 5 (some g) w w'

theorem bufWrite_none (g : Nat) (acc : List Int) (T : Option Addr) (d : Nat) (w : World) (h : Buf g acc w) (hg : g ≤ w.heap.size) :
    Calls Tryd.prog 20 #[.pointer (some ⟨g, 0, none⟩), .slice T 0 d] w fun e w' => e = .returned (.tuple #[.int .i64 0, .nilIface]) ∧ Buf g acc w' ∧ Wrote g w w' := by
  obtain ⟨hB, v0, lr, hbk, -, -⟩ := id h
  have c2 : w.cell? ⟨g, 2, none⟩ = some (.int .i8 lr) := by rw [Lib.cell_of_heap hbk]; rfl
  have f2 : w.frozen? ⟨g, 2, none⟩ = false := Lib.frozen_of_heap hbk 2
  have h' := h.setLast 0
  have hbel0 : Below g w (w.setCell ⟨g, 2, none⟩ (.int .i8 0)) := (Below.refl g w).setCell (p := ⟨g, 2, none⟩) hB _
  have hk0 : Lib.OthersKept 5 (some g) w (w.setCell ⟨g, 2, none⟩ (.int .i8 0)) := (Lib.OthersKept.refl _ _ w).setCell ⟨g, 2, none⟩ rfl _
  clear hbk v0
  have hinfo : (Tryd.prog.info? 5).map (·.size) = some 1 := by kernel_rfl
  have hce : ∀ D dLen dCap W, (Builtin.copy_ #[22, 22] 3 #[.slice D dLen dCap, .slice T 0 d]).run Tryd.prog W = .ok (goInt 0) W := fun D dLen dCap W => run_copy_none W 22 22 3 5 D T dLen dCap 0 d Tryd.underlying22 hinfo (by simp)
  have hT : ∀ W, Buf g acc W → Calls Tryd.prog 29 #[.pointer (some ⟨g, 0, none⟩), .int .i64 0] W _ := fun W hW => Any.Buffer_tryGrow_own { Tryd.bufWrite with } g g 0 (by8 acc) W hW
  go_enter Tryd.func20, Tryd.ntmps20
  go_wp2_with (go_at_call 29; refine (hT _ ?_).mono ?_)
  · exact h'
  rintro e W1 (⟨rfl, xs, hxl, hI, hbel, hk, hgb⟩ | ⟨rfl, rfl, hnr⟩)
  · clear h' c2 f2 hT
    have hx0 : xs = [] := List.eq_nil_of_length_eq_zero hxl
    subst hx0
    rw [List.append_nil] at hI
    obtain ⟨-, lr2, hc⟩ := hI.cases
    rcases hc with ⟨hb0, hbk2⟩ | ⟨g2, cap, cur, hbk2, -, -, hnc, hcm, -, -, -⟩
    · have d0 : W1.cell? ⟨g, 0, none⟩ = some (.slice none 0 0) := by rw [Lib.cell_of_heap hbk2]; rfl
      rw [hb0]
      go_wp2
      all_goals (go_ret2; exact ⟨rfl, hI, hbel0.trans hbel, hk0.trans hk⟩)
    · have d0 : W1.cell? ⟨g, 0, none⟩ = some (.slice (some ⟨g2, 0, none⟩) (by8 acc).length cap) := by rw [Lib.cell_of_heap hbk2]; rfl
      unfold maxLen at hcm
      go_wp2
      all_goals (go_ret2; exact ⟨rfl, hI, hbel0.trans hbel, hk0.trans hk⟩)
  · obtain ⟨_, _, _, _, hlt⟩ := hnr
    omega

theorem bufWrite_any (g : Nat) (acc cs : List Int) (T : Option Addr) (k d U : Nat) (w : World) (h : Buf g acc w) (hg : g ≤ w.heap.size) (hs : Sh w U T k (by8 cs)) (hU : U ≤ g) (hl : acc.length + k ≤ 100000000) :
    Calls Tryd.prog 20 #[.pointer (some ⟨g, 0, none⟩), .slice T k d] w fun e w' => e = .returned (.tuple #[.int .i64 k, .nilIface]) ∧ Buf g (acc ++ cs) w' ∧ Wrote g w w' := by
  have hlen : cs.length = k := by have := hs.len; rwa [by8_len] at this
  rcases Nat.eq_zero_or_pos k with h0 | h0
  · subst h0
    have : cs = [] := List.eq_nil_of_length_eq_zero hlen
    subst this
    refine (bufWrite_none g acc T d w h hg).mono ?_
    rintro e w' ⟨he, hb, hw⟩
    exact ⟨he, by rw [List.append_nil]; exact hb, hw⟩
  · obtain ⟨b, off, rfl, hb, hc⟩ := hs.2 h0
    have := Any.Buffer_Write_any Tryd.bufWrite g g (by8 acc) (by8 cs) ⟨b, off, none⟩ k d w h hg (by8_one _) (by rw [by8_len]; exact hlen) (by show b ≠ g; omega) (fun j v hj => by rw [Addr.add_lit]; exact hc j v hj) (by8_one _) (by rw [by8_len]; omega)
    refine (this : Calls Tryd.prog 20 _ _ _).mono ?_
    rintro e w' ⟨he, hb', hw, ho⟩
    exact ⟨he, by unfold Buf; rw [by8_append]; exact hb', hw, ho⟩

theorem bufString_any (g : Nat) (acc cs : List Int) (w : World) (h : Buf g acc w) (hg : g ≤ w.heap.size) (hb : Byt8 cs) (hl : acc.length + cs.length ≤ 100000000) :
    Calls Tryd.prog 21 #[.pointer (some ⟨g, 0, none⟩), .string (strOfNums cs)] w fun e w' => (∃ k, e = .returned (.tuple #[.int .i64 k, .nilIface])) ∧ Buf g (acc ++ cs) w' ∧ Wrote g w w' := by
  have := Any.Buffer_WriteString_kept Tryd.bufWriteString g g (by8 acc) (strOfNums cs) w h hg (by8_one _) (by rw [by8_len, strOfNums_size]; omega)
  refine (this : Calls Tryd.prog 21 _ _ _).mono ?_
  rintro e w' ⟨he, hb', hw, ho⟩
  exact ⟨⟨_, he⟩, by unfold Buf; rw [by8_append, ← byteCells_bts cs hb]; exact hb', hw, ho⟩

theorem bufBytes_any (g : Nat) (acc : List Int) (w : World) (h : Buf g acc w) (hg : g ≤ w.heap.size) :
    Calls Tryd.prog 22 #[.pointer (some ⟨g, 0, none⟩)] w fun e w' => ∃ v, e = .returned v ∧ Own w' g 5 1 v acc.length (by8 acc) ∧ Quiet w w' := by
  have := Any.Buffer_Bytes Tryd.bufBytes g g (by8 acc) w h
  refine (this : Calls Tryd.prog 22 _ _ _).mono ?_
  rintro e w' ⟨v, he, ho, n, rfl⟩
  rw [by8_len] at ho
  exact ⟨v, he, ⟨ho, hg⟩, ⟨n, rfl⟩⟩

/-- A struct of the call's own stays behind a write into the buffer. -/
theorem Wrote.cell {g : Nat} {w w' : World} (h : Wrote g w w') {k : Nat} {C : Array Value} {T : TypeId} {fz : Nat × Nat} (hk : w.heap[k]? = some (.cells C T fz)) (hT : T ≠ 5) (hn : k ≠ g) (j : Nat) : w'.cell? ⟨k, j, none⟩ = w.cell? ⟨k, j, none⟩ := by
  have h2 := h.2 k _ hk (fun e => hn (Option.some.inj e)) (fun c fz e => by injection e with _ e _; exact hT e)
  exact World.cell?_of_block (a := ⟨k, j, none⟩) (h2.trans hk.symm)
theorem Wrote.heap {g : Nat} {w w' : World} (h : Wrote g w w') {k : Nat} {C : Array Value} {T : TypeId} {fz : Nat × Nat} (hk : w.heap[k]? = some (.cells C T fz)) (hT : T ≠ 5) (hn : k ≠ g) : w'.heap[k]? = some (.cells C T fz) :=
  h.2 k _ hk (fun e => hn (Option.some.inj e)) (fun c fz e => by injection e with _ e _; exact hT e)
end Go.Proofs.YtopeechbgblndaaDoor
