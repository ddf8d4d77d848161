/-
  'awake' of layer 2, the document's examples: true.
-/
import Derived.Test.YtboliolmhijjhaaMore
import Derived.Lib.SmallJoins
namespace Go.Proofs.Ytboliolmhijjhaa
set_option linter.unusedVariables false
set_option linter.unusedSimpArgs false
open Go.RowKit Go.Joins

theorem nine : crcOf 0 [49, 50, 51, 52, 53, 54, 55, 56, 57] = 3421780262 := by kernel_rfl
theorem none_sum : crcOf 0 [] = 0 := by kernel_rfl
theorem nine_byt : Byt [49, 50, 51, 52, 53, 54, 55, 56, 57] := by intro x hx; simp at hx; omega

theorem Sh.mark (w : World) (xs : List Value) (e : TypeId) (fr : Nat × Nat) (g : Nat) (hg : g = w.heap.size) : Sh (w.alloc (.cells xs.toArray e fr)) (w.heap.size + 1) (some ⟨g, 0, none⟩) xs.length xs :=
  ⟨rfl, fun _ => ⟨g, 0, rfl, by omega, fun k u hu => by
    rw [Nat.zero_add, cell_alloc_mark_at _ _ _ _ _ _ hg]
    simpa using hu⟩⟩

set_option maxRecDepth 10000 in
set_option maxHeartbeats 800000 in
theorem awake_any (w : World) : Calls Try.prog 7 #[] w fun e w' => e = .returned (.bool true) ∧ Below w.heap.size w w' := by
  have hs0 := Smr.new w 53
  have hb0 : Below w.heap.size w (w.alloc (.cells zl.toArray 53)) := (Below.refl _ _).alloc (Nat.le_refl _) _
  have hz0 : (w.alloc (.cells zl.toArray 53)).heap.size = w.heap.size + 1 := by simp
  obtain ⟨w0, hw0⟩ : ∃ w0, w0 = w.alloc (.cells zl.toArray 53) := ⟨_, rfl⟩
  rw [← hw0] at hs0 hb0 hz0
  have H0 := Lib.hid hs0
  have HZ := Lib.hid hz0
  have HW := Lib.hid hw0
  clear hs0 hw0 hz0
  obtain ⟨wl, hl⟩ : ∃ wl, wl = w0.alloc (.cells (by8 [49, 50, 51, 52, 53, 54, 55, 56, 57]).toArray 5 (9, 10)) := ⟨_, rfl⟩
  have hcv : (convert 23 23 (.slice (some ⟨w0.heap.size, 0, none⟩) 9 9)).run Try.prog (w0.alloc (.cells (by8 [49, 50, 51, 52, 53, 54, 55, 56, 57]).toArray 5)) = .ok (.slice (some ⟨w0.heap.size, 0, none⟩) 9 9) wl := by
    rw [hl]
    exact run_convert_bytes_const_at (P := Try.prog) w0 23 5 (by8 [49, 50, 51, 52, 53, 54, 55, 56, 57]).toArray 9 9 w0.heap.size rfl Try.underlying23 (by kernel_rfl)
  simp only [by8, List.map] at hcv
  have hne : w0.heap.size ≠ w.heap.size := by rw [HZ.out]; omega
  have HNE := Lib.hid hne
  clear hne
  have h1 : Smr wl w.heap.size false 0 := by rw [hl]; exact H0.out.alloc _
  have hx1 : Sh wl (w0.heap.size + 1) (some ⟨w0.heap.size, 0, none⟩) 9 (by8 [49, 50, 51, 52, 53, 54, 55, 56, 57]) := by rw [hl]; exact Sh.mark w0 (by8 [49, 50, 51, 52, 53, 54, 55, 56, 57]) 5 (9, 10) w0.heap.size rfl
  have HB1 : Hid (Below w.heap.size w wl) := by rw [hl]; exact Lib.hid (hb0.alloc hb0.size _)
  have hm := of_any w.heap.size 0 false _ 9 9 [49, 50, 51, 52, 53, 54, 55, 56, 57] _ _ h1 (by omega) hx1 (Off.some HNE.out) nine_byt (by omega)
  rw [nine] at hm
  have HM := Lib.hid hm
  clear h1 hx1 hl hm
  go_enter Try.func7, Try.ntmps7
  go_wp2_with (go_at_call 8; refine (new_any _).mono ?_; rintro e w' ⟨rfl, rfl⟩; rw [← HW.out])
  with_reducible refine HM.out.mono ?_
  rintro e w1 ⟨rfl, h1, o1⟩
  have H1 := Lib.hid h1
  clear h1
  go_wp2_with (fail)
  have hm2 := of_any w.heap.size 1 true none 0 0 [] w1 0 H1.out (by omega) (Sh.nil _ _ _) (Off.nil _ _) (fun x hx => by simp at hx) (by omega)
  rw [none_sum] at hm2
  with_reducible refine hm2.mono ?_
  clear hm2
  rintro e w2 ⟨rfl, h2, o2⟩
  have H2 := Lib.hid h2
  have O2 := Lib.hid (o1.trans o2)
  clear h2 o2
  go_wp2_with (fail)
  with_reducible refine (calls_any w.heap.size 2 true w2 H2.out).mono ?_
  rintro e w3 ⟨rfl, rfl⟩
  go_wp2
  go_ret
  exact ⟨rfl, HB1.out.trans (O2.out.below (Nat.le_refl _))⟩
end Go.Proofs.Ytboliolmhijjhaa
