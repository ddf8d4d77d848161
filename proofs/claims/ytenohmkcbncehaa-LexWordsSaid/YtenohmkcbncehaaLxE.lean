/-
  'awake' of layer 6, the document's examples: true.
-/
import Derived.Test.YtenohmkcbncehaaLxS
import Derived.Lib.SmallJoins
namespace Go.Proofs.Ytenohmkcbncehaa
set_option linter.unusedVariables false
set_option linter.unusedSimpArgs false
open Go.RowKit

theorem cell_mark6 (w : World) (C : Array Value) (t : TypeId) (fr : Nat × Nat) (g j : Nat) (hg : g = w.heap.size) : (w.alloc (.cells C t fr)).cell? ⟨g, j, none⟩ = C[j]? := by
  subst hg
  exact World.cell?_alloc_mark w C t fr j
theorem Sh.mark6 (w : World) (xs : List Value) (e : TypeId) (fr : Nat × Nat) : Sh (w.alloc (.cells xs.toArray e fr)) (w.heap.size + 1) (some ⟨w.heap.size, 0, none⟩) xs.length xs :=
  ⟨rfl, fun _ => ⟨w.heap.size, 0, rfl, by omega, fun k u hu => by
    rw [Nat.zero_add, cell_mark6 _ _ _ _ _ _ rfl]
    simpa using hu⟩⟩
def ex1 : List Tk := [(2, 0, 1), (4, 1, 3), (2, 3, 4), (1, 4, 6)]
theorem toks_ex1 : toks [97, 64, 61, 98, 35, 99] 0 = ex1 := by
  rw [toks_at (by decide), show (0 + tl (List.drop 0 [97, 64, 61, 98, 35, 99])) = 1 by decide, toks_at (by decide), show (1 + tl (List.drop 1 [97, 64, 61, 98, 35, 99])) = 3 by decide, toks_at (by decide),
    show (3 + tl (List.drop 3 [97, 64, 61, 98, 35, 99])) = 4 by decide, toks_at (by decide), show (4 + tl (List.drop 4 [97, 64, 61, 98, 35, 99])) = 6 by decide, toks_end (by decide)]
  decide
theorem toks_ex2 : toks [36] 0 = [(5, 0, 1)] := by
  rw [toks_at (by decide), show (0 + tl (List.drop 0 [36])) = 1 by decide, toks_end (by decide)]
  decide
theorem convC {w : World} {B : Nat} (xs : List Int) (n : Nat) (hn : xs.length = n) (hB : B ≤ w.heap.size) : ∃ wl, (convert 22 22 (.slice (some ⟨w.heap.size, 0, none⟩) n n)).run Try.prog (w.alloc (.cells (by8 xs).toArray 5)) = .ok (.slice (some ⟨w.heap.size, 0, none⟩) n n) wl ∧
    Sh wl wl.heap.size (some ⟨w.heap.size, 0, none⟩) n (by8 xs) ∧ Below B w wl := by
  refine ⟨w.alloc (.cells (by8 xs).toArray 5 (n, n + 1)), ?_, ?_, (Below.refl _ _).alloc hB _⟩
  · have h := Joins.run_convert_bytes_const_at (P := Try.prog) w 22 5 (by8 xs).toArray n n w.heap.size rfl Try.underlying22 (by kernel_rfl)
    have hsz : (by8 xs).toArray.size = n := by simp [by8, hn]
    rw [hsz] at h
    exact h
  · have := Sh.mark6 w (by8 xs) 5 (n, n + 1)
    rw [by8_len, hn] at this
    exact this.more (by simp)

set_option maxRecDepth 10000 in
set_option maxHeartbeats 1600000 in
theorem awake_any (w : World) : Calls Try.prog 8 #[] w fun e w' => e = .returned (.bool true) ∧ Below w.heap.size w w' := by
  obtain ⟨wl, hcv, hx, hb⟩ := convC (w := w) (B := w.heap.size) [97, 64, 61, 98, 35, 99] 6 rfl (Nat.le_refl _)
  have hm := lexAll_any _ 6 6 _ wl hx (by omega) (by omega) (by unfold maxLen; omega)
  rw [toks_ex1] at hm
  have HM := Lib.hid hm
  have HB := Lib.hid hb
  simp only [by8, List.map] at hcv
  clear hx hm hb
  go_enter Try.func8, Try.ntmps8
  go_wp2_with (fail)
  with_reducible refine HM.out.mono ?_
  rintro e w1 ⟨v1, rfl, ho1, b1⟩
  obtain ⟨g, cap, rfl, _, hlt⟩ := ho1.1.form (show 0 < ex1.length by decide)
  have hs1 := ho1.tok rfl
  have HS1 := Lib.hid hs1
  have HB1 := Lib.hid (HB.out.trans (b1.mono HB.out.size))
  clear ho1 hs1 b1 hcv HM HB
  obtain ⟨wm, hcv, hx, hb⟩ := convC (w := w1) (B := w1.heap.size) [36] 1 rfl (Nat.le_refl _)
  have hm := lexAll_any _ 1 1 _ wm hx (by omega) (by omega) (by unfold maxLen; omega)
  rw [toks_ex2] at hm
  have HM := Lib.hid hm
  have HB := Lib.hid hb
  simp only [by8, List.map] at hcv
  clear hx hm hb
  have hex : ex1.length = 4 := rfl
  rw [hex]
  go_wp2_with (fail)
  with_reducible refine HM.out.mono ?_
  rintro e w2 ⟨v2, rfl, ho2, b2⟩
  obtain ⟨g2, cap2, rfl, _, hlt2⟩ := ho2.1.form (show 0 < [((5 : Int), (0 : Int), (1 : Int))].length by decide)
  have HS2 : Hid (ShT w2 w2.heap.size (some ⟨g2, 0, none⟩) 1 [((5 : Int), (0 : Int), (1 : Int))]) := Lib.hid (ho2.tok rfl)
  have HB2 := Lib.hid (HB.out.trans (b2.mono HB.out.size))
  clear ho2 b2 hcv HM HB
  go_wp2_with (fail)
  with_reducible refine (bad_any _ _ _ _ w2 HS2.out (by decide)).mono ?_
  rintro e w3 ⟨rfl, b3⟩
  have HB3 := Lib.hid (HB2.out.trans (b3.mono HB2.out.size))
  have hc := (HS1.out.up HB3.out (Nat.le_refl _)).2 (by decide)
  obtain ⟨b', off', e', _, hc⟩ := hc
  cases e'
  have k0 : w3.cell? ⟨g, 0, none⟩ = some (.int .i64 2) := (hc 0 _ rfl).1
  have k1 : w3.cell? ⟨g, 3, none⟩ = some (.int .i64 4) := (hc 1 _ rfl).1
  have k2 : w3.cell? ⟨g, 6, none⟩ = some (.int .i64 2) := (hc 2 _ rfl).1
  have k3 : w3.cell? ⟨g, 9, none⟩ = some (.int .i64 1) := (hc 3 _ rfl).1
  have hbad : badOf [((5 : Int), (0 : Int), (1 : Int))] = (5, 0, 1) ∧ isBad [((5 : Int), (0 : Int), (1 : Int))] = true := by decide
  rw [hbad.1, hbad.2]
  have hg3 : g < w3.heap.size := Nat.lt_of_lt_of_le hlt HB3.out.size
  have HE := Lib.hid (HB1.out.trans (HB3.out.mono HB1.out.size))
  clear hc b3 hbad HS1 HS2
  go_wp2
  go_ret
  exact ⟨rfl, HE.out.alloc HE.out.size _⟩
end Go.Proofs.Ytenohmkcbncehaa
